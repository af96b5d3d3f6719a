import PyProof.Rows.All
import HandS.Call
import HandS.ClsMeth
import HandS.Codes
import HandS.Comp
import HandS.Conv
import HandS.Deep
import HandS.Defaults
import HandS.DictComp
import HandS.DictSub
import HandS.EndOwn
import HandS.EndTab
import HandS.Ends
import HandS.Exc
import HandS.ExcCtx
import HandS.ExcField
import HandS.ExcInit
import HandS.ExcIs
import HandS.ExcValue
import HandS.FStr
import HandS.ForMost
import HandS.Gcd
import HandS.Head0
import HandS.Head1
import HandS.Head2
import HandS.Head3
import HandS.HeadEnd
import HandS.HeadHook1
import HandS.HeadHook2
import HandS.HeadHook3
import HandS.HeadHook4
import HandS.HeadNt
import HandS.HotCalls
import HandS.IsInst
import HandS.Iter
import HandS.Lambda
import HandS.MakeKw
import HandS.MakeKwOnly
import HandS.OwnEq
import HandS.RaiseMore
import HandS.ReplaceDef
import HandS.ReplaceList
import HandS.ReplaceLit
import HandS.SetFor
import HandS.SlotsOwn
import HandS.Small
import HandS.Star
import HandS.StrMore
import HandS.Style
import HandS.Text
import HandS.TupAny
import HandS.Walk
import HandS.Wide
import HandS.Zip
import KE.GoesNew
import KE.IntTextLaws
import KE.KDictPairs
import KE.KDictZip
import KE.KExcInit
import KE.KOpsOwn
import KE.KStateDown
import KE.KTryMore
import OpenK.AllK
import PyProof.CallFns
import PyProof.CallStr
import PyProof.EqAt
import PyProof.EqKinds
import PyProof.FString5
import PyProof.InstNe
import PyProof.MeetsStr3
import PyProof.ReprRoads
import PyProof.Rows.EqMixed
import PyProof.StrHeap
import PyProof.StrReplace2
import PyProof.TupleKey
import Wide.All
import Wide.FinOn
import OpenK.AllK
import Wide.All
import Wide.FinOn
import PySem.Challenge.RW_slackstrings_k17_whole_texts_of_wishes
set_option Elab.async false
set_option linter.all false
set_option maxRecDepth 100000
set_option maxHeartbeats 4000000
/-! Own operators of a class, over the layer. -/
namespace PySem.RkX
open PySem PySem.W
section
variable {prog : Program} {w : World} {A : Around} {E : Value → Shared → Prop} {s : Shared} {K : Frag} {x C L f : Addr} {h₀ : Heap} {m : Str → Option Value} {ox : Obj} {od : Option Obj}

/-- int op instance, int's own slot declines -/
theorem bin_IO {op : Operator} {i : Int} {t : Tok} {id : String} {g0 : Addr} {Q : Value → Shared → Prop} (X : K.In s.heap) (I : InstAt s.heap x ox C od) (hc : selfFirst K C = true)
    (hs : findIn K (.ref C) (PySem.dunder op.info.2) = some (some (.ref g0))) (hr : findIn K (.ref C) (dunderR op.info.2) = some (some (.ref f))) (hf : isFn K (.ref f) = true)
    (hsub : subIn K (.ref C) (.type "int") = some false) (fillsT : fillsNumberSlot (.type "int") op.info.2 = pure true) (slot : Slot "int" (PySem.dunder op.info.2) id)
    (hd : ∀ Q : Value → Shared → Prop, Q .notImplemented s → wpAny (model prog w) A (call (.builtin id) [.int i t, .ref x]) Q E s)
    (h : wpAny (model prog w) A (call (.ref f) [.ref x, .int i t]) (CmpBack Q) E s) : wpAny (model prog w) A (binaryOp op (.int i t) (.ref x)) Q E s := by
  obtain ⟨cd, rest, hcd, hm⟩ := ksp_first hc
  rcases hi : op.info with ⟨sym, nm'⟩
  rw [hi] at hs hr fillsT slot
  dsimp only at hs hr fillsT slot
  have one := ksp_try X I hr hf h
  have two : wpAny (model prog w) A (tryMethod (.int i t) (PySem.dunder nm') (.ref x)) (fun r s' => r = none ∧ s' = s) E s :=
    wpAny_tryMethod_declines (typeIs_int s i t) slot (hd _ ⟨rfl, rfl, rfl⟩)
  obtain ⟨hh, g, d, tt, os⟩ := s
  have L1 : Looks (model prog w) hh (typeOf (.ref x)) (.ref C) := I.type
  have L2 : Looks (model prog w) hh (typeOf (.int i t)) (.type "int") := Looks.of_pure rfl
  have L3 : Looks (model prog w) hh (fillsNumberSlot (.ref C) nm') true := fills_K X hcd hm hs
  have L4 : Looks (model prog w) hh (fillsNumberSlot (.type "int") nm') true := Looks.of_pure fillsT
  have L5 : Looks (model prog w) hh (isSubtype (.ref C) (.type "int")) false := looks_subIn X hsub
  have L7 : Looks (model prog w) hh (numberSlotInPython (.type "int") nm') false := Looks.of_pure rfl
  have hne : (Value.type "int" == Value.ref C) = false := Bool.eq_false_iff.mpr fun q => by cases beq_iff_eq.mp q
  simp only [binaryOp, hi]
  refine wpAny_holding (wpAny_bind ?_)
  unfold binaryOp1
  refine wpAny_bind (L2.at (wpAny_bind (L1.at (wpAny_bind (L4.at ?_)))))
  simp only [hne, Bool.false_eq_true, if_false]
  ksp_lk
  refine wpAny_mono two (fun r s' hr' => ?_) fun _ _ e => e
  obtain ⟨rfl, rfl⟩ := hr'
  ksp_lk
  refine wpAny_mono one (fun r s' hr' => ?_) fun _ _ e => e
  obtain ⟨v, rfl, hq⟩ := hr'
  ksp_lk
  exact hq

/-- int == instance: int's own __eq__ declines, the class's one is asked -/
theorem eq_IO {i : Int} {t : Tok} {Q : Value → Shared → Prop} (hu : A.units < cLine) (X : K.In s.heap) (I : InstAt s.heap x ox C od)
    (hs : findIn K (.ref C) "__eq__" = some (some (.ref f))) (hf : isFn K (.ref f) = true) (hsub : subIn K (.ref C) (.type "int") = some false)
    (hd : ∀ Q : Value → Shared → Prop, Q .notImplemented s → wpAny (model prog w) A (call (.builtin "int.__eq__") [.int i t, .ref x]) Q E s)
    (h : wpAny (model prog w) A (call (.ref f) [.ref x, .int i t]) (CmpBack Q) E s) : wpAny (model prog w) A (richCompare .Eq (.int i t) (.ref x)) Q E s := by
  have one : wpAny (model prog w) A (tryCompare (.ref x) "__eq__" (.int i t)) (fun r s' => ∃ v, r = some v ∧ Q v s') E s := by
    unfold tryCompare
    refine wpAny_bind (ifBound_K X I hs hf (wpAny_mono h (fun v s' hv => ?_) fun _ _ e => e))
    cases v <;> first | exact hv.elim | exact wpAny_pure ⟨_, rfl, hv⟩
  have two : wpAny (model prog w) A (tryCompare (.int i t) "__eq__" (.ref x)) (fun r s' => r = none ∧ s' = s) E s :=
    wpAny_tryCompare_declines (typeIs_int s i t) F.slot_int_eq (hd _ ⟨rfl, rfl, rfl⟩)
  have L2 : Looks (model prog w) s.heap (typeOf (.int i t)) (.type "int") := Looks.of_pure rfl
  have hne0 : (Value.type "int" == Value.ref C) = false := Bool.eq_false_iff.mpr fun q => by cases beq_iff_eq.mp q
  have hne : (Value.type "int" != Value.ref C) = true := by
    rw [bne, hne0]
    rfl
  unfold richCompare
  simp only [(typeIs_int s i t).oneThing_none]
  refine wpAny_holding (wpAny_bind (wpAny_cRoomFor hu ?_))
  rw [show cmpInfo .Eq = ("==", ("__eq__" : Str), ("__eq__" : Str)) from rfl]
  dsimp only
  refine wpAny_bind (L2.here (wpAny_bind (I.type.here ?_)))
  simp only [hne, if_true]
  refine wpAny_bind ((looks_subIn X hsub).here ?_)
  simp only [Bool.false_eq_true, if_false, Bool.not_false, if_true]
  refine wpAny_bind (wpAny_mono two (fun r s' hr' => ?_) fun _ _ e => e)
  obtain ⟨rfl, rfl⟩ := hr'
  refine wpAny_bind (wpAny_mono one (fun r s' hr' => ?_) fun _ _ e => e)
  obtain ⟨v, rfl, hq⟩ := hr'
  exact wpAny_pure hq

/-- int's slots decline an object that holds no int -/
def NoPrim (h : Heap) (x : Addr) : Prop := ∃ o, h.get? x = some o ∧ ∀ i t, o.data ≠ .prim (.int i t)
theorem asInt_ref {Q : Option Int → Shared → Prop} {M : Model} (h : NoPrim s.heap x) (q : Q none s) : wpAny M A (asInt? (.ref x)) Q E s := by
  obtain ⟨o, ho, hn⟩ := h
  unfold asInt?
  refine wpAny_bind (wpAny_load ho ?_)
  split
  · rename_i i t e
    exact absurd e (hn i t)
  · exact wpAny_pure q

/-- instance != instance: object's own __ne__ asks the class's __eq__ -/
theorem ne_entry {y : Addr} {Q : Fin → Shared → Prop} (hu : A.units < cLine) (X : K.In s.heap) (I : InstAt s.heap x ox C od) (hs : findIn K (.ref C) "__eq__" = some (some (.ref f))) (hf : isFn K (.ref f) = true)
    (h : wpAny (model prog w) A (call (.ref f) [.ref x, .ref y]) (fun v s' => ∃ b, v = .bool b ∧ Q (.done (.ret (.bool (!b)))) s') E s) :
    wpAny (model prog w) A (Builtin.«object.__ne__» ⟨[.ref x, .ref y], []⟩) Q E s := by
  have one : wpAny (model prog w) A (callSpecialIfBound? (.ref x) "__eq__" [.ref y]) (fun r s' => ∃ b, r = some (.bool b) ∧ Q (.done (.ret (.bool (!b)))) s') E s :=
    ifBound_K X I hs hf (wpAny_mono h (fun v s' ⟨b, e, q⟩ => ⟨b, by rw [e], q⟩) fun _ _ e => e)
  obtain ⟨hp, g, d, tk, os⟩ := s
  unfold Builtin.«object.__ne__»
  repeat (first
    | with_reducible refine wpAny_cRoomFor hu ?_
    | (refine wpAny_bind (m := callSpecialIfBound? (.ref x) (Str.ofString "__eq__") [.ref y]) (wpAny_mono one (fun r s' hr => by
          obtain ⟨b, rfl, hq⟩ := hr
          repeat (first | exact hq | exact wpAny_pure hq | exact wpAny_truthy_bool hq | (refine wpAny_bind (m := truthy (.bool _)) (wpAny_truthy_bool ?_)) | wp_step)) fun _ _ e => e))
    | wp_step)
theorem ne_check {y : Addr} {Q : Unit → Shared → Prop} {M : Model} (X : K.In s.heap) (I : InstAt s.heap x ox C od) (hob : subIn K (.ref C) (.type "object") = some true) (hq : Q () s) :
    wpAny M A (checkBuiltinCall "object.__ne__" ⟨[.ref x, .ref y], []⟩) Q E s := by
  have ha := F.cmpArgs_ne (.ref x) (.ref y)
  simp only [checkBuiltinCall, F.cmpKind_ne, F.cmpSplit_ne]
  refine wpAny_bind ?_
  unfold isInstance
  refine wpAny_bind (I.type.here ((looks_subIn X hob).here ?_))
  cases hsig : Manifest.signature? "object.__ne__" with
  | none => repeat (first | exact hq | exact wpAny_pure hq | wp_step)
  | some sig =>
    simp only [argsOk, hsig] at ha
    have h2 : Bind.checkArgs "object.__ne__" sig ⟨[.ref x, .ref y], []⟩ = pure () := ha
    repeat (first | exact hq | exact wpAny_pure hq | (rw [h2]; exact wpAny_pure hq) | wp_step)
theorem ne_OO {y : Addr} {Q : Value → Shared → Prop} (hu : A.units + 1 < cLine) (X : K.In s.heap) (I : InstAt s.heap x ox C od) (hy : Looks (model prog w) s.heap (typeOf (.ref y)) (.ref C))
    (hs : findIn K (.ref C) "__eq__" = some (some (.ref f))) (hf : isFn K (.ref f) = true) (hn : findIn K (.ref C) "__ne__" = some (some (.builtin "object.__ne__"))) (hob : subIn K (.ref C) (.type "object") = some true)
    (h : wpAny (model prog w) A.in1 (call (.ref f) [.ref x, .ref y]) (fun v s' => ∃ b, v = .bool b ∧ Q (.bool (!b)) s') E s) : wpAny (model prog w) A (richCompare .NotEq (.ref x) (.ref y)) Q E s := by
  have called : wpAny (model prog w) A (call (.builtin "object.__ne__") [.ref x, .ref y]) (fun v s' => ∃ b, v = .bool b ∧ Q (.bool b) s') E s := by
    refine wpAny_call (codeAny_call_builtin F.cmp_object.ne.plain F.cmpEntry_ne (ne_check X I hob ?_))
    refine ne_entry (A := A.in1) hu X I hs hf (wpAny_mono h (fun v s' hv => ?_) fun _ _ e => e)
    obtain ⟨b, rfl, hq⟩ := hv
    exact ⟨b, rfl, _, rfl, hq⟩
  have bound : wpAny (model prog w) A (callSpecialIfBound? (.ref x) "__ne__" [.ref y]) (fun r s' => ∃ b, r = some (.bool b) ∧ Q (.bool b) s') E s := by
    simp only [callSpecialIfBound?, bindSpecialIfBound?]
    refine wpAny_holding (wpAny_bind (wpAny_bind (wpAny_bind (I.type.here ((looks_findIn X hn).here ?_)))))
    have sb := F.cmp_object.ne.bind
    simp only [sb]
    refine wpAny_bind (wpAny_askSetting (wpAny_ite ?_))
    have fin : wpAny (model prog w) A (call (.builtin "object.__ne__") ([.ref x] ++ [.ref y]) >>= fun v => pure (some v)) (fun r s' => ∃ b, r = some (.bool b) ∧ Q (.bool b) s') E s :=
      wpAny_bind (wpAny_mono called (fun v s' h' => wpAny_pure (by obtain ⟨b, rfl, q⟩ := h'; exact ⟨b, rfl, q⟩)) fun _ _ h' => h')
    split
    · exact wpAny_bind (wpAny_pure (wpAny_pure fin))
    · exact wpAny_tryCatch (wpAny_bind (wpAny_pure (wpAny_pure fin)))
  have one : wpAny (model prog w) A (tryCompare (.ref x) "__ne__" (.ref y)) (fun r s' => ∃ b, r = some (.bool b) ∧ Q (.bool b) s') E s := by
    unfold tryCompare
    refine wpAny_bind (wpAny_mono bound (fun r s' hr => ?_) fun _ _ e => e)
    obtain ⟨b, rfl, q⟩ := hr
    exact wpAny_pure ⟨b, rfl, q⟩
  unfold richCompare
  simp only [oneThing_ref]
  refine wpAny_holding (wpAny_bind (wpAny_cRoomFor (Nat.lt_of_succ_lt hu) ?_))
  rw [cmpInfo_NotEq]
  dsimp only
  refine wpAny_bind (I.type.here (wpAny_bind (hy.here ?_)))
  rw [show (Value.ref C != Value.ref C) = false from by simp]
  simp only [Bool.false_eq_true, if_false]
  refine wpAny_bind (wpAny_pure ?_)
  simp only [Bool.false_eq_true, if_false]
  refine wpAny_bind (wpAny_mono one (fun r s' hr => ?_) fun _ _ e => e)
  obtain ⟨b, rfl, q⟩ := hr
  exact wpAny_pure q
end
section
variable {x : Addr} (a : Int) (t : Tok)
theorem dec_add : GivesAt (fun s => NoPrim s.heap x) (Builtin.«int.__add__» ⟨[.int a t, .ref x], []⟩) (.val .notImplemented) := by
  intro prog w A R s hP h
  obtain ⟨hp, g, d, tk, os⟩ := s
  wp_walk
  obtain ⟨o, ho, hn⟩ := hP
  refine wpAny_load ho ?_
  split
  · rename_i i t e
    exact absurd e (hn i t)
  · wp_walk
    exact h
theorem dec_sub : GivesAt (fun s => NoPrim s.heap x) (Builtin.«int.__sub__» ⟨[.int a t, .ref x], []⟩) (.val .notImplemented) := by
  intro prog w A R s hP h
  obtain ⟨hp, g, d, tk, os⟩ := s
  wp_walk
  obtain ⟨o, ho, hn⟩ := hP
  refine wpAny_load ho ?_
  split
  · rename_i i t e
    exact absurd e (hn i t)
  · wp_walk
    exact h
theorem dec_mul : GivesAt (fun s => NoPrim s.heap x) (Builtin.«int.__mul__» ⟨[.int a t, .ref x], []⟩) (.val .notImplemented) := by
  intro prog w A R s hP h
  obtain ⟨hp, g, d, tk, os⟩ := s
  wp_walk
  obtain ⟨o, ho, hn⟩ := hP
  refine wpAny_load ho ?_
  split
  · rename_i i t e
    exact absurd e (hn i t)
  · wp_walk
    exact h
theorem dec_eq : GivesAt (fun s => NoPrim s.heap x) (Builtin.«int.__eq__» ⟨[.int a t, .ref x], []⟩) (.val .notImplemented) := by
  intro prog w A R s hP h
  obtain ⟨hp, g, d, tk, os⟩ := s
  wp_walk
  obtain ⟨o, ho, hn⟩ := hP
  refine wpAny_load ho ?_
  split
  · rename_i i t e
    exact absurd e (hn i t)
  · wp_walk
    exact h
end
end PySem.RkX

namespace RK
open PySem PySem.Spec PyProof.Rows L2

/-! ### rules for own operators, by values -/
section
variable {X : Cx} {CX : CXT} {n : Nat} {C f g0 : Addr} {fd : FuncData} {ps : List Str} {sp : Sp} {E : XK}
theorem inst_at {pins : List (Addr × Obj)} {σ : L2.St} {H : Hp} {s : Shared} {a dx : Addr} {fs : List (Str × V)} (I : Inv X pins σ H s) (h : H a = some (.ins C dx fs)) : ∃ od, PySem.W.InstAt s.heap a (PySem.W.instObj C dx) C (some od) := by
  obtain ⟨mA, J, _⟩ := ins_get I.hok h
  obtain ⟨od, J, _⟩ := J.look
  exact ⟨od, J⟩
theorem inst_np {h : Heap} {a dx : Addr} {od : Option Obj} (J : PySem.W.InstAt h a (PySem.W.instObj C dx) C od) : PySem.RkX.NoPrim h a := ⟨_, J.at_, fun i t e => nomatch e⟩
/-- a op b, both instances of the class at C -/
def rOwn2 (C : Addr) (sp : Sp) (E : XK) : R2 := fun x y H Q => ∃ a b dx fs dy gs, x = .ref a ∧ y = .ref b ∧ H a = some (.ins C dx fs) ∧ H b = some (.ins C dy gs) ∧ sp [x, y] H Q E
theorem op_own2 {op : Operator} (hc : PySem.W.selfFirst X.K C = true) (hs : PySem.W.findIn X.K (.ref C) (PySem.dunder op.info.2) = some (some (.ref f))) (hf : PySem.W.isFn X.K (.ref f) = true)
    (F : FnOk X.prog X.w X.K X.mg X.base CX n f fd ps sp) (hr : Room n X.A) (hb : Binds X.K fd ps []) (hx : Passes CX X E) : OpR X (binaryOp op) (rOwn2 C sp E) := by
  intro pins s σ H x y v u Q I rx ry h
  obtain ⟨a, b, dx, fs, dy, gs, rfl, rfl, ha, hb', q⟩ := h
  cases (show v = Value.ref a from rx)
  cases (show u = Value.ref b from ry)
  obtain ⟨od, J⟩ := inst_at I ha
  obtain ⟨od', J'⟩ := inst_at I hb'
  obtain ⟨m, hF⟩ := I.fr
  refine PySem.W.binop_K hF I.ok.mod.kin J J'.type hc hs hf ?_
  refine wpAny_mono (run_fn (vs := [V.ref a, V.ref b]) F hr hb .nil hx I (.cons rfl (.cons rfl .nil)) q) (fun w s' z => ?_) fun _ _ x => x
  obtain ⟨z', H', I', rz, qz⟩ := z
  exact SlX.cmpback rz ⟨z', H', I', rz, qz⟩
/-- a op int -/
def rOwnI (C : Addr) (sp : Sp) (E : XK) : R2 := fun x y H Q => ∃ a dx fs i, x = .ref a ∧ y = .int i ∧ H a = some (.ins C dx fs) ∧ sp [x, y] H Q E
theorem op_ownI {op : Operator} {fo ro rc : Option Value} (hc : PySem.W.selfFirst X.K C = true) (hs : PySem.W.findIn X.K (.ref C) (PySem.dunder op.info.2) = some (some (.ref f))) (hf : PySem.W.isFn X.K (.ref f) = true)
    (hr' : PySem.W.findIn X.K (.ref C) (dunderR op.info.2) = some rc) (hp : rc = none ∨ ∃ g : Addr, rc = some (.ref g))
    (h1 : PySem.W.findIn X.K (.type "int") (PySem.dunder op.info.2) = some fo) (h2 : PySem.W.findIn X.K (.type "int") (dunderR op.info.2) = some ro) (hsub : PySem.W.subIn X.K (.type "int") (.ref C) = some false)
    (F : FnOk X.prog X.w X.K X.mg X.base CX n f fd ps sp) (hr : Room n X.A) (hb : Binds X.K fd ps []) (hx : Passes CX X E) : OpR X (binaryOp op) (rOwnI C sp E) := by
  intro pins s σ H x y v u Q I rx ry h
  obtain ⟨a, dx, fs, i, rfl, rfl, ha, q⟩ := h
  cases (show v = Value.ref a from rx)
  obtain ⟨t, rfl⟩ := (show ∃ t, u = Value.int i t from ry)
  obtain ⟨od, J⟩ := inst_at I ha
  obtain ⟨m, hF⟩ := I.fr
  refine PySem.W.ksp_binT hF I.ok.mod.kin J rfl hc hs hf hr' hp h1 h2 hsub ?_
  refine wpAny_mono (run_fn (vs := [V.ref a, V.int i]) F hr hb .nil hx I (.cons rfl (.cons ⟨t, rfl⟩ .nil)) q) (fun w s' z => ?_) fun _ _ x => x
  obtain ⟨z', H', I', rz, qz⟩ := z
  exact SlX.cmpback rz ⟨z', H', I', rz, qz⟩
/-- int op a: by the class's reflected def -/
def rIOwn (C : Addr) (sp : Sp) (E : XK) : R2 := fun x y H Q => ∃ a dx fs i, x = .int i ∧ y = .ref a ∧ H a = some (.ins C dx fs) ∧ sp [y, x] H Q E
theorem op_Iown {op : Operator} {id : String} {B : Builtin} (hc : PySem.W.selfFirst X.K C = true) (hs : PySem.W.findIn X.K (.ref C) (PySem.dunder op.info.2) = some (some (.ref g0)))
    (hr' : PySem.W.findIn X.K (.ref C) (dunderR op.info.2) = some (some (.ref f))) (hf : PySem.W.isFn X.K (.ref f) = true) (hsub : PySem.W.subIn X.K (.ref C) (.type "int") = some false)
    (fillsT : fillsNumberSlot (.type "int") op.info.2 = pure true) (slot : Slot "int" (PySem.dunder op.info.2) id) (entry : entryFor table id = some B) (args : ∀ a b : Value, argsOk id ⟨[a, b], []⟩)
    (dec : ∀ (i : Int) (t : Tok) (x : Addr), GivesAt (fun s => PySem.RkX.NoPrim s.heap x) (B ⟨[.int i t, .ref x], []⟩) (.val .notImplemented))
    (F : FnOk X.prog X.w X.K X.mg X.base CX n f fd ps sp) (hr : Room n X.A) (hb : Binds X.K fd ps []) (hx : Passes CX X E) : OpR X (binaryOp op) (rIOwn C sp E) := by
  intro pins s σ H x y v u Q I rx ry h
  obtain ⟨a, dx, fs, i, rfl, rfl, ha, q⟩ := h
  obtain ⟨t, rfl⟩ := (show ∃ t, v = Value.int i t from rx)
  cases (show u = Value.ref a from ry)
  obtain ⟨od, J⟩ := inst_at I ha
  refine PySem.RkX.bin_IO I.kIn J hc hs hr' hf hsub fillsT slot (fun Q' q' => call_givesAt slot (typeIs_int s i t) entry (args _ _) (dec i t a) (inst_np J) q') ?_
  refine wpAny_mono (run_fn (vs := [V.ref a, V.int i]) F hr hb .nil hx I (.cons rfl (.cons ⟨t, rfl⟩ .nil)) q) (fun w s' z => ?_) fun _ _ x => x
  obtain ⟨z', H', I', rz, qz⟩ := z
  exact SlX.cmpback rz ⟨z', H', I', rz, qz⟩
/-- -a -/
def rNegO (C : Addr) (sp : Sp) (E : XK) : V → Hp → VK → Prop := fun x H Q => ∃ a dx fs, x = .ref a ∧ H a = some (.ins C dx fs) ∧ sp [x] H Q E
theorem un_negO (hs : PySem.W.findIn X.K (.ref C) "__neg__" = some (some (.ref f))) (hf : PySem.W.isFn X.K (.ref f) = true)
    (F : FnOk X.prog X.w X.K X.mg X.base CX n f fd ps sp) (hr : Room n X.A) (hb : Binds X.K fd ps []) (hx : Passes CX X E) : UnR X (unaryOp .USub) (rNegO C sp E) := by
  intro pins s σ H x v Q I rx h
  obtain ⟨a, dx, fs, rfl, ha, q⟩ := h
  cases (show v = Value.ref a from rx)
  obtain ⟨od, J⟩ := inst_at I ha
  obtain ⟨m, hF⟩ := I.fr
  exact PySem.W.ksp_neg hF I.ok.mod.kin J hs hf (run_fn (vs := [V.ref a]) F hr hb .nil hx I (.cons rfl .nil) q)
/-- a == anything of a known type -/
def rEqO (K : PySem.W.Frag) (C : Addr) (sp : Sp) (E : XK) : R2 := fun x y H Q => ∃ a dx fs t, x = .ref a ∧ H a = some (.ins C dx fs) ∧ TyX K H y t ∧ PySem.W.notFirst K C t = true ∧ sp [x, y] H Q E
theorem op_eqO (hs : PySem.W.findIn X.K (.ref C) "__eq__" = some (some (.ref f))) (hf : PySem.W.isFn X.K (.ref f) = true)
    (F : FnOk X.prog X.w X.K X.mg X.base CX n f fd ps sp) (hr : Room n X.A) (hb : Binds X.K fd ps []) (hx : Passes CX X E) : OpR X (compareOp .Eq) (rEqO X.K C sp E) := by
  intro pins s σ H x y v u Q I rx ry h
  obtain ⟨a, dx, fs, t, rfl, ha, ty, hn, q⟩ := h
  cases (show v = Value.ref a from rx)
  obtain ⟨od, J⟩ := inst_at I ha
  obtain ⟨m, hF⟩ := I.fr
  obtain ⟨P, Z, p, _⟩ := kit_of I ry ty
  refine PySem.W.cmp_K (op := .Eq) (tb := t) hr.units0 hF I.ok.mod.kin J (Z.ty _ _ I.kIn p) hn hs hf ?_
  refine wpAny_mono (run_fn (vs := [V.ref a, y]) F hr hb .nil hx I (.cons rfl (.cons ry .nil)) q) (fun w s' z => ?_) fun _ _ x => x
  obtain ⟨z', H', I', rz, qz⟩ := z
  exact SlX.cmpback rz ⟨z', H', I', rz, qz⟩
/-- int == a -/
theorem op_eqIO (hs : PySem.W.findIn X.K (.ref C) "__eq__" = some (some (.ref f))) (hf : PySem.W.isFn X.K (.ref f) = true) (hsub : PySem.W.subIn X.K (.ref C) (.type "int") = some false)
    (F : FnOk X.prog X.w X.K X.mg X.base CX n f fd ps sp) (hr : Room n X.A) (hb : Binds X.K fd ps []) (hx : Passes CX X E) : OpR X (compareOp .Eq) (rIOwn C sp E) := by
  intro pins s σ H x y v u Q I rx ry h
  obtain ⟨a, dx, fs, i, rfl, rfl, ha, q⟩ := h
  obtain ⟨t, rfl⟩ := (show ∃ t, v = Value.int i t from rx)
  cases (show u = Value.ref a from ry)
  obtain ⟨od, J⟩ := inst_at I ha
  refine PySem.RkX.eq_IO hr.units0 I.kIn J hs hf hsub (fun Q' q' => call_givesAt PySem.F.slot_int_eq (typeIs_int s i t) PySem.F.entry_int_eq (PySem.F.args_int_eq_2 _ _) (PySem.RkX.dec_eq i t) (inst_np J) q') ?_
  refine wpAny_mono (run_fn (vs := [V.ref a, V.int i]) F hr hb .nil hx I (.cons rfl (.cons ⟨t, rfl⟩ .nil)) q) (fun w s' z => ?_) fun _ _ x => x
  obtain ⟨z', H', I', rz, qz⟩ := z
  exact SlX.cmpback rz ⟨z', H', I', rz, qz⟩
/-- a != b by the class's own == -/
def rNeO (C : Addr) (sp : Sp) (E : XK) : R2 := fun x y H Q => ∃ a b dx fs dy gs, x = .ref a ∧ y = .ref b ∧ H a = some (.ins C dx fs) ∧ H b = some (.ins C dy gs) ∧ sp [x, y] H (fun v H' => ∃ k, v = .bl k ∧ Q (.bl (!k)) H') E
theorem op_neO (hs : PySem.W.findIn X.K (.ref C) "__eq__" = some (some (.ref f))) (hf : PySem.W.isFn X.K (.ref f) = true) (hn : PySem.W.findIn X.K (.ref C) "__ne__" = some (some (.builtin "object.__ne__"))) (hob : PySem.W.subIn X.K (.ref C) (.type "object") = some true)
    (F : FnOk X.prog X.w X.K X.mg X.base CX n f fd ps sp) (hr : Room (n + 1) X.A) (hb : Binds X.K fd ps []) (hx : Passes CX X E) : OpR X (compareOp .NotEq) (rNeO C sp E) := by
  intro pins s σ H x y v u Q I rx ry h
  obtain ⟨a, b, dx, fs, dy, gs, rfl, rfl, ha, hb', q⟩ := h
  cases (show v = Value.ref a from rx)
  cases (show u = Value.ref b from ry)
  obtain ⟨od, J⟩ := inst_at I ha
  obtain ⟨od', J'⟩ := inst_at I hb'
  have hu : X.A.units + 1 < cLine := Nat.lt_of_le_of_lt (Nat.add_le_add_left (by decide : 1 ≤ 64) _) hr.units
  show wpAny (model X.prog X.w) X.A (richCompare .NotEq (.ref a) (.ref b)) (EP X pins σ Q) X.xe s
  refine PySem.RkX.ne_OO hu I.kIn J J'.type hs hf hn hob ?_
  have hr1 : Room n X.A.in1 := hr.in1
  have r2 : Vals [V.ref a, V.ref b] [Value.ref a, Value.ref b] := .cons rfl (.cons rfl .nil)
  have hl := F.len _ _ _ _ q
  refine wpAny_call (codeAny_mono (F.run X.A.in1 X.stack s H ⟨[.ref a, .ref b], []⟩ [.ref a, .ref b] [.ref a, .ref b] _ E hr1 I.env0.in1 (by
    have := hb s [.ref a, .ref b] I.kIn (by simpa using hl)
    simpa using this) r2 q) fun r s' hq => ?_)
  cases r with
  | error e => exact hx pins σ H s e s' I hq
  | ok fl =>
    cases fl with
    | ret w =>
      obtain ⟨z, H', I', rz, k, ez, qz⟩ := I.after hq
      subst ez
      cases rz
      exact ⟨k, rfl, .bl (!k), H', I', rfl, qz⟩
    | next => exact False.elim hq
    | brk => exact False.elim hq
    | cont => exact False.elim hq
/-- o.m(k = v, ..) -/
def tMethK (C : Addr) (m : Str) (ks : List Str) (sp : Sp) (gV : List V → List V → List V) (E : XK) (ta : TE) (tk : TA) : TE := fun σ H Q => ta σ H fun x H1 => ∃ a dx fs, x = .ref a ∧ H1 a = some (.ins C dx fs) ∧ fs.lookup m = none ∧
  tk σ H1 fun zs H2 => zs.length = ks.length ∧ sp (gV [x] zs) H2 Q E
theorem pe_methK {pl : Sem Bool} {o : Expr} {m : Str} {apos pos : Pos} {kws : List Keyword} {ta : TE} {tk : TA} {ks : List Str} {g : List Value → List Value → List Value} {gV : List V → List V → List V} (he : PE X o ta) (c : Cls X.K C) (hm : Meth X.K C m f)
    (F : FnOk X.prog X.w X.K X.mg X.base CX n f fd ps sp) (hr : Room n X.A) (hb : KBn X.K fd ps 1 ks g gV) (hx : Passes CX X E) (hkw : PK X kws tk)
    (hall : (backToKw pos (keywordEach kws X.env)).all (·.1.isSome) = true := by rfl) (hks : (backToKw pos (keywordEach kws X.env)).filterMap (·.1) = ks := by rfl)
    (hpl : ((backTo pos (starEach [] X.env)).any (·.1) || (backToKw pos (keywordEach kws X.env)).any (·.1.isNone)) = false := by rfl)
    (ht : eval (.Call (.Attribute o m apos) [] kws pos) X.env = (do
      let ov ← eval o X.env
      standAt apos.atName
      let (f, first) ← holding [ov] (getMethod ov m pl)
      callWith pos f first (backTo pos (starEach [] X.env)) (backToKw pos (keywordEach kws X.env))) := by rfl) :
    PE X (.Call (.Attribute o m apos) [] kws pos) (tMethK C m ks sp gV E ta tk) := by
  refine ⟨fun pins s σ H Q I h => ?_⟩
  refine PySem.W.methodCall_KW (pl := pl) (thn (he.run pins s σ H _ I h) fun u s1 ⟨x, H1, I1, rx, a, dx, fs, ex, ea, l, q⟩ => ?_) ht
  subst ex
  obtain rfl : u = Value.ref a := rx
  refine getmeth_ok I1 ea c hm l ?_
  refine PySem.W.callWith_KW0 (first := [.ref a]) (h₀ := X.base) I1.ok.mod.kin hm.kp hall ?_ hpl
  refine thn (hkw.run pos pins s1 σ H1 _ I1 q) fun ws s2 ⟨zs, H2, I2, rz, l2, q2⟩ => ⟨I2.kIn, ?_⟩
  rw [hks]
  exact run_fnN (us := [.ref a]) (vs := [.ref a]) F hr hb hx I2 (.cons rfl .nil) rz rfl l2 q2
/-- // by a divisor of any sign, below 2 ^ 9000 -/
def CDivZ (_ j : Int) : Prop := j ≠ 0 ∧ j.natAbs.log2 < 9000
theorem op_fdivZ : OpR X (binaryOp .FloorDiv) (rI CDivZ fun i j => .int (i.fdiv j)) := opI fun i j _ _ _ _ _ hc q => floordiv_int hc.1 q (.inl (PyProof.noPylong_of_log2 hc.2))
end
end RK

namespace RK
open PySem PySem.Spec PyProof.Rows L2

/-! ### readings, a step at a time -/
section
variable {K : PySem.W.Frag} {D : Ends} {σ : L2.St} {H : Hp} {t u : TS} {te ta tb : TE} {c tt uu : TT} {ag ar : TA} {g : TG} {Q : VK} {v x y : V} {i j : Nat} {E : XK} {sp : Sp} {dvs : List V} {R : Prop}
theorem w_seq (h : t { D with nx := u D } σ H) : tSeq t u D σ H := h
theorem w_asg (h : te σ H fun x H1 => g x σ H1 D.nx) : tAsg te g D σ H := h
theorem w_gn {Q : L2.St → Hp → Prop} (h : Q (σ.set i (some v)) H) : gName i v σ H Q := h
theorem w_if (h : c σ H fun b H1 => if b = true then t D σ H1 else u D σ H1) : tIfS c t u D σ H := h
theorem w_ret (h : te σ H D.rt) : tRet te D σ H := h
theorem w_retN (h : D.rt .non H) : tRetN D σ H := h
theorem w_next (h : D.nx σ H) : tNext D σ H := h
theorem w_drop (h : te σ H fun _ H1 => D.nx σ H1) : tDrop te D σ H := h
theorem w_par (h : ag σ H fun vs H1 => ∃ v w, vs = [v, w] ∧ D.nx ((σ.set i (some v)).set j (some w)) H1) : tPar i j ag D σ H := h
theorem w_two {P : V → V → Prop} {v w : V} (h : P v w) : ∃ a b, ([v, w] : List V) = [a, b] ∧ P a b := ⟨v, w, rfl, h⟩
theorem w_test {Q : Bool → Hp → Prop} (h : te σ H fun x H' => ∃ k, x = .bl k ∧ Q k H') : tTest te σ H Q := h
theorem w_tB {Q : Bool → Hp → Prop} (h : te σ H fun x H' => ∃ k, x = .bl k ∧ Q k H') : tB te σ H Q := h
theorem w_bl {P : Bool → Prop} {b : Bool} (h : P b) : ∃ k, V.bl b = V.bl k ∧ P k := ⟨b, rfl, h⟩
theorem w_not {Q : Bool → Hp → Prop} (h : tt σ H fun c H1 => Q (!c) H1) : tNot tt σ H Q := h
theorem w_and {Q : Bool → Hp → Prop} (h : tt σ H fun c H1 => if c = true then uu σ H1 Q else Q false H1) : tAnd tt uu σ H Q := h
theorem w_or {Q : Bool → Hp → Prop} (h : tt σ H fun c H1 => if c = true then Q true H1 else uu σ H1 Q) : tOr tt uu σ H Q := h
theorem w_var (h : σ[i]? = some (some v)) (q : Q v H) : tVar i σ H Q := ⟨v, h, q⟩
theorem w_c (q : Q v H) : tC v σ H Q := q
theorem w_op {r : R2} (h : ta σ H fun x H1 => tb σ H1 fun y H2 => r x y H2 Q) : tOp r ta tb σ H Q := h
theorem w_un {r : V → Hp → VK → Prop} (h : ta σ H fun x H1 => r x H1 Q) : tUn r ta σ H Q := h
theorem w_I0 {gg : Int → Int → V} {a b : Int} (q : Q (gg a b) H) : rI0 gg (.int a) (.int b) H Q := ⟨a, b, rfl, rfl, q⟩
theorem w_I {C : Int → Int → Prop} {gg : Int → Int → V} {a b : Int} (hc : C a b) (q : Q (gg a b) H) : rI C gg (.int a) (.int b) H Q := ⟨a, b, rfl, rfl, hc, q⟩
theorem w_U {gg : Int → V} {a : Int} (q : Q (gg a) H) : rU gg (.int a) H Q := ⟨a, rfl, q⟩
theorem w_tIf (h : tt σ H fun c H1 => if c = true then ta σ H1 Q else tb σ H1 Q) : tIf tt ta tb σ H Q := h
/-- a cut: what the value and the heap are, then what is done with them -/
theorem w_cut (P : V → Hp → Prop) (h : ∀ Q' : VK, (∀ v H', P v H' → Q' v H') → te σ H Q') (all : ∀ v H', P v H' → Q v H') : te σ H Q := h Q all
/-- an int, the heap as it is -/
theorem w_cutI (P : Int → Prop) (h : ∀ Q' : VK, (∀ z, P z → Q' (.int z) H) → te σ H Q') (all : ∀ z, P z → Q (.int z) H) : te σ H Q := h Q all
theorem w_cutA (P : List V → Hp → Prop) {Q : List V → Hp → Prop} (h : ∀ Q' : List V → Hp → Prop, (∀ v H', P v H' → Q' v H') → ag σ H Q') (all : ∀ v H', P v H' → Q v H') : ag σ H Q := h Q all
theorem s_cut (P : L2.St → Hp → Prop) (h : ∀ N : L2.St → Hp → Prop, (∀ σ' H', P σ' H' → N σ' H') → t { D with nx := N } σ H) (all : ∀ σ' H', P σ' H' → D.nx σ' H') : t D σ H := h D.nx all
theorem w_nil {Q : List V → Hp → Prop} (q : Q [] H) : tNil σ H Q := q
theorem w_cons {Q : List V → Hp → Prop} (h : te σ H fun x H1 => ar σ H1 fun xs H2 => Q (x :: xs) H2) : tCons te ar σ H Q := h
theorem w_andV (h : ta σ H fun x H1 => ∃ c, x = .bl c ∧ if c = true then tb σ H1 Q else Q (.bl false) H1) : tAndV ta tb σ H Q := h
theorem w_orV (h : ta σ H fun x H1 => ∃ c, x = .bl c ∧ if c = true then Q (.bl true) H1 else tb σ H1 Q) : tOrV ta tb σ H Q := h
theorem w_notV (h : ta σ H fun x H1 => ∃ c, x = .bl c ∧ Q (.bl (!c)) H1) : tNotV ta σ H Q := h
theorem w_CB {r : List V → Hp → VK → Prop} (h : ag σ H fun vs H1 => r vs H1 Q) : tCB r ag σ H Q := h
theorem w_call (h : ag σ H fun vs H1 => sp (vs ++ dvs) H1 Q E) : tCall sp dvs E ag σ H Q := h
theorem w_same (H : Hp) : Same H H := fun _ _ h => h
/-- a new object: what stood stands -/
theorem w_new {p : Addr} {o : HO} (h : H p = none) : Same H (upd H p o) := fun b u e => by
  rw [upd_ne (ne_of_none e h)]
  exact e
/-! leaves: a new object -/
def NewT (xs : List V) (H : Hp) (Q : VK) : Prop := xs.length ≤ sizeLine ∧ ∀ p, H p = none → Q (.ref p) (upd H p (.tup xs))
def NewL (xs : List V) (H : Hp) (Q : VK) : Prop := xs.length ≤ sizeLine ∧ ∀ p, H p = none → Q (.ref p) (upd H p (.lst xs))
theorem w_newT {xs : List V} (hl : xs.length ≤ 100000) (h : ∀ p H2, H p = none → Same H H2 → H2 p = some (.tup xs) → Q (.ref p) H2) : NewT xs H Q :=
  ⟨Nat.le_trans hl (by decide), fun p hp => h p _ hp (w_new hp) upd_same⟩
theorem w_newL {xs : List V} (hl : xs.length ≤ 100000) (h : ∀ p H2, H p = none → Same H H2 → H2 p = some (.lst xs) → Q (.ref p) H2) : NewL xs H Q :=
  ⟨Nat.le_trans hl (by decide), fun p hp => h p _ hp (w_new hp) upd_same⟩
theorem w_tup (h : ag σ H fun xs H1 => NewT xs H1 Q) : tTup ag σ H Q := h
theorem w_lst (h : ag σ H fun xs H1 => NewL xs H1 Q) : tLst ag σ H Q := h
def Fl (K : PySem.W.Frag) (f : Str) (x : V) (H : Hp) (Q : VK) : Prop := ∃ a C dx fs v, x = .ref a ∧ H a = some (.ins C dx fs) ∧ Cls K C ∧ NoAttr K C f ∧ fs.lookup f = some v ∧ Q v H
theorem w_fld {f : Str} (h : te σ H fun x H1 => Fl K f x H1 Q) : tFld K te f σ H Q := h
/-- what is asked at a store into a field, at a method's call, at a making -/
def Sf (K : PySem.W.Frag) (f : Str) (y x : V) (H : Hp) (N : Hp → Prop) : Prop := ∃ a C dx fs, x = .ref a ∧ H a = some (.ins C dx fs) ∧ Cls K C ∧ NoAttr K C f ∧ fs.length < 1000 ∧ N (upd H a (.ins C dx (putF f y fs)))
theorem w_sfld {tv : TE} {f : Str} (h : tv σ H fun y H1 => ta σ H1 fun x H2 => Sf K f y x H2 (D.nx σ)) : sFld K ta tv f D σ H := h
def Ml (C : Addr) (m : Str) (x : V) (H : Hp) (R : Prop) : Prop := ∃ a dx fs, x = .ref a ∧ H a = some (.ins C dx fs) ∧ fs.lookup m = none ∧ R
theorem w_meth {C : Addr} {m : Str} (h : te σ H fun x H1 => Ml C m x H1 (ag σ H1 fun vs H2 => sp (x :: (vs ++ dvs)) H2 Q E)) : tMeth C m sp dvs E te ag σ H Q := h
theorem w_methK {C : Addr} {m : Str} {ks : List Str} {gV : List V → List V → List V} (h : te σ H fun x H1 => Ml C m x H1 (ag σ H1 fun zs H2 => zs.length = ks.length ∧ sp (gV [x] zs) H2 Q E)) : tMethK C m ks sp gV E te ag σ H Q := h
def MkL (C : Addr) (sp : Sp) (E : XK) (vs : List V) (H : Hp) (Q : VK) : Prop := ∀ x dx, H x = none → H dx = none → dx ≠ x → sp (.ref x :: vs) (upd (upd H dx (.own x)) x (.ins C dx [])) (fun v H2 => v = .non ∧ Q (.ref x) H2) E
theorem w_make {C : Addr} (h : ag σ H fun vs H1 => MkL C sp E (vs ++ dvs) H1 Q) : tMake C sp dvs E ag σ H Q := h
def MkK (C : Addr) (n m : Nat) (sp : Sp) (gV : List V → List V → List V) (E : XK) (vs zs : List V) (H : Hp) (Q : VK) : Prop := vs.length = n ∧ zs.length = m ∧ ∀ x dx, H x = none → H dx = none → dx ≠ x → sp (gV (.ref x :: vs) zs) (upd (upd H dx (.own x)) x (.ins C dx [])) (fun v H3 => v = .non ∧ Q (.ref x) H3) E
theorem w_makeK {C : Addr} {n m : Nat} {gV : List V → List V → List V} (h : ag σ H fun vs H1 => ar σ H1 fun zs H2 => MkK C n m sp gV E vs zs H2 Q) : tMakeK C n m sp gV E ag ar σ H Q := h
theorem w_BM {T : String} {r : V → List V → Hp → VK → Prop} (h : te σ H fun x H1 => tyV K T x H1 ∧ ag σ H1 fun xs H2 => r x xs H2 Q) : tBM K T r te ag σ H Q := h
theorem w_sl {r : V → Option Int → Option Int → Hp → VK → Prop} {tl th : TO} (h : te σ H fun x H1 => tl σ H1 fun l H2 => th σ H2 fun u H3 => r x l u H3 Q) : tSl r te tl th σ H Q := h
theorem w_po {Q : Option Int → Hp → Prop} (q : Q none H) : tNoPart σ H Q := q
theorem w_pt {Q : Option Int → Hp → Prop} (h : te σ H fun x H1 => ∃ i, x = .int i ∧ Q (some i) H1) : tPart te σ H Q := h
theorem w_in {P : Int → Prop} {i : Int} (h : P i) : ∃ k, V.int i = V.int k ∧ P k := ⟨i, rfl, h⟩
theorem w_yes {Q : Bool → Hp → Prop} (q : Q true H) : tYes σ H Q := q
theorem w_ixL {p : Addr} {xs : List V} {a : Int} (h : H p = some (.lst xs)) (ha : atI xs a = some v) (q : Q v H) : rIxL K (.ref p) (.int a) H Q := ⟨p, xs, a, v, rfl, rfl, SqL.of h, ha, q⟩
theorem w_ixT {p : Addr} {xs : List V} {a : Int} (h : H p = some (.tup xs)) (ha : atI xs a = some v) (q : Q v H) : rIxT K (.ref p) (.int a) H Q := ⟨p, xs, a, v, rfl, rfl, SqT.of h, ha, q⟩
theorem w_sub {to ti : TE} {ts : TSet} {Q : L2.St → Hp → Prop} (h : to σ H fun o H1 => ti σ H1 fun i H2 => ts o i v H2 fun H3 => Q σ H3) : gSub to ti ts v σ H Q := h
theorem w_setL {Q : Hp → Prop} {p : Addr} {xs : List V} {a : Int} {j : Nat} (h : H p = some (.lst xs)) (hj : ixN xs.length a = some j) (q : Q (upd H p (.lst (xs.set j v)))) : rSetL (.ref p) (.int a) v H Q := ⟨p, xs, a, j, rfl, rfl, h, hj, q⟩
theorem w_eq (hs : scal x y = true) (q : Q (.bl (decide (x = y))) H) : rEq x y H Q := ⟨hs, q⟩
theorem w_ne (hs : scal x y = true) (q : Q (.bl (!decide (x = y))) H) : rNe x y H Q := ⟨hs, q⟩
/-! built-ins under names -/
def rInt1 : List V → Hp → VK → Prop := fun xs H Q => (∃ i, xs = [.int i] ∧ Q (.int i) H) ∨ ∃ k, xs = [.bl k] ∧ Q (.int (if k then 1 else 0)) H
theorem cr_int1 {X : Cx} : CallR X (.type "int") rInt1 := call_int1
theorem w_int {a : Int} (q : Q (.int a) H) : rInt1 [.int a] H Q := .inl ⟨a, rfl, q⟩
theorem w_intB {b : Bool} (q : Q (.int (if b then 1 else 0)) H) : rInt1 [.bl b] H Q := .inr ⟨b, rfl, q⟩
def rAbs1 : List V → Hp → VK → Prop := fun xs H Q => ∃ i, xs = [.int i] ∧ Q (.int (if i < 0 then -i else i)) H
theorem cr_abs {X : Cx} : CallR X (.builtin "abs") rAbs1 := call_abs
theorem w_abs {a : Int} (q : Q (.int (if a < 0 then -a else a)) H) : rAbs1 [.int a] H Q := ⟨a, rfl, q⟩
def rMax2 : List V → Hp → VK → Prop := fun xs H Q => ∃ i j, xs = [.int i, .int j] ∧ Q (.int (if j > i then j else i)) H
theorem cr_max2 {X : Cx} (hc : X.calm = true) : CallR X (.builtin "max") rMax2 := call_max2 hc
theorem w_max {a b : Int} (q : Q (.int (if b > a then b else a)) H) : rMax2 [.int a, .int b] H Q := ⟨a, b, rfl, q⟩
def rMin2 : List V → Hp → VK → Prop := fun xs H Q => ∃ i j, xs = [.int i, .int j] ∧ Q (.int (if j < i then j else i)) H
theorem cr_min2 {X : Cx} (hc : X.calm = true) : CallR X (.builtin "min") rMin2 := call_min2 hc
theorem w_min {a b : Int} (q : Q (.int (if b < a then b else a)) H) : rMin2 [.int a, .int b] H Q := ⟨a, b, rfl, q⟩
def rLen (K : PySem.W.Frag) : List V → Hp → VK → Prop := fun xs H Q => ∃ x n, xs = [x] ∧ LenV K x H n ∧ Q (.int n) H
theorem cr_len {X : Cx} : CallR X (.builtin "len") (rLen X.K) := call_len
theorem w_lenL {p : Addr} {xs : List V} (h : SqL K H p xs) (q : Q (.int xs.length) H) : rLen K [.ref p] H Q := ⟨_, _, rfl, .inl ⟨xs, h, rfl⟩, q⟩
theorem w_lenT {p : Addr} {xs : List V} (h : SqT K H p xs) (q : Q (.int xs.length) H) : rLen K [.ref p] H Q := ⟨_, _, rfl, .inr ⟨xs, h, rfl⟩, q⟩
theorem w_gcd {a b : Int} (q : Q (.int ((Nat.gcd a.natAbs b.natAbs : Nat) : Int)) H) : rGcd [.int a, .int b] H Q := ⟨a, b, rfl, q⟩
/-! tests -/
theorem w_ite {b : Bool} {A B : Prop} (h1 : b = true → A) (h2 : b = false → B) : if b = true then A else B := by
  cases b with
  | true => rw [if_pos rfl]; exact h1 rfl
  | false => rw [if_neg Bool.false_ne_true]; exact h2 rfl
theorem w_iteD {p A B : Prop} [Decidable p] (h1 : p → A) (h2 : ¬ p → B) : if decide p = true then A else B :=
  w_ite (fun e => h1 (of_decide_eq_true e)) fun e => h2 (of_decide_eq_false e)
theorem w_iteN {p A B : Prop} [Decidable p] (h1 : ¬ p → A) (h2 : p → B) : if (!decide p) = true then A else B :=
  w_ite (fun e => h1 (of_decide_eq_false (by simpa using e))) fun e => h2 (of_decide_eq_true (by simpa using e))
end
/-! ### sizes -/
def Sz (k : Nat) (x : Int) : Prop := x.natAbs < 2 ^ k
theorem Sz.mono {k j : Nat} {x : Int} (h : Sz k x) (hk : k ≤ j) : Sz j x := Nat.lt_of_lt_of_le h (Nat.pow_le_pow_right (by decide) hk)
theorem Sz.mul {k j : Nat} {x y : Int} (h : Sz k x) (h' : Sz j y) : Sz (k + j) (x * y) := wide_lt h h'
theorem Sz.neg {k : Nat} {x : Int} (h : Sz k x) : Sz k (-x) := by unfold Sz; rw [Int.natAbs_neg]; exact h
theorem Sz.ok {k j : Nat} {x y : Int} (h : Sz k x) (h' : Sz j y) (hk : k + j ≤ 900000 := by decide) : CMulW x y := wide_mul (h.mono (Nat.le_succ k)) (h'.mono (Nat.le_succ j)) (Nat.succ_pos _) (Nat.succ_pos _) (by omega)
theorem Sz.of {k : Nat} {x : Int} (h : x.natAbs < 2 ^ k) : Sz k x := h
theorem Sz.small {k : Nat} {x : Int} (h : x.natAbs < 1048576) (hk : 20 ≤ k := by decide) : Sz k x := Sz.mono (k := 20) h hk
theorem Sz.one {k : Nat} (h : 1 ≤ k := by decide) : Sz k 1 := Sz.mono (k := 1) (by show (1 : Int).natAbs < 2 ^ 1; decide) h
theorem Sz.div {k : Nat} {i j : Int} (h : 0 < j) (hz : Sz k j) (hk : k ≤ 8000 := by decide) : CDivW i j := wide_div h (hz.mono (Nat.le_succ k)) (Nat.succ_pos _) (by omega)
theorem Sz.le {k : Nat} {x y : Int} (h : Sz k y) (hx : x.natAbs ≤ y.natAbs) : Sz k x := Nat.lt_of_le_of_lt hx h
theorem Sz.add {k : Nat} {x y : Int} (h : Sz k x) (h' : Sz k y) : Sz (k + 1) (x + y) := by
  unfold Sz at *
  have : (x + y).natAbs ≤ x.natAbs + y.natAbs := Int.natAbs_add_le x y
  rw [Nat.pow_succ]
  omega
theorem Sz.sub {k : Nat} {x y : Int} (h : Sz k x) (h' : Sz k y) : Sz (k + 1) (x - y) := by
  rw [Int.sub_eq_add_neg]
  exact h.add h'.neg
/-! ### what is kept -/
theorem Same.at {H H' : Hp} {a : Addr} {o : HO} (e : Same H H') (h : H a = some o) : H' a = some o := e a o h
/-- a law's bag of numbers -/
def Bag (H : Hp) (b : Addr) : Prop := ∃ f s n : Int, H b = some (.lst [.int f, .int s, .int n])
/-- all is kept but the bag's numbers -/
structure Kp (b : Addr) (H H' : Hp) : Prop where
  bag : Bag H b
  bag' : Bag H' b
  keep : ∀ c o, c ≠ b → H c = some o → H' c = some o
theorem Bag.same {H H' : Hp} {b : Addr} (h : Bag H b) (e : Same H H') : Bag H' b := let ⟨f, s, n, h⟩ := h; ⟨f, s, n, e _ _ h⟩
theorem Kp.of {H H' : Hp} {b : Addr} (h : Bag H b) (e : Same H H') : Kp b H H' := ⟨h, h.same e, fun c o _ q => e c o q⟩
theorem Kp.refl {H : Hp} {b : Addr} (h : Bag H b) : Kp b H H := .of h (w_same H)
theorem Kp.trans {H H1 H2 : Hp} {b : Addr} (a : Kp b H H1) (c : Kp b H1 H2) : Kp b H H2 := ⟨a.bag, c.bag', fun x o n q => c.keep x o n (a.keep x o n q)⟩
theorem Kp.same {H H1 H2 : Hp} {b : Addr} (a : Kp b H H1) (c : Same H1 H2) : Kp b H H2 := a.trans (.of a.bag' c)
theorem Kp.tup {H H' : Hp} {b a : Addr} {xs : List V} (k : Kp b H H') (h : H a = some (.tup xs)) : H' a = some (.tup xs) := by
  obtain ⟨f, s, n, hb⟩ := k.bag
  exact k.keep a _ (ne_of h hb (by intro z; cases z)) h
theorem Kp.ins {H H' : Hp} {b a C dx : Addr} {fs : List (Str × V)} (k : Kp b H H') (h : H a = some (.ins C dx fs)) : H' a = some (.ins C dx fs) := by
  obtain ⟨f, s, n, hb⟩ := k.bag
  exact k.keep a _ (ne_of h hb (by intro z; cases z)) h
theorem Kp.free {H H' : Hp} {b p : Addr} (k : Kp b H H') (h : H' p = none) : H p = none := by
  cases q : H p with
  | none => rfl
  | some o =>
    by_cases e : p = b
    · obtain ⟨f, s, n, hb⟩ := k.bag'
      rw [e, hb] at h
      cases h
    · rw [k.keep p o e q] at h
      cases h
theorem Kp.seq {K : PySem.W.Frag} {H H' : Hp} {b a : Addr} {xs : List V} (k : Kp b H H') (hne : a ≠ b) (h : SqL K H a xs) : SqL K H' a xs := by
  rcases h with (h | ⟨o, h⟩) | h
  · exact .inl (.inl (k.keep _ _ hne h))
  · exact .inl (.inr ⟨o, k.keep _ _ hne h⟩)
  · exact .inr h
/-! ### comprehensions -/
section
variable {K : PySem.W.Frag} {σ : L2.St} {H : Hp} {Q : VK} {tl te : TE} {g : TG} {tt : TT} {vs : List Nat} {tb : TS} {D : Ends} {j : Nat}
/-- the comprehension, the loop, when the list is there -/
def LcS (K : PySem.W.Frag) (g : TG) (tt : TT) (te : TE) (vs : List Nat) (σ : L2.St) (x : V) (H : Hp) (Q : VK) : Prop := tLc (iList K (tC x)) g tt te vs σ H Q
def ForS (K : PySem.W.Frag) (g : TG) (tb : TS) (D : Ends) (σ : L2.St) (x : V) (H : Hp) : Prop := tFor (iList K (tC x)) g tb D σ H
theorem w_lcL (h : tl σ H fun x H1 => LcS K g tt te vs σ x H1 Q) : tLc (iList K tl) g tt te vs σ H Q := h
theorem w_forL (h : tl σ H fun x H1 => ForS K g tb D σ x H1) : tFor (iList K tl) g tb D σ H := h
/-- what is no list stands as it stood -/
def SameT (H H' : Hp) : Prop := ∀ c o, H c = some o → (∀ xs, o ≠ .lst xs) → H' c = some o
theorem SameT.of {H H' : Hp} (e : Same H H') : SameT H H' := fun c o h _ => e c o h
theorem SameT.upd {H : Hp} {p : Addr} {xs : List V} {o : HO} (h : H p = some (.lst xs)) : SameT H (upd H p o) := fun c u e n => by
  have hc : c ≠ p := fun z => by rw [z, h] at e; cases e; exact n xs rfl
  rw [upd_ne hc]
  exact e
theorem SameT.tup {H H' : Hp} {p : Addr} {xs : List V} (e : SameT H H') (h : H p = some (.tup xs)) : H' p = some (.tup xs) := e p _ h fun _ z => nomatch z
theorem SameT.ins {H H' : Hp} {p C dx : Addr} {fs : List (Str × V)} (e : SameT H H') (h : H p = some (.ins C dx fs)) : H' p = some (.ins C dx fs) := e p _ h fun _ z => nomatch z
/-- a list grows by one -/
structure Grown (l : Addr) (xs : List V) (H H' : Hp) : Prop where
  at_ : H' l = some (.lst xs)
  keep : ∀ c o, c ≠ l → H c = some o → H' c = some o
  same : SameT H H'
theorem w_app {l : Addr} {xs : List V} {y : V} (h : H l = some (.lst xs)) (hl : xs.length ≤ 1000) (k : ∀ H', Grown l (xs ++ [y]) H H' → Q .non H') : rAppend (.ref l) [y] H Q :=
  ⟨l, xs, y, rfl, rfl, h, Nat.lt_of_le_of_lt hl (by decide), k _ ⟨upd_same, fun c o hc e => by rw [upd_ne hc]; exact e, SameT.upd h⟩⟩
theorem Same.updL {H H' : Hp} {p : Addr} {o : HO} (e : Same H H') (h : H p = none) : Same H (upd H' p o) := fun c u q => by
  rw [upd_ne (ne_of_none q h)]
  exact e c u q
/-- [f(x) for x in a list]: each element leaves what stood, and gives what P says -/
theorem lc_each {l : Addr} {xs : List V} (P : Nat → V → Hp → Prop) (mono : ∀ i v H H', SameT H H' → P i v H → P i v H') (hl : H l = some (.lst xs)) (hlen : xs.length ≤ 1000)
    (hw : ∀ x, wipe ((wipe σ vs).set j (some x)) vs = wipe σ vs)
    (he : ∀ i x H', xs[i]? = some x → Same H H' → ∀ Q' : VK, (∀ v H'', Same H' H'' → P i v H'' → Q' v H'') → te ((wipe σ vs).set j (some x)) H' Q')
    (k : ∀ D ys H', H D = none → Same H H' → H' D = some (.lst ys) → ys.length = xs.length → (∀ i v, ys[i]? = some v → P i v H') → Q (.ref D) H') : LcS K (gName j) tYes te vs σ (.ref l) H Q := by
  refine ⟨l, rfl, ⟨_, SqL.of hl⟩, fun Dl hD => ?_⟩
  refine lc_list (K := K) (a := l) (xs := xs) (fun i H' => ∃ acc, H' Dl = some (.lst acc) ∧ acc.length = i ∧ Same H H' ∧ ∀ m v, acc[m]? = some v → P m v H') ⟨[], upd_same, rfl, w_new hD, fun m v e => by simp at e⟩
    (fun i H' _ ⟨acc, _, _, e, _⟩ => SqL.of (e _ _ hl)) ?_ ?_
  · rintro i x H' hx ⟨acc, h1, h2, e, hp⟩
    refine ⟨hw x, ?_⟩
    refine w_yes ?_
    rw [if_pos rfl]
    refine he i x H' hx e _ fun v H2 e2 pv => ?_
    have hi : i < xs.length := (List.getElem?_eq_some_iff.mp hx).1
    have h3 : H2 Dl = some (.lst acc) := e2 _ _ h1
    refine ⟨acc, h3, Nat.lt_of_lt_of_le (show acc.length < 1001 by omega) (by decide), acc ++ [v], upd_same, by rw [List.length_append, h2]; rfl, RK.Same.updL (e.trans e2) hD, fun m u hu => ?_⟩
    by_cases hm : m < acc.length
    · rw [List.getElem?_append_left hm] at hu
      exact mono m u H2 _ (SameT.upd h3) (mono m u H' H2 (.of e2) (hp m u hu))
    · rw [List.getElem?_append_right (by omega)] at hu
      have em : m = acc.length := by
        have := (List.getElem?_eq_some_iff.mp hu).1
        simp at this
        omega
      subst em
      simp at hu
      subst hu
      exact mono _ _ H2 _ (SameT.upd h3) (by rw [h2]; exact pv)
  · rintro H' ⟨acc, h1, h2, e, hp⟩
    exact k Dl acc H' hD e h1 h2 hp
/-- [f(i) for i in range(n)] -/
theorem lc_rng {lo : Int} {n : Nat} {W : TI} (P : Nat → V → Hp → Prop) (mono : ∀ i v H H', SameT H H' → P i v H → P i v H') (hn : n ≤ 1000) (hwi : ∀ R : It → Hp → Prop, R (Itr lo n) H → W σ H R)
    (hw : ∀ x, wipe ((wipe σ vs).set j (some x)) vs = wipe σ vs)
    (he : ∀ i H', i < n → Same H H' → ∀ Q' : VK, (∀ v H'', Same H' H'' → P i v H'' → Q' v H'') → te ((wipe σ vs).set j (some (.int (lo + i)))) H' Q')
    (k : ∀ D ys H', H D = none → Same H H' → H' D = some (.lst ys) → ys.length = n → (∀ i v, ys[i]? = some v → P i v H') → Q (.ref D) H') : tLc W (gName j) tYes te vs σ H Q := by
  refine hwi _ fun Dl hD => ?_
  refine lc_range (lo := lo) (n := n) (fun i H' => ∃ acc, H' Dl = some (.lst acc) ∧ acc.length = i ∧ Same H H' ∧ ∀ m v, acc[m]? = some v → P m v H') ⟨[], upd_same, rfl, w_new hD, fun m v e => by simp at e⟩ ?_ ?_
  · rintro i H' hi ⟨acc, h1, h2, e, hp⟩
    refine ⟨hw _, ?_⟩
    refine w_yes ?_
    rw [if_pos rfl]
    refine he i H' hi e _ fun v H2 e2 pv => ?_
    have h3 : H2 Dl = some (.lst acc) := e2 _ _ h1
    refine ⟨acc, h3, Nat.lt_of_lt_of_le (show acc.length < 1001 by omega) (by decide), acc ++ [v], upd_same, by rw [List.length_append, h2]; rfl, RK.Same.updL (e.trans e2) hD, fun m u hu => ?_⟩
    by_cases hm : m < acc.length
    · rw [List.getElem?_append_left hm] at hu
      exact mono m u H2 _ (SameT.upd h3) (mono m u H' H2 (.of e2) (hp m u hu))
    · rw [List.getElem?_append_right (by omega)] at hu
      have em : m = acc.length := by
        have := (List.getElem?_eq_some_iff.mp hu).1
        simp at this
        omega
      subst em
      simp at hu
      subst hu
      exact mono _ _ H2 _ (SameT.upd h3) (by rw [h2]; exact pv)
  · rintro H' ⟨acc, h1, h2, e, hp⟩
    exact k Dl acc H' hD e h1 h2 hp
end
end RK

/-! lowest terms, plain -/
namespace RK
/-- x, y are u, l in lowest terms (l not 0), y above 0 -/
structure Nrm (u l x y : Int) : Prop where
  pos : 0 < y
  cop : Int.gcd x y = 1
  eq : x * l = u * y
theorem dvd_of_cop {x y z : Int} (c : Int.gcd x y = 1) (h : y ∣ x * z) : y ∣ z := by
  have h' : y.natAbs ∣ x.natAbs * z.natAbs := by rw [← Int.natAbs_mul]; exact Int.natAbs_dvd_natAbs.mpr h
  exact Int.natAbs_dvd_natAbs.mp (Nat.Coprime.dvd_of_dvd_mul_left (show Nat.Coprime y.natAbs x.natAbs from by rw [Nat.coprime_comm]; exact c) h')
theorem nrm_uniq0 {x y x' y' : Int} (h1 : 0 < y) (h2 : 0 < y') (c1 : Int.gcd x y = 1) (c2 : Int.gcd x' y' = 1) (e : x * y' = x' * y) : x = x' ∧ y = y' := by
  have d1 : y ∣ y' := by
    have : y ∣ x * y' := ⟨x', by rw [e, Int.mul_comm]⟩
    exact dvd_of_cop c1 this
  have d2 : y' ∣ y := by
    have : y' ∣ x' * y := ⟨x, by rw [← e, Int.mul_comm]⟩
    exact dvd_of_cop c2 this
  have ey : y = y' := Int.le_antisymm (Int.le_of_dvd h2 d1) (Int.le_of_dvd h1 d2)
  subst ey
  exact ⟨Int.eq_of_mul_eq_mul_right (by omega) e, rfl⟩
theorem Nrm.uniq {u l u' l' x y x' y' : Int} (a : Nrm u l x y) (b : Nrm u' l' x' y') (hl : l ≠ 0) (hl' : l' ≠ 0) (e : u * l' = u' * l) : x = x' ∧ y = y' := by
  refine nrm_uniq0 a.pos b.pos a.cop b.cop ?_
  have h1 := a.eq
  have h2 := b.eq
  have k : l * l' * (x * y') = l * l' * (x' * y) := by grind
  exact Int.eq_of_mul_eq_mul_left (Int.mul_ne_zero hl hl') k
/-- dividing by the greatest common divisor -/
theorem nrm_div {u l : Int} (hl : 0 < l) : Nrm u l (u / (Int.gcd u l : Int)) (l / (Int.gcd u l : Int)) := by
  have g0 : 0 < Int.gcd u l := Int.gcd_pos_of_ne_zero_right u (by omega)
  have d1 : ((Int.gcd u l : Nat) : Int) ∣ u := Int.gcd_dvd_left ..
  have d2 : ((Int.gcd u l : Nat) : Int) ∣ l := Int.gcd_dvd_right ..
  generalize hg : ((Int.gcd u l : Nat) : Int) = g at *
  have gp : 0 < g := by omega
  obtain ⟨a, ha⟩ := d1
  obtain ⟨b, hb⟩ := d2
  have ea : u / g = a := by rw [ha]; exact Int.mul_ediv_cancel_left a (by omega)
  have eb : l / g = b := by rw [hb]; exact Int.mul_ediv_cancel_left b (by omega)
  refine ⟨?_, ?_, ?_⟩
  · rw [eb]
    have : 0 < b * g := by rw [Int.mul_comm]; omega
    exact Int.pos_of_mul_pos_left this gp
  · have := Int.gcd_ediv_gcd_ediv_gcd (i := u) (j := l) g0
    rw [hg] at this
    exact this
  · rw [ea, eb, ha, hb]
    grind
theorem nrm_low {u l d : Int} (hl : l ≠ 0) (hd : d = if 0 < l then (Int.gcd u l : Int) else 0 - (Int.gcd u l : Int)) : Nrm u l (u.fdiv d) (l.fdiv d) ∧ d ≠ 0 := by
  have g0 : 0 < Int.gcd u l := Int.gcd_pos_of_ne_zero_right u hl
  have d1 : ((Int.gcd u l : Nat) : Int) ∣ u := Int.gcd_dvd_left ..
  have d2 : ((Int.gcd u l : Nat) : Int) ∣ l := Int.gcd_dvd_right ..
  have hc := Int.gcd_ediv_gcd_ediv_gcd (i := u) (j := l) g0
  generalize hg : ((Int.gcd u l : Nat) : Int) = g at *
  have gp : 0 < g := by omega
  obtain ⟨x, hx⟩ := d1
  obtain ⟨y, hy⟩ := d2
  rw [hx, hy, Int.mul_ediv_cancel_left x (by omega), Int.mul_ediv_cancel_left y (by omega)] at hc
  by_cases h : 0 < l
  · rw [if_pos h] at hd
    rw [hd]
    have ex : u.fdiv g = x := by rw [hx]; exact Int.mul_fdiv_cancel_left x (by omega)
    have ey : l.fdiv g = y := by rw [hy]; exact Int.mul_fdiv_cancel_left y (by omega)
    refine ⟨⟨?_, ?_, ?_⟩, by omega⟩
    · rw [ey]
      exact Int.pos_of_mul_pos_left (show 0 < y * g by rw [Int.mul_comm]; omega) gp
    · rw [ex, ey]
      exact hc
    · rw [ex, ey, hx, hy]
      grind
  · rw [if_neg h] at hd
    have ed : d = -g := by omega
    subst ed
    have ex : u.fdiv (-g) = -x := by rw [hx, show g * x = (-g) * (-x) by grind]; exact Int.mul_fdiv_cancel_left _ (by omega)
    have ey : l.fdiv (-g) = -y := by rw [hy, show g * y = (-g) * (-y) by grind]; exact Int.mul_fdiv_cancel_left _ (by omega)
    refine ⟨⟨?_, ?_, ?_⟩, by omega⟩
    · rw [ey]
      exact Int.pos_of_mul_pos_left (show 0 < -y * g by grind) gp
    · rw [ex, ey]
      show Nat.gcd (-x).natAbs (-y).natAbs = 1
      rw [Int.natAbs_neg, Int.natAbs_neg]
      exact hc
    · rw [ex, ey, hx, hy]
      grind
theorem Nrm.dvd {u l x y : Int} (n : Nrm u l x y) : y ∣ l ∧ x ∣ u := by
  have c := n.cop
  refine ⟨dvd_of_cop c ⟨u, by rw [n.eq, Int.mul_comm]⟩, ?_⟩
  refine dvd_of_cop (x := y) (by rw [Int.gcd_comm]; exact c) ⟨l, by rw [n.eq, Int.mul_comm]⟩
theorem Nrm.le {u l x y : Int} (n : Nrm u l x y) (hl : l ≠ 0) : y.natAbs ≤ l.natAbs ∧ x.natAbs ≤ u.natAbs := by
  obtain ⟨d1, d2⟩ := n.dvd
  refine ⟨Nat.le_of_dvd (by omega) (Int.natAbs_dvd_natAbs.mpr d1), ?_⟩
  by_cases h : u = 0
  · have e := n.eq
    rw [h, Int.zero_mul] at e
    rcases Int.mul_eq_zero.mp e with z | z
    · rw [z]
      exact Nat.zero_le _
    · exact absurd z hl
  · exact Nat.le_of_dvd (by omega) (Int.natAbs_dvd_natAbs.mpr d2)
theorem cmp_same {A B X Y M N : Int} (hM : 0 < M) (hN : 0 < N) (h1 : A * M = X * N) (h2 : B * M = Y * N) : (A = B ↔ X = Y) ∧ (A < B ↔ X < Y) := by
  refine ⟨⟨fun e => ?_, fun e => ?_⟩, ⟨fun e => ?_, fun e => ?_⟩⟩
  · exact Int.eq_of_mul_eq_mul_right (show N ≠ 0 by omega) (by rw [← h1, ← h2, e])
  · exact Int.eq_of_mul_eq_mul_right (show M ≠ 0 by omega) (by rw [h1, h2, e])
  · exact Int.lt_of_mul_lt_mul_right (by rw [← h1, ← h2]; exact Int.mul_lt_mul_of_pos_right e hM) (show 0 ≤ N by omega)
  · exact Int.lt_of_mul_lt_mul_right (by rw [h1, h2]; exact Int.mul_lt_mul_of_pos_right e hN) (show 0 ≤ M by omega)
theorem gcd_step {x y : Int} (h : 0 ≤ x) (_ : 0 < y) : Int.gcd y (x % y) = Int.gcd x y := by
  show Nat.gcd y.natAbs (x % y).natAbs = Nat.gcd x.natAbs y.natAbs
  rw [Nat.gcd_comm x.natAbs, Nat.gcd_rec y.natAbs x.natAbs, Nat.gcd_comm, Int.natAbs_emod_of_nonneg h]
theorem gcd_abs (u l : Int) : Int.gcd (if u < 0 then -u else u) (if l < 0 then -l else l) = Int.gcd u l := by
  have e : ∀ z : Int, (if z < 0 then -z else z).natAbs = z.natAbs := fun z => by split <;> omega
  show Nat.gcd _ _ = Nat.gcd _ _
  rw [e, e]
end RK

/-! try .. except (A, B, C) as e; a caught exception handed to a def -/
namespace RK
open PySem PySem.Spec PyProof.Rows L2
/-- three classes, one behind the other -/
def exm3 (K : PySem.W.Frag) (cls c1 c2 c3 : Value) : Option Bool := PySem.W.exmAny K cls [c1, c2, c3]
/-- what the clause wishes of an exception of the body: slot i is the name's -/
def wAs3 (K : PySem.W.Frag) (c1 c2 c3 : Value) (nl i : Nat) (ts : Addr → Obj → Value → Option Addr → TS) (Wout : WX) (D : Ends) : WX := fun cls d σ H =>
  ∃ b, exm3 K cls c1 c2 c3 = some b ∧
    (b = true → ∀ a oe, σ.length = nl → H a = none → Zc cls d oe → (∃ vs, oe.data = .fields vs) → ts a oe cls d { nx := fun σ' H' => D.nx (σ'.set i none) H', rt := D.rt, bk := fun σ' H' => D.bk (σ'.set i none) H', ct := fun σ' H' => D.ct (σ'.set i none) H' } (σ.set i (some (.ref a))) H) ∧
    (b = false → Wout cls d σ H)
theorem flying_push {B h : Heap} {l : List Env} {a : Addr} {Z : Obj → Prop} {o : Obj} (f : HandSPX.FlyingZ B l a Z h) : HandSPX.FlyingZ B l a Z (h.push o) := by
  obtain ⟨st, no, ff, oe, vs, T, oT, tz, g1, g2, g3, g4, g5, g6, g7, g8, g9⟩ := f
  have up : ∀ b u, h.get? b = some u → (h.push o).get? b = some u := fun b u e => Heap.get?_push_of_some _ e
  exact ⟨fun b u e => up b u (st b u e), no, ff.of_keeps fun b u e _ => ⟨u, up b u e, rfl⟩, oe, vs, T, oT, tz, up _ _ g1, g2, g3, g4, g5, g6, up _ _ g7, g8, g9⟩
section
variable {X : Cx} {x1 x2 x3 n : Str} {c1 c2 c3 : Value} {i k : Nat} {body rest : List Stmt} {b0 : Stmt} {q1 q2 q3 qt pos pos' : Pos} {tb : WX → TS} {ts : Addr → Obj → Value → Option Addr → TS} {Wout : WX}
theorem ps_try_as3 (hstk : X.stack = X.env :: X.outer) (hfrm : X.env.frame = some X.env.locals) (nd : X.N.Nodup) (hi : X.N[i]? = some n) (hloc : X.env.kindOf n = some .local)
    (C1 : Gl X x1 ∧ X.mg x1 = some c1) (C2 : Gl X x2 ∧ X.mg x2 = some c2) (C3 : Gl X x3 ∧ X.mg x3 = some c3) (tk : Takes X Wout)
    (hb : ∀ (W : WX) (pn : List (Addr × Obj)) (xe : Value → Shared → Prop), Takes (X.tr pn xe) W → PassesOwn (model X.prog X.w) X.A X.env xe → PSs (X.tr pn xe) body (tb W))
    (hsu : ∀ (a : Addr) (oe : Obj) (cls : Value) (d : Option Addr) (pn : List (Addr × Obj)), X.base.get? a = none → Zc cls d oe → (∃ vs, oe.data = .fields vs) → PSs (X.suite a ((a, oe) :: pn)) (b0 :: rest) (ts a oe cls d))
    (d1 : (x1 == ("__debug__" : Str)) = false := by decide) (d2 : (x2 == ("__debug__" : Str)) = false := by decide) (d3 : (x3 == ("__debug__" : Str)) = false := by decide) :
    PS X (.Try body [.ExceptHandler (some (.Tuple [.Name x1 q1, .Name x2 q2, .Name x3 q3] k qt)) (some n) (b0 :: rest) pos'] [] [] pos) (fun D σ H => tb (wAs3 X.K c1 c2 c3 X.N.length i ts Wout D) D σ H) := by
  refine ⟨fun pins s σ H D I h => wpAny_Try_except ?_⟩
  have ok := I.ok
  have hA : X.A.frames = some (X.env :: X.outer) := by rw [ok.frames, hstk]
  refine wpAny_mono ((hb (wAs3 X.K c1 c2 c3 X.N.length i ts Wout D) (X.pn ++ pins) (fun e sa => wpAny (model X.prog X.w) X.A (noteFrame e X.env) (fun _ sb => wpAny (model X.prog X.w) X.A (setFlight e none) (fun _ sc =>
    wpAny (model X.prog X.w) X.A (handleBy e X.env [.ExceptHandler (some (.Tuple [.Name x1 q1, .Name x2 q2, .Name x3 q3] k qt)) (some n) (b0 :: rest) pos']) (SP X pins D) X.xe sc) X.xe sb) X.xe sa) (fun u s' xx => ?_) PassesOwn.looking).run [] s σ H D (I.toTry _) h) (fun f s1 hsp => ?_) (fun e s1 he => he)
  · obtain ⟨a, B, sI, pins', σ', H', cls, d, rfl, J', nb, up, sky, na, os, ag, b, hb1, hyes, hno⟩ := xx
    have J := J'.ofTry ok
    rw [hstk] at sky
    show wpAny (model X.prog X.w) X.A (noteFrame (.ref a) X.env) _ _ _
    refine Sky.land Zc.steady hA hfrm sky fun ha fla upa => ?_
    have Ja : Inv X pins σ' H' { s' with heap := ha } := J.landed nb fla.1 (up.trans upa) os ag
    have baseN : X.base.get? a = none := by
      cases e : X.base.get? a with
      | none => rfl
      | some o =>
        exfalso
        have hn := nb a o (J.bk a o e) (fun z => by rw [(J.stack.mem z).1] at e; cases e)
        rw [fla.2.1] at hn
        cases hn
    -- what the exception is, wherever it flies
    have facts : ∀ {h : Heap}, HandSPX.FlyingZ B (X.env :: X.outer) a (Zc cls d) h → ∃ oe vs, h.get? a = some oe ∧ Zc cls d oe ∧ oe.data = .fields vs ∧ a ≠ X.env.locals ∧ a ∉ X.fs := fun {h} f => by
      obtain ⟨oe, vs, e1, e2, e3⟩ := f.there
      have no : a ∉ frs (X.env :: X.outer) := fun z => by
        obtain ⟨_, o', e', hf⟩ := f.2.2.1.mem z
        rw [e1] at e'
        cases e'
        exact hf vs e3
      refine ⟨oe, vs, e1, e2, e3, fun z => no (List.mem_filterMap.mpr ⟨X.env, List.mem_cons_self, by rw [hfrm, z]⟩), fun z => ?_⟩
      obtain ⟨ev, m1, m2⟩ := List.mem_filterMap.mp z
      exact no (List.mem_filterMap.mpr ⟨ev, List.mem_cons_of_mem _ m1, m2⟩)
    obtain ⟨oa, va, a1, a2, a3, aL, aF⟩ := facts fla
    have Sa := Ja.suite a1 a3 na aL aF
    refine wpAny_handleBy_cons (codeAny_handlers_test (wpAny_Tuple ?_)) (fun z => nomatch z)
    refine Calls.spliced_cons (ld_glob (X := X.suite a ((a, oa) :: (X.pn ++ pins))) Sa C1.1 C1.2 ?_ d1)
    refine Calls.spliced_cons (ld_glob (X := X.suite a ((a, oa) :: (X.pn ++ pins))) Sa C2.1 C2.2 ?_ d2)
    refine Calls.spliced_cons (ld_glob (X := X.suite a ((a, oa) :: (X.pn ++ pins))) Sa C3.1 C3.2 ?_ d3)
    refine Calls.spliced_nil ⟨by show 3 ≤ sizeLine; decide, ?_⟩
    have flb : HandSPX.FlyingZ B (X.env :: X.outer) a (Zc cls d) (ha.push { cls := .type "tuple", data := .seq [c1, c2, c3].toArray }) := flying_push fla
    have upb : sI.heap.UpToSlots (ha.push { cls := .type "tuple", data := .seq [c1, c2, c3].toArray }) := (up.trans upa).trans (Heap.UpToSlots.of_keeps fun b u e => Heap.get?_push_of_some _ e)
    have tup : (ha.push { cls := .type "tuple", data := .seq [c1, c2, c3].toArray }).get? ha.objs.size = some { cls := .type "tuple", data := .seq [c1, c2, c3].toArray } := Heap.get?_push_size _ rfl
    show wpAny _ _ (excMatches (.ref a) (.ref ha.objs.size)) _ _ { s' with heap := ha.push { cls := .type "tuple", data := .seq [c1, c2, c3].toArray } }
    generalize ha.push { cls := .type "tuple", data := .seq [c1, c2, c3].toArray } = hc at flb upb tup ⊢
    have Jb : Inv X pins σ' H' { s' with heap := hc } := J.landed nb flb.1 upb os ag
    obtain ⟨ob, vb, b1, b2, b3, _, _⟩ := facts flb
    refine (PySem.W.exm_tup3 (M := model X.prog X.w) Jb.kIn (fun A Q E s kp q => wpAny_typeOf_ref (kp _ _ b1) (by rw [b2.1]; exact q)) tup hb1).here ?_
    cases b with
    | true =>
      refine codeAny_handlers_suite_as (HandSPX.lands_againZ flb fun hd fld upd => ?_)
      have Jd : Inv X pins σ' H' { s' with heap := hd } := J.landed nb fld.1 (upb.trans upd) os ag
      obtain ⟨od, vd, e1, e2, e3, eL, eF⟩ := facts fld
      refine store_ok (X := X.suite a ((a, od) :: (X.pn ++ pins))) (v := .ref a) (Jd.suite e1 e3 na eL eF) nd hi (.inl hloc) rfl (fun se Se => ?_) (.inr hloc)
      refine wpAny_mono ((hsu a od cls d (X.pn ++ pins) baseN e2 ⟨_, e3⟩).run [] se _ H' _ Se (hyes rfl a od J.len na e2 ⟨_, e3⟩)) (fun f sf hsp => ?_) (fun _ _ z => z.elim)
      have gone : ∀ {σ6 : L2.St} {H6 : Hp} {Q : Shared → Prop}, Inv (X.suite a ((a, od) :: (X.pn ++ pins))) [] σ6 H6 sf → (∀ s7, Inv X pins (σ6.set i none) H6 s7 → Q s7) →
          wpAny (model X.prog X.w) X.A (do bindName X.env n .none; unbindBehindTheSuite X.env n pos') (fun _ s7 => Q s7) X.xe sf := fun {_ _ _} S6 hq => gone_ok (S6.unsuite ok) nd hi hloc hq
      cases f with
      | ret u => exact (fun ⟨v6, σ6, H6, S6, r6, w6⟩ => gone S6 fun s7 J7 => ⟨_, _, _, J7, r6, w6⟩) hsp
      | next => exact (fun ⟨σ6, H6, S6, w6⟩ => gone S6 fun s7 J7 => ⟨_, _, J7, w6⟩) hsp
      | brk => exact (fun ⟨σ6, H6, S6, w6⟩ => gone S6 fun s7 J7 => ⟨_, _, J7, w6⟩) hsp
      | cont => exact (fun ⟨σ6, H6, S6, w6⟩ => gone S6 fun s7 J7 => ⟨_, _, J7, w6⟩) hsp
    | false =>
      show wpAny _ X.A (handleBy (.ref a) X.env []) _ _ _
      refine wpAny_handleBy_nil ?_
      have flb' := flb
      obtain ⟨_, _, _, oe, vs, T, oT, tz, g1, g2, g3, g4, _⟩ := flb'
      unfold PySem.passOn
      refine wpAny_bind (wpAny_field g1 g3 g4 ?_)
      rw [if_neg (show ¬ ((Value.ref T == Value.none) = true) by simp)]
      have out : wpAny (model X.prog X.w) X.A (setFlight (.ref a) X.env.frame) (fun _ sz => wpAny (model X.prog X.w) X.A (throw (.ref a) : Sem Flow) (SP X pins D) X.xe sz) X.xe { s' with heap := hc } := by
        rw [hfrm]
        refine HandSPX.setFlight_upZ flb fun hz held upz => wpAny_throw (tk _ _ ⟨a, B, sI, pins, σ', H', cls, d, rfl, J, nb, upb.trans upz, .inr (.inr (by rw [hstk]; exact held)), na, os, ag, hno rfl⟩)
      first
        | exact wpAny_bind (wpAny_pure (wpAny_bind out))
        | exact wpAny_bind out
  · cases f with
    | ret u => exact (fun ⟨v, σ', H', J', r, w⟩ => ⟨v, σ', H', J'.ofTry ok, r, w⟩) hsp
    | next => exact (fun ⟨σ', H', J', w⟩ => wpAny_execs_nil ⟨σ', H', J'.ofTry ok, w⟩) hsp
    | brk => exact (fun ⟨σ', H', J', w⟩ => ⟨σ', H', J'.ofTry ok, w⟩) hsp
    | cont => exact (fun ⟨σ', H', J', w⟩ => ⟨σ', H', J'.ofTry ok, w⟩) hsp
end
/-! ### the caught exception as an argument -/
/-- the object at a, as it stands -/
def ExE (oe : Obj) (a : Addr) : HO := .ext fun h => h.get? a = some oe
theorem ExE.ok {P : Program} {w : World} {H : Hp} {h : Heap} {a : Addr} {oe : Obj} (e : h.get? a = some oe) : ObjOk P w H h a (ExE oe a) := ⟨e, ⟨oe, e⟩, fun _ _ q k => k _ q⟩
/-- f(.., e, ..): e is the exception that the suite holds -/
def tExc (oe : Obj) (a : Addr) (sp : Sp) (E : XK) (t : TA) : TE := fun σ H Q => t σ H fun vs H1 => sp vs (upd H1 a (ExE oe a)) (fun v H2 => H2 a = some (ExE oe a) ∧ Q v (delH H2 a)) E
section
variable {X : Cx} {CX : CXT} {k : Nat} {f : Addr} {fd : FuncData} {ps : List Str} {sp : Sp} {E : XK} {x : Str} {es : List Expr} {e : Expr} {t : TA} {a : Addr} {oe : Obj} {p pos : Pos}
theorem exc_back {H H2 : Hp} {h h' : Heap} {fs : List Addr} (ha : h.get? a = some oe) (hn : H a = none) (h2 : H2 a = some (ExE oe a)) (u : Un fs [] (upd H a (ExE oe a)) H2 h h') (e' : h'.get? a = some oe) : Un fs [] H (delH H2 a) h h' := by
  have other : ∀ {b : Addr} {o : HO}, H b = some o → b ≠ a := fun {b o} q z => by rw [z, hn] at q; cases q
  have other2 : ∀ {b : Addr} {o : HO}, H2 b = some o → (∀ φ, o ≠ .ext φ) → b ≠ a := fun {b o} q n z => by rw [z, h2] at q; cases q; exact n _ rfl
  refine ⟨fun b o q n hb hx => ?_, fun b o q n hb hx => ?_, fun b o q n hx => ?_, u.there, fun b xs q => ?_, fun b o w q => ?_, fun b tb q => ?_⟩
  · by_cases z : b = a
    · subst z
      rw [ha] at q
      cases q
      exact e'
    · exact u.keep b o q (by rw [upd_ne z]; exact n) hb hx
  · by_cases z : b = a
    · subst z
      rw [ha] at q
      cases q
      exact ⟨oe.slots, e'⟩
    · exact u.slot b o q (by rw [upd_ne z]; exact n) hb hx
  · by_cases z : b = a
    · rw [z, delH_same]
    · rw [delH_ne z]
      exact u.free b o q (by rw [upd_ne z]; exact n) hx
  · rw [delH_ne (other q)]
    exact u.tups b xs (by rw [upd_ne (other q)]; exact q)
  · rw [delH_ne (other q)]
    exact u.frzs b o w (by rw [upd_ne (other q)]; exact q)
  · rw [delH_ne (other q)]
    exact u.tbls b tb (by rw [upd_ne (other q)]; exact q)
theorem hok_del {P : Program} {w : World} {H : Hp} {h : Heap} (ok : HOk P w H h) (h2 : H a = some (ExE oe a)) : HOk P w (delH H a) h := fun b u q => by
  have hb : b ≠ a := fun z => by rw [z, delH_same] at q; cases q
  rw [delH_ne hb] at q
  refine (ok b u q).stay (fun _ _ _ r => r) (fun c r => ?_) (fun c xs r => ?_)
  · rw [delH_ne (fun z => by rw [z, h2] at r; cases r)]
    exact r
  · rw [delH_ne (fun z => by rw [z, h2] at r; cases r)]
    exact r
end
end RK

/-! isinstance and fields of an exception that a def was handed -/
namespace PySem.W
open PySem PySem.Spec PySem.Calls PyProof.Rows
section
variable {prog : Program} {w : World} {A : Around} {E : Value → Shared → Prop} {s : Shared} {K : Frag} {x D : Addr} {ox : Obj} {od : Option Obj}
theorem rk_findData {C : Addr} {name : Str} {u g : Value} (c1 : (clsIn K C).isSome = true) (c2 : findIn K (.ref C) name = some (some u)) (c3 : specialIn K u "__get__" = some (some g)) (c4 : takesIn K u = some true) : findObj K C od name = some (.bind g u) := by
  obtain ⟨cd, e⟩ := Option.isSome_iff_exists.mp c1
  unfold findObj
  simp [e, c2, c3, c4]
/-- x.__class__ of an own exception, whatever its dict -/
theorem rk_classE {Q : Option Value → Shared → Prop} (C : L2.ExcC K D) (KI : K.In s.heap) (I : InstAt s.heap x ox D od) (h : Q (some (.ref D)) { s with toks := s.toks + 1 }) : wpAny (model prog w) A (getAttr? (.ref x) "__class__") Q E s := by
  have fo : findObj K D od "__class__" = some (.bind (.builtin "getset_descriptor.__get__") (.builtin "object.__class__")) := rk_findData (by obtain ⟨cd, e, _⟩ := any_some C.hd; rw [e]; rfl) C.ha C.hn C.ht
  obtain ⟨hh, gg, dd, tt, oo⟩ := s
  have T0 := I.type (M := model prog w)
  have T1 := looks_findIn (M := model prog w) KI C.hg
  have T2 := looks_findIn (M := model prog w) KI C.hk
  have T3 := looks_find (M := model prog w) KI I fo
  have isB : Looks (model prog w) hh (isInstance (.ref x) (.type "BaseException")) true := T0.andThen (looks_subIn KI C.hs)
  have z2 : (Value.builtin "BaseException.__getattribute__" == Value.builtin "object.__getattribute__") = false := by decide +kernel
  unfold getAttr? getAttrBy? getAttrBy
  refine wpAny_bind (wpAny_mkText (wpAny_bind (wpAny_attempt (wpAny_holding (wpAny_bind (T0.at (wpAny_bind (T1.at ?_))))))))
  show wpAny _ _ (if (onTheHeap (Value.ref D) && Value.builtin "BaseException.__getattribute__" == Value.builtin "object.__getattribute__") = true then _ else _) _ _ _
  rw [z2, Bool.and_false, if_neg Bool.false_ne_true]
  unfold getAttrByItsOwn hookBefore
  refine wpAny_bind ?_
  have z3 : onTheHeap (Value.ref D) = true := rfl
  rw [if_pos z3]
  refine T2.at (wpAny_bind (wpAny_attempt (wpAny_holding ?_)))
  unfold callGetattribute
  rw [show (false && onTheHeap (Value.builtin "BaseException.__getattribute__")) = false from rfl, if_neg Bool.false_ne_true]
  unfold boundAndCalled
  rw [PySem.F.excAttr_ValueError.ga.bind (.ref x)]
  refine wpAny_bind (wpAny_pure ?_)
  show wpAny _ _ (call (.builtin "BaseException.__getattribute__") [.ref x, .str "__class__" tt]) _ _ _
  refine wpAny_call (codeAny_call_builtin PySem.F.excAttr_ValueError.ga.plain PySem.F.entry_bexc_ga (@check_slot (model prog w) _ _ ⟨hh, gg, dd, tt + 1, oo⟩ "BaseException.__getattribute__" "BaseException" "__getattribute__" (.ref x) [.str "__class__" tt] [] _ (by decide +kernel) (by decide +kernel) isB (PySem.F.args_bexc_ga (.ref x) (.str "__class__" tt)) ?_))
  unfold Builtin.«object.__getattribute__»
  refine wpAny_bind (wpAny_of_eq (a := ((Value.ref x : Value), [Value.str "__class__" tt])) (by first | rfl | (simp only [slotArgs]; rfl)) (wpAny_bind (wpAny_pure (wpAny_bind (T0.at (wpAny_bind (T3.at ?_)))))))
  show wpAny _ _ (holding [Value.builtin "object.__class__"] (call (.builtin "getset_descriptor.__get__") [.builtin "object.__class__", .ref x, .ref D]) >>= ret) _ _ _
  refine wpAny_bind (wpAny_holding (wpAny_call (class_get (s := ⟨hh, gg, dd, tt + 1, oo⟩) (ox := ox) (od := od) KI I C.hm (wpAny_pure ?_))))
  show wpAny _ _ (handedOut (.ref D)) _ _ _
  rw [handedOut_of (v := .ref D) rfl]
  first
    | exact wpAny_pure (wpAny_pure h)
    | exact wpAny_pure h
    | exact wpAny_pure (wpAny_bind (wpAny_pure (wpAny_pure h)))
theorem rk_clsObj {C : L2.ExcC K D} : ∃ oc, K.lookup D = some oc ∧ ∃ cd, oc.data = .cls cd := by
  obtain ⟨cd, e, _⟩ := any_some C.hd
  unfold clsIn at e
  split at e
  · rename_i ho
    exact ⟨_, ho, _, rfl⟩
  · cases e
theorem rk_kitE (C : L2.ExcC K D) : KitX K (.ref x) (.ref D) (fun h => InstAt h x ox D od) where
  ty := fun _ _ _ I => I.type
  it := fun M h KI I => by
    obtain ⟨oc, ho, cd, e⟩ := rk_clsObj (C := C)
    obtain ⟨c0, d0, t0, sl0⟩ := oc
    cases e
    intro A' Q' E' s' kp q
    unfold isType loadHead
    exact wpAny_bind (wpAny_loadPart (kp _ _ (KI _ _ ho)) (wpAny_pure q))
  ne := fun h tp dd its m sl KI e => by
    obtain ⟨oc, ho, cd, e2⟩ := rk_clsObj (C := C)
    refine Bool.eq_false_iff.mpr fun q => ?_
    obtain rfl : D = tp := Value.ref.inj (beq_iff_eq.mp q)
    rw [KI _ _ ho] at e
    cases e
    cases e2
  ca := fun KI I q => rk_classE C KI I q
end
end PySem.W
namespace RK
open PySem PySem.Spec PyProof.Rows L2
section
variable {X : Cx} {a D : Addr} {oe : Obj}
theorem exc_inst {h : Heap} {od : Option Addr} {o : Option Obj} (hz : Zc (.ref D) od oe) (hf : ∃ vs, oe.data = .fields vs) (e : h.get? a = some oe) (ho : match od with | none => o = none | some dd => ∃ u, h.get? dd = some u ∧ o = some u) : PySem.W.InstAt h a oe D o := by
  obtain ⟨vs, hd⟩ := hf
  refine ⟨e, hz.1, by unfold PySem.W.notCls; rw [hd] <;> rfl, ?_⟩
  rw [hz.2]
  cases od with
  | none => subst ho; trivial
  | some dd =>
    obtain ⟨u, h1, rfl⟩ := ho
    exact h1
/-- what is asked of a handed exception: its class D, its dict at dd with the fields fs -/
structure ExAt (H : Hp) (a D : Addr) (fs : List (Str × V)) : Prop where
  ex : ∃ oe dd, H a = some (ExE oe a) ∧ Zc (.ref D) (some dd) oe ∧ (∃ vs, oe.data = .fields vs) ∧ H dd = some (.xd fs)
def rIsX (K : PySem.W.Frag) : List V → Hp → VK → Prop := fun xs H Q => ∃ (a D : Addr) (fs : List (Str × V)) (c : V) (cv : Value) (b : Bool), xs = [.ref a, c] ∧ ExAt H a D fs ∧ ExcC K D ∧ (∀ u, RelV c u → u = cv) ∧ PySem.W.kitOne K (.ref D) cv = some b ∧ Q (.bl b) H
theorem cr_isX : CallR X (.builtin "isinstance") (rIsX X.K) := by
  intro pins s σ H xs us Q I r h
  obtain ⟨a, D, fs, c, cv, b, rfl, ⟨oe, dd, ha, hz, hf, hd⟩, C, hc, e, q⟩ := h
  cases r with
  | cons r1 r =>
    cases r with
    | cons r2 r =>
      cases r
      cases r1
      obtain rfl := hc _ r2
      have ea : s.heap.get? a = some oe := (I.hok a _ ha).1
      obtain ⟨mA, hns, _⟩ : ObjOk X.prog X.w H s.heap dd (.xd fs) := I.hok dd _ hd
      obtain ⟨od, ho, _⟩ := lookIn_ns hns
      exact PySem.W.kia_one (PySem.W.rk_kitE C) I.kIn (exc_inst hz hf ea ⟨od, ho, rfl⟩) e (fun z => nomatch z) fun tk => ⟨.bl b, H, I.kept (t' := tk) fun _ _ z => z, rfl, q⟩
/-- e.f -/
def tXfT (K : PySem.W.Frag) (f : Str) (te : TE) : TE := fun σ H Q => te σ H fun x H1 => ∃ (a D : Addr) (fs : List (Str × V)) (v : V), x = .ref a ∧ ExAt H1 a D fs ∧ XfC K D ∧ PySem.W.findIn K (.ref D) f = some none ∧ fs.lookup f = some v ∧ Q v H1
theorem pe_xfT {e : Expr} {te : TE} {pos : Pos} {f : Str} (he : PE X e te) (hb : attributeBase e f X.env (eval e X.env) = eval e X.env := by rfl) : PE X (.Attribute e f pos) (tXfT X.K f te) := by
  refine ⟨fun pins s σ H Q I h => attr_of hb (thn (he.run pins s σ H _ I h) fun u s1 hh => ?_)⟩
  obtain ⟨x, H1, I1, rx, a, D, fs, v, rfl, ⟨oe, dd, ha, hz, hf, hd⟩, T, hno, l, q⟩ := hh
  obtain rfl : u = Value.ref a := rx
  have ea : s1.heap.get? a = some oe := (I1.hok a _ ha).1
  obtain ⟨mA, hns, hr⟩ : ObjOk X.prog X.w H1 s1.heap dd (.xd fs) := I1.hok dd _ hd
  obtain ⟨od, ho, hl⟩ := lookIn_ns hns
  obtain ⟨u, hu, ru⟩ := RelO.some_of (v := v) (o := mA f) (by rw [← l]; exact hr f)
  exact HandSPX.exc_get I1.kIn (exc_inst hz hf ea ⟨od, ho, rfl⟩) T.ga T.gg T.exC (PySem.W.findObj_own T.hdC hno rfl (by rw [hl, hu])) (handed_of ru) ⟨v, H1, I1.tok _, ru, q⟩
end
end RK

/-! defs that are called where no text of a collection is under way (so that they may ask for such a text) -/
namespace RK
open PySem PySem.Spec PyProof.Rows L2
structure FnOkG (P : Program) (w : World) (K : PySem.W.Frag) (mg : Str → Option Value) (base : Heap) (CX : CXT) (k : Nat) (f : Addr) (fd : FuncData) (ps : List Str) (sp : Sp) : Prop where
  len : ∀ vs H Q E, sp vs H Q E → vs.length = ps.length
  run : ∀ (A : Around) (outer : List Env) (s : Shared) (H : Hp) (args : Args) (us : List Value) (vs : List V) (Q : VK) (E : XK), A.guards = some [] → Room k A → Env0 P w K mg base A outer s H → BindsTo s fd args (ps.zip us) → Vals vs us → sp vs H Q E →
    codeAny (model P w) A (.call (.ref f) args) (CR CX outer P w H s Q E) s
section
variable {P : Program} {w : World} {K : PySem.W.Frag} {mg : Str → Option Value} {base : Heap} {CX : CXT} {k : Nat} {f : Addr} {fd : FuncData} {N ps : List Str} {sp : Sp} {x qual : Str} {st : Stmt}
theorem guards_deeper {A : Around} {env : Env} (h : A.guards = some []) : (A.deeper env).guards = some [] := h
theorem FnOkG.of (F : FnOk P w K mg base CX k f fd ps sp) : FnOkG P w K mg base CX k f fd ps sp := ⟨F.len, fun A outer s H args us vs Q E _ => F.run A outer s H args us vs Q E⟩
/-- as Fun.ok, the body may use that no text of a collection is under way -/
theorem funG {CX : CXT} (F : Fun K x qual st f fd) (S : FnScope N ps (defScope st)) (len : ∀ vs H Q E, sp vs H Q E → vs.length = ps.length)
    (hbody : ∀ (cdv : Value) (A : Around) (outer : List Env) (s : Shared) (H : Hp) (vs : List V) (Q : VK) (E : XK), A.guards = some [] → Room k (A.deeper (envOfC qual (defScope st) s.heap.objs.size f cdv)) → sp vs H Q E →
      ∃ t, PSs (cxOf CX P w K mg base N qual (defScope st) f cdv A outer s H E) (defBody st) t ∧ t { nx := fun _ H' => Q .non H', rt := Q } (L2.start N vs) H) : FnOkG P w K mg base CX (k + 1) f fd ps sp := by
  obtain ⟨oc, od, kV, doc, pm, an, cdv, ct, osl, rfl, lk, hcd⟩ := F.ex
  exact ⟨len, fun A outer s H args us vs Q E hg hr e0 hb r q => LamX.run_ofS lk hcd S hr e0 hb r (len _ _ _ _ q) fun hr' => hbody cdv A outer s H vs Q E hg hr' q⟩
end
section
variable {X : Cx} {CX : CXT} {k : Nat} {f : Addr} {fd : FuncData} {ps : List Str} {sp : Sp} {E : XK} {x : Str} {es : List Expr} {e : Expr} {t : TA} {p pos : Pos}
theorem run_G {pins : List (Addr × Obj)} {σ : L2.St} {H : Hp} {s : Shared} {Q : VK} {us : List Value} {vs : List V} (F : FnOkG X.prog X.w X.K X.mg X.base CX k f fd ps sp) (hG : X.A.guards = some []) (hr : Room k X.A) (hb : L2.Binds X.K fd ps []) (hx : Passes CX X E)
    (I : Inv X pins σ H s) (r : Vals vs us) (h : sp vs H Q E) : wpAny (model X.prog X.w) X.A (call (.ref f) us) (EP X pins σ Q) X.xe s := by
  have hl : (us ++ []).length = ps.length := by rw [List.append_nil, ← r.length]; exact F.len _ _ _ _ h
  have r' : Vals vs (us ++ []) := by rw [List.append_nil]; exact r
  refine wpAny_call (codeAny_mono (F.run X.A X.stack s H ⟨us, []⟩ (us ++ []) vs Q E hG hr I.env0 (hb s us I.kIn hl) r' h) fun res s' hq => ?_)
  match res, hq with
  | .error er, hq => exact hx pins σ H s er s' I hq
  | .ok (.ret u), hq => exact I.after hq
  | .ok .next, hq => exact hq.elim
  | .ok .brk, hq => exact hq.elim
  | .ok .cont, hq => exact hq.elim
/-- f(e, ..) -/
theorem pe_callG (F : FnOkG X.prog X.w X.K X.mg X.base CX k f fd ps sp) (hG : X.A.guards = some []) (hr : Room k X.A) (hg : Gl X x) (hm : X.mg x = some (.ref f)) (hk : PySem.W.keepIn X.K (.ref f) = true) (hb : L2.Binds X.K fd ps []) (hx : Passes CX X E)
    (ha : PA X (e :: es) t) (hdb : (x == ("__debug__" : Str)) = false := by decide) (he : starEach (e :: es) X.env = (false, eval e X.env) :: starEach es X.env := by rfl) (hpl : (backTo pos (starEach es X.env)).any (·.1) = false := by rfl) :
    PE X (.Call (.Name x p) (e :: es) [] pos) (tCall sp [] E t) := by
  refine ⟨fun pins s σ H Q I h => wpAny_Call_Name_kw (ld_glob I hg hm (PySem.W.callWith_K (h₀ := X.base) I.ok.mod.kin hk (thn (ha.run pos pins s σ H _ I h) fun us s1 hh => ?_) he hpl) hdb)⟩
  obtain ⟨vs, H1, I1, r, q⟩ := hh
  exact ⟨I1.kIn, run_G F hG hr hb hx I1 r (by rw [List.append_nil] at q; exact q)⟩
end
/-! ### defs that an except suite calls -/
structure RoomS (k : Nat) (A : Around) : Prop where
  dp : A.depth + 3 * k + 5 < recursionLimit
  un : A.units + 16 * k + 200 < cLine
theorem RoomS.mono {j k : Nat} {A : Around} (r : RoomS k A) (h : j ≤ k) : RoomS j A := ⟨by have := r.dp; omega, by have := r.un; omega⟩
theorem RoomS.deeper {k : Nat} {A : Around} (r : RoomS (k + 1) A) (env : Env) : RoomS k (A.deeper env) := by
  obtain ⟨h1, h2⟩ := r
  exact ⟨by show A.depth + 1 + 3 * k + 5 < _; omega, by show A.units + 3 + 16 * k + 200 < _; omega⟩
theorem RoomS.of {k : Nat} {A : Around} (r : Room k A) : RoomS k A := ⟨r.dp, r.un⟩
theorem RoomS.units {k : Nat} {A : Around} (r : RoomS k A) : A.units + 64 < cLine := by have := r.un; omega
structure FnS (P : Program) (w : World) (K : PySem.W.Frag) (mg : Str → Option Value) (base : Heap) (CX : CXT) (k : Nat) (f : Addr) (fd : FuncData) (ps : List Str) (sp : Sp) : Prop where
  len : ∀ vs H Q E, sp vs H Q E → vs.length = ps.length
  run : ∀ (A : Around) (outer : List Env) (s : Shared) (H : Hp) (args : Args) (us : List Value) (vs : List V) (Q : VK) (E : XK), A.guards = some [] → RoomS k A → Env0 P w K mg base A outer s H → BindsTo s fd args (ps.zip us) → Vals vs us → sp vs H Q E →
    codeAny (model P w) A (.call (.ref f) args) (CR CX outer P w H s Q E) s
/-- the context of such a def's body: its own object stands as it stood -/
abbrev cxS (CX : CXT) (P : Program) (w : World) (K : PySem.W.Frag) (mg : Str → Option Value) (base : Heap) (N : List Str) (qual : Str) (scope : Scope) (f : Addr) (cd : Value) (A : Around) (outer : List Env) (s : Shared) (H : Hp) (E : XK) (o : Obj) : Cx := L2H.cxH CX P w K mg base N qual scope f cd A outer s H E (f, o)
section
variable {P : Program} {w : World} {K : PySem.W.Frag} {mg : Str → Option Value} {base : Heap} {k : Nat} {f : Addr} {fd : FuncData} {N ps : List Str} {sp : Sp} {x qual : Str} {st : Stmt}
theorem funS {CX : CXT} (F : Fun K x qual st f fd) (S : FnScope N ps (defScope st)) (len : ∀ vs H Q E, sp vs H Q E → vs.length = ps.length)
    (hbody : ∀ (cdv : Value) (o : Obj) (A : Around) (outer : List Env) (s : Shared) (H : Hp) (vs : List V) (Q : VK) (E : XK), A.guards = some [] → RoomS k (A.deeper (envOfC qual (defScope st) s.heap.objs.size f cdv)) → sp vs H Q E →
      ∃ t, PSs (cxS CX P w K mg base N qual (defScope st) f cdv A outer s H E o) (defBody st) t ∧ t { nx := fun _ H' => Q .non H', rt := Q } (L2.start N vs) H) : FnS P w K mg base CX (k + 1) f fd ps sp := by
  obtain ⟨oc, od, kV, doc, pm, an, cdv, ct, osl, rfl, lk, hcd⟩ := F.ex
  refine ⟨len, fun A outer s H args us vs Q E hG hr e0 hb r q => ?_⟩
  have inB := e0.mod.kin f _ lk
  obtain ⟨inS, fr⟩ := e0.bs f _ inB
  have KX : K.In s.heap := e0.mod.kin.keeps fun b o z => (e0.bs b o z).1
  have noL : s.heap.NoLimit := e0.mod.nolimit.keeps fun b o z => (e0.bs b o z).1
  have kinds : ∀ y ∈ ps.zip us, (defScope st).names.lookup y.1 = some .local ∨ ((defScope st).names.lookup y.1 = some .cell ∧ ((cellsFrom (s.heap.objs.size + 1) (defScope st).names []).lookup y.1).isSome = true) := fun ⟨n, v⟩ hy =>
    (S.par n (List.of_mem_zip hy).1).imp id fun z => ⟨z, PySem.W.cellsFrom_some _ _ _ (.inl z)⟩
  refine codeAny_call_function (show A.depth < recursionLimit by have := hr.dp; omega) (KX _ _ lk) rfl S.co S.gen rfl (PySem.W.codeRec_of KX hcd) (hb _ _ _ _ (wpAny_newFunctionEnv_cells S.kind kinds fun env he s1 ic => ?_))
  subst he
  refine ⟨noL.keeps ic.toInCall.keep, codeAny_func ?_⟩
  obtain ⟨t, ht, hq⟩ := hbody cdv { cls := oc, dict := od, data := .func (PySem.W.fnOf x qual (defArgs st) (defBody st) (defScope st) .none kV doc pm an cdv ct), slots := osl } A outer s H vs Q E hG (hr.deeper _) q
  have I := L2H.inv_startH (CX := CX) (E := E) S (p := (f, _)) ⟨inS, fr, (fun z => by rw [(e0.funs.mem z).1] at inB; cases inB), fun v z => (nomatch z)⟩ e0 (len _ _ _ _ q) r ic
  refine wpAny_mono (ht.run [] s1 (L2.start N vs) H _ I hq) (fun fl s' hs => ?_) fun e s' hs => hs
  match fl, hs with
  | .ret u, ⟨v, σ', H', J, rv, z⟩ => exact ⟨v, H', J.os, J.bare, J.base, J.hok, rv, z⟩
  | .next, ⟨σ', H', J, z⟩ => exact ⟨.non, H', J.os, J.bare, J.base, J.hok, rfl, z⟩
  | .brk, ⟨_, _, _, z⟩ => exact z.elim
  | .cont, ⟨_, _, _, z⟩ => exact z.elim
end
section
variable {X : Cx} {CX : CXT} {k : Nat} {f : Addr} {fd : FuncData} {ps : List Str} {sp : Sp} {E : XK} {x : Str} {es : List Expr} {e : Expr} {t : TA} {a : Addr} {oe : Obj} {p pos : Pos}
theorem pe_exc (hp : (a, oe) ∈ X.pn) (hB : X.base.get? a = none) (F : FnS X.prog X.w X.K X.mg X.base CX k f fd ps sp) (hG : X.A.guards = some []) (hr : RoomS k X.A) (hg : Gl X x) (hm : X.mg x = some (.ref f)) (hk : PySem.W.keepIn X.K (.ref f) = true) (hb : L2.Binds X.K fd ps [])
    (hE : ∀ s H e s', CX X.stack H s E e s' → False)
    (ha : PA X (e :: es) t) (hdb : (x == ("__debug__" : Str)) = false := by decide) (he : starEach (e :: es) X.env = (false, eval e X.env) :: starEach es X.env := by rfl) (hpl : (backTo pos (starEach es X.env)).any (·.1) = false := by rfl) :
    PE X (.Call (.Name x p) (e :: es) [] pos) (tExc oe a sp E t) := by
  refine ⟨fun pins s σ H Q I h => wpAny_Call_Name_kw (ld_glob I hg hm ?_ hdb)⟩
  refine PySem.W.callWith_K (h₀ := X.base) I.ok.mod.kin hk (thn (ha.run pos pins s σ H _ I h) fun us s1 hh => ?_) he hpl
  obtain ⟨vs, H1, I1, r, q⟩ := hh
  refine ⟨I1.kIn, ?_⟩
  obtain ⟨pa, pn, pl, pf, _⟩ := I1.pin (a, oe) (List.mem_append_left _ hp)
  have e0 := I1.env0
  have e1 : Env0 X.prog X.w X.K X.mg X.base X.A X.stack s1 (upd H1 a (ExE oe a)) :=
    ⟨e0.frames, e0.mod, fun b o z => ⟨(e0.bs b o z).1, by rw [upd_ne (fun w => by rw [w, hB] at z; cases z)]; exact (e0.bs b o z).2⟩, e0.bsz, e0.funs,
      fun b z => by
        rw [upd_ne (fun w => by
          rcases List.mem_cons.mp (I1.stkSub b z) with q | q
          · exact pl (w ▸ q)
          · exact pf (w ▸ q))]
        exact e0.frf b z, e0.hok.laidN (fun _ _ z => z) pn (ExE.ok pa), e0.bare⟩
  have hl : (us ++ []).length = ps.length := by rw [List.append_nil, ← r.length]; exact F.len _ _ _ _ q
  have r' : Vals vs (us ++ []) := by rw [List.append_nil]; exact r
  refine wpAny_call (codeAny_mono (F.run X.A X.stack s1 _ ⟨us, []⟩ (us ++ []) vs _ E hG hr e1 (hb s1 us I1.kIn hl) r' q) fun res s2 hq => ?_)
  cases res with
  | error er => exact (hE _ _ _ _ hq).elim
  | ok fl =>
    cases fl with
    | ret u =>
      obtain ⟨v, H2, os, bare, un, hok, rv, h2, qv⟩ := hq
      have ea : s2.heap.get? a = some oe := (hok a _ h2).1
      exact ⟨v, _, I1.call' os (exc_back pa pn h2 un ea) (hok_del hok h2) bare (fun b z => nomatch z), rv, qv⟩
    | next => exact hq.elim
    | brk => exact hq.elim
    | cont => exact hq.elim
end
end RK

/-! repr of data, where no text of a collection is under way -/
namespace RK
open PySem PySem.Spec PyProof.Rows L2
def rReprD (K : PySem.W.Frag) : List V → Hp → VK → Prop := fun xs H Q => ∃ x d, xs = [x] ∧ Dp K H x d ∧ d.showable = true ∧ d.hasDict = false ∧ d.depth < 60 ∧ d.shown.length ≤ sizeLine ∧ Q (.str d.shown) H
theorem cr_reprD {X : Cx} (hG : X.A.guards = some []) (hu : X.A.units + 64 < cLine) : CallR X (.builtin "repr") (rReprD X.K) := by
  intro pins s σ H xs us Q I r h
  obtain ⟨x, d, rfl, dp, hs, hnd, hd, hz, q⟩ := h
  obtain ⟨u, rfl, ru⟩ := vals1 r
  obtain ⟨as, rd⟩ := Dp.reads I d x u dp ru
  have big : ∀ a : Addr, u = .ref a → wpAny (model X.prog X.w) X.A (call (.builtin "repr") [u]) (EP X pins σ Q) X.xe s := fun a e => by
    subst e
    exact repr_of_reads' rd hs (PyData.noDict_hsm hnd) hG (by omega) (fun _ _ z => z) (fun h' tok tk hk => ⟨.str _, H, I.kept (t' := tk) hk, ⟨tok, rfl⟩, q⟩) hz
  cases dp with
  | lst _ _ => cases ru; exact big _ rfl
  | tup _ _ => cases ru; exact big _ rfl
  | non =>
    cases ru
    exact PySem.P.repr_of_none ⟨.str _, H, I.tok _, ⟨_, rfl⟩, q⟩
  | bl b =>
    cases ru
    exact PySem.P.repr_of_bool ⟨.str _, H, I.tok _, ⟨_, rfl⟩, by cases b <;> exact q⟩
  | int i =>
    obtain ⟨t, rfl⟩ := ru
    exact PySem.P.repr_of_int (of_decide_eq_true hs) ⟨.str _, H, I.tok _, ⟨_, rfl⟩, q⟩
  | str y =>
    obtain ⟨t, rfl⟩ := ru
    exact PySem.P.repr_of_str ⟨.str _, H, I.tok _, ⟨_, rfl⟩, q⟩ hz
end RK

/-! the end of a law whose defs ask for the texts of collections: the law's promise at the head's own surroundings -/
namespace RK
open PySem PySem.Spec PyProof.Rows L2 LamX
theorem callerG : callerA.guards = some [] := rfl
theorem law_callG {P : Program} {w : World} {K : PySem.W.Frag} {mg mb : Str → Option Value} {CX : CXT} {k : Nat} {fa a : Addr} {tb : List (Addr × Addr)} {fd : FuncData} {x : Str} {sp : Sp} {s1 : Shared} {us : List Value} {ns : List Int}
    (hK : K.In s1.heap) (hG : s1.heap.Ns mainGlobals mg) (hB : s1.heap.Ns builtinsNs mb) (hBB : ∀ x : Str, x ≠ "__name__" → mb x = bootBuiltins x) (hL : s1.heap.NoLimit) (hg : s1.gens = #[])
    (tabs : ∀ p ∈ tb, s1.heap.get? p.2 = some { cls := .none, data := .fields #[] }) (tabK : ∀ p ∈ tb, K.lookup p.2 = none) (codes : ∀ p ∈ tb, PySem.W.CodeHd s1.heap p.1 p.2)
    (hM : ∃ (bm : Addr) (ob : Obj), mg "__builtins__" = some (.ref bm) ∧ bm ≠ builtinsNs ∧ s1.heap.get? bm = some ob ∧ ob.cls = .type "module" ∧ ob.dict = some builtinsNs ∧ ob.data = .plain)
    (scr : s1.heap.get? a = some { cls := .type "list", data := .seq us.toArray }) (areI : IntsAre us ns) (len : ns.length ≤ sizeLine) (hr : Room k callerA)
    (F : ∀ base : Heap, K.In base → base.Ns mainGlobals mg → (∀ p ∈ tb, TabB base mg p.1 p.2) → FnOkG P w K mg base CX k fa fd [x] sp) (bind : ∀ (s : Shared) (u : Value), BindsTo s fd ⟨[u], []⟩ [(x, u)])
    (prom : ∀ H : Hp, (∀ p ∈ tb, H p.2 = some (.tbl #[])) → SqL K H a (ns.map V.int) → sp [.ref a] H (fun v _ => v = .bl true) fun _ _ _ => False)
    (none_ : ∀ H e s', CX [] H s1 (fun _ _ _ => False) e s' → False) :
    codeAny (model P w) callerA (.call (.ref fa) ⟨[.ref a], []⟩) (fun r s' => r = .ok (.ret (.bool true)) ∧ OldK s1.heap s'.heap ∧ s'.os = s1.os ∧ AllBare s'.gens) s1 := by
  have rel := vals_ints areI
  have lenU := areI.length
  generalize eT : tb.map (·.2) = TT
  have inT : ∀ p ∈ tb, p.2 ∈ TT := fun p hp => eT ▸ List.mem_map.mpr ⟨p, hp, rfl⟩
  have ofT : ∀ {b : Addr}, b ∈ TT → ∃ p ∈ tb, p.2 = b := fun {b} h => List.mem_map.mp (eT.symm ▸ h)
  have tabAt : ∀ {b : Addr}, b ∈ TT → s1.heap.get? b = some { cls := .none, data := .fields #[] } := fun {b} h => by
    obtain ⟨p, hp, rfl⟩ := ofT h
    exact tabs p hp
  have scrT : a ∉ TT := fun z => by
    have := (tabAt z).symm.trans scr
    cases this
  have go : ∀ H : Hp, (∀ p ∈ tb, H p.2 = some (.tbl #[])) → (∀ b u, H b = some u → (b = a ∧ (∃ o xs, u = .frz o (.lst xs)) ∧ K.lookup a = none) ∨ (b ∈ TT ∧ u = .tbl #[])) → SqL K H a (ns.map V.int) → HOk P w H s1.heap →
      codeAny (model P w) callerA (.call (.ref fa) ⟨[.ref a], []⟩) (fun r s' => r = .ok (.ret (.bool true)) ∧ OldK s1.heap s'.heap ∧ s'.os = s1.os ∧ AllBare s'.gens) s1 := by
    intro H hT what hS hok
    have sees : ∀ {b : Addr} {o : Obj}, s1.heap.get? b = some o → H b = none → (hidT s1.heap H).get? b = some o := fun e n => hidT_get e n
    have plain : ∀ {b : Addr} {o : Obj}, s1.heap.get? b = some o → (∀ vs n, o.data ≠ .seq vs n) → o.data ≠ .fields #[] → H b = none := fun {b o} e d1 d2 => by
      cases q : H b with
      | none => rfl
      | some u =>
        exfalso
        rcases what b u q with ⟨rfl, _⟩ | ⟨hb, _⟩
        · rw [scr] at e
          cases e
          exact d1 _ _ rfl
        · rw [tabAt hb] at e
          cases e
          exact d2 rfl
    have dicts : ∀ {b : Addr} {o : Obj} {es : Array DictEntry} {ep : Nat}, s1.heap.get? b = some o → o.data = .dict es ep → H b = none := fun e d => plain e (fun vs n z => by rw [d] at z; cases z) (fun z => by rw [d] at z; cases z)
    have nsT : ∀ {b : Addr} {m : Str → Option Value}, s1.heap.Ns b m → (hidT s1.heap H).Ns b m := fun {b m} ⟨o, es, ep, e, d, r⟩ => ⟨o, es, ep, sees e (dicts e d), d, r⟩
    have inB : K.In (hidT s1.heap H) := fun b o e => sees (hK b o e) (by
      cases q : H b with
      | none => rfl
      | some u =>
        exfalso
        rcases what b u q with ⟨rfl, _, nK⟩ | ⟨hb, _⟩
        · rw [nK] at e
          cases e
        · obtain ⟨p, hp, rfl⟩ := ofT hb
          rw [tabK p hp] at e
          cases e)
    have modB : L2.Mod K mg (hidT s1.heap H) := ⟨inB, nsT hG, ⟨mb, nsT hB, hBB⟩, by obtain ⟨mc, l1, l2⟩ := hL; exact ⟨mc, nsT l1, l2⟩⟩
    have tabB : ∀ p ∈ tb, TabB (hidT s1.heap H) mg p.1 p.2 := fun p hp => by
      refine ⟨?_, ?_, fun z => ?_⟩
      · obtain ⟨o, ws, file, tf, flags, tg, inF, text, tt, e1, r1, r2, r3, rest⟩ := codes p hp
        refine ⟨o, ws, file, tf, flags, tg, inF, text, tt, sees e1 (plain e1 (fun vs n z => by rw [r2] at z; cases z) (fun z => ?_)), r1, r2, r3, rest⟩
        rw [r2] at z
        cases z
        simp at r3
      · obtain ⟨bm, ob, b1, b2, b3, b4, b5, b6⟩ := hM
        refine ⟨bm, ob, b1, b2, fun q => ?_, fun q => ?_, sees b3 (plain b3 (fun vs n z => by rw [b6] at z; cases z) (fun z => by rw [b6] at z; cases z)), b4, b5, b6⟩
        · obtain ⟨o, es, ep, e, hd, _⟩ := hG
          rw [q, e] at b3
          cases b3
          rw [hd] at b6
          cases b6
        · rw [q, tabs p hp] at b3
          cases b3
          cases b6
      · obtain ⟨o, es, ep, e, hd, _⟩ := hG
        rw [z, tabs p hp] at e
        cases e
        cases hd
    have start : Env0 P w K mg (hidT s1.heap H) callerA [] s1 H := ⟨rfl, modB, fun b o e => of_hidT e, Nat.le_of_eq (hidT_size _ _), trivial, (fun b z => absurd (show b ∈ ([] : List Addr) from z) List.not_mem_nil), hok, .of_eq hg⟩
    refine codeAny_mono ((F _ inB (nsT hG) tabB).run callerA [] s1 H ⟨[.ref a], []⟩ [.ref a] [.ref a] _ _ callerG hr start (bind s1 (.ref a)) (.cons rfl .nil) (prom H hT hS)) fun r s2 res => ?_
    match r, res with
    | .error e, res => exact (none_ H e s2 res).elim
    | .ok .next, res => exact res.elim
    | .ok .brk, res => exact res.elim
    | .ok .cont, res => exact res.elim
    | .ok (.ret u), ⟨v, H2, os, bare, un, hok2, rv, q⟩ =>
      have qv : v = .bl true := q
      subst qv
      obtain rfl : u = Value.bool true := rv
      have old : ∀ {b : Addr} {o : Obj}, b ∉ TT → s1.heap.get? b = some o → s2.heap.get? b = some o := fun {b o} nb e => by
        cases hq : H b with
        | none => exact un.keep b o e hq (fun z => absurd (show b ∈ ([] : List Addr) from z) List.not_mem_nil) List.not_mem_nil
        | some u =>
          rcases what b u hq with ⟨_, ⟨ob, xs, rfl⟩, _⟩ | ⟨hb, _⟩
          · have e1 := (hok b _ hq).1
            have e2 := (hok2 b _ (un.frzs b ob _ hq)).1
            rw [e] at e1
            cases e1
            exact e2
          · exact absurd hb nb
      have more : ∀ p ∈ tb, ∃ m : Array Value, s2.heap.get? p.2 = some { cls := .none, data := .fields m } := fun p hp => by
        obtain ⟨m, z⟩ := un.tbls p.2 #[] (hT p hp)
        exact ⟨_, hok2 p.2 _ z⟩
      refine ⟨rfl, ⟨fun b o e => ?_, fun b o e => ?_⟩, os, bare⟩
      · by_cases hb : b ∈ TT
        · obtain ⟨p, hp, rfl⟩ := ofT hb
          obtain ⟨m, hm⟩ := more p hp
          rw [tabs p hp] at e
          cases e
          exact .inr (.inl ⟨((codes p hp).tab (tabs p hp)).isCodeTable, rfl, #[], m, rfl, by rw [Array.empty_append]; exact hm⟩)
        · exact .inl (old hb e)
      · by_cases hb : b ∈ TT
        · obtain ⟨p, hp, rfl⟩ := ofT hb
          obtain ⟨m, hm⟩ := more p hp
          exact ⟨_, hm⟩
        · exact ⟨o, old hb e⟩
  -- the heap as it is tracked in the beginning
  cases own : K.lookup a with
  | some o =>
    have e := hK a o own
    rw [scr] at e
    cases e
    refine go (fun b => if b ∈ TT then some (.tbl #[]) else none) (fun p hp => if_pos (inT p hp)) (fun b u h => ?_) (.inr ⟨_, us.toArray, _, own, rfl, rfl, rfl, by rw [List.size_toArray, lenU]; exact len, by simpa using rel⟩) (fun b u h => ?_)
    all_goals
      try dsimp only at h
      split at h
      · rename_i hb
        cases h
        first
          | exact .inr ⟨hb, rfl⟩
          | exact tabAt hb
      · cases h
  | none =>
    refine go (fun b => if b = a then some (.frz { cls := .type "list", data := .seq us.toArray } (.lst (ns.map V.int))) else if b ∈ TT then some (.tbl #[]) else none) (fun p hp => ?_) (fun b u h => ?_) (.inl (.inr ⟨{ cls := .type "list", data := .seq us.toArray }, if_pos rfl⟩)) (fun b u h => ?_)
    · try dsimp only
      rw [if_neg (show ¬ p.2 = a from fun z => scrT (z ▸ inT p hp)), if_pos (inT p hp)]
    · try dsimp only at h
      split at h
      · rename_i hb
        cases h
        exact .inl ⟨hb, ⟨_, _, rfl⟩, own⟩
      · split at h
        · rename_i hb
          cases h
          exact .inr ⟨hb, rfl⟩
        · cases h
    · try dsimp only at h
      split at h
      · rename_i hb
        cases h
        rw [hb]
        exact ⟨scr, by rw [List.length_map]; exact len, us, _, rel, scr⟩
      · split at h
        · rename_i hb
          cases h
          exact tabAt hb
        · cases h
/-- F is told the tables of the defs' code objects, too (all empty) -/
theorem walk_G {l : PySem.W.OpenLaw} {n k : Nat} {q : Program} {loose : List Str} {XP : (Str → Option Value) → Heap → Prop} {YP : World → Heap → Prop} {d : DefRec} {K : Params → PySem.W.Frag} {CX : World → CXT} {x : Str}
    (hn : l.most = some n) (hn2 : n ≤ sizeLine) (hdf : d.params.defaults = []) (hr : Room k callerA) (hY : ∀ (w : World) (h : Heap), YP w h → (K w.params).In h)
    (F : ∀ (w : World) (mg : Str → Option Value) (fa : Addr) (h : Heap), YP w h → (K w.params).In h → h.Ns mainGlobals mg → mg d.name = some (.ref fa) →
      (∀ e ∈ recsOf q, ∃ a o fd c P, mg e.name = some (.ref a) ∧ h.get? a = some o ∧ o.data = .func fd ∧ fd.code = .ref c ∧ h.IsCode c P #[] ∧ h.TableAt c P #[]) →
      ∃ (fd : FuncData) (tb : List (Addr × Addr)) (sp : Sp), (∀ p ∈ tb, h.get? p.2 = some { cls := .none, data := .fields #[] }) ∧ (∀ p ∈ tb, (K w.params).lookup p.2 = none) ∧ (∀ p ∈ tb, PySem.W.CodeHd h p.1 p.2) ∧ (∀ (s : Shared) (u : Value), BindsTo s fd ⟨[u], []⟩ [(x, u)]) ∧
        (∀ (H : Hp) (a : Addr) (ns : List Int), ns.length ≤ n → (∀ z ∈ ns, Builtin.Int.intBits z ≤ 1048576) → (∀ p ∈ tb, H p.2 = some (.tbl #[])) → SqL (K w.params) H a (ns.map V.int) → sp [.ref a] H (fun v _ => v = .bl true) fun _ _ _ => False) ∧
        ∀ base : Heap, (K w.params).In base → base.Ns mainGlobals mg → (∀ p ∈ tb, TabB base mg p.1 p.2) → FnOkG l.prog w (K w.params) mg base (CX w) k fa fd [x] sp)
    (hCX : ∀ (w : World) (H : Hp) (s : Shared) (e : Value) (s' : Shared), CX w [] H s (fun _ _ _ => False) e s' → False) : PySem.W.WalkO q loose XP YP l.row.toRowW d [] (fun f vs => PySem.call f vs) :=
  Att.attach_callB hn hdf fun w s0 s1 mg mb fa o pm cd doc a us ns G Y ho hd hcd hmg hobj areI len bits hg => by
    obtain ⟨fd, tb, sp, t1, t2, t3, hb, hsp, hF⟩ := F w mg fa _ Y (hY w _ Y) G.T.g hmg G.T.tab
    exact law_callG (hY w _ Y) G.T.g G.T.b G.T.builtins G.T.nolimit hg t1 t2 t3 G.T.bmain hobj areI (Nat.le_trans len hn2) hr hF hb (fun H hH hS => hsp H a ns len bits hH hS) fun H e s' => hCX w H s1 e s'
end RK

/-! told: try: got = act() / except (A, B, C) as e: return sort(e); behind it: return [word, got] -/
namespace RK
open PySem PySem.Spec PyProof.Rows L2 LamX
/-- what it makes of the reading of the lambda; spS: what sort promises -/
def TTold3 (K : PySem.W.Frag) (c1 c2 c3 : Value) (spS : Sp) (word : Str) : (XK → Hp → VK → Prop) → Hp → VK → Prop := fun tl H Q =>
  tl (fun cls d H' => ∃ b, exm3 K cls c1 c2 c3 = some b ∧
      (b = true → ∀ a oe, H' a = none → Zc cls d oe → (∃ vs, oe.data = .fields vs) → spS [.ref a] (upd H' a (ExE oe a)) (fun v H2 => H2 a = some (ExE oe a) ∧ Q v (delH H2 a)) C8.E0) ∧ (b = false → False)) H
    fun v H' => ∀ p, H' p = none → Q (.ref p) (upd H' p (.lst [.str word, v]))
section
variable {X : Cx}
/-- a reading, and what follows from its end -/
theorem pe_wk {e : Expr} {te : TE} (h : PE X e te) : PE X e (fun σ H Q => ∃ R : VK, te σ H R ∧ ∀ v H', R v H' → Q v H') :=
  ⟨fun pins s σ H Q I w => by
    obtain ⟨R, w1, w2⟩ := w
    exact wpAny_mono (h.run pins s σ H R I w1) (fun u s' z => by obtain ⟨v, H', I', r, q⟩ := z; exact ⟨v, H', I', r, w2 v H' q⟩) fun _ _ z => z⟩
theorem told_gives3 {x a got e srt word : Str} {x1 x2 x3 : Str} {sg : Scope} {g fS : Addr} {fdS : FuncData} {psS : List Str} {spS : Sp} {c1 c2 c3 cdg : Value} {q : Str} {j k kk : Nat} {n1 n2 n3 n4 n5 n6 n7 n8 n9 m1 m2 m3 m4 m5 m6 m7 m8 m9 : Pos}
    (hG : X.A.guards = some []) (hr : Room (k + 1) X.A) (F : FnS X.prog X.w X.K X.mg X.base C8.CX0 k fS fdS psS spS)
    (S : FnScope [a, got, e] [a] sg) (h1 : sg.names.lookup x1 = some .globalImplicit) (h2 : sg.names.lookup x2 = some .globalImplicit) (h3 : sg.names.lookup x3 = some .globalImplicit) (hs : sg.names.lookup srt = some .globalImplicit)
    (g1 : X.mg x1 = some c1) (g2 : X.mg x2 = some c2) (g3 : X.mg x3 = some c3) (gs : X.mg srt = some (.ref fS)) (ks : PySem.W.keepIn X.K (.ref fS) = true) (bs : L2.Binds X.K fdS psS [])
    (lg : sg.names.lookup got = some .local) (le : sg.names.lookup e = some .local)
    (d1 : (x1 == ("__debug__" : Str)) = false) (d2 : (x2 == ("__debug__" : Str)) = false) (d3 : (x3 == ("__debug__" : Str)) = false) (ds : (srt == ("__debug__" : Str)) = false)
    (de : (e == ("__debug__" : Str)) = false) (ce : (e == ("__classdict__" : Str)) = false) (dg : (got == ("__debug__" : Str)) = false) (cg : (got == ("__classdict__" : Str)) = false) :
    GivesTo X [a, got, e] x sg g cdg [.Try [.Assign [.Name got n1] (.Call (.Name a n2) [] [] n3) n4] [.ExceptHandler (some (.Tuple [.Name x1 n5, .Name x2 n6, .Name x3 n7] kk n8)) (some e) [.Return (some (.Call (.Name srt m1) [.Name e m2] [] m3)) m4] m5] [] [] m6, .Return (some (.List [.Constant (.str word) j m7, .Name got m8] m9)) n9] a q
      (TTold3 X.K c1 c2 c3 spS word) := by
  intro f c' s H Q tl act hc h
  refine ⟨_, pss_cons (ps_try_as3 (X := (cxOf C8.CX0 X.prog X.w X.K X.mg X.base [a, got, e] x sg g cdg X.A X.stack s H C8.E0).nox) (i := 2)
      (tb := fun W D σ H => ∃ Ech : XK, (∀ cls d σ' H', Ech cls d H' → W cls d σ' H') ∧ σ[0]? = some (some (.ref f)) ∧ H c' = some (CodeO c' q) ∧ ∃ R : VK, tl Ech H R ∧ ∀ v H1, R v H1 → D.nx (σ.set 1 (some v)) H1)
      (Wout := fun _ _ _ _ => False) rfl rfl S.nd rfl le ⟨h1, g1⟩ ⟨h2, g2⟩ ⟨h3, g3⟩ LamX.takes0 (fun W pn xe tk hp => ?_)
      (fun b oe cls d pn hB hz hf => pss_one (ps_ret (pe_exc (a := b) (oe := oe) (E := C8.E0) (List.mem_cons_self) hB F hG ?_ hs gs ks bs (fun _ _ _ _ z => z.elim) (pa_cons (pe_var (i := 2) rfl (.inl le) de ce) pa_nil) ds))) d1 d2 d3) (pss_one (ps_ret (pe_lst (pa_cons pe_str (pa_cons (pe_var (i := 1) rfl (.inl lg) dg cg) pa_nil))))), ?_⟩
  · refine ⟨fun pins s' σ H' D I h' => ?_⟩
    obtain ⟨Ech, hW, w1, w2, R, w3, w4⟩ := h'
    exact (pss_one (ps_set (i := 1) S.nd rfl (Or.inl lg) (pe_wk (act W pn xe Ech n2 n3 tk hW)))).run pins s' σ H' D I ⟨R, ⟨w1, w2, w3⟩, w4⟩
  · exact ⟨(hr.deeper (envOfC x sg s.heap.objs.size g cdg)).dp, (hr.deeper (envOfC x sg s.heap.objs.size g cdg)).un⟩
  · refine ⟨_, fun cls d σ' H' w => ?_, rfl, hc, _, h, fun v H1 w => ?_⟩
    · obtain ⟨b, e1, e2, e3⟩ := w
      refine ⟨b, e1, fun hb a' oe hl na hz hf => ?_, fun hb => (e3 hb).elim⟩
      refine ⟨.ref a', ?_, e2 hb a' oe na hz hf⟩
      rw [List.getElem?_set_self (by rw [hl]; show 2 < 3; decide)]
    · exact ⟨v, rfl, by show 2 ≤ sizeLine; decide, w⟩
end
end RK

/-! an own exception class over ValueError, from facts that are looked up -/
namespace RK
open PySem PySem.Spec PyProof.Rows L2
/-- the shape of its class object -/
def oexS (C : Addr) (cd : ClassData) (sl : Array (Option Value)) : Bool := match cd.mro, sl.toList with
  | .ref C' :: bm, [_, _, _, _, some (.builtin n), _] => decide (C' = C) && decide (n = "ValueError.__new__") && !cd.hasDel && cd.hasDict && PySem.HandSPX.refsVE bm
  | _, _ => false
theorem oex_mk {K : PySem.W.Frag} {C : Addr} {dd : Option Addr} {cd : ClassData} {sl : Array (Option Value)} (l : K.lookup C = some ⟨.type "type", dd, .cls cd, sl⟩) (y : oexS C cd sl = true)
    (sa : PySem.W.findIn K (.ref C) "__setattr__" = some (some (.builtin "object.__setattr__"))) (ex : PySem.W.subIn K (.ref C) (.type "BaseException") = some true) (ty : PySem.W.typeIn K (.ref C) = some (.type "type")) (kc : PySem.W.keepIn K (.ref C) = true) : OexC K C := by
  refine ⟨?_, sa, ex, ty, kc⟩
  unfold oexS at y
  split at y
  · rename_i C' bm k0 k1 k2 k3 n k5 em es
    obtain ⟨ls⟩ := sl
    dsimp only at es
    subst es
    obtain ⟨nm, bs, mro, ns, qn, hd, sn, sub, ab, col, del⟩ := cd
    dsimp only at em y
    subst em
    obtain ⟨y, rv⟩ := Bool.and_eq_true_iff.mp y
    obtain ⟨y, y1⟩ := Bool.and_eq_true_iff.mp y
    obtain ⟨y, y2⟩ := Bool.and_eq_true_iff.mp y
    obtain ⟨y3, y4⟩ := Bool.and_eq_true_iff.mp y
    obtain rfl := of_decide_eq_true y3
    obtain rfl := of_decide_eq_true y4
    cases hd with
    | false => cases y1
    | true =>
      cases del with
      | true => cases y2
      | false => exact ⟨nm, qn, ns, bs, bm, sn, sub, ab, col, dd, k0, k1, k2, k3, k5, l, rv⟩
  · cases y
/-- xs.count(True), xs a list of truths -/
def rCntB (K : PySem.W.Frag) : V → List V → Hp → VK → Prop := fun x xs H Q => ∃ (p : Addr) (bs : List Bool), x = .ref p ∧ xs = [.bl true] ∧ SqL K H p (bs.map V.bl) ∧ Q (.int (bs.count true : Nat)) H
def isTrue (v : Value) : Bool := match v with
  | .bool b => b == true
  | _ => false
theorem bools_of : ∀ {bs : List Bool} {us : List Value}, Vals (bs.map V.bl) us → us = bs.map Value.bool
  | [], _, .nil => rfl
  | b :: r, _, .cons h t => by
    cases h
    rw [bools_of t]
    rfl
theorem count_true : ∀ bs : List Bool, (bs.map Value.bool).countP isTrue = bs.count true
  | [] => rfl
  | b :: r => by
    rw [List.map_cons, List.countP_cons, List.count_cons, count_true r]
    cases b <;> rfl
theorem mt_countB {X : Cx} : MtR X "list.count" (rCntB X.K) := by
  intro pins s σ H x xs v us Q I rx rxs h
  obtain ⟨p, bs, rfl, rfl, hs, q⟩ := h
  cases rx
  obtain ⟨u, rfl, ru⟩ := rxs.one
  cases ru
  obtain ⟨its, rv, ⟨⟨cls, dd, data, sl⟩, n, ho, hc, _, hd⟩, _⟩ := I.list hs
  dsimp only at hc hd
  subst hc hd
  obtain rfl := bools_of rv
  refine call_meets PySem.F.slot_list_count ⟨_, ho, rfl⟩ PySem.F.entry_list_count (PySem.F.args_list_count_2 _ _) (SeqAt.list_countAt p _ n dd sl (.bool true) isTrue) ⟨ho, fun y hy => ?_, ?_⟩
  · obtain ⟨b, _, rfl⟩ := List.mem_map.mp (show y ∈ bs.map Value.bool by simpa using hy)
    exact SeqAt.EqAt.bool_bool b true
  · exact ⟨.int (bs.count true : Nat), H, I.tok _, ⟨s.toks, by show Value.int (((bs.map Value.bool).countP isTrue : Nat) : Int) s.toks = _; rw [count_true]⟩, q⟩
end RK

/-! str(x) of an instance whose class has an own __str__ -/
namespace RK
open PySem PySem.Spec PyProof.Rows L2
section
variable {prog : Program} {w : World} {A : Around} {E : Value → Shared → Prop} {s : Shared} {K : PySem.W.Frag} {x C f : Addr} {ox : Obj} {od : Option Obj}
theorem strOf_own {Q : Value → Shared → Prop} (hu : A.units < cLine) (KI : K.In s.heap) (I : PySem.W.InstAt s.heap x ox C od) (hs : PySem.W.findIn K (.ref C) "__str__" = some (some (.ref f))) (hf : PySem.W.isFn K (.ref f) = true)
    (h : wpAny (model prog w) A (call (.ref f) [.ref x]) (fun r s1 => ∃ y u, r = Value.str y u ∧ Q r s1) E s) : wpAny (model prog w) A (Builtin.Str.strOf (.ref x)) Q E s := by
  unfold Builtin.Str.strOf
  rw [show Builtin.Str.isExactStr (.ref x) = false from rfl, if_neg Bool.false_ne_true]
  refine wpAny_bind (m := cRoomFor _ _) (wpAny_cRoomFor hu (wpAny_bind (m := callSpecial? (.ref x) (Str.ofString "__str__")) (PySem.W.special_fn KI I hs (beq_iff_eq.mp hf) (wpAny_mono h (fun r s1 z => ?_) fun _ _ y => y))))
  obtain ⟨y, u, rfl, q⟩ := z
  exact wpAny_pure q
theorem str_ownI {Q : Value → Shared → Prop} (hu : A.in1.in1.units < cLine) (KI : K.In s.heap) (I : PySem.W.InstAt s.heap x ox C od) (hs : PySem.W.findIn K (.ref C) "__str__" = some (some (.ref f))) (hf : PySem.W.isFn K (.ref f) = true)
    (h : wpAny (model prog w) A.in1.in1 (call (.ref f) [.ref x]) (fun r s1 => ∃ y u, r = Value.str y u ∧ Q r s1) E s) : wpAny (model prog w) A (call (.type "str") [.ref x]) Q E s := by
  refine callType_codes (T := "str") (Bi := Builtin.«object.__init__») (Q₁ := fun r s1 => ∃ y u, r = Value.str y u ∧ Q r s1) PySem.F.called_str (PySem.F.typeCall_str_1 _) PySem.F.entry_object_init (codeAny_of_tree ?_) (fun obj s1 z => ?_)
  · show wpAny _ A.in1.in1 (do checkBuiltinCall "str.__new__" ⟨[.type "str", .ref x], []⟩; again (.builtin "str.__new__" ⟨[.type "str", .ref x], []⟩)) _ _ s
    refine wpAny_bind (wpAny_of_eq (PySem.F.newCall_str_1 _) (wpAny_pure ⟨plainId_quiet (by decide +kernel) _, codeAny_builtin PySem.F.entry_str_new ?_⟩))
    rw [Around.under_plainId (by decide +kernel) _, str_new_tree (.ref x)]
    refine wpAny_bind (wpAny_pure (wpAny_bind (wpAny_of_eq isSubtype_str_str (wpAny_bind (strOf_own hu KI I hs hf (wpAny_mono h (fun r s1 z => ?_) fun _ _ y => y))))))
    obtain ⟨y, u, rfl, q⟩ := z
    exact ⟨y, u, rfl, wpAny_pure ⟨y, u, rfl, q⟩⟩
  · obtain ⟨y, u, rfl, q⟩ := z
    exact ⟨typeIs_str _ _ _, PySem.F.args_object_init_2 _ _, object_init_meets PySem.F.called_str.init.lookup PySem.F.called_str.made (by decide) prog w A.in1 _ s1 ⟨typeIs_str _ _ _, rfl, q⟩⟩
end
section
variable {X : Cx} {CX : CXT} {n : Nat} {C f : Addr} {fd : FuncData} {ps : List Str} {sp : Sp} {E : XK}
/-- str(x), x an instance of the class at C -/
def rStrO (C : Addr) (sp : Sp) (E : XK) : List V → Hp → VK → Prop := fun xs H Q => ∃ p dx fs, xs = [.ref p] ∧ H p = some (.ins C dx fs) ∧ sp [.ref p] H (fun v H' => ∃ y, v = .str y ∧ Q (.str y) H') E
theorem cr_strO (hs : PySem.W.findIn X.K (.ref C) "__str__" = some (some (.ref f))) (hf : PySem.W.isFn X.K (.ref f) = true) (F : FnOk X.prog X.w X.K X.mg X.base CX n f fd ps sp) (hr : Room (n + 2) X.A) (hb : L2.Binds X.K fd ps []) (hx : Passes CX X E) :
    CallR X (.type "str") (rStrO C sp E) := by
  intro pins s σ H xs us Q I r h
  obtain ⟨p, dx, fs, rfl, hp, q⟩ := h
  obtain ⟨u, rfl, ru⟩ := vals1 r
  cases (show u = Value.ref p from ru)
  obtain ⟨od, J⟩ := inst_at I hp
  have hr2 : Room n X.A.in1.in1 := (Room.in1 (k := n + 1) hr).in1
  have hl := F.len _ _ _ _ q
  have rv : Vals [V.ref p] ([Value.ref p] ++ []) := .cons rfl .nil
  refine str_ownI (by have := hr2.un; omega) I.kIn J hs hf (wpAny_call (codeAny_mono (F.run X.A.in1.in1 X.stack s H ⟨[.ref p], []⟩ ([Value.ref p] ++ []) [.ref p] _ E hr2 I.env0.in1.in1 (hb s [Value.ref p] I.kIn (by rw [List.append_nil]; exact hl)) rv q) fun res s' hq => ?_))
  match res, hq with
  | .error er, hq => exact hx pins σ H s er s' I hq
  | .ok (.ret v), hq =>
    obtain ⟨z, H', I', rz, y, rfl, qz⟩ := I.after hq
    obtain ⟨t, rfl⟩ := rz
    exact ⟨y, t, rfl, .str y, H', I', ⟨t, rfl⟩, qz⟩
  | .ok .next, hq => exact hq.elim
  | .ok .brk, hq => exact hq.elim
  | .ok .cont, hq => exact hq.elim
end
end RK

/-! C.m(e, ..) where m is a staticmethod of the class at C -/
namespace RK
open PySem PySem.Spec PyProof.Rows L2
structure SMet (K : PySem.W.Frag) (C : Addr) (mc : Value) (m : Str) (p g : Addr) : Prop where
  at_ : PySem.W.findCls K (.ref C) mc m = some (.get (.builtin "staticmethod.__get__") (.ref p) .none (.ref C))
  rc : ∃ rest, PySem.W.recIn K p "staticmethod" = some (.ref g :: rest)
  rd : PySem.W.readsIn K C mc = true
  ga : PySem.W.specialIn K (.ref C) "__getattribute__" = some (some (.builtin "type.__getattribute__"))
  kp : PySem.W.keepIn K (.ref g) = true
def tSMeth (C : Addr) (sp : Sp) (E : XK) (ta : TE) (t : TA) : TE := fun σ H Q => ta σ H fun x H1 => x = .ref C ∧ t σ H1 fun vs H2 => sp vs H2 Q E
section
variable {X : Cx} {CX : CXT} {k : Nat} {C p g : Addr} {mc : Value} {m : Str} {fd : FuncData} {ps : List Str} {sp : Sp} {E : XK} {o e : Expr} {es : List Expr} {ta : TE} {t : TA} {apos pos : Pos}
theorem pe_smeth {pl : Sem Bool} (he : PE X o ta) (c : SMet X.K C mc m p g) (F : FnOk X.prog X.w X.K X.mg X.base CX k g fd ps sp) (hr : Room k X.A) (hb : L2.Binds X.K fd ps []) (hx : Passes CX X E) (ha : PA X (e :: es) t)
    (hst : starEach (e :: es) X.env = (false, eval e X.env) :: starEach es X.env := by rfl) (hpl : (backTo pos (starEach es X.env)).any (·.1) = false := by rfl)
    (ht : eval (.Call (.Attribute o m apos) (e :: es) [] pos) X.env = (do
      let ov ← eval o X.env
      standAt apos.atName
      let (f, first) ← holding [ov] (getMethod ov m pl)
      callWith pos f first (backTo pos (starEach (e :: es) X.env)) (backToKw pos (keywordEach [] X.env))) := by rfl) :
    PE X (.Call (.Attribute o m apos) (e :: es) [] pos) (tSMeth C sp E ta t) := by
  refine ⟨fun pins s σ H Q I h => PySem.W.methodCall_KW (pl := pl) (thn (he.run pins s σ H _ I h) fun u s1 hh => ?_) ht⟩
  obtain ⟨x, H1, I1, rx, rfl, q⟩ := hh
  obtain rfl : u = Value.ref C := rx
  obtain ⟨rest, hp⟩ := c.rc
  refine PySem.W.method_cls I1.kIn c.ga (PySem.W.cls_bind I1.kIn c.rd c.at_ (wpAny_call (PySem.W.sm_get (s := { s1 with toks := s1.toks + 1 }) I1.kIn hp (PySem.W.handed_on rfl ?_))))
  have I2 := I1.kept (h' := s1.heap) (t' := s1.toks + 1) fun _ _ z => z
  refine PySem.W.callWith_K (h₀ := X.base) I2.ok.mod.kin c.kp (thn (ha.run pos pins _ σ H1 _ I2 q) fun us s3 hh => ?_) hst hpl
  obtain ⟨vs, H2, I3, rv, q2⟩ := hh
  exact ⟨I3.kIn, run_fn F hr hb .nil hx I3 rv (by rw [List.append_nil]; exact q2)⟩
/-- C.m(k = v, ..) -/
def tSMethK (C : Addr) (ks : List Str) (sp : Sp) (gV : List V → List V → List V) (E : XK) (ta : TE) (tk : TA) : TE := fun σ H Q => ta σ H fun x H1 => x = .ref C ∧ tk σ H1 fun zs H2 => zs.length = ks.length ∧ sp (gV [] zs) H2 Q E
theorem pe_smethK {pl : Sem Bool} {kws : List Keyword} {ks : List Str} {gg : List Value → List Value → List Value} {gV : List V → List V → List V} {tk : TA} (he : PE X o ta) (c : SMet X.K C mc m p g) (F : FnOk X.prog X.w X.K X.mg X.base CX k g fd ps sp) (hr : Room k X.A) (hb : KBn X.K fd ps 0 ks gg gV) (hx : Passes CX X E) (hkw : PK X kws tk)
    (hall : (backToKw pos (keywordEach kws X.env)).all (·.1.isSome) = true := by rfl) (hks : (backToKw pos (keywordEach kws X.env)).filterMap (·.1) = ks := by rfl)
    (hpl : ((backTo pos (starEach [] X.env)).any (·.1) || (backToKw pos (keywordEach kws X.env)).any (·.1.isNone)) = false := by rfl)
    (ht : eval (.Call (.Attribute o m apos) [] kws pos) X.env = (do
      let ov ← eval o X.env
      standAt apos.atName
      let (f, first) ← holding [ov] (getMethod ov m pl)
      callWith pos f first (backTo pos (starEach [] X.env)) (backToKw pos (keywordEach kws X.env))) := by rfl) :
    PE X (.Call (.Attribute o m apos) [] kws pos) (tSMethK C ks sp gV E ta tk) := by
  refine ⟨fun pins s σ H Q I h => PySem.W.methodCall_KW (pl := pl) (thn (he.run pins s σ H _ I h) fun u s1 hh => ?_) ht⟩
  obtain ⟨x, H1, I1, rx, rfl, q⟩ := hh
  obtain rfl : u = Value.ref C := rx
  obtain ⟨rest, hp⟩ := c.rc
  refine PySem.W.method_cls I1.kIn c.ga (PySem.W.cls_bind I1.kIn c.rd c.at_ (wpAny_call (PySem.W.sm_get (s := { s1 with toks := s1.toks + 1 }) I1.kIn hp (PySem.W.handed_on rfl ?_))))
  have I2 := I1.kept (h' := s1.heap) (t' := s1.toks + 1) fun _ _ z => z
  refine PySem.W.callWith_KW0 (first := []) (h₀ := X.base) I2.ok.mod.kin c.kp hall (thn (hkw.run pos pins _ σ H1 _ I2 q) fun ws s3 hh => ?_) hpl
  obtain ⟨zs, H2, I3, rz, l2, q2⟩ := hh
  refine ⟨I3.kIn, ?_⟩
  rw [hks]
  exact run_fnN (us := []) (vs := []) F hr hb hx I3 .nil rz rfl l2 q2
end
end RK

/-! a token that is out, carried through a for, a test and a comprehension; s.replace(y, z, 1) -/
namespace RK
open PySem PySem.Spec PyProof.Rows L2
section
variable {P : Program} {w : World} {K : PySem.W.Frag} {mg : Str → Option Value} {base : Heap} {CX : CXT} {k : Nat} {f : Addr} {fd : FuncData} {N ps : List Str} {sp : Sp} {x qual : Str} {st : Stmt}
/-- a def whose body may use that a token is out -/
theorem funT (F : Fun K x qual st f fd) (S : FnScope N ps (defScope st)) (hn : ∀ y ∈ (defScope st).names, y.2 ≠ .cell) (hp : 1 ≤ ps.length) (len : ∀ vs H Q E, sp vs H Q E → vs.length = ps.length)
    (body : ∀ (cdv : Value) (A : Around) (outer : List Env) (s : Shared) (H : Hp) (vs : List V) (Q : VK) (E : XK), Room k (A.deeper (envOfC qual (defScope st) s.heap.objs.size f cdv)) → sp vs H Q E →
      ∃ t, PSsT (cxOf CX P w K mg base N qual (defScope st) f cdv A outer s H E).nox (defBody st) t ∧ t { nx := fun _ H' => Q .non H', rt := Q } (L2.start N vs) H) : FnOk P w K mg base CX (k + 1) f fd ps sp := by
  obtain ⟨oc, od, kV, doc, pm, an, cdv, ct, osl, rfl, lk, hcd⟩ := F.ex
  exact fn_ofT lk hcd S hn hp len fun A outer s H vs Q E hr q => by
    obtain ⟨t, h1, h2⟩ := body cdv A outer s H vs Q E hr q
    exact ⟨t, fun pins s σ H D h0 I hw => wpAny_mono (h1 pins s σ H D h0 (I.wish _) hw) (fun _ _ q => q.unwish) fun _ _ z => False.elim z, h2⟩
end
/-! ### replace, once -/
def rep1 (x y z : Str) : Str := if ((Builtin.Str.occurrences x y 0 x.length 1).isEmpty || (y.length == 0 && z.length == 0)) = true then x else Builtin.Str.glued z (Builtin.Str.partsBetween x (Builtin.Str.occurrences x y 0 x.length 1) y.length)
def tRep1 (to : TE) (y z : Str) : TE := fun σ H Q => to σ H fun v H1 => ∃ x, v = .str x ∧ x.length ≤ 10000 ∧ Q (.str (rep1 x y z)) H1
theorem gives_rep1 (x y z : Str) (t u v c : Tok) (h0 : (u == 0 || v == 0) = false) (h1 : (u == v) = false) (h2 : (y == z) = false) (h3 : Builtin.Str.tooLong (x.length + (Builtin.Str.occurrences x y 0 x.length 1).length * z.length) = false) :
    Gives (Builtin.«str.replace» ⟨[.str x t, .str y u, .str z v, .int 1 c], []⟩) (if ((Builtin.Str.occurrences x y 0 x.length 1).isEmpty || (y.length == 0 && z.length == 0)) = true then .val (.str x t) else .str (Builtin.Str.glued z (Builtin.Str.partsBetween x (Builtin.Str.occurrences x y 0 x.length 1) y.length))) := by
  have e : Builtin.«str.replace» ⟨[.str x t, .str y u, .str z v, .int 1 c], []⟩ = (if ((Builtin.Str.occurrences x y 0 x.length 1).isEmpty || (y.length == 0 && z.length == 0)) = true then (do rule "str.replace.nothing"; ret (.str x t)) else
      (do let same ← isSame (.str y u) (.str z v)
          if same = true then (do rule "str.replace.old-is-new"; ret (.str x t)) else
          if Builtin.Str.tooLong (x.length + (Builtin.Str.occurrences x y 0 x.length 1).length * z.length) = true then unsupported "str.replace:memory" else
          retStr (Builtin.Str.glued z (Builtin.Str.partsBetween x (Builtin.Str.occurrences x y 0 x.length 1) y.length)))) := by
    show (do let limit ← Builtin.Str.countLimit "str.replace" (some (.int 1 c)) (x.length + 1); _) = _
    rw [countLimit_int "str.replace" 1 c (x.length + 1) (by decide)]
    rfl
  rw [e]
  cases hc : ((Builtin.Str.occurrences x y 0 x.length 1).isEmpty || (y.length == 0 && z.length == 0))
  · rw [isSame_str_other y z u v h0 h1 h2, h3]
    exact .of_eq rfl
  · exact .rule (.of_eq rfl)
theorem glued1_len (x y z : Str) : (Builtin.Str.glued z (Builtin.Str.partsBetween x (Builtin.Str.occurrences x y 0 x.length 1) y.length)).length ≤ x.length + z.length := by
  have self := congrArg Str.length (StrLaws.glued_between_self x y 1)
  rw [size_glued, length_partsBetween] at self
  rw [size_glued, length_partsBetween]
  have few := StrLaws.occ_length_le x y 0 x.length 1
  rw [Nat.add_sub_cancel] at self ⊢
  have cut : (Builtin.Str.occurrences x y 0 x.length 1).length * z.length ≤ 1 * z.length := Nat.mul_le_mul_right _ few
  omega
theorem thnT {α : Type} {t : Sem α} {Q Q' : α → Shared → Prop} {M : Model} {A : Around} {E : Value → Shared → Prop} {s : Shared} {n : Nat} (hn : n ≤ s.toks) (h : wpAny M A t Q E s) (k : ∀ a s', n ≤ s'.toks → Q a s' → Q' a s') : wpAny M A t Q' E s :=
  wpAny_mono (wpAny_toks_of hn h) (fun a s' z => k a s' z.1 z.2) fun _ _ z => z.2
section
variable {X : Cx} {o e : Expr} {to te : TE} {y z : Str} {j k l : Nat} {c0 c1 c2 apos pos : Pos}
theorem pet_rep1 (ho : PE X o to) (hyz : (y == z) = false := by decide) (hz : z.length ≤ 100 := by decide)
    (hst : starEach [.Constant (.str y) j c0, .Constant (.str z) k c1, .Constant (.int 1) l c2] X.env = [(false, eval (.Constant (.str y) j c0) X.env), (false, eval (.Constant (.str z) k c1) X.env), (false, eval (.Constant (.int 1) l c2) X.env)] := by rfl)
    (hb : attributeBase o "replace" X.env (eval o X.env) = eval o X.env := by rfl) (hl : (apos.endLine == pos.line) = true := by rfl)
    (hf : ((backTo pos (starEach [.Constant (.str y) j c0, .Constant (.str z) k c1, .Constant (.int 1) l c2] X.env)).all (fun x => !x.1) && (backToKw pos (keywordEach [] X.env)).all (fun x => x.1.isSome) && decide ([(Expr.Constant (.str y) j c0), .Constant (.str z) k c1, .Constant (.int 1) l c2].length + ([] : List Keyword).length + (if ([] : List Keyword).isEmpty then 0 else 1) < 30)) = true := by rfl) :
    PET X (.Call (.Attribute o "replace" apos) [.Constant (.str y) j c0, .Constant (.str z) k c1, .Constant (.int 1) l c2] [] pos) (tRep1 to y z) := by
  intro pins s σ H Q h0 I h
  refine wpAny_Call_method_late hb hf hl rfl (thnT h0 (ho.run pins s σ H _ I h) fun v s1 t1 q => ?_)
  obtain ⟨v', H1, I1, r1, x, rfl, hx, q⟩ := q
  obtain ⟨tx, rfl⟩ := r1
  rw [hst]
  refine ⟨"str", _, PySem.F.plainAttrs_str, PySem.F.slot_str_replace, PySem.F.type_str_replace, typeIs_str _ _ _, (fun _ e => nomatch e), Calls.callWith_builtin rfl (Calls.evalArgs_plain ?_)⟩
  show wpAny _ _ (spliced [(false, eval (.Constant (.str y) j c0) X.env), (false, eval (.Constant (.str z) k c1) X.env), (false, eval (.Constant (.int 1) l c2) X.env)]) _ _ _
  refine Calls.spliced_cons (Calls.Constant_str (Calls.spliced_cons (Calls.Constant_str (Calls.spliced_cons (wpAny_Constant_int (Calls.spliced_nil ?_))))))
  have hlong : Builtin.Str.tooLong (x.length + (Builtin.Str.occurrences x y 0 x.length 1).length * z.length) = false := by
    have h1 := StrLaws.occ_length_le x y 0 x.length 1
    have h2 : (Builtin.Str.occurrences x y 0 x.length 1).length * z.length ≤ 1 * z.length := Nat.mul_le_mul_right _ h1
    unfold Builtin.Str.tooLong sizeLine
    exact decide_eq_false (by omega)
  refine call_gives F.slot_str_replace (typeIs_str _ _ _) F.entry_str_replace (F.args_str_replace_4 _ _ _ _) (gives_rep1 x y z tx _ _ _ ?_ ?_ hyz hlong) ?_
  · have a1 : s1.toks ≠ 0 := by omega
    have a2 : s1.toks + 1 ≠ 0 := by omega
    simp [a1, a2]
  · have a3 : s1.toks ≠ s1.toks + 1 := by omega
    simp [a3]
  · unfold rep1 at q
    split
    · rename_i c
      rw [if_pos c] at q
      exact ⟨.str x, H1, I1.tok _, ⟨tx, rfl⟩, q⟩
    · rename_i c
      rw [if_neg c] at q
      refine ⟨?_, ⟨.str _, H1, I1.tok _, ⟨_, rfl⟩, q⟩⟩
      have hg := glued1_len x y z
      show _ ≤ sizeLine
      unfold sizeLine
      omega
end
/-! ### for, a token out ahead of each turn -/
section
variable {X : Cx}
theorem pst_forT {tg iter : Expr} {body : List Stmt} {wi : TI} {g : TG} {tb : TS} {pos : Pos} (hp : PassesOwn (model X.prog X.w) X.A X.env X.xe) (hc : X.calm = true) (hi : PI X tg iter wi) (hg : PG X tg g) (hb : PSsT X body tb)
    (hs : ∀ x, foldedSetIterable iter X.env x = pure x := by intro _; rfl) : PST X (.For tg iter body [] pos) (tFor wi g tb) := by
  intro pins s σ H D h0 I h
  refine wpAny_For (thnT h0 (hi.run pins s σ H _ I h) fun v s1 t1 hv => thnT t1 hv fun itv s2 t2 hx => ?_) hs
  obtain ⟨it, fp, tn, J, H2, rfl, I2, T, b2, f2, W, ⟨m0, w0⟩, turn⟩ := hx
  have free_ : ∀ {H' : Hp}, (∀ b ∈ fp, H' b = none) → ∀ b ∈ fp, FpOk X pins H' b := fun n b m => ⟨n b m, (f2 b m).2⟩
  refine codeAny_forLoop_any (fun n z => 1 ≤ z.toks ∧ ∃ i τ G, Inv X pins τ G z ∧ tn i z.heap ∧ (∀ b ∈ fp, G b = none) ∧ W i n τ G) (fun n z hz => ?_) m0 ⟨t2, 0, σ, H2, I2, b2, fun b m => (f2 b m).1, w0⟩
  obtain ⟨tz, i, τ, G, J3, b3, n3, w3⟩ := hz
  have back : ∀ {z' y' : Shared} {τ' : L2.St} {G' : Hp} {N : L2.St → Hp → Prop}, 1 ≤ z'.toks → tn (i + 1) y'.heap → (∀ σ H, N σ H → ∃ m', m' < n ∧ W (i + 1) m' σ H) → Inv X (pins ++ pinsAt fp y'.heap) τ' G' z' → N τ' G' →
      ∃ m, m < n ∧ 1 ≤ z'.toks ∧ ∃ i τ G, Inv X pins τ G z' ∧ tn i z'.heap ∧ (∀ b ∈ fp, G b = none) ∧ W i m τ G := fun {z' y' τ' G' N} tz' by' hN J' nn => by
    obtain ⟨m', hm, w'⟩ := hN _ _ nn
    have at_ : ∀ b ∈ fp, ∀ ob, y'.heap.get? b = some ob → z'.heap.get? b = some ob ∧ G' b = none := fun b mb ob eb => by
      have q := J'.pin (b, ob) (List.mem_append_right _ (List.mem_append_right _ (mem_pinsAt mb eb)))
      exact ⟨q.1, q.2.1⟩
    refine ⟨m', hm, tz', i + 1, τ', G', J'.unpinned, T.keep _ _ _ by' fun b mb ob eb => (at_ b mb ob eb).1, fun b mb => ?_, w'⟩
    obtain ⟨ob, eb, _⟩ := T.obj _ _ by' b mb
    exact (at_ b mb ob eb).2
  rcases turn i n τ G w3 with ⟨stop, qn⟩ | ⟨go, N, hN, step⟩
  · refine wpAny_passesOwn hp (thn (T.done X rfl rfl rfl hc i pins z τ G X.xe J3 (free_ n3) b3 stop) fun r z1 hr => ?_)
    obtain ⟨rfl, J4⟩ := hr
    exact wpAny_execs_nil ⟨τ, G, J4, qn⟩
  · refine wpAny_passesOwn hp (thnT tz (T.item X rfl rfl rfl hc i pins z τ G X.xe J3 (free_ n3) b3 go) fun r z1 t4 hr => ?_)
    obtain ⟨u, rfl, hu⟩ := hr
    refine wpAny_passesOwn hp (thnT t4 hu fun _ z2 t5 hx => ?_)
    obtain ⟨x, G5, J5, r5, y5, b5, n5⟩ := hx
    have J5' := J5.pinned (free_ n5) (T.obj _ _ b5)
    refine wpAny_passesOwn hp (thnT t5 (hg.run _ z2 τ G5 x u _ J5' r5 (step x G5 y5)) fun _ z3 t6 hx => ?_)
    obtain ⟨τ6, G6, J6, q6⟩ := hx
    refine wpAny_passesOwn hp (thnT t6 (hb _ z3 τ6 G6 _ t6 J6 q6) fun fl z4 t7 q7 => ?_)
    cases fl with
    | next => obtain ⟨τ7, G7, J7, n7⟩ := q7; exact back t7 b5 hN J7 n7
    | cont => obtain ⟨τ7, G7, J7, n7⟩ := q7; exact back t7 b5 hN J7 n7
    | brk => obtain ⟨τ7, G7, J7, q7⟩ := q7; exact ⟨τ7, G7, J7.unpinned, q7⟩
    | ret v => obtain ⟨x7, τ7, G7, J7, r7, q7⟩ := q7; exact ⟨x7, τ7, G7, J7.unpinned, r7, q7⟩
end
/-! ### a comprehension over a text whose reckoning wants a token -/
section
variable {X : Cx}
theorem pet_lcS {elt tg iter : Expr} {ifs : List Expr} {scope : Scope} {own : List (Str × Nat)} {pos : Pos} {ti : TE} {g : TG} {tt : TT} {te : TE} (hc : X.calm = true) (hN : X.N.Nodup) (hi : PET X iter ti) (ok : BlkOk X.N X.env.scope scope own)
    (hg : ∀ s H C cl fp, PG (X.blk s H scope (compEnvC scope cl C X.env) fp) tg g) (ht : ∀ s H C cl fp, PTs (X.blk s H scope (compEnvC scope cl C X.env) fp) ifs tt) (he : ∀ s H C cl fp, PE (X.blk s H scope (compEnvC scope cl C X.env) fp) elt te)
    (hs : ∀ x, foldedSetIterable iter X.env x = pure x := by intro _; rfl) : PET X (.ListComp elt [⟨tg, iter, ifs, 0⟩] scope pos) (tLc (iStr ti) g tt te (own.map (·.2))) := by
  intro pins s σ H Q h0 I h
  rw [eval_ListComp]
  have closed := closure_ok (scope := scope) (env := X.env) fun y hy e => (ok.free y hy e).elim (fun c => I.ok.has _ (.inl c)) fun c => I.ok.has _ (.inr c)
  refine wpAny_comprehension_free (use := none) rfl hs closed ok.kind (fun y hy e => (ok.uniq y hy).trans (by rw [e])) (thn (hi pins s σ H _ h0 I h) fun v s1 hv => ?_)
  obtain ⟨_, H1, I1, r1, x, rfl, q⟩ := hv
  obtain ⟨t, rfl⟩ := r1
  have rest : ∀ itv s2, PIE X pins σ tg (fun J G => ∀ D, G D = none → ∃ W : Nat → Nat → Hp → Prop, (∃ m, W 0 m (upd G D (.lst []))) ∧ ∀ i m F, W i m F →
      (J.stop i F ∧ Q (.ref D) F) ∨ (J.go i F ∧ ∃ Nx : Hp → Prop, (∀ F', Nx F' → ∃ m', m' < m ∧ W (i + 1) m' F') ∧ ∀ x F', J.yld i F x F' → g x (wipe σ (own.map (·.2))) F' fun σ2 F2 => wipe σ2 (own.map (·.2)) = wipe σ (own.map (·.2)) ∧ tt σ2 F2 fun b F3 =>
        if b = true then te σ2 F3 fun y F4 => ∃ acc, F4 D = some (.lst acc) ∧ acc.length < sizeLine ∧ Nx (upd F4 D (.lst (acc ++ [y]))) else Nx F3)) itv s2 →
      wpAny (model X.prog X.w) X.A (newList []) (fun acc s3 => wpAny (model X.prog X.w) X.A (newFunctionEnv scope X.env.globals (cloFrom X.env.cells scope.names []) [] X.env.qual none .none (some X.env)) (fun cenv s4 =>
        codeAny (model X.prog X.w) X.A (.compStart (.ListComp elt [⟨tg, iter, ifs, 0⟩] scope pos) 0 itv acc { cenv with scope := relabel scope X.env }) (compPost (model X.prog X.w) X.A X.xe none (EP X pins σ Q) acc cenv.locals) s4) X.xe s3) X.xe s2 := by
    intro itv s2 hP
    obtain ⟨it, fp, tn, J, H2, rfl, I2, T, b2, f2, q⟩ := hP
    refine wpAny_newObj_type (newEnv_comp ?_) (Nat.zero_le _)
    have nD : H2 s2.heap.objs.size = none := I2.hok.fresh (Nat.le_refl _)
    obtain ⟨W, ⟨m0, w0⟩, turn⟩ := q _ nD
    have I3 : Inv X pins σ (upd H2 s2.heap.objs.size (.lst [])) { s2 with heap := s2.heap.push { cls := .type "list", data := .seq ([] : List Value).toArray } } :=
      I2.laid (t' := s2.toks) (fun b o e => Heap.get?_push_of_some _ e) (Nat.le_refl _) ⟨Nat.zero_le _, [], 0, .nil, Heap.get?_push_size _ rfl⟩
    have old : ∀ b ∈ fp, b < s2.heap.objs.size := fun b hb => by
      obtain ⟨o, e, _⟩ := T.obj _ _ b2 b hb
      exact Heap.lt_size e
    have b3 : tn 0 (s2.heap.push { cls := .type "list", data := .seq ([] : List Value).toArray }) := T.keep _ _ _ b2 fun b _ o e => Heap.get?_push_of_some _ e
    have f3 : ∀ b ∈ fp, FpOk X pins (upd H2 s2.heap.objs.size (.lst [])) b := fun b hb => ⟨by rw [upd_ne (Nat.ne_of_lt (old b hb))]; exact (f2 b hb).1, (f2 b hb).2⟩
    have l3 : ∀ b ∈ fp, b < (s2.heap.push { cls := .type "list", data := .seq ([] : List Value).toArray }).objs.size := fun b hb => by
      rw [Heap.size_push]
      exact Nat.lt_succ_of_lt (old b hb)
    generalize s2.heap.objs.size = D at *
    show codeAny _ _ _ _ { ({ s2 with heap := s2.heap.push { cls := .type "list", data := .seq ([] : List Value).toArray } } : Shared) with heap := pushCells ((s2.heap.push { cls := .type "list", data := .seq ([] : List Value).toArray }).push { cls := .type "dict", data := .dict #[] }) scope.names }
    generalize hs3 : ({ s2 with heap := s2.heap.push { cls := .type "list", data := .seq ([] : List Value).toArray } } : Shared) = s3 at I3 ⊢
    have hh : s2.heap.push { cls := .type "list", data := .seq ([] : List Value).toArray } = s3.heap := by rw [← hs3]
    rw [hh] at b3 l3 ⊢
    generalize upd H2 D (.lst []) = H3 at *
    have I4 := block_start I3 ok hN fun b hb => ⟨f3 b hb, l3 b hb⟩
    have G_ := hg s3 H3 s3.heap.objs.size (cellsFrom (s3.heap.objs.size + 1) scope.names (cloFrom X.env.cells scope.names [])) fp
    have T_ := ht s3 H3 s3.heap.objs.size (cellsFrom (s3.heap.objs.size + 1) scope.names (cloFrom X.env.cells scope.names [])) fp
    have E_ := he s3 H3 s3.heap.objs.size (cellsFrom (s3.heap.objs.size + 1) scope.names (cloFrom X.env.cells scope.names [])) fp
    show codeAny _ _ (.compStart _ 0 (.ref it) (.ref D) (compEnvC scope (cellsFrom (s3.heap.objs.size + 1) scope.names (cloFrom X.env.cells scope.names [])) s3.heap.objs.size X.env)) (compPost _ _ _ none (EP X pins σ Q) (.ref D) s3.heap.objs.size) { s3 with heap := pushCells (s3.heap.push { cls := .type "dict", data := .dict #[] }) scope.names }
    have here : (compEnvC scope (cellsFrom (s3.heap.objs.size + 1) scope.names (cloFrom X.env.cells scope.names [])) s3.heap.objs.size X.env).locals = s3.heap.objs.size := rfl
    generalize compEnvC scope (cellsFrom (s3.heap.objs.size + 1) scope.names (cloFrom X.env.cells scope.names [])) s3.heap.objs.size X.env = ce at I4 G_ T_ E_ here ⊢
    have b4 : tn 0 (pushCells (s3.heap.push { cls := .type "dict", data := .dict #[] }) scope.names) := T.keep _ _ _ b3 fun b _ o e => pushCells_keeps _ _ _ _ (Heap.get?_push_of_some _ e)
    generalize hs4 : ({ s3 with heap := pushCells (s3.heap.push { cls := .type "dict", data := .dict #[] }) scope.names } : Shared) = s4 at I4 ⊢
    have b4' : tn 0 s4.heap := by rw [← hs4]; exact b4
    have its_ : ∀ {τ : L2.St} {G : Hp} {z : Shared}, Inv (X.blk s3 H3 scope ce fp) [] τ G z → (∀ b ∈ fp, G b = none) → ∀ b ∈ fp, FpOk (X.blk s3 H3 scope ce fp) [] G b := fun J n b hb =>
      ⟨n b hb, (J.ok.exf b hb).1, J.ok.exfs b hb, .inl hb, fun c d e => (J.ok.exf b hb).2 c d e, fun p hp => by cases hp⟩
    refine codeAny_compStart_list ?_ (T.self X.A 0 _ _ _ b4' ?_)
    all_goals
      refine compLoop_any (fun n z => ∃ i G, Inv (X.blk s3 H3 scope ce fp) [] (wipe σ (own.map (·.2))) G z ∧ tn i z.heap ∧ (∀ b ∈ fp, G b = none) ∧ W i n G) (fun n z hz => ?_) m0 ⟨0, H3, I4, b4', fun b hb => (f3 b hb).1, w0⟩
      obtain ⟨i, G, J5, b5, n5, w5⟩ := hz
      rcases turn i n G w5 with ⟨stop, qq⟩ | ⟨go, Nx, hNx, step⟩
      · refine thnF (T.done (X.blk s3 H3 scope ce fp) rfl rfl rfl hc i [] z _ G (fun _ _ => False) J5 (its_ J5 n5) b5 stop) fun r z6 hr => ?_
        obtain ⟨rfl, J6⟩ := hr
        have out : Inv X pins σ G z6 := I3.call' (ch := fp) J6.os J6.base J6.hok J6.bare fun b hb => let f := f3 b hb; ⟨f.2.2.2.1, f.2.1, f.2.2.2.2.1, f.2.2.2.2.2⟩
        have gone : G s3.heap.objs.size = none := by rw [← here]; exact J6.free
        obtain ⟨m, names, _⟩ := J6.loc
        obtain ⟨p0, p1, _, p3, p4, p5⟩ := I3.fpOk (H' := G) (Nat.le_refl _) gone
        refine ⟨m, by rw [← here]; exact names, fun hp sb => ⟨.ref D, G, out.turned (t' := z6.toks) (fun b o nb e => (sb.2 b nb).trans e) p0 p1 p3 p4 p5, rfl, qq⟩⟩
      · refine thnF (T.item (X.blk s3 H3 scope ce fp) rfl rfl rfl hc i [] z _ G (fun _ _ => False) J5 (its_ J5 n5) b5 go) fun r z6 hr => ?_
        obtain ⟨u, rfl, hu⟩ := hr
        refine thnF hu fun _ z7 hx => ?_
        obtain ⟨y, G7, J7, r7, y7, b7, n7⟩ := hx
        have J7' := J7.pinned (its_ J7 n7) (T.obj _ _ b7)
        refine thnF (G_.run _ z7 _ G7 y u _ J7' r7 (step y G7 y7)) fun _ z8 hx => ?_
        obtain ⟨τ8, G8, J8, e8, q8⟩ := hx
        refine thnF (T_.run _ z8 τ8 G8 _ J8 q8) fun b z9 hx => ?_
        obtain ⟨G9, J9, q9⟩ := hx
        have turn_ : ∀ {z' : Shared} {G' : Hp}, Inv (X.blk s3 H3 scope ce fp) ([] ++ pinsAt fp z7.heap) τ8 G' z' → Nx G' → ∃ m, m < n ∧ ∃ i G, Inv (X.blk s3 H3 scope ce fp) [] (wipe σ (own.map (·.2))) G z' ∧ tn i z'.heap ∧ (∀ b ∈ fp, G b = none) ∧ W i m G := fun {z' G'} J' nx => by
          obtain ⟨m', hm, w'⟩ := hNx G' nx
          have at_ : ∀ b ∈ fp, ∀ o, z7.heap.get? b = some o → z'.heap.get? b = some o ∧ G' b = none := fun b hb o e => by
            have p := J'.pin (b, o) (List.mem_append_right _ (List.mem_append_right _ (mem_pinsAt hb e)))
            exact ⟨p.1, p.2.1⟩
          refine ⟨m', hm, i + 1, G', (J'.unpinned (pins := [])).weak (by rw [← e8, wipe_length]) (fun j v e => ?_), T.keep _ _ _ b7 fun b hb o e => (at_ b hb o e).1, fun b hb => ?_, w'⟩
          · rw [← e8] at e
            exact (wipe_some e).1
          · obtain ⟨o, e, _⟩ := T.obj _ _ b7 b hb
            exact (at_ b hb o e).2
        cases b with
        | false =>
          rw [if_neg (by decide)] at q9 ⊢
          exact turn_ J9 q9
        | true =>
          rw [if_pos rfl] at q9 ⊢
          refine thnF (E_.run _ z9 τ8 G9 _ J9 q9) fun v' z10 hx => ?_
          obtain ⟨yv, G10, J10, r10, acc, a1, a2, nx⟩ := hx
          exact app_ok (X := X.blk s3 H3 scope ce fp) J10 a1 a2 r10 fun z11 J11 => turn_ J11 nx
  cases ha : x.cps.all (· < 128)
  · exact wpAny_pyIter_wide ha (rest _ _ (pi_one (tk := s1.toks) I1 _ (turn_str _ x t "str_iterator" (.inr rfl)) ⟨_, Heap.get?_push_size _ rfl, rfl, rfl⟩ q))
  · exact wpAny_pyIter_ascii ha (rest _ _ (pi_one (tk := s1.toks) I1 _ (turn_str _ x t "str_ascii_iterator" (.inl rfl)) ⟨_, Heap.get?_push_size _ rfl, rfl, rfl⟩ q))
end
/-! ### a test that wants a token -/
section
variable {X : Cx} {a b c : Expr} {ta tb : TE} {pos : Pos}
def PTT (X : Cx) (e : Expr) (t : TT) : Prop :=
  ∀ (pins : List (Addr × Obj)) (s : Shared) (σ : L2.St) (H : Hp) (Q : Bool → Hp → Prop), 1 ≤ s.toks → Inv X pins σ H s → t σ H Q → wpAny (model X.prog X.w) X.A (PySem.isTrue e X.env (eval e X.env)) (TP X pins σ Q) X.xe s
theorem ptt_cmp {op : CmpOp} {r : R2} (ho : OpR X (compareOp op) r) (ha : PET X a ta) (hb : PE X b tb) (hm : behindInMarks op b = false) : PTT X (.Compare a [op] [b] pos) (tTest (tOp r ta tb)) := by
  intro pins s σ H Q h0 I h
  refine wpAny_isTrue_Compare1 (thn (ha pins s σ H _ h0 I h) fun v s1 hv => ?_) hm
  obtain ⟨x, H1, I1, r1, q1⟩ := hv
  refine thn (hb.run pins s1 σ H1 _ I1 q1) fun u s2 hu => ?_
  obtain ⟨y, H2, I2, r2, q2⟩ := hu
  refine thn (ho pins s2 σ H2 x y v u _ I2 r1 r2 q2) fun d s3 hd => ?_
  obtain ⟨_, H3, I3, r3, k, rfl, q3⟩ := hd
  cases r3
  exact wpAny_truthy_bool ⟨H3, I3, q3⟩
theorem pst_ifT {ss us : List Stmt} {tc : TT} {t u : TS} (hc : PTT X c tc) (ha : PSsT X ss t) (hb : PSsT X us u) : PST X (.If c ss us pos) (tIfS tc t u) := by
  intro pins s σ H D h0 I h
  refine wpAny_If (thnT h0 (hc pins s σ H _ h0 I h) fun d s1 t1 hd => ?_)
  obtain ⟨H1, I1, q1⟩ := hd
  cases d with
  | true => exact ha pins s1 σ H1 D t1 I1 q1
  | false => exact hb pins s1 σ H1 D t1 I1 q1
end
end RK

/-! a def that makes lambdas for told; what is kept by one -/
namespace RK
open PySem PySem.Spec PyProof.Rows L2 LamX
section
variable {P : Program} {w : World} {K : PySem.W.Frag} {mg : Str → Option Value} {base : Heap} {CX : CXT} {k : Nat} {f : Addr} {fd : FuncData} {N ps : List Str} {sp : Sp} {x qual : Str} {st : Stmt}
/-- as funG, the body's code object is told -/
theorem funGc {CX : CXT} (F : Fun K x qual st f fd) (S : FnScope N ps (defScope st)) (len : ∀ vs H Q E, sp vs H Q E → vs.length = ps.length)
    (hbody : ∀ (cdv : Value) (A : Around) (outer : List Env) (s : Shared) (H : Hp) (vs : List V) (Q : VK) (E : XK), fd.code = cdv → A.guards = some [] → Room k (A.deeper (envOfC qual (defScope st) s.heap.objs.size f cdv)) → sp vs H Q E →
      ∃ t, PSs (cxOf CX P w K mg base N qual (defScope st) f cdv A outer s H E) (defBody st) t ∧ t { nx := fun _ H' => Q .non H', rt := Q } (L2.start N vs) H) : FnOkG P w K mg base CX (k + 1) f fd ps sp := by
  obtain ⟨oc, od, kV, doc, pm, an, cdv, ct, osl, e, lk, hcd⟩ := F.ex
  subst e
  exact ⟨len, fun A outer s H args us vs Q E hg hr e0 hb r q => LamX.run_ofS lk hcd S hr e0 hb r (len _ _ _ _ q) fun hr' => hbody cdv A outer s H vs Q E rfl hg hr' q⟩
end
/-! ### what a lambda's making keeps -/
theorem tabs_kp {T : List (Addr × Str)} {b : Addr} {H H' : Hp} (k : Kp b H H') (t : Tabs T H) : Tabs T H' := fun p hp => by
  obtain ⟨ps, h1, h2, h3⟩ := t p hp
  obtain ⟨f, s, n, hb⟩ := k.bag
  have other : ∀ {c : Addr} {o : HO}, H c = some o → (∀ xs, o ≠ .lst xs) → H' c = some o := fun {c o} h ne => k.keep c o (fun z => by rw [z, hb] at h; cases h; exact ne _ rfl) h
  refine ⟨ps, other h1 (fun xs z => by cases z), h2, fun pos cv hc => ?_⟩
  obtain ⟨c, e1, e2⟩ := h3 pos cv hc
  exact ⟨c, e1, other e2 fun xs z => by unfold CodeO at z; cases z⟩
theorem Same.ext {H H' : Hp} (e : Same H H') : ExtN H H' := fun b o h _ => e b o h
/-- all stays but the bag's numbers and the tables -/
structure Kb (T : List (Addr × Str)) (b : Addr) (H H' : Hp) : Prop where
  bag : Bag H b
  bag' : Bag H' b
  keep : ∀ c o, c ≠ b → H c = some o → (∀ ps, o ≠ .tbl ps) → H' c = some o
  tabs : Tabs T H'
variable {T : List (Addr × Str)} {b : Addr} {H H1 H2 : Hp}
theorem Kb.refl (h : Bag H b) (t : Tabs T H) : Kb T b H H := ⟨h, h, fun _ _ _ q _ => q, t⟩
theorem Kb.kp (a : Kb T b H H1) (c : Kp b H1 H2) : Kb T b H H2 := ⟨a.bag, c.bag', fun d o n q t => c.keep d o n (a.keep d o n q t), tabs_kp c a.tabs⟩
theorem Kb.same (a : Kb T b H H1) (c : Same H1 H2) : Kb T b H H2 := a.kp (.of a.bag' c)
theorem Kb.ext (a : Kb T b H H1) (c : ExtN H1 H2) (t : Tabs T H2) : Kb T b H H2 := by
  obtain ⟨f, s, n, hb⟩ := a.bag'
  exact ⟨a.bag, ⟨f, s, n, c _ _ hb fun ps z => by cases z⟩, fun d o n q y => c d o (a.keep d o n q y) y, t⟩
theorem Kb.trans (a : Kb T b H H1) (c : Kb T b H1 H2) : Kb T b H H2 := ⟨a.bag, c.bag', fun d o n q y => c.keep d o n (a.keep d o n q y) y, c.tabs⟩
theorem Kb.lst {a : Addr} {xs : List V} (k : Kb T b H H1) (n : a ≠ b) (h : H a = some (.lst xs)) : H1 a = some (.lst xs) := k.keep a _ n h fun ps z => by cases z
theorem Kb.tup {a : Addr} {xs : List V} (k : Kb T b H H1) (h : H a = some (.tup xs)) : H1 a = some (.tup xs) := by
  obtain ⟨f, s, n, hb⟩ := k.bag
  exact k.keep a _ (ne_of h hb (by intro z; cases z)) h fun ps z => by cases z
theorem Kb.ins {a C dx : Addr} {fs : List (Str × V)} (k : Kb T b H H1) (h : H a = some (.ins C dx fs)) : H1 a = some (.ins C dx fs) := by
  obtain ⟨f, s, n, hb⟩ := k.bag
  exact k.keep a _ (ne_of h hb (by intro z; cases z)) h fun ps z => by cases z
/-! ### a list that the law was handed, whatever is made beside it -/
def StL (K : PySem.W.Frag) (c : Addr) (xs : List V) (H : Hp) : Prop := (∀ H', SqL K H' c xs) ∨ ∃ o, H c = some o ∧ (∀ ps, o ≠ .tbl ps) ∧ ∀ H', H' c = some o → SqL K H' c xs
section
variable {K : PySem.W.Frag} {c : Addr} {xs : List V}
theorem StL.of (h : SqL K H c xs) : StL K c xs H := by
  rcases h with (h | ⟨o, h⟩) | h
  · exact .inr ⟨_, h, (fun ps z => by cases z), fun H' h' => .inl (.inl h')⟩
  · exact .inr ⟨_, h, (fun ps z => by cases z), fun H' h' => .inl (.inr ⟨o, h'⟩)⟩
  · exact .inl fun H' => .inr h
theorem StL.sql (s : StL K c xs H) : SqL K H c xs := by
  rcases s with h | ⟨o, h1, _, h3⟩
  · exact h H
  · exact h3 H h1
theorem StL.keep (s : StL K c xs H) (k : ∀ o, H c = some o → (∀ ps, o ≠ .tbl ps) → H1 c = some o) : StL K c xs H1 := by
  rcases s with h | ⟨o, h1, h2, h3⟩
  · exact .inl h
  · exact .inr ⟨o, k o h1 h2, h2, h3⟩
theorem StL.same (s : StL K c xs H) (e : Same H H1) : StL K c xs H1 := s.keep fun o h _ => e _ _ h
/-- a bag is made, and what then keeps all but it and the tables -/
theorem StL.kb {p : Addr} (s : StL K c xs H) (hp : H p = none) (e : Same H H1) (k : Kb T p H1 H2) : StL K c xs H2 := s.keep fun o h t => k.keep _ _ (ne_of_none h hp) (e _ _ h) t
theorem StL.new {D : Addr} {o : HO} (s : StL K c xs H) (hD : H D = none) : StL K c xs (upd H D o) := s.same (w_new hD)
/-- [true, ..]: each element by a bag of its own -/
theorem lc_rngT {lo : Int} {n j : Nat} {W : TI} {te : TE} {vs : List Nat} {σ : L2.St} {Q : VK} (hn : n ≤ 1000) (hwi : ∀ R : It → Hp → Prop, R (Itr lo n) H → W σ H R) (hw : ∀ x, wipe ((wipe σ vs).set j (some x)) vs = wipe σ vs) (hc : StL K c xs H) (ht : Tabs T H)
    (he : ∀ i H', i < n → StL K c xs H' → Tabs T H' → ∀ Q' : VK, (∀ H'', StL K c xs H'' → Tabs T H'' → (∀ D acc, H' D = some (.lst acc) → H'' D = some (.lst acc)) → Q' (.bl true) H'') → te ((wipe σ vs).set j (some (.int (lo + i)))) H' Q')
    (k : ∀ D H', H' D = some (.lst (List.replicate n (.bl true))) → Q (.ref D) H') : tLc W (gName j) tYes te vs σ H Q := by
  refine hwi _ fun D hD => ?_
  refine lc_range (lo := lo) (n := n) (fun i G => G D = some (.lst (List.replicate i (.bl true))) ∧ StL K c xs G ∧ Tabs T G ∧ ∀ o, H c = some o → c ≠ D) ⟨upd_same, hc.new hD, ht.ext (w_new hD), fun o h => ne_of_none h hD⟩ ?_ ?_
  · rintro i G hi ⟨hG, st, tb, ne⟩
    refine ⟨hw _, ?_⟩
    refine w_yes ?_
    rw [if_pos rfl]
    refine he i G hi st tb _ fun G2 st2 tb2 kp => ?_
    have h2 := kp D _ hG
    have up : upd G2 D (.lst (List.replicate i (.bl true) ++ [.bl true])) D = some (.lst (List.replicate (i + 1) (.bl true))) := by rw [upd_same, List.replicate_succ']
    refine ⟨_, h2, by rw [List.length_replicate]; exact Nat.lt_of_lt_of_le (show i < 1001 by omega) (by decide), up, ?_, ?_, ne⟩
    · rcases hc with h | ⟨o, h1, h2, h3⟩
      · exact .inl h
      · have nc := ne _ h1
        exact st2.keep fun o' h' _ => by rw [upd_ne nc]; exact h'
    · exact fun p hp => by
        obtain ⟨ps, t1, t2, t3⟩ := tb2 p hp
        have a1 : p.1 ≠ D := fun z => by rw [z, h2] at t1; cases t1
        refine ⟨ps, by rw [upd_ne a1]; exact t1, t2, fun pos cv hv => ?_⟩
        obtain ⟨d, d1, d2⟩ := t3 pos cv hv
        have a2 : d ≠ D := fun z => by
          rw [z, h2] at d2
          unfold CodeO at d2
          cases d2
        exact ⟨d, d1, by rw [upd_ne a2]; exact d2⟩
  · rintro G ⟨hG, _⟩
    exact k D G hG
theorem all_rep {Q : VK} {D : Addr} {n : Nat} (h : H D = some (.lst (List.replicate n (.bl true)))) (q : Q (.bl true) H) : rAll K [.ref D] H Q := by
  have e : List.replicate n (V.bl true) = (List.replicate n true).map V.bl := by rw [List.map_replicate]
  refine ⟨D, List.replicate n true, rfl, by rw [← e]; exact SqL.of h, ?_⟩
  rw [show (List.replicate n true).all id = true from List.all_eq_true.mpr fun x hx => (List.mem_replicate.mp hx).2]
  exact q
end
/-- the table of the code object at c -/
def tabOf (K : PySem.W.Frag) (c : Addr) : Option Addr := match K.lookup c with
  | some o => (match o.data with
    | .fields vs => (match (vs[11]? : Option Value) with
      | some (.ref P) => some P
      | _ => none)
    | _ => none)
  | none => none
end RK

/-! comprehensions over a list or a tuple, with a target of any form -/
namespace RK
open PySem PySem.Spec PyProof.Rows L2 RZ
theorem seqT_same {K : PySem.W.Frag} {H H' : Hp} {p : Addr} {xs : List V} (e : Same H H') (h : SqT K H p xs) : SqT K H' p xs := by
  rcases h with (h | ⟨o, h⟩) | h
  · exact .inl (.inl (e _ _ h))
  · exact .inl (.inr ⟨o, e _ _ h⟩)
  · exact .inr h
section
variable {K : PySem.W.Frag} {σ : L2.St} {H : Hp} {Q : VK} {g : TG} {te : TE} {vs : List Nat}
/-- [f(x) for x in a list], the target of any form: each element leaves what stood, and gives what P says -/
theorem lc_mapL {l : Addr} {xs : List V} (P : Nat → V → Hp → Prop) (mono : ∀ i v H H', SameT H H' → P i v H → P i v H') (hl : SqL K H l xs) (hlen : xs.length ≤ 1000)
    (he : ∀ (i : Nat) (x : V) (H' : Hp), xs[i]? = some x → Same H H' → ∀ Q' : VK, (∀ v H'', Same H' H'' → P i v H'' → Q' v H'') → g x (wipe σ vs) H' fun σ2 H2 => wipe σ2 vs = wipe σ vs ∧ te σ2 H2 Q')
    (k : ∀ D ys H', H D = none → Same H H' → H' D = some (.lst ys) → ys.length = xs.length → (∀ i v, ys[i]? = some v → P i v H') → Q (.ref D) H') :
    ∀ D, H D = none → ∃ W : Nat → Nat → Hp → Prop, (∃ m, W 0 m (upd H D (.lst []))) ∧ ∀ i m G, W i m G →
      ((Itl K l).stop i G ∧ Q (.ref D) G) ∨ ((Itl K l).go i G ∧ ∃ Nx : Hp → Prop, (∀ G', Nx G' → ∃ m', m' < m ∧ W (i + 1) m' G') ∧ ∀ y G', (Itl K l).yld i G y G' → g y (wipe σ vs) G' fun σ2 H2 => wipe σ2 vs = wipe σ vs ∧ tYes σ2 H2 fun b H3 =>
        if b = true then te σ2 H3 fun y H4 => ∃ acc, H4 D = some (.lst acc) ∧ acc.length < sizeLine ∧ Nx (upd H4 D (.lst (acc ++ [y]))) else Nx H3) := by
  intro D hD
  refine lc_list (K := K) (a := l) (xs := xs) (fun i G => ∃ acc, G D = some (.lst acc) ∧ acc.length = i ∧ Same H G ∧ ∀ m v, acc[m]? = some v → P m v G) ⟨[], upd_same, rfl, w_new hD, fun m v e => by simp at e⟩ (fun i G _ hG => Same.seq (let ⟨_, _, _, e, _⟩ := hG; e) hl) ?_ ?_
  · rintro i x G hx ⟨acc, h1, h2, e, hp⟩
    have hi := (List.getElem?_eq_some_iff.mp hx).1
    refine he i x G hx e (fun y H4 => ∃ acc, H4 D = some (.lst acc) ∧ acc.length < sizeLine ∧ ∃ acc', upd H4 D (.lst (acc ++ [y])) D = some (.lst acc') ∧ acc'.length = i + 1 ∧ Same H (upd H4 D (.lst (acc ++ [y]))) ∧ ∀ m v, acc'[m]? = some v → P m v (upd H4 D (.lst (acc ++ [y])))) fun v H4 e4 pv => ?_
    have h3 := e4 _ _ h1
    refine ⟨acc, h3, Nat.lt_of_lt_of_le (show acc.length < 1001 by omega) (by decide), acc ++ [v], upd_same, by rw [List.length_append, h2]; rfl, RK.Same.updL (e.trans e4) hD, fun m u hu => ?_⟩
    by_cases hm : m < acc.length
    · rw [List.getElem?_append_left hm] at hu
      exact mono m u H4 _ (SameT.upd h3) (mono m u G H4 (.of e4) (hp m u hu))
    · rw [List.getElem?_append_right (by omega)] at hu
      have em : m = acc.length := by
        have := (List.getElem?_eq_some_iff.mp hu).1
        simp at this
        omega
      subst em
      simp at hu
      subst hu
      exact mono _ _ H4 _ (SameT.upd h3) (by rw [h2]; exact pv)
  · rintro G ⟨acc, h1, h2, e, hp⟩
    exact k D acc G hD e h1 h2 hp
/-- [f(x) for x in a tuple], the target of any form: each element leaves what stood, and gives what P says -/
theorem lc_mapT {l : Addr} {xs : List V} (P : Nat → V → Hp → Prop) (mono : ∀ i v H H', SameT H H' → P i v H → P i v H') (hl : SqT K H l xs) (hlen : xs.length ≤ 1000)
    (he : ∀ (i : Nat) (x : V) (H' : Hp), xs[i]? = some x → Same H H' → ∀ Q' : VK, (∀ v H'', Same H' H'' → P i v H'' → Q' v H'') → g x (wipe σ vs) H' fun σ2 H2 => wipe σ2 vs = wipe σ vs ∧ te σ2 H2 Q')
    (k : ∀ D ys H', H D = none → Same H H' → H' D = some (.lst ys) → ys.length = xs.length → (∀ i v, ys[i]? = some v → P i v H') → Q (.ref D) H') :
    ∀ D, H D = none → ∃ W : Nat → Nat → Hp → Prop, (∃ m, W 0 m (upd H D (.lst []))) ∧ ∀ i m G, W i m G →
      ((Itt K l).stop i G ∧ Q (.ref D) G) ∨ ((Itt K l).go i G ∧ ∃ Nx : Hp → Prop, (∀ G', Nx G' → ∃ m', m' < m ∧ W (i + 1) m' G') ∧ ∀ y G', (Itt K l).yld i G y G' → g y (wipe σ vs) G' fun σ2 H2 => wipe σ2 vs = wipe σ vs ∧ tYes σ2 H2 fun b H3 =>
        if b = true then te σ2 H3 fun y H4 => ∃ acc, H4 D = some (.lst acc) ∧ acc.length < sizeLine ∧ Nx (upd H4 D (.lst (acc ++ [y]))) else Nx H3) := by
  intro D hD
  refine lc_tup (K := K) (a := l) (xs := xs) (fun i G => ∃ acc, G D = some (.lst acc) ∧ acc.length = i ∧ Same H G ∧ ∀ m v, acc[m]? = some v → P m v G) ⟨[], upd_same, rfl, w_new hD, fun m v e => by simp at e⟩ (fun i G _ hG => seqT_same (let ⟨_, _, _, e, _⟩ := hG; e) hl) ?_ ?_
  · rintro i x G hx ⟨acc, h1, h2, e, hp⟩
    have hi := (List.getElem?_eq_some_iff.mp hx).1
    refine he i x G hx e (fun y H4 => ∃ acc, H4 D = some (.lst acc) ∧ acc.length < sizeLine ∧ ∃ acc', upd H4 D (.lst (acc ++ [y])) D = some (.lst acc') ∧ acc'.length = i + 1 ∧ Same H (upd H4 D (.lst (acc ++ [y]))) ∧ ∀ m v, acc'[m]? = some v → P m v (upd H4 D (.lst (acc ++ [y])))) fun v H4 e4 pv => ?_
    have h3 := e4 _ _ h1
    refine ⟨acc, h3, Nat.lt_of_lt_of_le (show acc.length < 1001 by omega) (by decide), acc ++ [v], upd_same, by rw [List.length_append, h2]; rfl, RK.Same.updL (e.trans e4) hD, fun m u hu => ?_⟩
    by_cases hm : m < acc.length
    · rw [List.getElem?_append_left hm] at hu
      exact mono m u H4 _ (SameT.upd h3) (mono m u G H4 (.of e4) (hp m u hu))
    · rw [List.getElem?_append_right (by omega)] at hu
      have em : m = acc.length := by
        have := (List.getElem?_eq_some_iff.mp hu).1
        simp at this
        omega
      subst em
      simp at hu
      subst hu
      exact mono _ _ H4 _ (SameT.upd h3) (by rw [h2]; exact pv)
  · rintro G ⟨acc, h1, h2, e, hp⟩
    exact k D acc G hD e h1 h2 hp
theorem cut1 (xs : List V) : cutV xs (some 1) none = xs.drop 1 := by
  unfold cutV
  rw [show (some (1 : Int)) = some ((1 : Nat) : Int) from rfl, HT.sIx_nat, HT.sIx_none]
  cases xs with
  | nil => rfl
  | cons x r =>
    rw [show min 1 (x :: r).length = 1 from by rw [List.length_cons]; omega]
    simp
def LcT (K : PySem.W.Frag) (g : TG) (tt : TT) (te : TE) (vs : List Nat) (σ : L2.St) (x : V) (H : Hp) (Q : VK) : Prop := ∃ a, x = .ref a ∧ (∃ xs, SqT K H a xs) ∧ ∀ D, H D = none → ∃ W : Nat → Nat → Hp → Prop, (∃ m, W 0 m (upd H D (.lst []))) ∧ ∀ i m G, W i m G →
  ((Itt K a).stop i G ∧ Q (.ref D) G) ∨ ((Itt K a).go i G ∧ ∃ Nx : Hp → Prop, (∀ G', Nx G' → ∃ m', m' < m ∧ W (i + 1) m' G') ∧ ∀ y G', (Itt K a).yld i G y G' → g y (wipe σ vs) G' fun σ2 H2 => wipe σ2 vs = wipe σ vs ∧ tt σ2 H2 fun b H3 =>
    if b = true then te σ2 H3 fun y H4 => ∃ acc, H4 D = some (.lst acc) ∧ acc.length < sizeLine ∧ Nx (upd H4 D (.lst (acc ++ [y]))) else Nx H3)
theorem w_lcT {tl : TE} {tt : TT} (h : tl σ H fun x H1 => LcT K g tt te vs σ x H1 Q) : tLc (iTup K tl) g tt te vs σ H Q := h
theorem lcT_leaf {l : Addr} {xs : List V} (P : Nat → V → Hp → Prop) (mono : ∀ i v H H', SameT H H' → P i v H → P i v H') (hl : SqT K H l xs) (hlen : xs.length ≤ 1000)
    (he : ∀ (i : Nat) (x : V) (H' : Hp), xs[i]? = some x → Same H H' → ∀ Q' : VK, (∀ v H'', Same H' H'' → P i v H'' → Q' v H'') → g x (wipe σ vs) H' fun σ2 H2 => wipe σ2 vs = wipe σ vs ∧ te σ2 H2 Q')
    (k : ∀ D ys H', H D = none → Same H H' → H' D = some (.lst ys) → ys.length = xs.length → (∀ i v, ys[i]? = some v → P i v H') → Q (.ref D) H') : LcT K g tYes te vs σ (.ref l) H Q := ⟨l, rfl, ⟨_, hl⟩, lc_mapT P mono hl hlen he k⟩
theorem lcL_leaf {l : Addr} {xs : List V} (P : Nat → V → Hp → Prop) (mono : ∀ i v H H', SameT H H' → P i v H → P i v H') (hl : SqL K H l xs) (hlen : xs.length ≤ 1000)
    (he : ∀ (i : Nat) (x : V) (H' : Hp), xs[i]? = some x → Same H H' → ∀ Q' : VK, (∀ v H'', Same H' H'' → P i v H'' → Q' v H'') → g x (wipe σ vs) H' fun σ2 H2 => wipe σ2 vs = wipe σ vs ∧ te σ2 H2 Q')
    (k : ∀ D ys H', H D = none → Same H H' → H' D = some (.lst ys) → ys.length = xs.length → (∀ i v, ys[i]? = some v → P i v H') → Q (.ref D) H') : LcS K g tYes te vs σ (.ref l) H Q := ⟨l, rfl, ⟨_, hl⟩, lc_mapL P mono hl hlen he k⟩
/-- a list of truths -/
theorem all_P {D : Addr} {ys : List V} (h : H D = some (.lst ys)) (hP : ∀ (i : Nat) (v : V), ys[i]? = some v → v = .bl true) (q : Q (.bl true) H) : rAll K [.ref D] H Q := by
  have e : ys = List.replicate ys.length (.bl true) := List.eq_replicate_iff.mpr ⟨rfl, fun b hb => by obtain ⟨i, hi⟩ := List.mem_iff_getElem?.mp hb; exact hP i b hi⟩
  rw [e] at h
  exact all_rep h q
theorem tyT {t : Addr} {xs : List V} (h : SqT K H t xs) : TyX K H (.ref t) (.type "tuple") := by
  rcases h with (h | ⟨o, h⟩) | ⟨o, its, n, h1, h2, _⟩
  · exact .base (.tup h)
  · exact .fTuple h
  · exact .kTuple h1 h2
def CmpAt (g : TG) (tt : TT) (te : TE) (vs : List Nat) (σ : L2.St) (Q : VK) (J : It) (H : Hp) : Prop := ∀ D, H D = none → ∃ W : Nat → Nat → Hp → Prop, (∃ m, W 0 m (upd H D (.lst []))) ∧ ∀ i m G, W i m G →
  (J.stop i G ∧ Q (.ref D) G) ∨ (J.go i G ∧ ∃ Nx : Hp → Prop, (∀ G', Nx G' → ∃ m', m' < m ∧ W (i + 1) m' G') ∧ ∀ y G', J.yld i G y G' → g y (wipe σ vs) G' fun σ2 H2 => wipe σ2 vs = wipe σ vs ∧ tt σ2 H2 fun b H3 =>
    if b = true then te σ2 H3 fun y H4 => ∃ acc, H4 D = some (.lst acc) ∧ acc.length < sizeLine ∧ Nx (upd H4 D (.lst (acc ++ [y]))) else Nx H3)
def ZpL (K : PySem.W.Frag) (g : TG) (tt : TT) (te : TE) (vs : List Nat) (σ : L2.St) (us : List V) (H : Hp) (Q : VK) : Prop :=
  ∃ a b xs ys, us = [V.ref a, .ref b] ∧ ((SqL K H a xs ∧ SqL K H b ys ∧ CmpAt g tt te vs σ Q (Itz K a b) H) ∨ (SqT K H a xs ∧ SqT K H b ys ∧ CmpAt g tt te vs σ Q (ItzT K a b) H))
theorem w_zip {ta : TA} {tt : TT} (h : ta σ H fun us H1 => ZpL K g tt te vs σ us H1 Q) : tLc (iZipA K ta) g tt te vs σ H Q := h
/-- [f(x, y) for x, y in zip(a, b)], all true, a and b tuples -/
theorem zip_leaf {i j : Nat} {a b : Addr} {xs ys : List V} (ha : SqT K H a xs) (hb : SqT K H b ys) (hlen : xs.length ≤ 1000)
    (he : ∀ (n : Nat) (x y : V) (H' : Hp), xs[n]? = some x → ys[n]? = some y → Same H H' → wipe (((wipe σ vs).set i (some x)).set j (some y)) vs = wipe σ vs ∧ ∀ Q' : VK, (∀ H'', Same H' H'' → Q' (.bl true) H'') → te (((wipe σ vs).set i (some x)).set j (some y)) H' Q')
    (k : ∀ D zs H', H D = none → Same H H' → H' D = some (.lst zs) → (∀ (n : Nat) (v : V), zs[n]? = some v → v = .bl true) → Q (.ref D) H') : ZpL K (gTup K 2 (gCons (gName i) (gCons (gName j) gNil))) tYes te vs σ [.ref a, .ref b] H Q := by
  refine ⟨a, b, xs, ys, rfl, .inr ⟨ha, hb, fun D hD => ?_⟩⟩
  refine ⟨fun n m G => m = xs.length - n ∧ n ≤ xs.length ∧ Same H G ∧ G D = some (.lst (List.replicate n (.bl true))), ⟨_, rfl, Nat.zero_le _, w_new hD, upd_same⟩, ?_⟩
  rintro n m G ⟨rfl, hn, e, hG⟩
  have ha' := seqT_same e ha
  have hb' := seqT_same e hb
  have stop : n = xs.length ∨ ys.length ≤ n → (ItzT K a b).stop n G ∧ Q (.ref D) G := fun h => ⟨⟨xs, ys, ha', hb', h.imp (fun z => Nat.le_of_eq z.symm) id⟩, k D _ G hD e hG fun n v hv => by
    have := List.mem_of_getElem? hv
    exact (List.mem_replicate.mp this).2⟩
  by_cases h1 : n < xs.length
  · by_cases h2 : n < ys.length
    · have hx : xs[n]? = some xs[n] := List.getElem?_eq_getElem h1
      have hy : ys[n]? = some ys[n] := List.getElem?_eq_getElem h2
      refine .inr ⟨⟨xs, ys, _, _, ha', hb', hx, hy⟩, fun G' => Same H G' ∧ G' D = some (.lst (List.replicate (n + 1) (.bl true))), fun G' hq => ⟨_, by omega, rfl, h1, hq.1, hq.2⟩, fun v G' hq => ?_⟩
      obtain ⟨T, x', y', rfl, hT, rfl, f1, f2⟩ := hq
      have eT := w_new (o := .tup [x', y']) hT
      have e' := e.trans eT
      obtain ⟨w1, w2⟩ := he n x' y' _ (f1 xs ha') (f2 ys hb') e'
      refine ⟨T, [x', y'], rfl, SqT.of upd_same, rfl, x', [y'], rfl, y', [], rfl, rfl, w1, ?_⟩
      refine w_yes ?_
      rw [if_pos rfl]
      refine w2 _ fun G2 e2 => ?_
      have hG2 : G2 D = some (.lst (List.replicate n (.bl true))) := e2 _ _ (eT _ _ hG)
      exact ⟨_, hG2, by rw [List.length_replicate]; exact Nat.lt_of_lt_of_le (show n < 1001 by omega) (by decide), RK.Same.updL (e'.trans e2) hD, by rw [upd_same, List.replicate_succ']⟩
    · exact .inl (stop (.inr (by omega)))
  · exact .inl (stop (.inl (by omega)))
/-- a pair, taken apart into two slots -/
theorem g_two {i j : Nat} {q : Addr} {x y : V} {Q : L2.St → Hp → Prop} (h : H q = some (.tup [x, y])) (k : Q ((σ.set i (some x)).set j (some y)) H) : gTup K 2 (gCons (gName i) (gCons (gName j) gNil)) (.ref q) σ H Q :=
  ⟨q, [x, y], rfl, SqT.of h, rfl, x, [y], rfl, y, [], rfl, rfl, k⟩
theorem eq_map {α : Type} {ys : List V} {ps : List α} (f : α → V) (hl : ys.length = ps.length) (h : ∀ (i : Nat) (v : V), ys[i]? = some v → ∃ p, ps[i]? = some p ∧ v = f p) : ys = ps.map f := by
  refine List.ext_getElem? fun i => ?_
  rw [List.getElem?_map]
  cases e : ys[i]? with
  | none =>
    have := List.getElem?_eq_none_iff.mp e
    rw [List.getElem?_eq_none_iff.mpr (by omega)]
    rfl
  | some v =>
    obtain ⟨p, hp, rfl⟩ := h i v e
    rw [hp]
    rfl
theorem sum_le {α : Type} {l : List α} {f : α → Nat} {b : Nat} (h : ∀ x ∈ l, f x ≤ b) : (l.map f).sum ≤ l.length * b := by
  induction l with
  | nil => simp
  | cons x r ih =>
    rw [List.map_cons, List.sum_cons, List.length_cons, Nat.add_mul, Nat.one_mul]
    have h1 := h x List.mem_cons_self
    have h2 := ih fun y hy => h y (List.mem_cons_of_mem _ hy)
    omega
/-- a list whose items stand at addresses of a kind -/
theorem refs_of {α : Type} {ys : List V} {ps : List α} {R : Addr → α → Prop} (hl : ys.length = ps.length) (h : ∀ (i : Nat) (v : V), ys[i]? = some v → ∃ q u, ps[i]? = some u ∧ v = .ref q ∧ R q u) : ∃ as : List Addr, ys = as.map V.ref ∧ as.length = ps.length ∧ ∀ (i : Nat) (q : Addr) (u : α), as[i]? = some q → ps[i]? = some u → R q u := by
  induction ys generalizing ps with
  | nil => exact ⟨[], rfl, hl, fun i q u a => by simp at a⟩
  | cons y r ih =>
    cases ps with
    | nil => cases hl
    | cons p ps =>
      obtain ⟨q0, u0, e1, rfl, e2⟩ := h 0 y rfl
      cases e1
      obtain ⟨as, rfl, e3, e4⟩ := ih (ps := ps) (by simpa using hl) fun i v hv => h (i + 1) v hv
      refine ⟨q0 :: as, rfl, by rw [List.length_cons, List.length_cons, e3], fun i q u a b => ?_⟩
      cases i with
      | zero =>
        cases a
        cases b
        exact e2
      | succ j => exact e4 j q u a b
end
end RK

/-! enumerate of a tuple, zip of two texts, list(text): the library's iterators (GoesN, Draws) as walks of the hand layer -/
namespace RK
open PySem PySem.Spec PyProof.Rows L2
/-- a turn whose new pair stands at T -/
theorem pair_new {X : Cx} {pins : List (Addr × Obj)} {σ : L2.St} {H : Hp} {s : Shared} {own : List Addr} {T : Addr} {x y : V} {u v : Value} {h' : Heap} {tk : Nat} (I : Inv X pins σ H s) (hf : ∀ b ∈ own, FpOk X pins H b)
    (k : ∀ b o, b ∉ own → s.heap.get? b = some o → h'.get? b = some o) (hT : s.heap.objs.size ≤ T) (p : IsTup h' T #[u, v]) (r1 : RelV x u) (r2 : RelV y v) : Inv X pins σ (upd H T (.tup [x, y])) { s with heap := h', toks := tk } :=
  I.turnedNew (ch := own) k hf hT (show ObjOk X.prog X.w _ h' T (.tup [x, y]) from ⟨by show 2 ≤ sizeLine; decide, [u, v], .cons r1 (.cons r2 .nil), p⟩)
theorem own_stays {H : Hp} {T : Addr} {o : HO} {N : Nat} {own : List Addr} (h : ∀ b ∈ own, H b = none) (lt : ∀ b ∈ own, b < N) (hT : N ≤ T) : ∀ b ∈ own, upd H T o b = none := fun b hb => by
  rw [upd_ne (Nat.ne_of_lt (Nat.lt_of_lt_of_le (lt b hb) hT))]
  exact h b hb
/-- the tuple at a, each item with its place in a new pair -/
def IteT (K : PySem.W.Frag) (a : Addr) : It :=
  ⟨fun i H => ∃ (xs : List V) (x : V), SqT K H a xs ∧ xs[i]? = some x, fun i H v H' => ∃ T x, v = .ref T ∧ H T = none ∧ H' = upd H T (.tup [.int ((i : Nat) : Int), x]) ∧ ∀ xs, SqT K H a xs → xs[i]? = some x, fun i H => ∃ xs : List V, SqT K H a xs ∧ i = xs.length⟩
/-- its state: the iterator's own cells -/
def EnT (a e it : Addr) (i : Nat) (h : Heap) : Prop := (∃ old, IsEnum h e it ((i : Nat) : Int) old) ∧ h.IsTupleIter it a i
theorem turn_enumT {P : Program} {w : World} {K : PySem.W.Frag} {elts : List Expr} {kk : Nat} {tpos : Pos} (a e it : Addr) (ne : e ≠ it) (na : a ≠ it) (nb : a ≠ e) :
    Turn P w K (.Tuple elts kk tpos) (IteT K a) [e, it] e (EnT a e it) where
  mem := List.mem_cons_self
  obj := fun i h ⟨⟨old, he⟩, o, ho, hc, hd⟩ b hb => by
    rcases List.mem_cons.mp hb with rfl | hb
    · exact ⟨_, he, fun v => nofun⟩
    · obtain rfl := List.mem_singleton.mp hb
      exact ⟨o, ho, fun v q => by rw [hd] at q; cases q⟩
  keep := fun i h h' ⟨⟨old, he⟩, hi⟩ k => ⟨⟨old, k e List.mem_cons_self _ he⟩, hi.at fun o q => k it (List.mem_cons_of_mem _ List.mem_cons_self) o q⟩
  item := by
    rintro X rfl rfl rfl hc i pins s σ H E I hf ⟨⟨old, he⟩, hit⟩ ⟨xs, x, hq, hx⟩
    obtain ⟨its, rv, p, _⟩ := I.tuple hq
    obtain ⟨u, hu, ru⟩ := rv.get hx
    have hu2 : its.toArray[i]? = some u := by simpa using hu
    have lt : ∀ b ∈ [e, it], b < s.heap.objs.size := fun b hb => by
      rcases List.mem_cons.mp hb with rfl | hb
      · exact Heap.lt_size he
      · obtain rfl := List.mem_singleton.mp hb
        obtain ⟨o, ho, _⟩ := hit
        exact Heap.lt_size ho
    have G := GoesN.enumFrom (prog := X.prog) (w := X.w) (A := X.A) (elts := elts) (x1 := kk) (pos := tpos) 0 (Draws.tuple (A := X.A.in1) (show X.A.in1.handled = none from I.ok.hd hc) it a na its.toArray) e ne (by simp [ne, Ne.symm nb]) (by simp)
    refine G.goes i s _ E (Array.getElem?_eq_some_iff.mp hu2).1 ⟨⟨old, by rw [Int.zero_add]; exact he⟩, hit, p⟩ ?_
    rintro v h' tk ⟨T, t, y, rfl, hT, hy, pT⟩ ⟨⟨old', he'⟩, hit', _⟩ hk _
    cases hu2.symm.trans hy
    rw [Int.zero_add] at pT he'
    exact ⟨.ref T, _, pair_new I hf hk hT pT (show RelV (.int ((i : Nat) : Int)) _ from ⟨_, rfl⟩) ru, rfl, ⟨T, x, rfl, I.hok.fresh hT, rfl, fun ys hys => by rw [I.tuple_inj hys hq]; exact hx⟩, ⟨⟨old', he'⟩, hit'⟩, own_stays (fun b hb => (hf b hb).1) lt hT⟩
  done := by
    rintro X rfl rfl rfl hc i pins s σ H E I hf ⟨⟨old, he⟩, hit⟩ ⟨xs, hq, rfl⟩
    obtain ⟨its, rv, p, _⟩ := I.tuple hq
    have hl : xs.length = its.toArray.size := by rw [rv.length]; simp
    rw [hl] at he hit
    have G := GoesN.enumFrom (prog := X.prog) (w := X.w) (A := X.A) (elts := elts) (x1 := kk) (pos := tpos) 0 (Draws.tuple (A := X.A.in1) (show X.A.in1.handled = none from I.ok.hd hc) it a na its.toArray) e ne (by simp [ne, Ne.symm nb]) (by simp)
    refine G.stops s _ E ⟨⟨old, by rw [Int.zero_add]; exact he⟩, hit, p⟩ fun h' tk hk _ => I.turnedL hk hf
  self := fun A i s Q E ⟨⟨_, he⟩, _⟩ q => wpAny_pyIter_enum he q
theorem meets_enum1 {v : Value} {o : Obj} {C : Heap → Prop} (B : Begins v o C) : Meets (Builtin.«enumerate.__new__» ⟨[.type "enumerate", v], []⟩) (fun _ R s => C s.heap ∧
    R (.ok (.ret (.ref (s.heap.push o).objs.size))) { s with heap := (s.heap.push o).push { cls := .type "enumerate", data := .fields #[.none, .bool false, .ref s.heap.objs.size, rawInt 0, .none, .none] } }) := by
  refine .of_wp fun P w A R s h => ?_
  obtain ⟨hp, g, d, tk, os⟩ := s
  obtain ⟨hC, h⟩ := h
  have known := sub_enumerate
  have it0 : ∀ {A' : Around} {E : Value → Shared → Prop} {Q : Value → Shared → Prop}, Q (.ref hp.objs.size) ⟨hp.push o, g, d, tk, os⟩ → wpAny (model P w) A' (pyIter v) Q E ⟨hp, g, d, tk, os⟩ := fun q => B.iter _ _ _ _ _ _ hC q
  wp_walk using it0
  refine wpAny_stack_any fun st => wpAny_pure ?_
  split <;> first
    | (wp_walk using it0; exact ⟨_, rfl, h⟩)
    | (rename_i c _ _ _ _ _; cases (c == Value.type "enumerate") <;> (wp_walk using it0; exact ⟨_, rfl, h⟩))
theorem enum_starts {P : Program} {w : World} {A : Around} {E : Value → Shared → Prop} {s : Shared} {v : Value} {o : Obj} {C : Heap → Prop} {Q : Value → Shared → Prop} (B : Begins v o C) (hC : C s.heap)
    (q : ∀ h', IsEnum h' (s.heap.objs.size + 1) s.heap.objs.size 0 .none → h'.get? s.heap.objs.size = some o → (∀ b u, s.heap.get? b = some u → h'.get? b = some u) → Q (.ref (s.heap.objs.size + 1)) { s with heap := h' }) :
    wpAny (model P w) A (call (.type "enumerate") [v]) Q E s := by
  refine callType_new F.called_enumerate (by decide) (F.typeCall_enumerate_1 _) (F.newCall_enumerate_1 _) (fun obj => F.args_object_init_2 obj _) F.entry_enumerate_new (meets_enum1 B) ⟨hC, ?_⟩
  have z1 := Heap.size_push s.heap o
  have g1 := Heap.get?_push_size (s.heap.push o) (o := { cls := .type "enumerate", data := .fields #[.none, .bool false, .ref s.heap.objs.size, rawInt 0, .none, .none] }) rfl
  rw [z1] at g1
  show _ ∧ _
  rw [z1]
  exact ⟨⟨_, g1, rfl⟩, q _ g1 (Heap.get?_push_of_some _ (Heap.get?_push_size _ B.free)) fun b u e => Heap.get?_push_of_some _ (Heap.get?_push_of_some _ e)⟩
def iEnumT (K : PySem.W.Frag) (ta : TA) : TI := fun σ H R => ta σ H fun vs H1 => ∃ a xs, vs = [.ref a] ∧ SqT K H1 a xs ∧ R (IteT K a) H1
/-- for i, x in enumerate(a tuple) -/
theorem pi_enumT {X : Cx} {e : Expr} {ta : TA} {p pos tpos : Pos} {elts : List Expr} {kk : Nat} (hg : Gl X "enumerate") (hm : X.mg "enumerate" = none) (ha : PA X [e] ta) (hs : starEach [e] X.env = [(false, eval e X.env)] := by rfl) :
    PI X (.Tuple elts kk tpos) (.Call (.Name "enumerate" p) [e] [] pos) (iEnumT X.K ta) where
  run := fun pins s σ H R I h => by
    refine Call_ (ld_blt I hg hm boot_enumerate (callWith_type1 (thn (ha.run pos pins s σ H _ I h) ?_) hs rfl))
    rintro us t ⟨_, H1, J, rv, a, xs, rfl, hq, q⟩
    obtain ⟨u, rfl, ru⟩ := vals1 rv
    cases ru
    obtain ⟨its, _, ip, _⟩ := J.tuple hq
    have la : a < t.heap.objs.size := by obtain ⟨o, ho, _⟩ := ip; exact Heap.lt_size ho
    refine enum_starts (begins_tuple a its.toArray) ip fun h' he hi hk => wpAny_pyIter_enum he ?_
    refine ⟨t.heap.objs.size + 1, [t.heap.objs.size + 1, t.heap.objs.size], _, _, H1, rfl, J.kept (t' := t.toks) hk, turn_enumT a _ _ (Nat.succ_ne_self _) (Nat.ne_of_lt la) (Nat.ne_of_lt (Nat.lt_succ_of_lt la)), ⟨⟨_, he⟩, ⟨_, hi, rfl, rfl⟩⟩, fun b hb => ?_, q⟩
    have le : t.heap.objs.size ≤ b := by
      rcases List.mem_cons.mp hb with rfl | hb
      · exact Nat.le_succ _
      · exact Nat.le_of_eq (List.mem_singleton.mp hb).symm
    exact J.fpOk le (J.hok.fresh le)
/-- two texts, sign by sign, the signs in new pairs -/
def ItzS (x y : Str) : It :=
  ⟨fun i _ => ∃ c d : Nat, x.cps[i]? = some c ∧ y.cps[i]? = some d, fun i H v H' => ∃ (T : Addr) (c d : Nat), v = .ref T ∧ H T = none ∧ H' = upd H T (.tup [.str ⟨#[c]⟩, .str ⟨#[d]⟩]) ∧ x.cps[i]? = some c ∧ y.cps[i]? = some d, fun i _ => i = min x.cps.size y.cps.size⟩
structure ZipTx (x y : Str) (t u : Tok) (z TI TO i1 i2 : Addr) (i : Nat) (h : Heap) : Prop where
  zip : IsZip h z TI TO .none
  inn : IsTupOf2 h TI (.ref i1) (.ref i2)
  out : ∃ a1 a2, IsTupOf2 h TO a1 a2
  one : h.IsStrIter i1 (strIterType x) x t i
  two : h.IsStrIter i2 (strIterType y) y u i
theorem ZipTx.cells {x y : Str} {t u : Tok} {z TI TO i1 i2 : Addr} {i : Nat} {h : Heap} (st : ZipTx x y t u z TI TO i1 i2 i h) : ∀ b ∈ [z, TI, TO, i1, i2], ∃ o, h.get? b = some o ∧ ∀ v, o.data ≠ .cell v := by
  obtain ⟨hz, hi, ⟨a1, a2, ho⟩, ⟨o1, p1, _, d1⟩, ⟨o2, p2, _, d2⟩⟩ := st
  intro b hb
  simp only [List.mem_cons, List.not_mem_nil, or_false] at hb
  rcases hb with rfl | rfl | rfl | rfl | rfl
  · exact ⟨_, hz, fun v => nofun⟩
  · exact ⟨_, hi, fun v => nofun⟩
  · exact ⟨_, ho, fun v => nofun⟩
  · exact ⟨o1, p1, fun v q => by rw [d1] at q; cases q⟩
  · exact ⟨o2, p2, fun v q => by rw [d2] at q; cases q⟩
theorem ZipTx.kept {x y : Str} {t u : Tok} {z TI TO i1 i2 : Addr} {i : Nat} {h h' : Heap} (st : ZipTx x y t u z TI TO i1 i2 i h) (k : ∀ b ∈ [z, TI, TO, i1, i2], ∀ o, h.get? b = some o → h'.get? b = some o) : ZipTx x y t u z TI TO i1 i2 i h' where
  zip := k z (by simp) _ st.zip
  inn := k TI (by simp) _ st.inn
  out := let ⟨a1, a2, ho⟩ := st.out; ⟨a1, a2, k TO (by simp) _ ho⟩
  one := let ⟨o, e, c, d⟩ := st.one; ⟨o, k i1 (by simp) o e, c, d⟩
  two := let ⟨o, e, c, d⟩ := st.two; ⟨o, k i2 (by simp) o e, c, d⟩
theorem turn_zipS {P : Program} {w : World} {K : PySem.W.Frag} {elts : List Expr} {kk : Nat} {tpos : Pos} {x y : Str} {t u : Tok} {z TI TO i1 i2 : Addr} (S : ZipSep2 z TI TO i1 i2 [i1] [i2]) :
    Turn P w K (.Tuple elts kk tpos) (ItzS x y) [z, TI, TO, i1, i2] z (ZipTx x y t u z TI TO i1 i2) where
  mem := List.mem_cons_self
  obj := fun i h st => st.cells
  keep := fun i h h' st k => st.kept k
  item := by
    rintro X rfl rfl rfl hc i pins s σ H E I hf st ⟨c, d, hx, hy⟩
    have hh : X.A.in1.handled = none := I.ok.hd hc
    have G := GoesN.zip2 (prog := X.prog) (w := X.w) (A := X.A) (elts := elts) (x1 := kk) (pos := tpos) S (Draws.text (A := X.A.in1) hh i1 x t) (Draws.text (A := X.A.in1) hh i2 y u)
    have lt : ∀ b ∈ [z, TI, TO, i1, i2], b < s.heap.objs.size := fun b hb => let ⟨o, e, _⟩ := st.cells b hb; Heap.lt_size e
    have l1 := (Array.getElem?_eq_some_iff.mp hx).1
    have l2 := (Array.getElem?_eq_some_iff.mp hy).1
    refine G.goes i s _ E (by omega) ⟨st.zip, st.inn, st.out, st.one, st.two⟩ ?_
    rintro v h' tk ⟨T, a1, a2, rfl, hT, ⟨c', t1, q1, rfl⟩, ⟨d', t2, q2, rfl⟩, pT⟩ ⟨s1, s2, s3, s4, s5⟩ hk _
    cases hx.symm.trans q1
    cases hy.symm.trans q2
    exact ⟨.ref T, _, pair_new I hf (fun b o hb e => hk b o (fun q => hb (by revert q; simp; intro q; rcases q with rfl | rfl | rfl | rfl <;> simp)) e) hT pT (show RelV (.str ⟨#[c]⟩) _ from ⟨_, rfl⟩) (show RelV (.str ⟨#[d]⟩) _ from ⟨_, rfl⟩), rfl, ⟨T, c, d, rfl, I.hok.fresh hT, rfl, hx, hy⟩, ⟨s1, s2, s3, s4, s5⟩, own_stays (fun b hb => (hf b hb).1) lt hT⟩
  done := by
    rintro X rfl rfl rfl hc i pins s σ H E I hf st rfl
    have hh : X.A.in1.handled = none := I.ok.hd hc
    have G := GoesN.zip2 (prog := X.prog) (w := X.w) (A := X.A) (elts := elts) (x1 := kk) (pos := tpos) S (Draws.text (A := X.A.in1) hh i1 x t) (Draws.text (A := X.A.in1) hh i2 y u)
    exact G.stops s _ E ⟨st.zip, st.inn, st.out, st.one, st.two⟩ fun h' tk hk _ => I.turnedL (fun b o hb e => hk b o (fun q => hb (by revert q; simp; intro q; rcases q with rfl | rfl | rfl | rfl <;> simp)) e) hf
  self := fun A i s Q E st q => wpAny_pyIter_zip st.zip q
def iZipS (ta : TA) : TI := fun σ H R => ta σ H fun vs H1 => ∃ x y : Str, vs = [.str x, .str y] ∧ R (ItzS x y) H1
/-- for a, b in zip(a text, a text) -/
theorem pi_zipS {X : Cx} {e e2 : Expr} {ta : TA} {p pos tpos : Pos} {elts : List Expr} {kk : Nat} (hg : Gl X "zip") (hm : X.mg "zip" = none) (ha : PA X [e, e2] ta)
    (hs : starEach [e, e2] X.env = (false, eval e X.env) :: starEach [e2] X.env := by rfl) (hp : (backTo pos (starEach [e2] X.env)).any (·.1) = false := by rfl) : PI X (.Tuple elts kk tpos) (.Call (.Name "zip" p) [e, e2] [] pos) (iZipS ta) where
  run := fun pins s σ H R I h => by
    refine Call_ (ld_blt I hg hm boot_zip (callWith_type1 (thn (ha.run pos pins s σ H _ I h) ?_) hs hp))
    rintro us q ⟨_, H1, J, rv, x, y, rfl, r⟩
    cases rv with
    | cons r1 rv =>
    cases rv with
    | cons r2 rv =>
    cases rv
    obtain ⟨t, rfl⟩ := r1
    obtain ⟨u, rfl⟩ := r2
    refine zip_begins2 (begins_text x t) (begins_text y u) trivial trivial fun h' z1 z2 z3 z4 z5 z6 hk => wpAny_pyIter_zip z1 ?_
    refine ⟨_, _, _, _, H1, rfl, J.kept (t' := q.toks) hk, turn_zipS (x := x) (y := y) (t := t) (u := u) (zip_sep2 (N := q.heap.objs.size) (fp1 := []) (fp2 := []) (by simp) (by simp)), ⟨z1, z2, ⟨_, _, z3⟩, ⟨_, z4, rfl, rfl⟩, ⟨_, z5, rfl, rfl⟩⟩, fun b hb => ?_, r⟩
    have le : q.heap.objs.size ≤ b := by
      simp only [List.mem_cons, List.not_mem_nil, or_false] at hb
      rcases hb with rfl | rfl | rfl | rfl | rfl <;> omega
    exact J.fpOk le (J.hok.fresh le)
/-- list(a text) -/
def rListS : List V → Hp → VK → Prop := fun xs H Q => ∃ x : Str, xs = [.str x] ∧ x.cps.size ≤ 1000 ∧ ∀ l, H l = none → Q (.ref l) (upd H l (.lst (x.cps.toList.map fun c => V.str ⟨#[c]⟩)))
theorem vals_signs {x : Str} {acc : Array Value} (h : ItemsOf (SignAt x) acc x.cps.size) : Vals (x.cps.toList.map fun c => V.str ⟨#[c]⟩) acc.toList := by
  have key : ∀ (cs : List Nat) (us : List Value), us.length = cs.length → (∀ (j : Nat) (v : Value), us[j]? = some v → ∃ c u, cs[j]? = some c ∧ v = .str ⟨#[c]⟩ u) → Vals (cs.map fun c => V.str ⟨#[c]⟩) us := fun cs => by
    induction cs with
    | nil =>
      intro us hl _
      cases us with
      | nil => exact .nil
      | cons _ _ => cases hl
    | cons c cs ih =>
      intro us hl hv
      cases us with
      | nil => cases hl
      | cons u us =>
        obtain ⟨c', tk, e1, e2⟩ := hv 0 u rfl
        cases e1
        exact .cons ⟨tk, e2⟩ (ih us (by simpa using hl) fun j v e => hv (j + 1) v e)
  refine key _ _ (by rw [Array.length_toList, Array.length_toList, h.1]) fun j v hv => ?_
  obtain ⟨c, u, hc, rfl⟩ := h.2 j v (by simpa using hv)
  exact ⟨c, u, by simpa using hc, rfl⟩
theorem cr_listS {X : Cx} (hc : X.calm = true) : CallR X (.type "list") rListS := by
  rintro pins s σ H xs us Q I r ⟨x, rfl, hx, q⟩
  obtain ⟨_, rfl, t, rfl⟩ := vals1 r
  refine call_list_str (I.ok.hd hc) x t (fun h' tk acc n hk hS hi => ?_) (Nat.le_trans hx (by decide))
  have new : ObjOk X.prog X.w (upd H s.heap.objs.size (.lst (x.cps.toList.map fun c => V.str ⟨#[c]⟩))) h' s.heap.objs.size (.lst (x.cps.toList.map fun c => V.str ⟨#[c]⟩)) := by
    refine ⟨?_, acc.toList, n, vals_signs hi, by simpa using hS⟩
    rw [List.length_map, Array.length_toList]
    exact Nat.le_trans hx (by decide)
  exact ⟨.ref _, _, I.laid (t' := tk) hk (Nat.le_refl _) new, rfl, q _ (I.hok.fresh (Nat.le_refl _))⟩
end RK

/-! x in a tuple of data; a dict by a comprehension, its keys of any kind that DPut knows (texts, ints, tuples of these) -/
namespace RK
open PySem PySem.Spec PyProof.Rows L2
section
variable {X : Cx}
def rInT (K : PySem.W.Frag) : R2 := fun x y H Q => ∃ d ds, Dp K H x d ∧ Dp K H y (.tuple ds) ∧ SeqAt.shaped d = true ∧ SeqAt.shaped (.tuple ds) = true ∧ Q (.bl (ds.any fun z => PyData.eqv z d)) H
theorem op_inT (hu : X.A.units + 65 < cLine) : OpR X (compareOp .In) (rInT X.K) := by
  rintro pins s σ H x y v u Q I rx ry ⟨d, ds, hd, hs, sd, ss, q⟩
  obtain ⟨_, r1⟩ := Dp.reads I d x v hd rx
  obtain ⟨_, r2⟩ := Dp.reads I (.tuple ds) y u hs ry
  exact SeqAt.in_tuple_reads r2 r1 (SeqAt.canLay_of_shaped (d := .tuple ds) ss) (SeqAt.canLay_of_shaped sd) (room_in_shaped sd hu) ⟨.bl _, H, I, rfl, q⟩
/-- one put of a comprehension -/
theorem put_dict {pins : List (Addr × Obj)} {σ : L2.St} {H H' : Hp} {s : Shared} {E : Value → Shared → Prop} {D : Addr} {y v : V} {u r : Value} {Q : Unit → Shared → Prop} (hu : X.A.units + 1 < cLine) (I : Inv X pins σ H s) (p : DPut H D y v H') (ry : RelV y u) (rv : RelV v r)
    (h : ∀ s', Inv X pins σ H' s' → Q () s') : wpAny (model X.prog X.w) X.A (dictSet D u r) Q E s := by
  rcases p with ⟨kvs, k, e, rfl, l, rfl⟩ | ⟨kvs, k, b, e, rfl, eb, l, rfl⟩
  · exact d_dictSet I e l ry rv h
  · cases ry
    obtain ⟨_, nd, xs, kt, dd⟩ := dt_of I.hok e
    have few : xs.length ≤ sizeLine := by rw [← Paired.length kt]; exact Nat.le_of_lt l
    refine wpAny_dictSet_heap (knd := tupleKind (mixKind X.prog X.w)) (hsz := few) (Nat.lt_of_succ_lt hu) (key_of I.hok eb) dd ?_
    rintro h' ⟨o, es, ep, g1, g2, g3, g4, _, g6⟩ same
    refine h _ (d_write I (by rw [e]; exact True.intro) same ⟨o, g1⟩ ⟨Nat.le_trans (length_putK kvs k v) l, nd, _, (kt.put k eb rv).keeps fun c ys hc => ?_, o, es, ep, g1, g2, g3, g4, g6⟩)
    have apart : c ≠ D := ne_of hc e nofun
    rw [upd_ne apart]
    exact hc
def tDcP (o0 : HO) (wi : TI) (g : TG) (tt : TT) (tk tv : TE) (vs : List Nat) : TE := fun σ H Q => wi σ H fun J H1 => ∀ D, H1 D = none → ∃ W : Nat → Nat → Hp → Prop, (∃ m, W 0 m (upd H1 D o0)) ∧ ∀ i m G, W i m G →
  (J.stop i G ∧ Q (.ref D) G) ∨ (J.go i G ∧ ∃ Nx : Hp → Prop, (∀ G', Nx G' → ∃ m', m' < m ∧ W (i + 1) m' G') ∧ ∀ x G', J.yld i G x G' → g x (wipe σ vs) G' fun σ2 H2 => wipe σ2 vs = wipe σ vs ∧ tt σ2 H2 fun b H3 =>
    if b = true then tk σ2 H3 fun y H4 => tv σ2 H4 fun z H5 => ∃ H6, DPut H5 D y z H6 ∧ Nx H6 else Nx H3)
/-- where a comprehension stands between two turns -/
def CmpSt (Y : Cx) (σ0 : L2.St) (fp : List Addr) (tn : Nat → Heap → Prop) (W : Nat → Nat → Hp → Prop) (n : Nat) (s : Shared) : Prop := ∃ i G, Inv Y [] σ0 G s ∧ tn i s.heap ∧ (∀ b ∈ fp, G b = none) ∧ W i n G
/-- the iterator's cells, pinned while a turn's body runs, are as they were -/
theorem turn_ends {Y : Cx} {σ0 σ8 : L2.St} {fp : List Addr} {ws : List Nat} {σ : L2.St} {tn : Nat → Heap → Prop} {W : Nat → Nat → Hp → Prop} {Nx : Hp → Prop} {i n : Nat} {h7 : Heap} {s' : Shared} {G : Hp} (hσ : σ0 = wipe σ ws) (hw : wipe σ8 ws = wipe σ ws)
    (cells : ∀ b ∈ fp, ∃ o, h7.get? b = some o) (keep : ∀ h', (∀ b ∈ fp, ∀ o, h7.get? b = some o → h'.get? b = some o) → tn (i + 1) h') (I : Inv Y ([] ++ pinsAt fp h7) σ8 G s') (nx : Nx G) (next : ∀ G', Nx G' → ∃ m', m' < n ∧ W (i + 1) m' G') :
    ∃ m, m < n ∧ CmpSt Y σ0 fp tn W m s' := by
  obtain ⟨m, lt, wm⟩ := next G nx
  have pin : ∀ b ∈ fp, ∀ o, h7.get? b = some o → s'.heap.get? b = some o ∧ G b = none := fun b hb o e => by
    have := I.pin (b, o) (List.mem_append_right _ (mem_pinsAt hb e))
    exact ⟨this.1, this.2.1⟩
  refine ⟨m, lt, i + 1, G, (Inv.unpinned (pins := []) I).weak ?_ (fun j v e => ?_), keep _ fun b hb o e => (pin b hb o e).1, fun b hb => ?_, wm⟩
  · rw [hσ, ← hw, wipe_length]
  · rw [hσ, ← hw] at e
    exact (wipe_some e).1
  · obtain ⟨o, e⟩ := cells b hb
    exact (pin b hb o e).2
theorem blk_fp {Y : Cx} {fp : List Addr} {σ' : L2.St} {G : Hp} {s' : Shared} (hx : Y.ex = fp) (hp : Y.pn = []) (I : Inv Y [] σ' G s') (hn : ∀ b ∈ fp, G b = none) : ∀ b ∈ fp, FpOk Y [] G b := fun b hb =>
  ⟨hn b hb, (I.ok.exf b (hx ▸ hb)).1, I.ok.exfs b (hx ▸ hb), .inl (hx ▸ hb), fun x c e => (I.ok.exf b (hx ▸ hb)).2 x c e, fun q hq => absurd (show q ∈ ([] : List (Addr × Obj)) ++ [] from hp ▸ hq) (by simp)⟩
theorem empty_dict {P : Program} {w : World} {o0 : HO} (ho : o0 = .dK [] ∨ o0 = .dT []) {H : Hp} (h : Heap) (hb : sysModules < h.objs.size) : ObjOk P w H (h.push { cls := .type "dict", data := .dict #[] }) h.objs.size o0 := by
  rcases ho with rfl | rfl
  · exact dk_empty h hb
  · exact dt_empty h hb
theorem dcp_core {pins : List (Addr × Obj)} {s : Shared} {σ : L2.St} {H : Hp} {Q : VK} {use : Option (Value → Sem Unit)} {Qf : Value → Shared → Prop} {pos' : Pos} {o0 : HO} (ho : o0 = .dK [] ∨ o0 = .dT []) (hu : X.A.units + 1 < cLine) {kx vx tg iter : Expr} {ifs : List Expr} {scope : Scope} {own : List (Str × Nat)} {pos : Pos} {wi : TI} {g : TG} {tt : TT} {tk tv : TE} (hc : X.calm = true) (hN : X.N.Nodup) (hi : PI X tg iter wi) (ok : BlkOk X.N X.env.scope scope own)
    (hg : ∀ (z : Shared) (G : Hp) (C : Addr) (cl : List (Str × Addr)) (fp : List Addr), PG (X.blk z G scope (compEnvC scope cl C X.env) fp) tg g) (ht : ∀ (z : Shared) (G : Hp) (C : Addr) (cl : List (Str × Addr)) (fp : List Addr), PTs (X.blk z G scope (compEnvC scope cl C X.env) fp) ifs tt)
    (hk : ∀ (z : Shared) (G : Hp) (C : Addr) (cl : List (Str × Addr)) (fp : List Addr), PE (X.blk z G scope (compEnvC scope cl C X.env) fp) kx tk) (he : ∀ (z : Shared) (G : Hp) (C : Addr) (cl : List (Str × Addr)) (fp : List Addr), PE (X.blk z G scope (compEnvC scope cl C X.env) fp) vx tv)
    (hs : ∀ x, foldedSetIterable iter X.env x = pure x) (I : Inv X pins σ H s) (h : tDcP o0 wi g tt tk tv (own.map (·.2)) σ H Q)
    (last : ∀ D C s' m G, Inv X pins σ G s' → Q (.ref D) G → s'.heap.Ns C m → FpOk X pins G C → compPost (model X.prog X.w) X.A X.xe use Qf (.ref D) C (.ok .next) s') :
    wpAny (model X.prog X.w) X.A (comprehension (.DictComp kx vx [⟨tg, iter, ifs, 0⟩] scope pos) scope X.env pos' newDict false (eval iter X.env) use) Qf X.xe s := by
    refine wpAny_comprehension_free (use := use) rfl hs (closure_ok fun y hy e => (ok.free y hy e).elim (fun k => I.ok.has _ (.inl k)) fun k => I.ok.has _ (.inr k)) ok.kind (fun y hy e => by rw [ok.uniq y hy, e]) (thn (hi.run pins s σ H _ I h) fun _ _ hx => thn hx ?_)
    rintro _ s2 ⟨it, fp, tn, J, H2, rfl, I2, T, st2, f2, q⟩
    obtain ⟨W, ⟨m0, w0⟩, turn⟩ := q _ (I2.hok.fresh (Nat.le_refl s2.heap.objs.size))
    refine wpAny_newObj_type (newEnv_comp ?_)
    have lt2 : ∀ b ∈ fp, b < s2.heap.objs.size := fun b hb => let ⟨o, e, _⟩ := T.obj _ _ st2 b hb; Heap.lt_size e
    have grow : ∀ b o, s2.heap.get? b = some o → (s2.heap.push { cls := .type "dict", data := .dict #[] }).get? b = some o := fun b o e => Heap.get?_push_of_some _ e
    have I3 : Inv X pins σ (upd H2 s2.heap.objs.size o0) { s2 with heap := s2.heap.push { cls := .type "dict", data := .dict #[] } } := I2.laid (t' := s2.toks) grow (Nat.le_refl _) (empty_dict ho s2.heap I2.big)
    have st3 := T.keep _ _ _ st2 fun b _ o e => grow b o e
    generalize hD : s2.heap.objs.size = D at I3 w0 turn lt2 ⊢
    have hsz : D < (s2.heap.push { cls := .type "dict", data := .dict #[] }).objs.size := by rw [Heap.size_push, hD]; exact Nat.lt_succ_self _
    generalize s2.heap.push { cls := .type "dict", data := .dict #[] } = h3 at I3 st3 hsz ⊢
    generalize hs3 : ({ s2 with heap := h3 } : Shared) = s3 at I3 ⊢
    have e3 : s3.heap = h3 := by rw [← hs3]
    rw [← e3] at st3 hsz
    have f3 : ∀ b ∈ fp, FpOk X pins (upd H2 D o0) b ∧ b < s3.heap.objs.size := fun b hb => by
      refine ⟨⟨?_, (f2 b hb).2⟩, Nat.lt_trans (lt2 b hb) hsz⟩
      rw [upd_ne (Nat.ne_of_lt (lt2 b hb))]
      exact (f2 b hb).1
    have I4 := block_start I3 ok hN f3
    show codeAny _ _ (.compStart _ 0 _ _ (compEnvC scope (cellsFrom (s3.heap.objs.size + 1) scope.names (cloFrom X.env.cells scope.names [])) s3.heap.objs.size X.env)) _ _
    generalize cellsFrom (s3.heap.objs.size + 1) scope.names (cloFrom X.env.cells scope.names []) = cl at I4 ⊢
    generalize hG : upd H2 D o0 = G3 at I3 I4 w0 f3
    have pg := hg s3 G3 s3.heap.objs.size cl fp
    have pt := ht s3 G3 s3.heap.objs.size cl fp
    have pk := hk s3 G3 s3.heap.objs.size cl fp
    have pv := he s3 G3 s3.heap.objs.size cl fp
    have cL : (compEnvC scope cl s3.heap.objs.size X.env).locals = s3.heap.objs.size := rfl
    generalize compEnvC scope cl s3.heap.objs.size X.env = ce at I4 pg pt pk pv cL ⊢
    have st4 : tn 0 (pushCells (s3.heap.push { cls := .type "dict", data := .dict #[] }) scope.names) := T.keep _ _ _ st3 fun b _ o e => pushCells_keeps _ _ _ _ (Heap.get?_push_of_some _ e)
    generalize hs4 : ({ s3 with heap := pushCells (s3.heap.push { cls := .type "dict", data := .dict #[] }) scope.names } : Shared) = s4 at I4 ⊢
    have st5 : tn 0 s4.heap := by rw [← hs4]; exact st4
    have loop : codeAny (model X.prog X.w) X.A (.compLoop (.DictComp kx vx [⟨tg, iter, ifs, 0⟩] scope pos) 0 (.ref it) (.ref D) ce) (compPost (model X.prog X.w) X.A X.xe use Qf (.ref D) s3.heap.objs.size) s4 := by
      refine compLoop_anyD (CmpSt (X.blk s3 G3 scope ce fp) (wipe σ (own.map (·.2))) fp tn W) ?_ m0 ⟨0, G3, I4, st5, fun b hb => (f3 b hb).1.1, w0⟩
      rintro n s5 ⟨i, G5, I5, t5, n5, w5⟩
      have own5 := blk_fp (Y := X.blk s3 G3 scope ce fp) rfl rfl I5 n5
      rcases turn i n G5 w5 with ⟨stop, fin⟩ | ⟨go, Nx, next, body⟩
      · refine wpAny_mono (T.done (X.blk s3 G3 scope ce fp) rfl rfl rfl hc i [] s5 _ G5 (fun _ _ => False) I5 own5 t5 stop) ?_ (fun _ _ z => z.elim)
        rintro _ s6 ⟨rfl, I6⟩
        have free6 : G5 ce.locals = none := I6.free
        obtain ⟨m, hm, _⟩ := I6.loc
        rw [cL] at free6
        have hm2 : s6.heap.Ns ce.locals m := hm
        rw [cL] at hm2
        have I7 : Inv X pins σ G5 s6 := I3.call' (ch := fp) I6.os I6.base I6.hok I6.bare fun b hb => let f := (f3 b hb).1; ⟨f.2.2.2.1, f.2.1, f.2.2.2.2.1, f.2.2.2.2.2⟩
        exact last D _ s6 m G5 I7 fin hm2 (I3.fpOk (Nat.le_refl _) free6)
      · refine wpAny_mono (T.item (X.blk s3 G3 scope ce fp) rfl rfl rfl hc i [] s5 _ G5 (fun _ _ => False) I5 own5 t5 go) ?_ (fun _ _ z => z.elim)
        rintro _ s6 ⟨u, rfl, h6⟩
        refine wpAny_mono h6 ?_ (fun _ _ z => z.elim)
        rintro _ s7 ⟨x, G7, I7, r7, y7, t7, n7⟩
        have ends := fun {s' : Shared} {G : Hp} {σ8 : L2.St} (hw : wipe σ8 (own.map (·.2)) = wipe σ (own.map (·.2))) (I' : Inv (X.blk s3 G3 scope ce fp) ([] ++ pinsAt fp s7.heap) σ8 G s') (nx : Nx G) =>
          turn_ends rfl hw (fun b hb => let ⟨o, e, _⟩ := T.obj _ _ t7 b hb; ⟨o, e⟩) (fun h' k => T.keep _ _ _ t7 k) I' nx next
        have I8 := I7.pinned (blk_fp (Y := X.blk s3 G3 scope ce fp) rfl rfl I7 n7) (T.obj _ _ t7)
        refine wpAny_mono (pg.run _ s7 _ G7 x u _ I8 r7 (body x G7 y7)) ?_ (fun _ _ z => (show False from z).elim)
        rintro _ s8 ⟨σ8, G8, J8, hw8, q8⟩
        refine wpAny_mono (pt.run _ s8 σ8 G8 _ J8 q8) ?_ (fun _ _ z => (show False from z).elim)
        rintro b s9 ⟨G9, J9, q9⟩
        cases b with
        | false =>
          rw [if_neg (by decide)] at q9 ⊢
          exact ends hw8 J9 q9
        | true =>
          rw [if_pos rfl] at q9 ⊢
          refine wpAny_mono (pk.run _ s9 σ8 G9 _ J9 q9) ?_ (fun _ _ z => (show False from z).elim)
          rintro a1 s10 ⟨yk, G10, J10, r10, q10⟩
          refine wpAny_mono (pv.run _ s10 σ8 G10 _ J10 q10) ?_ (fun _ _ z => (show False from z).elim)
          rintro a2 s11 ⟨yv, G11, J11, r11, G12, put, nx⟩
          exact put_dict (X := X.blk s3 G3 scope ce fp) hu J11 put r10 r11 fun s12 J12 => ends hw8 J12 nx
    exact codeAny_compStart_dict loop (T.self X.A 0 _ _ _ st5 loop)
/-- {k: v for ..}, as a value -/
theorem pe_dcP {o0 : HO} (ho : o0 = .dK [] ∨ o0 = .dT []) (hu : X.A.units + 1 < cLine) {kx vx tg iter : Expr} {ifs : List Expr} {scope : Scope} {own : List (Str × Nat)} {pos : Pos} {wi : TI} {g : TG} {tt : TT} {tk tv : TE} (hc : X.calm = true) (hN : X.N.Nodup) (hi : PI X tg iter wi) (ok : BlkOk X.N X.env.scope scope own)
    (hg : ∀ (z : Shared) (G : Hp) (C : Addr) (cl : List (Str × Addr)) (fp : List Addr), PG (X.blk z G scope (compEnvC scope cl C X.env) fp) tg g) (ht : ∀ (z : Shared) (G : Hp) (C : Addr) (cl : List (Str × Addr)) (fp : List Addr), PTs (X.blk z G scope (compEnvC scope cl C X.env) fp) ifs tt)
    (hk : ∀ (z : Shared) (G : Hp) (C : Addr) (cl : List (Str × Addr)) (fp : List Addr), PE (X.blk z G scope (compEnvC scope cl C X.env) fp) kx tk) (he : ∀ (z : Shared) (G : Hp) (C : Addr) (cl : List (Str × Addr)) (fp : List Addr), PE (X.blk z G scope (compEnvC scope cl C X.env) fp) vx tv)
    (hs : ∀ x, foldedSetIterable iter X.env x = pure x := by intro _; rfl) : PE X (.DictComp kx vx [⟨tg, iter, ifs, 0⟩] scope pos) (tDcP o0 wi g tt tk tv (own.map (·.2))) where
  run := fun pins s σ H Q I h => by
    rw [arm_eval_DictComp]
    refine dcp_core ho hu hc hN hi ok hg ht hk he hs I h fun D C s' m G J q hm f => ⟨m, hm, fun h'' sb => ?_⟩
    obtain ⟨g0, g1, _, g3, g4, g5⟩ := f
    exact ⟨.ref D, G, J.turned (t' := s'.toks) (fun b o hb e => (sb.2 b hb).trans e) g0 g1 g3 g4 g5, rfl, q⟩
/-- y = {k: v for ..} -/
theorem ps_setDc {i : Nat} {y : Str} {py spos : Pos} {o0 : HO} (ho : o0 = .dK [] ∨ o0 = .dT []) (hu : X.A.units + 1 < cLine) {kx vx tg iter : Expr} {ifs : List Expr} {scope : Scope} {own : List (Str × Nat)} {pos : Pos} {wi : TI} {g : TG} {tt : TT} {tk tv : TE} (hc : X.calm = true) (hN : X.N.Nodup) (hy : X.N[i]? = some y) (hyl : X.env.scope.names.lookup y = some .local)
    (hsw : swapsWith (.DictComp kx vx [⟨tg, iter, ifs, 0⟩] scope pos) (some (.Name y py)) spos.line X.env = pure true) (hi : PI X tg iter wi) (ok : BlkOk X.N X.env.scope scope own)
    (hg : ∀ (z : Shared) (G : Hp) (C : Addr) (cl : List (Str × Addr)) (fp : List Addr), PG (X.blk z G scope (compEnvC scope cl C X.env) fp) tg g) (ht : ∀ (z : Shared) (G : Hp) (C : Addr) (cl : List (Str × Addr)) (fp : List Addr), PTs (X.blk z G scope (compEnvC scope cl C X.env) fp) ifs tt)
    (hk : ∀ (z : Shared) (G : Hp) (C : Addr) (cl : List (Str × Addr)) (fp : List Addr), PE (X.blk z G scope (compEnvC scope cl C X.env) fp) kx tk) (he : ∀ (z : Shared) (G : Hp) (C : Addr) (cl : List (Str × Addr)) (fp : List Addr), PE (X.blk z G scope (compEnvC scope cl C X.env) fp) vx tv)
    (hs : ∀ x, foldedSetIterable iter X.env x = pure x := by intro _; rfl) : PS X (.Assign [.Name y py] (.DictComp kx vx [⟨tg, iter, ifs, 0⟩] scope pos) spos) (tAsg (tDcP o0 wi g tt tk tv (own.map (·.2))) (gName i)) where
  run := fun pins s σ H D I h => by
    have h2 : tDcP o0 wi g tt tk tv (own.map (·.2)) σ H (fun x H1 => gName i x σ H1 D.nx) := h
    rw [exec_Assign_Name_used _ _ _ _ hsw]
    refine wpAny_bind (wpAny_standAt (wpAny_bind ?_))
    show wpAny _ X.A (do let _ ← comprehension (.DictComp kx vx [⟨tg, iter, ifs, 0⟩] scope pos) scope X.env (firstIterPos [⟨tg, iter, ifs, 0⟩] pos) newDict false (eval iter X.env) (some (assign (.Name y py) X.env))) _ _ s
    refine wpAny_bind (thn (dcp_core (Qf := fun _ s' => SP X pins D .next s') ho hu hc hN hi ok hg ht hk he hs I h2 fun L C s' m G J q hm f => ?_) fun _ s' hq => wpAny_pure (wpAny_pure hq))
    obtain ⟨g0, g1, _, g3, g4, g5⟩ := f
    show wpAny _ _ (assign (.Name y py) X.env (.ref L)) _ _ _
    refine wpAny_assign_Name (store_ok2 (v := V.ref L) J hN hy (.inl hyl) rfl (fun s2 J2 ⟨c, sb, hc⟩ => ?_) (.inr hyl))
    have far : C ≠ c := hc.elim (fun z => z ▸ g1) fun z e => g4 y c z e.symm
    exact ⟨m, hm.sameBut sb far, fun h3 sb3 => ⟨_, G, J2.turned (t' := s2.toks) (fun b o hb e => (sb3.2 b hb).trans e) g0 g1 g3 g4 g5, q⟩⟩
theorem sw_trueD {kx vx : Expr} {gs : List Comprehension} {scope : Scope} {pos py : Pos} {y : Str} {l : Nat} {env : Env} (hk : env.scope.kind = .function) (hy : env.scope.names.lookup y = some .local) (hl : (py.line == pos.line) = true)
    (ha : (scope.names.any fun (n, k) => n == y && (k == .local || k == .cell)) = false) : swapsWith (.DictComp kx vx gs scope pos) (some (.Name y py)) l env = pure true := by
  have k1 : env.kindOf y = some .local := hy
  have k2 : env.blockKind = .function := by
    unfold Env.blockKind
    rw [hk]
    rfl
  unfold swapsWith
  simp only [k2, k1, ha, Expr.pos, hl]
  rfl
end
end RK

/-! t[lo:hi:step] of a tuple, the step not 1 -/
namespace RK
open PySem PySem.Spec PyProof.Rows L2
/-- the places that a slice with a step takes -/
def stepAt {α : Type} (xs : List α) (lo hi : Option Int) (st : Int) : List α :=
  (List.range (Builtin.Slice.slicePlaces (Builtin.Slice.sliceAdjust lo hi st (xs.length : Int)).1 (Builtin.Slice.sliceAdjust lo hi st (xs.length : Int)).2 st)).filterMap fun (k : Nat) => xs[((Builtin.Slice.sliceAdjust lo hi st (xs.length : Int)).1 + (k : Int) * st).toNat]?
theorem vals_pick {xs : List V} {us : List Value} (r : Vals xs us) (f : Nat → Nat) : ∀ ks : List Nat, Vals (ks.filterMap fun k => xs[f k]?) (ks.filterMap fun k => us[f k]?)
  | [] => .nil
  | k :: ks => by
    have ih := vals_pick r f ks
    cases e : xs[f k]? with
    | none =>
      have e2 : us[f k]? = none := by rw [List.getElem?_eq_none_iff] at e ⊢; rw [← r.length]; exact e
      rw [List.filterMap_cons, List.filterMap_cons, e, e2]
      exact ih
    | some x =>
      obtain ⟨u, hu, ru⟩ := r.get e
      rw [List.filterMap_cons, List.filterMap_cons, e, hu]
      exact .cons ru ih
section
variable {P : Program} {w : World} {A : Around} {E : Value → Shared → Prop} {s : Shared}
theorem applied_step {sl : Addr} {vl vu vs : Value} {lo hi : Option Int} {st : Int} {n : Nat} {Q : Int × Int × Nat → Shared → Prop} (hs : s.heap.IsSliceOf sl vl vu vs) (pl : IsPart vl lo) (pu : IsPart vu hi) (ps : IsPart vs (some st)) (h0 : st ≠ 0)
    (q : Q ((Builtin.Slice.sliceAdjust lo hi st (n : Int)).1, st, Builtin.Slice.slicePlaces (Builtin.Slice.sliceAdjust lo hi st (n : Int)).1 (Builtin.Slice.sliceAdjust lo hi st (n : Int)).2 st) s) :
    wpAny (model P w) A (Builtin.Slice.sliceApplied (.ref sl) (pure (n : Int))) Q E s := by
  obtain ⟨os, g1, g2, g3⟩ := id hs
  unfold Builtin.Slice.sliceApplied Builtin.Slice.sliceFields
  refine wpAny_bind (wpAny_bind (wpAny_field g1 g3 (x := vl) rfl (wpAny_bind (wpAny_field g1 g3 (x := vu) rfl (wpAny_bind (wpAny_field g1 g3 (x := vs) rfl (wpAny_pure ?_)))))))
  refine wpAny_bind (HT.slicePart_ ps ?_)
  show wpAny _ _ (if (st == 0) = true then _ else _) _ _ s
  rw [if_neg (by simpa using h0)]
  refine wpAny_bind (HT.slicePart_ pl (wpAny_bind (HT.slicePart_ pu (wpAny_bind (wpAny_pure ?_)))))
  exact wpAny_pure q
theorem getItem_tup_step {t sl : Addr} {us : List Value} {vl vu vs : Value} {lo hi : Option Int} {st : Int} {Q : Value → Shared → Prop} (ht : IsTup s.heap t us.toArray) (hs : s.heap.IsSliceOf sl vl vu vs) (pl : IsPart vl lo) (pu : IsPart vu hi) (ps : IsPart vs (some st)) (h0 : st ≠ 0) (h1 : st ≠ 1)
    (hz : (stepAt us lo hi st).length ≤ sizeLine) (q : Q (.ref s.heap.objs.size) { s with heap := s.heap.push { cls := .type "tuple", data := .seq (stepAt us lo hi st).toArray } }) : wpAny (model P w) A (getItem (.ref t) (.ref sl)) Q E s := by
  have isSlice : s.TypeIs (.ref sl) "slice" := let ⟨os, a, b, _⟩ := hs; ⟨os, a, b⟩
  have fits : sizeOk (.seq (stepAt us lo hi st).toArray) := by
    show (stepAt us lo hi st).toArray.size ≤ sizeLine
    rw [List.size_toArray]
    exact hz
  unfold getItem
  try with_reducible refine wpAny_holding ?_
  first | refine wpAny_bind (wpAny_pure ?_) | skip
  refine wpAny_bind (wpAny_sequenceKey ht.typeIs (by decide) (wpAny_bind (wpAny_callSpecial?_slot (name := Str.ofString "__getitem__") ht.typeIs slot_tuple_getitem (wpAny_call_entry slot_tuple_getitem ht.typeIs entry_tuple_getitem ?_ (args_tuple_getitem _ _)))))
  show wpAny _ _ (Builtin.Tuple.tupleItemsOf (.ref t) >>= _) _ _ s
  refine wpAny_bind (tupleItemsOf_ ht (wpAny_bind (wpAny_typeOf isSlice ?_)))
  rw [if_pos (by decide), List.size_toArray]
  refine wpAny_bind (applied_step hs pl pu ps h0 ?_)
  have other : ¬ (((Builtin.Slice.sliceAdjust lo hi st (us.length : Int)).1 == 0 && st == 1 && Builtin.Slice.slicePlaces (Builtin.Slice.sliceAdjust lo hi st (us.length : Int)).1 (Builtin.Slice.sliceAdjust lo hi st (us.length : Int)).2 st == us.length) = true) := by
    rw [show (st == 1) = false from by simpa using h1, Bool.and_false, Bool.false_and]
    decide
  show wpAny _ _ (if ((Builtin.Slice.sliceAdjust lo hi st (us.length : Int)).1 == 0 && st == 1 && Builtin.Slice.slicePlaces (Builtin.Slice.sliceAdjust lo hi st (us.length : Int)).1 (Builtin.Slice.sliceAdjust lo hi st (us.length : Int)).2 st == us.length) = true then _ else _) _ _ s
  rw [if_neg other]
  have same : ((List.range (Builtin.Slice.slicePlaces (Builtin.Slice.sliceAdjust lo hi st (us.length : Int)).1 (Builtin.Slice.sliceAdjust lo hi st (us.length : Int)).2 st)).filterMap fun (k : Nat) => us.toArray[((Builtin.Slice.sliceAdjust lo hi st (us.length : Int)).1 + (k : Int) * st).toNat]?) = stepAt us lo hi st := by
    unfold stepAt
    refine congrArg (List.filterMap · _) (funext fun k => ?_)
    simp
  rw [same]
  first
    | exact wpAny_bind (m := Builtin.Tuple.tupleExact _) (wpAny_newObj_type (wpAny_pure ⟨_, rfl, wpAny_pure q⟩) fits)
    | exact wpAny_bind (wpAny_bind (m := Builtin.Tuple.tupleExact _) (wpAny_newObj_type (wpAny_pure ⟨_, rfl, wpAny_pure q⟩) fits))
    | exact wpAny_bind (m := Builtin.Tuple.tupleExact _) (wpAny_newObj_type (wpAny_bind (wpAny_pure (wpAny_pure ⟨_, rfl, wpAny_pure q⟩))) fits)
    | exact wpAny_bind (wpAny_bind (m := Builtin.Tuple.tupleExact _) (wpAny_newObj_type (wpAny_pure (wpAny_pure ⟨_, rfl, wpAny_pure q⟩)) fits))
end
section
variable {X : Cx}
def tSlStep (K : PySem.W.Frag) (te : TE) (tl th ts : TO) : TE := fun σ H Q => te σ H fun x H1 => tl σ H1 fun l H2 => th σ H2 fun u H3 => ts σ H3 fun o H4 => ∃ a xs st, x = .ref a ∧ o = some st ∧ st ≠ 0 ∧ st ≠ 1 ∧ SqT K H4 a xs ∧ (stepAt xs l u st).length ≤ sizeLine ∧
  ∀ p, H4 p = none → Q (.ref p) (upd H4 p (.tup (stepAt xs l u st)))
theorem pe_sliceStep {e c : Expr} {lo hi : Option Expr} {te : TE} {tl th ts : TO} {p3 pos : Pos} (he : PE X e te) (hl : PO X lo tl) (hh : PO X hi th) (hs : PO X (some c) ts) (hw : ∀ a b, subscripted (.Slice lo hi (some c) p3) false (.ref a) (.ref b) = operate [.ref a, .ref b] (getItem (.ref a) (.ref b)) := by intro _ _; with_unfolding_all rfl) :
    PE X (.Subscript e (.Slice lo hi (some c) p3) pos) (tSlStep X.K te tl th ts) where
  run := fun pins s σ H Q I h => by
    refine Subscript_ (thn (he.run pins s σ H _ I h) ?_)
    rintro v s1 ⟨x, H1, I1, r1, q1⟩
    refine wpAny_Slice (thn (hl.run pins s1 σ H1 _ I1 q1) ?_)
    rintro vl s2 ⟨l, H2, I2, pl, q2⟩
    refine thn (hh.run pins s2 σ H2 _ I2 q2) ?_
    rintro vu s3 ⟨u, H3, I3, pu, q3⟩
    refine thn (hs.run pins s3 σ H3 _ I3 q3) ?_
    rintro vs s4 ⟨o, H4, I4, ps, a, xs, st, rfl, rfl, n0, n1, hx, hz, q⟩
    cases r1
    have I5 : Inv X pins σ H4 { s4 with heap := s4.heap.push { cls := .type "slice", data := .fields #[vl, vu, vs] } } := I4.kept (t' := s4.toks) fun b ob z => Heap.get?_push_of_some _ z
    obtain ⟨us, rv, it, _⟩ := I5.tuple hx
    have r2 : Vals (stepAt xs l u st) (stepAt us l u st) := by
      unfold stepAt
      rw [rv.length]
      exact vals_pick rv _ _
    have hz2 : (stepAt us l u st).length ≤ sizeLine := by rw [← r2.length]; exact hz
    show wpAny (model X.prog X.w) X.A (subscriptTail e (.Slice lo hi (some c) p3) (.ref a) (.ref s4.heap.objs.size)) (EP X pins σ Q) X.xe { s4 with heap := s4.heap.push { cls := .type "slice", data := .fields #[vl, vu, vs] } }
    refine tail_any (ops := [.ref a, .ref s4.heap.objs.size]) it.typeIs slot_tuple_getitem.lookup ?_ (hw _ _)
    refine getItem_tup_step it (Heap.IsSliceOf.new _ vl vu vs) pl pu ps n0 n1 hz2 ?_
    exact ⟨.ref _, _, I5.laid (t' := s4.toks) (o := .tup (stepAt xs l u st)) (fun b ob z => Heap.get?_push_of_some _ z) (Nat.le_refl _) ⟨hz, _, r2, _, Heap.get?_push_size _ rfl, rfl, _, rfl⟩, rfl, q _ (I5.hok.fresh (Nat.le_refl _))⟩
end
end RK

/-! shortest rows of ties: by middles (Floyd, Warshall), and by turns (Bellman, Ford); both are the least sums -/
namespace RPath
variable {α : Type} [DecidableEq α]
abbrev Tab (α : Type) := α → α → Option Int
abbrev Tie (α : Type) := α × α × Int
def put (d : Tab α) (p q : α) (x : Int) : Tab α := fun a b => if a = p ∧ b = q then some x else d a b
theorem put_same (d : Tab α) (p q : α) (x : Int) : put d p q x p q = some x := by unfold put; rw [if_pos ⟨rfl, rfl⟩]
theorem put_ne (d : Tab α) {p q a b : α} (x : Int) (h : ¬ (a = p ∧ b = q)) : put d p q x a b = d a b := by unfold put; rw [if_neg h]
/-- a walk over the ties, in either direction -/
inductive Wk (E : List (Tie α)) : α → α → Int → Prop
  | nil (p : α) : Wk E p p 0
  | fwd {p u v : α} {n w : Int} : Wk E p u n → (u, v, w) ∈ E → Wk E p v (n + w)
  | bwd {p u v : α} {n w : Int} : Wk E p u n → (v, u, w) ∈ E → Wk E p v (n + w)
def Pos (E : List (Tie α)) : Prop := ∀ t ∈ E, 0 ≤ t.2.2
def In (E : List (Tie α)) (ps : List α) : Prop := ∀ t ∈ E, t.1 ∈ ps ∧ t.2.1 ∈ ps
theorem Wk.nonneg {E : List (Tie α)} (hE : Pos E) {p q : α} {n : Int} (h : Wk E p q n) : 0 ≤ n := by
  induction h with
  | nil => exact Int.le_refl 0
  | fwd _ m ih => have := hE _ m; simp only at this; omega
  | bwd _ m ih => have := hE _ m; simp only at this; omega
theorem Wk.cat {E : List (Tie α)} {p m q : α} {a b : Int} (h1 : Wk E p m a) (h2 : Wk E m q b) : Wk E p q (a + b) := by
  induction h2 with
  | nil => rw [Int.add_zero]; exact h1
  | fwd _ mem ih => rw [← Int.add_assoc]; exact .fwd ih mem
  | bwd _ mem ih => rw [← Int.add_assoc]; exact .bwd ih mem
def Sound (E : List (Tie α)) (d : Tab α) : Prop := ∀ p q x, d p q = some x → Wk E p q x
/-- one table is nowhere above another one -/
def Le (d e : Tab α) : Prop := ∀ p q y, e p q = some y → ∃ x, d p q = some x ∧ x ≤ y
theorem Le.refl (d : Tab α) : Le d d := fun _ _ y h => ⟨y, h, Int.le_refl _⟩
theorem Le.trans {d e f : Tab α} (h : Le d e) (k : Le e f) : Le d f := fun p q y hy => by
  obtain ⟨x, hx, l⟩ := k p q y hy
  obtain ⟨z, hz, l2⟩ := h p q x hx
  exact ⟨z, hz, Int.le_trans l2 l⟩
/-- put x at (p, q) if there is nothing or more -/
def low (d : Tab α) (p q : α) (x : Int) : Tab α := match d p q with | none => put d p q x | some c => if x < c then put d p q x else d
theorem low_le (d : Tab α) (p q : α) (x : Int) : Le (low d p q x) d := fun a b y hy => by
  unfold low
  cases e : d p q with
  | none =>
    show ∃ z, put d p q x a b = Option.some z ∧ z ≤ y
    rw [put_ne d x (fun h => by rw [h.1, h.2, e] at hy; cases hy)]
    exact ⟨y, hy, Int.le_refl _⟩
  | some c =>
    show ∃ z, (if x < c then put d p q x else d) a b = Option.some z ∧ z ≤ y
    split
    · by_cases h : a = p ∧ b = q
      · rw [h.1, h.2, e] at hy
        cases hy
        rw [h.1, h.2, put_same]
        exact ⟨x, rfl, by omega⟩
      · rw [put_ne d x h]
        exact ⟨y, hy, Int.le_refl _⟩
    · exact ⟨y, hy, Int.le_refl _⟩
theorem low_at (d : Tab α) (p q : α) (x : Int) : ∃ z, low d p q x p q = some z ∧ z ≤ x := by
  unfold low
  cases e : d p q with
  | none => exact ⟨x, put_same d p q x, Int.le_refl _⟩
  | some c =>
    show ∃ z, (if x < c then put d p q x else d) p q = Option.some z ∧ z ≤ x
    split
    · exact ⟨x, put_same d p q x, Int.le_refl _⟩
    · exact ⟨c, e, by omega⟩
theorem low_sound {E : List (Tie α)} {d : Tab α} {p q : α} {x : Int} (h : Sound E d) (w : Wk E p q x) : Sound E (low d p q x) := fun a b y hy => by
  have hp : ∀ a b y, put d p q x a b = some y → Wk E a b y := fun a b y hy => by
    by_cases e : a = p ∧ b = q
    · rw [e.1, e.2, put_same] at hy
      cases hy
      rw [e.1, e.2]
      exact w
    · rw [put_ne d x e] at hy
      exact h a b y hy
  unfold low at hy
  cases e : d p q with
  | none => rw [e] at hy; exact hp a b y hy
  | some c =>
    rw [e] at hy
    have hy : (if x < c then put d p q x else d) a b = Option.some y := hy
    split at hy
    · exact hp a b y hy
    · exact h a b y hy
/-! ### by middles -/
def short (d : Tab α) (p m q : α) : Tab α := match d p m, d m q with | some a, some b => low d p q (a + b) | _, _ => d
theorem short_le (d : Tab α) (p m q : α) : Le (short d p m q) d := by
  unfold short
  split
  · exact low_le d p q _
  · exact .refl d
theorem short_sound {E : List (Tie α)} {d : Tab α} {p m q : α} (h : Sound E d) : Sound E (short d p m q) := by
  unfold short
  split
  · rename_i a b e1 e2
    exact low_sound h ((h _ _ _ e1).cat (h _ _ _ e2))
  · exact h
theorem short_at (d : Tab α) {p m q : α} {a b : Int} (h1 : d p m = some a) (h2 : d m q = some b) : ∃ x, short d p m q p q = some x ∧ x ≤ a + b := by
  unfold short
  rw [h1, h2]
  exact low_at d p q _
def pass1 (ps : List α) (d : Tab α) (p m : α) : Tab α := ps.foldl (fun d q => short d p m q) d
def pass2 (qs ps : List α) (d : Tab α) (m : α) : Tab α := qs.foldl (fun d p => pass1 ps d p m) d
def passes (ms ps : List α) (d : Tab α) : Tab α := ms.foldl (fun d m => pass2 ps ps d m) d
theorem foldl_le {β : Type} (f : Tab α → β → Tab α) (h : ∀ d b, Le (f d b) d) : ∀ (l : List β) (d : Tab α), Le (l.foldl f d) d
  | [], d => .refl d
  | b :: l, d => (foldl_le f h l (f d b)).trans (h d b)
theorem foldl_sound {β : Type} {E : List (Tie α)} (f : Tab α → β → Tab α) : ∀ (l : List β) (d : Tab α), (∀ d, ∀ b ∈ l, Sound E d → Sound E (f d b)) → Sound E d → Sound E (l.foldl f d)
  | [], d, _, hd => hd
  | b :: l, d, h, hd => foldl_sound f l (f d b) (fun d c hc => h d c (List.mem_cons_of_mem _ hc)) (h d b List.mem_cons_self hd)
theorem pass1_le (ps : List α) (d : Tab α) (p m : α) : Le (pass1 ps d p m) d := foldl_le _ (fun d q => short_le d p m q) ps d
theorem pass2_le (qs ps : List α) (d : Tab α) (m : α) : Le (pass2 qs ps d m) d := foldl_le _ (fun d p => pass1_le ps d p m) qs d
theorem Le.some {d e : Tab α} (h : Le d e) {p q : α} {y : Int} (hy : e p q = some y) : ∃ x, d p q = some x ∧ x ≤ y := h p q y hy
theorem pass1_at {p m q : α} {a b : Int} : ∀ (ps : List α) (d : Tab α), q ∈ ps → d p m = some a → d m q = some b → ∃ x, pass1 ps d p m p q = some x ∧ x ≤ a + b
  | [], _, h, _, _ => by cases h
  | r :: ps, d, h, h1, h2 => by
    have st : Le (pass1 ps (short d p m r) p m) (short d p m r) := pass1_le ps _ p m
    show ∃ x, pass1 ps (short d p m r) p m p q = Option.some x ∧ x ≤ a + b
    by_cases e : q = r
    · subst e
      obtain ⟨x, hx, l⟩ := short_at d h1 h2
      obtain ⟨y, hy, l2⟩ := st.some hx
      exact ⟨y, hy, Int.le_trans l2 l⟩
    · obtain ⟨a', h1', la⟩ := (short_le d p m r).some h1
      obtain ⟨b', h2', lb⟩ := (short_le d p m r).some h2
      obtain ⟨x, hx, l⟩ := pass1_at ps _ ((List.mem_cons.mp h).resolve_left e) h1' h2'
      exact ⟨x, hx, by omega⟩
theorem pass2_at {ps : List α} {p m q : α} {a b : Int} (hq : q ∈ ps) : ∀ (qs : List α) (d : Tab α), p ∈ qs → d p m = some a → d m q = some b → ∃ x, pass2 qs ps d m p q = some x ∧ x ≤ a + b
  | [], _, h, _, _ => by cases h
  | r :: qs, d, h, h1, h2 => by
    have st : Le (pass2 qs ps (pass1 ps d r m) m) (pass1 ps d r m) := pass2_le qs ps _ m
    show ∃ x, pass2 qs ps (pass1 ps d r m) m p q = Option.some x ∧ x ≤ a + b
    by_cases e : p = r
    · subst e
      obtain ⟨x, hx, l⟩ := pass1_at ps d hq h1 h2
      obtain ⟨y, hy, l2⟩ := st.some hx
      exact ⟨y, hy, Int.le_trans l2 l⟩
    · obtain ⟨a', h1', la⟩ := (pass1_le ps d r m).some h1
      obtain ⟨b', h2', lb⟩ := (pass1_le ps d r m).some h2
      obtain ⟨x, hx, l⟩ := pass2_at hq qs _ ((List.mem_cons.mp h).resolve_left e) h1' h2'
      exact ⟨x, hx, by omega⟩
/-- a walk of one tie at least, all of whose inner places lie in S -/
inductive Wi (E : List (Tie α)) (S : List α) : α → α → Int → Prop
  | one {p q : α} {w : Int} : (p, q, w) ∈ E ∨ (q, p, w) ∈ E → Wi E S p q w
  | more {p u q : α} {n w : Int} : Wi E S p u n → u ∈ S → (u, q, w) ∈ E ∨ (q, u, w) ∈ E → Wi E S p q (n + w)
theorem Wi.nonneg {E : List (Tie α)} {S : List α} (hE : Pos E) {p q : α} {n : Int} (h : Wi E S p q n) : 0 ≤ n := by
  have e : ∀ {u q : α} {w : Int}, (u, q, w) ∈ E ∨ (q, u, w) ∈ E → 0 ≤ w := fun m => m.elim (fun m => hE _ m) fun m => hE _ m
  induction h with
  | one m => exact e m
  | more _ _ m ih => have := e m; omega
theorem Wi.split {E : List (Tie α)} {S : List α} {m : α} (hE : Pos E) {p q : α} {n : Int} (h : Wi E (S ++ [m]) p q n) : (∃ k, Wi E S p q k ∧ k ≤ n) ∨ ∃ a b, Wi E S p m a ∧ Wi E S m q b ∧ a + b ≤ n := by
  induction h with
  | one mem => exact .inl ⟨_, .one mem, Int.le_refl _⟩
  | @more u q n w _ hu mem ih =>
    by_cases e : u = m
    · subst e
      rcases ih with ⟨k, hk, l⟩ | ⟨a, b, ha, hb, l⟩
      · exact .inr ⟨k, w, hk, .one mem, by omega⟩
      · have := hb.nonneg hE
        exact .inr ⟨a, w, ha, .one mem, by omega⟩
    · have hS : u ∈ S := (List.mem_append.mp hu).resolve_right fun z => e (List.mem_singleton.mp z)
      rcases ih with ⟨k, hk, l⟩ | ⟨a, b, ha, hb, l⟩
      · exact .inl ⟨_, .more hk hS mem, by omega⟩
      · exact .inr ⟨a, _, ha, .more hb hS mem, by omega⟩
/-- the table knows all walks through S -/
def Knows (E : List (Tie α)) (ps S : List α) (d : Tab α) : Prop := ∀ p q n, p ∈ ps → q ∈ ps → Wi E S p q n → ∃ x, d p q = some x ∧ x ≤ n
theorem knows_pass {E : List (Tie α)} {ps S : List α} {m : α} {d : Tab α} (hE : Pos E) (hm : m ∈ ps) (h : Knows E ps S d) : Knows E ps (S ++ [m]) (pass2 ps ps d m) := fun p q n hp hq w => by
  rcases w.split hE with ⟨k, hk, l⟩ | ⟨a, b, ha, hb, l⟩
  · obtain ⟨x, hx, lx⟩ := h p q k hp hq hk
    obtain ⟨y, hy, ly⟩ := (pass2_le ps ps d m).some hx
    exact ⟨y, hy, by omega⟩
  · obtain ⟨x, hx, lx⟩ := h p m a hp hm ha
    obtain ⟨y, hy, ly⟩ := h m q b hm hq hb
    obtain ⟨z, hz, lz⟩ := pass2_at hq ps d hp hx hy
    exact ⟨z, hz, by omega⟩
theorem knows_passes {E : List (Tie α)} {ps : List α} (hE : Pos E) : ∀ (ms S : List α) (d : Tab α), (∀ m ∈ ms, m ∈ ps) → Knows E ps S d → Knows E ps (S ++ ms) (passes ms ps d)
  | [], S, d, _, h => by rw [List.append_nil]; exact h
  | m :: ms, S, d, hm, h => by
    have := knows_passes hE ms (S ++ [m]) _ (fun x hx => hm x (List.mem_cons_of_mem _ hx)) (knows_pass hE (hm m List.mem_cons_self) h)
    rw [List.append_assoc] at this
    exact this
/-- what is asked: each entry is a walk's length, and no walk is shorter -/
structure Exact (E : List (Tie α)) (ps : List α) (d : Tab α) : Prop where
  sound : Sound E d
  least : ∀ p q n, p ∈ ps → q ∈ ps → Wk E p q n → ∃ x, d p q = some x ∧ x ≤ n
theorem wk_wi {E : List (Tie α)} {ps : List α} (hI : In E ps) {p q : α} {n : Int} (h : Wk E p q n) : (p = q ∧ n = 0) ∨ Wi E ps p q n := by
  induction h with
  | nil => exact .inl ⟨rfl, rfl⟩
  | fwd _ m ih =>
    rcases ih with ⟨e, z⟩ | w
    · subst e z; rw [Int.zero_add]; exact .inr (.one (.inl m))
    · exact .inr (.more w (hI _ m).1 (.inl m))
  | bwd _ m ih =>
    rcases ih with ⟨e, z⟩ | w
    · subst e z; rw [Int.zero_add]; exact .inr (.one (.inr m))
    · exact .inr (.more w (hI _ m).2 (.inr m))
theorem passes_sound {E : List (Tie α)} (ms ps : List α) (d : Tab α) (h : Sound E d) : Sound E (passes ms ps d) :=
  foldl_sound _ _ _ (fun d m _ hd => foldl_sound _ _ _ (fun d p _ hd => foldl_sound _ _ _ (fun d q _ hd => short_sound hd) hd) hd) h
theorem passes_le (ms ps : List α) (d : Tab α) : Le (passes ms ps d) d := foldl_le _ (fun d m => pass2_le ps ps d m) ms d
/-- the table of the ties themselves -/
structure Start (E : List (Tie α)) (ps : List α) (d : Tab α) : Prop where
  sound : Sound E d
  diag : ∀ p ∈ ps, d p p = some 0
  ties : ∀ t ∈ E, (∃ x, d t.1 t.2.1 = some x ∧ x ≤ t.2.2) ∧ ∃ x, d t.2.1 t.1 = some x ∧ x ≤ t.2.2
theorem passes_exact {E : List (Tie α)} {ps : List α} (hE : Pos E) (hI : In E ps) {d : Tab α} (h : Start E ps d) : Exact E ps (passes ps ps d) where
  sound := passes_sound ps ps d h.sound
  least := fun p q n hp hq w => by
    have k0 : Knows E ps [] d := fun p q n _ _ w => by
      cases w with
      | one m => exact m.elim (fun m => (h.ties _ m).1) fun m => (h.ties _ m).2
      | more _ hu _ => cases hu
    have k := knows_passes hE ps [] d (fun m hm => hm) k0
    rw [List.nil_append] at k
    rcases wk_wi hI w with ⟨rfl, rfl⟩ | wi
    · exact (passes_le ps ps d).some (h.diag p hp)
    · exact k p q n hp hq wi
theorem Exact.uniq {E : List (Tie α)} {ps : List α} {d e : Tab α} (h : Exact E ps d) (k : Exact E ps e) {p q : α} (hp : p ∈ ps) (hq : q ∈ ps) : d p q = e p q := by
  cases h1 : d p q with
  | none =>
    cases h2 : e p q with
    | none => rfl
    | some y =>
      obtain ⟨x, hx, _⟩ := h.least p q y hp hq (k.sound _ _ _ h2)
      rw [h1] at hx
      cases hx
  | some x =>
    obtain ⟨y, hy, l⟩ := k.least p q x hp hq (h.sound _ _ _ h1)
    obtain ⟨x', hx', l'⟩ := h.least p q y hp hq (k.sound _ _ _ hy)
    rw [h1] at hx'
    cases hx'
    rw [hy, show x = y by omega]
theorem Exact.nonneg {E : List (Tie α)} {ps : List α} (hE : Pos E) {d : Tab α} (h : Exact E ps d) {p q : α} {x : Int} (e : d p q = some x) : 0 ≤ x := (h.sound _ _ _ e).nonneg hE
theorem Exact.diag {E : List (Tie α)} {ps : List α} (hE : Pos E) {d : Tab α} (h : Exact E ps d) {p : α} (hp : p ∈ ps) : d p p = some 0 := by
  obtain ⟨x, hx, l⟩ := h.least p p 0 hp hp (.nil p)
  have := h.nonneg hE hx
  rw [hx, show x = 0 by omega]
/-! ### the table of the ties themselves -/
def Meet (t u : Tie α) : Prop := (t.1 = u.1 ∧ t.2.1 = u.2.1) ∨ (t.1 = u.2.1 ∧ t.2.1 = u.1)
def dia (ps : List α) : Tab α := ps.foldl (fun d p => put d p p 0) fun _ _ => none
def tie2 (d : Tab α) (t : Tie α) : Tab α := put (put d t.1 t.2.1 t.2.2) t.2.1 t.1 t.2.2
def ini (ps : List α) (es : List (Tie α)) : Tab α := es.foldl tie2 (dia ps)
theorem dia_at (ps : List α) (a b : α) : dia ps a b = if a = b ∧ a ∈ ps then some 0 else none := by
  have : ∀ (l : List α) (d : Tab α), l.foldl (fun d p => put d p p 0) d a b = if a = b ∧ a ∈ l then some 0 else d a b := fun l => by
    induction l with
    | nil => intro d; rw [if_neg (by simp)]; rfl
    | cons p l ih =>
      intro d
      show l.foldl _ (put d p p 0) a b = _
      rw [ih]
      by_cases e : a = b
      · subst e
        by_cases m : a ∈ l
        · rw [if_pos ⟨rfl, m⟩, if_pos ⟨rfl, List.mem_cons_of_mem _ m⟩]
        · rw [if_neg (fun z => m z.2)]
          by_cases q : a = p
          · subst q
            rw [put_same, if_pos ⟨rfl, List.mem_cons_self⟩]
          · rw [put_ne d 0 (fun z => q z.1), if_neg (fun z => (List.mem_cons.mp z.2).elim q m)]
      · rw [if_neg (fun z => e z.1), if_neg (fun z => e z.1), put_ne d 0 (fun z => e (z.1.trans z.2.symm))]
  exact this ps _
theorem tie2_at (d : Tab α) (t : Tie α) {a b : α} (h : ¬ (a = t.1 ∧ b = t.2.1)) (k : ¬ (a = t.2.1 ∧ b = t.1)) : tie2 d t a b = d a b := by
  unfold tie2
  rw [put_ne _ _ k, put_ne _ _ h]
theorem tie2_fwd (d : Tab α) (t : Tie α) : tie2 d t t.1 t.2.1 = some t.2.2 := by
  unfold tie2
  by_cases e : t.1 = t.2.1 ∧ t.2.1 = t.1
  · rw [e.1]
    exact put_same ..
  · rw [put_ne _ _ e]
    exact put_same ..
theorem tie2_bwd (d : Tab α) (t : Tie α) : tie2 d t t.2.1 t.1 = some t.2.2 := put_same ..
theorem ini_start {ps : List α} {es : List (Tie α)} (ne : ∀ t ∈ es, t.1 ≠ t.2.1) (apart : es.Pairwise fun t u => ¬ Meet t u) : Start es ps (ini ps es) := by
  have step : ∀ (done rest : List (Tie α)) (d : Tab α), done ++ rest = es → Sound es d → (∀ p ∈ ps, d p p = some 0) → (∀ t ∈ done, d t.1 t.2.1 = some t.2.2 ∧ d t.2.1 t.1 = some t.2.2) →
      Sound es (rest.foldl tie2 d) ∧ (∀ p ∈ ps, rest.foldl tie2 d p p = some 0) ∧ ∀ t ∈ es, rest.foldl tie2 d t.1 t.2.1 = some t.2.2 ∧ rest.foldl tie2 d t.2.1 t.1 = some t.2.2 := fun done rest => by
    induction rest generalizing done with
    | nil =>
      intro d e h1 h2 h3
      rw [List.append_nil] at e
      subst e
      exact ⟨h1, h2, h3⟩
    | cons t rest ih =>
      intro d e h1 h2 h3
      have mt : t ∈ es := by rw [← e]; exact List.mem_append_right _ List.mem_cons_self
      refine ih (done ++ [t]) (tie2 d t) (by rw [List.append_assoc]; exact e) (fun a b x hx => ?_) (fun p hp => ?_) (fun u hu => ?_)
      · by_cases c : a = t.2.1 ∧ b = t.1
        · rw [c.1, c.2, tie2_bwd] at hx
          cases hx
          rw [c.1, c.2, show t.2.2 = 0 + t.2.2 by omega]
          exact .bwd (.nil _) mt
        · by_cases c2 : a = t.1 ∧ b = t.2.1
          · rw [c2.1, c2.2, tie2_fwd] at hx
            cases hx
            rw [c2.1, c2.2, show t.2.2 = 0 + t.2.2 by omega]
            exact .fwd (.nil _) mt
          · rw [tie2_at d t c2 c] at hx
            exact h1 a b x hx
      · rw [tie2_at d t (fun z => ne t mt (z.1.symm.trans z.2)) (fun z => ne t mt (z.2.symm.trans z.1))]
        exact h2 p hp
      · rcases List.mem_append.mp hu with hu | hu
        · have nm : ¬ Meet u t := by
            rw [← e] at apart
            exact (List.pairwise_append.mp apart).2.2 u hu t List.mem_cons_self
          rw [tie2_at d t (fun z => nm (.inl z)) (fun z => nm (.inr z)), tie2_at d t (fun z => nm (.inr ⟨z.2, z.1⟩)) (fun z => nm (.inl ⟨z.2, z.1⟩))]
          exact h3 u hu
        · obtain rfl := List.mem_singleton.mp hu
          exact ⟨tie2_fwd d _, tie2_bwd d _⟩
  obtain ⟨a, b, c⟩ := step [] es (dia ps) rfl (fun p q x h => by
    rw [dia_at] at h
    split at h
    · rename_i z
      cases h
      rw [z.1]
      exact .nil _
    · cases h) (fun p hp => by rw [dia_at, if_pos ⟨rfl, hp⟩]) (fun _ h => nomatch h)
  exact ⟨a, b, fun t ht => ⟨⟨_, (c t ht).1, Int.le_refl _⟩, ⟨_, (c t ht).2, Int.le_refl _⟩⟩⟩
/-! ### by turns -/
def relax (d : Tab α) (l u v : α) (w : Int) : Tab α := match d l u with | none => d | some y => low d l v (y + w)
theorem relax_le (d : Tab α) (l u v : α) (w : Int) : Le (relax d l u v w) d := by
  unfold relax
  split
  · exact .refl d
  · exact low_le d l v _
theorem relax_at (d : Tab α) {l u v : α} {w y : Int} (h : d l u = some y) : ∃ x, relax d l u v w l v = some x ∧ x ≤ y + w := by
  unfold relax
  rw [h]
  exact low_at d l v _
def both (d : Tab α) (l : α) (t : Tie α) : Tab α := relax (relax d l t.1 t.2.1 t.2.2) l t.2.1 t.1 t.2.2
theorem both_le (d : Tab α) (l : α) (t : Tie α) : Le (both d l t) d := (relax_le _ l t.2.1 t.1 t.2.2).trans (relax_le d l t.1 t.2.1 t.2.2)
theorem both_sound {E : List (Tie α)} {d : Tab α} {l : α} {t : Tie α} (ht : t ∈ E) (h : Sound E d) : Sound E (both d l t) := by
  have one : ∀ {d : Tab α}, Sound E d → Sound E (relax d l t.1 t.2.1 t.2.2) := fun {d} h => by
    unfold relax
    split
    · exact h
    · rename_i y e
      exact low_sound h (.fwd (h _ _ _ e) ht)
  have two : ∀ {d : Tab α}, Sound E d → Sound E (relax d l t.2.1 t.1 t.2.2) := fun {d} h => by
    unfold relax
    split
    · exact h
    · rename_i y e
      exact low_sound h (.bwd (h _ _ _ e) ht)
  exact two (one h)
def tour1 (ls : List α) (d : Tab α) (t : Tie α) : Tab α := ls.foldl (fun d l => both d l t) d
def tour (E : List (Tie α)) (ls : List α) (d : Tab α) : Tab α := E.foldl (fun d t => tour1 ls d t) d
theorem tour1_le (ls : List α) (d : Tab α) (t : Tie α) : Le (tour1 ls d t) d := foldl_le _ (fun d l => both_le d l t) ls d
theorem tour_le (E : List (Tie α)) (ls : List α) (d : Tab α) : Le (tour E ls d) d := foldl_le _ (fun d t => tour1_le ls d t) E d
theorem tour_sound {E F : List (Tie α)} (hF : ∀ t ∈ F, t ∈ E) (ls : List α) (d : Tab α) (h : Sound E d) : Sound E (tour F ls d) :=
  foldl_sound _ _ _ (fun d t ht hd => foldl_sound _ _ _ (fun d l _ hd => both_sound (hF t ht) hd) hd) h
theorem both_at (d : Tab α) {l : α} {t : Tie α} {y : Int} : (d l t.1 = some y → ∃ x, both d l t l t.2.1 = some x ∧ x ≤ y + t.2.2) ∧ (d l t.2.1 = some y → ∃ x, both d l t l t.1 = some x ∧ x ≤ y + t.2.2) := by
  refine ⟨fun h => ?_, fun h => ?_⟩
  · obtain ⟨x, hx, l1⟩ := relax_at d (v := t.2.1) (w := t.2.2) h
    obtain ⟨z, hz, l2⟩ := (relax_le _ l t.2.1 t.1 t.2.2).some hx
    exact ⟨z, hz, by omega⟩
  · obtain ⟨y', h', l1⟩ := (relax_le d l t.1 t.2.1 t.2.2).some h
    obtain ⟨x, hx, l2⟩ := relax_at _ (v := t.1) (w := t.2.2) h'
    exact ⟨x, hx, by omega⟩
theorem tour1_at {l : α} {t : Tie α} {y : Int} : ∀ (ls : List α) (d : Tab α), l ∈ ls → (d l t.1 = some y → ∃ x, tour1 ls d t l t.2.1 = some x ∧ x ≤ y + t.2.2) ∧ (d l t.2.1 = some y → ∃ x, tour1 ls d t l t.1 = some x ∧ x ≤ y + t.2.2)
  | [], _, h => by cases h
  | r :: ls, d, h => by
    have st : Le (tour1 ls (both d r t) t) (both d r t) := tour1_le ls _ t
    by_cases e : l = r
    · subst e
      refine ⟨fun h => ?_, fun h => ?_⟩
      · obtain ⟨x, hx, l1⟩ := (both_at d).1 h
        obtain ⟨z, hz, l2⟩ := st.some hx
        exact ⟨z, hz, by omega⟩
      · obtain ⟨x, hx, l1⟩ := (both_at d).2 h
        obtain ⟨z, hz, l2⟩ := st.some hx
        exact ⟨z, hz, by omega⟩
    · have ih := fun y => tour1_at (l := l) (t := t) (y := y) ls (both d r t) ((List.mem_cons.mp h).resolve_left e)
      refine ⟨fun h => ?_, fun h => ?_⟩
      · obtain ⟨y', h', l1⟩ := (both_le d r t).some h
        obtain ⟨x, hx, l2⟩ := (ih y').1 h'
        exact ⟨x, hx, by omega⟩
      · obtain ⟨y', h', l1⟩ := (both_le d r t).some h
        obtain ⟨x, hx, l2⟩ := (ih y').2 h'
        exact ⟨x, hx, by omega⟩
theorem tour_at {ls : List α} {l : α} {t : Tie α} {y : Int} (hl : l ∈ ls) : ∀ (E : List (Tie α)) (d : Tab α), t ∈ E → (d l t.1 = some y → ∃ x, tour E ls d l t.2.1 = some x ∧ x ≤ y + t.2.2) ∧ (d l t.2.1 = some y → ∃ x, tour E ls d l t.1 = some x ∧ x ≤ y + t.2.2)
  | [], _, h => by cases h
  | r :: E, d, h => by
    have st : Le (tour E ls (tour1 ls d r)) (tour1 ls d r) := tour_le E ls _
    by_cases e : t = r
    · subst e
      refine ⟨fun h => ?_, fun h => ?_⟩
      · obtain ⟨x, hx, l1⟩ := (tour1_at ls d hl).1 h
        obtain ⟨z, hz, l2⟩ := st.some hx
        exact ⟨z, hz, by omega⟩
      · obtain ⟨x, hx, l1⟩ := (tour1_at ls d hl).2 h
        obtain ⟨z, hz, l2⟩ := st.some hx
        exact ⟨z, hz, by omega⟩
    · have hm : t ∈ E := (List.mem_cons.mp h).resolve_left e
      refine ⟨fun h => ?_, fun h => ?_⟩
      · obtain ⟨y', h', l1⟩ := (tour1_le ls d r).some h
        obtain ⟨x, hx, l2⟩ := (tour_at hl E _ hm).1 h'
        exact ⟨x, hx, by omega⟩
      · obtain ⟨y', h', l1⟩ := (tour1_le ls d r).some h
        obtain ⟨x, hx, l2⟩ := (tour_at hl E _ hm).2 h'
        exact ⟨x, hx, by omega⟩
def tours (E : List (Tie α)) (ls : List α) (d : Tab α) : Nat → Tab α
  | 0 => d
  | n + 1 => tour E ls (tours E ls d n)
/-- what is not settled yet for l -/
def open_ (δ d : Tab α) (l : α) (v : α) : Bool := (δ l v).isSome && decide (d l v ≠ δ l v)
theorem open_step {E : List (Tie α)} {ps : List α} (hE : Pos E) (hI : In E ps) {δ d : Tab α} (hδ : Exact E ps δ) (hs : Sound E d) {l : α} (hl : l ∈ ps) (h0 : d l l = some 0) (v : α) (hv : v ∈ ps) (ho : open_ δ (tour E ps d) l v = true) : open_ δ d l v = true := by
  unfold open_ at *
  rw [Bool.and_eq_true] at *
  refine ⟨ho.1, ?_⟩
  have := ho.2
  simp only [decide_eq_true_eq] at *
  intro e
  apply this
  obtain ⟨x, hx⟩ := Option.isSome_iff_exists.mp ho.1
  rw [hx] at e ⊢
  obtain ⟨y, hy, l1⟩ := (tour_le E ps d).some e
  obtain ⟨z, hz, l2⟩ := hδ.least l v y hl hv (tour_sound (fun t h => h) ps d hs _ _ _ hy)
  rw [hx] at hz
  cases hz
  rw [hy, show y = x by omega]
theorem open_less {E : List (Tie α)} {ps : List α} (hE : Pos E) (hI : In E ps) {δ d : Tab α} (hδ : Exact E ps δ) (hs : Sound E d) {l : α} (hl : l ∈ ps) (h0 : d l l = some 0) (hn : ∀ v ∈ ps, open_ δ d l v = true → open_ δ (tour E ps d) l v = true) :
    ∀ v ∈ ps, open_ δ d l v = false := by
  have shut : ∀ v, open_ δ d l v = false → (δ l v).isSome = true → d l v = δ l v := fun v h hi => by
    unfold open_ at h
    rw [hi, Bool.true_and] at h
    simpa using h
  have step : ∀ u v w, (u, v, w) ∈ E ∨ (v, u, w) ∈ E → u ∈ ps → v ∈ ps → open_ δ d l u = false → open_ δ d l v = true → ∀ y, δ l u = some y → ∀ x, δ l v = some x → x < y + w := fun u v w m hu hv ou ov y hy x hx => by
    have eu := shut u ou (by rw [hy]; rfl)
    rw [hy] at eu
    have := m.elim (fun m => (tour_at hl E d m).1 eu) fun m => (tour_at hl E d m).2 eu
    obtain ⟨z, hz, lz⟩ := this
    have wz := tour_sound (fun t h => h) ps d hs _ _ _ hz
    obtain ⟨x', hx', lx⟩ := hδ.least l v z hl hv wz
    simp only at hx' lz hz
    rw [hx] at hx'
    cases hx'
    have ov' := hn v hv ov
    unfold open_ at ov'
    rw [Bool.and_eq_true] at ov'
    have ne : tour E ps d l v ≠ δ l v := by simpa using ov'.2
    rw [hz, hx] at ne
    have : z ≠ x := fun e => ne (by rw [e])
    omega
  have key : ∀ v n, Wk E l v n → v ∈ ps → open_ δ d l v = true → ∀ x, δ l v = some x → x < n := fun v n w => by
    have one : ∀ {u v : α} {n w : Int}, Wk E l u n → ((u, v, w) ∈ E ∨ (v, u, w) ∈ E) → u ∈ ps → (u ∈ ps → open_ δ d l u = true → ∀ x, δ l u = some x → x < n) → v ∈ ps → open_ δ d l v = true → ∀ x, δ l v = some x → x < n + w := fun {u v n w} hw m hu ih hv ov x hx => by
      obtain ⟨y, hy, ly⟩ := hδ.least l u n hl hu hw
      have wv : Wk E l v (y + w) := m.elim (fun m => .fwd (hδ.sound _ _ _ hy) m) fun m => .bwd (hδ.sound _ _ _ hy) m
      obtain ⟨x', hx', lx⟩ := hδ.least l v _ hl hv wv
      rw [hx] at hx'
      cases hx'
      cases ou : open_ δ d l u with
      | true => have := ih hu ou y hy; omega
      | false => have := step u v w m hu hv ou ov y hy x hx; omega
    induction w with
    | nil =>
      intro _ o x hx
      have e : d l l = δ l l := by rw [h0, hδ.diag hE hl]
      unfold open_ at o
      rw [Bool.and_eq_true] at o
      exact absurd e (by simpa using o.2)
    | fwd hw m ih => exact one hw (.inl m) (hI _ m).1 ih
    | bwd hw m ih => exact one hw (.inr m) (hI _ m).2 ih
  intro v hv
  cases o : open_ δ d l v with
  | false => rfl
  | true =>
    have o' := o
    unfold open_ at o'
    rw [Bool.and_eq_true] at o'
    obtain ⟨x, hx⟩ := Option.isSome_iff_exists.mp o'.1
    exact absurd (key v x (hδ.sound _ _ _ hx) hv o x hx) (by omega)
theorem filter_lt {p q : α → Bool} : ∀ (l : List α), (∀ v ∈ l, q v = true → p v = true) → (∃ v ∈ l, p v = true ∧ q v = false) → (l.filter q).length < (l.filter p).length
  | [], _, ⟨_, h, _⟩ => by cases h
  | a :: l, h, ⟨v, hv, pv, qv⟩ => by
    have le : ∀ (l : List α), (∀ v ∈ l, q v = true → p v = true) → (l.filter q).length ≤ (l.filter p).length := fun l h => by
      induction l with
      | nil => exact Nat.le_refl _
      | cons b l ih =>
        have := ih fun v hv => h v (List.mem_cons_of_mem _ hv)
        rw [List.filter_cons, List.filter_cons]
        cases hq : q b with
        | true => rw [h b List.mem_cons_self hq]; simpa using this
        | false => cases hp : p b <;> simp <;> omega
    have ht : ∀ v ∈ l, q v = true → p v = true := fun v hv => h v (List.mem_cons_of_mem _ hv)
    rw [List.filter_cons, List.filter_cons]
    rcases List.mem_cons.mp hv with rfl | hv
    · rw [pv, qv]
      have := le l ht
      simp
      omega
    · have := filter_lt l ht ⟨v, hv, pv, qv⟩
      cases hq : q a with
      | true => rw [h a List.mem_cons_self hq]; simpa using this
      | false => cases hp : p a <;> simp <;> omega
theorem tours_sound {E : List (Tie α)} {ps : List α} {d : Tab α} (h : Sound E d) : ∀ n, Sound E (tours E ps d n)
  | 0 => h
  | n + 1 => tour_sound (fun t h => h) ps _ (tours_sound h n)
theorem tours_diag {E : List (Tie α)} {ps : List α} (hE : Pos E) {d : Tab α} (h : Sound E d) {l : α} (h0 : d l l = some 0) : ∀ n, tours E ps d n l l = some 0
  | 0 => h0
  | n + 1 => by
    obtain ⟨x, hx, l1⟩ := (tour_le E ps (tours E ps d n)).some (tours_diag hE h h0 n)
    have := (tours_sound (ps := ps) h (n + 1) _ _ _ hx).nonneg hE
    show tour E ps (tours E ps d n) l l = some 0
    rw [hx, show x = 0 by omega]
theorem tours_count {E : List (Tie α)} {ps : List α} (hE : Pos E) (hI : In E ps) {δ d : Tab α} (hδ : Exact E ps δ) (hs : Sound E d) {l : α} (hl : l ∈ ps) (h0 : d l l = some 0) : ∀ n, (ps.filter (open_ δ (tours E ps d n) l)).length ≤ ps.length - n
  | 0 => List.length_filter_le _ _
  | n + 1 => by
    have ih := tours_count hE hI hδ hs hl h0 n
    have s := tours_sound (ps := ps) hs n
    have z := tours_diag (ps := ps) hE hs h0 n
    have sub := open_step hE hI hδ s hl z
    by_cases ex : ∃ v ∈ ps, open_ δ (tours E ps d n) l v = true ∧ open_ δ (tour E ps (tours E ps d n)) l v = false
    · have := filter_lt ps sub ex
      show (ps.filter (open_ δ (tour E ps (tours E ps d n)) l)).length ≤ _
      omega
    · have all := open_less hE hI hδ s hl z fun v hv o => by
        cases q : open_ δ (tour E ps (tours E ps d n)) l v with
        | true => rfl
        | false => exact absurd ⟨v, hv, o, q⟩ ex
      have e : ps.filter (open_ δ (tour E ps (tours E ps d n)) l) = [] := by
        rw [List.filter_eq_nil_iff]
        intro v hv o
        have := sub v hv o
        rw [all v hv] at this
        cases this
      show (ps.filter (open_ δ (tour E ps (tours E ps d n)) l)).length ≤ _
      rw [e]
      exact Nat.zero_le _
theorem tours_exact {E : List (Tie α)} {ps : List α} (hE : Pos E) (hI : In E ps) {δ d : Tab α} (hδ : Exact E ps δ) (hs : Sound E d) (h0 : ∀ l ∈ ps, d l l = some 0) {p q : α} (hp : p ∈ ps) (hq : q ∈ ps) : tours E ps d ps.length p q = δ p q := by
  have c := tours_count hE hI hδ hs hp (h0 p hp) ps.length
  rw [Nat.sub_self] at c
  have e : open_ δ (tours E ps d ps.length) p q = false := by
    cases o : open_ δ (tours E ps d ps.length) p q with
    | false => rfl
    | true =>
      have : q ∈ ps.filter (open_ δ (tours E ps d ps.length) p) := List.mem_filter.mpr ⟨hq, o⟩
      have := List.length_pos_of_mem this
      omega
  cases h : δ p q with
  | none =>
    cases k : tours E ps d ps.length p q with
    | none => rfl
    | some x =>
      obtain ⟨y, hy, _⟩ := hδ.least p q x hp hq (tours_sound (ps := ps) hs _ _ _ _ k)
      rw [h] at hy
      cases hy
  | some x =>
    unfold open_ at e
    rw [h] at e
    simpa using e
end RPath

/-! what the laws over puppets share: loops and comprehensions over any walk, tuples of rows, bags -/
namespace RK
open PySem PySem.Spec PyProof.Rows L2 RZ
theorem none_of {H H' : Hp} {q : Addr} (e : Same H H') (h : H' q = none) : H q = none := by
  cases z : H q with
  | none => rfl
  | some o => rw [e _ _ z] at h; cases h
theorem seqL_same {K : PySem.W.Frag} {H H' : Hp} {p : Addr} {xs : List V} (e : Same H H') (h : SqL K H p xs) : SqL K H' p xs := by
  rcases h with (h | ⟨o, h⟩) | h
  · exact .inl (.inl (e _ _ h))
  · exact .inl (.inr ⟨o, e _ _ h⟩)
  · exact .inr h
theorem Kp.sameT {H H' : Hp} {b : Addr} (k : Kp b H H') : SameT H H' := fun c o h n => by
  obtain ⟨f, s, m, hb⟩ := k.bag
  exact k.keep c o (fun z => by rw [z, hb] at h; cases h; exact n _ rfl) h
theorem SameT.sqt {K : PySem.W.Frag} {H H' : Hp} {p : Addr} {xs : List V} (e : SameT H H') (h : SqT K H p xs) : SqT K H' p xs := by
  rcases h with (h | ⟨o, h⟩) | h
  · exact .inl (.inl (e.tup h))
  · exact .inl (.inr ⟨o, e _ _ h nofun⟩)
  · exact .inr h
theorem Kp.sqt {K : PySem.W.Frag} {H H' : Hp} {b p : Addr} {xs : List V} (k : Kp b H H') (h : SqT K H p xs) : SqT K H' p xs := k.sameT.sqt h
theorem bag_ne {H : Hp} {b l : Addr} (hb : Bag H b) (n : H l = none) : l ≠ b := fun z => by
  obtain ⟨f, s, m, h⟩ := hb
  rw [z, h] at n
  cases n
theorem kp_upd {H : Hp} {b : Addr} {f s n : Int} (h : Bag H b) : Kp b H (upd H b (.lst [.int f, .int s, .int n])) := ⟨h, ⟨f, s, n, upd_same⟩, fun c o hc e => by rw [upd_ne hc]; exact e⟩
theorem Kp.putNew {b D : Addr} {H G : Hp} {o : HO} (k : Kp b H G) (hD : H D = none) (n : D ≠ b) : Kp b H (upd G D o) := by
  obtain ⟨f, s, m, hb⟩ := k.bag'
  refine ⟨k.bag, ⟨f, s, m, by rw [upd_ne fun z => n z.symm]; exact hb⟩, fun c u hc h => ?_⟩
  rw [upd_ne (ne_of_none h hD)]
  exact k.keep c u hc h
theorem SameT.trans {H H1 H2 : Hp} (a : SameT H H1) (b : SameT H1 H2) : SameT H H2 := fun c o h n => b c o (a c o h n) n
theorem key {G : Prop} {R : Addr → Hp → Prop} (Inv : Addr → Hp → Prop) (h2 : (∀ D' H', Inv D' H' → R D' H') → G) (h1 : ∀ D' H', Inv D' H' → R D' H') : G := h2 h1
theorem keyV {G : Prop} {R : V → Hp → Prop} (Inv : V → Hp → Prop) (h2 : (∀ v H', Inv v H' → R v H') → G) (h1 : ∀ v H', Inv v H' → R v H') : G := h2 h1
theorem goGen {G : Hp → Prop} {H : Hp} (Pv : Hp → Prop) (h : Pv H) (k : ∀ H', Pv H' → G H') : G H := k H h
theorem room65 {k : Nat} {A : Around} (r : Room k A) : A.units + 65 < cLine := by have := r.un; omega
/-! ### walks -/
theorem walk_enumT {K : PySem.W.Frag} {a : Addr} {xs : List V} : Walk (IteT K a) xs.length (fun H => SqT K H a xs) (YPair (fun i => some (.int (i : Nat))) (fun i => xs[i]?)) where
  goes := fun i _ hi q => ⟨xs, xs[i], q, List.getElem?_eq_getElem hi⟩
  stops := fun _ q => ⟨xs, q, rfl⟩
  yields := fun i H v H' _ q ⟨T, x, h1, h2, h3, h4⟩ => ⟨T, _, x, h1, h2, h3, rfl, h4 xs q⟩
theorem walk_zipS {x y : Str} : Walk (ItzS x y) (min x.cps.size y.cps.size) (fun _ => True) (YPair (fun i => (x.cps[i]?).map fun c => V.str ⟨#[c]⟩) (fun i => (y.cps[i]?).map fun c => V.str ⟨#[c]⟩)) where
  goes := fun i _ hi _ => ⟨x.cps[i]'(by omega), y.cps[i]'(by omega), Array.getElem?_eq_getElem _, Array.getElem?_eq_getElem _⟩
  stops := fun _ _ => rfl
  yields := fun i H v H' _ _ ⟨T, c, d, h1, h2, h3, h4, h5⟩ => ⟨T, _, _, h1, h2, h3, by show (x.cps[i]?).map _ = _; rw [h4]; rfl, by show (y.cps[i]?).map _ = _; rw [h5]; rfl⟩
section
variable {K : PySem.W.Frag} {σ : L2.St} {H : Hp} {Q : VK} {g : TG} {te : TE} {vs : List Nat} {tb : TS} {D : Ends} {J : It} {n : Nat} {Gd : Hp → Prop} {Y : Nat → Hp → V → Hp → Prop}
def ForJ (g : TG) (tb : TS) (D : Ends) (σ : L2.St) (J : It) (H : Hp) : Prop := ∃ W : Nat → Nat → L2.St → Hp → Prop, (∃ m, W 0 m σ H) ∧ ∀ i m σ H, W i m σ H →
  (J.stop i H ∧ D.nx σ H) ∨ (J.go i H ∧ ∃ N : L2.St → Hp → Prop, (∀ σ' H', N σ' H' → ∃ m', m' < m ∧ W (i + 1) m' σ' H') ∧ ∀ x H', J.yld i H x H' → g x σ H' fun σ2 H2 => tb { D with nx := N, ct := N, bk := D.nx } σ2 H2)
theorem w_forJ {wi : TI} (h : wi σ H fun J H1 => ForJ g tb D σ J H1) : tFor wi g tb D σ H := h
theorem w_cm {wi : TI} {tt : TT} (h : wi σ H fun J H1 => CmpAt g tt te vs σ Q J H1) : tLc wi g tt te vs σ H Q := h
theorem w_iStr {td : TE} {R : It → Hp → Prop} (h : td σ H fun v H1 => ∃ x, v = .str x ∧ R (Its x) H1) : iStr td σ H R := h
theorem w_iTup {td : TE} {R : It → Hp → Prop} (h : td σ H fun v H1 => ∃ a, v = .ref a ∧ (∃ xs, SqT K H1 a xs) ∧ R (Itt K a) H1) : iTup K td σ H R := h
theorem w_iList {td : TE} {R : It → Hp → Prop} (h : td σ H fun v H1 => ∃ a, v = .ref a ∧ (∃ xs, SqL K H1 a xs) ∧ R (Itl K a) H1) : iList K td σ H R := h
theorem w_iEnumT {ta : TA} {R : It → Hp → Prop} (h : ta σ H fun vs H1 => ∃ a xs, vs = [.ref a] ∧ SqT K H1 a xs ∧ R (IteT K a) H1) : iEnumT K ta σ H R := h
theorem w_iZipS {ta : TA} {R : It → Hp → Prop} (h : ta σ H fun vs H1 => ∃ x y : Str, vs = [.str x, .str y] ∧ R (ItzS x y) H1) : iZipS ta σ H R := h
theorem w_iRng1 {ta : TA} {R : It → Hp → Prop} (h : ta σ H fun vs H1 => ∃ n : Int, vs = [.int n] ∧ -(2 ^ 62) ≤ n ∧ n < 2 ^ 62 ∧ R (Itr 0 n.toNat) H1) : iRng1 ta σ H R := h
/-- a loop, what stands told by Pv -/
theorem for_leaf (w : Walk J n Gd Y) (Pv : Nat → L2.St → Hp → Prop) (h0 : Pv 0 σ H) (hG : ∀ i σ H, i ≤ n → Pv i σ H → Gd H)
    (hs : ∀ i x σ H H', i < n → Pv i σ H → Y i H x H' → g x σ H' fun σ2 H2 => tb { D with nx := Pv (i + 1), ct := Pv (i + 1), bk := D.nx } σ2 H2) (hd : ∀ σ H, Pv n σ H → D.nx σ H) : ForJ g tb D σ J H := for_it w Pv h0 hG hs hd
theorem snoc_get {acc : List V} {i : Nat} {y : V} (hl : acc.length = i) {R : Nat → V → Prop} (ho : ∀ m v, acc[m]? = some v → R m v) (hy : R i y) : ∀ m v, (acc ++ [y])[m]? = some v → R m v := fun m v hv => by
  by_cases c : m < acc.length
  · rw [List.getElem?_append_left c] at hv
    exact ho m v hv
  · rw [List.getElem?_append_right (Nat.le_of_not_lt c)] at hv
    have e : m = acc.length := by
      have := (List.getElem?_eq_some_iff.mp hv).1
      simp at this
      omega
    subst e
    simp at hv
    subst hv
    rw [hl]
    exact hy
/-- [f(x) for x in ..]: each element leaves what stood, and gives what P says -/
theorem cmS (w : Walk J n Gd Y) (hn : n ≤ 1000) (hGd : ∀ H', Same H H' → Gd H') (P : Nat → V → Hp → Prop) (mono : ∀ i v G G', SameT G G' → P i v G → P i v G')
    (he : ∀ i x H1 H2, i < n → Same H H1 → Y i H1 x H2 → ∀ Q' : VK, (∀ v H3, Same H1 H3 → P i v H3 → Q' v H3) → g x (wipe σ vs) H2 fun σ2 H3 => wipe σ2 vs = wipe σ vs ∧ te σ2 H3 Q')
    (k : ∀ D ys H', H D = none → Same H H' → H' D = some (.lst ys) → ys.length = n → (∀ i v, ys[i]? = some v → P i v H') → Q (.ref D) H') : CmpAt g tYes te vs σ Q J H := fun D hD => by
  refine lc_it w (fun i G => ∃ acc, G D = some (.lst acc) ∧ acc.length = i ∧ Same H G ∧ ∀ m v, acc[m]? = some v → P m v G) ⟨[], upd_same, rfl, w_new hD, fun m v e => by simp at e⟩ (fun i G _ ⟨_, _, _, e, _⟩ => hGd G e) ?_ ?_
  · rintro i x G G' hi ⟨acc, h1, h2, e, hp⟩ hy
    refine he i x G G' hi e hy (fun y H4 => ∃ acc, H4 D = some (.lst acc) ∧ acc.length < sizeLine ∧ ∃ acc', upd H4 D (.lst (acc ++ [y])) D = some (.lst acc') ∧ acc'.length = i + 1 ∧ Same H (upd H4 D (.lst (acc ++ [y]))) ∧ ∀ m v, acc'[m]? = some v → P m v (upd H4 D (.lst (acc ++ [y])))) fun v H4 e4 pv => ?_
    have h3 := e4 _ _ h1
    refine ⟨acc, h3, Nat.lt_of_lt_of_le (show acc.length < 1001 by omega) (by decide), _, upd_same, by rw [List.length_append, h2]; rfl, RK.Same.updL (e.trans e4) hD, ?_⟩
    exact snoc_get h2 (R := fun m u => P m u (upd H4 D (.lst (acc ++ [v])))) (fun m u hu => mono m u H4 _ (SameT.upd h3) (mono m u G H4 (.of e4) (hp m u hu))) (mono _ _ H4 _ (SameT.upd h3) pv)
  · rintro G ⟨acc, h1, h2, e, hp⟩
    exact k D acc G hD e h1 h2 hp
/-- the same, where each element draws from the bag at b -/
theorem cmK {b : Addr} (hb : Bag H b) (w : Walk J n Gd Y) (hn : n ≤ 1000) (hGd : ∀ H', Kp b H H' → Gd H') (P : Nat → V → Hp → Prop) (mono : ∀ i v G G', SameT G G' → P i v G → P i v G')
    (he : ∀ i x H1 H2, i < n → Kp b H H1 → Y i H1 x H2 → ∀ Q' : VK, (∀ v H3, Kp b H1 H3 → P i v H3 → Q' v H3) → g x (wipe σ vs) H2 fun σ2 H3 => wipe σ2 vs = wipe σ vs ∧ te σ2 H3 Q')
    (k : ∀ D ys H', H D = none → Kp b H H' → H' D = some (.lst ys) → ys.length = n → (∀ i v, ys[i]? = some v → P i v H') → Q (.ref D) H') : CmpAt g tYes te vs σ Q J H := fun D hD => by
  have nD := bag_ne hb hD
  refine lc_it w (fun i G => ∃ acc, G D = some (.lst acc) ∧ acc.length = i ∧ Kp b H G ∧ ∀ m v, acc[m]? = some v → P m v G) ⟨[], upd_same, rfl, .of hb (w_new hD), fun m v e => by simp at e⟩ (fun i G _ ⟨_, _, _, e, _⟩ => hGd G e) ?_ ?_
  · rintro i x G G' hi ⟨acc, h1, h2, e, hp⟩ hy
    refine he i x G G' hi e hy (fun y H4 => ∃ acc, H4 D = some (.lst acc) ∧ acc.length < sizeLine ∧ ∃ acc', upd H4 D (.lst (acc ++ [y])) D = some (.lst acc') ∧ acc'.length = i + 1 ∧ Kp b H (upd H4 D (.lst (acc ++ [y]))) ∧ ∀ m v, acc'[m]? = some v → P m v (upd H4 D (.lst (acc ++ [y])))) fun v H4 e4 pv => ?_
    have h3 := e4.keep _ _ nD h1
    refine ⟨acc, h3, Nat.lt_of_lt_of_le (show acc.length < 1001 by omega) (by decide), _, upd_same, by rw [List.length_append, h2]; rfl, (e.trans e4).putNew hD nD, ?_⟩
    exact snoc_get h2 (R := fun m u => P m u (upd H4 D (.lst (acc ++ [v])))) (fun m u hu => mono m u H4 _ (SameT.upd h3) (mono m u G H4 e4.sameT (hp m u hu))) (mono _ _ H4 _ (SameT.upd h3) pv)
  · rintro G ⟨acc, h1, h2, e, hp⟩
    exact k D acc G hD e h1 h2 hp
theorem snoc_get2 {β : Type} {acc : List V} {us : List β} {y : V} {u : β} (hl : acc.length = us.length) {R : V → β → Prop} (ho : ∀ (m : Nat) (v : V) (w : β), acc[m]? = some v → us[m]? = some w → R v w) (hy : R y u) : ∀ (m : Nat) (v : V) (w : β), (acc ++ [y])[m]? = some v → (us ++ [u])[m]? = some w → R v w := fun m v w hv hw => by
  by_cases c : m < acc.length
  · rw [List.getElem?_append_left c] at hv
    rw [List.getElem?_append_left (by rw [← hl]; exact c)] at hw
    exact ho m v w hv hw
  · rw [List.getElem?_append_right (Nat.le_of_not_lt c)] at hv
    rw [List.getElem?_append_right (by rw [← hl]; exact Nat.le_of_not_lt c), ← hl] at hw
    generalize m - acc.length = j at hv hw
    cases j with
    | zero => cases hv; cases hw; exact hy
    | succ j => cases hv
/-- [f(x) for x in .. if ..]: of each z of zs what h tells, if it tells anything -/
theorem cmF {α β : Type} {tt : TT} (w : Walk J n Gd Y) (hn : n ≤ 1000) (hGd : ∀ H', Same H H' → Gd H') (zs : List α) (hz : zs.length = n) (h : α → Option β) (R : V → β → Hp → Prop) (mono : ∀ v u G G', SameT G G' → R v u G → R v u G')
    (he : ∀ i x z H1 H2, zs[i]? = some z → Same H H1 → Y i H1 x H2 → ∀ (Q' : VK) (N : Hp → Prop), (∀ v u H3, h z = some u → Same H1 H3 → R v u H3 → Q' v H3) → (h z = none → ∀ H3, Same H1 H3 → N H3) →
      g x (wipe σ vs) H2 fun σ2 H3 => wipe σ2 vs = wipe σ vs ∧ tt σ2 H3 fun b H4 => if b = true then te σ2 H4 Q' else N H4)
    (k : ∀ D ys H', H D = none → Same H H' → H' D = some (.lst ys) → ys.length = (zs.filterMap h).length → (∀ (i : Nat) (v : V) (u : β), ys[i]? = some v → (zs.filterMap h)[i]? = some u → R v u H') → Q (.ref D) H') : CmpAt g tt te vs σ Q J H := fun D hD => by
  refine lc_it w (fun i G => ∃ acc, G D = some (.lst acc) ∧ Same H G ∧ acc.length = ((zs.take i).filterMap h).length ∧ ∀ (m : Nat) (v : V) (u : β), acc[m]? = some v → ((zs.take i).filterMap h)[m]? = some u → R v u G) ⟨[], upd_same, w_new hD, rfl, fun m v u a => by simp at a⟩ (fun i G _ ⟨_, _, e, _⟩ => hGd G e) ?_ ?_
  · rintro i x G G' hi ⟨acc, h1, e, hl, hp⟩ hy
    have hzi : zs[i]? = some zs[i] := List.getElem?_eq_getElem (by omega)
    have tk : (zs.take (i + 1)).filterMap h = (zs.take i).filterMap h ++ [zs[i]].filterMap h := by rw [List.take_succ, hzi, List.filterMap_append]; rfl
    have len : acc.length ≤ i := by
      rw [hl]
      refine Nat.le_trans (List.length_filterMap_le _ _) ?_
      rw [List.length_take]
      omega
    refine he i x zs[i] G G' hzi e hy (fun y H4 => ∃ acc, H4 D = some (.lst acc) ∧ acc.length < sizeLine ∧ ∃ acc', upd H4 D (.lst (acc ++ [y])) D = some (.lst acc') ∧ Same H (upd H4 D (.lst (acc ++ [y]))) ∧ acc'.length = ((zs.take (i + 1)).filterMap h).length ∧ ∀ (m : Nat) (v : V) (u : β), acc'[m]? = some v → ((zs.take (i + 1)).filterMap h)[m]? = some u → R v u (upd H4 D (.lst (acc ++ [y]))))
      (fun H4 => ∃ acc, H4 D = some (.lst acc) ∧ Same H H4 ∧ acc.length = ((zs.take (i + 1)).filterMap h).length ∧ ∀ (m : Nat) (v : V) (u : β), acc[m]? = some v → ((zs.take (i + 1)).filterMap h)[m]? = some u → R v u H4) (fun v u H4 hu e4 r => ?_) (fun hu H4 e4 => ?_)
    · have h3 := e4 _ _ h1
      have tk2 : (zs.take (i + 1)).filterMap h = (zs.take i).filterMap h ++ [u] := by rw [tk, List.filterMap_cons, hu]; rfl
      refine ⟨acc, h3, Nat.lt_of_lt_of_le (show acc.length < 1001 by omega) (by decide), _, upd_same, RK.Same.updL (e.trans e4) hD, by rw [tk2, List.length_append, List.length_append, hl]; rfl, ?_⟩
      rw [tk2]
      exact snoc_get2 hl (R := fun v' u => R v' u (upd H4 D (.lst (acc ++ [v])))) (fun m v' u' a b => mono _ _ H4 _ (SameT.upd h3) (mono _ _ G H4 (.of e4) (hp m v' u' a b))) (mono _ _ H4 _ (SameT.upd h3) r)
    · have tk2 : (zs.take (i + 1)).filterMap h = (zs.take i).filterMap h := by rw [tk, List.filterMap_cons, hu]; exact List.append_nil _
      refine ⟨acc, e4 _ _ h1, e.trans e4, by rw [tk2]; exact hl, fun m v u a b => ?_⟩
      rw [tk2] at b
      exact mono _ _ G H4 (.of e4) (hp m v u a b)
  · rintro G ⟨acc, h1, e, hl, hp⟩
    rw [← hz, List.take_length] at hl hp
    exact k D acc G hD e h1 hl hp
/-- a dict by a comprehension -/
def DcAt (o0 : HO) (g : TG) (tt : TT) (tk tv : TE) (vs : List Nat) (σ : L2.St) (Q : VK) (J : It) (H1 : Hp) : Prop := ∀ D, H1 D = none → ∃ W : Nat → Nat → Hp → Prop, (∃ m, W 0 m (upd H1 D o0)) ∧ ∀ i m G, W i m G →
  (J.stop i G ∧ Q (.ref D) G) ∨ (J.go i G ∧ ∃ Nx : Hp → Prop, (∀ G', Nx G' → ∃ m', m' < m ∧ W (i + 1) m' G') ∧ ∀ x G', J.yld i G x G' → g x (wipe σ vs) G' fun σ2 H2 => wipe σ2 vs = wipe σ vs ∧ tt σ2 H2 fun b H3 =>
    if b = true then tk σ2 H3 fun y H4 => tv σ2 H4 fun z H5 => ∃ H6, DPut H5 D y z H6 ∧ Nx H6 else Nx H3)
theorem w_dc {o0 : HO} {wi : TI} {tt : TT} {tk tv : TE} (h : wi σ H fun J H1 => DcAt o0 g tt tk tv vs σ Q J H1) : tDcP o0 wi g tt tk tv vs σ H Q := h
theorem dc_leaf {o0 : HO} {tk tv : TE} (w : Walk J n Gd Y) (Pv : Addr → Nat → Hp → Prop) (h0 : ∀ D, H D = none → Pv D 0 (upd H D o0)) (hG : ∀ D i G, i ≤ n → Pv D i G → Gd G)
    (hs : ∀ D i x G G', i < n → Pv D i G → Y i G x G' → g x (wipe σ vs) G' fun σ2 H2 => wipe σ2 vs = wipe σ vs ∧ tk σ2 H2 fun y H4 => tv σ2 H4 fun z H5 => ∃ H6, DPut H5 D y z H6 ∧ Pv D (i + 1) H6) (hd : ∀ D G, H D = none → Pv D n G → Q (.ref D) G) :
    DcAt o0 g tYes tk tv vs σ Q J H := fun D hD => by
  refine ⟨fun i m G => m = n - i ∧ i ≤ n ∧ Pv D i G, ⟨n, by simp, Nat.zero_le _, h0 D hD⟩, ?_⟩
  rintro i m G ⟨rfl, hi, p⟩
  have q := hG D i G hi p
  by_cases lt : i < n
  · exact .inr ⟨w.goes i G lt q, Pv D (i + 1), fun G' p' => ⟨n - (i + 1), by omega, rfl, lt, p'⟩, fun x G' y => hs D i x G G' lt p (w.yields i G x G' lt q y)⟩
  · obtain rfl : i = n := by omega
    exact .inl ⟨w.stops G q, hd D G hD p⟩
/-- three, taken apart -/
theorem g_three {i j l : Nat} {q : Addr} {x y z : V} {Q : L2.St → Hp → Prop} (h : SqT K H q [x, y, z]) (k : Q (((σ.set i (some x)).set j (some y)).set l (some z)) H) : gTup K 3 (gCons (gName i) (gCons (gName j) (gCons (gName l) gNil))) (.ref q) σ H Q :=
  ⟨q, _, rfl, h, rfl, x, [y, z], rfl, y, [z], rfl, z, [], rfl, rfl, k⟩
theorem g_twoT {i j : Nat} {q : Addr} {x y : V} {Q : L2.St → Hp → Prop} (h : SqT K H q [x, y]) (k : Q ((σ.set i (some x)).set j (some y)) H) : gTup K 2 (gCons (gName i) (gCons (gName j) gNil)) (.ref q) σ H Q :=
  ⟨q, _, rfl, h, rfl, x, [y], rfl, y, [], rfl, rfl, k⟩
end
/-! ### all but one object stand -/
def But (D : Addr) (H H' : Hp) : Prop := ∀ c o, c ≠ D → H c = some o → H' c = some o
theorem But.refl (D : Addr) (H : Hp) : But D H H := fun _ _ _ h => h
theorem But.of {D : Addr} {H H' : Hp} (e : Same H H') : But D H H' := fun c o _ h => e c o h
theorem But.trans {D : Addr} {H H1 H2 : Hp} (a : But D H H1) (b : But D H1 H2) : But D H H2 := fun c o n h => b c o n (a c o n h)
theorem But.upd {D : Addr} {H H' : Hp} {o : HO} (a : But D H H') : But D H (upd H' D o) := fun c u n h => by rw [upd_ne n]; exact a c u n h
theorem But.same {D : Addr} {H H' : Hp} (a : But D H H') (h : H D = none) : Same H H' := fun c o q => a c o (ne_of_none q h) q
theorem But.sqt {K : PySem.W.Frag} {H H' : Hp} {D p : Addr} {xs : List V} {u : HO} (e : But D H H') (hD : H D = some u) (hu : ∀ ys, u ≠ .tup ys) (hf : ∀ o v, u ≠ .frz o v) (h : SqT K H p xs) : SqT K H' p xs := by
  rcases h with (h | ⟨o, h⟩) | h
  · exact .inl (.inl (e _ _ (fun z => by rw [z, hD] at h; cases h; exact hu _ rfl) h))
  · exact .inl (.inr ⟨o, e _ _ (fun z => by rw [z, hD] at h; cases h; exact hf _ _ rfl) h⟩)
  · exact .inr h
/-! ### a tuple of rows -/
/-- at t a tuple of tuples, whose values are L's -/
def Rws (K : PySem.W.Frag) (H : Hp) (t : Addr) (L : List (List V)) : Prop := ∃ as : List Addr, SqT K H t (as.map V.ref) ∧ as.length = L.length ∧ ∀ (i : Nat) (q : Addr) (u : List V), as[i]? = some q → L[i]? = some u → SqT K H q u
theorem Rws.sameT {K : PySem.W.Frag} {H H' : Hp} {t : Addr} {L : List (List V)} (r : Rws K H t L) (e : SameT H H') : Rws K H' t L := let ⟨as, h1, h2, h3⟩ := r; ⟨as, e.sqt h1, h2, fun i q u a b => e.sqt (h3 i q u a b)⟩
theorem Rws.same {K : PySem.W.Frag} {H H' : Hp} {t : Addr} {L : List (List V)} (r : Rws K H t L) (e : Same H H') : Rws K H' t L := r.sameT (.of e)
theorem Rws.kp {K : PySem.W.Frag} {H H' : Hp} {b t : Addr} {L : List (List V)} (r : Rws K H t L) (e : Kp b H H') : Rws K H' t L := r.sameT e.sameT
theorem rows_at {K : PySem.W.Frag} {H : Hp} {as : List Addr} {L : List (List V)} (hl : as.length = L.length) (h : ∀ (i : Nat) (q : Addr) (u : List V), as[i]? = some q → L[i]? = some u → SqT K H q u) {i : Nat} {x : V} (e : (as.map V.ref)[i]? = some x) : ∃ q u, x = .ref q ∧ L[i]? = some u ∧ SqT K H q u := by
  rw [List.getElem?_map] at e
  cases a : as[i]? with
  | none => rw [a] at e; cases e
  | some q =>
    rw [a] at e
    cases e
    have hi : i < L.length := by rw [← hl]; exact (List.getElem?_eq_some_iff.mp a).1
    exact ⟨q, L[i], rfl, List.getElem?_eq_getElem hi, h i q _ a (List.getElem?_eq_getElem hi)⟩
section
variable {K : PySem.W.Frag} {σ : L2.St} {H : Hp} {Q : VK} {ta tb tc : TE} {r r' : R2}
def GetL (a : Addr) (y : V) (H : Hp) (Q : VK) : Prop := ∃ o, DGet H a y o ∧ Q (o.getD .non) H
theorem w_dget1 {td ty : TE} (h : td σ H fun x H1 => ∃ a, x = .ref a ∧ IsD H1 a ∧ ty σ H1 fun y H2 => GetL a y H2 Q) : tDGet1 td ty σ H Q := h
theorem w_dget {td ty : TE} (h : td σ H fun x H1 => ty σ H1 fun y H2 => ∃ a v, x = .ref a ∧ DGet H2 a y (some v) ∧ Q v H2) : tDGet td ty σ H Q := h
theorem w_chain (h : ta σ H fun x H1 => tb σ H1 fun y H2 => r x y H2 fun z H3 => ∃ k, z = .bl k ∧ if k = true then tc σ H3 fun w' H4 => r' y w' H4 Q else Q (.bl false) H3) : tChain r r' ta tb tc σ H Q := h
theorem w_lenS {s : Str} (hs : s.cps.size ≤ 1000) (q : Q (.int (s.cps.size : Nat)) H) : rLen K [.str s] H Q := ⟨.str s, _, rfl, ⟨Nat.le_trans hs (by decide), rfl⟩, q⟩
/-- x is in a list of texts -/
theorem inV_strs (s : Str) (xs : List Str) : inV (.str s) (xs.map V.str) = decide (s ∈ xs) := by
  unfold inV
  rw [List.any_map, Bool.eq_iff_iff, List.any_eq_true, decide_eq_true_eq]
  refine ⟨fun ⟨y, hy, e⟩ => ?_, fun h => ⟨s, h, ?_⟩⟩
  · have e : (y == s) = true := e
    rw [← eq_of_beq e]
    exact hy
  · show (s == s) = true
    exact beq_self_eq_true s
theorem flat_strs (xs : List Str) : (xs.map V.str).all flatV = true := by
  rw [List.all_map, List.all_eq_true]
  intro x _
  rfl
theorem in_leaf {p : Addr} {s : Str} {xs : List Str} (h : SqL K H p (xs.map V.str) ∨ SqT K H p (xs.map V.str)) (q : Q (.bl (decide (s ∈ xs))) H) : rIn K false (.str s) (.ref p) H Q := ⟨p, _, rfl, h, rfl, flat_strs xs, by
  rw [inV_strs]
  exact q⟩
end
/-! ### letters and words -/
/-- one sign between two -/
def Sgn (lo hi : Nat) (s : Str) (c : Nat) : Prop := s = ⟨#[c]⟩ ∧ lo ≤ c ∧ c ≤ hi
theorem lt1 (x y : Nat) : decide (([x] : List Nat) < [y]) = decide (x < y) := by rw [StrLaws.lt_cons_cons, StrLaws.lt_nil_nil, Bool.and_false, Bool.or_false]
theorem cutS1 (s : Str) : (cutS s (some 1) none).cps.toList = s.cps.toList.drop 1 := by
  have hl : s.length = s.cps.toList.length := (Array.length_toList).symm
  show (((s.cps.toList.drop (HT.sIx s.length 0 (some 1))).take (HT.sIx s.length s.length none - HT.sIx s.length 0 (some 1))).toArray).toList = _
  rw [hl, show (some (1 : Int)) = some ((1 : Nat) : Int) from rfl, HT.sIx_nat, HT.sIx_none]
  generalize s.cps.toList = l
  cases l with
  | nil => rfl
  | cons x r =>
    rw [show min 1 (x :: r).length = 1 from by rw [List.length_cons]; omega]
    simp
theorem cutS1_at (s : Str) (i : Nat) : (cutS s (some 1) none).cps[i]? = s.cps[i + 1]? := by
  rw [← Array.getElem?_toList, cutS1, List.getElem?_drop, ← Array.getElem?_toList, Nat.add_comm]
/-- two to eight small letters -/
def Word (s : Str) : Prop := 2 ≤ s.cps.size ∧ s.cps.size ≤ 8 ∧ ∀ c ∈ s.cps.toList, 97 ≤ c ∧ c ≤ 122
end RK

/-! zip of a tuple and a list, of a text and a list; dict(a tuple of pairs) -/
namespace RK
open PySem PySem.Spec PyProof.Rows L2 RZ
/-- the five cells of a zip of two -/
structure Zip5 (z TI TO i1 i2 : Addr) (h : Heap) : Prop where
  zip : IsZip h z TI TO .none
  inn : IsTupOf2 h TI (.ref i1) (.ref i2)
  out : ∃ a1 a2, IsTupOf2 h TO a1 a2
  one : ∃ o, h.get? i1 = some o ∧ ∀ v, o.data ≠ .cell v
  two : ∃ o, h.get? i2 = some o ∧ ∀ v, o.data ≠ .cell v
theorem Zip5.cells {z TI TO i1 i2 : Addr} {h : Heap} (st : Zip5 z TI TO i1 i2 h) : ∀ b ∈ [z, TI, TO, i1, i2], ∃ o, h.get? b = some o ∧ ∀ v, o.data ≠ .cell v := by
  obtain ⟨hz, hi, ⟨a1, a2, ho⟩, h1, h2⟩ := st
  intro b hb
  simp only [List.mem_cons, List.not_mem_nil, or_false] at hb
  rcases hb with rfl | rfl | rfl | rfl | rfl
  · exact ⟨_, hz, fun v => nofun⟩
  · exact ⟨_, hi, fun v => nofun⟩
  · exact ⟨_, ho, fun v => nofun⟩
  · exact h1
  · exact h2
/-- a tuple and a list -/
def ItzTL (K : PySem.W.Frag) (a b : Addr) : It :=
  ⟨fun i H => ∃ (xs ys : List V) (x y : V), SqT K H a xs ∧ SqL K H b ys ∧ xs[i]? = some x ∧ ys[i]? = some y,
    fun i H v H' => ∃ T x y, v = .ref T ∧ H T = none ∧ H' = upd H T (.tup [x, y]) ∧ (∀ xs, SqT K H a xs → xs[i]? = some x) ∧ ∀ ys, SqL K H b ys → ys[i]? = some y,
    fun i H => ∃ xs ys : List V, SqT K H a xs ∧ SqL K H b ys ∧ i = min xs.length ys.length⟩
def ZipTLs (a b z TI TO i1 i2 : Addr) (i : Nat) (h : Heap) : Prop := IsZip h z TI TO .none ∧ IsTupOf2 h TI (.ref i1) (.ref i2) ∧ (∃ a1 a2, IsTupOf2 h TO a1 a2) ∧ h.IsTupleIter i1 a i ∧ h.IsListIter i2 b i
theorem ZipTLs.five {a b z TI TO i1 i2 : Addr} {i : Nat} {h : Heap} (st : ZipTLs a b z TI TO i1 i2 i h) : Zip5 z TI TO i1 i2 h :=
  let ⟨h1, h2, h3, ⟨o1, p1, _, d1⟩, ⟨o2, p2, _, d2⟩⟩ := st; ⟨h1, h2, h3, ⟨o1, p1, fun v q => by rw [d1] at q; cases q⟩, ⟨o2, p2, fun v q => by rw [d2] at q; cases q⟩⟩
theorem turn_zipTL {P : Program} {w : World} {K : PySem.W.Frag} {elts : List Expr} {kk : Nat} {tpos : Pos} {a b z TI TO i1 i2 : Addr} (S : ZipSep2 z TI TO i1 i2 [i1, a] [i2, b]) (n1 : a ≠ i1) (n2 : b ≠ i2) :
    Turn P w K (.Tuple elts kk tpos) (ItzTL K a b) [z, TI, TO, i1, i2] z (ZipTLs a b z TI TO i1 i2) where
  mem := List.mem_cons_self
  obj := fun i h st => st.five.cells
  keep := fun i h h' ⟨h1, h2, ⟨a1, a2, h3⟩, h4, h5⟩ k => ⟨k z (by simp) _ h1, k TI (by simp) _ h2, ⟨a1, a2, k TO (by simp) _ h3⟩, h4.at fun o e => k i1 (by simp) o e, h5.at fun o e => k i2 (by simp) o e⟩
  item := by
    rintro X rfl rfl rfl hc i pins s σ H E I hf st ⟨xs, ys, x, y, hq, hq2, hx, hy⟩
    have hh : X.A.in1.handled = none := I.ok.hd hc
    obtain ⟨its, rv, p, _⟩ := I.tuple hq
    obtain ⟨its2, rv2, p2, _⟩ := I.list hq2
    obtain ⟨u, hu, ru⟩ := rv.get hx
    obtain ⟨u2, hu2, ru2⟩ := rv2.get hy
    have G := GoesN.zip2 (prog := X.prog) (w := X.w) (A := X.A) (elts := elts) (x1 := kk) (pos := tpos) S (Draws.tuple (A := X.A.in1) hh i1 a n1 its.toArray) (Draws.list (A := X.A.in1) hh i2 b n2 its2.toArray)
    have lt : ∀ b ∈ [z, TI, TO, i1, i2], b < s.heap.objs.size := fun b hb => let ⟨o, e, _⟩ := st.five.cells b hb; Heap.lt_size e
    have l1 := (List.getElem?_eq_some_iff.mp hu).1
    have l2 := (List.getElem?_eq_some_iff.mp hu2).1
    obtain ⟨s1, s2, s3, s4, s5⟩ := st
    refine G.goes i s _ E (by simp; omega) ⟨s1, s2, s3, ⟨s4, p⟩, ⟨s5, p2.isList⟩⟩ ?_
    rintro v h' tk ⟨T, a1, a2, rfl, hT, q1, q2, pT⟩ ⟨s1, s2, s3, ⟨s4, _⟩, ⟨s5, _⟩⟩ hk _
    have q1 : its[i]? = some a1 := by simpa using q1
    have q2 : its2[i]? = some a2 := by simpa using q2
    cases hu.symm.trans q1
    cases hu2.symm.trans q2
    refine ⟨.ref T, _, pair_new I hf (fun b o hb e => hk b o (fun q => hb (by revert q; simp; intro q; rcases q with rfl | rfl | rfl | rfl <;> simp)) e) hT pT ru ru2, rfl, ⟨T, x, y, rfl, I.hok.fresh hT, rfl, fun xs' h => by rw [I.tuple_inj h hq]; exact hx, fun ys' h => by rw [I.list_inj h hq2]; exact hy⟩, ⟨s1, s2, s3, s4, s5⟩, own_stays (fun b hb => (hf b hb).1) lt hT⟩
  done := by
    rintro X rfl rfl rfl hc i pins s σ H E I hf st ⟨xs, ys, hq, hq2, rfl⟩
    have hh : X.A.in1.handled = none := I.ok.hd hc
    obtain ⟨its, rv, p, _⟩ := I.tuple hq
    obtain ⟨its2, rv2, p2, _⟩ := I.list hq2
    have e1 : xs.length = its.toArray.size := by rw [rv.length]; simp
    have e2 : ys.length = its2.toArray.size := by rw [rv2.length]; simp
    rw [e1, e2] at st
    have G := GoesN.zip2 (prog := X.prog) (w := X.w) (A := X.A) (elts := elts) (x1 := kk) (pos := tpos) S (Draws.tuple (A := X.A.in1) hh i1 a n1 its.toArray) (Draws.list (A := X.A.in1) hh i2 b n2 its2.toArray)
    obtain ⟨s1, s2, s3, s4, s5⟩ := st
    exact G.stops s _ E ⟨s1, s2, s3, ⟨s4, p⟩, ⟨s5, p2.isList⟩⟩ fun h' tk hk _ => I.turnedL (fun b o hb e => hk b o (fun q => hb (by revert q; simp; intro q; rcases q with rfl | rfl | rfl | rfl <;> simp)) e) hf
  self := fun A i s Q E st q => wpAny_pyIter_zip st.1 q
/-- a text and a list -/
def ItzSL (K : PySem.W.Frag) (x : Str) (b : Addr) : It :=
  ⟨fun i H => ∃ (ys : List V) (c : Nat) (y : V), SqL K H b ys ∧ x.cps[i]? = some c ∧ ys[i]? = some y,
    fun i H v H' => ∃ T c y, v = .ref T ∧ H T = none ∧ H' = upd H T (.tup [.str ⟨#[c]⟩, y]) ∧ x.cps[i]? = some c ∧ ∀ ys, SqL K H b ys → ys[i]? = some y,
    fun i H => ∃ ys : List V, SqL K H b ys ∧ i = min x.cps.size ys.length⟩
def ZipSLs (x : Str) (t : Tok) (b z TI TO i1 i2 : Addr) (i : Nat) (h : Heap) : Prop := IsZip h z TI TO .none ∧ IsTupOf2 h TI (.ref i1) (.ref i2) ∧ (∃ a1 a2, IsTupOf2 h TO a1 a2) ∧ h.IsStrIter i1 (strIterType x) x t i ∧ h.IsListIter i2 b i
theorem ZipSLs.five {x : Str} {t : Tok} {b z TI TO i1 i2 : Addr} {i : Nat} {h : Heap} (st : ZipSLs x t b z TI TO i1 i2 i h) : Zip5 z TI TO i1 i2 h :=
  let ⟨h1, h2, h3, ⟨o1, p1, _, d1⟩, ⟨o2, p2, _, d2⟩⟩ := st; ⟨h1, h2, h3, ⟨o1, p1, fun v q => by rw [d1] at q; cases q⟩, ⟨o2, p2, fun v q => by rw [d2] at q; cases q⟩⟩
theorem turn_zipSL {P : Program} {w : World} {K : PySem.W.Frag} {elts : List Expr} {kk : Nat} {tpos : Pos} {x : Str} {t : Tok} {b z TI TO i1 i2 : Addr} (S : ZipSep2 z TI TO i1 i2 [i1] [i2, b]) (n2 : b ≠ i2) :
    Turn P w K (.Tuple elts kk tpos) (ItzSL K x b) [z, TI, TO, i1, i2] z (ZipSLs x t b z TI TO i1 i2) where
  mem := List.mem_cons_self
  obj := fun i h st => st.five.cells
  keep := fun i h h' ⟨h1, h2, ⟨a1, a2, h3⟩, ⟨o, e, c, d⟩, h5⟩ k => ⟨k z (by simp) _ h1, k TI (by simp) _ h2, ⟨a1, a2, k TO (by simp) _ h3⟩, ⟨o, k i1 (by simp) o e, c, d⟩, h5.at fun o e => k i2 (by simp) o e⟩
  item := by
    rintro X rfl rfl rfl hc i pins s σ H E I hf st ⟨ys, c, y, hq2, hx, hy⟩
    have hh : X.A.in1.handled = none := I.ok.hd hc
    obtain ⟨its2, rv2, p2, _⟩ := I.list hq2
    obtain ⟨u2, hu2, ru2⟩ := rv2.get hy
    have G := GoesN.zip2 (prog := X.prog) (w := X.w) (A := X.A) (elts := elts) (x1 := kk) (pos := tpos) S (Draws.text (A := X.A.in1) hh i1 x t) (Draws.list (A := X.A.in1) hh i2 b n2 its2.toArray)
    have lt : ∀ b ∈ [z, TI, TO, i1, i2], b < s.heap.objs.size := fun b hb => let ⟨o, e, _⟩ := st.five.cells b hb; Heap.lt_size e
    have l1 := (Array.getElem?_eq_some_iff.mp hx).1
    have l2 := (List.getElem?_eq_some_iff.mp hu2).1
    obtain ⟨s1, s2, s3, s4, s5⟩ := st
    refine G.goes i s _ E (by simp; omega) ⟨s1, s2, s3, s4, ⟨s5, p2.isList⟩⟩ ?_
    rintro v h' tk ⟨T, a1, a2, rfl, hT, ⟨c', t1, q1, rfl⟩, q2, pT⟩ ⟨s1, s2, s3, s4, ⟨s5, _⟩⟩ hk _
    have q2 : its2[i]? = some a2 := by simpa using q2
    cases hx.symm.trans q1
    cases hu2.symm.trans q2
    exact ⟨.ref T, _, pair_new I hf (fun b o hb e => hk b o (fun q => hb (by revert q; simp; intro q; rcases q with rfl | rfl | rfl | rfl <;> simp)) e) hT pT (show RelV (.str ⟨#[c]⟩) _ from ⟨_, rfl⟩) ru2, rfl, ⟨T, c, y, rfl, I.hok.fresh hT, rfl, hx, fun ys' h => by rw [I.list_inj h hq2]; exact hy⟩, ⟨s1, s2, s3, s4, s5⟩, own_stays (fun b hb => (hf b hb).1) lt hT⟩
  done := by
    rintro X rfl rfl rfl hc i pins s σ H E I hf st ⟨ys, hq2, rfl⟩
    have hh : X.A.in1.handled = none := I.ok.hd hc
    obtain ⟨its2, rv2, p2, _⟩ := I.list hq2
    have e2 : ys.length = its2.toArray.size := by rw [rv2.length]; simp
    rw [e2] at st
    have G := GoesN.zip2 (prog := X.prog) (w := X.w) (A := X.A) (elts := elts) (x1 := kk) (pos := tpos) S (Draws.text (A := X.A.in1) hh i1 x t) (Draws.list (A := X.A.in1) hh i2 b n2 its2.toArray)
    obtain ⟨s1, s2, s3, s4, s5⟩ := st
    exact G.stops s _ E ⟨s1, s2, s3, s4, ⟨s5, p2.isList⟩⟩ fun h' tk hk _ => I.turnedL (fun b o hb e => hk b o (fun q => hb (by revert q; simp; intro q; rcases q with rfl | rfl | rfl | rfl <;> simp)) e) hf
  self := fun A i s Q E st q => wpAny_pyIter_zip st.1 q
/-- for a, b in zip(x, a list): x a tuple or a text -/
def iZipX (K : PySem.W.Frag) (ta : TA) : TI := fun σ H R => ta σ H fun vs H1 => ∃ v b ys, vs = [v, .ref b] ∧ SqL K H1 b ys ∧ ((∃ a xs, v = .ref a ∧ SqT K H1 a xs ∧ R (ItzTL K a b) H1) ∨ ∃ x, v = .str x ∧ R (ItzSL K x b) H1)
theorem pi_zipX {X : Cx} {e e2 : Expr} {ta : TA} {p pos tpos : Pos} {elts : List Expr} {kk : Nat} (hg : Gl X "zip") (hm : X.mg "zip" = none) (ha : PA X [e, e2] ta)
    (hs : starEach [e, e2] X.env = (false, eval e X.env) :: starEach [e2] X.env := by rfl) (hp : (backTo pos (starEach [e2] X.env)).any (·.1) = false := by rfl) : PI X (.Tuple elts kk tpos) (.Call (.Name "zip" p) [e, e2] [] pos) (iZipX X.K ta) where
  run := fun pins s σ H R I h => by
    refine Call_ (ld_blt I hg hm boot_zip (callWith_type1 (thn (ha.run pos pins s σ H _ I h) ?_) hs hp))
    rintro us q ⟨_, H1, J, rv, v, b, ys, rfl, hq2, r⟩
    cases rv with
    | cons r1 rv =>
    cases rv with
    | cons r2 rv =>
    cases rv
    cases r2
    obtain ⟨its2, rv2, p2, _⟩ := J.list hq2
    have lb : b < q.heap.objs.size := by exact p2.lt
    rcases r with ⟨a, xs, rfl, hq, r⟩ | ⟨x, rfl, r⟩
    · cases r1
      obtain ⟨its, rv, p, _⟩ := J.tuple hq
      have la : a < q.heap.objs.size := by obtain ⟨o, ho, _⟩ := p; exact Heap.lt_size ho
      refine zip_begins2 (begins_tuple a its.toArray) (begins_list b its2.toArray) p p2.isList fun h' z1 z2 z3 z4 z5 z6 hk => wpAny_pyIter_zip z1 ?_
      refine ⟨_, _, _, _, H1, rfl, J.kept (t' := q.toks) hk, turn_zipTL (a := a) (b := b) (zip_sep2 (N := q.heap.objs.size) (fp1 := [a]) (fp2 := [b]) (by simpa using la) (by simpa using lb)) (Nat.ne_of_lt la) (Nat.ne_of_lt (Nat.lt_succ_of_lt lb)), ⟨z1, z2, ⟨_, _, z3⟩, ⟨_, z4, rfl, rfl⟩, ⟨_, z5, rfl, rfl⟩⟩, fun c hc => ?_, r⟩
      have le : q.heap.objs.size ≤ c := by
        simp only [List.mem_cons, List.not_mem_nil, or_false] at hc
        rcases hc with rfl | rfl | rfl | rfl | rfl <;> omega
      exact J.fpOk le (J.hok.fresh le)
    · obtain ⟨t, rfl⟩ := r1
      refine zip_begins2 (begins_text x t) (begins_list b its2.toArray) trivial p2.isList fun h' z1 z2 z3 z4 z5 z6 hk => wpAny_pyIter_zip z1 ?_
      refine ⟨_, _, _, _, H1, rfl, J.kept (t' := q.toks) hk, turn_zipSL (x := x) (t := t) (b := b) (zip_sep2 (N := q.heap.objs.size) (fp1 := []) (fp2 := [b]) (by simp) (by simpa using lb)) (Nat.ne_of_lt (Nat.lt_succ_of_lt lb)), ⟨z1, z2, ⟨_, _, z3⟩, ⟨_, z4, rfl, rfl⟩, ⟨_, z5, rfl, rfl⟩⟩, fun c hc => ?_, r⟩
      have le : q.heap.objs.size ≤ c := by
        simp only [List.mem_cons, List.not_mem_nil, or_false] at hc
        rcases hc with rfl | rfl | rfl | rfl | rfl <;> omega
      exact J.fpOk le (J.hok.fresh le)
theorem walk_zipTL {K : PySem.W.Frag} {a b : Addr} {xs ys : List V} : Walk (ItzTL K a b) (min xs.length ys.length) (fun H => SqT K H a xs ∧ SqL K H b ys) (YPair (fun i => xs[i]?) (fun i => ys[i]?)) where
  goes := fun i _ hi q => ⟨xs, ys, _, _, q.1, q.2, List.getElem?_eq_getElem (by omega), List.getElem?_eq_getElem (by omega)⟩
  stops := fun _ q => ⟨xs, ys, q.1, q.2, rfl⟩
  yields := fun i H v H' _ q ⟨T, x, y, h1, h2, h3, h4, h5⟩ => ⟨T, x, y, h1, h2, h3, h4 xs q.1, h5 ys q.2⟩
theorem walk_zipSL {K : PySem.W.Frag} {x : Str} {b : Addr} {ys : List V} : Walk (ItzSL K x b) (min x.cps.size ys.length) (fun H => SqL K H b ys) (YPair (fun i => (x.cps[i]?).map fun c => V.str ⟨#[c]⟩) (fun i => ys[i]?)) where
  goes := fun i _ hi q => ⟨ys, x.cps[i]'(by omega), _, q, Array.getElem?_eq_getElem _, List.getElem?_eq_getElem (by omega)⟩
  stops := fun _ q => ⟨ys, q, rfl⟩
  yields := fun i H v H' _ q ⟨T, c, y, h1, h2, h3, h4, h5⟩ => ⟨T, _, y, h1, h2, h3, by show (x.cps[i]?).map _ = _; rw [h4]; rfl, h5 ys q⟩
theorem w_iZipX {K : PySem.W.Frag} {σ : L2.St} {H : Hp} {ta : TA} {R : It → Hp → Prop} (h : ta σ H fun vs H1 => ∃ v b ys, vs = [v, .ref b] ∧ SqL K H1 b ys ∧ ((∃ a xs, v = .ref a ∧ SqT K H1 a xs ∧ R (ItzTL K a b) H1) ∨ ∃ x, v = .str x ∧ R (ItzSL K x b) H1)) : iZipX K ta σ H R := h
theorem w_iZipA {K : PySem.W.Frag} {σ : L2.St} {H : Hp} {ta : TA} {R : It → Hp → Prop} (h : ta σ H fun vs H1 => ∃ a b xs ys, vs = [.ref a, .ref b] ∧ ((SqL K H1 a xs ∧ SqL K H1 b ys ∧ R (Itz K a b) H1) ∨ (SqT K H1 a xs ∧ SqT K H1 b ys ∧ R (ItzT K a b) H1))) : iZipA K ta σ H R := h
theorem w_iEnum {K : PySem.W.Frag} {σ : L2.St} {H : Hp} {ta : TA} {R : It → Hp → Prop} (h : ta σ H fun vs H1 => ∃ a xs, vs = [.ref a] ∧ SqL K H1 a xs ∧ R (Ite K a) H1) : iEnum K ta σ H R := h
theorem w_cont {D : Ends} {σ : L2.St} {H : Hp} (h : D.ct σ H) : tCont D σ H := h
section
variable {K : PySem.W.Frag} {σ : L2.St} {H : Hp} {Q : VK} {g : TG} {te : TE} {vs : List Nat} {J : It} {n : Nat} {Gd : Hp → Prop} {Y : Nat → Hp → V → Hp → Prop}
/-- [f(x) for x in ..], where the elements are new lists: all but the list that grows stands -/
theorem cmB (w : Walk J n Gd Y) (hn : n ≤ 1000) (hGd : ∀ H', Same H H' → Gd H') (P : Addr → Nat → V → Hp → Prop) (mono : ∀ D i v G G', But D G G' → P D i v G → P D i v G')
    (he : ∀ D i x H1 H2, H D = none → H1 D ≠ none → i < n → Same H H1 → Y i H1 x H2 → ∀ Q' : VK, (∀ v H3, Same H1 H3 → P D i v H3 → Q' v H3) → g x (wipe σ vs) H2 fun σ2 H3 => wipe σ2 vs = wipe σ vs ∧ te σ2 H3 Q')
    (k : ∀ D ys H', H D = none → Same H H' → H' D = some (.lst ys) → ys.length = n → (∀ i v, ys[i]? = some v → P D i v H') → Q (.ref D) H') : CmpAt g tYes te vs σ Q J H := fun D hD => by
  refine lc_it w (fun i G => ∃ acc, G D = some (.lst acc) ∧ acc.length = i ∧ Same H G ∧ ∀ m v, acc[m]? = some v → P D m v G) ⟨[], upd_same, rfl, w_new hD, fun m v e => by simp at e⟩ (fun i G _ ⟨_, _, _, e, _⟩ => hGd G e) ?_ ?_
  · rintro i x G G' hi ⟨acc, h1, h2, e, hp⟩ hy
    refine he D i x G G' hD (by rw [h1]; simp) hi e hy (fun y H4 => ∃ acc, H4 D = some (.lst acc) ∧ acc.length < sizeLine ∧ ∃ acc', upd H4 D (.lst (acc ++ [y])) D = some (.lst acc') ∧ acc'.length = i + 1 ∧ Same H (upd H4 D (.lst (acc ++ [y]))) ∧ ∀ m v, acc'[m]? = some v → P D m v (upd H4 D (.lst (acc ++ [y])))) fun v H4 e4 pv => ?_
    have h3 := e4 _ _ h1
    refine ⟨acc, h3, Nat.lt_of_lt_of_le (show acc.length < 1001 by omega) (by decide), _, upd_same, by rw [List.length_append, h2]; rfl, RK.Same.updL (e.trans e4) hD, ?_⟩
    have bu : But D H4 (upd H4 D (.lst (acc ++ [v]))) := But.upd (.refl D H4)
    exact snoc_get h2 (R := fun m u => P D m u (upd H4 D (.lst (acc ++ [v])))) (fun m u hu => mono D m u H4 _ bu (mono D m u G H4 (.of e4) (hp m u hu))) (mono D _ _ H4 _ bu pv)
  · rintro G ⟨acc, h1, h2, e, hp⟩
    exact k D acc G hD e h1 h2 hp
end
theorem catT_leaf {K : PySem.W.Frag} {H : Hp} {Q : VK} {p q : Addr} {xs ys : List V} (hx : SqT K H p xs) (hy : SqT K H q ys) (nx : xs ≠ []) (ny : ys ≠ []) (l : xs.length + ys.length ≤ 1000) (k : ∀ r H', H r = none → Same H H' → H' r = some (.tup (xs ++ ys)) → Q (.ref r) H') : rCatT K (.ref p) (.ref q) H Q :=
  ⟨p, q, xs, ys, rfl, rfl, hx, hy, nx, Nat.le_trans l (by decide), fun z => absurd z ny, fun _ r hr => k r _ hr (w_new hr) upd_same⟩
theorem refs_pick {ys : List V} {R : Nat → Addr → Prop} (h : ∀ (i : Nat) (v : V), ys[i]? = some v → ∃ q, v = .ref q ∧ R i q) : ∃ as : List Addr, ys = as.map V.ref ∧ ∀ (i : Nat) (q : Addr), as[i]? = some q → R i q := by
  induction ys generalizing R with
  | nil => exact ⟨[], rfl, fun i q hq => by simp at hq⟩
  | cons y r ih =>
    obtain ⟨q0, rfl, h0⟩ := h 0 y rfl
    obtain ⟨as, rfl, hs⟩ := ih (R := fun i q => R (i + 1) q) fun i v hv => h (i + 1) v hv
    exact ⟨q0 :: as, rfl, fun i q hq => by
      cases i with
      | zero => cases hq; exact h0
      | succ i => exact hs i q hq⟩
def rTupOf (K : PySem.W.Frag) : List V → Hp → VK → Prop := fun xs H Q => ∃ p ys, xs = [.ref p] ∧ ((SqL K H p ys ∧ ∀ l, H l = none → Q (.ref l) (upd H l (.tup ys))) ∨ (SqT K H p ys ∧ Q (.ref p) H))
theorem cr_tupOf {X : Cx} : CallR X (.type "tuple") (rTupOf X.K) := call_tuple_of
def rListOf (K : PySem.W.Frag) : List V → Hp → VK → Prop := fun xs H Q => ∃ p ys, xs = [V.ref p] ∧ (SqL K H p ys ∨ SqT K H p ys) ∧ ∀ (l : Addr), H l = none → Q (V.ref l) (upd H l (HO.lst ys))
theorem cr_listOf {X : Cx} : CallR X (.type "list") (rListOf X.K) := call_list_of
/-- a tuple whose object has no attributes -/
def TupF (H : Hp) (a : Addr) (xs : List V) : Prop := ∃ o : Obj, o.dict = none ∧ H a = some (.frz o (.tup xs))
theorem TupF.sqt {K : PySem.W.Frag} {H : Hp} {a : Addr} {xs : List V} (t : TupF H a xs) : SqT K H a xs := let ⟨o, _, h⟩ := t; .inl (.inr ⟨o, h⟩)
theorem TupF.same {H H' : Hp} {a : Addr} {xs : List V} (t : TupF H a xs) (e : Same H H') : TupF H' a xs := let ⟨o, d, h⟩ := t; ⟨o, d, e _ _ h⟩
theorem TupF.sameT {H H' : Hp} {a : Addr} {xs : List V} (t : TupF H a xs) (e : SameT H H') : TupF H' a xs := let ⟨o, d, h⟩ := t; ⟨o, d, e _ _ h fun _ z => by cases z⟩
def NewF (xs : List V) (H : Hp) (Q : VK) : Prop := xs.length ≤ sizeLine ∧ ∀ (p : Addr) (o : Obj), o.dict = none → H p = none → Q (.ref p) (upd H p (.frz o (.tup xs)))
def tTupF (t : TA) : TE := fun σ H Q => t σ H fun xs H1 => NewF xs H1 Q
theorem w_tupF {σ : L2.St} {H : Hp} {Q : VK} {t : TA} (h : t σ H fun xs H1 => NewF xs H1 Q) : tTupF t σ H Q := h
theorem pe_tupF {X : Cx} {es : List Expr} {t : TA} {x1 : Nat} {pos : Pos} (h : PA X es t) : PE X (.Tuple es x1 pos) (tTupF t) := by
  refine ⟨fun pins s σ H Q I hq => ?_⟩
  refine wpAny_Tuple_spliced (thn (h.run pos pins s σ H _ I hq) fun us s1 ⟨xs, H1, I1, r, z, q⟩ => ⟨by rw [← r.length]; exact z, ?_⟩)
  have hf : H1 s1.heap.objs.size = none := I1.hok.fresh (Nat.le_refl _)
  refine ⟨.ref s1.heap.objs.size, _, I1.laid (t' := s1.toks) (o := .frz { cls := .type "tuple", data := .seq us.toArray } (.tup xs)) (fun b u e => Heap.get?_push_of_some _ e) (Nat.le_refl _) ?_, rfl, q _ _ rfl hf⟩
  exact ⟨Heap.get?_push_size _ rfl, z, us, r, ⟨_, Heap.get?_push_size _ rfl, rfl, _, rfl⟩⟩
theorem w_newF {H : Hp} {Q : VK} {xs : List V} (hl : xs.length ≤ 100000) (h : ∀ p H2, H p = none → Same H H2 → TupF H2 p xs → Q (.ref p) H2) : NewF xs H Q :=
  ⟨Nat.le_trans hl (by decide), fun p o hd hp => h p _ hp (w_new hp) ⟨o, hd, upd_same⟩⟩
def rTupF (K : PySem.W.Frag) : List V → Hp → VK → Prop := fun xs H Q => ∃ p ys, xs = [.ref p] ∧ SqL K H p ys ∧ ∀ (l : Addr) (o : Obj), o.dict = none → H l = none → Q (.ref l) (upd H l (.frz o (.tup ys)))
theorem call_tupF {X : Cx} : CallR X (.type "tuple") (rTupF X.K) := by
  intro pins s σ H xs us Q I r h
  obtain ⟨p, ys, rfl, hq, q⟩ := h
  obtain ⟨u, rfl, rx⟩ := vals1 r
  cases rx
  obtain ⟨its, r', pl, hz⟩ := I.list hq
  have hlen := r'.length
  refine call_tuple_list pl.isList (fun h' kp => ?_) (by simp only [List.size_toArray] <;> omega)
  have I1 : Inv X pins σ H { s with heap := h' } := I.kept (t' := s.toks) kp
  have I2 : Inv X pins σ (upd H h'.objs.size (.frz { cls := .type "tuple", data := .seq its.toArray } (.tup ys))) { s with heap := h'.push { cls := .type "tuple", data := .seq its.toArray } } :=
    I1.laid (t' := s.toks) (fun b o e => Heap.get?_push_of_some _ e) (Nat.le_refl _) (show ObjOk X.prog X.w _ _ _ (.frz _ (.tup ys)) from ⟨Heap.get?_push_size _ rfl, hz, its, r', IsTup.new _ _⟩)
  exact ⟨.ref h'.objs.size, _, I2, rfl, q _ _ rfl (I1.hok.fresh (Nat.le_refl _))⟩
theorem pick_us {R : Nat → Value → Key × Value → Prop} : ∀ {l : List (Key × Value)}, (∀ (j : Nat) (q : Key × Value), l[j]? = some q → ∃ u, R j u q) → ∃ us : List Value, us.length = l.length ∧ ∀ (j : Nat) (q : Key × Value) (u : Value), l[j]? = some q → us[j]? = some u → R j u q := fun {l} => by
  induction l generalizing R with
  | nil => exact fun _ => ⟨[], rfl, fun j q u h => by simp at h⟩
  | cons p l ih =>
    intro h
    obtain ⟨u0, h0⟩ := h 0 p rfl
    obtain ⟨us, hl, hs⟩ := ih (R := fun j u q => R (j + 1) u q) fun j q e => h (j + 1) q e
    exact ⟨u0 :: us, by rw [List.length_cons, List.length_cons, hl], fun j q u h1 h2 => by
      cases j with
      | zero => cases h1; cases h2; exact h0
      | succ j => exact hs j q u h1 h2⟩
/-- dict(a tuple of pairs) -/
def rDictT (K : PySem.W.Frag) : List V → Hp → VK → Prop := fun xs H Q => ∃ (a : Addr) (ps : List Addr) (kvs : List (Key × V)), xs = [.ref a] ∧ TupF H a (ps.map V.ref) ∧ Paired (fun p kv => SqT K H p [kV kv.1, kv.2]) ps kvs ∧ ∀ p, H p = none → Q (.ref p) (upd H p (.dK (mergeK [] kvs)))
theorem call_dictT {X : Cx} (hcalm : X.calm = true) : CallR X (.type "dict") (rDictT X.K) := by
  intro pins s σ H xs us Q I r q
  obtain ⟨a, ps, kvs, rfl, ⟨o, hd, ht⟩, hp, q⟩ := q
  obtain ⟨u, rfl, rx⟩ := vals1 r
  cases rx
  obtain ⟨ho, hz, its, rv, o', ho', hc, n, hdat⟩ := I.hok a _ ht
  obtain rfl : o = o' := by rw [ho] at ho'; exact Option.some.inj ho'
  have ei := refs_at rv
  subst ei
  rw [List.length_map] at hz
  obtain ⟨prs, rel, hl, hpr⟩ := pairs_of I hp
  obtain ⟨us, hul, hus⟩ := pick_us (R := fun j u q => ∃ b : Addr, ps[j]? = some b ∧ IsTup s.heap b #[u, q.2] ∧ keyIs q.1 u = true) fun j q' e => let ⟨b, u, e1, e2, e3⟩ := hpr j q' e; ⟨u, b, e1, e2, e3⟩
  have pv : ∀ (j : Nat) (k v : Value), (us.zip (prs.map Prod.snd))[j]? = some (k, v) → ∃ q, prs[j]? = some q ∧ us[j]? = some k ∧ v = q.2 := fun j k v h => by
    rw [List.getElem?_zip_eq_some] at h
    obtain ⟨h1, h2⟩ := h
    rw [List.getElem?_map] at h2
    cases e : prs[j]? with
    | none => rw [e] at h2; cases h2
    | some q' => rw [e] at h2; exact ⟨q', rfl, h1, (Option.some.inj h2).symm⟩
  have ln : (us.zip (prs.map Prod.snd)).length = prs.length := by rw [List.length_zip, List.length_map, hul, Nat.min_self]
  have P := PairArg.tuple (prog := X.prog) (w := X.w) a (ps.map Value.ref).toArray (fun j => ps.getD j 0) (us.zip (prs.map Prod.snd))
  refine PySem.call_dict_pairs (knd := mixKind X.prog X.w) (kvs := prs) P (I.ok.hd hcalm) ⟨⟨o, n, ho, hc, hd, hdat⟩, by rw [ln, hl]; simp, fun j k v h => ?_⟩ ⟨ln.symm, fun j k v h => ?_⟩ (by rw [ln, hl]; exact hz) fun h' tk hd' kk => ?_
  · obtain ⟨q', e1, e2, rfl⟩ := pv j k v h
    obtain ⟨b, e3, e4, _⟩ := hus j q' k e1 e2
    have gd : ps.getD j 0 = b := by rw [List.getD_eq_getElem?_getD, e3]; rfl
    refine ⟨by rw [List.getElem?_toArray, List.getElem?_map, e3]; show some (Value.ref b) = some (.ref (ps.getD j 0)); rw [gd], ?_⟩
    show PairAt s.heap (ps.getD j 0) k q'.2
    rw [gd]
    exact .inl e4
  · obtain ⟨q', e1, e2, rfl⟩ := pv j k v h
    obtain ⟨b, e3, e4, e5⟩ := hus j q' k e1 e2
    exact ⟨q'.1, e1, e5⟩
  · have hm : (s.heap.objs.size == sysModules) = false := beq_eq_false_iff_ne.mpr (Nat.ne_of_gt I.big)
    have hlen : (mergeK [] kvs).length ≤ sizeLine := by
      refine Nat.le_trans (length_mergeK kvs []) ?_
      rw [List.length_nil, Nat.zero_add, rel.length, hl]
      exact hz
    have k : ∀ b o, s.heap.get? b = some o → h'.get? b = some o := fun b o e => kk b o List.not_mem_nil e
    exact ⟨.ref s.heap.objs.size, upd H s.heap.objs.size (.dK (mergeK [] kvs)), I.laid (t' := tk) k (Nat.le_refl _) (show ObjOk X.prog X.w _ _ _ (.dK (mergeK [] kvs)) from ⟨hlen, hm, merged [] prs, KV.merge rel .nil, hd'⟩), rfl, q _ (I.hok.fresh (Nat.le_refl _))⟩
end RK

/-! determinants of rows of vectors, by their first column; what replacing a vector by a sum does -/
namespace RDet
abbrev Vec := Nat → Int
def sh (v : Vec) : Vec := fun k => v (k + 1)
def cmb (a : Int) (u : Vec) (b : Int) (v : Vec) : Vec := fun k => a * u k + b * v k
theorem sh_cmb (a : Int) (u : Vec) (b : Int) (v : Vec) : sh (cmb a u b v) = cmb a (sh u) b (sh v) := rfl
def lap (f : List Vec → Int) : List Vec → List Vec → Int
  | _, [] => 0
  | pre, v :: rest => v 0 * f ((pre ++ rest).map sh) - lap f (pre ++ [v]) rest
def D : Nat → List Vec → Int
  | 0, [] => 1
  | 0, _ :: _ => 0
  | n + 1, rows => lap (D n) [] rows
def Lin (f : List Vec → Int) : Prop := ∀ (xs ys : List Vec) (u v : Vec) (a b : Int), f (xs ++ cmb a u b v :: ys) = a * f (xs ++ u :: ys) + b * f (xs ++ v :: ys)
def Alt (f : List Vec → Int) : Prop := ∀ (xs ys : List Vec) (u : Vec), f (xs ++ u :: u :: ys) = 0
theorem lap_lin_pre {f : List Vec → Int} (h : Lin f) (xs : List Vec) (u v : Vec) (a b : Int) : ∀ (rest ys : List Vec), lap f (xs ++ cmb a u b v :: ys) rest = a * lap f (xs ++ u :: ys) rest + b * lap f (xs ++ v :: ys) rest
  | [], ys => by simp [lap]
  | w :: rest, ys => by
    have h1 := h (xs.map sh) ((ys ++ rest).map sh) (sh u) (sh v) a b
    have h2 := lap_lin_pre h xs u v a b rest (ys ++ [w])
    simp only [lap, List.append_assoc, List.cons_append, List.map_append, List.map_cons, sh_cmb] at h1 h2 ⊢
    rw [h1, h2]
    grind
theorem lap_lin_rest {f : List Vec → Int} (h : Lin f) (ys : List Vec) (u v : Vec) (a b : Int) : ∀ (xs pre : List Vec), lap f pre (xs ++ cmb a u b v :: ys) = a * lap f pre (xs ++ u :: ys) + b * lap f pre (xs ++ v :: ys)
  | [], pre => by
    have h2 := lap_lin_pre h pre u v a b ys []
    simp only [lap, List.nil_append, cmb] at h2 ⊢
    rw [h2]
    grind
  | x :: xs, pre => by
    have h1 := h ((pre ++ xs).map sh) (ys.map sh) (sh u) (sh v) a b
    have h2 := lap_lin_rest h ys u v a b xs (pre ++ [x])
    simp only [lap, List.append_assoc, List.cons_append, List.map_append, List.map_cons, sh_cmb] at h1 h2 ⊢
    rw [h1, h2]
    grind
theorem lap_alt_pre {f : List Vec → Int} (h : Alt f) (xs : List Vec) (u : Vec) : ∀ (rest ys : List Vec), lap f (xs ++ u :: u :: ys) rest = 0
  | [], ys => rfl
  | w :: rest, ys => by
    have h1 := h (xs.map sh) ((ys ++ rest).map sh) (sh u)
    have h2 := lap_alt_pre h xs u rest (ys ++ [w])
    simp only [lap, List.append_assoc, List.cons_append, List.map_append, List.map_cons] at h1 h2 ⊢
    rw [h1, h2]
    simp
theorem lap_alt_rest {f : List Vec → Int} (h : Alt f) (ys : List Vec) (u : Vec) : ∀ (xs pre : List Vec), lap f pre (xs ++ u :: u :: ys) = 0
  | [], pre => by
    have h2 := lap_alt_pre h pre u ys []
    simp only [lap, List.nil_append, List.append_assoc, List.cons_append, List.singleton_append] at h2 ⊢
    rw [h2]
    grind
  | x :: xs, pre => by
    have h1 := h ((pre ++ xs).map sh) (ys.map sh) (sh u)
    have h2 := lap_alt_rest h ys u xs (pre ++ [x])
    simp only [lap, List.append_assoc, List.cons_append, List.map_append, List.map_cons] at h1 h2 ⊢
    rw [h1, h2]
    simp
theorem D_lin : ∀ n, Lin (D n)
  | 0 => fun xs ys u v a b => by cases xs <;> simp [D]
  | n + 1 => fun xs ys u v a b => lap_lin_rest (D_lin n) ys u v a b xs []
theorem D_alt : ∀ n, Alt (D n)
  | 0 => fun xs ys u => by cases xs <;> simp [D]
  | n + 1 => fun xs ys u => lap_alt_rest (D_alt n) ys u xs []
section
variable {f : List Vec → Int}
theorem swap_adj (l : Lin f) (h : Alt f) (xs ys : List Vec) (u v : Vec) : f (xs ++ u :: v :: ys) = - f (xs ++ v :: u :: ys) := by
  have h0 := h xs ys (cmb 1 u 1 v)
  have e1 := l xs (cmb 1 u 1 v :: ys) u v 1 1
  have e2 := l (xs ++ [u]) ys u v 1 1
  have e3 := l (xs ++ [v]) ys u v 1 1
  have h1 := h xs ys u
  have h2 := h xs ys v
  simp only [List.append_assoc, List.cons_append, List.nil_append] at e2 e3
  rw [e1, e2, e3, h1, h2] at h0
  omega
theorem alt_far (l : Lin f) (h : Alt f) (ys : List Vec) (u : Vec) : ∀ (zs xs : List Vec), f (xs ++ u :: (zs ++ u :: ys)) = 0
  | [], xs => h xs ys u
  | z :: zs, xs => by
    have e := swap_adj l h xs (zs ++ u :: ys) u z
    have i := alt_far l h ys u zs (xs ++ [z])
    simp only [List.append_assoc, List.cons_append, List.nil_append] at e i ⊢
    rw [e, i]
    rfl
end
/-! the same over functions -/
def upd (b : Nat → Vec) (j : Nat) (v : Vec) : Nat → Vec := fun i => if i = j then v else b i
theorem upd_at (b : Nat → Vec) (j : Nat) (v : Vec) : upd b j v j = v := if_pos rfl
theorem upd_no (b : Nat → Vec) {i j : Nat} (v : Vec) (h : i ≠ j) : upd b j v i = b i := if_neg h
def F (n : Nat) (b : Nat → Vec) : Int := D n ((List.range n).map b)
theorem split1 {n j : Nat} (h : j < n) (b : Nat → Vec) : (List.range n).map b = (List.range j).map b ++ b j :: (List.range (n - j - 1)).map fun k => b (j + 1 + k) := by
  refine List.ext_getElem? fun i => ?_
  simp only [List.getElem?_map, List.getElem?_append, List.getElem?_cons, List.length_map, List.length_range]
  by_cases c : i < j
  · rw [if_pos c, List.getElem?_range (by omega), List.getElem?_range c]
  · rw [if_neg c]
    by_cases c2 : i - j = 0
    · rw [if_pos c2, show i = j by omega, List.getElem?_range h]; rfl
    · rw [if_neg c2]
      by_cases c3 : i < n
      · rw [List.getElem?_range c3, List.getElem?_range (by omega)]
        show some (b i) = some (b (j + 1 + (i - j - 1)))
        rw [show j + 1 + (i - j - 1) = i by omega]
      · rw [List.getElem?_eq_none (by rw [List.length_range]; omega), List.getElem?_eq_none (by rw [List.length_range]; omega)]
        rfl
theorem map_upd_lt {j : Nat} (b : Nat → Vec) (v : Vec) : (List.range j).map (upd b j v) = (List.range j).map b := List.map_congr_left fun i hi => upd_no b v (by have := List.mem_range.mp hi; omega)
theorem F_upd {n j : Nat} (h : j < n) (b : Nat → Vec) (v : Vec) : F n (upd b j v) = D n ((List.range j).map b ++ v :: (List.range (n - j - 1)).map fun k => b (j + 1 + k)) := by
  unfold F
  rw [split1 h, map_upd_lt, upd_at]
  congr 3
  exact List.map_congr_left fun i _ => upd_no b v (by omega)
theorem F_lin {n j : Nat} (h : j < n) (b : Nat → Vec) (x : Int) (u : Vec) (y : Int) (v : Vec) : F n (upd b j (cmb x u y v)) = x * F n (upd b j u) + y * F n (upd b j v) := by
  rw [F_upd h, F_upd h, F_upd h]
  exact D_lin n _ _ u v x y
theorem F_alt {n i j : Nat} (hi : i < n) (hj : j < n) (ne : i ≠ j) (b : Nat → Vec) (e : b i = b j) : F n b = 0 := by
  have key : ∀ i j, i < j → j < n → b i = b j → F n b = 0 := fun i j lt hj e => by
    unfold F
    rw [split1 (show i < n by omega), split1 (show j - i - 1 < n - i - 1 by omega) (fun k => b (i + 1 + k))]
    rw [show i + 1 + (j - i - 1) = j by omega, ← e]
    exact alt_far (D_lin n) (D_alt n) _ _ _ _
  by_cases c : i < j
  · exact key i j c hj e
  · exact key j i (by omega) hi e.symm
theorem upd_self (b : Nat → Vec) (j : Nat) : upd b j (b j) = b := by
  funext i
  unfold upd
  split
  · rename_i h; rw [h]
  · rfl
theorem upd_comm (b : Nat → Vec) {i j : Nat} (ne : i ≠ j) (u v : Vec) : upd (upd b i u) j v = upd (upd b j v) i u := by
  funext k
  unfold upd
  split
  · split
    · omega
    · rfl
  · rfl
theorem F_swap {n i j : Nat} (hi : i < n) (hj : j < n) (ne : i ≠ j) (b : Nat → Vec) (u v : Vec) : F n (upd (upd b i u) j v) = - F n (upd (upd b i v) j u) := by
  have z : ∀ w, F n (upd (upd b i w) j w) = 0 := fun w => F_alt hi hj ne _ (by rw [upd_at, upd_no _ _ ne, upd_at])
  have h0 := z (cmb 1 u 1 v)
  rw [F_lin hj, upd_comm b ne, upd_comm b ne, F_lin hi, F_lin hi, ← upd_comm b ne, ← upd_comm b ne, ← upd_comm b ne, ← upd_comm b ne, z u, z v] at h0
  omega
/-! sums -/
def sm : Nat → (Nat → Int) → Int
  | 0, _ => 0
  | n + 1, g => sm n g + g n
theorem sm_congr {g h : Nat → Int} : ∀ {n : Nat}, (∀ i, i < n → g i = h i) → sm n g = sm n h
  | 0, _ => rfl
  | n + 1, e => by
    show sm n g + g n = sm n h + h n
    rw [sm_congr fun i hi => e i (by omega), e n (Nat.lt_succ_self n)]
theorem sm_mul (c : Int) (g : Nat → Int) : ∀ n, c * sm n g = sm n fun i => c * g i
  | 0 => Int.mul_zero c
  | n + 1 => by
    show c * (sm n g + g n) = sm n _ + c * g n
    rw [Int.mul_add, sm_mul c g n]
theorem sm_add (g h : Nat → Int) : ∀ n, sm n g + sm n h = sm n fun i => g i + h i
  | 0 => rfl
  | n + 1 => by
    show sm n g + g n + (sm n h + h n) = sm n _ + (g n + h n)
    rw [← sm_add g h n]; omega
theorem sm_zero {g : Nat → Int} : ∀ {n : Nat}, (∀ i, i < n → g i = 0) → sm n g = 0
  | 0, _ => rfl
  | n + 1, e => by
    show sm n g + g n = 0
    rw [sm_zero fun i hi => e i (by omega), e n (Nat.lt_succ_self n)]; rfl
theorem sm_one {g : Nat → Int} {j : Nat} : ∀ {n : Nat}, j < n → (∀ i, i < n → i ≠ j → g i = 0) → sm n g = g j
  | 0, h, _ => absurd h (Nat.not_lt_zero j)
  | n + 1, h, e => by
    show sm n g + g n = g j
    by_cases c : j = n
    · subst c
      rw [sm_zero fun i hi => e i (by omega) (by omega)]; omega
    · rw [sm_one (j := j) (by omega) fun i hi ne => e i (by omega) ne, e n (by omega) (by omega)]; omega
theorem sm_comm (g : Nat → Nat → Int) (m : Nat) : ∀ n, sm n (fun i => sm m fun j => g i j) = sm m fun j => sm n fun i => g i j
  | 0 => (sm_zero fun _ _ => rfl).symm
  | n + 1 => by
    show sm n _ + sm m _ = sm m fun j => sm n (fun i => g i j) + g n j
    rw [sm_comm g m n, sm_add]
/-- two places alone -/
theorem sm_two {g : Nat → Int} {i j n : Nat} (hi : i < n) (hj : j < n) (ne : i ≠ j) (e : ∀ k, k < n → k ≠ i → k ≠ j → g k = 0) : sm n g = g i + g j := by
  have h1 := sm_one (g := fun k => if k = j then 0 else g k) hi (fun k hk nk => by
    by_cases c : k = j
    · rw [if_pos c]
    · rw [if_neg c]; exact e k hk nk c)
  have h2 := sm_one (g := fun k => if k = j then g k else 0) hj (fun k hk nk => if_neg nk)
  rw [if_neg ne] at h1
  rw [if_pos rfl] at h2
  have : sm n g = sm n (fun k => if k = j then 0 else g k) + sm n (fun k => if k = j then g k else 0) := by
    rw [sm_add]
    exact sm_congr fun k _ => by split <;> omega
  rw [this, h1, h2]
def lc (n : Nat) (t : Nat → Int) (b : Nat → Vec) : Vec := fun k => sm n fun j => t j * b j k
theorem F_lc {n j : Nat} (h : j < n) (b c : Nat → Vec) (t : Nat → Int) : ∀ m, F n (upd b j (lc m t c)) = sm m fun i => t i * F n (upd b j (c i))
  | 0 => by
    have e : lc 0 t c = cmb 0 (lc 0 t c) 0 (lc 0 t c) := by funext k; simp [lc, sm, cmb]
    rw [e, F_lin h]
    simp [sm]
  | m + 1 => by
    have e : lc (m + 1) t c = cmb 1 (lc m t c) (t m) (c m) := by
      funext k
      show sm m _ + t m * c m k = 1 * sm m _ + t m * c m k
      rw [Int.one_mul]
    rw [e, F_lin h, F_lc h b c t m, Int.one_mul]
    rfl
/-- a vector put in for one of those that it is summed of -/
theorem F_put {n j : Nat} (h : j < n) (b : Nat → Vec) (t : Nat → Int) : F n (upd b j (lc n t b)) = t j * F n b := by
  rw [F_lc h, sm_one h, upd_self]
  intro i hi ne
  rw [F_alt hi h ne _ (by rw [upd_no _ _ ne, upd_at]), Int.mul_zero]
/-- two vectors put in -/
theorem F_put2 {n i j : Nat} (hi : i < n) (hj : j < n) (ne : i ≠ j) (b : Nat → Vec) (t r : Nat → Int) : F n (upd (upd b i (lc n t b)) j (lc n r b)) = (t i * r j - t j * r i) * F n b := by
  rw [F_lc hj, sm_two hj hi ne.symm]
  · rw [upd_comm b ne, upd_self, F_put hi, upd_comm b ne, F_lc hi, sm_one hj]
    · have s := F_swap hi hj ne b (b j) (b i)
      rw [← upd_comm b ne, s, upd_self, upd_self]
      grind
    · intro k hk nk
      by_cases c : k = i
      · subst c
        rw [F_alt hi hj ne _ (by rw [upd_at, upd_no _ _ ne.symm, upd_at]), Int.mul_zero]
      · rw [F_alt hk hi c _ (by rw [upd_no _ _ c, upd_no _ _ nk, upd_at]), Int.mul_zero]
  · intro k hk n1 n2
    rw [F_alt hk hj n1 _ (by rw [upd_no _ _ n1, upd_no _ _ n2, upd_at]), Int.mul_zero]
/-- independence -/
theorem F_indep {n j : Nat} (h : j < n) {b : Nat → Vec} (hb : F n b ≠ 0) {t : Nat → Int} (e : ∀ k, sm n (fun i => t i * b i k) = 0) : t j = 0 := by
  have p := F_put h b t
  have z : lc n t b = cmb 0 (b 0) 0 (b 0) := by funext k; simp [lc, cmb, e k]
  rw [z, F_lin h] at p
  simp only [Int.zero_mul, Int.add_zero] at p
  exact (Int.mul_eq_zero.mp p.symm).resolve_right hb
/-! how large -/
theorem lap_bd {f : List Vec → Int} {M B : Nat} (hB : ∀ rs : List Vec, (f rs).natAbs ≤ B) : ∀ (rest pre : List Vec), (∀ v ∈ rest, (v 0).natAbs ≤ M) → (lap f pre rest).natAbs ≤ rest.length * (M * B)
  | [], pre, _ => Nat.zero_le _
  | v :: rest, pre, h => by
    have i := lap_bd hB rest (pre ++ [v]) fun u m => h u (List.mem_cons_of_mem _ m)
    have h1 : (v 0 * f ((pre ++ rest).map sh)).natAbs ≤ M * B := by rw [Int.natAbs_mul]; exact Nat.mul_le_mul (h v List.mem_cons_self) (hB _)
    show (v 0 * f ((pre ++ rest).map sh) - lap f (pre ++ [v]) rest).natAbs ≤ (rest.length + 1) * (M * B)
    rw [Nat.succ_mul]
    omega
theorem lap_bd2 {f : List Vec → Int} {M B : Nat} (G : List Vec → Prop) (hB : ∀ rs : List Vec, G rs → (f rs).natAbs ≤ B) : ∀ (rest pre : List Vec), (∀ v ∈ rest, (v 0).natAbs ≤ M) → (∀ xs v ys, rest = xs ++ v :: ys → G ((pre ++ xs ++ ys).map sh)) → (lap f pre rest).natAbs ≤ rest.length * (M * B)
  | [], pre, _, _ => Nat.zero_le _
  | v :: rest, pre, h, g => by
    have i := lap_bd2 G hB rest (pre ++ [v]) (fun u m => h u (List.mem_cons_of_mem _ m)) fun xs u ys e => by
      have := g (v :: xs) u ys (by rw [e]; rfl)
      simpa using this
    have h1 : (v 0 * f ((pre ++ rest).map sh)).natAbs ≤ M * B := by
      rw [Int.natAbs_mul]
      exact Nat.mul_le_mul (h v List.mem_cons_self) (hB _ (by have := g [] v rest rfl; simpa using this))
    show (v 0 * f ((pre ++ rest).map sh) - lap f (pre ++ [v]) rest).natAbs ≤ (rest.length + 1) * (M * B)
    rw [Nat.succ_mul]
    omega
theorem D_bd (M : Nat) (hM : 1 ≤ M) (k : Nat) : ∀ (n : Nat) (rows : List Vec), rows.length ≤ k → (∀ v ∈ rows, ∀ i, (v i).natAbs ≤ M) → (D n rows).natAbs ≤ (k * M) ^ n
  | 0, [], _, _ => by show 1 ≤ 1; omega
  | 0, _ :: _, _, _ => by show 0 ≤ _; omega
  | n + 1, rows, hl, h => by
    have := lap_bd2 (fun rs => rs.length ≤ k ∧ ∀ v ∈ rs, ∀ i, (v i).natAbs ≤ M) (B := (k * M) ^ n) (f := D n) (M := M) (fun rs g => D_bd M hM k n rs g.1 g.2) rows [] (fun v m => h v m 0) (fun xs v ys e => by
      subst e
      refine ⟨?_, fun u m i => ?_⟩
      · simp at hl ⊢; omega
      · obtain ⟨w, hw, rfl⟩ := List.mem_map.mp m
        exact h w (by simp at hw ⊢; rcases hw with hw | hw <;> simp [hw]) (i + 1))
    show (lap (D n) [] rows).natAbs ≤ _
    refine Nat.le_trans this ?_
    rw [Nat.pow_succ, ← Nat.mul_assoc, Nat.mul_comm ((k * M) ^ n)]
    exact Nat.mul_le_mul (Nat.mul_le_mul hl (Nat.le_refl M)) (Nat.le_refl _)
theorem F_bd {n M : Nat} (hM : 1 ≤ M) {b : Nat → Vec} (h : ∀ j, j < n → ∀ i, (b j i).natAbs ≤ M) : (F n b).natAbs ≤ (n * M) ^ n :=
  D_bd M hM n n _ (by rw [List.length_map, List.length_range]; exact Nat.le_refl n) fun v m i => by
    obtain ⟨j, hj, rfl⟩ := List.mem_map.mp m
    exact h j (List.mem_range.mp hj) i
end RDet

/-! the simplex method over integers: one scale, rows seen from a corner -/
namespace RSpx
open RDet
structure St where
  z : Nat → Nat
  S : Int
  r : Nat → Nat → Int
def lin (f : Nat → Nat → Int) (i : Nat) : Vec := fun k => f i (k + 1)
def kap (k : Nat) (x : Int) : Int := if k = 0 then x else 0
structure Ok (n m : Nat) (f : Nat → Nat → Int) (s : St) : Prop where
  pos : 0 < s.S
  zlt : ∀ j, j < n → s.z j < m
  row : ∀ i, i < m → ∀ k, s.S * f i k = kap k (s.r i 0) + sm n fun j => s.r i (j + 1) * f (s.z j) k
  det : (F n fun j => lin f (s.z j)).natAbs = s.S.natAbs
section
variable {n m : Nat} {f : Nat → Nat → Int} {s : St}
theorem Ok.ne (h : Ok n m f s) : F n (fun j => lin f (s.z j)) ≠ 0 := fun e => by
  have := h.det
  have := h.pos
  rw [e] at *
  omega
theorem Ok.sgn (h : Ok n m f s) : ∃ e : Int, (e = 1 ∨ e = -1) ∧ F n (fun j => lin f (s.z j)) = e * s.S := by
  have := h.det
  rcases Int.natAbs_eq_natAbs_iff.mp h.det with e | e
  · exact ⟨1, .inl rfl, by rw [e]; omega⟩
  · exact ⟨-1, .inr rfl, by rw [e]; omega⟩
theorem Ok.sum (h : Ok n m f s) {i : Nat} (hi : i < m) : cmb s.S (lin f i) 0 (lin f i) = lc n (fun j => s.r i (j + 1)) fun j => lin f (s.z j) := by
  funext k
  have := h.row i hi (k + 1)
  unfold kap at this
  rw [if_neg (Nat.succ_ne_zero k)] at this
  show s.S * f i (k + 1) + 0 * f i (k + 1) = sm n fun j => s.r i (j + 1) * f (s.z j) (k + 1)
  rw [this]; omega
theorem Ok.indep (h : Ok n m f s) {t : Nat → Int} (e : ∀ k, sm n (fun i => t i * f (s.z i) (k + 1)) = 0) {j : Nat} (hj : j < n) : t j = 0 := F_indep hj h.ne e
/-- a row is a determinant -/
theorem Ok.cram (h : Ok n m f s) {i j : Nat} (hi : i < m) (hj : j < n) : s.S * F n (upd (fun j => lin f (s.z j)) j (lin f i)) = s.r i (j + 1) * F n fun j => lin f (s.z j) := by
  have e := F_put hj (fun j => lin f (s.z j)) fun j => s.r i (j + 1)
  rw [← h.sum hi, F_lin hj] at e
  omega
theorem Ok.cram2 (h : Ok n m f s) {a i c j : Nat} (ha : a < m) (hi : i < m) (hc : c < n) (hj : j < n) (ne : c ≠ j) :
    s.S * (s.S * F n (upd (upd (fun j => lin f (s.z j)) c (lin f a)) j (lin f i))) = (s.r a (c + 1) * s.r i (j + 1) - s.r a (j + 1) * s.r i (c + 1)) * F n fun j => lin f (s.z j) := by
  have e := F_put2 hc hj ne (fun j => lin f (s.z j)) (fun j => s.r a (j + 1)) fun j => s.r i (j + 1)
  rw [← h.sum ha, ← h.sum hi, F_lin hj, upd_comm _ ne, F_lin hc, ← upd_comm _ ne] at e
  grind
theorem Ok.inj (h : Ok n m f s) {i j : Nat} (hi : i < n) (hj : j < n) (e : s.z i = s.z j) : i = j := by
  by_cases c : i = j
  · exact c
  · exact absurd (F_alt hi hj c (fun j => lin f (s.z j)) (by show lin f (s.z i) = lin f (s.z j); rw [e])) h.ne
/-- two views with the same zeros -/
theorem Ok.uniq (h : Ok n m f s) {s' : St} (h' : Ok n m f s') (e : ∀ j, j < n → s'.z j = s.z j) {i : Nat} (hi : i < m) : (∀ j, j < n → s'.S * s.r i (j + 1) = s.S * s'.r i (j + 1)) ∧ s'.S * s.r i 0 = s.S * s'.r i 0 := by
  have e1 : ∀ k, s'.S * (kap k (s.r i 0) + sm n fun j => s.r i (j + 1) * f (s.z j) k) = s.S * (kap k (s'.r i 0) + sm n fun j => s'.r i (j + 1) * f (s.z j) k) := fun k => by
    rw [← h.row i hi k, sm_congr (g := fun j => s'.r i (j + 1) * f (s.z j) k) (h := fun j => s'.r i (j + 1) * f (s'.z j) k) (fun j hj => by rw [e j hj]), ← h'.row i hi k]
    grind
  have lin : ∀ j, j < n → s'.S * s.r i (j + 1) - s.S * s'.r i (j + 1) = 0 := fun j hj => h.indep (t := fun j => s'.S * s.r i (j + 1) - s.S * s'.r i (j + 1)) (fun k => by
    have := e1 (k + 1)
    unfold kap at this
    rw [if_neg (Nat.succ_ne_zero k), if_neg (Nat.succ_ne_zero k), Int.zero_add, Int.zero_add, sm_mul, sm_mul] at this
    have s2 : sm n (fun i_1 => (s'.S * s.r i (i_1 + 1) - s.S * s'.r i (i_1 + 1)) * f (s.z i_1) (k + 1)) + sm n (fun i_1 => s.S * (s'.r i (i_1 + 1) * f (s.z i_1) (k + 1))) = sm n fun i_1 => s'.S * (s.r i (i_1 + 1) * f (s.z i_1) (k + 1)) := by
      rw [sm_add]
      exact sm_congr fun j _ => by grind
    omega) hj
  refine ⟨fun j hj => by have := lin j hj; omega, ?_⟩
  have := e1 0
  unfold kap at this
  rw [if_pos rfl, if_pos rfl, Int.mul_add, Int.mul_add, sm_mul, sm_mul, sm_congr (g := fun i_1 => s'.S * (s.r i (i_1 + 1) * f (s.z i_1) 0)) (h := fun i_1 => s.S * (s'.r i (i_1 + 1) * f (s.z i_1) 0)) (fun j hj => by have := lin j hj; grind)] at this
  omega
/-- the rows of the zeros -/
theorem Ok.zrow (h : Ok n m f s) {c : Nat} (hc : c < n) : s.r (s.z c) 0 = 0 ∧ ∀ j, j < n → s.r (s.z c) (j + 1) = if j = c then s.S else 0 := by
  have hz := h.zlt c hc
  have one : ∀ k, sm n (fun j => (if j = c then s.S else 0) * f (s.z j) k) = s.S * f (s.z c) k := fun k => by
    rw [sm_one hc fun i _ ne => by rw [if_neg ne, Int.zero_mul], if_pos rfl]
  have lin : ∀ j, j < n → s.r (s.z c) (j + 1) - (if j = c then s.S else 0) = 0 := fun j hj => h.indep (t := fun j => s.r (s.z c) (j + 1) - (if j = c then s.S else 0)) (fun k => by
    have r := h.row _ hz (k + 1)
    unfold kap at r
    rw [if_neg (Nat.succ_ne_zero k), Int.zero_add] at r
    have o := one (k + 1)
    have s2 : sm n (fun i => (s.r (s.z c) (i + 1) - (if i = c then s.S else 0)) * f (s.z i) (k + 1)) + sm n (fun j => (if j = c then s.S else 0) * f (s.z j) (k + 1)) = sm n fun i => s.r (s.z c) (i + 1) * f (s.z i) (k + 1) := by
      rw [sm_add]
      exact sm_congr fun j _ => by grind
    omega) hj
  refine ⟨?_, fun j hj => by have := lin j hj; omega⟩
  have r := h.row _ hz 0
  unfold kap at r
  rw [if_pos rfl, sm_congr (h := fun j => (if j = c then s.S else 0) * f (s.z j) 0) (fun j hj => by have := lin j hj; grind), one] at r
  omega
end
/-! ### a turn -/
def part (s : St) (a c i : Nat) : Int := if 0 < s.r a (c + 1) then s.r i (c + 1) else -(s.r i (c + 1))
def size (s : St) (a c : Nat) : Int := ((s.r a (c + 1)).natAbs : Int)
def piv (s : St) (a c : Nat) : St where
  z := fun j => if j = c then a else s.z j
  S := size s a c
  r := fun i k => if k = c + 1 then part s a c i else (s.r i k * size s a c - part s a c i * s.r a k) / s.S
section
variable {n m : Nat} {f : Nat → Nat → Int} {s : St} {a c : Nat}
theorem size_part (i : Nat) : size s a c * s.r i (c + 1) = part s a c i * s.r a (c + 1) := by
  unfold size part
  split
  · rw [show ((s.r a (c + 1)).natAbs : Int) = s.r a (c + 1) by omega, Int.mul_comm]
  · rw [show ((s.r a (c + 1)).natAbs : Int) = -(s.r a (c + 1)) by omega]
    grind
theorem Ok.exact (h : Ok n m f s) (ha : a < m) (hc : c < n) {i : Nat} (hi : i < m) {j : Nat} (hj : j < n) (ne : j ≠ c) : s.S ∣ s.r i (j + 1) * size s a c - part s a c i * s.r a (j + 1) := by
  obtain ⟨e, he, hF⟩ := h.sgn
  have x := h.cram2 ha hi hc hj ne.symm
  generalize F n (upd (upd (fun j => RSpx.lin f (s.z j)) c (RSpx.lin f a)) j (RSpx.lin f i)) = X at x
  rw [hF] at x
  have x2 : s.S * X = (s.r a (c + 1) * s.r i (j + 1) - s.r a (j + 1) * s.r i (c + 1)) * e := Int.eq_of_mul_eq_mul_left (a := s.S) (by have := h.pos; omega) (by rw [x]; grind)
  have d : s.S ∣ s.r a (c + 1) * s.r i (j + 1) - s.r a (j + 1) * s.r i (c + 1) := by
    rcases he with rfl | rfl
    · exact ⟨X, by omega⟩
    · exact ⟨-X, by rw [Int.mul_neg]; omega⟩
  unfold size part
  split
  · rw [show ((s.r a (c + 1)).natAbs : Int) = s.r a (c + 1) by omega]
    obtain ⟨q, hq⟩ := d
    exact ⟨q, by rw [← hq]; grind⟩
  · rw [show ((s.r a (c + 1)).natAbs : Int) = -(s.r a (c + 1)) by omega]
    obtain ⟨q, hq⟩ := d
    exact ⟨-q, by grind⟩
theorem Ok.exact0 (h : Ok n m f s) (ha : a < m) (hc : c < n) {i : Nat} (hi : i < m) : s.S ∣ s.r i 0 * size s a c - part s a c i * s.r a 0 := by
  have ri := h.row i hi 0
  have ra := h.row a ha 0
  unfold kap at ri ra
  rw [if_pos rfl] at ri ra
  have q : ∀ j, j < n → ∃ q : Int, s.r i (j + 1) * size s a c - part s a c i * s.r a (j + 1) = s.S * q := fun j hj => by
    by_cases ne : j = c
    · subst ne
      exact ⟨0, by have := size_part (s := s) (a := a) (c := j) i; grind⟩
    · exact h.exact ha hc hi hj ne
  have tot : ∀ k, k ≤ n → s.S ∣ size s a c * (sm k fun j => s.r i (j + 1) * f (s.z j) 0) - part s a c i * (sm k fun j => s.r a (j + 1) * f (s.z j) 0) := fun k => by
    induction k with
    | zero => exact fun _ => ⟨0, by simp [sm]⟩
    | succ k ih =>
      intro hk
      obtain ⟨x, hx⟩ := ih (by omega)
      obtain ⟨y, hy⟩ := q k (by omega)
      refine ⟨x + y * f (s.z k) 0, ?_⟩
      show size s a c * (sm k _ + s.r i (k + 1) * f (s.z k) 0) - part s a c i * (sm k _ + s.r a (k + 1) * f (s.z k) 0) = _
      grind
  obtain ⟨x, hx⟩ := tot n (Nat.le_refl n)
  exact ⟨size s a c * f i 0 - part s a c i * f a 0 - x, by grind⟩
theorem Ok.all (h : Ok n m f s) (ha : a < m) (hc : c < n) {i : Nat} (hi : i < m) {k : Nat} (hk : k ≤ n) (ne : k ≠ c + 1) : s.S * (piv s a c).r i k = s.r i k * size s a c - part s a c i * s.r a k := by
  show s.S * (if k = c + 1 then _ else _) = _
  rw [if_neg ne]
  cases k with
  | zero => exact Int.mul_ediv_cancel' (h.exact0 ha hc hi)
  | succ j => exact Int.mul_ediv_cancel' (h.exact ha hc hi (by omega) (by omega))
theorem Ok.turn (h : Ok n m f s) (ha : a < m) (hc : c < n) (nz : s.r a (c + 1) ≠ 0) : Ok n m f (piv s a c) where
  pos := by show 0 < ((s.r a (c + 1)).natAbs : Int); omega
  zlt := fun j hj => by
    show (if j = c then a else s.z j) < m
    split
    · exact ha
    · exact h.zlt j hj
  row := fun i hi k => by
    have ri := h.row i hi k
    have ra := h.row a ha k
    have sp := size_part (s := s) (a := a) (c := c) i
    refine Int.eq_of_mul_eq_mul_left (a := s.S) (by have := h.pos; omega) ?_
    have k0 : s.S * kap k ((piv s a c).r i 0) = kap k (s.r i 0) * size s a c - part s a c i * kap k (s.r a 0) := by
      unfold kap
      split
      · exact h.all ha hc hi (Nat.zero_le n) (by omega)
      · simp
    have term : sm n (fun j => s.S * ((piv s a c).r i (j + 1) * f ((piv s a c).z j) k)) = sm n (fun j => size s a c * (s.r i (j + 1) * f (s.z j) k)) - part s a c i * (sm n fun j => s.r a (j + 1) * f (s.z j) k) + s.S * part s a c i * f a k := by
      have one := sm_one (g := fun j => if j = c then s.S * part s a c i * f a k else 0) hc fun i _ ne => if_neg ne
      rw [if_pos rfl] at one
      have e : sm n (fun j => s.S * ((piv s a c).r i (j + 1) * f ((piv s a c).z j) k)) + sm n (fun j => part s a c i * (s.r a (j + 1) * f (s.z j) k)) = sm n (fun j => size s a c * (s.r i (j + 1) * f (s.z j) k)) + sm n fun j => if j = c then s.S * part s a c i * f a k else 0 := by
        rw [sm_add, sm_add]
        refine sm_congr fun j hj => ?_
        by_cases ne : j = c
        · subst ne
          rw [if_pos rfl]
          show s.S * ((if j + 1 = j + 1 then part s a j i else _) * f (if j = j then a else s.z j) k) + _ = _
          rw [if_pos rfl, if_pos rfl]
          grind
        · rw [if_neg ne, Int.add_zero]
          have al := h.all ha hc hi (k := j + 1) (by omega) (by omega)
          have zz : (piv s a c).z j = s.z j := if_neg ne
          rw [zz]
          grind
      rw [one] at e
      rw [sm_mul]
      omega
    rw [Int.mul_add, k0, sm_mul, term, ← sm_mul]
    show s.S * (size s a c * f i k) = _
    grind
  det := by
    have e : (fun j => RSpx.lin f ((piv s a c).z j)) = upd (fun j => RSpx.lin f (s.z j)) c (RSpx.lin f a) := by
      funext j
      show RSpx.lin f (if j = c then a else s.z j) = if j = c then _ else _
      split <;> rfl
    rw [e]
    obtain ⟨e, he, hF⟩ := h.sgn
    have x := h.cram ha hc
    rw [hF] at x
    have x2 : F n (upd (fun j => RSpx.lin f (s.z j)) c (RSpx.lin f a)) = s.r a (c + 1) * e := Int.eq_of_mul_eq_mul_left (a := s.S) (by have := h.pos; omega) (by rw [x]; grind)
    rw [x2]
    show _ = ((s.r a (c + 1)).natAbs : Int).natAbs
    rcases he with rfl | rfl
    · rw [Int.mul_one]; omega
    · rw [Int.mul_neg, Int.mul_one]; omega
/-- how large a view is -/
theorem Ok.small (h : Ok n m f s) {M : Nat} (hM : 1 ≤ M) (hf : ∀ i, i < m → ∀ k, (f i k).natAbs ≤ M) {i : Nat} (hi : i < m) : s.S.natAbs ≤ (n * M) ^ n ∧ (∀ j, j < n → (s.r i (j + 1)).natAbs ≤ (n * M) ^ n) ∧ (s.r i 0).natAbs ≤ (n + 1) * ((n * M) ^ n * M) := by
  obtain ⟨e, he, hF⟩ := h.sgn
  have b0 : s.S.natAbs ≤ (n * M) ^ n := by rw [← h.det]; exact F_bd hM fun j hj k => hf _ (h.zlt j hj) _
  have b1 : ∀ j, j < n → (s.r i (j + 1)).natAbs ≤ (n * M) ^ n := fun j hj => by
    have x := h.cram hi hj
    rw [hF] at x
    have bd : (F n (upd (fun j => RSpx.lin f (s.z j)) j (RSpx.lin f i))).natAbs ≤ (n * M) ^ n := F_bd hM fun l hl k => by
      unfold upd
      split
      · exact hf i hi _
      · exact hf _ (h.zlt l hl) _
    have x2 : F n (upd (fun j => RSpx.lin f (s.z j)) j (RSpx.lin f i)) = s.r i (j + 1) * e := Int.eq_of_mul_eq_mul_left (a := s.S) (by have := h.pos; omega) (by rw [x]; grind)
    rw [x2] at bd
    rcases he with rfl | rfl
    · rw [Int.mul_one] at bd; exact bd
    · rw [Int.mul_neg, Int.mul_one, Int.natAbs_neg] at bd; exact bd
  refine ⟨b0, b1, ?_⟩
  have r := h.row i hi 0
  unfold kap at r
  rw [if_pos rfl] at r
  have tot : ∀ k, k ≤ n → (sm k fun j => s.r i (j + 1) * f (s.z j) 0).natAbs ≤ k * ((n * M) ^ n * M) := fun k => by
    induction k with
    | zero => exact fun _ => Nat.zero_le _
    | succ k ih =>
      intro hk
      have := ih (by omega)
      have p : (s.r i (k + 1) * f (s.z k) 0).natAbs ≤ (n * M) ^ n * M := by rw [Int.natAbs_mul]; exact Nat.mul_le_mul (b1 k (by omega)) (hf _ (h.zlt k (by omega)) 0)
      show (sm k _ + s.r i (k + 1) * f (s.z k) 0).natAbs ≤ _
      rw [Nat.succ_mul]
      omega
  have t := tot n (Nat.le_refl n)
  have p : (s.S * f i 0).natAbs ≤ (n * M) ^ n * M := by rw [Int.natAbs_mul]; exact Nat.mul_le_mul b0 (hf _ hi 0)
  rw [Nat.succ_mul]
  omega
end
/-! ### rising: Bland's rule ends -/
/-- the column along which the last condition rises, by the least index -/
structure Rise (n g : Nat) (s : St) (c : Nat) : Prop where
  lt : c < n
  up : 0 < s.r g (c + 1)
  least : ∀ d, d < n → 0 < s.r g (d + 1) → s.z c ≤ s.z d
/-- the condition that is the first to become 0, by the least index -/
structure Stop (g : Nat) (s : St) (c a : Nat) : Prop where
  lt : a < g
  down : s.r a (c + 1) < 0
  first : ∀ i, i < g → s.r i (c + 1) < 0 → s.r i 0 * s.r a (c + 1) ≤ s.r a 0 * s.r i (c + 1) ∧ (s.r i 0 * s.r a (c + 1) = s.r a 0 * s.r i (c + 1) → a ≤ i)
/-- all but the last condition, g, are kept at the corner, and g is no zero -/
structure Fz (n g : Nat) (f : Nat → Nat → Int) (s : St) : Prop where
  ok : Ok n (g + 1) f s
  feas : ∀ i, i < g → 0 ≤ s.r i 0
  zlt : ∀ j, j < n → s.z j < g
def Stp (n g : Nat) (s s' : St) : Prop := ∃ c a, Rise n g s c ∧ Stop g s c a ∧ s' = piv s a c
section
variable {n g : Nat} {f : Nat → Nat → Int} {s s' : St}
theorem Fz.step (h : Fz n g f s) (t : Stp n g s s') : Fz n g f s' := by
  obtain ⟨c, a, ri, st, rfl⟩ := t
  have hok := h.ok.turn (a := a) (c := c) (by have := st.lt; omega) ri.lt (by have := st.down; omega)
  refine ⟨hok, fun i hi => ?_, fun j hj => ?_⟩
  · have e := h.ok.all (a := a) (c := c) (i := i) (k := 0) (by have := st.lt; omega) ri.lt (by omega) (Nat.zero_le n) (by omega)
    have dn := st.down
    have p := h.ok.pos
    have f1 := h.feas i hi
    have f2 := h.feas a st.lt
    have sz : size s a c = -(s.r a (c + 1)) := by unfold size; omega
    have pt : part s a c i = -(s.r i (c + 1)) := by unfold part; rw [if_neg (by omega)]
    rw [sz, pt] at e
    have nn : 0 ≤ s.r i 0 * -(s.r a (c + 1)) - -(s.r i (c + 1)) * s.r a 0 := by
      by_cases neg : s.r i (c + 1) < 0
      · have := (st.first i hi neg).1
        grind
      · have h1 : 0 ≤ s.r i 0 * -(s.r a (c + 1)) := Int.mul_nonneg f1 (by omega)
        have h2 : 0 ≤ s.r i (c + 1) * s.r a 0 := Int.mul_nonneg (by omega) f2
        have h3 : -(s.r i (c + 1)) * s.r a 0 = -(s.r i (c + 1) * s.r a 0) := Int.neg_mul ..
        omega
    rw [← e] at nn
    by_cases c0 : 0 ≤ (piv s a c).r i 0
    · exact c0
    · have := Int.mul_neg_of_pos_of_neg p (show (piv s a c).r i 0 < 0 by omega)
      omega
  · show (if j = c then a else s.z j) < g
    split
    · exact st.lt
    · exact h.zlt j hj
/-- the height of the last condition over the scale does not fall; it stays only where the stopping condition is at 0 -/
theorem Fz.height (h : Fz n g f s) {c a : Nat} (ri : Rise n g s c) (st : Stop g s c a) : s.S * (piv s a c).r g 0 = s.r g 0 * (piv s a c).S + s.r g (c + 1) * s.r a 0 := by
  have e := h.ok.all (a := a) (c := c) (i := g) (k := 0) (by have := st.lt; omega) ri.lt (by omega) (Nat.zero_le n) (by omega)
  have dn := st.down
  have pt : part s a c g = -(s.r g (c + 1)) := by unfold part; rw [if_neg (by omega)]
  rw [e, pt]
  show _ = s.r g 0 * size s a c + _
  grind
theorem Fz.still (h : Fz n g f s) {c a : Nat} (ri : Rise n g s c) (st : Stop g s c a) (z : s.r a 0 = 0) {i : Nat} (hi : i < g + 1) : s.S * (piv s a c).r i 0 = s.r i 0 * (piv s a c).S := by
  have e := h.ok.all (a := a) (c := c) (i := i) (k := 0) (by have := st.lt; omega) ri.lt hi (Nat.zero_le n) (by omega)
  rw [e, z]
  show _ = s.r i 0 * size s a c
  grind
def In (n : Nat) (s : St) (v : Nat) : Prop := ∃ j, j < n ∧ s.z j = v
theorem in_step (h : Fz n g f s) {c a : Nat} (ri : Rise n g s c) (st : Stop g s c a) : In n (piv s a c) a ∧ ¬ In n s a ∧ ¬ In n (piv s a c) (s.z c) ∧ (∀ v, v ≠ a → v ≠ s.z c → (In n (piv s a c) v ↔ In n s v)) := by
  have na : ¬ In n s a := fun ⟨j, hj, e⟩ => by
    have := (h.ok.zrow hj).2 c ri.lt
    rw [e] at this
    have := st.down
    have := h.ok.pos
    split at * <;> omega
  have za : s.z c ≠ a := fun e => na ⟨c, ri.lt, e⟩
  refine ⟨⟨c, ri.lt, if_pos rfl⟩, na, fun ⟨j, hj, e⟩ => ?_, fun v n1 n2 => ⟨fun ⟨j, hj, e⟩ => ?_, fun ⟨j, hj, e⟩ => ?_⟩⟩
  · have e : (if j = c then a else s.z j) = s.z c := e
    split at e
    · exact za e.symm
    · rename_i ne
      exact ne (h.ok.inj hj ri.lt e)
  · have e : (if j = c then a else s.z j) = v := e
    split at e
    · exact absurd e.symm n1
    · exact ⟨j, hj, e⟩
  · refine ⟨j, hj, ?_⟩
    show (if j = c then a else s.z j) = v
    rw [if_neg fun q => n2 (by rw [← e, q])]
    exact e
/-- the last condition seen from B, what it is seen of from A -/
theorem across {A B : St} (hA : Fz n g f A) (hB : Fz n g f B) {d : Nat} (hd : d < n) : sm n (fun c => B.r g (c + 1) * A.r (B.z c) (d + 1)) = B.S * A.r g (d + 1) := by
  have z : ∀ d, d < n → (sm n fun c => B.r g (c + 1) * A.r (B.z c) (d + 1)) - B.S * A.r g (d + 1) = 0 := fun d hd => hA.ok.indep (t := fun d => (sm n fun c => B.r g (c + 1) * A.r (B.z c) (d + 1)) - B.S * A.r g (d + 1)) (fun k => by
    have rA : ∀ i, i < g + 1 → A.S * f i (k + 1) = sm n fun j => A.r i (j + 1) * f (A.z j) (k + 1) := fun i hi => by
      have := hA.ok.row i hi (k + 1)
      unfold kap at this
      rw [if_neg (Nat.succ_ne_zero k)] at this
      omega
    have rB := hB.ok.row g (Nat.lt_succ_self g) (k + 1)
    unfold kap at rB
    rw [if_neg (Nat.succ_ne_zero k), Int.zero_add] at rB
    have e1 : A.S * (B.S * f g (k + 1)) = sm n fun d => (sm n fun c => B.r g (c + 1) * A.r (B.z c) (d + 1)) * f (A.z d) (k + 1) := by
      rw [rB, sm_mul, sm_congr (h := fun c => sm n fun d => B.r g (c + 1) * (A.r (B.z c) (d + 1) * f (A.z d) (k + 1)))]
      · rw [sm_comm]
        refine sm_congr fun d _ => ?_
        rw [Int.mul_comm, sm_mul]
        exact sm_congr fun c _ => by grind
      · intro c hc
        rw [← sm_mul, ← rA _ (hB.ok.zlt c hc)]
        grind
    have e2 : B.S * (A.S * f g (k + 1)) = sm n fun d => B.S * (A.r g (d + 1) * f (A.z d) (k + 1)) := by rw [rA g (Nat.lt_succ_self g), sm_mul]
    have e3 : (sm n fun i => ((sm n fun c => B.r g (c + 1) * A.r (B.z c) (i + 1)) - B.S * A.r g (i + 1)) * f (A.z i) (k + 1)) + (sm n fun d => B.S * (A.r g (d + 1) * f (A.z d) (k + 1))) = sm n fun d => (sm n fun c => B.r g (c + 1) * A.r (B.z c) (d + 1)) * f (A.z d) (k + 1) := by
      rw [sm_add]
      exact sm_congr fun d _ => by grind
    have : A.S * (B.S * f g (k + 1)) = B.S * (A.S * f g (k + 1)) := by grind
    omega) hd
  have := z d hd
  omega
theorem sm_pos {h : Nat → Int} : ∀ {n : Nat}, 0 < sm n h → ∃ i, i < n ∧ 0 < h i
  | 0, p => absurd p (by show ¬ (0 : Int) < 0; omega)
  | n + 1, p => by
    by_cases c : 0 < h n
    · exact ⟨n, Nat.lt_succ_self n, c⟩
    · obtain ⟨i, hi, q⟩ := sm_pos (n := n) (h := h) (by have : 0 < sm n h + h n := p; omega)
      exact ⟨i, by omega, q⟩
theorem most {P : Nat → Prop} : ∀ {m : Nat}, (∃ v, v < m ∧ P v) → ∃ t, t < m ∧ P t ∧ ∀ v, v < m → P v → v ≤ t
  | 0, ⟨_, h, _⟩ => absurd h (Nat.not_lt_zero _)
  | m + 1, ⟨v, hv, p⟩ => by
    by_cases c : P m
    · exact ⟨m, Nat.lt_succ_self m, c, fun v hv _ => by omega⟩
    · have ne : v ≠ m := fun e => c (by rw [← e]; exact p)
      obtain ⟨t, h1, h2, h3⟩ := most (P := P) (m := m) ⟨v, by omega, p⟩
      exact ⟨t, by omega, h2, fun v hv q => h3 v (by have : v ≠ m := fun e => c (by rw [← e]; exact q); omega) q⟩
theorem falls {P : Nat → Prop} {k : Nat} : ∀ {l : Nat}, k ≤ l → P k → ¬ P l → ∃ x, k ≤ x ∧ x < l ∧ P x ∧ ¬ P (x + 1)
  | 0, h, p, q => absurd (by have : k = 0 := by omega
                             rw [this] at p; exact p) q
  | l + 1, h, p, q => by
    by_cases e : k = l + 1
    · rw [e] at p; exact absurd p q
    · by_cases c : P l
      · exact ⟨l, by omega, by omega, c, q⟩
      · obtain ⟨x, h1, h2, h3, h4⟩ := falls (P := P) (l := l) (by omega) p c
        exact ⟨x, h1, by omega, h3, h4⟩
/-- no row of turns comes back to where it was -/
theorem bland (ch : Nat → St) {i j : Nat} (lt : i < j) (hz : ∀ k, i ≤ k → k ≤ j → Fz n g f (ch k)) (hs : ∀ k, i ≤ k → k < j → Stp n g (ch k) (ch (k + 1))) (back : ∀ c, c < n → (ch j).z c = (ch i).z c) : False := by
  -- heights do not fall
  have mono : ∀ k, i ≤ k → k ≤ j → ∀ l, k ≤ l → l ≤ j → (ch k).r g 0 * (ch l).S ≤ (ch l).r g 0 * (ch k).S := fun k hk hkj l => by
    induction l with
    | zero => intro h1 _; have : k = 0 := by omega
              subst this; exact Int.le_refl _
    | succ l ih =>
      intro h1 h2
      by_cases e : k = l + 1
      · rw [e]; exact Int.le_refl _
      · have h0 := ih (by omega) (by omega)
        obtain ⟨c, a, ri, st, e2⟩ := hs l (by omega) (by omega)
        have hf := hz l (by omega) (by omega)
        have ht := hf.height ri st
        rw [← e2] at ht
        have nn : 0 ≤ (ch l).r g (c + 1) * (ch l).r a 0 := Int.mul_nonneg (by have := ri.up; omega) (hf.feas a st.lt)
        have p1 := hf.ok.pos
        have p2 := (hz k hk hkj).ok.pos
        have p3 := (hz (l + 1) (by omega) h2).ok.pos
        have q1 : (ch k).r g 0 * (ch l).S * (ch (l + 1)).S ≤ (ch l).r g 0 * (ch k).S * (ch (l + 1)).S := Int.mul_le_mul_of_nonneg_right h0 (by omega)
        have q2 : (ch l).r g 0 * (ch (l + 1)).S ≤ (ch l).S * (ch (l + 1)).r g 0 := by omega
        have q3 : (ch l).r g 0 * (ch (l + 1)).S * (ch k).S ≤ (ch l).S * (ch (l + 1)).r g 0 * (ch k).S := Int.mul_le_mul_of_nonneg_right q2 (by omega)
        refine Int.le_of_mul_le_mul_right (a := (ch l).S) ?_ p1
        grind
  have uq := ((hz i (by omega) (by omega)).ok.uniq (hz j (by omega) (by omega)).ok back (Nat.lt_succ_self g)).2
  -- so all turns are still
  have deg : ∀ k c a, i ≤ k → k < j → Rise n g (ch k) c → Stop g (ch k) c a → ch (k + 1) = piv (ch k) a c → (ch k).r a 0 = 0 := fun k c a h1 h2 ri st e => by
    have hf := hz k h1 (by omega)
    have ht := hf.height ri st
    rw [← e] at ht
    have f0 := hf.feas a st.lt
    by_cases c0 : (ch k).r a 0 = 0
    · exact c0
    · exfalso
      have up : 0 < (ch k).r g (c + 1) * (ch k).r a 0 := Int.mul_pos ri.up (by omega)
      have m1 := mono i (by omega) (by omega) k h1 (by omega)
      have m2 := mono (k + 1) (by omega) (by omega) j (by omega) (by omega)
      have p0 := (hz i (by omega) (by omega)).ok.pos
      have p1 := hf.ok.pos
      have p2 := (hz (k + 1) (by omega) (by omega)).ok.pos
      have p3 := (hz j (by omega) (by omega)).ok.pos
      generalize (ch i).r g 0 = hi at *
      generalize (ch j).r g 0 = hj at *
      generalize (ch k).r g 0 = hk at *
      generalize (ch (k + 1)).r g 0 = hk1 at *
      generalize (ch i).S = Si at *
      generalize (ch j).S = Sj at *
      generalize (ch k).S = Sk at *
      generalize (ch (k + 1)).S = Sk1 at *
      generalize (ch k).r g (c + 1) * (ch k).r a 0 = d at *
      -- hi/Si ≤ hk/Sk < hk1/Sk1 ≤ hj/Sj = hi/Si
      have q1 : hi * Sk * (Sk1 * Sj) ≤ hk * Si * (Sk1 * Sj) := Int.mul_le_mul_of_nonneg_right m1 (Int.le_of_lt (Int.mul_pos p2 p3))
      have q2 : hk1 * Sj * (Si * Sk) ≤ hj * Sk1 * (Si * Sk) := Int.mul_le_mul_of_nonneg_right m2 (Int.le_of_lt (Int.mul_pos p0 p1))
      have q3 : (hk * Sk1) * (Si * Sj) < (Sk * hk1) * (Si * Sj) := Int.mul_lt_mul_of_pos_right (by omega) (Int.mul_pos p0 p3)
      have q4 : (Sj * hi) * (Sk * Sk1) = (Si * hj) * (Sk * Sk1) := by rw [uq]
      grind
  -- and the corner stays
  have stay : ∀ k, i ≤ k → k ≤ j → ∀ v, v < g + 1 → (ch i).S * (ch k).r v 0 = (ch i).r v 0 * (ch k).S := fun k => by
    induction k with
    | zero => intro h1 _ v _; have : i = 0 := by omega
              rw [this]; exact Int.mul_comm ..
    | succ k ih =>
      intro h1 h2 v hv
      by_cases e : i = k + 1
      · rw [e]; exact Int.mul_comm ..
      · have h0 := ih (by omega) (by omega) v hv
        obtain ⟨c, a, ri, st, e2⟩ := hs k (by omega) (by omega)
        have hf := hz k (by omega) (by omega)
        have s0 := hf.still ri st (deg k c a (by omega) (by omega) ri st e2) hv
        rw [← e2] at s0
        have p1 := hf.ok.pos
        refine Int.eq_of_mul_eq_mul_left (a := (ch k).S) (by omega) ?_
        have : (ch k).S * ((ch i).S * (ch (k + 1)).r v 0) = (ch i).S * ((ch k).S * (ch (k + 1)).r v 0) := by grind
        rw [this, s0]
        have : (ch i).S * ((ch k).r v 0 * (ch (k + 1)).S) = ((ch i).S * (ch k).r v 0) * (ch (k + 1)).S := by grind
        rw [this, h0]
        grind
  have zero : ∀ k v, i ≤ k → k ≤ j → v < g + 1 → (∃ l, i ≤ l ∧ l ≤ j ∧ In n (ch l) v) → (ch k).r v 0 = 0 := fun k v h1 h2 hv ⟨l, h3, h4, c, hc, e⟩ => by
    have z0 := ((hz l h3 h4).ok.zrow hc).1
    rw [e] at z0
    have s1 := stay l h3 h4 v hv
    have s2 := stay k h1 h2 v hv
    rw [z0, Int.mul_zero] at s1
    have p0 := (hz i (by omega) (by omega)).ok.pos
    have p1 := (hz l h3 h4).ok.pos
    have i0 : (ch i).r v 0 = 0 := (Int.mul_eq_zero.mp s1.symm).resolve_right (by omega)
    rw [i0, Int.zero_mul] at s2
    exact (Int.mul_eq_zero.mp s2).resolve_left (by omega)
  -- what comes and goes; the greatest of it
  obtain ⟨t, ht, ⟨k, l, k1, k2, l1, l2, tk, tl⟩, mt⟩ := most (P := fun v => ∃ k l, i ≤ k ∧ k ≤ j ∧ i ≤ l ∧ l ≤ j ∧ In n (ch k) v ∧ ¬ In n (ch l) v) (m := g + 1) (by
    obtain ⟨c, a, ri, st, e⟩ := hs i (by omega) lt
    have st2 := in_step (hz i (by omega) (by omega)) ri st
    exact ⟨a, by have := st.lt; omega, i + 1, i, by omega, by omega, by omega, by omega, by rw [e]; exact st2.1, st2.2.1⟩)
  have same : In n (ch i) t ↔ In n (ch j) t := ⟨fun ⟨c, hc, e⟩ => ⟨c, hc, by rw [back c hc]; exact e⟩, fun ⟨c, hc, e⟩ => ⟨c, hc, by rw [← back c hc]; exact e⟩⟩
  obtain ⟨B, b1, b2, bin, bout⟩ : ∃ B, i ≤ B ∧ B < j ∧ In n (ch B) t ∧ ¬ In n (ch (B + 1)) t := by
    by_cases kl : k ≤ l
    · obtain ⟨x, h1, h2, h3, h4⟩ := falls (P := fun x => In n (ch x) t) kl tk tl
      exact ⟨x, by omega, by omega, h3, h4⟩
    · by_cases ci : In n (ch i) t
      · obtain ⟨x, h1, h2, h3, h4⟩ := falls (P := fun x => In n (ch x) t) l1 ci tl
        exact ⟨x, by omega, by omega, h3, h4⟩
      · have cj : ¬ In n (ch j) t := fun q => ci (same.mpr q)
        obtain ⟨x, h1, h2, h3, h4⟩ := falls (P := fun x => In n (ch x) t) k2 tk cj
        exact ⟨x, by omega, by omega, h3, h4⟩
  obtain ⟨A, a1, a2, aout, ain⟩ : ∃ A, i ≤ A ∧ A < j ∧ ¬ In n (ch A) t ∧ In n (ch (A + 1)) t := by
    have nn : ∀ {x}, ¬ ¬ In n (ch x) t → In n (ch x) t := fun h => Classical.byContradiction h
    by_cases kl : l ≤ k
    · obtain ⟨x, h1, h2, h3, h4⟩ := falls (P := fun x => ¬ In n (ch x) t) kl tl (fun q => q tk)
      exact ⟨x, by omega, by omega, h3, nn h4⟩
    · by_cases ci : In n (ch i) t
      · obtain ⟨x, h1, h2, h3, h4⟩ := falls (P := fun x => ¬ In n (ch x) t) l2 tl (fun q => q (same.mp ci))
        exact ⟨x, by omega, by omega, h3, nn h4⟩
      · obtain ⟨x, h1, h2, h3, h4⟩ := falls (P := fun x => ¬ In n (ch x) t) k1 ci (fun q => q tk)
        exact ⟨x, by omega, by omega, h3, nn h4⟩
  -- at A the condition t stops, at B it is what rises
  have hA := hz A a1 (by omega)
  have hB := hz B b1 (by omega)
  obtain ⟨cA, aA, riA, stA, eA⟩ := hs A a1 a2
  obtain ⟨cB, aB, riB, stB, eB⟩ := hs B b1 b2
  have inA := in_step hA riA stA
  have inB := in_step hB riB stB
  rw [eA] at ain
  rw [eB] at bout
  obtain rfl : t = aA := Classical.byContradiction fun ne => by
    by_cases c : t = (ch A).z cA
    · rw [c] at ain; exact inA.2.2.1 ain
    · exact aout ((inA.2.2.2 t ne c).mp ain)
  have tB : t = (ch B).z cB := Classical.byContradiction fun ne => by
    by_cases c : t = aB
    · rw [c] at bin; exact inB.2.1 bin
    · exact bout ((inB.2.2.2 t c ne).mpr bin)
  have ac := across hA hB riA.lt
  have pos : 0 < sm n fun c => (ch B).r g (c + 1) * (ch A).r ((ch B).z c) (cA + 1) := by rw [ac]; exact Int.mul_pos hB.ok.pos riA.up
  obtain ⟨c, hc, hp⟩ := sm_pos pos
  have dA := stA.down
  by_cases e1 : c = cB
  · rw [e1, ← tB] at hp
    have := Int.mul_neg_of_pos_of_neg riB.up dA
    omega
  have ult := hB.zlt c hc
  have une : (ch B).z c ≠ t := fun e => e1 (hB.ok.inj hc riB.lt (by rw [e, tB]))
  have uB : In n (ch B) ((ch B).z c) := ⟨c, hc, rfl⟩
  have fick : ∃ k l, i ≤ k ∧ k ≤ j ∧ i ≤ l ∧ l ≤ j ∧ In n (ch k) ((ch B).z c) ∧ ¬ In n (ch l) ((ch B).z c) := by
    by_cases ua : In n (ch A) ((ch B).z c)
    · obtain ⟨d, hd, e⟩ := ua
      have zr := (hA.ok.zrow hd).2 cA riA.lt
      rw [e] at zr
      by_cases cd : cA = d
      · refine ⟨B, A + 1, b1, by omega, by omega, by omega, uB, ?_⟩
        rw [eA, ← e, ← cd]
        exact inA.2.2.1
      · rw [if_neg cd] at zr
        rw [zr, Int.mul_zero] at hp
        omega
    · exact ⟨B, A, b1, by omega, a1, by omega, uB, ua⟩
  have ule := mt _ (by omega) fick
  have gneg : ¬ 0 < (ch B).r g (c + 1) := fun q => by
    have := riB.least c hc q
    omega
  have both : (ch B).r g (c + 1) < 0 ∧ (ch A).r ((ch B).z c) (cA + 1) < 0 := by
    have : (ch B).r g (c + 1) ≠ 0 := fun e => by rw [e, Int.zero_mul] at hp; omega
    refine ⟨by omega, ?_⟩
    by_cases q : (ch A).r ((ch B).z c) (cA + 1) < 0
    · exact q
    · have := Int.mul_nonneg (show 0 ≤ -((ch B).r g (c + 1)) by omega) (show 0 ≤ (ch A).r ((ch B).z c) (cA + 1) by omega)
      rw [Int.neg_mul] at this
      omega
  have fi := stA.first _ ult both.2
  have z1 := zero A ((ch B).z c) a1 (by omega) (by omega) ⟨B, b1, by omega, uB⟩
  have z2 := deg A cA t a1 a2 riA stA eA
  have := fi.2 (by rw [z1, z2, Int.zero_mul, Int.zero_mul])
  omega
/-! how many turns -/
theorem pigeon : ∀ (M : Nat) (h : Nat → Nat), (∀ k, k ≤ M → h k < M) → ∃ i j, i < j ∧ j ≤ M ∧ h i = h j
  | 0, h, b => absurd (b 0 (Nat.le_refl 0)) (Nat.not_lt_zero _)
  | M + 1, h, b => by
    by_cases dup : ∃ i, i ≤ M ∧ h i = h (M + 1)
    · obtain ⟨i, hi, e⟩ := dup
      exact ⟨i, M + 1, by omega, Nat.le_refl _, e⟩
    · -- the values but that of the last, closed up
      have ne : ∀ i, i ≤ M → h i ≠ h (M + 1) := fun i hi e => dup ⟨i, hi, e⟩
      obtain ⟨i, j, h1, h2, h3⟩ := pigeon M (fun k => if h k < h (M + 1) then h k else h k - 1) (fun k hk => by
        have := b k (by omega)
        have := b (M + 1) (Nat.le_refl _)
        have := ne k hk
        show (if h k < h (M + 1) then h k else h k - 1) < M
        split <;> omega)
      refine ⟨i, j, h1, by omega, ?_⟩
      have n1 := ne i (by omega)
      have n2 := ne j (by omega)
      have h3 : (if h i < h (M + 1) then h i else h i - 1) = if h j < h (M + 1) then h j else h j - 1 := h3
      split at h3 <;> split at h3 <;> omega
def enc (m : Nat) (z : Nat → Nat) : Nat → Nat
  | 0 => 0
  | n + 1 => enc m z n * m + z n
theorem enc_lt {m : Nat} {z : Nat → Nat} : ∀ {n : Nat}, (∀ j, j < n → z j < m) → enc m z n < m ^ n
  | 0, _ => by show 0 < 1; omega
  | n + 1, h => by
    have i := enc_lt (n := n) fun j hj => h j (by omega)
    have l := h n (Nat.lt_succ_self n)
    show enc m z n * m + z n < m ^ n * m
    have : (enc m z n + 1) * m ≤ m ^ n * m := Nat.mul_le_mul_right m i
    rw [Nat.succ_mul] at this
    omega
theorem enc_inj {m : Nat} {z z' : Nat → Nat} : ∀ {n : Nat}, (∀ j, j < n → z j < m) → (∀ j, j < n → z' j < m) → enc m z n = enc m z' n → ∀ j, j < n → z j = z' j
  | 0, _, _, _, j, hj => absurd hj (Nat.not_lt_zero j)
  | n + 1, h, h', e, j, hj => by
    have l := h n (Nat.lt_succ_self n)
    have l' := h' n (Nat.lt_succ_self n)
    have e : enc m z n * m + z n = enc m z' n * m + z' n := e
    have e1 : enc m z n = enc m z' n := by
      have := congrArg (· / m) e
      simp only [Nat.mul_comm _ m, Nat.mul_add_div (show 0 < m by omega), Nat.div_eq_of_lt l, Nat.div_eq_of_lt l', Nat.add_zero] at this
      exact this
    have e2 : z n = z' n := by rw [e1] at e; omega
    by_cases c : j = n
    · rw [c]; exact e2
    · exact enc_inj (fun j hj => h j (by omega)) (fun j hj => h' j (by omega)) e1 j (by omega)
/-- a row of turns is no longer than that -/
theorem few (ch : Nat → St) (L : Nat) (h0 : Fz n g f (ch 0)) (hs : ∀ k, k < L → Stp n g (ch k) (ch (k + 1))) : L < g ^ n := by
  have hz : ∀ k, k ≤ L → Fz n g f (ch k) := fun k => by
    induction k with
    | zero => exact fun _ => h0
    | succ k ih => exact fun hk => (ih (by omega)).step (hs k (by omega))
  by_cases c : L < g ^ n
  · exact c
  · exfalso
    obtain ⟨i, j, h1, h2, e⟩ := pigeon (g ^ n) (fun k => enc g (ch k).z n) fun k hk => enc_lt (hz k (by omega)).zlt
    exact bland ch h1 (fun k _ hk => hz k (by omega)) (fun k _ hk => hs k (by omega)) fun c hc => (enc_inj (hz i (by omega)).zlt (hz j (by omega)).zlt e c hc).symm
end
end RSpx

/-! an own exception class over LookupError whose __init__ keeps one field -/
namespace RK
open PySem PySem.Spec PyProof.Rows L2
abbrev leTail : List Value := [.type "LookupError", .type "Exception", .type "BaseException", .type "object"]
structure LexC (K : PySem.W.Frag) (C : Addr) : Prop where
  ob : ∃ n1 n2 ns bases bm names subs ab co od s0 s1 s2 s3 s5, K.lookup C = some (excClassObj n1 n2 C ns bases bm true names subs ab co od s0 s1 s2 s3 s5 "LookupError.__new__") ∧ PySem.W.excTail leTail bm = true
  st : PySem.W.findIn K (.ref C) "__setattr__" = some (some (.builtin "object.__setattr__"))
  be : PySem.W.subIn K (.ref C) (.type "BaseException") = some true
  ty : PySem.W.typeIn K (.ref C) = some (.type "type")
  ke : PySem.W.keepIn K (.ref C) = true
section
open Builtin Builtin.ObjectAttr PySem.W PySem.Calls PySem.HandSPX
theorem lex_store {prog : Program} {w : World} {A : Around} {R : Result → Shared → Prop} {G : Heap} {gs : Array GenState} {dr : Drawn} {tn : Nat} {o5 : OsState} {K : Frag} {f : Str} {tk : Tok} {u : Value} {x C : Addr} {vs : Array Value} {cd : ClassData}
    (kin : K.In G) (gx : G.get? x = some { cls := .ref C, data := .fields vs }) (gc : clsIn K C = some cd) (ov : excOver K C leTail = true) (dict : cd.hasDict = true) (free : findIn K (.ref C) f = some none)
    (fin : ∀ G' tk' dx, (∀ b o, b ≠ x → G.get? b = some o → G'.get? b = some o) → G.objs.size ≤ dx → dx ≠ x → G'.get? x = some { cls := .ref C, dict := some dx, data := .fields vs } →
      G'.Ns1 dx (fun y => if y = f then some u else none) → R (.ok (.ret .none)) ⟨G', gs, dr, tk', o5⟩) :
    codeAny (model prog w) A (.call (.builtin "object.__setattr__") ⟨[.ref x, .str f tk, u], []⟩) R ⟨G, gs, dr, tn, o5⟩ := by
  have at_ : InstAt G x { cls := .ref C, data := .fields vs } C none := ⟨gx, rfl, rfl, trivial⟩
  refine osa_openX (r := none) F.store_LookupError kin at_ ov (by unfold takerIn; rw [free]; rfl) fun b => ?_
  have far : x ≠ G.objs.size := Nat.ne_of_lt (Heap.lt_size gx)
  have looks : Looks (model prog w) G (classData C) cd := looks_clsIn kin gc
  obtain ⟨c1, c2, c3, c4, c5, hd, c6, c7, c8, c9, c10⟩ := cd
  dsimp only at dict
  subst dict
  unfold storeInOwnDict ownDictForStores
  repeat (first | with_reducible refine PySem.HandSPX.store_in_new ?_ ?_ | with_reducible refine wpAny_loadPart_at gx ?_ | with_reducible refine looks.at ?_ | wp_step)
  · have put : ∀ F : Obj → Obj, ((G.push { cls := .type "dict", data := .dict #[] }).update x F).get? G.objs.size = some { cls := .type "dict", data := .dict #[] } := fun F => (Heap.get?_update_ne _ _ _ _ far.symm).trans (Heap.get?_push_size _ rfl)
    exact ⟨_, #[], _, put _, rfl, fun en hen => by simp at hen, fun _ => rfl⟩
  · intro G2 t2 names same
    have was := Heap.get?_push_of_some { cls := .type "dict", data := .dict #[] } gx
    have now_ := (same.2 x far).trans (Heap.get?_update_self _ was rfl)
    refine fin G2 t2 _ (fun b o nb gb => ?_) (Nat.le_refl _) far.symm now_ names
    have kept : ∀ F : Obj → Obj, ((G.push { cls := .type "dict", data := .dict #[] }).update x F).get? b = some o := fun F => (Heap.get?_update_ne _ _ _ _ nb).trans (Heap.get?_push_of_some _ gb)
    exact (same.2 b (Nat.ne_of_lt (Heap.lt_size gb))).trans (kept _)
end
section
variable {X : Cx} {pins : List (Addr × Obj)} {σ : L2.St} {H : Hp} {s : Shared} {a C : Addr} {f : Str} {y : V} {u : Value} {A : Around}
theorem LexC.over {K : PySem.W.Frag} (T : LexC K C) : PySem.W.excOver K C leTail = true ∧ ∃ cd, PySem.W.clsIn K C = some cd ∧ cd.hasDict = true := by
  obtain ⟨n1, n2, ns, bases, bm, names, subs, ab, co, od, s0, s1, s2, s3, s5, look, tail⟩ := T.ob
  have cl : PySem.W.clsIn K C = some { name := n1, bases := bases, mro := .ref C :: bm, ns := ns, qualname := n2, hasDict := true, slotNames := names, subclasses := subs, abstract := ab, collection := co, hasDel := false } := by
    unfold PySem.W.clsIn
    rw [look] <;> rfl
  refine ⟨?_, _, cl, rfl⟩
  unfold PySem.W.excOver
  rw [cl]
  show (C == C && PySem.W.excTail leTail bm) = true
  rw [tail, beq_self_eq_true]
  rfl
/-- self.f = y, the one field -/
theorem lst_one {Q : Unit → Shared → Prop} {E : Value → Shared → Prop} (T : LexC X.K C) (I : Inv X pins σ H s) (e : H a = some (exo a C none)) (free : PySem.W.findIn X.K (.ref C) f = some none) (ry : RelV y u)
    (go : ∀ dx s', H dx = none → dx ≠ a → Inv X pins σ (upd (upd H dx (exd dx [(f, y)])) a (exo a C (some dx))) s' → Q () s') : wpAny (model X.prog X.w) A (setAttr (.ref a) f u) Q E s := by
  obtain ⟨ov, cd, cl, dict⟩ := T.over
  obtain ⟨t1, ga⟩ := exo_at I.hok e
  obtain ⟨G, gs, dr, tn, o5⟩ := s
  refine PySem.W.set_plain I.kIn (ox := { cls := .ref C, dict := none, data := .fields #[.ref t1, .none, .none, .none, .bool false, .none] }) (od := none) ⟨ga, rfl, rfl, trivial⟩ T.st ?_
  refine lex_store I.kIn ga cl ov dict free fun G' tk' dx kept new ne gx names => ?_
  have n0 : H dx = none := I.hok.fresh new
  have apart : ∀ {b : Addr} {o : Obj}, G.get? b = some o → b ≠ dx := fun {b o} q => Nat.ne_of_lt (Nat.lt_of_lt_of_le (Heap.lt_size q) new)
  have other : ∀ {b : Addr}, H b = none → b ≠ a := fun {b} n z => by rw [z, e] at n; cases n
  have stays : ∀ {b : Addr} {o : HO}, H b = some o → exo a C none ≠ o → upd (upd H dx (exd dx [(f, y)])) a (exo a C (some dx)) b = some o := fun {b o} q d => by
    rw [upd_ne (at_ne e q d), upd_ne (ne_of_none q n0)]
    exact q
  have change : Un X.fs [] H (upd (upd H dx (exd dx [(f, y)])) a (exo a C (some dx))) G G' := by
    refine ⟨fun b o q n _ _ => kept b o (other n) q, fun b o q n _ _ => ⟨o.slots, kept b o (other n) q⟩, fun b o q n _ => ?_, fun b o q _ => ?_, fun b xs q => stays q exo_tup, fun b o v q => stays q exo_frz, fun b ps q => ⟨#[], ?_⟩⟩
    · rw [upd_ne (other n), upd_ne (apart q)]
      exact n
    · by_cases z : b = a
      · exact ⟨_, z ▸ gx⟩
      · exact ⟨o, kept b o z q⟩
    · rw [stays q exo_tbl, Array.append_empty]
  refine go dx _ n0 ne (I.un (t' := tk') change fun b o q => ?_)
  by_cases za : b = a
  · subst za
    rw [upd_same] at q
    cases q
    exact exo_ok gx
  rw [upd_ne za] at q
  by_cases zd : b = dx
  · subst zd
    rw [upd_same] at q
    cases q
    exact exd_ok names (relO_put (fs := []) ry fun _ => trivial)
  rw [upd_ne zd] at q
  refine (I.hok b o q).stay (fun c v hc z => kept c v ?_ z) (fun c hc => stays hc exo_own) (fun c xs hc => stays hc exo_tup)
  rcases hc with rfl | hc
  · exact za
  · exact at_ne e hc exo_own
/-- self.f = y in such a class's __init__ -/
def tLst (K : PySem.W.Frag) (f : Str) (to te : TE) : TS := fun D σ H => te σ H fun y H1 => to σ H1 fun x H2 => ∃ a C : Addr, x = .ref a ∧ LexC K C ∧ PySem.W.findIn K (.ref C) f = some none ∧ H2 a = some (exo a C none) ∧
  ∀ dx, H2 dx = none → dx ≠ a → D.nx σ (upd (upd H2 dx (exd dx [(f, y)])) a (exo a C (some dx)))
theorem ps_lst {o e : Expr} {p' pos : Pos} {to te : TE} (ho : PE X o to) (he : PE X e te) (hs : swapsWith e (some (.Attribute o f p')) pos.line X.env = pure false := by rfl) : PS X (.Assign [.Attribute o f p'] e pos) (tLst X.K f to te) := by
  refine ⟨fun pins s σ H D I h => plainObj_wpAny_Assign_Attribute (thn (he.run pins s σ H _ I h) fun v s1 ⟨y, H1, I1, r1, q1⟩ => thn (ho.run pins s1 σ H1 _ I1 q1) fun u s2 ⟨x, H2, I2, r2, a, C, ex, T, free, ea, q⟩ => ?_) hs⟩
  subst ex
  obtain rfl : u = Value.ref a := r2
  exact lst_one T I2 ea free r1 fun dx s' n ne J => ⟨σ, _, J, q dx n ne⟩
end
section
variable {X : Cx} {e : Expr} {es : List Expr} {ta : TA} {p pos : Pos}
/-- C(e, ..) -/
theorem pmk_lex {CX : CXT} {x : Str} {C fI : Addr} {k : Nat} {fd : FuncData} {ps : List Str} {sp : Sp} {ds : List Value} {dvs : List V} (T : LexC X.K C) (ini : PySem.W.findIn X.K (.ref C) "__init__" = some (some (.ref fI))) (isf : PySem.W.typeIn X.K (.ref fI) = some (.type "function"))
    (F : FnOk X.prog X.w X.K X.mg X.base CX k fI fd ps sp) (room : Room (k + 1) X.A) (bnd : Binds X.K fd ps ds) (dv : Vals dvs ds) (pass : Passes CX X (fun _ _ _ => False)) (glob : Gl X x) (named : X.mg x = some (.ref C)) (ha : PA X (e :: es) ta)
    (nodebug : (x == ("__debug__" : Str)) = false := by decide) (stars : starEach (e :: es) X.env = (false, eval e X.env) :: starEach es X.env := by rfl) (plain : (backTo pos (starEach es X.env)).any (·.1) = false := by rfl) :
    PMk X (.Call (.Name x p) (e :: es) [] pos) (tMkO C sp dvs ta) := fun pins s σ H Q I h => by
  obtain ⟨n1, n2, ns, bases, bm, names, subs, ab, co, od, s0, s1, s2, s3, s5, look, tail⟩ := T.ob
  refine wpAny_Call_Name_kw (ld_glob I glob named ?_ nodebug)
  refine PySem.W.callWith_K (h₀ := X.base) I.ok.mod.kin T.ke (thn (ha.run pos pins s σ H _ I h) fun us sA ⟨vs, H1, I1, rel, _, go⟩ => ⟨I1.kIn, ?_⟩) stars plain
  show wpAny _ _ (call (.ref C) us) _ _ _
  obtain ⟨G, gs, dr, tn, o5⟩ := sA
  generalize hE : G.objs.size + 1 = E at *
  have far : G.objs.size ≤ E := by omega
  have nE : H1 E = none := I1.hok.fresh far
  have body := go E nE
  have more : ∀ b o, G.get? b = some o → ((G.push (PySem.W.kdv_tup us)).push (PySem.HandSPX.excO C G.objs.size)).get? b = some o := fun b o q => Heap.get?_push_of_some _ (Heap.get?_push_of_some _ q)
  have laid : ((G.push (PySem.W.kdv_tup us)).push (PySem.HandSPX.excO C G.objs.size)).get? E = some (PySem.HandSPX.excO C G.objs.size) := by
    subst hE
    heap_get
  have I2 := I1.laid (t' := tn) (a := E) (o := exo E C none) (h' := (G.push (PySem.W.kdv_tup us)).push (PySem.HandSPX.excO C G.objs.size)) more far (exo_ok laid)
  have args : Vals (V.ref E :: (vs ++ dvs)) (Value.ref E :: (us ++ ds)) := .cons rfl (rel.append dv)
  have many : (Value.ref E :: us ++ ds).length = ps.length := (args.length.symm.trans (F.len _ _ _ _ body)).symm ▸ rfl
  have few : us.length ≤ sizeLine := by
    have := Paired.length rel
    rw [sizeLine_eq]
    omega
  subst hE
  have run := F.run _ X.stack _ _ ⟨Value.ref (G.objs.size + 1) :: us, []⟩ (Value.ref (G.objs.size + 1) :: (us ++ ds)) _ _ (fun _ _ _ => False) (room.make C us []) (I2.env0.make C us []) (bnd _ (Value.ref (G.objs.size + 1) :: us) I2.kIn many) args body
  refine wpAny_call (PySem.HandSPX.call_own PySem.F.excBase_LookupError (fun Y => PySem.W.excTail_contains Y bm tail) (I1.kIn _ _ look) (PySem.W.looks_findIn I1.kIn ini) (fun self => PySem.W.bind_fn I1.kIn self isf) few (codeAny_mono run fun r sB back => ?_))
  match r, back with
  | .error er, back => exact pass pins σ _ _ er sB I2 back
  | .ok (.ret u), ⟨v, H2, osB, bare, un, hok, ru, ev, d, fs, ea, ed, nd, q⟩ =>
    subst ev
    obtain ⟨G2, gs2, dr2, tn2, o52⟩ := sB
    exact ⟨ru, mk_end (raises_own T.be T.ty) I1 far more un hok osB bare ea ed nd q⟩
end
/-- the class from facts that are looked up -/
def lexS (C : Addr) (cd : ClassData) (sl : Array (Option Value)) : Bool := match cd.mro, sl.toList with
  | .ref C' :: bm, [_, _, _, _, some (.builtin n), _] => decide (C' = C) && decide (n = "LookupError.__new__") && !cd.hasDel && cd.hasDict && PySem.W.excTail leTail bm
  | _, _ => false
theorem lex_mk {K : PySem.W.Frag} {C : Addr} {dd : Option Addr} {cd : ClassData} {sl : Array (Option Value)} (l : K.lookup C = some ⟨.type "type", dd, .cls cd, sl⟩) (y : lexS C cd sl = true)
    (sa : PySem.W.findIn K (.ref C) "__setattr__" = some (some (.builtin "object.__setattr__"))) (ex : PySem.W.subIn K (.ref C) (.type "BaseException") = some true) (ty : PySem.W.typeIn K (.ref C) = some (.type "type")) (kc : PySem.W.keepIn K (.ref C) = true) : LexC K C := by
  refine ⟨?_, sa, ex, ty, kc⟩
  unfold lexS at y
  split at y
  · rename_i C' bm k0 k1 k2 k3 n k5 em es
    obtain ⟨ls⟩ := sl
    dsimp only at es
    subst es
    obtain ⟨nm, bs, mro, ns, qn, hd, sn, sub, ab, col, del⟩ := cd
    dsimp only at em y
    subst em
    obtain ⟨y, rv⟩ := Bool.and_eq_true_iff.mp y
    obtain ⟨y, y1⟩ := Bool.and_eq_true_iff.mp y
    obtain ⟨y, y2⟩ := Bool.and_eq_true_iff.mp y
    obtain ⟨y3, y4⟩ := Bool.and_eq_true_iff.mp y
    obtain rfl := of_decide_eq_true y3
    obtain rfl := of_decide_eq_true y4
    cases hd with
    | false => cases y1
    | true =>
      cases del with
      | true => cases y2
      | false => exact ⟨nm, qn, ns, bs, bm, sn, sub, ab, col, dd, k0, k1, k2, k3, k5, l, rv⟩
  · cases y
end RK

/-! dict(zip(a text, a list)): a zip whose tuple is out, over iterators of any kind -/
namespace RK
open PySem PySem.Spec PyProof.Rows L2 RZ
open Sem (wp)
section
variable {prog : Program} {w : World} {A : Around} {E : Value → Shared → Prop} {s : Shared} {z TI TO i1 i2 T : Addr} {p1 p2 : List Addr} {n1 n2 i : Nat} {P1 P2 : Nat → Value → Prop} {S1 S2 : Nat → Heap → Prop} {f : Bool} {oT : Obj}
theorem zheld_item {Q : Value → Shared → Prop} (S : ZipSep2 z TI TO i1 i2 p1 p2) (D1 : Draws prog w A i1 p1 n1 P1 S1) (D2 : Draws prog w A i2 p2 n2 P2 S2) (hz : IsZipHeld s.heap z TI TO T f) (hT : s.heap.get? T = some oT) (hTI : IsTupOf2 s.heap TI (.ref i1) (.ref i2)) (st1 : S1 i s.heap) (st2 : S2 i s.heap) (l1 : i < n1) (l2 : i < n2)
    (hQ : ∀ x y g tk, P1 i x → P2 i y → IsZipHeld g z TI TO T true → S1 (i + 1) g → S2 (i + 1) g → IsTupOf2 g s.heap.objs.size x y → g.objs.size = s.heap.objs.size + 1 → (∀ c o, c ≠ z → c ≠ i1 → c ≠ i2 → s.heap.get? c = some o → g.get? c = some o) → Q (.ref s.heap.objs.size) { s with heap := g, toks := tk }) :
    wpAny (model prog w) A (Builtin.«zip.__next__» ⟨[.ref z], []⟩) (fun fin s' => ∃ v, fin = .done (.ret v) ∧ Q v s') E s := by
  obtain ⟨hp, gl, dd, tk0, os⟩ := s
  show wpAny _ _ (field (.ref z) 2 >>= _) _ _ _; refine wpAny_bind (wpAny_field hz rfl (x := .bool false) rfl ?_); show wpAny _ _ (field (.ref z) 3 >>= _) _ _ _
  refine wpAny_bind (wpAny_field hz rfl (x := .ref TI) rfl ?_); refine wpAny_bind (wpAny_seqItems hTI rfl ?_); show wpAny _ _ (Builtin.SmallTypes.ownedTupleIsFree (.ref z) >>= _) _ _ _
  refine wpAny_bind (wpAny_tupleHeld_zip hz hT fun g1 zg1 sg1 => ?_)
  replace sg1 : Heap.SameBut z hp g1 := sg1
  simp only [Bool.false_eq_true, if_false]; refine wpAny_bind ?_; rw [← Array.forIn_toList]; simp only [List.forIn_cons, List.forIn_nil]
  refine wpAny_bind (wpAny_bind (wpAny_holding ?_)); show wpAny _ _ (Builtin.SmallTypes.nextOf (.ref i1) >>= _) _ _ ⟨g1, gl, dd, tk0, os⟩
  refine wpAny_bind (D1.item i _ _ _ l1 (D1.over st1 sg1 S.zf1) fun x g2 tk1 px q1 sg2 => wpAny_pure (wpAny_pure ?_))
  replace sg2 : Heap.SameBut i1 g1 g2 := sg2
  refine wpAny_bind (wpAny_bind (wpAny_holding ?_)); show wpAny _ _ (Builtin.SmallTypes.nextOf (.ref i2) >>= _) _ _ ⟨g2, gl, dd, tk1, os⟩
  refine wpAny_bind (D2.item i _ _ _ l2 (D2.over (D2.over st2 sg1 S.zf2) sg2 S.sep1_2) fun y g3 tk2 py q2 sg3 => wpAny_pure (wpAny_pure (wpAny_pure ?_)))
  replace sg3 : Heap.SameBut i2 g2 g3 := sg3
  show wpAny _ _ (newTuple [x, y] >>= _) _ _ ⟨g3, gl, dd, tk2, os⟩; refine wpAny_bind (wpAny_newTuple (wpAny_pure ⟨_, rfl, ?_⟩))
  have sz : g3.objs.size = hp.objs.size := by rw [sg3.1, sg2.1, sg1.1]
  have zg3 : IsZipHeld g3 z TI TO T true := sg3.extBut _ _ S.zi2 (sg2.extBut _ _ S.zi1 zg1)
  have kp : ∀ c o, c ≠ z → c ≠ i1 → c ≠ i2 → hp.get? c = some o → g3.get? c = some o := fun c o c1 c2 c3 e => sg3.extBut _ _ c3 (sg2.extBut _ _ c2 (sg1.extBut _ _ c1 e))
  have q1' : S1 (i + 1) g3 := D1.over q1 sg3 S.sep2_1
  have up : ∀ b o, g3.get? b = some o → (g3.push { cls := .type "tuple", data := .seq #[x, y] }).get? b = some o := fun b o e => Heap.get?_push_of_some _ e
  have ht : IsTupOf2 (g3.push { cls := .type "tuple", data := .seq #[x, y] }) g3.objs.size x y := Heap.get?_push_size _ rfl
  have s4 : (g3.push { cls := .type "tuple", data := .seq #[x, y] }).objs.size = g3.objs.size + 1 := Heap.size_push ..
  show Q (.ref g3.objs.size) _
  rw [sz] at ht s4 ⊢
  exact hQ x y _ _ px py (up _ _ zg3) (D1.frame _ _ _ q1' fun b _ o e => up b o e) (D2.frame _ _ _ q2 fun b _ o e => up b o e) ht s4 fun c o c1 c2 c3 e => up c o (kp c o c1 c2 c3 e)
theorem zheld_end {Q : Fin → Shared → Prop} (S : ZipSep2 z TI TO i1 i2 p1 p2) (D1 : Draws prog w A i1 p1 n1 P1 S1) (D2 : Draws prog w A i2 p2 n2 P2 S2) (hz : IsZipHeld s.heap z TI TO T f) (hT : s.heap.get? T = some oT) (hTI : IsTupOf2 s.heap TI (.ref i1) (.ref i2)) (st1 : S1 i s.heap) (st2 : S2 i s.heap) (l1 : i ≤ n1) (l2 : i ≤ n2) (he : i = n1 ∨ i = n2)
    (hE : ∀ g tk e, (∀ c o, c ≠ z → c ≠ i1 → c ≠ i2 → s.heap.get? c = some o → g.get? c = some o) → (∃ o, g.get? e = some o ∧ o.cls = .type "StopIteration") → E (.ref e) { s with heap := g, toks := tk }) :
    wpAny (model prog w) A (Builtin.«zip.__next__» ⟨[.ref z], []⟩) Q E s := by
  obtain ⟨hp, gl, dd, tk0, os⟩ := s
  show wpAny _ _ (field (.ref z) 2 >>= _) _ _ _; refine wpAny_bind (wpAny_field hz rfl (x := .bool false) rfl ?_); show wpAny _ _ (field (.ref z) 3 >>= _) _ _ _
  refine wpAny_bind (wpAny_field hz rfl (x := .ref TI) rfl ?_); refine wpAny_bind (wpAny_seqItems hTI rfl ?_); show wpAny _ _ (Builtin.SmallTypes.ownedTupleIsFree (.ref z) >>= _) _ _ _
  refine wpAny_bind (wpAny_tupleHeld_zip hz hT fun g1 zg1 sg1 => ?_)
  replace sg1 : Heap.SameBut z hp g1 := sg1
  simp only [Bool.false_eq_true, if_false]; refine wpAny_bind ?_; rw [← Array.forIn_toList]; simp only [List.forIn_cons, List.forIn_nil]
  refine wpAny_bind (wpAny_bind (wpAny_holding ?_)); show wpAny _ _ (Builtin.SmallTypes.nextOf (.ref i1) >>= _) _ _ ⟨g1, gl, dd, tk0, os⟩
  by_cases c1 : i < n1
  · refine wpAny_bind (D1.item i _ _ _ c1 (D1.over st1 sg1 S.zf1) fun x g2 tk1 px q1 sg2 => wpAny_pure (wpAny_pure ?_))
    replace sg2 : Heap.SameBut i1 g1 g2 := sg2
    refine wpAny_bind (wpAny_bind (wpAny_holding ?_)); show wpAny _ _ (Builtin.SmallTypes.nextOf (.ref i2) >>= _) _ _ ⟨g2, gl, dd, tk1, os⟩
    obtain rfl : i = n2 := by omega
    refine wpAny_bind (D2.done ⟨g2, gl, dd, tk1, os⟩ _ _ (D2.over (D2.over st2 sg1 S.zf2) sg2 S.sep1_2) fun g3 e sg3 ho => ?_)
    exact hE g3 tk1 e (fun c o c1 c2 c3 q => sg3 _ _ c3 (sg2.extBut _ _ c2 (sg1.extBut _ _ c1 q))) ho
  · obtain rfl : i = n1 := by omega
    refine wpAny_bind (D1.done ⟨g1, gl, dd, tk0, os⟩ _ _ (D1.over st1 sg1 S.zf1) fun g3 e sg3 ho => ?_)
    exact hE g3 tk0 e (fun c o c1 c2 _ q => sg3 _ _ c2 (sg1.extBut _ _ c1 q)) ho
theorem zheld_next {Q : Option Value → Shared → Prop} (S : ZipSep2 z TI TO i1 i2 p1 p2) (D1 : Draws prog w A.in1 i1 p1 n1 P1 S1) (D2 : Draws prog w A.in1 i2 p2 n2 P2 S2) (hz : IsZipHeld s.heap z TI TO T f) (hT : s.heap.get? T = some oT) (hTI : IsTupOf2 s.heap TI (.ref i1) (.ref i2)) (st1 : S1 i s.heap) (st2 : S2 i s.heap) (l1 : i < n1) (l2 : i < n2)
    (hQ : ∀ x y g tk, P1 i x → P2 i y → IsZipHeld g z TI TO T true → S1 (i + 1) g → S2 (i + 1) g → IsTupOf2 g s.heap.objs.size x y → g.objs.size = s.heap.objs.size + 1 → (∀ c o, c ≠ z → c ≠ i1 → c ≠ i2 → s.heap.get? c = some o → g.get? c = some o) → Q (some (.ref s.heap.objs.size)) { s with heap := g, toks := tk }) :
    wpAny (model prog w) A (pyNext (.ref z)) Q E s := by
  have ty : s.TypeIs (.ref z) "zip" := ⟨_, hz, rfl⟩
  have it := zheld_item (E := fun v s' => E v s') (Q := fun v s' => Q (some v) s') S D1 D2 hz hT hTI st1 st2 l1 l2 hQ
  unfold pyNext
  refine wpAny_bind (wpAny_attempt (wpAny_callSpecial?_slot (name := Str.ofString "__next__") ty F.slot_zip_next (wpAny_call_entry F.slot_zip_next ty F.entry_zip_next ?_ (F.args_zip_next_1 _))))
  exact zheld_item S D1 D2 hz hT hTI st1 st2 l1 l2 fun x y g tk a b c d e h k l => wpAny_pure (hQ x y g tk a b c d e h k l)
theorem zheld_stop {Q : Option Value → Shared → Prop} (S : ZipSep2 z TI TO i1 i2 p1 p2) (D1 : Draws prog w A.in1 i1 p1 n1 P1 S1) (D2 : Draws prog w A.in1 i2 p2 n2 P2 S2) (hz : IsZipHeld s.heap z TI TO T f) (hT : s.heap.get? T = some oT) (hTI : IsTupOf2 s.heap TI (.ref i1) (.ref i2)) (st1 : S1 i s.heap) (st2 : S2 i s.heap) (l1 : i ≤ n1) (l2 : i ≤ n2) (he : i = n1 ∨ i = n2)
    (hQ : ∀ g tk, (∀ c o, c ≠ z → c ≠ i1 → c ≠ i2 → s.heap.get? c = some o → g.get? c = some o) → Q none { s with heap := g, toks := tk }) : wpAny (model prog w) A (pyNext (.ref z)) Q E s := by
  have ty : s.TypeIs (.ref z) "zip" := ⟨_, hz, rfl⟩
  unfold pyNext
  refine wpAny_bind (wpAny_attempt (wpAny_callSpecial?_slot (name := Str.ofString "__next__") ty F.slot_zip_next (wpAny_call_entry F.slot_zip_next ty F.entry_zip_next (zheld_end S D1 D2 hz hT hTI st1 st2 l1 l2 he fun g tk e k ⟨o, ho, hc⟩ => ?_) (F.args_zip_next_1 _))))
  exact wpAny_bind (wpAny_isInstance (T := "StopIteration") (b := true) ⟨o, ho, hc⟩ isSubtype_stop (wpAny_pure (hQ _ _ k)))
end
/-- zip over two iterators of any kind, as the argument of dict() -/
theorem pairArg_zip {prog : Program} {w : World} {z TI TO i1 i2 : Addr} {p1 p2 : List Addr} {n1 n2 : Nat} {P1 P2 : Nat → Value → Prop} {S1 S2 : Nat → Heap → Prop} (S : ZipSep2 z TI TO i1 i2 p1 p2)
    (D1 : ∀ A : Around, A.handled = none → Draws prog w A i1 p1 n1 P1 S1) (D2 : ∀ A : Around, A.handled = none → Draws prog w A i2 p2 n2 P2 S2)
    (t1 : ∀ h, S1 0 h → ∀ b ∈ p1, ∃ o, h.get? b = some o) (t2 : ∀ h, S2 0 h → ∀ b ∈ p2, ∃ o, h.get? b = some o)
    (k1 : ∀ h h', S1 0 h → (∀ b o, h.get? b = some o → h'.get? b = some o) → S1 0 h') (k2 : ∀ h h', S2 0 h → (∀ b o, h.get? b = some o → h'.get? b = some o) → S2 0 h') :
    PairArg prog w "zip" z (z :: TI :: TO :: (p1 ++ p2)) [z, TO, i1, i2] (min n1 n2) (fun i k v => P1 i k ∧ P2 i v)
      (fun h => IsZip h z TI TO .none ∧ IsTupOf2 h TI (.ref i1) (.ref i2) ∧ (∃ a b, IsTupOf2 h TO a b) ∧ S1 0 h ∧ S2 0 h) where
  type := fun s ok => ⟨_, ok.1, rfl⟩
  notDict := by decide
  keep := fun h h' ⟨a, b, ⟨x, y, c⟩, d, e⟩ hk => ⟨hk _ _ a, hk _ _ b, ⟨x, y, hk _ _ c⟩, k1 _ _ d hk, k2 _ _ e hk⟩
  there := fun h ⟨a, b, ⟨x, y, c⟩, d, e⟩ q hq => by
    rcases List.mem_cons.mp hq with rfl | hq
    · exact ⟨_, a⟩
    rcases List.mem_cons.mp hq with rfl | hq
    · exact ⟨_, b⟩
    rcases List.mem_cons.mp hq with rfl | hq
    · exact ⟨_, c⟩
    rcases List.mem_append.mp hq with hq | hq
    · exact t1 h d q hq
    · exact t2 h e q hq
  sub := fun b hb => by
    have m1 := S.mem1
    have m2 := S.mem2
    simp only [List.mem_cons, List.not_mem_nil, or_false, List.mem_append] at hb ⊢
    rcases hb with rfl | rfl | rfl | rfl
    · exact .inl rfl
    · exact .inr (.inr (.inl rfl))
    · exact .inr (.inr (.inr (.inl m1)))
    · exact .inr (.inr (.inr (.inr m2)))
  noKeys := fun A s Q E hA ok h => getAttrOr_miss_zip ok.1 rfl rfl rfl zip_no_keys (by decide +kernel) hA h
  iter := fun A s d Q E hA ⟨hz, hTI, ⟨a, b, hTO⟩, h1, h2⟩ hd hdf h => by
    simp only [List.mem_cons, List.mem_append, not_or] at hdf
    obtain ⟨dz, dTI, dTO, d1, d2⟩ := hdf
    have di1 : d ≠ i1 := fun e => d1 (e ▸ S.mem1)
    have di2 : d ≠ i2 := fun e => d2 (e ▸ S.mem2)
    have E1 := D1 A.in1 hA
    have E2 := D2 A.in1 hA
    refine wpAny_pyIter_zip hz (h z [z, TO, i1, i2] (fun i h => IsTupOf2 h TI (.ref i1) (.ref i2) ∧ S1 i h ∧ S2 i h ∧ ((IsZip h z TI TO .none ∧ ∃ a b, IsTupOf2 h TO a b) ∨ ∃ T f oT, IsZipHeld h z TI TO T f ∧ h.get? T = some oT ∧ T ≠ z ∧ T ≠ i1 ∧ T ≠ i2 ∧ T ≠ d)) s.heap s.toks ?_ ⟨hTI, h1, h2, .inl ⟨hz, a, b, hTO⟩⟩ (fun _ _ e => e) fun b hb => .inl hb)
    exact {
      off := fun hm => by
        simp only [List.mem_cons, List.not_mem_nil, or_false] at hm
        exact hm.elim dz fun hm => hm.elim dTO fun hm => hm.elim di1 di2
      frame := fun i g g' ⟨a, b, c, q⟩ hk => by
        refine ⟨hk _ _ (Ne.symm dTI) a, E1.frame _ _ _ b fun x hx o e => hk x o (fun r => d1 (r ▸ hx)) e, E2.frame _ _ _ c fun x hx o e => hk x o (fun r => d2 (r ▸ hx)) e, ?_⟩
        rcases q with ⟨a, x, y, b⟩ | ⟨T, f, oT, a, b, r1, r2, r3, r4⟩
        · exact .inl ⟨hk _ _ (Ne.symm dz) a, x, y, hk _ _ (Ne.symm dTO) b⟩
        · exact .inr ⟨T, f, oT, hk _ _ (Ne.symm dz) a, hk _ _ r4 b, r1, r2, r3, r4⟩
      item := fun i s₁ Q₁ E₁ hi ⟨a, b, c, q⟩ hds hQ => by
        have lt : ∀ {c o}, s₁.heap.get? c = some o → s₁.heap.objs.size ≠ c := fun e => Nat.ne_of_gt (Heap.lt_size e)
        have m1 : s₁.heap.objs.size ≠ i1 := let ⟨_, e⟩ := E1.live _ _ b; lt e
        have m2 : s₁.heap.objs.size ≠ i2 := let ⟨_, e⟩ := E2.live _ _ c; lt e
        have g1 : i < n1 := by omega
        have g2 : i < n2 := by omega
        rcases q with ⟨e, x0, y0, e2⟩ | ⟨T, f, oT, e, e2, r1, r2, r3, r4⟩
        · refine wpAny_pyNext_zipD2_item S E1 E2 e a e2 b c g1 g2 fun x y g tk px py q1 q2 q3 q4 q5 q6 hk => ?_
          exact hQ s₁.heap.objs.size x y g tk ⟨px, py⟩ (.inl ⟨_, q5, rfl, _, rfl⟩) ⟨hk _ _ S.TIz S.TITO S.TIi1 S.TIi2 a, q3, q4, .inr ⟨_, false, _, q1, q5, lt e, m1, m2, Nat.ne_of_gt hds⟩⟩ fun c o hc r => hk c o (fun x => hc (by simp [x])) (fun x => hc (by simp [x])) (fun x => hc (by simp [x])) (fun x => hc (by simp [x])) r
        · refine zheld_next S E1 E2 e e2 a b c g1 g2 fun x y g tk px py q1 q3 q4 q5 q6 hk => ?_
          exact hQ s₁.heap.objs.size x y g tk ⟨px, py⟩ (.inl ⟨_, q5, rfl, _, rfl⟩) ⟨hk _ _ S.TIz S.TIi1 S.TIi2 a, q3, q4, .inr ⟨T, true, oT, q1, hk _ _ r1 r2 r3 e2, r1, r2, r3, r4⟩⟩ fun c o hc r => hk c o (fun x => hc (by simp [x])) (fun x => hc (by simp [x])) (fun x => hc (by simp [x])) r
      done := fun s₁ Q₁ E₁ ⟨a, b, c, q⟩ hQ => by
        rcases q with ⟨e, x0, y0, e2⟩ | ⟨T, f, oT, e, e2, r1, r2, r3, r4⟩
        · exact wpAny_pyNext_zipD2_end S E1 E2 e a e2 b c (by omega) (by omega) (by omega) fun g tk hk => hQ g tk fun c o hc r => hk c o (fun x => hc (by simp [x])) (fun x => hc (by simp [x])) (fun x => hc (by simp [x])) (fun x => hc (by simp [x])) r
        · exact zheld_stop S E1 E2 e e2 a b c (by omega) (by omega) (by omega) fun g tk hk => hQ g tk fun c o hc r => hk c o (fun x => hc (by simp [x])) (fun x => hc (by simp [x])) (fun x => hc (by simp [x])) r }
end RK
namespace RK
open PySem PySem.Spec PyProof.Rows L2 RZ
theorem cutTo (xs : List V) {k : Nat} (h : k ≤ xs.length) : cutV xs none (some (k : Int)) = xs.take k := by
  unfold cutV
  rw [HT.sIx_none, HT.sIx_nat, List.drop_zero, Nat.sub_zero, Nat.min_eq_left h]
/-- the entries of dict(zip(x, ys)) -/
def zipKV (cs : List Nat) (ys : List V) : List (Key × V) := (cs.zip ys).map fun p => (Sum.inr (⟨#[p.1]⟩ : Str), p.2)
def tDictZip (K : PySem.W.Frag) (ta : TA) : TE := fun σ H Q => ta σ H fun vs H1 => ∃ (x : Str) (b : Addr) (ys : List V), vs = [.str x, .ref b] ∧ SqL K H1 b ys ∧ ∀ p, H1 p = none → Q (.ref p) (upd H1 p (.dK (mergeK [] (zipKV x.cps.toList ys))))
theorem w_dictZip {K : PySem.W.Frag} {ta : TA} {σ : L2.St} {H : Hp} {Q : VK} (h : ta σ H fun vs H1 => ∃ (x : Str) (b : Addr) (ys : List V), vs = [.str x, .ref b] ∧ SqL K H1 b ys ∧ ∀ p, H1 p = none → Q (.ref p) (upd H1 p (.dK (mergeK [] (zipKV x.cps.toList ys))))) : tDictZip K ta σ H Q := h
theorem zipKV_at {cs : List Nat} {ys : List V} {i : Nat} {u : Key × V} (h : (zipKV cs ys)[i]? = some u) : ∃ c y, cs[i]? = some c ∧ ys[i]? = some y ∧ u = (Sum.inr (⟨#[c]⟩ : Str), y) := by
  unfold zipKV at h
  rw [List.getElem?_map] at h
  cases e : (cs.zip ys)[i]? with
  | none => rw [e] at h; cases h
  | some p =>
    rw [e] at h
    obtain ⟨h1, h2⟩ := List.getElem?_zip_eq_some.mp e
    exact ⟨p.1, p.2, h1, h2, (Option.some.inj h).symm⟩
theorem kv_zip : ∀ {cs : List Nat} {ys : List V} {us : List Value}, Vals ys us → KV (zipKV cs ys) ((cs.zip us).map fun p => (Sum.inr (⟨#[p.1]⟩ : Str), p.2))
  | [], _, _, _ => .nil
  | _ :: _, _, _, .nil => .nil
  | c :: cs, _, _, .cons r q => .cons ⟨rfl, r⟩ (kv_zip q)
theorem pe_dictZip {X : Cx} {e1 e2 : Expr} {ta : TA} {p p2 pos pos2 : Pos} (hc : X.calm = true) (hg : Gl X "dict") (hm : X.mg "dict" = none) (hg2 : Gl X "zip") (hm2 : X.mg "zip" = none) (ha : PA X [e1, e2] ta)
    (hs : starEach [e1, e2] X.env = (false, eval e1 X.env) :: starEach [e2] X.env := by rfl) (hp : (backTo pos2 (starEach [e2] X.env)).any (·.1) = false := by rfl)
    (hs1 : starEach [.Call (.Name "zip" p2) [e1, e2] [] pos2] X.env = (false, eval (.Call (.Name "zip" p2) [e1, e2] [] pos2) X.env) :: starEach [] X.env := by rfl) (hp1 : (backTo pos (starEach [] X.env)).any (·.1) = false := by rfl) :
    PE X (.Call (.Name "dict" p) [.Call (.Name "zip" p2) [e1, e2] [] pos2] [] pos) (tDictZip X.K ta) := by
  refine ⟨fun pins s σ H Q I h => ?_⟩
  refine Call_ (ld_blt I hg hm PyProof.Rows.boot_dict (callWith_type1 (args_cons ?_ hs1) hs1 hp1))
  refine Call_ (ld_blt I hg2 hm2 boot_zip (callWith_type1 (thn (ha.run pos2 pins s σ H _ I h) ?_) hs hp))
  rintro us q ⟨_, H1, J, rv, x, b, ys, rfl, hq, r⟩
  cases rv with
  | cons r1 rv =>
  cases rv with
  | cons r2 rv =>
  cases rv
  cases r2
  obtain ⟨t, rfl⟩ := r1
  obtain ⟨its, rv2, p2, hz⟩ := J.list hq
  have lb : b < q.heap.objs.size := by exact p2.lt
  have hh : X.A.handled = none := J.ok.hd hc
  refine zip_begins2 (begins_text x t) (begins_list b its.toArray) trivial p2.isList fun h' z1 z2 z3 z4 z5 z6 hk => ?_
  refine args_nil ?_
  have J2 : Inv X pins σ H1 { q with heap := h' } := J.kept (t' := q.toks) hk
  have S : ZipSep2 (q.heap.objs.size + 4) (q.heap.objs.size + 2) (q.heap.objs.size + 3) q.heap.objs.size (q.heap.objs.size + 1) [q.heap.objs.size] [q.heap.objs.size + 1, b] := zip_sep2 (N := q.heap.objs.size) (fp1 := []) (fp2 := [b]) (by simp) (by simpa using lb)
  have nb : b ≠ q.heap.objs.size + 1 := Nat.ne_of_lt (Nat.lt_succ_of_lt lb)
  have P := pairArg_zip (prog := X.prog) (w := X.w) S (fun A hA => Draws.text hA q.heap.objs.size x t) (fun A hA => Draws.list hA (q.heap.objs.size + 1) b nb its.toArray)
    (fun h ⟨o, e, _⟩ c hc => by rw [List.mem_singleton.mp hc]; exact ⟨o, e⟩) (fun h ⟨⟨o, e, _⟩, ⟨o2, e2, _⟩⟩ c hc => by
      rcases List.mem_cons.mp hc with rfl | hc
      · exact ⟨o, e⟩
      · rw [List.mem_singleton.mp hc]; exact ⟨o2, e2⟩)
    (fun h h' ⟨o, e, d⟩ k => ⟨o, k _ _ e, d⟩) (fun h h' ⟨a, c⟩ k => ⟨a.at fun o e => k _ o e, c.at fun o e => k _ o e⟩)
  have lv := rv2.length
  have hz : ys.length ≤ sizeLine := by omega
  have ln : ((x.cps.toList.zip its).map fun p => ((Sum.inr (⟨#[p.1]⟩ : Str) : Key), p.2)).length = min x.cps.size its.toArray.size := by rw [List.length_map, List.length_zip, Array.length_toList]; rfl
  have lm : min x.cps.size its.toArray.size ≤ sizeLine := Nat.le_trans (Nat.min_le_right ..) (by show its.length ≤ sizeLine; rw [← lv]; exact hz)
  refine PySem.call_dict_pairs (knd := mixKind X.prog X.w) (kvs := (x.cps.toList.zip its).map fun p => (Sum.inr (⟨#[p.1]⟩ : Str), p.2)) P hh ⟨z1, z2, ⟨_, _, z3⟩, ⟨_, z4, rfl, rfl⟩, ⟨_, z5, rfl, rfl⟩, p2.isList.at fun o e => hk _ o e⟩ ⟨ln, fun i k v h => ?_⟩ lm fun h2 tk hd k2 => ?_
  · obtain ⟨⟨c, u, h1, rfl⟩, h2⟩ := h
    refine ⟨Sum.inr (⟨#[c]⟩ : Str), ?_, by show Value.isStrOf (⟨#[c]⟩ : Str) (Value.str ⟨#[c]⟩ u) = true; simp [Value.isStrOf]⟩
    have e : (x.cps.toList.zip its)[i]? = some (c, v) := List.getElem?_zip_eq_some.mpr ⟨by rw [Array.getElem?_toList]; exact h1, by simpa using h2⟩
    rw [List.getElem?_map, e]
    rfl
  · have hm : (h'.objs.size == sysModules) = false := beq_eq_false_iff_ne.mpr (Nat.ne_of_gt J2.big)
    have rel := kv_zip (cs := x.cps.toList) rv2
    have hlen : (mergeK [] (zipKV x.cps.toList ys)).length ≤ sizeLine := by
      refine Nat.le_trans (length_mergeK _ []) ?_
      rw [List.length_nil, Nat.zero_add]
      unfold zipKV
      rw [List.length_map, List.length_zip]
      omega
    have fr : ∀ b o, q.heap.get? b = some o → h2.get? b = some o := fun b o e => k2 b o (fun hb => by
      have lt := Heap.lt_size e
      simp only [List.mem_cons, List.not_mem_nil, or_false] at hb
      have lt : b < q.heap.objs.size := lt
      rcases hb with hb | hb | hb | hb <;> rw [hb] at lt
      · exact absurd lt (Nat.not_lt.mpr (Nat.le_add_right _ _))
      · exact absurd lt (Nat.not_lt.mpr (Nat.le_add_right _ _))
      · exact absurd lt (Nat.lt_irrefl _)
      · exact absurd lt (Nat.not_lt.mpr (Nat.le_add_right _ _))) (hk b o e)
    have le : q.heap.objs.size ≤ h'.objs.size := by omega
    exact ⟨.ref h'.objs.size, upd H1 h'.objs.size (.dK (mergeK [] (zipKV x.cps.toList ys))), J.laid (t' := tk) fr le (show ObjOk X.prog X.w _ _ _ (.dK (mergeK [] (zipKV x.cps.toList ys))) from ⟨hlen, hm, merged [] ((x.cps.toList.zip its).map fun p => (Sum.inr (⟨#[p.1]⟩ : Str), p.2)), KV.merge rel .nil, hd⟩), rfl, r _ (J.hok.fresh le)⟩
end RK

/-! o.m(..) that may raise, where what is wished of the exception speaks of the names as they stand -/
namespace RK
open PySem PySem.Spec PyProof.Rows L2
def PassesS (CX : CXT) (X : Cx) (Es : L2.St → XK) : Prop := ∀ (pins : List (Addr × Obj)) (σ : L2.St) (H : Hp) (s : Shared) (e : Value) (s' : Shared), Inv X pins σ H s → CX X.stack H s (Es σ) e s' → X.xe e s'
section
variable {X : Cx} {CX : CXT} {k : Nat} {f C : Addr} {fd : FuncData} {ps : List Str} {sp : Sp} {dvs : List V} {ds : List Value} {Es : L2.St → XK} {m : Str} {pos apos : Pos} {e o : Expr} {es : List Expr} {ta : TE} {t : TA}
theorem run_fnS {pins : List (Addr × Obj)} {σ : L2.St} {H : Hp} {s : Shared} {Q : VK} {us : List Value} {vs : List V} (F : FnOk X.prog X.w X.K X.mg X.base CX k f fd ps sp) (room : Room k X.A) (hb : Binds X.K fd ps ds) (hd : Vals dvs ds) (px : PassesS CX X Es) (I : Inv X pins σ H s) (r : Vals vs us) (h : sp (vs ++ dvs) H Q (Es σ)) : wpAny (model X.prog X.w) X.A (call (.ref f) us) (EP X pins σ Q) X.xe s := by
  have rr := r.append hd; have ln : (us ++ ds).length = ps.length := by rw [← rr.length]; exact F.len _ _ _ _ h
  refine wpAny_call (codeAny_mono (F.run X.A X.stack s H ⟨us, []⟩ (us ++ ds) (vs ++ dvs) Q (Es σ) room I.env0 (hb s us I.kIn ln) rr h) fun w s' q => ?_)
  rcases w with x | fl
  · exact px pins σ H s x s' I q
  · cases fl with
    | ret u => exact I.after q
    | next => exact q.elim
    | brk => exact q.elim
    | cont => exact q.elim
theorem pe_methS {pl : Sem Bool} (he : PE X o ta) (c : Cls X.K C) (hm : Meth X.K C m f) (F : FnOk X.prog X.w X.K X.mg X.base CX k f fd ps sp) (room : Room k X.A) (hb : Binds X.K fd ps ds) (hd : Vals dvs ds) (px : PassesS CX X Es) (ha : PA X (e :: es) t) (hst : starEach (e :: es) X.env = (false, eval e X.env) :: starEach es X.env := by rfl) (hpl : (backTo pos (starEach es X.env)).any (·.1) = false := by rfl)
    (ht : eval (.Call (.Attribute o m apos) (e :: es) [] pos) X.env = (do let ov ← eval o X.env; standAt apos.atName; let (f, first) ← holding [ov] (getMethod ov m pl); callWith pos f first (backTo pos (starEach (e :: es) X.env)) (backToKw pos (keywordEach [] X.env))) := by rfl) : PE X (.Call (.Attribute o m apos) (e :: es) [] pos) (fun σ H Q => tMeth C m sp dvs (Es σ) ta t σ H Q) := by
  refine ⟨fun pins s σ H Q I h => PySem.W.methodCall_KW (pl := pl) (thn (he.run pins s σ H _ I h) fun u s1 ⟨x, H1, I1, rx, a, dx, fs, ex, ea, l, q⟩ => ?_) ht⟩
  subst ex; obtain rfl : u = Value.ref a := rx
  refine getmeth_ok I1 ea c hm l (PySem.W.callWith_K (first := [.ref a]) (h₀ := X.base) I.ok.mod.kin hm.kp (thn (ha.run pos pins s1 σ H1 _ I1 q) fun us s2 ⟨vs, H2, I2, r, q2⟩ => ⟨I2.kIn, ?_⟩) hst hpl)
  exact run_fnS (us := .ref a :: us) (vs := .ref a :: vs) F room hb hd px I2 (.cons rfl r) q2
end
end RK

/-! dict() of a written tuple of pairs, or of an empty tuple that stands as a default -/
namespace RK
open PySem PySem.Spec PyProof.Rows L2 RZ
/-- a tuple whose object has no attributes: written, or the empty one of a default -/
def TupG (K : PySem.W.Frag) (H : Hp) (a : Addr) (xs : List V) : Prop := TupF H a xs ∨ (xs = [] ∧ ∃ n sl, K.lookup a = some ⟨.type "tuple", none, .seq #[] n, sl⟩)
theorem TupG.sqt {K : PySem.W.Frag} {H : Hp} {a : Addr} {xs : List V} (t : TupG K H a xs) : SqT K H a xs := by
  rcases t with t | ⟨rfl, n, sl, h⟩
  · exact t.sqt
  · exact .inr ⟨_, _, _, h, rfl, rfl, by decide, .nil⟩
theorem TupG.same {K : PySem.W.Frag} {H H' : Hp} {a : Addr} {xs : List V} (t : TupG K H a xs) (e : Same H H') : TupG K H' a xs := t.imp (fun t => t.same e) id
theorem TupG.sameT {K : PySem.W.Frag} {H H' : Hp} {a : Addr} {xs : List V} (t : TupG K H a xs) (e : SameT H H') : TupG K H' a xs := t.imp (fun t => t.sameT e) id
def rDictG (K : PySem.W.Frag) : List V → Hp → VK → Prop := fun xs H Q => ∃ (a : Addr) (ps : List Addr) (kvs : List (Key × V)), xs = [.ref a] ∧ TupG K H a (ps.map V.ref) ∧ Paired (fun p kv => SqT K H p [kV kv.1, kv.2]) ps kvs ∧ ∀ p, H p = none → Q (.ref p) (upd H p (.dK (mergeK [] kvs)))
theorem call_dictG {X : Cx} (hcalm : X.calm = true) : CallR X (.type "dict") (rDictG X.K) := by
  intro pins s σ H xs us Q I r q
  obtain ⟨a, ps, kvs, rfl, ht | ⟨e0, n, sl, hk⟩, hp, q⟩ := q
  · exact call_dictT hcalm pins s σ H _ us Q I r ⟨a, ps, kvs, rfl, ht, hp, q⟩
  · obtain rfl : ps = [] := List.map_eq_nil_iff.mp e0
    cases hp
    obtain ⟨u, rfl, rx⟩ := vals1 r
    cases rx
    have ho : s.heap.get? a = some ⟨.type "tuple", none, .seq #[] n, sl⟩ := I.kIn a _ hk
    have P := PairArg.tuple (prog := X.prog) (w := X.w) a #[] (fun _ => 0) []
    refine PySem.call_dict_pairs (knd := mixKind X.prog X.w) (kvs := []) P (I.ok.hd hcalm) ⟨⟨_, n, ho, rfl, rfl, rfl⟩, rfl, fun j k v h => by cases h⟩ ⟨rfl, fun j k v h => by cases h⟩ (Nat.zero_le _) fun h' tk hd' kk => ?_
    have hm : (s.heap.objs.size == sysModules) = false := beq_eq_false_iff_ne.mpr (Nat.ne_of_gt I.big)
    have k : ∀ b o, s.heap.get? b = some o → h'.get? b = some o := fun b o e => kk b o List.not_mem_nil e
    exact ⟨.ref s.heap.objs.size, upd H s.heap.objs.size (.dK (mergeK [] [])), I.laid (t' := tk) k (Nat.le_refl _) (show ObjOk X.prog X.w _ _ _ (.dK (mergeK [] [])) from ⟨Nat.zero_le _, hm, merged [] [], .nil, hd'⟩), rfl, q _ (I.hok.fresh (Nat.le_refl _))⟩
end RK

/-! an instance and an int, by !=: object's own __ne__ asks the class's __eq__ -/
namespace PySem.RkX
open PySem PySem.W
section
variable {prog : Program} {w : World} {A : Around} {E : Value → Shared → Prop} {s : Shared} {K : Frag} {x C L f : Addr} {h₀ : Heap} {m : Str → Option Value} {ox : Obj} {od : Option Obj}
theorem ne_entryV {y : Value} {Q : Fin → Shared → Prop} (hu : A.units < cLine) (X : K.In s.heap) (I : InstAt s.heap x ox C od) (hs : findIn K (.ref C) "__eq__" = some (some (.ref f))) (hf : isFn K (.ref f) = true)
    (h : wpAny (model prog w) A (call (.ref f) [.ref x, y]) (fun v s' => ∃ b, v = .bool b ∧ Q (.done (.ret (.bool (!b)))) s') E s) :
    wpAny (model prog w) A (Builtin.«object.__ne__» ⟨[.ref x, y], []⟩) Q E s := by
  have one : wpAny (model prog w) A (callSpecialIfBound? (.ref x) "__eq__" [y]) (fun r s' => ∃ b, r = some (.bool b) ∧ Q (.done (.ret (.bool (!b)))) s') E s :=
    ifBound_K X I hs hf (wpAny_mono h (fun v s' ⟨b, e, q⟩ => ⟨b, by rw [e], q⟩) fun _ _ e => e)
  obtain ⟨hp, g, d, tk, os⟩ := s
  unfold Builtin.«object.__ne__»
  repeat (first
    | with_reducible refine wpAny_cRoomFor hu ?_
    | (refine wpAny_bind (m := callSpecialIfBound? (.ref x) (Str.ofString "__eq__") [y]) (wpAny_mono one (fun r s' hr => by
          obtain ⟨b, rfl, hq⟩ := hr
          repeat (first | exact hq | exact wpAny_pure hq | exact wpAny_truthy_bool hq | (refine wpAny_bind (m := truthy (.bool _)) (wpAny_truthy_bool ?_)) | wp_step)) fun _ _ e => e))
    | wp_step)
theorem ne_checkV {y : Value} {Q : Unit → Shared → Prop} {M : Model} (X : K.In s.heap) (I : InstAt s.heap x ox C od) (hob : subIn K (.ref C) (.type "object") = some true) (hq : Q () s) :
    wpAny M A (checkBuiltinCall "object.__ne__" ⟨[.ref x, y], []⟩) Q E s := by
  have ha := F.cmpArgs_ne (.ref x) y
  simp only [checkBuiltinCall, F.cmpKind_ne, F.cmpSplit_ne]
  refine wpAny_bind ?_
  unfold isInstance
  refine wpAny_bind (I.type.here ((looks_subIn X hob).here ?_))
  cases hsig : Manifest.signature? "object.__ne__" with
  | none => repeat (first | exact hq | exact wpAny_pure hq | wp_step)
  | some sig =>
    simp only [argsOk, hsig] at ha
    have h2 : Bind.checkArgs "object.__ne__" sig ⟨[.ref x, y], []⟩ = pure () := ha
    repeat (first | exact hq | exact wpAny_pure hq | (rw [h2]; exact wpAny_pure hq) | wp_step)
theorem ne_OI {i : Int} {t : Tok} {Q : Value → Shared → Prop} (hu : A.units + 1 < cLine) (X : K.In s.heap) (I : InstAt s.heap x ox C od)
    (hs : findIn K (.ref C) "__eq__" = some (some (.ref f))) (hf : isFn K (.ref f) = true) (hn : findIn K (.ref C) "__ne__" = some (some (.builtin "object.__ne__"))) (hob : subIn K (.ref C) (.type "object") = some true) (hsub : subIn K (.type "int") (.ref C) = some false)
    (h : wpAny (model prog w) A.in1 (call (.ref f) [.ref x, .int i t]) (fun v s' => ∃ b, v = .bool b ∧ Q (.bool (!b)) s') E s) : wpAny (model prog w) A (richCompare .NotEq (.ref x) (.int i t)) Q E s := by
  have called : wpAny (model prog w) A (call (.builtin "object.__ne__") [.ref x, .int i t]) (fun v s' => ∃ b, v = .bool b ∧ Q (.bool b) s') E s := by
    refine wpAny_call (codeAny_call_builtin F.cmp_object.ne.plain F.cmpEntry_ne (ne_checkV X I hob ?_))
    refine ne_entryV (A := A.in1) hu X I hs hf (wpAny_mono h (fun v s' hv => ?_) fun _ _ e => e)
    obtain ⟨b, rfl, hq⟩ := hv
    exact ⟨b, rfl, _, rfl, hq⟩
  have bound : wpAny (model prog w) A (callSpecialIfBound? (.ref x) "__ne__" [.int i t]) (fun r s' => ∃ b, r = some (.bool b) ∧ Q (.bool b) s') E s := by
    simp only [callSpecialIfBound?, bindSpecialIfBound?]
    refine wpAny_holding (wpAny_bind (wpAny_bind (wpAny_bind (I.type.here ((looks_findIn X hn).here ?_)))))
    have sb := F.cmp_object.ne.bind
    simp only [sb]
    refine wpAny_bind (wpAny_askSetting (wpAny_ite ?_))
    have fin : wpAny (model prog w) A (call (.builtin "object.__ne__") ([.ref x] ++ [.int i t]) >>= fun v => pure (some v)) (fun r s' => ∃ b, r = some (.bool b) ∧ Q (.bool b) s') E s :=
      wpAny_bind (wpAny_mono called (fun v s' h' => wpAny_pure (by obtain ⟨b, rfl, q⟩ := h'; exact ⟨b, rfl, q⟩)) fun _ _ h' => h')
    split
    · exact wpAny_bind (wpAny_pure (wpAny_pure fin))
    · exact wpAny_tryCatch (wpAny_bind (wpAny_pure (wpAny_pure fin)))
  have one : wpAny (model prog w) A (tryCompare (.ref x) "__ne__" (.int i t)) (fun r s' => ∃ b, r = some (.bool b) ∧ Q (.bool b) s') E s := by
    unfold tryCompare
    refine wpAny_bind (wpAny_mono bound (fun r s' hr => ?_) fun _ _ e => e)
    obtain ⟨b, rfl, q⟩ := hr
    exact wpAny_pure ⟨b, rfl, q⟩
  have L2 : Looks (model prog w) s.heap (typeOf (.int i t)) (.type "int") := Looks.of_pure rfl
  have hne : (Value.type "int" != Value.ref C) = true := by
    rw [bne, show (Value.type "int" == Value.ref C) = false from Bool.eq_false_iff.mpr fun q => by cases beq_iff_eq.mp q]
    rfl
  have hne' : (Value.ref C != Value.type "int") = true := by
    rw [bne, show (Value.ref C == Value.type "int") = false from Bool.eq_false_iff.mpr fun q => by cases beq_iff_eq.mp q]
    rfl
  unfold richCompare
  simp only [(typeIs_int s i t).oneThing_none]
  refine wpAny_holding (wpAny_bind (wpAny_cRoomFor (Nat.lt_of_succ_lt hu) ?_))
  rw [cmpInfo_NotEq]
  dsimp only
  refine wpAny_bind (I.type.here (wpAny_bind (L2.here ?_)))
  simp only [hne, hne', if_true]
  refine wpAny_bind ((looks_subIn X hsub).here ?_)
  simp only [Bool.false_eq_true, if_false, Bool.not_false, if_true]
  refine wpAny_bind (wpAny_mono one (fun r s' hr => ?_) fun _ _ e => e)
  obtain ⟨b, rfl, q⟩ := hr
  exact wpAny_pure q
end
end PySem.RkX
namespace RK
open PySem PySem.Spec PyProof.Rows L2
section
variable {X : Cx} {CX : CXT} {n : Nat} {C f g0 : Addr} {fd : FuncData} {ps : List Str} {sp : Sp} {E : XK}
/-- a != int by the class's own == -/
def rNeI (C : Addr) (sp : Sp) (E : XK) : R2 := fun x y H Q => ∃ a i dx fs, x = .ref a ∧ y = .int i ∧ H a = some (.ins C dx fs) ∧ sp [x, y] H (fun v H' => ∃ k, v = .bl k ∧ Q (.bl (!k)) H') E
theorem op_neI (hs : PySem.W.findIn X.K (.ref C) "__eq__" = some (some (.ref f))) (hf : PySem.W.isFn X.K (.ref f) = true) (hn : PySem.W.findIn X.K (.ref C) "__ne__" = some (some (.builtin "object.__ne__"))) (hob : PySem.W.subIn X.K (.ref C) (.type "object") = some true) (hsub : PySem.W.subIn X.K (.type "int") (.ref C) = some false)
    (F : FnOk X.prog X.w X.K X.mg X.base CX n f fd ps sp) (hr : Room (n + 1) X.A) (hb : Binds X.K fd ps []) (hx : Passes CX X E) : OpR X (compareOp .NotEq) (rNeI C sp E) := by
  intro pins s σ H x y v u Q I rx ry h
  obtain ⟨a, i, dx, fs, rfl, rfl, ha, q⟩ := h
  cases (show v = Value.ref a from rx)
  obtain ⟨t, rfl⟩ := (show ∃ t, u = Value.int i t from ry)
  obtain ⟨od, J⟩ := inst_at I ha
  have hu : X.A.units + 1 < cLine := Nat.lt_of_le_of_lt (Nat.add_le_add_left (by decide : 1 ≤ 64) _) hr.units
  show wpAny (model X.prog X.w) X.A (richCompare .NotEq (.ref a) (.int i t)) (EP X pins σ Q) X.xe s
  refine PySem.RkX.ne_OI hu I.kIn J hs hf hn hob hsub ?_
  have hr1 : Room n X.A.in1 := hr.in1
  have r2 : Vals [V.ref a, V.int i] [Value.ref a, Value.int i t] := .cons rfl (.cons ⟨t, rfl⟩ .nil)
  have hl := F.len _ _ _ _ q
  refine wpAny_call (codeAny_mono (F.run X.A.in1 X.stack s H ⟨[.ref a, .int i t], []⟩ [.ref a, .int i t] [.ref a, .int i] _ E hr1 I.env0.in1 (by
    have := hb s [.ref a, .int i t] I.kIn (by simpa using hl)
    simpa using this) r2 q) fun r s' hq => ?_)
  cases r with
  | error e => exact hx pins σ H s e s' I hq
  | ok fl =>
    cases fl with
    | ret w =>
      obtain ⟨z, H', I', rz, k, ez, qz⟩ := I.after hq
      subst ez
      cases rz
      exact ⟨k, rfl, .bl (!k), H', I', rfl, qz⟩
    | next => exact False.elim hq
    | brk => exact False.elim hq
    | cont => exact False.elim hq
end
end RK

/-! tuples of own instances, by ==: each pair by the class's own __eq__ -/
namespace PySem.RkX
open PySem PySem.W
section
variable {prog : Program} {w : World} {A : Around} {E : Value → Shared → Prop} {s : Shared}
def CmpL (prog : Program) (w : World) (A : Around) (E : Value → Shared → Prop) : List (Value × Value) → Bool → (Bool → Shared → Prop) → Shared → Prop
  | [], le, R, s => R le s
  | (x, y) :: r, le, R, s => wpAny (model prog w) A (eqBool x y) (fun b s' => if b = true then CmpL prog w A E r le R s' else R false s') E s
theorem tupEq_st {a b : Addr} {oa ob : Obj} {xs ys : Array Value} {na nb : Nat} {P : Fin → Shared → Prop} (hoa : s.heap.get? a = some oa) (hda : oa.data = .seq xs na) (hob : s.heap.get? b = some ob) (hdb : ob.data = .seq ys nb) (hT : s.TypeIs (.ref b) "tuple")
    (h : CmpL prog w A E (xs.toList.zip ys.toList) (xs.size == ys.size) (fun b s' => P (.done (.ret (.bool b))) s') s) :
    wpAny (model prog w) A (Builtin.«tuple.__eq__» ⟨[.ref a, .ref b], []⟩) P E s := by
  show wpAny _ _ (isInstance (.ref b) (.type "tuple") >>= _) _ _ s
  refine wpAny_bind (wpAny_isInstance hT isSubtype_tuple_tuple ?_)
  simp only [Bool.not_true, Bool.false_eq_true, if_false]
  refine wpAny_bind (wpAny_tupleItemsOf hoa hda ?_)
  refine wpAny_bind (wpAny_tupleItemsOf hob hdb ?_)
  refine wpAny_bind ?_
  refine wpAny_forIn_list _
    (fun rest r s' => r.1 = none ∧ CmpL prog w A E rest (xs.size == ys.size) (fun b s' => P (.done (.ret (.bool b))) s') s')
    _ ?_ ?_ _ _ ⟨rfl, h⟩
  · rintro ⟨u, v⟩ rest r s' ⟨hr, hc⟩
    refine wpAny_bind (wpAny_mono hc (fun b s2 hb => ?_) fun _ _ e => e)
    cases b with
    | true =>
      rw [if_pos rfl] at hb
      simp only [Bool.not_true, Bool.false_eq_true, if_false]
      exact wpAny_pure ⟨rfl, hb⟩
    | false =>
      rw [if_neg (by decide)] at hb
      simp only [Bool.not_false, if_true]
      exact wpAny_bind (wpAny_pure (wpAny_pure (wpAny_pure hb)))
  · rintro ⟨r1, r2⟩ s' ⟨hr, hc⟩
    simp only at hr
    subst hr
    exact wpAny_pure hc
/-- the same, as a comparison -/
theorem eq_tupSt {a b : Addr} {oa ob : Obj} {xs ys : Array Value} {na nb : Nat} {Q : Value → Shared → Prop} (hu : A.units < cLine) (hoa : s.heap.get? a = some oa) (hda : oa.data = .seq xs na) (hob : s.heap.get? b = some ob) (hdb : ob.data = .seq ys nb) (hTa : s.TypeIs (.ref a) "tuple") (hT : s.TypeIs (.ref b) "tuple")
    (h : CmpL prog w A.in1 E (xs.toList.zip ys.toList) (xs.size == ys.size) (fun b s' => Q (.bool b) s') s) :
    wpAny (model prog w) A (richCompare .Eq (.ref a) (.ref b)) Q E s := by
  refine wpAny_richCompare_same_room hTa hT F.slot_tuple_eq (wpAny_call_entry F.slot_tuple_eq hTa F.entry_tuple_eq (tupEq_st hoa hda hob hdb hT ?_) (F.args_tuple_eq_2 _ _)) hu
  have mono : ∀ (l : List (Value × Value)) (le : Bool) (R R' : Bool → Shared → Prop) (s : Shared), (∀ b s, R b s → R' b s) → CmpL prog w A.in1 E l le R s → CmpL prog w A.in1 E l le R' s := fun l => by
    induction l with
    | nil => exact fun le R R' s h => h le s
    | cons p r ih =>
      intro le R R' s h hc
      refine wpAny_mono hc (fun b s2 hb => ?_) fun _ _ e => e
      cases b with
      | true => rw [if_pos rfl] at hb ⊢; exact ih le R R' s2 h hb
      | false => rw [if_neg (by decide)] at hb ⊢; exact h _ _ hb
  exact mono _ _ _ _ _ (fun b s' q => ⟨_, rfl, (fun x => nomatch x), q⟩) h
end
end PySem.RkX
namespace RK
open PySem PySem.Spec PyProof.Rows L2
/-- pair by pair, by the class's own ==; the same object is equal to itself -/
def CmpV (C : Addr) (sp : Sp) (E : XK) : List V → List V → Bool → Hp → VK → Prop
  | x :: xs, y :: ys, le, H, Q => ∃ p q dx fs dy gs, x = .ref p ∧ y = .ref q ∧ H p = some (.ins C dx fs) ∧ H q = some (.ins C dy gs) ∧ (if p = q then CmpV C sp E xs ys le H Q else sp [x, y] H (fun v H' => ∃ k, v = .bl k ∧ if k = true then CmpV C sp E xs ys le H' Q else Q (.bl false) H') E)
  | [], _, le, H, Q => Q (.bl le) H
  | _ :: _, [], le, H, Q => Q (.bl le) H
/-- tuple == tuple, of instances of the class at C -/
def rEqTO (K : PySem.W.Frag) (C : Addr) (sp : Sp) (E : XK) : R2 := fun x y H Q => ∃ a b xs ys, x = .ref a ∧ y = .ref b ∧ SqT K H a xs ∧ SqT K H b ys ∧ CmpV C sp E xs ys (xs.length == ys.length) H Q
section
variable {X : Cx} {CX : CXT} {n : Nat} {C f : Addr} {fd : FuncData} {ps : List Str} {sp : Sp} {E : XK}
theorem cmpl_of (hs : PySem.W.findIn X.K (.ref C) "__eq__" = some (some (.ref f))) (hf : PySem.W.isFn X.K (.ref f) = true)
    (F : FnOk X.prog X.w X.K X.mg X.base CX n f fd ps sp) (hb : Binds X.K fd ps []) (hx : Passes CX X E) {A : Around} (sb : L2.Sub X n A) {pins : List (Addr × Obj)} {σ : L2.St} {Q : VK} {le : Bool} :
    ∀ (xs ys : List V) (us vs : List Value) (H : Hp) (s : Shared), Vals xs us → Vals ys vs → L2.Inv X pins σ H s → CmpV C sp E xs ys le H Q → PySem.RkX.CmpL X.prog X.w A X.xe (us.zip vs) le (fun b s' => EP X pins σ Q (.bool b) s') s := fun xs => by
  induction xs with
  | nil =>
    intro ys us vs H s ru rv I h
    cases ru
    exact ⟨.bl le, H, I, rfl, h⟩
  | cons x xs ih =>
    intro ys us vs H s ru rv I h
    cases ys with
    | nil =>
      cases rv
      cases ru
      exact ⟨.bl le, H, I, rfl, h⟩
    | cons y ys =>
      obtain ⟨p, q, dx, fs, dy, gs, rfl, rfl, hp, hq, h⟩ := h
      cases ru with
      | cons r1 ru =>
      cases rv with
      | cons r2 rv =>
      cases r1
      cases r2
      show wpAny (model X.prog X.w) A (eqBool (.ref p) (.ref q)) _ X.xe s
      by_cases e : p = q
      · subst e
        rw [if_pos rfl] at h
        refine SeqAt.EqAt.same (A := A) (s := s) (.ref p) X.prog X.w X.xe _ ?_
        rw [if_pos rfl]
        exact ih ys _ _ H s ru rv I h
      · rw [if_neg e] at h
        obtain ⟨mA, J, _⟩ := ins_get I.hok hp
        obtain ⟨mB, J', _⟩ := ins_get I.hok hq
        obtain ⟨od, J, _⟩ := J.look
        obtain ⟨od', J', _⟩ := J'.look
        obtain ⟨m, hF⟩ := I.fr
        refine GQ.eqBool_refG e (PySem.W.cmp_K (op := .Eq) (tb := .ref C) sb.room.units0 hF I.ok.mod.kin J J'.type (by simp [PySem.W.notFirst]) hs hf ?_)
        have e0 : Env0 X.prog X.w X.K X.mg X.base A X.stack s H := by
          have e := I.env0
          exact ⟨by rw [sb.fr]; exact e.frames, e.mod, e.bs, e.bsz, e.funs, e.frf, e.hok, e.bare⟩
        have hl := F.len _ _ _ _ h
        have r2 : Vals [V.ref p, V.ref q] [Value.ref p, Value.ref q] := .cons rfl (.cons rfl .nil)
        refine wpAny_call (codeAny_mono (F.run A X.stack s H ⟨[.ref p, .ref q], []⟩ [.ref p, .ref q] [.ref p, .ref q] _ E sb.room e0 (by
          have := hb s [.ref p, .ref q] I.kIn (by simpa using hl)
          simpa using this) r2 h) fun r s' hq => ?_)
        cases r with
        | error e => exact hx pins σ H s e s' I hq
        | ok fl =>
          cases fl with
          | ret w =>
            obtain ⟨z, H', I', rz, k, ez, hk⟩ := I.after hq
            subst ez
            cases rz
            refine ⟨k, rfl, ?_⟩
            cases k with
            | true =>
              rw [if_pos rfl] at hk ⊢
              exact ih ys _ _ H' s' ru rv I' hk
            | false =>
              rw [if_neg (by decide)] at hk ⊢
              exact ⟨.bl false, H', I', rfl, hk⟩
          | next => exact False.elim hq
          | brk => exact False.elim hq
          | cont => exact False.elim hq
theorem op_eqTO (hs : PySem.W.findIn X.K (.ref C) "__eq__" = some (some (.ref f))) (hf : PySem.W.isFn X.K (.ref f) = true)
    (F : FnOk X.prog X.w X.K X.mg X.base CX n f fd ps sp) (hr : Room (n + 1) X.A) (hb : Binds X.K fd ps []) (hx : Passes CX X E) : OpR X (compareOp .Eq) (rEqTO X.K C sp E) := by
  intro pins s σ H x y v u Q I rx ry h
  obtain ⟨a, b, xs, ys, rfl, rfl, ha, hb', q⟩ := h
  cases (show v = Value.ref a from rx)
  cases (show u = Value.ref b from ry)
  obtain ⟨its, r, e, z⟩ := I.tuple ha
  obtain ⟨its2, r2, e2, z2⟩ := I.tuple hb'
  have sb : L2.Sub X (n + 1) X.A := ⟨hr, rfl⟩
  have hl : (its.toArray.size == its2.toArray.size) = (xs.length == ys.length) := by rw [List.size_toArray, List.size_toArray, ← r.length, ← r2.length]
  have c := cmpl_of hs hf F hb hx sb.in1 xs ys its its2 H s r r2 I q
  rw [← hl] at c
  show wpAny (model X.prog X.w) X.A (richCompare .Eq (.ref a) (.ref b)) (EP X pins σ Q) X.xe s
  obtain ⟨oa, ho, hc, na, hd⟩ := e
  obtain ⟨ob, ho2, hc2, nb, hd2⟩ := e2
  exact PySem.RkX.eq_tupSt sb.room.units0 ho hd ho2 hd2 ⟨_, ho, hc⟩ ⟨_, ho2, hc2⟩ c
end
end RK

/-! len(x) of an instance whose class has an own __len__ -/
namespace RK
open PySem PySem.Spec PyProof.Rows L2
section
variable {prog : Program} {w : World} {A : Around} {E : Value → Shared → Prop} {s : Shared} {K : PySem.W.Frag} {x C f : Addr} {ox : Obj} {od : Option Obj}
theorem lenO_body {Q : Value → Shared → Prop} (KI : K.In s.heap) (I : PySem.W.InstAt s.heap x ox C od) (hs : PySem.W.findIn K (.ref C) "__len__" = some (some (.ref f))) (hf : PySem.W.isFn K (.ref f) = true)
    (h : wpAny (model prog w) A (call (.ref f) [.ref x]) (fun r s1 => ∃ (n : Nat) (t : Tok), r = Value.int n t ∧ n < 2 ^ 62 ∧ ∀ t' tk, Q (.int n t') { s1 with toks := tk }) E s) : wpAny (model prog w) A (Builtin.«len» ⟨[.ref x], []⟩) (fun fin s' => ∃ r, fin = .done (.ret r) ∧ Q r s') E s := by
  unfold Builtin.«len»
  refine wpAny_bind (m := oneArg "len" _) (wpAny_pure ?_)
  refine wpAny_bind (m := callSpecial? (.ref x) (Str.ofString "__len__")) (PySem.W.special_fn KI I hs (beq_iff_eq.mp hf) (wpAny_mono h (fun r s1 z => ?_) fun _ _ y => y))
  obtain ⟨n, t, rfl, hn, q⟩ := z
  refine wpAny_bind (wpAny_holding (wpAny_pure ?_))
  refine wpAny_bind (wpAny_letGo ?_)
  show wpAny _ _ (if ((n : Nat) : Int) < 0 then _ else _) _ _ _
  rw [if_neg (by omega)]
  show wpAny _ _ (if ((n : Nat) : Int) ≥ 2 ^ 63 then _ else _) _ _ _
  rw [if_neg (by omega)]
  exact wpAny_bind (wpAny_mkInt (wpAny_pure ⟨_, rfl, q _ _⟩))
end
section
variable {X : Cx} {CX : CXT} {n : Nat} {C f : Addr} {fd : FuncData} {ps : List Str} {sp : Sp} {E : XK}
/-- len(x), x an instance of the class at C -/
def rLenO (C : Addr) (sp : Sp) (E : XK) : List V → Hp → VK → Prop := fun xs H Q => ∃ p dx fs, xs = [.ref p] ∧ H p = some (.ins C dx fs) ∧ sp [.ref p] H (fun v H' => ∃ n : Nat, v = .int n ∧ n < 2 ^ 62 ∧ Q (.int n) H') E
theorem cr_lenO (hs : PySem.W.findIn X.K (.ref C) "__len__" = some (some (.ref f))) (hf : PySem.W.isFn X.K (.ref f) = true) (F : FnOk X.prog X.w X.K X.mg X.base CX n f fd ps sp) (hr : Room (n + 2) X.A) (hb : L2.Binds X.K fd ps []) (hx : Passes CX X E) :
    CallR X (.builtin "len") (rLenO C sp E) := by
  intro pins s σ H xs us Q I r h
  obtain ⟨p, dx, fs, rfl, hp, q⟩ := h
  obtain ⟨u, rfl, ru⟩ := vals1 r
  cases (show u = Value.ref p from ru)
  obtain ⟨od, J⟩ := inst_at I hp
  have hr1 : Room n X.A.in1 := (Room.in1 (k := n + 1) hr).mono (Nat.le_succ n)
  have hl := F.len _ _ _ _ q
  have rv : Vals [V.ref p] ([Value.ref p] ++ []) := .cons rfl .nil
  refine Calls.call_function_entry kind_len plain_len entry_len (args_len1 _) ?_
  refine lenO_body (Q := fun v s' => EP X pins σ Q v s') I.kIn J hs hf (wpAny_call (codeAny_mono (F.run X.A.in1 X.stack s H ⟨[.ref p], []⟩ ([Value.ref p] ++ []) [.ref p] _ E hr1 I.env0.in1 (hb s [Value.ref p] I.kIn (by rw [List.append_nil]; exact hl)) rv q) fun res s' hq => ?_))
  match res, hq with
  | .error er, hq => exact hx pins σ H s er s' I hq
  | .ok (.ret v), hq =>
    obtain ⟨z, H', I', rz, m, rfl, hm, qz⟩ := I.after hq
    obtain ⟨t, rfl⟩ := rz
    exact ⟨m, t, rfl, hm, fun t' tk => ⟨.int m, H', I'.tok _, ⟨t', rfl⟩, qz⟩⟩
  | .ok .next, hq => exact hq.elim
  | .ok .brk, hq => exact hq.elim
  | .ok .cont, hq => exact hq.elim
end
end RK
namespace RK
open PySem PySem.Spec PyProof.Rows L2
section
variable {prog : Program} {w : World} {A : Around} {E : Value → Shared → Prop} {s : Shared} {K : PySem.W.Frag} {x C f : Addr} {ox : Obj} {od : Option Obj}
/-- its truth, by __len__ alone -/
theorem truthyO {Q : Bool → Shared → Prop} (KI : K.In s.heap) (I : PySem.W.InstAt s.heap x ox C od) (hn : PySem.W.findIn K (.ref C) "__bool__" = some none) (hs : PySem.W.findIn K (.ref C) "__len__" = some (some (.ref f))) (hf : PySem.W.isFn K (.ref f) = true)
    (h : wpAny (model prog w) A.in1 (call (.ref f) [.ref x]) (fun r s1 => ∃ (n : Nat) (t : Tok), r = Value.int n t ∧ n < 2 ^ 62 ∧ ∀ tk, Q (((n : Int)) != 0) { s1 with toks := tk }) E s) : wpAny (model prog w) A (truthy (.ref x)) Q E s := by
  have key : wpAny (model prog w) A (runValue (.builtin "len" ⟨[.ref x], []⟩)) (fun r s' => ∃ (n : Nat) (t : Tok), r = .int n t ∧ Q (((n : Int)) != 0) s') E s := by
    refine wpAny_runValue (codeAny_builtin entry_len ?_)
    rw [Around.under_plainId plain_len _]
    exact wpAny_mono (lenO_body (Q := fun r s' => ∃ (n : Nat) (t : Tok), r = .int n t ∧ Q (((n : Int)) != 0) s') KI I hs hf (wpAny_mono h (fun r s1 z => by obtain ⟨n, t, e, hn, q⟩ := z; exact ⟨n, t, e, hn, fun t' tk => ⟨n, t', rfl, q tk⟩⟩) fun _ _ e => e)) (fun fin s' h' => by obtain ⟨r, rfl, hq⟩ := h'; exact hq) fun _ _ e => e
  have hsp : ∀ {Q' : Option Value → Shared → Prop}, Q' (some (.ref f)) s → wpAny (model prog w) A (specialOf (.ref x) "__len__") Q' E s := fun q => by
    unfold specialOf
    exact wpAny_bind (I.type.here ((PySem.W.looks_findIn KI hs).here q))
  have noB : ∀ {Q' : Option Value → Shared → Prop}, Q' none s → wpAny (model prog w) A (callSpecial? (.ref x) "__bool__") Q' E s := fun q => by
    unfold callSpecial? specialOf
    exact wpAny_bind (wpAny_bind (I.type.here ((PySem.W.looks_findIn KI hn).here (wpAny_pure q))))
  unfold truthy
  first
    | refine wpAny_bind (noB ?_)
    | refine wpAny_bind (wpAny_pure (wpAny_bind (noB ?_)))
  first
    | refine wpAny_bind (hsp ?_)
    | refine wpAny_bind (wpAny_pure (wpAny_bind (hsp ?_)))
  first
    | exact wpAny_bind (wpAny_mono key (fun r s' h' => by obtain ⟨n, t, rfl, hq⟩ := h'; exact wpAny_pure hq) fun _ _ e => e)
    | exact wpAny_bind (wpAny_pure (wpAny_bind (wpAny_mono key (fun r s' h' => by obtain ⟨n, t, rfl, hq⟩ := h'; exact wpAny_pure hq) fun _ _ e => e)))
end
end RK

/-! bool(x) of an instance whose class has an own __len__ and no __bool__ -/
namespace RK
open PySem PySem.Spec PyProof.Rows L2
section
variable {prog : Program} {w : World} {A : Around} {E : Value → Shared → Prop} {s : Shared} {K : PySem.W.Frag} {x C f : Addr} {ox : Obj} {od : Option Obj}
theorem bool_ownI {Q : Value → Shared → Prop} (h : wpAny (model prog w) A.in1.in1 (truthy (.ref x)) (fun b s1 => Q (.bool b) s1) E s) : wpAny (model prog w) A (call (.type "bool") [.ref x]) Q E s := by
  refine callType_codes (T := "bool") (Bi := Builtin.«object.__init__») (Q₁ := fun r s1 => ∃ b, r = Value.bool b ∧ Q r s1) PySem.F.called_bool (PySem.F.typeCall_bool_1 _) PySem.F.entry_object_init (codeAny_of_tree ?_) (fun obj s1 z => ?_)
  · show wpAny _ A.in1.in1 (do checkBuiltinCall "bool.__new__" ⟨[.type "bool", .ref x], []⟩; again (.builtin "bool.__new__" ⟨[.type "bool", .ref x], []⟩)) _ _ s
    refine wpAny_bind (wpAny_of_eq (PySem.F.newCall_bool_1 _) (wpAny_pure ⟨plainId_quiet (by decide +kernel) _, codeAny_builtin PySem.F.entry_bool_new ?_⟩))
    rw [Around.under_plainId (by decide +kernel) _]
    have f1 := PySem.F.conv_sub_bool
    obtain ⟨hp, g, d, tk, os⟩ := s
    repeat (any_goals (first | assumption | (with_reducible refine wpAny_mono h (fun b s1 q => ?_) fun _ _ e => e) | wp_step))
    exact ⟨b, rfl, q⟩
  · obtain ⟨b, rfl, q⟩ := z
    exact ⟨PySem.typeIs_bool _ _, PySem.F.args_object_init_2 _ _, object_init_meets PySem.F.called_bool.init.lookup PySem.F.called_bool.made (by decide) prog w A.in1 _ s1 ⟨PySem.typeIs_bool _ _, rfl, q⟩⟩
end
section
variable {X : Cx} {CX : CXT} {n : Nat} {C f : Addr} {fd : FuncData} {ps : List Str} {sp : Sp} {E : XK}
/-- bool(x), x an instance of the class at C -/
def rBoolO (C : Addr) (sp : Sp) (E : XK) : List V → Hp → VK → Prop := fun xs H Q => ∃ p dx fs, xs = [.ref p] ∧ H p = some (.ins C dx fs) ∧ sp [.ref p] H (fun v H' => ∃ n : Nat, v = .int n ∧ n < 2 ^ 62 ∧ Q (.bl (((n : Int)) != 0)) H') E
theorem cr_boolO (hn : PySem.W.findIn X.K (.ref C) "__bool__" = some none) (hs : PySem.W.findIn X.K (.ref C) "__len__" = some (some (.ref f))) (hf : PySem.W.isFn X.K (.ref f) = true) (F : FnOk X.prog X.w X.K X.mg X.base CX n f fd ps sp) (hr : Room (n + 3) X.A) (hb : L2.Binds X.K fd ps []) (hx : Passes CX X E) :
    CallR X (.type "bool") (rBoolO C sp E) := by
  intro pins s σ H xs us Q I r h
  obtain ⟨p, dx, fs, rfl, hp, q⟩ := h
  obtain ⟨u, rfl, ru⟩ := vals1 r
  cases (show u = Value.ref p from ru)
  obtain ⟨od, J⟩ := inst_at I hp
  have hr3 : Room n X.A.in1.in1.in1 := ((Room.in1 (k := n + 2) hr).in1).in1
  have hl := F.len _ _ _ _ q
  have rv : Vals [V.ref p] ([Value.ref p] ++ []) := .cons rfl .nil
  refine bool_ownI (truthyO I.kIn J hn hs hf (wpAny_call (codeAny_mono (F.run X.A.in1.in1.in1 X.stack s H ⟨[.ref p], []⟩ ([Value.ref p] ++ []) [.ref p] _ E hr3 I.env0.in1.in1.in1 (hb s [Value.ref p] I.kIn (by rw [List.append_nil]; exact hl)) rv q) fun res s' hq => ?_)))
  match res, hq with
  | .error er, hq => exact hx pins σ H s er s' I hq
  | .ok (.ret v), hq =>
    obtain ⟨z, H', I', rz, m, rfl, hm, qz⟩ := I.after hq
    obtain ⟨t, rfl⟩ := rz
    exact ⟨m, t, rfl, hm, fun tk => ⟨.bl _, H', I'.tok _, rfl, qz⟩⟩
  | .ok .next, hq => exact hq.elim
  | .ok .brk, hq => exact hq.elim
  | .ok .cont, hq => exact hq.elim
end
end RK

/-! an instance and any value, by !=: object's own __ne__ asks the class's __eq__ -/
namespace PySem.RkX
open PySem PySem.W
section
variable {prog : Program} {w : World} {A : Around} {E : Value → Shared → Prop} {s : Shared} {K : Frag} {x C L f : Addr} {h₀ : Heap} {m : Str → Option Value} {ox : Obj} {od : Option Obj}
theorem ne_any {y tb : Value} {Q : Value → Shared → Prop} (hu : A.units + 1 < cLine) (X : K.In s.heap) (I : InstAt s.heap x ox C od)
    (hs : findIn K (.ref C) "__eq__" = some (some (.ref f))) (hf : isFn K (.ref f) = true) (hn : findIn K (.ref C) "__ne__" = some (some (.builtin "object.__ne__"))) (hob : subIn K (.ref C) (.type "object") = some true) (hy : Looks (model prog w) s.heap (typeOf y) tb) (hnf : notFirst K C tb = true)
    (h : wpAny (model prog w) A.in1 (call (.ref f) [.ref x, y]) (fun v s' => ∃ b, v = .bool b ∧ Q (.bool (!b)) s') E s) : wpAny (model prog w) A (richCompare .NotEq (.ref x) y) Q E s := by
  have called : wpAny (model prog w) A (call (.builtin "object.__ne__") [.ref x, y]) (fun v s' => ∃ b, v = .bool b ∧ Q (.bool b) s') E s := by
    refine wpAny_call (codeAny_call_builtin F.cmp_object.ne.plain F.cmpEntry_ne (ne_checkV X I hob ?_))
    refine ne_entryV (A := A.in1) hu X I hs hf (wpAny_mono h (fun v s' hv => ?_) fun _ _ e => e)
    obtain ⟨b, rfl, hq⟩ := hv
    exact ⟨b, rfl, _, rfl, hq⟩
  have bound : wpAny (model prog w) A (callSpecialIfBound? (.ref x) "__ne__" [y]) (fun r s' => ∃ b, r = some (.bool b) ∧ Q (.bool b) s') E s := by
    simp only [callSpecialIfBound?, bindSpecialIfBound?]
    refine wpAny_holding (wpAny_bind (wpAny_bind (wpAny_bind (I.type.here ((looks_findIn X hn).here ?_)))))
    have sb := F.cmp_object.ne.bind
    simp only [sb]
    refine wpAny_bind (wpAny_askSetting (wpAny_ite ?_))
    have fin : wpAny (model prog w) A (call (.builtin "object.__ne__") ([.ref x] ++ [y]) >>= fun v => pure (some v)) (fun r s' => ∃ b, r = some (.bool b) ∧ Q (.bool b) s') E s :=
      wpAny_bind (wpAny_mono called (fun v s' h' => wpAny_pure (by obtain ⟨b, rfl, q⟩ := h'; exact ⟨b, rfl, q⟩)) fun _ _ h' => h')
    split
    · exact wpAny_bind (wpAny_pure (wpAny_pure fin))
    · exact wpAny_tryCatch (wpAny_bind (wpAny_pure (wpAny_pure fin)))
  have one : wpAny (model prog w) A (tryCompare (.ref x) "__ne__" y) (fun r s' => ∃ b, r = some (.bool b) ∧ Q (.bool b) s') E s := by
    unfold tryCompare
    refine wpAny_bind (wpAny_mono bound (fun r s' hr => ?_) fun _ _ e => e)
    obtain ⟨b, rfl, q⟩ := hr
    exact wpAny_pure ⟨b, rfl, q⟩
  unfold richCompare
  simp only [oneThing_ref]
  refine wpAny_holding (wpAny_bind (wpAny_cRoomFor (Nat.lt_of_succ_lt hu) ?_))
  refine wpAny_bind (I.type.here (wpAny_bind (hy.here ?_)))
  split
  · rename_i q
    have e : subIn K tb (.ref C) = some false := by
      rcases Bool.or_eq_true_iff.mp hnf with e | e
      · rw [beq_iff_eq.mp e] at q; simp at q
      · exact beq_iff_eq.mp e
    refine wpAny_bind ((looks_subIn X e).here ?_)
    simp only [Bool.false_eq_true, if_false]
    refine wpAny_bind (wpAny_mono one (fun r s' z => ?_) fun _ _ e => e)
    obtain ⟨b, rfl, hq⟩ := z
    exact wpAny_pure hq
  · refine wpAny_bind (wpAny_pure ?_)
    simp only [Bool.false_eq_true, if_false]
    refine wpAny_bind (wpAny_mono one (fun r s' z => ?_) fun _ _ e => e)
    obtain ⟨b, rfl, hq⟩ := z
    exact wpAny_pure hq
end
end PySem.RkX
namespace RK
open PySem PySem.Spec PyProof.Rows L2
section
variable {X : Cx} {CX : CXT} {n : Nat} {C f g0 : Addr} {fd : FuncData} {ps : List Str} {sp : Sp} {E : XK}
/-- a != anything, by the class's own == -/
def rNeA (K : PySem.W.Frag) (C : Addr) (sp : Sp) (E : XK) : R2 := fun x y H Q => ∃ a dx fs t, x = .ref a ∧ H a = some (.ins C dx fs) ∧ TyX K H y t ∧ PySem.W.notFirst K C t = true ∧ sp [x, y] H (fun v H' => ∃ k, v = .bl k ∧ Q (.bl (!k)) H') E
theorem op_neA (hs : PySem.W.findIn X.K (.ref C) "__eq__" = some (some (.ref f))) (hf : PySem.W.isFn X.K (.ref f) = true) (hn : PySem.W.findIn X.K (.ref C) "__ne__" = some (some (.builtin "object.__ne__"))) (hob : PySem.W.subIn X.K (.ref C) (.type "object") = some true)
    (F : FnOk X.prog X.w X.K X.mg X.base CX n f fd ps sp) (hr : Room (n + 1) X.A) (hb : Binds X.K fd ps []) (hx : Passes CX X E) : OpR X (compareOp .NotEq) (rNeA X.K C sp E) := by
  intro pins s σ H x y v u Q I rx ry h
  obtain ⟨a, dx, fs, t, rfl, ha, ty, hnf, q⟩ := h
  cases (show v = Value.ref a from rx)
  obtain ⟨od, J⟩ := inst_at I ha
  obtain ⟨P, Z, p, _⟩ := kit_of I ry ty
  have hu : X.A.units + 1 < cLine := Nat.lt_of_le_of_lt (Nat.add_le_add_left (by decide : 1 ≤ 64) _) hr.units
  show wpAny (model X.prog X.w) X.A (richCompare .NotEq (.ref a) u) (EP X pins σ Q) X.xe s
  refine PySem.RkX.ne_any hu I.kIn J hs hf hn hob (Z.ty _ _ I.kIn p) hnf ?_
  have hr1 : Room n X.A.in1 := hr.in1
  have r2 : Vals [V.ref a, y] [Value.ref a, u] := .cons rfl (.cons ry .nil)
  have hl := F.len _ _ _ _ q
  refine wpAny_call (codeAny_mono (F.run X.A.in1 X.stack s H ⟨[.ref a, u], []⟩ [.ref a, u] [.ref a, y] _ E hr1 I.env0.in1 (by
    have := hb s [.ref a, u] I.kIn (by simpa using hl)
    simpa using this) r2 q) fun r s' hq => ?_)
  cases r with
  | error e => exact hx pins σ H s e s' I hq
  | ok fl =>
    cases fl with
    | ret w =>
      obtain ⟨z, H', I', rz, k, ez, qz⟩ := I.after hq
      subst ez
      cases rz
      exact ⟨k, rfl, .bl (!k), H', I', rfl, qz⟩
    | next => exact False.elim hq
    | brk => exact False.elim hq
    | cont => exact False.elim hq
end
end RK

/-! {x!s} of an instance whose class has an own __str__; a method with one word of a text whose reckoning wants a token -/
namespace RK
open PySem PySem.Spec PyProof.Rows L2
section
variable {prog : Program} {w : World} {A : Around} {E : Value → Shared → Prop} {s : Shared} {K : PySem.W.Frag} {x C f : Addr} {ox : Obj} {od : Option Obj}
theorem pyStr_own {Q : Value → Shared → Prop} (hu : A.units < cLine) (KI : K.In s.heap) (I : PySem.W.InstAt s.heap x ox C od) (hs : PySem.W.findIn K (.ref C) "__str__" = some (some (.ref f))) (hf : PySem.W.isFn K (.ref f) = true)
    (h : wpAny (model prog w) A (call (.ref f) [.ref x]) (fun r s1 => ∃ y u, r = Value.str y u ∧ Q r s1) E s) : wpAny (model prog w) A (pyStrObj (.ref x)) Q E s := by
  unfold pyStrObj
  refine wpAny_bind (m := cRoomFor _ _) (wpAny_cRoomFor hu (wpAny_bind (m := callSpecial? (.ref x) (Str.ofString "__str__")) (PySem.W.special_fn KI I hs (beq_iff_eq.mp hf) (wpAny_mono h (fun r s1 z => ?_) fun _ _ y => y))))
  obtain ⟨y, u, rfl, q⟩ := z
  exact wpAny_bind (wpAny_isInstance (T := "str") (b := true) rfl isSubtype_str_str (wpAny_pure q))
end
section
variable {X : Cx} {CX : CXT} {n : Nat} {C f : Addr} {fd : FuncData} {ps : List Str} {sp : Sp} {E : XK}
/-- {x!s}, x an instance of the class at C -/
def tFmtSO (C : Addr) (sp : Sp) (E : XK) (te : TE) : TE := fun σ H Q => te σ H fun x H1 => ∃ p dx fs, x = .ref p ∧ H1 p = some (.ins C dx fs) ∧ sp [.ref p] H1 (fun v H' => ∃ y : Str, v = .str y ∧ y.length ≤ sizeLine ∧ Q (.str y) H') E
theorem pe_fmtSO {e : Expr} {te : TE} {pos : Pos} (hs : PySem.W.findIn X.K (.ref C) "__str__" = some (some (.ref f))) (hf : PySem.W.isFn X.K (.ref f) = true) (F : FnOk X.prog X.w X.K X.mg X.base CX n f fd ps sp) (hr : Room n X.A) (hb : L2.Binds X.K fd ps []) (hx : Passes CX X E)
    (he : PE X e te) : PE X (.FormattedValue e 115 none pos) (tFmtSO C sp E te) := by
  refine ⟨fun pins s σ H Q I h => ?_⟩
  refine wpAny_FormattedValue_s (thn (he.run pins s σ H _ I h) fun v s1 hv => ?_)
  obtain ⟨_, H1, I1, r1, p, dx, fs, rfl, hp, q⟩ := hv
  cases (show v = Value.ref p from r1)
  obtain ⟨od, J⟩ := inst_at I1 hp
  have hl := F.len _ _ _ _ q
  have rv : Vals [V.ref p] ([Value.ref p] ++ []) := .cons rfl .nil
  show wpAny _ _ (pyStrObj (.ref p)) _ _ _
  refine pyStr_own (by have := hr.un; omega) I1.kIn J hs hf (wpAny_call (codeAny_mono (F.run X.A X.stack s1 H1 ⟨[.ref p], []⟩ ([Value.ref p] ++ []) [.ref p] _ E hr I1.env0 (hb s1 [Value.ref p] I1.kIn (by rw [List.append_nil]; exact hl)) rv q) fun res s' hq => ?_))
  match res, hq with
  | .error er, hq => exact hx pins σ H1 s1 er s' I1 hq
  | .ok (.ret v), hq =>
    obtain ⟨z, H', I', rz, y, rfl, hz, qz⟩ := I1.after hq
    obtain ⟨t, rfl⟩ := rz
    exact ⟨y, t, rfl, wpAny_formatField_str ⟨.str y, H', I', ⟨t, rfl⟩, qz⟩ ⟨.str y, H', I'.tok _, ⟨_, rfl⟩, qz⟩ hz⟩
  | .ok .next, hq => exact hq.elim
  | .ok .brk, hq => exact hq.elim
  | .ok .cont, hq => exact hq.elim
end
section
variable {X : Cx} {o e : Expr} {to te : TE}
/-- o.name(e), o a text whose reckoning wants a token -/
theorem pet_m1 {id : String} {name : Str} {apos pos : Pos} {r : V → List V → Hp → VK → Prop} (sl : Slot "str" name id) (ty : typeOf (.builtin id) = pure (.type "method_descriptor")) (ru : MtR X id r) (ho : PET X o to) (he : PE X e te)
    (hs : starEach [e] X.env = [(false, eval e X.env)] := by rfl) (hb : attributeBase o name X.env (eval o X.env) = eval o X.env := by rfl) (hl : (apos.endLine == pos.line) = true := by rfl) : PET X (.Call (.Attribute o name apos) [e] [] pos) (tM1 r to te) := by
  intro pins s σ H Q h0 I h
  refine PySem.Call_method1 hb hs hl (thn (ho pins s σ H _ h0 I h) fun v s1 hv => ?_)
  obtain ⟨x, H1, I1, r1, ⟨a, ex⟩, q1⟩ := hv
  subst ex
  have r1' := r1
  obtain ⟨t, ev⟩ := r1'
  subst ev
  refine ⟨"str", _, PySem.F.plainAttrs_str, sl, ty, typeIs_str _ _ _, (fun _ z => nomatch z), Calls.callWith_builtin rfl (Calls.evalArgs_plain (Calls.spliced_cons (thn (he.run pins s1 σ H1 _ I1 q1) fun u s2 hu => ?_)))⟩
  obtain ⟨y, H2, I2, r2, q2⟩ := hu
  exact Calls.spliced_nil (ru pins s2 σ H2 _ [y] _ [u] Q I2 r1 (.cons r2 .nil) q2)
end
end RK

namespace RK17
open PySem PySem.Spec L2 RK RZ StX
def top (i : Nat) : Stmt := PySem.Challenge.pw_slackstrings_k17_whole_texts_of_wishes.main.body.getD i (.Pass ⟨0, 0, 0, 0⟩)
abbrev s_is_whole : Stmt := top 25
theorem sc_is_whole : FnScope ["value"] ["value"] (defScope s_is_whole) := ⟨rfl, rfl, rfl, by decide +kernel, rfl, by decide +kernel, by decide +kernel⟩
abbrev s_is_number : Stmt := top 26
theorem sc_is_number : FnScope ["value"] ["value"] (defScope s_is_number) := ⟨rfl, rfl, rfl, by decide +kernel, rfl, by decide +kernel, by decide +kernel⟩
abbrev s_is_small_letter : Stmt := top 27
theorem sc_is_small_letter : FnScope ["value"] ["value"] (defScope s_is_small_letter) := ⟨rfl, rfl, rfl, by decide +kernel, rfl, by decide +kernel, by decide +kernel⟩
abbrev s_is_capital : Stmt := top 28
theorem sc_is_capital : FnScope ["value"] ["value"] (defScope s_is_capital) := ⟨rfl, rfl, rfl, by decide +kernel, rfl, by decide +kernel, by decide +kernel⟩
abbrev s_is_word : Stmt := top 29
theorem sc_is_word : FnScope ["value", "sign"] ["value"] (defScope s_is_word) := ⟨rfl, rfl, rfl, by decide +kernel, rfl, by decide +kernel, by decide +kernel⟩
abbrev s_is_row : Stmt := top 30
theorem sc_is_row : FnScope ["value", "least", "most"] ["value", "least", "most"] (defScope s_is_row) := ⟨rfl, rfl, rfl, by decide +kernel, rfl, by decide +kernel, by decide +kernel⟩
abbrev s_is_rising : Stmt := top 31
theorem sc_is_rising : FnScope ["signs", "one", "other"] ["signs"] (defScope s_is_rising) := ⟨rfl, rfl, rfl, by decide +kernel, rfl, by decide +kernel, by decide +kernel⟩
abbrev s_are_capitals : Stmt := top 32
theorem sc_are_capitals : FnScope ["value", "most", "sign"] ["value", "most"] (defScope s_are_capitals) := ⟨rfl, rfl, rfl, by decide +kernel, rfl, by decide +kernel, by decide +kernel⟩
abbrev s_is_one_of : Stmt := top 33
theorem sc_is_one_of : FnScope ["value", "strings"] ["value", "strings"] (defScope s_is_one_of) := ⟨rfl, rfl, rfl, by decide +kernel, rfl, by decide +kernel, by decide +kernel⟩
abbrev s_Puppet_init : Stmt := inClass (top 64) 0
theorem sc_Puppet_init : FnScope ["self", "parts", "ties", "hooks", "strings", "name", "_"] ["self", "parts", "ties", "hooks", "strings"] (defScope s_Puppet_init) := ⟨rfl, rfl, rfl, by decide +kernel, rfl, by decide +kernel, by decide +kernel⟩
abbrev s_check_parts : Stmt := top 65
theorem sc_check_parts : FnScope ["parts", "index", "part"] ["parts"] (defScope s_check_parts) := ⟨rfl, rfl, rfl, by decide +kernel, rfl, by decide +kernel, by decide +kernel⟩
abbrev s_check_ties : Stmt := top 66
theorem sc_check_ties : FnScope ["ties", "parts", "index", "tie"] ["ties", "parts"] (defScope s_check_ties) := ⟨rfl, rfl, rfl, by decide +kernel, rfl, by decide +kernel, by decide +kernel⟩
abbrev s_is_tie : Stmt := top 67
theorem sc_is_tie : FnScope ["value", "parts"] ["value", "parts"] (defScope s_is_tie) := ⟨rfl, rfl, rfl, by decide +kernel, rfl, by decide +kernel, by decide +kernel⟩
abbrev s_is_tied : Stmt := top 68
theorem sc_is_tied : FnScope ["part", "other", "ties", "one", "two", "_"] ["part", "other", "ties"] (defScope s_is_tied) := ⟨rfl, rfl, rfl, by decide +kernel, rfl, by decide +kernel, by decide +kernel⟩
abbrev s_check_strings : Stmt := top 69
theorem sc_check_strings : FnScope ["strings", "hooks", "parts", "index", "string"] ["strings", "hooks", "parts"] (defScope s_check_strings) := ⟨rfl, rfl, rfl, by decide +kernel, rfl, by decide +kernel, by decide +kernel⟩
abbrev s_is_string : Stmt := top 70
theorem sc_is_string : FnScope ["value", "hooks", "parts"] ["value", "hooks", "parts"] (defScope s_is_string) := ⟨rfl, rfl, rfl, by decide +kernel, rfl, by decide +kernel, by decide +kernel⟩
abbrev s_distances_of : Stmt := top 71
theorem sc_distances_of : FnScope ["parts", "ties", "found", "part", "other", "reach", "middle"] ["parts", "ties"] (defScope s_distances_of) := ⟨rfl, rfl, rfl, by decide +kernel, rfl, by decide +kernel, by decide +kernel⟩
abbrev s_shorten : Stmt := top 72
theorem sc_shorten : FnScope ["distances", "part", "middle", "other", "first", "second", "known"] ["distances", "part", "middle", "other"] (defScope s_shorten) := ⟨rfl, rfl, rfl, by decide +kernel, rfl, by decide +kernel, by decide +kernel⟩
abbrev s_moment_at : Stmt := top 35
theorem sc_moment_at : FnScope ["value", "last"] ["value", "last"] (defScope s_moment_at) := ⟨rfl, rfl, rfl, by decide +kernel, rfl, by decide +kernel, by decide +kernel⟩
abbrev s_is_level : Stmt := top 47
theorem sc_is_level : FnScope ["value"] ["value"] (defScope s_is_level) := ⟨rfl, rfl, rfl, by decide +kernel, rfl, by decide +kernel, by decide +kernel⟩
abbrev s_p_level_text : Stmt := top 49
theorem sc_p_level_text : FnScope ["level"] ["level"] (defScope s_p_level_text) := ⟨rfl, rfl, rfl, by decide +kernel, rfl, by decide +kernel, by decide +kernel⟩
abbrev s_level_in : Stmt := top 50
theorem sc_level_in : FnScope ["text", "name", "at", "moment"] ["text"] (defScope s_level_in) := ⟨rfl, rfl, rfl, by decide +kernel, rfl, by decide +kernel, by decide +kernel⟩
abbrev s_moment_in : Stmt := top 51
theorem sc_moment_in : FnScope ["text"] ["text"] (defScope s_moment_in) := ⟨rfl, rfl, rfl, by decide +kernel, rfl, by decide +kernel, by decide +kernel⟩
abbrev s_Ratio_init : Stmt := inClass (top 53) 0
theorem sc_Ratio_init : FnScope ["self", "top", "bottom", "shared"] ["self", "top", "bottom"] (defScope s_Ratio_init) := ⟨rfl, rfl, rfl, by decide +kernel, rfl, by decide +kernel, by decide +kernel⟩
abbrev s_Ratio_str : Stmt := inClass (top 53) 2
theorem sc_Ratio_str : FnScope ["self"] ["self"] (defScope s_Ratio_str) := ⟨rfl, rfl, rfl, by decide +kernel, rfl, by decide +kernel, by decide +kernel⟩
abbrev s_ratio_in : Stmt := top 56
theorem sc_ratio_in : FnScope ["text", "top", "slash", "bottom"] ["text"] (defScope s_ratio_in) := ⟨rfl, rfl, rfl, by decide +kernel, rfl, by decide +kernel, by decide +kernel⟩
abbrev s_has_digits_alone : Stmt := top 57
theorem sc_has_digits_alone : FnScope ["text"] ["text"] (defScope s_has_digits_alone) := ⟨rfl, rfl, rfl, by decide +kernel, rfl, by decide +kernel, by decide +kernel⟩
abbrev s_Wish_init : Stmt := inClass (top 85) 0
theorem sc_Wish_init : FnScope ["self", "form"] ["self", "form"] (defScope s_Wish_init) := ⟨rfl, rfl, rfl, by decide +kernel, rfl, by decide +kernel, by decide +kernel⟩
abbrev s_Wish_eq : Stmt := inClass (top 85) 1
theorem sc_Wish_eq : FnScope ["self", "other"] ["self", "other"] (defScope s_Wish_eq) := ⟨rfl, rfl, rfl, by decide +kernel, rfl, by decide +kernel, by decide +kernel⟩
abbrev s_Wish_str : Stmt := inClass (top 85) 2
theorem sc_Wish_str : FnScope ["self"] ["self"] (defScope s_Wish_str) := ⟨rfl, rfl, rfl, by decide +kernel, rfl, by decide +kernel, by decide +kernel⟩
abbrev s_Wish_read : Stmt := inClass (top 85) 3
theorem sc_Wish_read : FnScope ["text", "form"] ["text"] (defScope s_Wish_read) := ⟨rfl, rfl, rfl, by decide +kernel, rfl, by decide +kernel, by decide +kernel⟩
abbrev s_is_wish_form : Stmt := top 86
theorem sc_is_wish_form : FnScope ["value"] ["value"] (defScope s_is_wish_form) := ⟨rfl, rfl, rfl, by decide +kernel, rfl, by decide +kernel, by decide +kernel⟩
abbrev s_is_shaped : Stmt := top 87
theorem sc_is_shaped : FnScope ["value", "depth", "each"] ["value", "depth"] (defScope s_is_shaped) := ⟨rfl, rfl, rfl, by decide +kernel, rfl, by decide +kernel, by decide +kernel⟩
abbrev s_is_counted : Stmt := top 88
theorem sc_is_counted : FnScope ["word", "many"] ["word", "many"] (defScope s_is_counted) := ⟨rfl, rfl, rfl, by decide +kernel, rfl, by decide +kernel, by decide +kernel⟩
abbrev s_is_surplus : Stmt := top 89
theorem sc_is_surplus : FnScope ["value"] ["value"] (defScope s_is_surplus) := ⟨rfl, rfl, rfl, by decide +kernel, rfl, by decide +kernel, by decide +kernel⟩
abbrev s_surplus_of : Stmt := top 90
theorem sc_surplus_of : FnScope ["form", "surplus"] ["form"] (defScope s_surplus_of) := ⟨rfl, rfl, rfl, by decide +kernel, rfl, by decide +kernel, by decide +kernel⟩
abbrev s_overs_in : Stmt := top 91
theorem sc_overs_in : FnScope ["form", "found", "each"] ["form"] (defScope s_overs_in) := ⟨rfl, rfl, rfl, by decide +kernel, rfl, by decide +kernel, by decide +kernel⟩
abbrev s_wish_text : Stmt := top 95
theorem sc_wish_text : FnScope ["form", "top", "bottom", "inner", "each"] ["form"] (defScope s_wish_text) := ⟨rfl, rfl, rfl, by decide +kernel, rfl, by decide +kernel, by decide +kernel⟩
abbrev s_wish_form_in : Stmt := top 96
theorem sc_wish_form_in : FnScope ["text", "lists", "word", "done"] ["text"] (defScope s_wish_form_in) := ⟨rfl, rfl, rfl, by decide +kernel, rfl, by decide +kernel, by decide +kernel⟩
abbrev s_closed : Stmt := top 97
theorem sc_closed : FnScope ["words", "word"] ["words"] (defScope s_closed) := ⟨rfl, rfl, rfl, by decide +kernel, rfl, by decide +kernel, by decide +kernel⟩
abbrev s_surplus_in : Stmt := top 98
theorem sc_surplus_in : FnScope ["text", "found"] ["text"] (defScope s_surplus_in) := ⟨rfl, rfl, rfl, by decide +kernel, rfl, by decide +kernel, by decide +kernel⟩
abbrev s_bag : Stmt := top 100
theorem sc_bag : FnScope ["_law_cells", "_law_k", "_law_cell", "_law_seed", "_law_this", "_law_figures"] ["_law_cells", "_law_k"] (defScope s_bag) := ⟨rfl, rfl, rfl, by decide +kernel, rfl, by decide +kernel, by decide +kernel⟩
abbrev s_draw : Stmt := top 101
theorem sc_draw : FnScope ["_law_bag_here", "_law_wide", "_law_figure", "_law_held", "_law_times"] ["_law_bag_here", "_law_wide"] (defScope s_draw) := ⟨rfl, rfl, rfl, by decide +kernel, rfl, by decide +kernel, by decide +kernel⟩
abbrev s_one : Stmt := top 102
theorem sc_one : FnScope ["_law_bag_here", "_law_some"] ["_law_bag_here", "_law_some"] (defScope s_one) := ⟨rfl, rfl, rfl, by decide +kernel, rfl, by decide +kernel, by decide +kernel⟩
abbrev s_words : Stmt := top 103
theorem sc_words : FnScope ["_law_bag_here", "_law_many", "_law_found", "_law_turn", "_law_made", "_law_k"] ["_law_bag_here", "_law_many"] (defScope s_words) := ⟨rfl, rfl, rfl, by decide +kernel, rfl, by decide +kernel, by decide +kernel⟩
abbrev s_letters : Stmt := top 104
theorem sc_letters : FnScope ["_law_bag_here", "_law_pool", "_law_many", "_law_left", "_law_found", "_law_turn"] ["_law_bag_here", "_law_pool", "_law_many"] (defScope s_letters) := ⟨rfl, rfl, rfl, by decide +kernel, rfl, by decide +kernel, by decide +kernel⟩
abbrev s_cords : Stmt := top 105
theorem sc_cords : FnScope ["_law_bag_here", "_law_limbs", "_law_pairs", "_law_k", "_law_j", "_law_pair"] ["_law_bag_here", "_law_limbs"] (defScope s_cords) := ⟨rfl, rfl, rfl, by decide +kernel, rfl, by decide +kernel, by decide +kernel⟩
abbrev s_shape : Stmt := top 106
theorem sc_shape : FnScope ["_law_bag_here", "_law_limbs", "_law_pegs", "_law_called", "_law_lines", "_law_each"] ["_law_bag_here"] (defScope s_shape) := ⟨rfl, rfl, rfl, by decide +kernel, rfl, by decide +kernel, by decide +kernel⟩
abbrev s_level : Stmt := top 107
theorem sc_level : FnScope ["_law_bag_here", "_law_shape_here", "_law_far_when", "_law_way", "_law_when"] ["_law_bag_here", "_law_shape_here", "_law_far_when"] (defScope s_level) := ⟨rfl, rfl, rfl, by decide +kernel, rfl, by decide +kernel, by decide +kernel⟩
abbrev s_more : Stmt := top 108
theorem sc_more : FnScope ["_law_bag_here"] ["_law_bag_here"] (defScope s_more) := ⟨rfl, rfl, rfl, by decide +kernel, rfl, by decide +kernel, by decide +kernel⟩
abbrev s_plea : Stmt := top 109
theorem sc_plea : FnScope ["_law_bag_here", "_law_shape_here", "_law_far_when", "_law_room", "_law_way", "_law_early"] ["_law_bag_here", "_law_shape_here", "_law_far_when", "_law_room"] (defScope s_plea) := ⟨rfl, rfl, rfl, by decide +kernel, rfl, by decide +kernel, by decide +kernel⟩
abbrev s_level_text : Stmt := top 110
theorem sc_level_text : FnScope ["_law_level_here"] ["_law_level_here"] (defScope s_level_text) := ⟨rfl, rfl, rfl, by decide +kernel, rfl, by decide +kernel, by decide +kernel⟩
abbrev s_written : Stmt := top 111
theorem sc_written : FnScope ["_law_plea_here", "_law_more_here", "_law_line", "_law_pair", "_law_each"] ["_law_plea_here"] (defScope s_written) := ⟨rfl, rfl, rfl, by decide +kernel, rfl, by decide +kernel, by decide +kernel⟩
abbrev s_right : Stmt := top 112
theorem sc_right : FnScope ["_law_bag_here", "_law_shape_here", "_law_made", "_law_turn", "_law_plea_here", "_law_line", "_law_mine", "_law_again", "_law_found", "_law_this", "_law_that"] ["_law_bag_here"] (defScope s_right) := ⟨rfl, rfl, rfl, by decide +kernel, rfl, by decide +kernel, by decide +kernel⟩
abbrev s_law : Stmt := top 113
theorem sc_law : FnScope ["_law_cells", "_law_plea_here", "_law_line", "_law_k"] ["_law_cells"] (defScope s_law) := ⟨rfl, rfl, rfl, by decide +kernel, rfl, by decide +kernel, by decide +kernel⟩
structure Ad where
  C_Puppet : Addr
  C_Ratio : Addr
  C_Wish : Addr
  f_is_whole : Addr
  d_is_whole : FuncData
  f_is_number : Addr
  d_is_number : FuncData
  f_is_small_letter : Addr
  d_is_small_letter : FuncData
  f_is_capital : Addr
  d_is_capital : FuncData
  f_is_word : Addr
  d_is_word : FuncData
  f_is_row : Addr
  d_is_row : FuncData
  f_is_rising : Addr
  d_is_rising : FuncData
  f_are_capitals : Addr
  d_are_capitals : FuncData
  f_is_one_of : Addr
  d_is_one_of : FuncData
  f_Puppet_init : Addr
  d_Puppet_init : FuncData
  f_check_parts : Addr
  d_check_parts : FuncData
  f_check_ties : Addr
  d_check_ties : FuncData
  f_is_tie : Addr
  d_is_tie : FuncData
  f_is_tied : Addr
  d_is_tied : FuncData
  f_check_strings : Addr
  d_check_strings : FuncData
  f_is_string : Addr
  d_is_string : FuncData
  f_distances_of : Addr
  d_distances_of : FuncData
  f_shorten : Addr
  d_shorten : FuncData
  f_moment_at : Addr
  d_moment_at : FuncData
  f_is_level : Addr
  d_is_level : FuncData
  f_p_level_text : Addr
  d_p_level_text : FuncData
  f_level_in : Addr
  d_level_in : FuncData
  f_moment_in : Addr
  d_moment_in : FuncData
  f_Ratio_init : Addr
  d_Ratio_init : FuncData
  f_Ratio_str : Addr
  d_Ratio_str : FuncData
  f_ratio_in : Addr
  d_ratio_in : FuncData
  f_has_digits_alone : Addr
  d_has_digits_alone : FuncData
  f_Wish_init : Addr
  d_Wish_init : FuncData
  f_Wish_eq : Addr
  d_Wish_eq : FuncData
  f_Wish_str : Addr
  d_Wish_str : FuncData
  f_Wish_read : Addr
  d_Wish_read : FuncData
  f_is_wish_form : Addr
  d_is_wish_form : FuncData
  f_is_shaped : Addr
  d_is_shaped : FuncData
  f_is_counted : Addr
  d_is_counted : FuncData
  f_is_surplus : Addr
  d_is_surplus : FuncData
  f_surplus_of : Addr
  d_surplus_of : FuncData
  f_overs_in : Addr
  d_overs_in : FuncData
  f_wish_text : Addr
  d_wish_text : FuncData
  f_wish_form_in : Addr
  d_wish_form_in : FuncData
  f_closed : Addr
  d_closed : FuncData
  f_surplus_in : Addr
  d_surplus_in : FuncData
  f_bag : Addr
  d_bag : FuncData
  f_draw : Addr
  d_draw : FuncData
  f_one : Addr
  d_one : FuncData
  f_words : Addr
  d_words : FuncData
  f_letters : Addr
  d_letters : FuncData
  f_cords : Addr
  d_cords : FuncData
  f_shape : Addr
  d_shape : FuncData
  f_level : Addr
  d_level : FuncData
  f_more : Addr
  d_more : FuncData
  f_plea : Addr
  d_plea : FuncData
  f_level_text : Addr
  d_level_text : FuncData
  f_written : Addr
  d_written : FuncData
  f_right : Addr
  d_right : FuncData
  f_law : Addr
  d_law : FuncData
  k_MOST_PARTS : Tok
  k_MOST_TIES : Tok
  k_MOST_HOOKS : Tok
  k_MOST_STRINGS : Tok
  k_MOST_AMOUNT : Tok
  k_MOST_MOVES : Tok
  k_MOST_WISHES : Tok
  k_MOST_DEPTH : Tok
  k_MOST_OVERS : Tok

structure Txt (K : PySem.W.Frag) (mg : Str → Option Value) (a : Ad) : Prop where
  F_is_whole : Fun K "is_whole" "is_whole" s_is_whole a.f_is_whole a.d_is_whole
  b_is_whole : L2.Binds K a.d_is_whole ["value"] []
  m_is_whole : mg "is_whole" = some (.ref a.f_is_whole)
  F_is_number : Fun K "is_number" "is_number" s_is_number a.f_is_number a.d_is_number
  b_is_number : L2.Binds K a.d_is_number ["value"] []
  m_is_number : mg "is_number" = some (.ref a.f_is_number)
  F_is_small_letter : Fun K "is_small_letter" "is_small_letter" s_is_small_letter a.f_is_small_letter a.d_is_small_letter
  b_is_small_letter : L2.Binds K a.d_is_small_letter ["value"] []
  m_is_small_letter : mg "is_small_letter" = some (.ref a.f_is_small_letter)
  F_is_capital : Fun K "is_capital" "is_capital" s_is_capital a.f_is_capital a.d_is_capital
  b_is_capital : L2.Binds K a.d_is_capital ["value"] []
  m_is_capital : mg "is_capital" = some (.ref a.f_is_capital)
  F_is_word : Fun K "is_word" "is_word" s_is_word a.f_is_word a.d_is_word
  b_is_word : L2.Binds K a.d_is_word ["value"] []
  m_is_word : mg "is_word" = some (.ref a.f_is_word)
  F_is_row : Fun K "is_row" "is_row" s_is_row a.f_is_row a.d_is_row
  b_is_row : L2.Binds K a.d_is_row ["value", "least", "most"] []
  m_is_row : mg "is_row" = some (.ref a.f_is_row)
  F_is_rising : Fun K "is_rising" "is_rising" s_is_rising a.f_is_rising a.d_is_rising
  b_is_rising : L2.Binds K a.d_is_rising ["signs"] []
  m_is_rising : mg "is_rising" = some (.ref a.f_is_rising)
  F_are_capitals : Fun K "are_capitals" "are_capitals" s_are_capitals a.f_are_capitals a.d_are_capitals
  b_are_capitals : L2.Binds K a.d_are_capitals ["value", "most"] []
  m_are_capitals : mg "are_capitals" = some (.ref a.f_are_capitals)
  F_is_one_of : Fun K "is_one_of" "is_one_of" s_is_one_of a.f_is_one_of a.d_is_one_of
  b_is_one_of : L2.Binds K a.d_is_one_of ["value", "strings"] []
  m_is_one_of : mg "is_one_of" = some (.ref a.f_is_one_of)
  F_Puppet_init : Fun K "__init__" "Puppet.__init__" s_Puppet_init a.f_Puppet_init a.d_Puppet_init
  b_Puppet_init : L2.Binds K a.d_Puppet_init ["self", "parts", "ties", "hooks", "strings"] []
  me_Puppet_init : Meth K a.C_Puppet "__init__" a.f_Puppet_init
  F_check_parts : Fun K "check_parts" "check_parts" s_check_parts a.f_check_parts a.d_check_parts
  b_check_parts : L2.Binds K a.d_check_parts ["parts"] []
  m_check_parts : mg "check_parts" = some (.ref a.f_check_parts)
  F_check_ties : Fun K "check_ties" "check_ties" s_check_ties a.f_check_ties a.d_check_ties
  b_check_ties : L2.Binds K a.d_check_ties ["ties", "parts"] []
  m_check_ties : mg "check_ties" = some (.ref a.f_check_ties)
  F_is_tie : Fun K "is_tie" "is_tie" s_is_tie a.f_is_tie a.d_is_tie
  b_is_tie : L2.Binds K a.d_is_tie ["value", "parts"] []
  m_is_tie : mg "is_tie" = some (.ref a.f_is_tie)
  F_is_tied : Fun K "is_tied" "is_tied" s_is_tied a.f_is_tied a.d_is_tied
  b_is_tied : L2.Binds K a.d_is_tied ["part", "other", "ties"] []
  m_is_tied : mg "is_tied" = some (.ref a.f_is_tied)
  F_check_strings : Fun K "check_strings" "check_strings" s_check_strings a.f_check_strings a.d_check_strings
  b_check_strings : L2.Binds K a.d_check_strings ["strings", "hooks", "parts"] []
  m_check_strings : mg "check_strings" = some (.ref a.f_check_strings)
  F_is_string : Fun K "is_string" "is_string" s_is_string a.f_is_string a.d_is_string
  b_is_string : L2.Binds K a.d_is_string ["value", "hooks", "parts"] []
  m_is_string : mg "is_string" = some (.ref a.f_is_string)
  F_distances_of : Fun K "distances_of" "distances_of" s_distances_of a.f_distances_of a.d_distances_of
  b_distances_of : L2.Binds K a.d_distances_of ["parts", "ties"] []
  m_distances_of : mg "distances_of" = some (.ref a.f_distances_of)
  F_shorten : Fun K "shorten" "shorten" s_shorten a.f_shorten a.d_shorten
  b_shorten : L2.Binds K a.d_shorten ["distances", "part", "middle", "other"] []
  m_shorten : mg "shorten" = some (.ref a.f_shorten)
  F_moment_at : Fun K "moment_at" "moment_at" s_moment_at a.f_moment_at a.d_moment_at
  b_moment_at : L2.Binds K a.d_moment_at ["value", "last"] []
  m_moment_at : mg "moment_at" = some (.ref a.f_moment_at)
  F_is_level : Fun K "is_level" "is_level" s_is_level a.f_is_level a.d_is_level
  b_is_level : L2.Binds K a.d_is_level ["value"] []
  m_is_level : mg "is_level" = some (.ref a.f_is_level)
  F_p_level_text : Fun K "level_text" "level_text" s_p_level_text a.f_p_level_text a.d_p_level_text
  b_p_level_text : L2.Binds K a.d_p_level_text ["level"] []
  m_p_level_text : mg "level_text" = some (.ref a.f_p_level_text)
  F_level_in : Fun K "level_in" "level_in" s_level_in a.f_level_in a.d_level_in
  b_level_in : L2.Binds K a.d_level_in ["text"] []
  m_level_in : mg "level_in" = some (.ref a.f_level_in)
  F_moment_in : Fun K "moment_in" "moment_in" s_moment_in a.f_moment_in a.d_moment_in
  b_moment_in : L2.Binds K a.d_moment_in ["text"] []
  m_moment_in : mg "moment_in" = some (.ref a.f_moment_in)
  F_Ratio_init : FunD K "__init__" "Ratio.__init__" (defArgs s_Ratio_init) (defBody s_Ratio_init) (defScope s_Ratio_init) [.int 1] [] a.f_Ratio_init a.d_Ratio_init
  me_Ratio_init : Meth K a.C_Ratio "__init__" a.f_Ratio_init
  F_Ratio_str : Fun K "__str__" "Ratio.__str__" s_Ratio_str a.f_Ratio_str a.d_Ratio_str
  b_Ratio_str : L2.Binds K a.d_Ratio_str ["self"] []
  me_Ratio_str : Meth K a.C_Ratio "__str__" a.f_Ratio_str
  F_ratio_in : Fun K "ratio_in" "ratio_in" s_ratio_in a.f_ratio_in a.d_ratio_in
  b_ratio_in : L2.Binds K a.d_ratio_in ["text"] []
  m_ratio_in : mg "ratio_in" = some (.ref a.f_ratio_in)
  F_has_digits_alone : Fun K "has_digits_alone" "has_digits_alone" s_has_digits_alone a.f_has_digits_alone a.d_has_digits_alone
  b_has_digits_alone : L2.Binds K a.d_has_digits_alone ["text"] []
  m_has_digits_alone : mg "has_digits_alone" = some (.ref a.f_has_digits_alone)
  F_Wish_init : Fun K "__init__" "Wish.__init__" s_Wish_init a.f_Wish_init a.d_Wish_init
  b_Wish_init : L2.Binds K a.d_Wish_init ["self", "form"] []
  me_Wish_init : Meth K a.C_Wish "__init__" a.f_Wish_init
  F_Wish_eq : Fun K "__eq__" "Wish.__eq__" s_Wish_eq a.f_Wish_eq a.d_Wish_eq
  b_Wish_eq : L2.Binds K a.d_Wish_eq ["self", "other"] []
  me_Wish_eq : Meth K a.C_Wish "__eq__" a.f_Wish_eq
  F_Wish_str : Fun K "__str__" "Wish.__str__" s_Wish_str a.f_Wish_str a.d_Wish_str
  b_Wish_str : L2.Binds K a.d_Wish_str ["self"] []
  me_Wish_str : Meth K a.C_Wish "__str__" a.f_Wish_str
  F_Wish_read : Fun K "read" "Wish.read" s_Wish_read a.f_Wish_read a.d_Wish_read
  b_Wish_read : L2.Binds K a.d_Wish_read ["text"] []
  sm_Wish_read : ∃ p, RK.SMet K a.C_Wish (.type "type") "read" p a.f_Wish_read
  F_is_wish_form : Fun K "is_wish_form" "is_wish_form" s_is_wish_form a.f_is_wish_form a.d_is_wish_form
  b_is_wish_form : L2.Binds K a.d_is_wish_form ["value"] []
  m_is_wish_form : mg "is_wish_form" = some (.ref a.f_is_wish_form)
  F_is_shaped : Fun K "is_shaped" "is_shaped" s_is_shaped a.f_is_shaped a.d_is_shaped
  b_is_shaped : L2.Binds K a.d_is_shaped ["value", "depth"] []
  m_is_shaped : mg "is_shaped" = some (.ref a.f_is_shaped)
  F_is_counted : Fun K "is_counted" "is_counted" s_is_counted a.f_is_counted a.d_is_counted
  b_is_counted : L2.Binds K a.d_is_counted ["word", "many"] []
  m_is_counted : mg "is_counted" = some (.ref a.f_is_counted)
  F_is_surplus : Fun K "is_surplus" "is_surplus" s_is_surplus a.f_is_surplus a.d_is_surplus
  b_is_surplus : L2.Binds K a.d_is_surplus ["value"] []
  m_is_surplus : mg "is_surplus" = some (.ref a.f_is_surplus)
  F_surplus_of : Fun K "surplus_of" "surplus_of" s_surplus_of a.f_surplus_of a.d_surplus_of
  b_surplus_of : L2.Binds K a.d_surplus_of ["form"] []
  m_surplus_of : mg "surplus_of" = some (.ref a.f_surplus_of)
  F_overs_in : Fun K "overs_in" "overs_in" s_overs_in a.f_overs_in a.d_overs_in
  b_overs_in : L2.Binds K a.d_overs_in ["form"] []
  m_overs_in : mg "overs_in" = some (.ref a.f_overs_in)
  F_wish_text : Fun K "wish_text" "wish_text" s_wish_text a.f_wish_text a.d_wish_text
  b_wish_text : L2.Binds K a.d_wish_text ["form"] []
  m_wish_text : mg "wish_text" = some (.ref a.f_wish_text)
  F_wish_form_in : Fun K "wish_form_in" "wish_form_in" s_wish_form_in a.f_wish_form_in a.d_wish_form_in
  b_wish_form_in : L2.Binds K a.d_wish_form_in ["text"] []
  m_wish_form_in : mg "wish_form_in" = some (.ref a.f_wish_form_in)
  F_closed : Fun K "closed" "closed" s_closed a.f_closed a.d_closed
  b_closed : L2.Binds K a.d_closed ["words"] []
  m_closed : mg "closed" = some (.ref a.f_closed)
  F_surplus_in : Fun K "surplus_in" "surplus_in" s_surplus_in a.f_surplus_in a.d_surplus_in
  b_surplus_in : L2.Binds K a.d_surplus_in ["text"] []
  m_surplus_in : mg "surplus_in" = some (.ref a.f_surplus_in)
  F_bag : Fun K "_law_bag" "_law_bag" s_bag a.f_bag a.d_bag
  b_bag : L2.Binds K a.d_bag ["_law_cells", "_law_k"] []
  m_bag : mg "_law_bag" = some (.ref a.f_bag)
  F_draw : Fun K "_law_draw" "_law_draw" s_draw a.f_draw a.d_draw
  b_draw : L2.Binds K a.d_draw ["_law_bag_here", "_law_wide"] []
  m_draw : mg "_law_draw" = some (.ref a.f_draw)
  F_one : Fun K "_law_one" "_law_one" s_one a.f_one a.d_one
  b_one : L2.Binds K a.d_one ["_law_bag_here", "_law_some"] []
  m_one : mg "_law_one" = some (.ref a.f_one)
  F_words : Fun K "_law_words" "_law_words" s_words a.f_words a.d_words
  b_words : L2.Binds K a.d_words ["_law_bag_here", "_law_many"] []
  m_words : mg "_law_words" = some (.ref a.f_words)
  F_letters : Fun K "_law_letters" "_law_letters" s_letters a.f_letters a.d_letters
  b_letters : L2.Binds K a.d_letters ["_law_bag_here", "_law_pool", "_law_many"] []
  m_letters : mg "_law_letters" = some (.ref a.f_letters)
  F_cords : Fun K "_law_cords" "_law_cords" s_cords a.f_cords a.d_cords
  b_cords : L2.Binds K a.d_cords ["_law_bag_here", "_law_limbs"] []
  m_cords : mg "_law_cords" = some (.ref a.f_cords)
  F_shape : Fun K "_law_shape" "_law_shape" s_shape a.f_shape a.d_shape
  b_shape : L2.Binds K a.d_shape ["_law_bag_here"] []
  m_shape : mg "_law_shape" = some (.ref a.f_shape)
  F_level : Fun K "_law_level" "_law_level" s_level a.f_level a.d_level
  b_level : L2.Binds K a.d_level ["_law_bag_here", "_law_shape_here", "_law_far_when"] []
  m_level : mg "_law_level" = some (.ref a.f_level)
  F_more : Fun K "_law_more" "_law_more" s_more a.f_more a.d_more
  b_more : L2.Binds K a.d_more ["_law_bag_here"] []
  m_more : mg "_law_more" = some (.ref a.f_more)
  F_plea : Fun K "_law_plea" "_law_plea" s_plea a.f_plea a.d_plea
  b_plea : L2.Binds K a.d_plea ["_law_bag_here", "_law_shape_here", "_law_far_when", "_law_room"] []
  m_plea : mg "_law_plea" = some (.ref a.f_plea)
  F_level_text : Fun K "_law_level_text" "_law_level_text" s_level_text a.f_level_text a.d_level_text
  b_level_text : L2.Binds K a.d_level_text ["_law_level_here"] []
  m_level_text : mg "_law_level_text" = some (.ref a.f_level_text)
  F_written : Fun K "_law_written" "_law_written" s_written a.f_written a.d_written
  b_written : L2.Binds K a.d_written ["_law_plea_here"] []
  m_written : mg "_law_written" = some (.ref a.f_written)
  F_right : Fun K "_law_right" "_law_right" s_right a.f_right a.d_right
  b_right : L2.Binds K a.d_right ["_law_bag_here"] []
  m_right : mg "_law_right" = some (.ref a.f_right)
  F_law : Fun K "law" "law" s_law a.f_law a.d_law
  b_law : L2.Binds K a.d_law ["_law_cells"] []
  m_law : mg "law" = some (.ref a.f_law)
  cl_Puppet : Cls K a.C_Puppet
  m_Puppet : mg "Puppet" = some (.ref a.C_Puppet)
  mk_Puppet : Mk K a.C_Puppet a.f_Puppet_init
  cl_Ratio : Cls K a.C_Ratio
  m_Ratio : mg "Ratio" = some (.ref a.C_Ratio)
  mk_Ratio : Mk K a.C_Ratio a.f_Ratio_init
  cl_Wish : Cls K a.C_Wish
  m_Wish : mg "Wish" = some (.ref a.C_Wish)
  mk_Wish : Mk K a.C_Wish a.f_Wish_init
  z_isinstance : mg "isinstance" = none
  z_int : mg "int" = none
  z_bool : mg "bool" = none
  z_len : mg "len" = none
  z_abs : mg "abs" = none
  z_range : mg "range" = none
  z_all : mg "all" = none
  z_any : mg "any" = none
  z_max : mg "max" = none
  z_min : mg "min" = none
  z_str : mg "str" = none
  z_tuple : mg "tuple" = none
  z_zip : mg "zip" = none
  z_list : mg "list" = none
  z_sorted : mg "sorted" = none
  z_enumerate : mg "enumerate" = none
  m_gcd : mg "gcd" = some (.builtin "math.gcd")
  m_MOST_PARTS : mg "MOST_PARTS" = some (.int 6 a.k_MOST_PARTS)
  m_MOST_TIES : mg "MOST_TIES" = some (.int 10 a.k_MOST_TIES)
  m_MOST_HOOKS : mg "MOST_HOOKS" = some (.int 4 a.k_MOST_HOOKS)
  m_MOST_STRINGS : mg "MOST_STRINGS" = some (.int 6 a.k_MOST_STRINGS)
  m_MOST_AMOUNT : mg "MOST_AMOUNT" = some (.int 1000000 a.k_MOST_AMOUNT)
  m_MOST_MOVES : mg "MOST_MOVES" = some (.int 6 a.k_MOST_MOVES)
  m_MOST_WISHES : mg "MOST_WISHES" = some (.int 6 a.k_MOST_WISHES)
  m_MOST_DEPTH : mg "MOST_DEPTH" = some (.int 4 a.k_MOST_DEPTH)
  m_MOST_OVERS : mg "MOST_OVERS" = some (.int 8 a.k_MOST_OVERS)
  n_parts : NoAttr K a.C_Puppet "parts"
  n_ties : NoAttr K a.C_Puppet "ties"
  n_hooks : NoAttr K a.C_Puppet "hooks"
  n_strings : NoAttr K a.C_Puppet "strings"
  n_names : NoAttr K a.C_Puppet "names"
  n_distances : NoAttr K a.C_Puppet "distances"
  nT : NoAttr K a.C_Ratio "top"
  nB : NoAttr K a.C_Ratio "bottom"
  nW : NoAttr K a.C_Wish "form"
  iN : PySem.W.specialIn K (.builtin "object.__class__") "__get__" = some (some (.builtin "getset_descriptor.__get__"))
  iT : PySem.W.takesIn K (.builtin "object.__class__") = some true
  wA : PySem.W.findIn K (.ref a.C_Wish) "__class__" = some (some (.builtin "object.__class__"))
  wM : PySem.W.mroIn K a.C_Wish (.type "object") = some true
  wWW : PySem.W.kitOne K (.ref a.C_Wish) (.ref a.C_Wish) = some true
  wTW : PySem.W.kitOne K (.type "tuple") (.ref a.C_Wish) = some false
  wfW : PySem.W.notFirst K a.C_Wish (.ref a.C_Wish) = true
  wfT : PySem.W.notFirst K a.C_Wish (.type "tuple") = true

theorem all_mk {K : PySem.W.Frag} {h : Heap} {mg : Str → Option Value} (X : K.In h) (G : h.Ns mainGlobals mg)
    {C_Puppet C_Ratio C_Wish f_is_whole f_is_number f_is_small_letter f_is_capital f_is_word f_is_row f_is_rising f_are_capitals f_is_one_of f_Puppet_init f_check_parts f_check_ties f_is_tie f_is_tied f_check_strings f_is_string f_distances_of f_shorten f_moment_at f_is_level f_p_level_text f_level_in f_moment_in f_Ratio_init T_Ratio_init f_Ratio_str f_ratio_in f_has_digits_alone f_Wish_init f_Wish_eq f_Wish_str f_Wish_read sp_Wish_read f_is_wish_form f_is_shaped f_is_counted f_is_surplus f_surplus_of f_overs_in f_wish_text f_wish_form_in f_closed f_surplus_in f_bag f_draw f_one f_words f_letters f_cords f_shape f_level f_more f_plea f_level_text f_written f_right f_law : Addr} {oc_is_whole kV_is_whole dc_is_whole pm_is_whole cd_is_whole ct_is_whole oc_is_number kV_is_number dc_is_number pm_is_number cd_is_number ct_is_number oc_is_small_letter kV_is_small_letter dc_is_small_letter pm_is_small_letter cd_is_small_letter ct_is_small_letter oc_is_capital kV_is_capital dc_is_capital pm_is_capital cd_is_capital ct_is_capital oc_is_word kV_is_word dc_is_word pm_is_word cd_is_word ct_is_word oc_is_row kV_is_row dc_is_row pm_is_row cd_is_row ct_is_row oc_is_rising kV_is_rising dc_is_rising pm_is_rising cd_is_rising ct_is_rising oc_are_capitals kV_are_capitals dc_are_capitals pm_are_capitals cd_are_capitals ct_are_capitals oc_is_one_of kV_is_one_of dc_is_one_of pm_is_one_of cd_is_one_of ct_is_one_of oc_Puppet_init kV_Puppet_init dc_Puppet_init pm_Puppet_init cd_Puppet_init ct_Puppet_init oc_check_parts kV_check_parts dc_check_parts pm_check_parts cd_check_parts ct_check_parts oc_check_ties kV_check_ties dc_check_ties pm_check_ties cd_check_ties ct_check_ties oc_is_tie kV_is_tie dc_is_tie pm_is_tie cd_is_tie ct_is_tie oc_is_tied kV_is_tied dc_is_tied pm_is_tied cd_is_tied ct_is_tied oc_check_strings kV_check_strings dc_check_strings pm_check_strings cd_check_strings ct_check_strings oc_is_string kV_is_string dc_is_string pm_is_string cd_is_string ct_is_string oc_distances_of kV_distances_of dc_distances_of pm_distances_of cd_distances_of ct_distances_of oc_shorten kV_shorten dc_shorten pm_shorten cd_shorten ct_shorten oc_moment_at kV_moment_at dc_moment_at pm_moment_at cd_moment_at ct_moment_at oc_is_level kV_is_level dc_is_level pm_is_level cd_is_level ct_is_level oc_p_level_text kV_p_level_text dc_p_level_text pm_p_level_text cd_p_level_text ct_p_level_text oc_level_in kV_level_in dc_level_in pm_level_in cd_level_in ct_level_in oc_moment_in kV_moment_in dc_moment_in pm_moment_in cd_moment_in ct_moment_in oc_Ratio_init kV_Ratio_init dc_Ratio_init pm_Ratio_init cd_Ratio_init ct_Ratio_init tc_Ratio_init oc_Ratio_str kV_Ratio_str dc_Ratio_str pm_Ratio_str cd_Ratio_str ct_Ratio_str oc_ratio_in kV_ratio_in dc_ratio_in pm_ratio_in cd_ratio_in ct_ratio_in oc_has_digits_alone kV_has_digits_alone dc_has_digits_alone pm_has_digits_alone cd_has_digits_alone ct_has_digits_alone oc_Wish_init kV_Wish_init dc_Wish_init pm_Wish_init cd_Wish_init ct_Wish_init oc_Wish_eq kV_Wish_eq dc_Wish_eq pm_Wish_eq cd_Wish_eq ct_Wish_eq oc_Wish_str kV_Wish_str dc_Wish_str pm_Wish_str cd_Wish_str ct_Wish_str oc_Wish_read kV_Wish_read dc_Wish_read pm_Wish_read cd_Wish_read ct_Wish_read oc_is_wish_form kV_is_wish_form dc_is_wish_form pm_is_wish_form cd_is_wish_form ct_is_wish_form oc_is_shaped kV_is_shaped dc_is_shaped pm_is_shaped cd_is_shaped ct_is_shaped oc_is_counted kV_is_counted dc_is_counted pm_is_counted cd_is_counted ct_is_counted oc_is_surplus kV_is_surplus dc_is_surplus pm_is_surplus cd_is_surplus ct_is_surplus oc_surplus_of kV_surplus_of dc_surplus_of pm_surplus_of cd_surplus_of ct_surplus_of oc_overs_in kV_overs_in dc_overs_in pm_overs_in cd_overs_in ct_overs_in oc_wish_text kV_wish_text dc_wish_text pm_wish_text cd_wish_text ct_wish_text oc_wish_form_in kV_wish_form_in dc_wish_form_in pm_wish_form_in cd_wish_form_in ct_wish_form_in oc_closed kV_closed dc_closed pm_closed cd_closed ct_closed oc_surplus_in kV_surplus_in dc_surplus_in pm_surplus_in cd_surplus_in ct_surplus_in oc_bag kV_bag dc_bag pm_bag cd_bag ct_bag oc_draw kV_draw dc_draw pm_draw cd_draw ct_draw oc_one kV_one dc_one pm_one cd_one ct_one oc_words kV_words dc_words pm_words cd_words ct_words oc_letters kV_letters dc_letters pm_letters cd_letters ct_letters oc_cords kV_cords dc_cords pm_cords cd_cords ct_cords oc_shape kV_shape dc_shape pm_shape cd_shape ct_shape oc_level kV_level dc_level pm_level cd_level ct_level oc_more kV_more dc_more pm_more cd_more ct_more oc_plea kV_plea dc_plea pm_plea cd_plea ct_plea oc_level_text kV_level_text dc_level_text pm_level_text cd_level_text ct_level_text oc_written kV_written dc_written pm_written cd_written ct_written oc_right kV_right dc_right pm_right cd_right ct_right oc_law kV_law dc_law pm_law cd_law ct_law : Value} {od_is_whole an_is_whole od_is_number an_is_number od_is_small_letter an_is_small_letter od_is_capital an_is_capital od_is_word an_is_word od_is_row an_is_row od_is_rising an_is_rising od_are_capitals an_are_capitals od_is_one_of an_is_one_of od_Puppet_init an_Puppet_init od_check_parts an_check_parts od_check_ties an_check_ties od_is_tie an_is_tie od_is_tied an_is_tied od_check_strings an_check_strings od_is_string an_is_string od_distances_of an_distances_of od_shorten an_shorten od_moment_at an_moment_at od_is_level an_is_level od_p_level_text an_p_level_text od_level_in an_level_in od_moment_in an_moment_in od_Ratio_init an_Ratio_init td_Ratio_init od_Ratio_str an_Ratio_str od_ratio_in an_ratio_in od_has_digits_alone an_has_digits_alone od_Wish_init an_Wish_init od_Wish_eq an_Wish_eq od_Wish_str an_Wish_str od_Wish_read an_Wish_read od_is_wish_form an_is_wish_form od_is_shaped an_is_shaped od_is_counted an_is_counted od_is_surplus an_is_surplus od_surplus_of an_surplus_of od_overs_in an_overs_in od_wish_text an_wish_text od_wish_form_in an_wish_form_in od_closed an_closed od_surplus_in an_surplus_in od_bag an_bag od_draw an_draw od_one an_one od_words an_words od_letters an_letters od_cords an_cords od_shape an_shape od_level an_level od_more an_more od_plea an_plea od_level_text an_level_text od_written an_written od_right an_right od_law an_law : Option Addr} {sl_is_whole sl_is_number sl_is_small_letter sl_is_capital sl_is_word sl_is_row sl_is_rising sl_are_capitals sl_is_one_of sl_Puppet_init sl_check_parts sl_check_ties sl_is_tie sl_is_tied sl_check_strings sl_is_string sl_distances_of sl_shorten sl_moment_at sl_is_level sl_p_level_text sl_level_in sl_moment_in sl_Ratio_init ts_Ratio_init sl_Ratio_str sl_ratio_in sl_has_digits_alone sl_Wish_init sl_Wish_eq sl_Wish_str sl_Wish_read sl_is_wish_form sl_is_shaped sl_is_counted sl_is_surplus sl_surplus_of sl_overs_in sl_wish_text sl_wish_form_in sl_closed sl_surplus_in sl_bag sl_draw sl_one sl_words sl_letters sl_cords sl_shape sl_level sl_more sl_plea sl_level_text sl_written sl_right sl_law : Array (Option Value)} {sr_Wish_read : List Value} {tg_MOST_PARTS tg_MOST_TIES tg_MOST_HOOKS tg_MOST_STRINGS tg_MOST_AMOUNT tg_MOST_MOVES tg_MOST_WISHES tg_MOST_DEPTH tg_MOST_OVERS : Tok} {tk0 : Tok} {tn_Ratio_init : Nat}
    (aC_Puppet : PySem.W.nsIn K mainGlobals "Puppet" = some (some (.ref C_Puppet)))
    (pg_Puppet : PySem.W.plainGet K C_Puppet Str.empty = true)
    (hd_Puppet : PySem.W.hasDictIn K C_Puppet = true)
    (po_Puppet : PySem.W.plainOver K C_Puppet = true)
    (sa_Puppet : PySem.W.findIn K (.ref C_Puppet) "__setattr__" = some (some (.builtin "object.__setattr__")))
    (mk_Puppet : PySem.W.makesIn K C_Puppet = true)
    (kc_Puppet : PySem.W.keepIn K (.ref C_Puppet) = true)
    (aC_Ratio : PySem.W.nsIn K mainGlobals "Ratio" = some (some (.ref C_Ratio)))
    (pg_Ratio : PySem.W.plainGet K C_Ratio Str.empty = true)
    (hd_Ratio : PySem.W.hasDictIn K C_Ratio = true)
    (po_Ratio : PySem.W.plainOver K C_Ratio = true)
    (sa_Ratio : PySem.W.findIn K (.ref C_Ratio) "__setattr__" = some (some (.builtin "object.__setattr__")))
    (mk_Ratio : PySem.W.makesIn K C_Ratio = true)
    (kc_Ratio : PySem.W.keepIn K (.ref C_Ratio) = true)
    (aC_Wish : PySem.W.nsIn K mainGlobals "Wish" = some (some (.ref C_Wish)))
    (pg_Wish : PySem.W.plainGet K C_Wish Str.empty = true)
    (hd_Wish : PySem.W.hasDictIn K C_Wish = true)
    (po_Wish : PySem.W.plainOver K C_Wish = true)
    (sa_Wish : PySem.W.findIn K (.ref C_Wish) "__setattr__" = some (some (.builtin "object.__setattr__")))
    (mk_Wish : PySem.W.makesIn K C_Wish = true)
    (kc_Wish : PySem.W.keepIn K (.ref C_Wish) = true)
    (a_is_whole : PySem.W.nsIn K mainGlobals "is_whole" = some (some (.ref f_is_whole)))
    (l_is_whole : K.lookup f_is_whole = some ⟨oc_is_whole, od_is_whole, .func (PySem.W.fnOf "is_whole" "is_whole" (defArgs s_is_whole) (defBody s_is_whole) (defScope s_is_whole) .none kV_is_whole dc_is_whole pm_is_whole an_is_whole cd_is_whole ct_is_whole), sl_is_whole⟩) (c_is_whole : PySem.W.codeIn K cd_is_whole "is_whole" = true) (k_is_whole : PySem.W.keepIn K (.ref f_is_whole) = true)
    (a_is_number : PySem.W.nsIn K mainGlobals "is_number" = some (some (.ref f_is_number)))
    (l_is_number : K.lookup f_is_number = some ⟨oc_is_number, od_is_number, .func (PySem.W.fnOf "is_number" "is_number" (defArgs s_is_number) (defBody s_is_number) (defScope s_is_number) .none kV_is_number dc_is_number pm_is_number an_is_number cd_is_number ct_is_number), sl_is_number⟩) (c_is_number : PySem.W.codeIn K cd_is_number "is_number" = true) (k_is_number : PySem.W.keepIn K (.ref f_is_number) = true)
    (a_is_small_letter : PySem.W.nsIn K mainGlobals "is_small_letter" = some (some (.ref f_is_small_letter)))
    (l_is_small_letter : K.lookup f_is_small_letter = some ⟨oc_is_small_letter, od_is_small_letter, .func (PySem.W.fnOf "is_small_letter" "is_small_letter" (defArgs s_is_small_letter) (defBody s_is_small_letter) (defScope s_is_small_letter) .none kV_is_small_letter dc_is_small_letter pm_is_small_letter an_is_small_letter cd_is_small_letter ct_is_small_letter), sl_is_small_letter⟩) (c_is_small_letter : PySem.W.codeIn K cd_is_small_letter "is_small_letter" = true) (k_is_small_letter : PySem.W.keepIn K (.ref f_is_small_letter) = true)
    (a_is_capital : PySem.W.nsIn K mainGlobals "is_capital" = some (some (.ref f_is_capital)))
    (l_is_capital : K.lookup f_is_capital = some ⟨oc_is_capital, od_is_capital, .func (PySem.W.fnOf "is_capital" "is_capital" (defArgs s_is_capital) (defBody s_is_capital) (defScope s_is_capital) .none kV_is_capital dc_is_capital pm_is_capital an_is_capital cd_is_capital ct_is_capital), sl_is_capital⟩) (c_is_capital : PySem.W.codeIn K cd_is_capital "is_capital" = true) (k_is_capital : PySem.W.keepIn K (.ref f_is_capital) = true)
    (a_is_word : PySem.W.nsIn K mainGlobals "is_word" = some (some (.ref f_is_word)))
    (l_is_word : K.lookup f_is_word = some ⟨oc_is_word, od_is_word, .func (PySem.W.fnOf "is_word" "is_word" (defArgs s_is_word) (defBody s_is_word) (defScope s_is_word) .none kV_is_word dc_is_word pm_is_word an_is_word cd_is_word ct_is_word), sl_is_word⟩) (c_is_word : PySem.W.codeIn K cd_is_word "is_word" = true) (k_is_word : PySem.W.keepIn K (.ref f_is_word) = true)
    (a_is_row : PySem.W.nsIn K mainGlobals "is_row" = some (some (.ref f_is_row)))
    (l_is_row : K.lookup f_is_row = some ⟨oc_is_row, od_is_row, .func (PySem.W.fnOf "is_row" "is_row" (defArgs s_is_row) (defBody s_is_row) (defScope s_is_row) .none kV_is_row dc_is_row pm_is_row an_is_row cd_is_row ct_is_row), sl_is_row⟩) (c_is_row : PySem.W.codeIn K cd_is_row "is_row" = true) (k_is_row : PySem.W.keepIn K (.ref f_is_row) = true)
    (a_is_rising : PySem.W.nsIn K mainGlobals "is_rising" = some (some (.ref f_is_rising)))
    (l_is_rising : K.lookup f_is_rising = some ⟨oc_is_rising, od_is_rising, .func (PySem.W.fnOf "is_rising" "is_rising" (defArgs s_is_rising) (defBody s_is_rising) (defScope s_is_rising) .none kV_is_rising dc_is_rising pm_is_rising an_is_rising cd_is_rising ct_is_rising), sl_is_rising⟩) (c_is_rising : PySem.W.codeIn K cd_is_rising "is_rising" = true) (k_is_rising : PySem.W.keepIn K (.ref f_is_rising) = true)
    (a_are_capitals : PySem.W.nsIn K mainGlobals "are_capitals" = some (some (.ref f_are_capitals)))
    (l_are_capitals : K.lookup f_are_capitals = some ⟨oc_are_capitals, od_are_capitals, .func (PySem.W.fnOf "are_capitals" "are_capitals" (defArgs s_are_capitals) (defBody s_are_capitals) (defScope s_are_capitals) .none kV_are_capitals dc_are_capitals pm_are_capitals an_are_capitals cd_are_capitals ct_are_capitals), sl_are_capitals⟩) (c_are_capitals : PySem.W.codeIn K cd_are_capitals "are_capitals" = true) (k_are_capitals : PySem.W.keepIn K (.ref f_are_capitals) = true)
    (a_is_one_of : PySem.W.nsIn K mainGlobals "is_one_of" = some (some (.ref f_is_one_of)))
    (l_is_one_of : K.lookup f_is_one_of = some ⟨oc_is_one_of, od_is_one_of, .func (PySem.W.fnOf "is_one_of" "is_one_of" (defArgs s_is_one_of) (defBody s_is_one_of) (defScope s_is_one_of) .none kV_is_one_of dc_is_one_of pm_is_one_of an_is_one_of cd_is_one_of ct_is_one_of), sl_is_one_of⟩) (c_is_one_of : PySem.W.codeIn K cd_is_one_of "is_one_of" = true) (k_is_one_of : PySem.W.keepIn K (.ref f_is_one_of) = true)
    (a_Puppet_init : PySem.W.findIn K (.ref C_Puppet) "__init__" = some (some (.ref f_Puppet_init))) (i_Puppet_init : PySem.W.isFn K (.ref f_Puppet_init) = true)
    (l_Puppet_init : K.lookup f_Puppet_init = some ⟨oc_Puppet_init, od_Puppet_init, .func (PySem.W.fnOf "__init__" "Puppet.__init__" (defArgs s_Puppet_init) (defBody s_Puppet_init) (defScope s_Puppet_init) .none kV_Puppet_init dc_Puppet_init pm_Puppet_init an_Puppet_init cd_Puppet_init ct_Puppet_init), sl_Puppet_init⟩) (c_Puppet_init : PySem.W.codeIn K cd_Puppet_init "Puppet.__init__" = true) (k_Puppet_init : PySem.W.keepIn K (.ref f_Puppet_init) = true)
    (a_check_parts : PySem.W.nsIn K mainGlobals "check_parts" = some (some (.ref f_check_parts)))
    (l_check_parts : K.lookup f_check_parts = some ⟨oc_check_parts, od_check_parts, .func (PySem.W.fnOf "check_parts" "check_parts" (defArgs s_check_parts) (defBody s_check_parts) (defScope s_check_parts) .none kV_check_parts dc_check_parts pm_check_parts an_check_parts cd_check_parts ct_check_parts), sl_check_parts⟩) (c_check_parts : PySem.W.codeIn K cd_check_parts "check_parts" = true) (k_check_parts : PySem.W.keepIn K (.ref f_check_parts) = true)
    (a_check_ties : PySem.W.nsIn K mainGlobals "check_ties" = some (some (.ref f_check_ties)))
    (l_check_ties : K.lookup f_check_ties = some ⟨oc_check_ties, od_check_ties, .func (PySem.W.fnOf "check_ties" "check_ties" (defArgs s_check_ties) (defBody s_check_ties) (defScope s_check_ties) .none kV_check_ties dc_check_ties pm_check_ties an_check_ties cd_check_ties ct_check_ties), sl_check_ties⟩) (c_check_ties : PySem.W.codeIn K cd_check_ties "check_ties" = true) (k_check_ties : PySem.W.keepIn K (.ref f_check_ties) = true)
    (a_is_tie : PySem.W.nsIn K mainGlobals "is_tie" = some (some (.ref f_is_tie)))
    (l_is_tie : K.lookup f_is_tie = some ⟨oc_is_tie, od_is_tie, .func (PySem.W.fnOf "is_tie" "is_tie" (defArgs s_is_tie) (defBody s_is_tie) (defScope s_is_tie) .none kV_is_tie dc_is_tie pm_is_tie an_is_tie cd_is_tie ct_is_tie), sl_is_tie⟩) (c_is_tie : PySem.W.codeIn K cd_is_tie "is_tie" = true) (k_is_tie : PySem.W.keepIn K (.ref f_is_tie) = true)
    (a_is_tied : PySem.W.nsIn K mainGlobals "is_tied" = some (some (.ref f_is_tied)))
    (l_is_tied : K.lookup f_is_tied = some ⟨oc_is_tied, od_is_tied, .func (PySem.W.fnOf "is_tied" "is_tied" (defArgs s_is_tied) (defBody s_is_tied) (defScope s_is_tied) .none kV_is_tied dc_is_tied pm_is_tied an_is_tied cd_is_tied ct_is_tied), sl_is_tied⟩) (c_is_tied : PySem.W.codeIn K cd_is_tied "is_tied" = true) (k_is_tied : PySem.W.keepIn K (.ref f_is_tied) = true)
    (a_check_strings : PySem.W.nsIn K mainGlobals "check_strings" = some (some (.ref f_check_strings)))
    (l_check_strings : K.lookup f_check_strings = some ⟨oc_check_strings, od_check_strings, .func (PySem.W.fnOf "check_strings" "check_strings" (defArgs s_check_strings) (defBody s_check_strings) (defScope s_check_strings) .none kV_check_strings dc_check_strings pm_check_strings an_check_strings cd_check_strings ct_check_strings), sl_check_strings⟩) (c_check_strings : PySem.W.codeIn K cd_check_strings "check_strings" = true) (k_check_strings : PySem.W.keepIn K (.ref f_check_strings) = true)
    (a_is_string : PySem.W.nsIn K mainGlobals "is_string" = some (some (.ref f_is_string)))
    (l_is_string : K.lookup f_is_string = some ⟨oc_is_string, od_is_string, .func (PySem.W.fnOf "is_string" "is_string" (defArgs s_is_string) (defBody s_is_string) (defScope s_is_string) .none kV_is_string dc_is_string pm_is_string an_is_string cd_is_string ct_is_string), sl_is_string⟩) (c_is_string : PySem.W.codeIn K cd_is_string "is_string" = true) (k_is_string : PySem.W.keepIn K (.ref f_is_string) = true)
    (a_distances_of : PySem.W.nsIn K mainGlobals "distances_of" = some (some (.ref f_distances_of)))
    (l_distances_of : K.lookup f_distances_of = some ⟨oc_distances_of, od_distances_of, .func (PySem.W.fnOf "distances_of" "distances_of" (defArgs s_distances_of) (defBody s_distances_of) (defScope s_distances_of) .none kV_distances_of dc_distances_of pm_distances_of an_distances_of cd_distances_of ct_distances_of), sl_distances_of⟩) (c_distances_of : PySem.W.codeIn K cd_distances_of "distances_of" = true) (k_distances_of : PySem.W.keepIn K (.ref f_distances_of) = true)
    (a_shorten : PySem.W.nsIn K mainGlobals "shorten" = some (some (.ref f_shorten)))
    (l_shorten : K.lookup f_shorten = some ⟨oc_shorten, od_shorten, .func (PySem.W.fnOf "shorten" "shorten" (defArgs s_shorten) (defBody s_shorten) (defScope s_shorten) .none kV_shorten dc_shorten pm_shorten an_shorten cd_shorten ct_shorten), sl_shorten⟩) (c_shorten : PySem.W.codeIn K cd_shorten "shorten" = true) (k_shorten : PySem.W.keepIn K (.ref f_shorten) = true)
    (a_moment_at : PySem.W.nsIn K mainGlobals "moment_at" = some (some (.ref f_moment_at)))
    (l_moment_at : K.lookup f_moment_at = some ⟨oc_moment_at, od_moment_at, .func (PySem.W.fnOf "moment_at" "moment_at" (defArgs s_moment_at) (defBody s_moment_at) (defScope s_moment_at) .none kV_moment_at dc_moment_at pm_moment_at an_moment_at cd_moment_at ct_moment_at), sl_moment_at⟩) (c_moment_at : PySem.W.codeIn K cd_moment_at "moment_at" = true) (k_moment_at : PySem.W.keepIn K (.ref f_moment_at) = true)
    (a_is_level : PySem.W.nsIn K mainGlobals "is_level" = some (some (.ref f_is_level)))
    (l_is_level : K.lookup f_is_level = some ⟨oc_is_level, od_is_level, .func (PySem.W.fnOf "is_level" "is_level" (defArgs s_is_level) (defBody s_is_level) (defScope s_is_level) .none kV_is_level dc_is_level pm_is_level an_is_level cd_is_level ct_is_level), sl_is_level⟩) (c_is_level : PySem.W.codeIn K cd_is_level "is_level" = true) (k_is_level : PySem.W.keepIn K (.ref f_is_level) = true)
    (a_p_level_text : PySem.W.nsIn K mainGlobals "level_text" = some (some (.ref f_p_level_text)))
    (l_p_level_text : K.lookup f_p_level_text = some ⟨oc_p_level_text, od_p_level_text, .func (PySem.W.fnOf "level_text" "level_text" (defArgs s_p_level_text) (defBody s_p_level_text) (defScope s_p_level_text) .none kV_p_level_text dc_p_level_text pm_p_level_text an_p_level_text cd_p_level_text ct_p_level_text), sl_p_level_text⟩) (c_p_level_text : PySem.W.codeIn K cd_p_level_text "level_text" = true) (k_p_level_text : PySem.W.keepIn K (.ref f_p_level_text) = true)
    (a_level_in : PySem.W.nsIn K mainGlobals "level_in" = some (some (.ref f_level_in)))
    (l_level_in : K.lookup f_level_in = some ⟨oc_level_in, od_level_in, .func (PySem.W.fnOf "level_in" "level_in" (defArgs s_level_in) (defBody s_level_in) (defScope s_level_in) .none kV_level_in dc_level_in pm_level_in an_level_in cd_level_in ct_level_in), sl_level_in⟩) (c_level_in : PySem.W.codeIn K cd_level_in "level_in" = true) (k_level_in : PySem.W.keepIn K (.ref f_level_in) = true)
    (a_moment_in : PySem.W.nsIn K mainGlobals "moment_in" = some (some (.ref f_moment_in)))
    (l_moment_in : K.lookup f_moment_in = some ⟨oc_moment_in, od_moment_in, .func (PySem.W.fnOf "moment_in" "moment_in" (defArgs s_moment_in) (defBody s_moment_in) (defScope s_moment_in) .none kV_moment_in dc_moment_in pm_moment_in an_moment_in cd_moment_in ct_moment_in), sl_moment_in⟩) (c_moment_in : PySem.W.codeIn K cd_moment_in "moment_in" = true) (k_moment_in : PySem.W.keepIn K (.ref f_moment_in) = true)
    (a_Ratio_init : PySem.W.findIn K (.ref C_Ratio) "__init__" = some (some (.ref f_Ratio_init))) (i_Ratio_init : PySem.W.isFn K (.ref f_Ratio_init) = true)
    (l_Ratio_init : K.lookup f_Ratio_init = some ⟨oc_Ratio_init, od_Ratio_init, .func (PySem.W.fnOf "__init__" "Ratio.__init__" (defArgs s_Ratio_init) (defBody s_Ratio_init) (defScope s_Ratio_init) (.ref T_Ratio_init) kV_Ratio_init dc_Ratio_init pm_Ratio_init an_Ratio_init cd_Ratio_init ct_Ratio_init), sl_Ratio_init⟩) (c_Ratio_init : PySem.W.codeIn K cd_Ratio_init "Ratio.__init__" = true) (k_Ratio_init : PySem.W.keepIn K (.ref f_Ratio_init) = true)
    (t_Ratio_init : K.lookup T_Ratio_init = some ⟨tc_Ratio_init, td_Ratio_init, .seq #[.int 1 tk0] tn_Ratio_init, ts_Ratio_init⟩)
    (a_Ratio_str : PySem.W.findIn K (.ref C_Ratio) "__str__" = some (some (.ref f_Ratio_str))) (i_Ratio_str : PySem.W.isFn K (.ref f_Ratio_str) = true)
    (l_Ratio_str : K.lookup f_Ratio_str = some ⟨oc_Ratio_str, od_Ratio_str, .func (PySem.W.fnOf "__str__" "Ratio.__str__" (defArgs s_Ratio_str) (defBody s_Ratio_str) (defScope s_Ratio_str) .none kV_Ratio_str dc_Ratio_str pm_Ratio_str an_Ratio_str cd_Ratio_str ct_Ratio_str), sl_Ratio_str⟩) (c_Ratio_str : PySem.W.codeIn K cd_Ratio_str "Ratio.__str__" = true) (k_Ratio_str : PySem.W.keepIn K (.ref f_Ratio_str) = true)
    (a_ratio_in : PySem.W.nsIn K mainGlobals "ratio_in" = some (some (.ref f_ratio_in)))
    (l_ratio_in : K.lookup f_ratio_in = some ⟨oc_ratio_in, od_ratio_in, .func (PySem.W.fnOf "ratio_in" "ratio_in" (defArgs s_ratio_in) (defBody s_ratio_in) (defScope s_ratio_in) .none kV_ratio_in dc_ratio_in pm_ratio_in an_ratio_in cd_ratio_in ct_ratio_in), sl_ratio_in⟩) (c_ratio_in : PySem.W.codeIn K cd_ratio_in "ratio_in" = true) (k_ratio_in : PySem.W.keepIn K (.ref f_ratio_in) = true)
    (a_has_digits_alone : PySem.W.nsIn K mainGlobals "has_digits_alone" = some (some (.ref f_has_digits_alone)))
    (l_has_digits_alone : K.lookup f_has_digits_alone = some ⟨oc_has_digits_alone, od_has_digits_alone, .func (PySem.W.fnOf "has_digits_alone" "has_digits_alone" (defArgs s_has_digits_alone) (defBody s_has_digits_alone) (defScope s_has_digits_alone) .none kV_has_digits_alone dc_has_digits_alone pm_has_digits_alone an_has_digits_alone cd_has_digits_alone ct_has_digits_alone), sl_has_digits_alone⟩) (c_has_digits_alone : PySem.W.codeIn K cd_has_digits_alone "has_digits_alone" = true) (k_has_digits_alone : PySem.W.keepIn K (.ref f_has_digits_alone) = true)
    (a_Wish_init : PySem.W.findIn K (.ref C_Wish) "__init__" = some (some (.ref f_Wish_init))) (i_Wish_init : PySem.W.isFn K (.ref f_Wish_init) = true)
    (l_Wish_init : K.lookup f_Wish_init = some ⟨oc_Wish_init, od_Wish_init, .func (PySem.W.fnOf "__init__" "Wish.__init__" (defArgs s_Wish_init) (defBody s_Wish_init) (defScope s_Wish_init) .none kV_Wish_init dc_Wish_init pm_Wish_init an_Wish_init cd_Wish_init ct_Wish_init), sl_Wish_init⟩) (c_Wish_init : PySem.W.codeIn K cd_Wish_init "Wish.__init__" = true) (k_Wish_init : PySem.W.keepIn K (.ref f_Wish_init) = true)
    (a_Wish_eq : PySem.W.findIn K (.ref C_Wish) "__eq__" = some (some (.ref f_Wish_eq))) (i_Wish_eq : PySem.W.isFn K (.ref f_Wish_eq) = true)
    (l_Wish_eq : K.lookup f_Wish_eq = some ⟨oc_Wish_eq, od_Wish_eq, .func (PySem.W.fnOf "__eq__" "Wish.__eq__" (defArgs s_Wish_eq) (defBody s_Wish_eq) (defScope s_Wish_eq) .none kV_Wish_eq dc_Wish_eq pm_Wish_eq an_Wish_eq cd_Wish_eq ct_Wish_eq), sl_Wish_eq⟩) (c_Wish_eq : PySem.W.codeIn K cd_Wish_eq "Wish.__eq__" = true) (k_Wish_eq : PySem.W.keepIn K (.ref f_Wish_eq) = true)
    (a_Wish_str : PySem.W.findIn K (.ref C_Wish) "__str__" = some (some (.ref f_Wish_str))) (i_Wish_str : PySem.W.isFn K (.ref f_Wish_str) = true)
    (l_Wish_str : K.lookup f_Wish_str = some ⟨oc_Wish_str, od_Wish_str, .func (PySem.W.fnOf "__str__" "Wish.__str__" (defArgs s_Wish_str) (defBody s_Wish_str) (defScope s_Wish_str) .none kV_Wish_str dc_Wish_str pm_Wish_str an_Wish_str cd_Wish_str ct_Wish_str), sl_Wish_str⟩) (c_Wish_str : PySem.W.codeIn K cd_Wish_str "Wish.__str__" = true) (k_Wish_str : PySem.W.keepIn K (.ref f_Wish_str) = true)
    (sa_Wish_read : PySem.W.findCls K (.ref C_Wish) (.type "type") "read" = some (.get (.builtin "staticmethod.__get__") (.ref sp_Wish_read) .none (.ref C_Wish)))
    (sb_Wish_read : PySem.W.recIn K sp_Wish_read "staticmethod" = some (.ref f_Wish_read :: sr_Wish_read))
    (sc_Wish_read : PySem.W.readsIn K C_Wish (.type "type") = true)
    (sd_Wish_read : PySem.W.specialIn K (.ref C_Wish) "__getattribute__" = some (some (.builtin "type.__getattribute__")))
    (l_Wish_read : K.lookup f_Wish_read = some ⟨oc_Wish_read, od_Wish_read, .func (PySem.W.fnOf "read" "Wish.read" (defArgs s_Wish_read) (defBody s_Wish_read) (defScope s_Wish_read) .none kV_Wish_read dc_Wish_read pm_Wish_read an_Wish_read cd_Wish_read ct_Wish_read), sl_Wish_read⟩) (c_Wish_read : PySem.W.codeIn K cd_Wish_read "Wish.read" = true) (k_Wish_read : PySem.W.keepIn K (.ref f_Wish_read) = true)
    (a_is_wish_form : PySem.W.nsIn K mainGlobals "is_wish_form" = some (some (.ref f_is_wish_form)))
    (l_is_wish_form : K.lookup f_is_wish_form = some ⟨oc_is_wish_form, od_is_wish_form, .func (PySem.W.fnOf "is_wish_form" "is_wish_form" (defArgs s_is_wish_form) (defBody s_is_wish_form) (defScope s_is_wish_form) .none kV_is_wish_form dc_is_wish_form pm_is_wish_form an_is_wish_form cd_is_wish_form ct_is_wish_form), sl_is_wish_form⟩) (c_is_wish_form : PySem.W.codeIn K cd_is_wish_form "is_wish_form" = true) (k_is_wish_form : PySem.W.keepIn K (.ref f_is_wish_form) = true)
    (a_is_shaped : PySem.W.nsIn K mainGlobals "is_shaped" = some (some (.ref f_is_shaped)))
    (l_is_shaped : K.lookup f_is_shaped = some ⟨oc_is_shaped, od_is_shaped, .func (PySem.W.fnOf "is_shaped" "is_shaped" (defArgs s_is_shaped) (defBody s_is_shaped) (defScope s_is_shaped) .none kV_is_shaped dc_is_shaped pm_is_shaped an_is_shaped cd_is_shaped ct_is_shaped), sl_is_shaped⟩) (c_is_shaped : PySem.W.codeIn K cd_is_shaped "is_shaped" = true) (k_is_shaped : PySem.W.keepIn K (.ref f_is_shaped) = true)
    (a_is_counted : PySem.W.nsIn K mainGlobals "is_counted" = some (some (.ref f_is_counted)))
    (l_is_counted : K.lookup f_is_counted = some ⟨oc_is_counted, od_is_counted, .func (PySem.W.fnOf "is_counted" "is_counted" (defArgs s_is_counted) (defBody s_is_counted) (defScope s_is_counted) .none kV_is_counted dc_is_counted pm_is_counted an_is_counted cd_is_counted ct_is_counted), sl_is_counted⟩) (c_is_counted : PySem.W.codeIn K cd_is_counted "is_counted" = true) (k_is_counted : PySem.W.keepIn K (.ref f_is_counted) = true)
    (a_is_surplus : PySem.W.nsIn K mainGlobals "is_surplus" = some (some (.ref f_is_surplus)))
    (l_is_surplus : K.lookup f_is_surplus = some ⟨oc_is_surplus, od_is_surplus, .func (PySem.W.fnOf "is_surplus" "is_surplus" (defArgs s_is_surplus) (defBody s_is_surplus) (defScope s_is_surplus) .none kV_is_surplus dc_is_surplus pm_is_surplus an_is_surplus cd_is_surplus ct_is_surplus), sl_is_surplus⟩) (c_is_surplus : PySem.W.codeIn K cd_is_surplus "is_surplus" = true) (k_is_surplus : PySem.W.keepIn K (.ref f_is_surplus) = true)
    (a_surplus_of : PySem.W.nsIn K mainGlobals "surplus_of" = some (some (.ref f_surplus_of)))
    (l_surplus_of : K.lookup f_surplus_of = some ⟨oc_surplus_of, od_surplus_of, .func (PySem.W.fnOf "surplus_of" "surplus_of" (defArgs s_surplus_of) (defBody s_surplus_of) (defScope s_surplus_of) .none kV_surplus_of dc_surplus_of pm_surplus_of an_surplus_of cd_surplus_of ct_surplus_of), sl_surplus_of⟩) (c_surplus_of : PySem.W.codeIn K cd_surplus_of "surplus_of" = true) (k_surplus_of : PySem.W.keepIn K (.ref f_surplus_of) = true)
    (a_overs_in : PySem.W.nsIn K mainGlobals "overs_in" = some (some (.ref f_overs_in)))
    (l_overs_in : K.lookup f_overs_in = some ⟨oc_overs_in, od_overs_in, .func (PySem.W.fnOf "overs_in" "overs_in" (defArgs s_overs_in) (defBody s_overs_in) (defScope s_overs_in) .none kV_overs_in dc_overs_in pm_overs_in an_overs_in cd_overs_in ct_overs_in), sl_overs_in⟩) (c_overs_in : PySem.W.codeIn K cd_overs_in "overs_in" = true) (k_overs_in : PySem.W.keepIn K (.ref f_overs_in) = true)
    (a_wish_text : PySem.W.nsIn K mainGlobals "wish_text" = some (some (.ref f_wish_text)))
    (l_wish_text : K.lookup f_wish_text = some ⟨oc_wish_text, od_wish_text, .func (PySem.W.fnOf "wish_text" "wish_text" (defArgs s_wish_text) (defBody s_wish_text) (defScope s_wish_text) .none kV_wish_text dc_wish_text pm_wish_text an_wish_text cd_wish_text ct_wish_text), sl_wish_text⟩) (c_wish_text : PySem.W.codeIn K cd_wish_text "wish_text" = true) (k_wish_text : PySem.W.keepIn K (.ref f_wish_text) = true)
    (a_wish_form_in : PySem.W.nsIn K mainGlobals "wish_form_in" = some (some (.ref f_wish_form_in)))
    (l_wish_form_in : K.lookup f_wish_form_in = some ⟨oc_wish_form_in, od_wish_form_in, .func (PySem.W.fnOf "wish_form_in" "wish_form_in" (defArgs s_wish_form_in) (defBody s_wish_form_in) (defScope s_wish_form_in) .none kV_wish_form_in dc_wish_form_in pm_wish_form_in an_wish_form_in cd_wish_form_in ct_wish_form_in), sl_wish_form_in⟩) (c_wish_form_in : PySem.W.codeIn K cd_wish_form_in "wish_form_in" = true) (k_wish_form_in : PySem.W.keepIn K (.ref f_wish_form_in) = true)
    (a_closed : PySem.W.nsIn K mainGlobals "closed" = some (some (.ref f_closed)))
    (l_closed : K.lookup f_closed = some ⟨oc_closed, od_closed, .func (PySem.W.fnOf "closed" "closed" (defArgs s_closed) (defBody s_closed) (defScope s_closed) .none kV_closed dc_closed pm_closed an_closed cd_closed ct_closed), sl_closed⟩) (c_closed : PySem.W.codeIn K cd_closed "closed" = true) (k_closed : PySem.W.keepIn K (.ref f_closed) = true)
    (a_surplus_in : PySem.W.nsIn K mainGlobals "surplus_in" = some (some (.ref f_surplus_in)))
    (l_surplus_in : K.lookup f_surplus_in = some ⟨oc_surplus_in, od_surplus_in, .func (PySem.W.fnOf "surplus_in" "surplus_in" (defArgs s_surplus_in) (defBody s_surplus_in) (defScope s_surplus_in) .none kV_surplus_in dc_surplus_in pm_surplus_in an_surplus_in cd_surplus_in ct_surplus_in), sl_surplus_in⟩) (c_surplus_in : PySem.W.codeIn K cd_surplus_in "surplus_in" = true) (k_surplus_in : PySem.W.keepIn K (.ref f_surplus_in) = true)
    (a_bag : PySem.W.nsIn K mainGlobals "_law_bag" = some (some (.ref f_bag)))
    (l_bag : K.lookup f_bag = some ⟨oc_bag, od_bag, .func (PySem.W.fnOf "_law_bag" "_law_bag" (defArgs s_bag) (defBody s_bag) (defScope s_bag) .none kV_bag dc_bag pm_bag an_bag cd_bag ct_bag), sl_bag⟩) (c_bag : PySem.W.codeIn K cd_bag "_law_bag" = true) (k_bag : PySem.W.keepIn K (.ref f_bag) = true)
    (a_draw : PySem.W.nsIn K mainGlobals "_law_draw" = some (some (.ref f_draw)))
    (l_draw : K.lookup f_draw = some ⟨oc_draw, od_draw, .func (PySem.W.fnOf "_law_draw" "_law_draw" (defArgs s_draw) (defBody s_draw) (defScope s_draw) .none kV_draw dc_draw pm_draw an_draw cd_draw ct_draw), sl_draw⟩) (c_draw : PySem.W.codeIn K cd_draw "_law_draw" = true) (k_draw : PySem.W.keepIn K (.ref f_draw) = true)
    (a_one : PySem.W.nsIn K mainGlobals "_law_one" = some (some (.ref f_one)))
    (l_one : K.lookup f_one = some ⟨oc_one, od_one, .func (PySem.W.fnOf "_law_one" "_law_one" (defArgs s_one) (defBody s_one) (defScope s_one) .none kV_one dc_one pm_one an_one cd_one ct_one), sl_one⟩) (c_one : PySem.W.codeIn K cd_one "_law_one" = true) (k_one : PySem.W.keepIn K (.ref f_one) = true)
    (a_words : PySem.W.nsIn K mainGlobals "_law_words" = some (some (.ref f_words)))
    (l_words : K.lookup f_words = some ⟨oc_words, od_words, .func (PySem.W.fnOf "_law_words" "_law_words" (defArgs s_words) (defBody s_words) (defScope s_words) .none kV_words dc_words pm_words an_words cd_words ct_words), sl_words⟩) (c_words : PySem.W.codeIn K cd_words "_law_words" = true) (k_words : PySem.W.keepIn K (.ref f_words) = true)
    (a_letters : PySem.W.nsIn K mainGlobals "_law_letters" = some (some (.ref f_letters)))
    (l_letters : K.lookup f_letters = some ⟨oc_letters, od_letters, .func (PySem.W.fnOf "_law_letters" "_law_letters" (defArgs s_letters) (defBody s_letters) (defScope s_letters) .none kV_letters dc_letters pm_letters an_letters cd_letters ct_letters), sl_letters⟩) (c_letters : PySem.W.codeIn K cd_letters "_law_letters" = true) (k_letters : PySem.W.keepIn K (.ref f_letters) = true)
    (a_cords : PySem.W.nsIn K mainGlobals "_law_cords" = some (some (.ref f_cords)))
    (l_cords : K.lookup f_cords = some ⟨oc_cords, od_cords, .func (PySem.W.fnOf "_law_cords" "_law_cords" (defArgs s_cords) (defBody s_cords) (defScope s_cords) .none kV_cords dc_cords pm_cords an_cords cd_cords ct_cords), sl_cords⟩) (c_cords : PySem.W.codeIn K cd_cords "_law_cords" = true) (k_cords : PySem.W.keepIn K (.ref f_cords) = true)
    (a_shape : PySem.W.nsIn K mainGlobals "_law_shape" = some (some (.ref f_shape)))
    (l_shape : K.lookup f_shape = some ⟨oc_shape, od_shape, .func (PySem.W.fnOf "_law_shape" "_law_shape" (defArgs s_shape) (defBody s_shape) (defScope s_shape) .none kV_shape dc_shape pm_shape an_shape cd_shape ct_shape), sl_shape⟩) (c_shape : PySem.W.codeIn K cd_shape "_law_shape" = true) (k_shape : PySem.W.keepIn K (.ref f_shape) = true)
    (a_level : PySem.W.nsIn K mainGlobals "_law_level" = some (some (.ref f_level)))
    (l_level : K.lookup f_level = some ⟨oc_level, od_level, .func (PySem.W.fnOf "_law_level" "_law_level" (defArgs s_level) (defBody s_level) (defScope s_level) .none kV_level dc_level pm_level an_level cd_level ct_level), sl_level⟩) (c_level : PySem.W.codeIn K cd_level "_law_level" = true) (k_level : PySem.W.keepIn K (.ref f_level) = true)
    (a_more : PySem.W.nsIn K mainGlobals "_law_more" = some (some (.ref f_more)))
    (l_more : K.lookup f_more = some ⟨oc_more, od_more, .func (PySem.W.fnOf "_law_more" "_law_more" (defArgs s_more) (defBody s_more) (defScope s_more) .none kV_more dc_more pm_more an_more cd_more ct_more), sl_more⟩) (c_more : PySem.W.codeIn K cd_more "_law_more" = true) (k_more : PySem.W.keepIn K (.ref f_more) = true)
    (a_plea : PySem.W.nsIn K mainGlobals "_law_plea" = some (some (.ref f_plea)))
    (l_plea : K.lookup f_plea = some ⟨oc_plea, od_plea, .func (PySem.W.fnOf "_law_plea" "_law_plea" (defArgs s_plea) (defBody s_plea) (defScope s_plea) .none kV_plea dc_plea pm_plea an_plea cd_plea ct_plea), sl_plea⟩) (c_plea : PySem.W.codeIn K cd_plea "_law_plea" = true) (k_plea : PySem.W.keepIn K (.ref f_plea) = true)
    (a_level_text : PySem.W.nsIn K mainGlobals "_law_level_text" = some (some (.ref f_level_text)))
    (l_level_text : K.lookup f_level_text = some ⟨oc_level_text, od_level_text, .func (PySem.W.fnOf "_law_level_text" "_law_level_text" (defArgs s_level_text) (defBody s_level_text) (defScope s_level_text) .none kV_level_text dc_level_text pm_level_text an_level_text cd_level_text ct_level_text), sl_level_text⟩) (c_level_text : PySem.W.codeIn K cd_level_text "_law_level_text" = true) (k_level_text : PySem.W.keepIn K (.ref f_level_text) = true)
    (a_written : PySem.W.nsIn K mainGlobals "_law_written" = some (some (.ref f_written)))
    (l_written : K.lookup f_written = some ⟨oc_written, od_written, .func (PySem.W.fnOf "_law_written" "_law_written" (defArgs s_written) (defBody s_written) (defScope s_written) .none kV_written dc_written pm_written an_written cd_written ct_written), sl_written⟩) (c_written : PySem.W.codeIn K cd_written "_law_written" = true) (k_written : PySem.W.keepIn K (.ref f_written) = true)
    (a_right : PySem.W.nsIn K mainGlobals "_law_right" = some (some (.ref f_right)))
    (l_right : K.lookup f_right = some ⟨oc_right, od_right, .func (PySem.W.fnOf "_law_right" "_law_right" (defArgs s_right) (defBody s_right) (defScope s_right) .none kV_right dc_right pm_right an_right cd_right ct_right), sl_right⟩) (c_right : PySem.W.codeIn K cd_right "_law_right" = true) (k_right : PySem.W.keepIn K (.ref f_right) = true)
    (a_law : PySem.W.nsIn K mainGlobals "law" = some (some (.ref f_law)))
    (l_law : K.lookup f_law = some ⟨oc_law, od_law, .func (PySem.W.fnOf "law" "law" (defArgs s_law) (defBody s_law) (defScope s_law) .none kV_law dc_law pm_law an_law cd_law ct_law), sl_law⟩) (c_law : PySem.W.codeIn K cd_law "law" = true) (k_law : PySem.W.keepIn K (.ref f_law) = true)
    (z_isinstance : PySem.W.nsIn K mainGlobals "isinstance" = some none)
    (z_int : PySem.W.nsIn K mainGlobals "int" = some none)
    (z_bool : PySem.W.nsIn K mainGlobals "bool" = some none)
    (z_len : PySem.W.nsIn K mainGlobals "len" = some none)
    (z_abs : PySem.W.nsIn K mainGlobals "abs" = some none)
    (z_range : PySem.W.nsIn K mainGlobals "range" = some none)
    (z_all : PySem.W.nsIn K mainGlobals "all" = some none)
    (z_any : PySem.W.nsIn K mainGlobals "any" = some none)
    (z_max : PySem.W.nsIn K mainGlobals "max" = some none)
    (z_min : PySem.W.nsIn K mainGlobals "min" = some none)
    (z_str : PySem.W.nsIn K mainGlobals "str" = some none)
    (z_tuple : PySem.W.nsIn K mainGlobals "tuple" = some none)
    (z_zip : PySem.W.nsIn K mainGlobals "zip" = some none)
    (z_list : PySem.W.nsIn K mainGlobals "list" = some none)
    (z_sorted : PySem.W.nsIn K mainGlobals "sorted" = some none)
    (z_enumerate : PySem.W.nsIn K mainGlobals "enumerate" = some none)
    (g_gcd : PySem.W.nsIn K mainGlobals "gcd" = some (some (.builtin "math.gcd")))
    (g_MOST_PARTS : PySem.W.nsIn K mainGlobals "MOST_PARTS" = some (some (.int 6 tg_MOST_PARTS)))
    (g_MOST_TIES : PySem.W.nsIn K mainGlobals "MOST_TIES" = some (some (.int 10 tg_MOST_TIES)))
    (g_MOST_HOOKS : PySem.W.nsIn K mainGlobals "MOST_HOOKS" = some (some (.int 4 tg_MOST_HOOKS)))
    (g_MOST_STRINGS : PySem.W.nsIn K mainGlobals "MOST_STRINGS" = some (some (.int 6 tg_MOST_STRINGS)))
    (g_MOST_AMOUNT : PySem.W.nsIn K mainGlobals "MOST_AMOUNT" = some (some (.int 1000000 tg_MOST_AMOUNT)))
    (g_MOST_MOVES : PySem.W.nsIn K mainGlobals "MOST_MOVES" = some (some (.int 6 tg_MOST_MOVES)))
    (g_MOST_WISHES : PySem.W.nsIn K mainGlobals "MOST_WISHES" = some (some (.int 6 tg_MOST_WISHES)))
    (g_MOST_DEPTH : PySem.W.nsIn K mainGlobals "MOST_DEPTH" = some (some (.int 4 tg_MOST_DEPTH)))
    (g_MOST_OVERS : PySem.W.nsIn K mainGlobals "MOST_OVERS" = some (some (.int 8 tg_MOST_OVERS)))
    (h_n_parts : PySem.W.findIn K (.ref C_Puppet) "parts" = some none)
    (h_n_ties : PySem.W.findIn K (.ref C_Puppet) "ties" = some none)
    (h_n_hooks : PySem.W.findIn K (.ref C_Puppet) "hooks" = some none)
    (h_n_strings : PySem.W.findIn K (.ref C_Puppet) "strings" = some none)
    (h_n_names : PySem.W.findIn K (.ref C_Puppet) "names" = some none)
    (h_n_distances : PySem.W.findIn K (.ref C_Puppet) "distances" = some none)
    (h_nT : PySem.W.findIn K (.ref C_Ratio) "top" = some none)
    (h_nB : PySem.W.findIn K (.ref C_Ratio) "bottom" = some none)
    (h_nW : PySem.W.findIn K (.ref C_Wish) "form" = some none)
    (h_iN : PySem.W.specialIn K (.builtin "object.__class__") "__get__" = some (some (.builtin "getset_descriptor.__get__")))
    (h_iT : PySem.W.takesIn K (.builtin "object.__class__") = some true)
    (h_wA : PySem.W.findIn K (.ref C_Wish) "__class__" = some (some (.builtin "object.__class__")))
    (h_wM : PySem.W.mroIn K C_Wish (.type "object") = some true)
    (h_wWW : PySem.W.kitOne K (.ref C_Wish) (.ref C_Wish) = some true)
    (h_wTW : PySem.W.kitOne K (.type "tuple") (.ref C_Wish) = some false)
    (h_wfW : PySem.W.notFirst K C_Wish (.ref C_Wish) = true)
    (h_wfT : PySem.W.notFirst K C_Wish (.type "tuple") = true) :
    ∃ a : Ad, Txt K mg a :=
  ⟨{ k_MOST_PARTS := tg_MOST_PARTS, k_MOST_TIES := tg_MOST_TIES, k_MOST_HOOKS := tg_MOST_HOOKS, k_MOST_STRINGS := tg_MOST_STRINGS, k_MOST_AMOUNT := tg_MOST_AMOUNT, k_MOST_MOVES := tg_MOST_MOVES, k_MOST_WISHES := tg_MOST_WISHES, k_MOST_DEPTH := tg_MOST_DEPTH, k_MOST_OVERS := tg_MOST_OVERS, C_Puppet := C_Puppet, C_Ratio := C_Ratio, C_Wish := C_Wish, f_is_whole := f_is_whole, d_is_whole := PySem.W.fnOf "is_whole" "is_whole" (defArgs s_is_whole) (defBody s_is_whole) (defScope s_is_whole) .none kV_is_whole dc_is_whole pm_is_whole an_is_whole cd_is_whole ct_is_whole, f_is_number := f_is_number, d_is_number := PySem.W.fnOf "is_number" "is_number" (defArgs s_is_number) (defBody s_is_number) (defScope s_is_number) .none kV_is_number dc_is_number pm_is_number an_is_number cd_is_number ct_is_number, f_is_small_letter := f_is_small_letter, d_is_small_letter := PySem.W.fnOf "is_small_letter" "is_small_letter" (defArgs s_is_small_letter) (defBody s_is_small_letter) (defScope s_is_small_letter) .none kV_is_small_letter dc_is_small_letter pm_is_small_letter an_is_small_letter cd_is_small_letter ct_is_small_letter, f_is_capital := f_is_capital, d_is_capital := PySem.W.fnOf "is_capital" "is_capital" (defArgs s_is_capital) (defBody s_is_capital) (defScope s_is_capital) .none kV_is_capital dc_is_capital pm_is_capital an_is_capital cd_is_capital ct_is_capital, f_is_word := f_is_word, d_is_word := PySem.W.fnOf "is_word" "is_word" (defArgs s_is_word) (defBody s_is_word) (defScope s_is_word) .none kV_is_word dc_is_word pm_is_word an_is_word cd_is_word ct_is_word, f_is_row := f_is_row, d_is_row := PySem.W.fnOf "is_row" "is_row" (defArgs s_is_row) (defBody s_is_row) (defScope s_is_row) .none kV_is_row dc_is_row pm_is_row an_is_row cd_is_row ct_is_row, f_is_rising := f_is_rising, d_is_rising := PySem.W.fnOf "is_rising" "is_rising" (defArgs s_is_rising) (defBody s_is_rising) (defScope s_is_rising) .none kV_is_rising dc_is_rising pm_is_rising an_is_rising cd_is_rising ct_is_rising, f_are_capitals := f_are_capitals, d_are_capitals := PySem.W.fnOf "are_capitals" "are_capitals" (defArgs s_are_capitals) (defBody s_are_capitals) (defScope s_are_capitals) .none kV_are_capitals dc_are_capitals pm_are_capitals an_are_capitals cd_are_capitals ct_are_capitals, f_is_one_of := f_is_one_of, d_is_one_of := PySem.W.fnOf "is_one_of" "is_one_of" (defArgs s_is_one_of) (defBody s_is_one_of) (defScope s_is_one_of) .none kV_is_one_of dc_is_one_of pm_is_one_of an_is_one_of cd_is_one_of ct_is_one_of, f_Puppet_init := f_Puppet_init, d_Puppet_init := PySem.W.fnOf "__init__" "Puppet.__init__" (defArgs s_Puppet_init) (defBody s_Puppet_init) (defScope s_Puppet_init) .none kV_Puppet_init dc_Puppet_init pm_Puppet_init an_Puppet_init cd_Puppet_init ct_Puppet_init, f_check_parts := f_check_parts, d_check_parts := PySem.W.fnOf "check_parts" "check_parts" (defArgs s_check_parts) (defBody s_check_parts) (defScope s_check_parts) .none kV_check_parts dc_check_parts pm_check_parts an_check_parts cd_check_parts ct_check_parts, f_check_ties := f_check_ties, d_check_ties := PySem.W.fnOf "check_ties" "check_ties" (defArgs s_check_ties) (defBody s_check_ties) (defScope s_check_ties) .none kV_check_ties dc_check_ties pm_check_ties an_check_ties cd_check_ties ct_check_ties, f_is_tie := f_is_tie, d_is_tie := PySem.W.fnOf "is_tie" "is_tie" (defArgs s_is_tie) (defBody s_is_tie) (defScope s_is_tie) .none kV_is_tie dc_is_tie pm_is_tie an_is_tie cd_is_tie ct_is_tie, f_is_tied := f_is_tied, d_is_tied := PySem.W.fnOf "is_tied" "is_tied" (defArgs s_is_tied) (defBody s_is_tied) (defScope s_is_tied) .none kV_is_tied dc_is_tied pm_is_tied an_is_tied cd_is_tied ct_is_tied, f_check_strings := f_check_strings, d_check_strings := PySem.W.fnOf "check_strings" "check_strings" (defArgs s_check_strings) (defBody s_check_strings) (defScope s_check_strings) .none kV_check_strings dc_check_strings pm_check_strings an_check_strings cd_check_strings ct_check_strings, f_is_string := f_is_string, d_is_string := PySem.W.fnOf "is_string" "is_string" (defArgs s_is_string) (defBody s_is_string) (defScope s_is_string) .none kV_is_string dc_is_string pm_is_string an_is_string cd_is_string ct_is_string, f_distances_of := f_distances_of, d_distances_of := PySem.W.fnOf "distances_of" "distances_of" (defArgs s_distances_of) (defBody s_distances_of) (defScope s_distances_of) .none kV_distances_of dc_distances_of pm_distances_of an_distances_of cd_distances_of ct_distances_of, f_shorten := f_shorten, d_shorten := PySem.W.fnOf "shorten" "shorten" (defArgs s_shorten) (defBody s_shorten) (defScope s_shorten) .none kV_shorten dc_shorten pm_shorten an_shorten cd_shorten ct_shorten, f_moment_at := f_moment_at, d_moment_at := PySem.W.fnOf "moment_at" "moment_at" (defArgs s_moment_at) (defBody s_moment_at) (defScope s_moment_at) .none kV_moment_at dc_moment_at pm_moment_at an_moment_at cd_moment_at ct_moment_at, f_is_level := f_is_level, d_is_level := PySem.W.fnOf "is_level" "is_level" (defArgs s_is_level) (defBody s_is_level) (defScope s_is_level) .none kV_is_level dc_is_level pm_is_level an_is_level cd_is_level ct_is_level, f_p_level_text := f_p_level_text, d_p_level_text := PySem.W.fnOf "level_text" "level_text" (defArgs s_p_level_text) (defBody s_p_level_text) (defScope s_p_level_text) .none kV_p_level_text dc_p_level_text pm_p_level_text an_p_level_text cd_p_level_text ct_p_level_text, f_level_in := f_level_in, d_level_in := PySem.W.fnOf "level_in" "level_in" (defArgs s_level_in) (defBody s_level_in) (defScope s_level_in) .none kV_level_in dc_level_in pm_level_in an_level_in cd_level_in ct_level_in, f_moment_in := f_moment_in, d_moment_in := PySem.W.fnOf "moment_in" "moment_in" (defArgs s_moment_in) (defBody s_moment_in) (defScope s_moment_in) .none kV_moment_in dc_moment_in pm_moment_in an_moment_in cd_moment_in ct_moment_in, f_Ratio_init := f_Ratio_init, d_Ratio_init := PySem.W.fnOf "__init__" "Ratio.__init__" (defArgs s_Ratio_init) (defBody s_Ratio_init) (defScope s_Ratio_init) (.ref T_Ratio_init) kV_Ratio_init dc_Ratio_init pm_Ratio_init an_Ratio_init cd_Ratio_init ct_Ratio_init, f_Ratio_str := f_Ratio_str, d_Ratio_str := PySem.W.fnOf "__str__" "Ratio.__str__" (defArgs s_Ratio_str) (defBody s_Ratio_str) (defScope s_Ratio_str) .none kV_Ratio_str dc_Ratio_str pm_Ratio_str an_Ratio_str cd_Ratio_str ct_Ratio_str, f_ratio_in := f_ratio_in, d_ratio_in := PySem.W.fnOf "ratio_in" "ratio_in" (defArgs s_ratio_in) (defBody s_ratio_in) (defScope s_ratio_in) .none kV_ratio_in dc_ratio_in pm_ratio_in an_ratio_in cd_ratio_in ct_ratio_in, f_has_digits_alone := f_has_digits_alone, d_has_digits_alone := PySem.W.fnOf "has_digits_alone" "has_digits_alone" (defArgs s_has_digits_alone) (defBody s_has_digits_alone) (defScope s_has_digits_alone) .none kV_has_digits_alone dc_has_digits_alone pm_has_digits_alone an_has_digits_alone cd_has_digits_alone ct_has_digits_alone, f_Wish_init := f_Wish_init, d_Wish_init := PySem.W.fnOf "__init__" "Wish.__init__" (defArgs s_Wish_init) (defBody s_Wish_init) (defScope s_Wish_init) .none kV_Wish_init dc_Wish_init pm_Wish_init an_Wish_init cd_Wish_init ct_Wish_init, f_Wish_eq := f_Wish_eq, d_Wish_eq := PySem.W.fnOf "__eq__" "Wish.__eq__" (defArgs s_Wish_eq) (defBody s_Wish_eq) (defScope s_Wish_eq) .none kV_Wish_eq dc_Wish_eq pm_Wish_eq an_Wish_eq cd_Wish_eq ct_Wish_eq, f_Wish_str := f_Wish_str, d_Wish_str := PySem.W.fnOf "__str__" "Wish.__str__" (defArgs s_Wish_str) (defBody s_Wish_str) (defScope s_Wish_str) .none kV_Wish_str dc_Wish_str pm_Wish_str an_Wish_str cd_Wish_str ct_Wish_str, f_Wish_read := f_Wish_read, d_Wish_read := PySem.W.fnOf "read" "Wish.read" (defArgs s_Wish_read) (defBody s_Wish_read) (defScope s_Wish_read) .none kV_Wish_read dc_Wish_read pm_Wish_read an_Wish_read cd_Wish_read ct_Wish_read, f_is_wish_form := f_is_wish_form, d_is_wish_form := PySem.W.fnOf "is_wish_form" "is_wish_form" (defArgs s_is_wish_form) (defBody s_is_wish_form) (defScope s_is_wish_form) .none kV_is_wish_form dc_is_wish_form pm_is_wish_form an_is_wish_form cd_is_wish_form ct_is_wish_form, f_is_shaped := f_is_shaped, d_is_shaped := PySem.W.fnOf "is_shaped" "is_shaped" (defArgs s_is_shaped) (defBody s_is_shaped) (defScope s_is_shaped) .none kV_is_shaped dc_is_shaped pm_is_shaped an_is_shaped cd_is_shaped ct_is_shaped, f_is_counted := f_is_counted, d_is_counted := PySem.W.fnOf "is_counted" "is_counted" (defArgs s_is_counted) (defBody s_is_counted) (defScope s_is_counted) .none kV_is_counted dc_is_counted pm_is_counted an_is_counted cd_is_counted ct_is_counted, f_is_surplus := f_is_surplus, d_is_surplus := PySem.W.fnOf "is_surplus" "is_surplus" (defArgs s_is_surplus) (defBody s_is_surplus) (defScope s_is_surplus) .none kV_is_surplus dc_is_surplus pm_is_surplus an_is_surplus cd_is_surplus ct_is_surplus, f_surplus_of := f_surplus_of, d_surplus_of := PySem.W.fnOf "surplus_of" "surplus_of" (defArgs s_surplus_of) (defBody s_surplus_of) (defScope s_surplus_of) .none kV_surplus_of dc_surplus_of pm_surplus_of an_surplus_of cd_surplus_of ct_surplus_of, f_overs_in := f_overs_in, d_overs_in := PySem.W.fnOf "overs_in" "overs_in" (defArgs s_overs_in) (defBody s_overs_in) (defScope s_overs_in) .none kV_overs_in dc_overs_in pm_overs_in an_overs_in cd_overs_in ct_overs_in, f_wish_text := f_wish_text, d_wish_text := PySem.W.fnOf "wish_text" "wish_text" (defArgs s_wish_text) (defBody s_wish_text) (defScope s_wish_text) .none kV_wish_text dc_wish_text pm_wish_text an_wish_text cd_wish_text ct_wish_text, f_wish_form_in := f_wish_form_in, d_wish_form_in := PySem.W.fnOf "wish_form_in" "wish_form_in" (defArgs s_wish_form_in) (defBody s_wish_form_in) (defScope s_wish_form_in) .none kV_wish_form_in dc_wish_form_in pm_wish_form_in an_wish_form_in cd_wish_form_in ct_wish_form_in, f_closed := f_closed, d_closed := PySem.W.fnOf "closed" "closed" (defArgs s_closed) (defBody s_closed) (defScope s_closed) .none kV_closed dc_closed pm_closed an_closed cd_closed ct_closed, f_surplus_in := f_surplus_in, d_surplus_in := PySem.W.fnOf "surplus_in" "surplus_in" (defArgs s_surplus_in) (defBody s_surplus_in) (defScope s_surplus_in) .none kV_surplus_in dc_surplus_in pm_surplus_in an_surplus_in cd_surplus_in ct_surplus_in, f_bag := f_bag, d_bag := PySem.W.fnOf "_law_bag" "_law_bag" (defArgs s_bag) (defBody s_bag) (defScope s_bag) .none kV_bag dc_bag pm_bag an_bag cd_bag ct_bag, f_draw := f_draw, d_draw := PySem.W.fnOf "_law_draw" "_law_draw" (defArgs s_draw) (defBody s_draw) (defScope s_draw) .none kV_draw dc_draw pm_draw an_draw cd_draw ct_draw, f_one := f_one, d_one := PySem.W.fnOf "_law_one" "_law_one" (defArgs s_one) (defBody s_one) (defScope s_one) .none kV_one dc_one pm_one an_one cd_one ct_one, f_words := f_words, d_words := PySem.W.fnOf "_law_words" "_law_words" (defArgs s_words) (defBody s_words) (defScope s_words) .none kV_words dc_words pm_words an_words cd_words ct_words, f_letters := f_letters, d_letters := PySem.W.fnOf "_law_letters" "_law_letters" (defArgs s_letters) (defBody s_letters) (defScope s_letters) .none kV_letters dc_letters pm_letters an_letters cd_letters ct_letters, f_cords := f_cords, d_cords := PySem.W.fnOf "_law_cords" "_law_cords" (defArgs s_cords) (defBody s_cords) (defScope s_cords) .none kV_cords dc_cords pm_cords an_cords cd_cords ct_cords, f_shape := f_shape, d_shape := PySem.W.fnOf "_law_shape" "_law_shape" (defArgs s_shape) (defBody s_shape) (defScope s_shape) .none kV_shape dc_shape pm_shape an_shape cd_shape ct_shape, f_level := f_level, d_level := PySem.W.fnOf "_law_level" "_law_level" (defArgs s_level) (defBody s_level) (defScope s_level) .none kV_level dc_level pm_level an_level cd_level ct_level, f_more := f_more, d_more := PySem.W.fnOf "_law_more" "_law_more" (defArgs s_more) (defBody s_more) (defScope s_more) .none kV_more dc_more pm_more an_more cd_more ct_more, f_plea := f_plea, d_plea := PySem.W.fnOf "_law_plea" "_law_plea" (defArgs s_plea) (defBody s_plea) (defScope s_plea) .none kV_plea dc_plea pm_plea an_plea cd_plea ct_plea, f_level_text := f_level_text, d_level_text := PySem.W.fnOf "_law_level_text" "_law_level_text" (defArgs s_level_text) (defBody s_level_text) (defScope s_level_text) .none kV_level_text dc_level_text pm_level_text an_level_text cd_level_text ct_level_text, f_written := f_written, d_written := PySem.W.fnOf "_law_written" "_law_written" (defArgs s_written) (defBody s_written) (defScope s_written) .none kV_written dc_written pm_written an_written cd_written ct_written, f_right := f_right, d_right := PySem.W.fnOf "_law_right" "_law_right" (defArgs s_right) (defBody s_right) (defScope s_right) .none kV_right dc_right pm_right an_right cd_right ct_right, f_law := f_law, d_law := PySem.W.fnOf "law" "law" (defArgs s_law) (defBody s_law) (defScope s_law) .none kV_law dc_law pm_law an_law cd_law ct_law : Ad }, {
    F_is_whole := fun_mk (st := s_is_whole) l_is_whole c_is_whole k_is_whole,
    b_is_whole := (fun_mk (st := s_is_whole) l_is_whole c_is_whole k_is_whole).binds (ps := ["value"]) fun _ _ _ _ _ _ us hl => match us, hl with | [_], _ => rfl,
    m_is_whole := PySem.W.mg_of X G a_is_whole,
    F_is_number := fun_mk (st := s_is_number) l_is_number c_is_number k_is_number,
    b_is_number := (fun_mk (st := s_is_number) l_is_number c_is_number k_is_number).binds (ps := ["value"]) fun _ _ _ _ _ _ us hl => match us, hl with | [_], _ => rfl,
    m_is_number := PySem.W.mg_of X G a_is_number,
    F_is_small_letter := fun_mk (st := s_is_small_letter) l_is_small_letter c_is_small_letter k_is_small_letter,
    b_is_small_letter := (fun_mk (st := s_is_small_letter) l_is_small_letter c_is_small_letter k_is_small_letter).binds (ps := ["value"]) fun _ _ _ _ _ _ us hl => match us, hl with | [_], _ => rfl,
    m_is_small_letter := PySem.W.mg_of X G a_is_small_letter,
    F_is_capital := fun_mk (st := s_is_capital) l_is_capital c_is_capital k_is_capital,
    b_is_capital := (fun_mk (st := s_is_capital) l_is_capital c_is_capital k_is_capital).binds (ps := ["value"]) fun _ _ _ _ _ _ us hl => match us, hl with | [_], _ => rfl,
    m_is_capital := PySem.W.mg_of X G a_is_capital,
    F_is_word := fun_mk (st := s_is_word) l_is_word c_is_word k_is_word,
    b_is_word := (fun_mk (st := s_is_word) l_is_word c_is_word k_is_word).binds (ps := ["value"]) fun _ _ _ _ _ _ us hl => match us, hl with | [_], _ => rfl,
    m_is_word := PySem.W.mg_of X G a_is_word,
    F_is_row := fun_mk (st := s_is_row) l_is_row c_is_row k_is_row,
    b_is_row := (fun_mk (st := s_is_row) l_is_row c_is_row k_is_row).binds (ps := ["value", "least", "most"]) fun _ _ _ _ _ _ us hl => match us, hl with | [_, _, _], _ => rfl,
    m_is_row := PySem.W.mg_of X G a_is_row,
    F_is_rising := fun_mk (st := s_is_rising) l_is_rising c_is_rising k_is_rising,
    b_is_rising := (fun_mk (st := s_is_rising) l_is_rising c_is_rising k_is_rising).binds (ps := ["signs"]) fun _ _ _ _ _ _ us hl => match us, hl with | [_], _ => rfl,
    m_is_rising := PySem.W.mg_of X G a_is_rising,
    F_are_capitals := fun_mk (st := s_are_capitals) l_are_capitals c_are_capitals k_are_capitals,
    b_are_capitals := (fun_mk (st := s_are_capitals) l_are_capitals c_are_capitals k_are_capitals).binds (ps := ["value", "most"]) fun _ _ _ _ _ _ us hl => match us, hl with | [_, _], _ => rfl,
    m_are_capitals := PySem.W.mg_of X G a_are_capitals,
    F_is_one_of := fun_mk (st := s_is_one_of) l_is_one_of c_is_one_of k_is_one_of,
    b_is_one_of := (fun_mk (st := s_is_one_of) l_is_one_of c_is_one_of k_is_one_of).binds (ps := ["value", "strings"]) fun _ _ _ _ _ _ us hl => match us, hl with | [_, _], _ => rfl,
    m_is_one_of := PySem.W.mg_of X G a_is_one_of,
    F_Puppet_init := fun_mk (st := s_Puppet_init) l_Puppet_init c_Puppet_init k_Puppet_init,
    b_Puppet_init := (fun_mk (st := s_Puppet_init) l_Puppet_init c_Puppet_init k_Puppet_init).binds (ps := ["self", "parts", "ties", "hooks", "strings"]) fun _ _ _ _ _ _ us hl => match us, hl with | [_, _, _, _, _], _ => rfl,
    me_Puppet_init := ⟨a_Puppet_init, i_Puppet_init, k_Puppet_init⟩,
    F_check_parts := fun_mk (st := s_check_parts) l_check_parts c_check_parts k_check_parts,
    b_check_parts := (fun_mk (st := s_check_parts) l_check_parts c_check_parts k_check_parts).binds (ps := ["parts"]) fun _ _ _ _ _ _ us hl => match us, hl with | [_], _ => rfl,
    m_check_parts := PySem.W.mg_of X G a_check_parts,
    F_check_ties := fun_mk (st := s_check_ties) l_check_ties c_check_ties k_check_ties,
    b_check_ties := (fun_mk (st := s_check_ties) l_check_ties c_check_ties k_check_ties).binds (ps := ["ties", "parts"]) fun _ _ _ _ _ _ us hl => match us, hl with | [_, _], _ => rfl,
    m_check_ties := PySem.W.mg_of X G a_check_ties,
    F_is_tie := fun_mk (st := s_is_tie) l_is_tie c_is_tie k_is_tie,
    b_is_tie := (fun_mk (st := s_is_tie) l_is_tie c_is_tie k_is_tie).binds (ps := ["value", "parts"]) fun _ _ _ _ _ _ us hl => match us, hl with | [_, _], _ => rfl,
    m_is_tie := PySem.W.mg_of X G a_is_tie,
    F_is_tied := fun_mk (st := s_is_tied) l_is_tied c_is_tied k_is_tied,
    b_is_tied := (fun_mk (st := s_is_tied) l_is_tied c_is_tied k_is_tied).binds (ps := ["part", "other", "ties"]) fun _ _ _ _ _ _ us hl => match us, hl with | [_, _, _], _ => rfl,
    m_is_tied := PySem.W.mg_of X G a_is_tied,
    F_check_strings := fun_mk (st := s_check_strings) l_check_strings c_check_strings k_check_strings,
    b_check_strings := (fun_mk (st := s_check_strings) l_check_strings c_check_strings k_check_strings).binds (ps := ["strings", "hooks", "parts"]) fun _ _ _ _ _ _ us hl => match us, hl with | [_, _, _], _ => rfl,
    m_check_strings := PySem.W.mg_of X G a_check_strings,
    F_is_string := fun_mk (st := s_is_string) l_is_string c_is_string k_is_string,
    b_is_string := (fun_mk (st := s_is_string) l_is_string c_is_string k_is_string).binds (ps := ["value", "hooks", "parts"]) fun _ _ _ _ _ _ us hl => match us, hl with | [_, _, _], _ => rfl,
    m_is_string := PySem.W.mg_of X G a_is_string,
    F_distances_of := fun_mk (st := s_distances_of) l_distances_of c_distances_of k_distances_of,
    b_distances_of := (fun_mk (st := s_distances_of) l_distances_of c_distances_of k_distances_of).binds (ps := ["parts", "ties"]) fun _ _ _ _ _ _ us hl => match us, hl with | [_, _], _ => rfl,
    m_distances_of := PySem.W.mg_of X G a_distances_of,
    F_shorten := fun_mk (st := s_shorten) l_shorten c_shorten k_shorten,
    b_shorten := (fun_mk (st := s_shorten) l_shorten c_shorten k_shorten).binds (ps := ["distances", "part", "middle", "other"]) fun _ _ _ _ _ _ us hl => match us, hl with | [_, _, _, _], _ => rfl,
    m_shorten := PySem.W.mg_of X G a_shorten,
    F_moment_at := fun_mk (st := s_moment_at) l_moment_at c_moment_at k_moment_at,
    b_moment_at := (fun_mk (st := s_moment_at) l_moment_at c_moment_at k_moment_at).binds (ps := ["value", "last"]) fun _ _ _ _ _ _ us hl => match us, hl with | [_, _], _ => rfl,
    m_moment_at := PySem.W.mg_of X G a_moment_at,
    F_is_level := fun_mk (st := s_is_level) l_is_level c_is_level k_is_level,
    b_is_level := (fun_mk (st := s_is_level) l_is_level c_is_level k_is_level).binds (ps := ["value"]) fun _ _ _ _ _ _ us hl => match us, hl with | [_], _ => rfl,
    m_is_level := PySem.W.mg_of X G a_is_level,
    F_p_level_text := fun_mk (st := s_p_level_text) l_p_level_text c_p_level_text k_p_level_text,
    b_p_level_text := (fun_mk (st := s_p_level_text) l_p_level_text c_p_level_text k_p_level_text).binds (ps := ["level"]) fun _ _ _ _ _ _ us hl => match us, hl with | [_], _ => rfl,
    m_p_level_text := PySem.W.mg_of X G a_p_level_text,
    F_level_in := fun_mk (st := s_level_in) l_level_in c_level_in k_level_in,
    b_level_in := (fun_mk (st := s_level_in) l_level_in c_level_in k_level_in).binds (ps := ["text"]) fun _ _ _ _ _ _ us hl => match us, hl with | [_], _ => rfl,
    m_level_in := PySem.W.mg_of X G a_level_in,
    F_moment_in := fun_mk (st := s_moment_in) l_moment_in c_moment_in k_moment_in,
    b_moment_in := (fun_mk (st := s_moment_in) l_moment_in c_moment_in k_moment_in).binds (ps := ["text"]) fun _ _ _ _ _ _ us hl => match us, hl with | [_], _ => rfl,
    m_moment_in := PySem.W.mg_of X G a_moment_in,
    F_Ratio_init := ⟨⟨_, _, _, _, _, _, _, _, _, _, rfl, l_Ratio_init, c_Ratio_init, .inr ⟨(fun h => nomatch h), _, _, [.int 1 tk0], _, rfl, t_Ratio_init, rfl, .cons ⟨_, rfl⟩ (.nil)⟩, .inl rfl⟩, k_Ratio_init⟩,
    me_Ratio_init := ⟨a_Ratio_init, i_Ratio_init, k_Ratio_init⟩,
    F_Ratio_str := fun_mk (st := s_Ratio_str) l_Ratio_str c_Ratio_str k_Ratio_str,
    b_Ratio_str := (fun_mk (st := s_Ratio_str) l_Ratio_str c_Ratio_str k_Ratio_str).binds (ps := ["self"]) fun _ _ _ _ _ _ us hl => match us, hl with | [_], _ => rfl,
    me_Ratio_str := ⟨a_Ratio_str, i_Ratio_str, k_Ratio_str⟩,
    F_ratio_in := fun_mk (st := s_ratio_in) l_ratio_in c_ratio_in k_ratio_in,
    b_ratio_in := (fun_mk (st := s_ratio_in) l_ratio_in c_ratio_in k_ratio_in).binds (ps := ["text"]) fun _ _ _ _ _ _ us hl => match us, hl with | [_], _ => rfl,
    m_ratio_in := PySem.W.mg_of X G a_ratio_in,
    F_has_digits_alone := fun_mk (st := s_has_digits_alone) l_has_digits_alone c_has_digits_alone k_has_digits_alone,
    b_has_digits_alone := (fun_mk (st := s_has_digits_alone) l_has_digits_alone c_has_digits_alone k_has_digits_alone).binds (ps := ["text"]) fun _ _ _ _ _ _ us hl => match us, hl with | [_], _ => rfl,
    m_has_digits_alone := PySem.W.mg_of X G a_has_digits_alone,
    F_Wish_init := fun_mk (st := s_Wish_init) l_Wish_init c_Wish_init k_Wish_init,
    b_Wish_init := (fun_mk (st := s_Wish_init) l_Wish_init c_Wish_init k_Wish_init).binds (ps := ["self", "form"]) fun _ _ _ _ _ _ us hl => match us, hl with | [_, _], _ => rfl,
    me_Wish_init := ⟨a_Wish_init, i_Wish_init, k_Wish_init⟩,
    F_Wish_eq := fun_mk (st := s_Wish_eq) l_Wish_eq c_Wish_eq k_Wish_eq,
    b_Wish_eq := (fun_mk (st := s_Wish_eq) l_Wish_eq c_Wish_eq k_Wish_eq).binds (ps := ["self", "other"]) fun _ _ _ _ _ _ us hl => match us, hl with | [_, _], _ => rfl,
    me_Wish_eq := ⟨a_Wish_eq, i_Wish_eq, k_Wish_eq⟩,
    F_Wish_str := fun_mk (st := s_Wish_str) l_Wish_str c_Wish_str k_Wish_str,
    b_Wish_str := (fun_mk (st := s_Wish_str) l_Wish_str c_Wish_str k_Wish_str).binds (ps := ["self"]) fun _ _ _ _ _ _ us hl => match us, hl with | [_], _ => rfl,
    me_Wish_str := ⟨a_Wish_str, i_Wish_str, k_Wish_str⟩,
    F_Wish_read := fun_mk (st := s_Wish_read) l_Wish_read c_Wish_read k_Wish_read,
    b_Wish_read := (fun_mk (st := s_Wish_read) l_Wish_read c_Wish_read k_Wish_read).binds (ps := ["text"]) fun _ _ _ _ _ _ us hl => match us, hl with | [_], _ => rfl,
    sm_Wish_read := ⟨_, sa_Wish_read, ⟨_, sb_Wish_read⟩, sc_Wish_read, sd_Wish_read, k_Wish_read⟩,
    F_is_wish_form := fun_mk (st := s_is_wish_form) l_is_wish_form c_is_wish_form k_is_wish_form,
    b_is_wish_form := (fun_mk (st := s_is_wish_form) l_is_wish_form c_is_wish_form k_is_wish_form).binds (ps := ["value"]) fun _ _ _ _ _ _ us hl => match us, hl with | [_], _ => rfl,
    m_is_wish_form := PySem.W.mg_of X G a_is_wish_form,
    F_is_shaped := fun_mk (st := s_is_shaped) l_is_shaped c_is_shaped k_is_shaped,
    b_is_shaped := (fun_mk (st := s_is_shaped) l_is_shaped c_is_shaped k_is_shaped).binds (ps := ["value", "depth"]) fun _ _ _ _ _ _ us hl => match us, hl with | [_, _], _ => rfl,
    m_is_shaped := PySem.W.mg_of X G a_is_shaped,
    F_is_counted := fun_mk (st := s_is_counted) l_is_counted c_is_counted k_is_counted,
    b_is_counted := (fun_mk (st := s_is_counted) l_is_counted c_is_counted k_is_counted).binds (ps := ["word", "many"]) fun _ _ _ _ _ _ us hl => match us, hl with | [_, _], _ => rfl,
    m_is_counted := PySem.W.mg_of X G a_is_counted,
    F_is_surplus := fun_mk (st := s_is_surplus) l_is_surplus c_is_surplus k_is_surplus,
    b_is_surplus := (fun_mk (st := s_is_surplus) l_is_surplus c_is_surplus k_is_surplus).binds (ps := ["value"]) fun _ _ _ _ _ _ us hl => match us, hl with | [_], _ => rfl,
    m_is_surplus := PySem.W.mg_of X G a_is_surplus,
    F_surplus_of := fun_mk (st := s_surplus_of) l_surplus_of c_surplus_of k_surplus_of,
    b_surplus_of := (fun_mk (st := s_surplus_of) l_surplus_of c_surplus_of k_surplus_of).binds (ps := ["form"]) fun _ _ _ _ _ _ us hl => match us, hl with | [_], _ => rfl,
    m_surplus_of := PySem.W.mg_of X G a_surplus_of,
    F_overs_in := fun_mk (st := s_overs_in) l_overs_in c_overs_in k_overs_in,
    b_overs_in := (fun_mk (st := s_overs_in) l_overs_in c_overs_in k_overs_in).binds (ps := ["form"]) fun _ _ _ _ _ _ us hl => match us, hl with | [_], _ => rfl,
    m_overs_in := PySem.W.mg_of X G a_overs_in,
    F_wish_text := fun_mk (st := s_wish_text) l_wish_text c_wish_text k_wish_text,
    b_wish_text := (fun_mk (st := s_wish_text) l_wish_text c_wish_text k_wish_text).binds (ps := ["form"]) fun _ _ _ _ _ _ us hl => match us, hl with | [_], _ => rfl,
    m_wish_text := PySem.W.mg_of X G a_wish_text,
    F_wish_form_in := fun_mk (st := s_wish_form_in) l_wish_form_in c_wish_form_in k_wish_form_in,
    b_wish_form_in := (fun_mk (st := s_wish_form_in) l_wish_form_in c_wish_form_in k_wish_form_in).binds (ps := ["text"]) fun _ _ _ _ _ _ us hl => match us, hl with | [_], _ => rfl,
    m_wish_form_in := PySem.W.mg_of X G a_wish_form_in,
    F_closed := fun_mk (st := s_closed) l_closed c_closed k_closed,
    b_closed := (fun_mk (st := s_closed) l_closed c_closed k_closed).binds (ps := ["words"]) fun _ _ _ _ _ _ us hl => match us, hl with | [_], _ => rfl,
    m_closed := PySem.W.mg_of X G a_closed,
    F_surplus_in := fun_mk (st := s_surplus_in) l_surplus_in c_surplus_in k_surplus_in,
    b_surplus_in := (fun_mk (st := s_surplus_in) l_surplus_in c_surplus_in k_surplus_in).binds (ps := ["text"]) fun _ _ _ _ _ _ us hl => match us, hl with | [_], _ => rfl,
    m_surplus_in := PySem.W.mg_of X G a_surplus_in,
    F_bag := fun_mk (st := s_bag) l_bag c_bag k_bag,
    b_bag := (fun_mk (st := s_bag) l_bag c_bag k_bag).binds (ps := ["_law_cells", "_law_k"]) fun _ _ _ _ _ _ us hl => match us, hl with | [_, _], _ => rfl,
    m_bag := PySem.W.mg_of X G a_bag,
    F_draw := fun_mk (st := s_draw) l_draw c_draw k_draw,
    b_draw := (fun_mk (st := s_draw) l_draw c_draw k_draw).binds (ps := ["_law_bag_here", "_law_wide"]) fun _ _ _ _ _ _ us hl => match us, hl with | [_, _], _ => rfl,
    m_draw := PySem.W.mg_of X G a_draw,
    F_one := fun_mk (st := s_one) l_one c_one k_one,
    b_one := (fun_mk (st := s_one) l_one c_one k_one).binds (ps := ["_law_bag_here", "_law_some"]) fun _ _ _ _ _ _ us hl => match us, hl with | [_, _], _ => rfl,
    m_one := PySem.W.mg_of X G a_one,
    F_words := fun_mk (st := s_words) l_words c_words k_words,
    b_words := (fun_mk (st := s_words) l_words c_words k_words).binds (ps := ["_law_bag_here", "_law_many"]) fun _ _ _ _ _ _ us hl => match us, hl with | [_, _], _ => rfl,
    m_words := PySem.W.mg_of X G a_words,
    F_letters := fun_mk (st := s_letters) l_letters c_letters k_letters,
    b_letters := (fun_mk (st := s_letters) l_letters c_letters k_letters).binds (ps := ["_law_bag_here", "_law_pool", "_law_many"]) fun _ _ _ _ _ _ us hl => match us, hl with | [_, _, _], _ => rfl,
    m_letters := PySem.W.mg_of X G a_letters,
    F_cords := fun_mk (st := s_cords) l_cords c_cords k_cords,
    b_cords := (fun_mk (st := s_cords) l_cords c_cords k_cords).binds (ps := ["_law_bag_here", "_law_limbs"]) fun _ _ _ _ _ _ us hl => match us, hl with | [_, _], _ => rfl,
    m_cords := PySem.W.mg_of X G a_cords,
    F_shape := fun_mk (st := s_shape) l_shape c_shape k_shape,
    b_shape := (fun_mk (st := s_shape) l_shape c_shape k_shape).binds (ps := ["_law_bag_here"]) fun _ _ _ _ _ _ us hl => match us, hl with | [_], _ => rfl,
    m_shape := PySem.W.mg_of X G a_shape,
    F_level := fun_mk (st := s_level) l_level c_level k_level,
    b_level := (fun_mk (st := s_level) l_level c_level k_level).binds (ps := ["_law_bag_here", "_law_shape_here", "_law_far_when"]) fun _ _ _ _ _ _ us hl => match us, hl with | [_, _, _], _ => rfl,
    m_level := PySem.W.mg_of X G a_level,
    F_more := fun_mk (st := s_more) l_more c_more k_more,
    b_more := (fun_mk (st := s_more) l_more c_more k_more).binds (ps := ["_law_bag_here"]) fun _ _ _ _ _ _ us hl => match us, hl with | [_], _ => rfl,
    m_more := PySem.W.mg_of X G a_more,
    F_plea := fun_mk (st := s_plea) l_plea c_plea k_plea,
    b_plea := (fun_mk (st := s_plea) l_plea c_plea k_plea).binds (ps := ["_law_bag_here", "_law_shape_here", "_law_far_when", "_law_room"]) fun _ _ _ _ _ _ us hl => match us, hl with | [_, _, _, _], _ => rfl,
    m_plea := PySem.W.mg_of X G a_plea,
    F_level_text := fun_mk (st := s_level_text) l_level_text c_level_text k_level_text,
    b_level_text := (fun_mk (st := s_level_text) l_level_text c_level_text k_level_text).binds (ps := ["_law_level_here"]) fun _ _ _ _ _ _ us hl => match us, hl with | [_], _ => rfl,
    m_level_text := PySem.W.mg_of X G a_level_text,
    F_written := fun_mk (st := s_written) l_written c_written k_written,
    b_written := (fun_mk (st := s_written) l_written c_written k_written).binds (ps := ["_law_plea_here"]) fun _ _ _ _ _ _ us hl => match us, hl with | [_], _ => rfl,
    m_written := PySem.W.mg_of X G a_written,
    F_right := fun_mk (st := s_right) l_right c_right k_right,
    b_right := (fun_mk (st := s_right) l_right c_right k_right).binds (ps := ["_law_bag_here"]) fun _ _ _ _ _ _ us hl => match us, hl with | [_], _ => rfl,
    m_right := PySem.W.mg_of X G a_right,
    F_law := fun_mk (st := s_law) l_law c_law k_law,
    b_law := (fun_mk (st := s_law) l_law c_law k_law).binds (ps := ["_law_cells"]) fun _ _ _ _ _ _ us hl => match us, hl with | [_], _ => rfl,
    m_law := PySem.W.mg_of X G a_law,
    cl_Puppet := ⟨pg_Puppet, hd_Puppet, po_Puppet, sa_Puppet⟩,
    m_Puppet := PySem.W.mg_of X G aC_Puppet,
    mk_Puppet := ⟨mk_Puppet, a_Puppet_init, i_Puppet_init, kc_Puppet⟩,
    cl_Ratio := ⟨pg_Ratio, hd_Ratio, po_Ratio, sa_Ratio⟩,
    m_Ratio := PySem.W.mg_of X G aC_Ratio,
    mk_Ratio := ⟨mk_Ratio, a_Ratio_init, i_Ratio_init, kc_Ratio⟩,
    cl_Wish := ⟨pg_Wish, hd_Wish, po_Wish, sa_Wish⟩,
    m_Wish := PySem.W.mg_of X G aC_Wish,
    mk_Wish := ⟨mk_Wish, a_Wish_init, i_Wish_init, kc_Wish⟩,
    z_isinstance := PySem.W.mg_none_of X G z_isinstance,
    z_int := PySem.W.mg_none_of X G z_int,
    z_bool := PySem.W.mg_none_of X G z_bool,
    z_len := PySem.W.mg_none_of X G z_len,
    z_abs := PySem.W.mg_none_of X G z_abs,
    z_range := PySem.W.mg_none_of X G z_range,
    z_all := PySem.W.mg_none_of X G z_all,
    z_any := PySem.W.mg_none_of X G z_any,
    z_max := PySem.W.mg_none_of X G z_max,
    z_min := PySem.W.mg_none_of X G z_min,
    z_str := PySem.W.mg_none_of X G z_str,
    z_tuple := PySem.W.mg_none_of X G z_tuple,
    z_zip := PySem.W.mg_none_of X G z_zip,
    z_list := PySem.W.mg_none_of X G z_list,
    z_sorted := PySem.W.mg_none_of X G z_sorted,
    z_enumerate := PySem.W.mg_none_of X G z_enumerate,
    m_gcd := PySem.W.mg_of X G g_gcd,
    m_MOST_PARTS := PySem.W.mg_of X G g_MOST_PARTS,
    m_MOST_TIES := PySem.W.mg_of X G g_MOST_TIES,
    m_MOST_HOOKS := PySem.W.mg_of X G g_MOST_HOOKS,
    m_MOST_STRINGS := PySem.W.mg_of X G g_MOST_STRINGS,
    m_MOST_AMOUNT := PySem.W.mg_of X G g_MOST_AMOUNT,
    m_MOST_MOVES := PySem.W.mg_of X G g_MOST_MOVES,
    m_MOST_WISHES := PySem.W.mg_of X G g_MOST_WISHES,
    m_MOST_DEPTH := PySem.W.mg_of X G g_MOST_DEPTH,
    m_MOST_OVERS := PySem.W.mg_of X G g_MOST_OVERS,
    n_parts := h_n_parts,
    n_ties := h_n_ties,
    n_hooks := h_n_hooks,
    n_strings := h_n_strings,
    n_names := h_n_names,
    n_distances := h_n_distances,
    nT := h_nT,
    nB := h_nB,
    nW := h_nW,
    iN := h_iN,
    iT := h_iT,
    wA := h_wA,
    wM := h_wM,
    wWW := h_wWW,
    wTW := h_wTW,
    wfW := h_wfW,
    wfT := h_wfT }⟩

end RK17

namespace RK17
open PySem PySem.Spec PyProof.Rows L2 RK
/-! ### the head: what the top leaves, read by a Hook -/
theorem all_at {l : List Bool} (h : l.all id = true) {i : Nat} {b : Bool} (e : l[i]? = some b) : b = true := List.all_eq_true.mp h b (List.mem_of_getElem? e)
def intB (K : PySem.W.Frag) (x : Str) (i : Int) : Bool := match PySem.W.nsIn K mainGlobals x with
  | some (some (.int j _)) => decide (j = i)
  | _ => false
theorem intB_ok {K : PySem.W.Frag} {x : Str} {i : Int} (h : intB K x i = true) : ∃ t, PySem.W.nsIn K mainGlobals x = some (some (.int i t)) := by
  unfold intB at h
  split at h
  · rename_i j t e
    rw [of_decide_eq_true h] at e
    exact ⟨t, e⟩
  · cases h
def emB (K : PySem.W.Frag) (a : Addr) : Bool := match K.lookup a with
  | some ⟨.type "tuple", _, .seq its _, _⟩ => its.isEmpty
  | _ => false
theorem emB_ok {K : PySem.W.Frag} {a : Addr} (h : emB K a = true) : ∃ de ne sle, K.lookup a = some ⟨.type "tuple", de, .seq #[] ne, sle⟩ := by
  unfold emB at h
  split at h
  · rename_i de its ne sle e
    have : its = #[] := by simpa using h
    rw [this] at e
    exact ⟨de, ne, sle, e⟩
  · cases h
theorem dfl_none {K : PySem.W.Frag} {dV : Value} (h : DflV K dV []) : dV = .none := by
  rcases h with ⟨_, e⟩ | ⟨n, _⟩
  · exact e
  · exact absurd rfl n
theorem dfl_some {K : PySem.W.Frag} {dV : Value} {v : V} {vs : List V} (h : DflV K dV (v :: vs)) : ∃ (T : Addr) (tc : Value) (td : Option Addr) (its : List Value) (tn : Nat) (ts : Array (Option Value)), dV = .ref T ∧ K.lookup T = some ⟨tc, td, .seq its.toArray tn, ts⟩ ∧ Vals (v :: vs) its := by
  rcases h with ⟨e, _⟩ | ⟨_, T, o, its, n, e1, e2, e3, e4⟩
  · cases e
  · obtain ⟨tc, td, dt, ts⟩ := o
    have e3 : dt = .seq its.toArray n := e3
    subst e3
    exact ⟨T, tc, td, its, n, ts, e1, e2, e4⟩
theorem vals_cons {v : V} {vs : List V} {us : List Value} (h : Vals (v :: vs) us) : ∃ u r, us = u :: r ∧ RelV v u ∧ Vals vs r := by
  cases h with
  | cons a b => exact ⟨_, _, rfl, a, b⟩
theorem vals_nil {us : List Value} (h : Vals [] us) : us = [] := by cases h; rfl
def ex0 (K : PySem.W.Frag) : List Bool := [decide (PySem.W.nsIn K mainGlobals "Puppet" = some (some (.ref (He.ga K "Puppet")))),
  PySem.W.plainGet K (He.ga K "Puppet") Str.empty,
  PySem.W.hasDictIn K (He.ga K "Puppet"),
  PySem.W.plainOver K (He.ga K "Puppet"),
  decide (PySem.W.findIn K (.ref (He.ga K "Puppet")) "__setattr__" = some (some (.builtin "object.__setattr__"))),
  PySem.W.makesIn K (He.ga K "Puppet"),
  PySem.W.keepIn K (.ref (He.ga K "Puppet")),
  decide (PySem.W.nsIn K mainGlobals "Ratio" = some (some (.ref (He.ga K "Ratio")))),
  PySem.W.plainGet K (He.ga K "Ratio") Str.empty,
  PySem.W.hasDictIn K (He.ga K "Ratio"),
  PySem.W.plainOver K (He.ga K "Ratio"),
  decide (PySem.W.findIn K (.ref (He.ga K "Ratio")) "__setattr__" = some (some (.builtin "object.__setattr__"))),
  PySem.W.makesIn K (He.ga K "Ratio"),
  PySem.W.keepIn K (.ref (He.ga K "Ratio")),
  decide (PySem.W.nsIn K mainGlobals "Wish" = some (some (.ref (He.ga K "Wish")))),
  PySem.W.plainGet K (He.ga K "Wish") Str.empty,
  PySem.W.hasDictIn K (He.ga K "Wish"),
  PySem.W.plainOver K (He.ga K "Wish"),
  decide (PySem.W.findIn K (.ref (He.ga K "Wish")) "__setattr__" = some (some (.builtin "object.__setattr__"))),
  PySem.W.makesIn K (He.ga K "Wish"),
  PySem.W.keepIn K (.ref (He.ga K "Wish")),
  decide (PySem.W.nsIn K mainGlobals "is_whole" = some (some (.ref (He.fAd K ("is_whole", none))))),
  decide (PySem.W.nsIn K mainGlobals "is_number" = some (some (.ref (He.fAd K ("is_number", none))))),
  decide (PySem.W.nsIn K mainGlobals "is_small_letter" = some (some (.ref (He.fAd K ("is_small_letter", none))))),
  decide (PySem.W.nsIn K mainGlobals "is_capital" = some (some (.ref (He.fAd K ("is_capital", none)))))]
def ex1 (K : PySem.W.Frag) : List Bool := [decide (PySem.W.nsIn K mainGlobals "is_word" = some (some (.ref (He.fAd K ("is_word", none))))),
  decide (PySem.W.nsIn K mainGlobals "is_row" = some (some (.ref (He.fAd K ("is_row", none))))),
  decide (PySem.W.nsIn K mainGlobals "is_rising" = some (some (.ref (He.fAd K ("is_rising", none))))),
  decide (PySem.W.nsIn K mainGlobals "are_capitals" = some (some (.ref (He.fAd K ("are_capitals", none))))),
  decide (PySem.W.nsIn K mainGlobals "is_one_of" = some (some (.ref (He.fAd K ("is_one_of", none))))),
  decide (PySem.W.findIn K (.ref (He.ga K "Puppet")) "__init__" = some (some (.ref (He.fAd K ("Puppet", some "__init__"))))),
  PySem.W.isFn K (.ref (He.fAd K ("Puppet", some "__init__"))),
  decide (PySem.W.nsIn K mainGlobals "check_parts" = some (some (.ref (He.fAd K ("check_parts", none))))),
  decide (PySem.W.nsIn K mainGlobals "check_ties" = some (some (.ref (He.fAd K ("check_ties", none))))),
  decide (PySem.W.nsIn K mainGlobals "is_tie" = some (some (.ref (He.fAd K ("is_tie", none))))),
  decide (PySem.W.nsIn K mainGlobals "is_tied" = some (some (.ref (He.fAd K ("is_tied", none))))),
  decide (PySem.W.nsIn K mainGlobals "check_strings" = some (some (.ref (He.fAd K ("check_strings", none))))),
  decide (PySem.W.nsIn K mainGlobals "is_string" = some (some (.ref (He.fAd K ("is_string", none))))),
  decide (PySem.W.nsIn K mainGlobals "distances_of" = some (some (.ref (He.fAd K ("distances_of", none))))),
  decide (PySem.W.nsIn K mainGlobals "shorten" = some (some (.ref (He.fAd K ("shorten", none))))),
  decide (PySem.W.nsIn K mainGlobals "moment_at" = some (some (.ref (He.fAd K ("moment_at", none))))),
  decide (PySem.W.nsIn K mainGlobals "is_level" = some (some (.ref (He.fAd K ("is_level", none))))),
  decide (PySem.W.nsIn K mainGlobals "level_text" = some (some (.ref (He.fAd K ("level_text", none))))),
  decide (PySem.W.nsIn K mainGlobals "level_in" = some (some (.ref (He.fAd K ("level_in", none))))),
  decide (PySem.W.nsIn K mainGlobals "moment_in" = some (some (.ref (He.fAd K ("moment_in", none))))),
  decide (PySem.W.findIn K (.ref (He.ga K "Ratio")) "__init__" = some (some (.ref (He.fAd K ("Ratio", some "__init__"))))),
  PySem.W.isFn K (.ref (He.fAd K ("Ratio", some "__init__"))),
  decide (PySem.W.findIn K (.ref (He.ga K "Ratio")) "__str__" = some (some (.ref (He.fAd K ("Ratio", some "__str__"))))),
  PySem.W.isFn K (.ref (He.fAd K ("Ratio", some "__str__"))),
  decide (PySem.W.nsIn K mainGlobals "ratio_in" = some (some (.ref (He.fAd K ("ratio_in", none)))))]
def ex2 (K : PySem.W.Frag) : List Bool := [decide (PySem.W.nsIn K mainGlobals "has_digits_alone" = some (some (.ref (He.fAd K ("has_digits_alone", none))))),
  decide (PySem.W.findIn K (.ref (He.ga K "Wish")) "__init__" = some (some (.ref (He.fAd K ("Wish", some "__init__"))))),
  PySem.W.isFn K (.ref (He.fAd K ("Wish", some "__init__"))),
  decide (PySem.W.findIn K (.ref (He.ga K "Wish")) "__eq__" = some (some (.ref (He.fAd K ("Wish", some "__eq__"))))),
  PySem.W.isFn K (.ref (He.fAd K ("Wish", some "__eq__"))),
  decide (PySem.W.findIn K (.ref (He.ga K "Wish")) "__str__" = some (some (.ref (He.fAd K ("Wish", some "__str__"))))),
  PySem.W.isFn K (.ref (He.fAd K ("Wish", some "__str__"))),
  He5.wrapB K (He.ga K "Wish") "staticmethod" "staticmethod.__get__" "read",
  PySem.W.readsIn K (He.ga K "Wish") (.type "type"),
  decide (PySem.W.specialIn K (.ref (He.ga K "Wish")) "__getattribute__" = some (some (.builtin "type.__getattribute__"))),
  decide (PySem.W.nsIn K mainGlobals "is_wish_form" = some (some (.ref (He.fAd K ("is_wish_form", none))))),
  decide (PySem.W.nsIn K mainGlobals "is_shaped" = some (some (.ref (He.fAd K ("is_shaped", none))))),
  decide (PySem.W.nsIn K mainGlobals "is_counted" = some (some (.ref (He.fAd K ("is_counted", none))))),
  decide (PySem.W.nsIn K mainGlobals "is_surplus" = some (some (.ref (He.fAd K ("is_surplus", none))))),
  decide (PySem.W.nsIn K mainGlobals "surplus_of" = some (some (.ref (He.fAd K ("surplus_of", none))))),
  decide (PySem.W.nsIn K mainGlobals "overs_in" = some (some (.ref (He.fAd K ("overs_in", none))))),
  decide (PySem.W.nsIn K mainGlobals "wish_text" = some (some (.ref (He.fAd K ("wish_text", none))))),
  decide (PySem.W.nsIn K mainGlobals "wish_form_in" = some (some (.ref (He.fAd K ("wish_form_in", none))))),
  decide (PySem.W.nsIn K mainGlobals "closed" = some (some (.ref (He.fAd K ("closed", none))))),
  decide (PySem.W.nsIn K mainGlobals "surplus_in" = some (some (.ref (He.fAd K ("surplus_in", none))))),
  decide (PySem.W.nsIn K mainGlobals "_law_bag" = some (some (.ref (He.fAd K ("_law_bag", none))))),
  decide (PySem.W.nsIn K mainGlobals "_law_draw" = some (some (.ref (He.fAd K ("_law_draw", none))))),
  decide (PySem.W.nsIn K mainGlobals "_law_one" = some (some (.ref (He.fAd K ("_law_one", none))))),
  decide (PySem.W.nsIn K mainGlobals "_law_words" = some (some (.ref (He.fAd K ("_law_words", none))))),
  decide (PySem.W.nsIn K mainGlobals "_law_letters" = some (some (.ref (He.fAd K ("_law_letters", none)))))]
def ex3 (K : PySem.W.Frag) : List Bool := [decide (PySem.W.nsIn K mainGlobals "_law_cords" = some (some (.ref (He.fAd K ("_law_cords", none))))),
  decide (PySem.W.nsIn K mainGlobals "_law_shape" = some (some (.ref (He.fAd K ("_law_shape", none))))),
  decide (PySem.W.nsIn K mainGlobals "_law_level" = some (some (.ref (He.fAd K ("_law_level", none))))),
  decide (PySem.W.nsIn K mainGlobals "_law_more" = some (some (.ref (He.fAd K ("_law_more", none))))),
  decide (PySem.W.nsIn K mainGlobals "_law_plea" = some (some (.ref (He.fAd K ("_law_plea", none))))),
  decide (PySem.W.nsIn K mainGlobals "_law_level_text" = some (some (.ref (He.fAd K ("_law_level_text", none))))),
  decide (PySem.W.nsIn K mainGlobals "_law_written" = some (some (.ref (He.fAd K ("_law_written", none))))),
  decide (PySem.W.nsIn K mainGlobals "_law_right" = some (some (.ref (He.fAd K ("_law_right", none))))),
  decide (PySem.W.nsIn K mainGlobals "law" = some (some (.ref (He.fAd K ("law", none))))),
  decide (PySem.W.nsIn K mainGlobals "isinstance" = some none),
  decide (PySem.W.nsIn K mainGlobals "int" = some none),
  decide (PySem.W.nsIn K mainGlobals "bool" = some none),
  decide (PySem.W.nsIn K mainGlobals "len" = some none),
  decide (PySem.W.nsIn K mainGlobals "abs" = some none),
  decide (PySem.W.nsIn K mainGlobals "range" = some none),
  decide (PySem.W.nsIn K mainGlobals "all" = some none),
  decide (PySem.W.nsIn K mainGlobals "any" = some none),
  decide (PySem.W.nsIn K mainGlobals "max" = some none),
  decide (PySem.W.nsIn K mainGlobals "min" = some none),
  decide (PySem.W.nsIn K mainGlobals "str" = some none),
  decide (PySem.W.nsIn K mainGlobals "tuple" = some none),
  decide (PySem.W.nsIn K mainGlobals "zip" = some none),
  decide (PySem.W.nsIn K mainGlobals "list" = some none),
  decide (PySem.W.nsIn K mainGlobals "sorted" = some none),
  decide (PySem.W.nsIn K mainGlobals "enumerate" = some none)]
def ex4 (K : PySem.W.Frag) : List Bool := [decide (PySem.W.nsIn K mainGlobals "gcd" = some (some (.builtin "math.gcd"))),
  intB K "MOST_PARTS" 6,
  intB K "MOST_TIES" 10,
  intB K "MOST_HOOKS" 4,
  intB K "MOST_STRINGS" 6,
  intB K "MOST_AMOUNT" 1000000,
  intB K "MOST_MOVES" 6,
  intB K "MOST_WISHES" 6,
  intB K "MOST_DEPTH" 4,
  intB K "MOST_OVERS" 8,
  decide (PySem.W.findIn K (.ref (He.ga K "Puppet")) "parts" = some none),
  decide (PySem.W.findIn K (.ref (He.ga K "Puppet")) "ties" = some none),
  decide (PySem.W.findIn K (.ref (He.ga K "Puppet")) "hooks" = some none),
  decide (PySem.W.findIn K (.ref (He.ga K "Puppet")) "strings" = some none),
  decide (PySem.W.findIn K (.ref (He.ga K "Puppet")) "names" = some none),
  decide (PySem.W.findIn K (.ref (He.ga K "Puppet")) "distances" = some none),
  decide (PySem.W.findIn K (.ref (He.ga K "Ratio")) "top" = some none),
  decide (PySem.W.findIn K (.ref (He.ga K "Ratio")) "bottom" = some none),
  decide (PySem.W.findIn K (.ref (He.ga K "Wish")) "form" = some none),
  decide (PySem.W.specialIn K (.builtin "object.__class__") "__get__" = some (some (.builtin "getset_descriptor.__get__"))),
  decide (PySem.W.takesIn K (.builtin "object.__class__") = some true),
  decide (PySem.W.findIn K (.ref (He.ga K "Wish")) "__class__" = some (some (.builtin "object.__class__"))),
  decide (PySem.W.mroIn K (He.ga K "Wish") (.type "object") = some true),
  decide (PySem.W.kitOne K (.ref (He.ga K "Wish")) (.ref (He.ga K "Wish")) = some true),
  decide (PySem.W.kitOne K (.type "tuple") (.ref (He.ga K "Wish")) = some false)]
def ex5 (K : PySem.W.Frag) : List Bool := [PySem.W.notFirst K (He.ga K "Wish") (.ref (He.ga K "Wish")),
  PySem.W.notFirst K (He.ga K "Wish") (.type "tuple")]
def exB (K : PySem.W.Frag) : Bool := ((ex0 K).all id && ((ex1 K).all id && ((ex2 K).all id && ((ex3 K).all id && ((ex4 K).all id && ((ex5 K).all id))))))
def fn0 : List He5.DefA := [⟨fun K => He.fAd K ("is_whole", none), "is_whole", "is_whole", defArgs s_is_whole, defBody s_is_whole, defScope s_is_whole, [], []⟩,
  ⟨fun K => He.fAd K ("is_number", none), "is_number", "is_number", defArgs s_is_number, defBody s_is_number, defScope s_is_number, [], []⟩,
  ⟨fun K => He.fAd K ("is_small_letter", none), "is_small_letter", "is_small_letter", defArgs s_is_small_letter, defBody s_is_small_letter, defScope s_is_small_letter, [], []⟩,
  ⟨fun K => He.fAd K ("is_capital", none), "is_capital", "is_capital", defArgs s_is_capital, defBody s_is_capital, defScope s_is_capital, [], []⟩,
  ⟨fun K => He.fAd K ("is_word", none), "is_word", "is_word", defArgs s_is_word, defBody s_is_word, defScope s_is_word, [], []⟩,
  ⟨fun K => He.fAd K ("is_row", none), "is_row", "is_row", defArgs s_is_row, defBody s_is_row, defScope s_is_row, [], []⟩,
  ⟨fun K => He.fAd K ("is_rising", none), "is_rising", "is_rising", defArgs s_is_rising, defBody s_is_rising, defScope s_is_rising, [], []⟩,
  ⟨fun K => He.fAd K ("are_capitals", none), "are_capitals", "are_capitals", defArgs s_are_capitals, defBody s_are_capitals, defScope s_are_capitals, [], []⟩,
  ⟨fun K => He.fAd K ("is_one_of", none), "is_one_of", "is_one_of", defArgs s_is_one_of, defBody s_is_one_of, defScope s_is_one_of, [], []⟩,
  ⟨fun K => He.fAd K ("Puppet", some "__init__"), "__init__", "Puppet.__init__", defArgs s_Puppet_init, defBody s_Puppet_init, defScope s_Puppet_init, [], []⟩,
  ⟨fun K => He.fAd K ("check_parts", none), "check_parts", "check_parts", defArgs s_check_parts, defBody s_check_parts, defScope s_check_parts, [], []⟩,
  ⟨fun K => He.fAd K ("check_ties", none), "check_ties", "check_ties", defArgs s_check_ties, defBody s_check_ties, defScope s_check_ties, [], []⟩,
  ⟨fun K => He.fAd K ("is_tie", none), "is_tie", "is_tie", defArgs s_is_tie, defBody s_is_tie, defScope s_is_tie, [], []⟩,
  ⟨fun K => He.fAd K ("is_tied", none), "is_tied", "is_tied", defArgs s_is_tied, defBody s_is_tied, defScope s_is_tied, [], []⟩,
  ⟨fun K => He.fAd K ("check_strings", none), "check_strings", "check_strings", defArgs s_check_strings, defBody s_check_strings, defScope s_check_strings, [], []⟩,
  ⟨fun K => He.fAd K ("is_string", none), "is_string", "is_string", defArgs s_is_string, defBody s_is_string, defScope s_is_string, [], []⟩,
  ⟨fun K => He.fAd K ("distances_of", none), "distances_of", "distances_of", defArgs s_distances_of, defBody s_distances_of, defScope s_distances_of, [], []⟩,
  ⟨fun K => He.fAd K ("shorten", none), "shorten", "shorten", defArgs s_shorten, defBody s_shorten, defScope s_shorten, [], []⟩,
  ⟨fun K => He.fAd K ("moment_at", none), "moment_at", "moment_at", defArgs s_moment_at, defBody s_moment_at, defScope s_moment_at, [], []⟩,
  ⟨fun K => He.fAd K ("is_level", none), "is_level", "is_level", defArgs s_is_level, defBody s_is_level, defScope s_is_level, [], []⟩,
  ⟨fun K => He.fAd K ("level_text", none), "level_text", "level_text", defArgs s_p_level_text, defBody s_p_level_text, defScope s_p_level_text, [], []⟩,
  ⟨fun K => He.fAd K ("level_in", none), "level_in", "level_in", defArgs s_level_in, defBody s_level_in, defScope s_level_in, [], []⟩,
  ⟨fun K => He.fAd K ("moment_in", none), "moment_in", "moment_in", defArgs s_moment_in, defBody s_moment_in, defScope s_moment_in, [], []⟩,
  ⟨fun K => He.fAd K ("Ratio", some "__init__"), "__init__", "Ratio.__init__", defArgs s_Ratio_init, defBody s_Ratio_init, defScope s_Ratio_init, [.int 1], []⟩,
  ⟨fun K => He.fAd K ("Ratio", some "__str__"), "__str__", "Ratio.__str__", defArgs s_Ratio_str, defBody s_Ratio_str, defScope s_Ratio_str, [], []⟩]
def fn1 : List He5.DefA := [⟨fun K => He.fAd K ("ratio_in", none), "ratio_in", "ratio_in", defArgs s_ratio_in, defBody s_ratio_in, defScope s_ratio_in, [], []⟩,
  ⟨fun K => He.fAd K ("has_digits_alone", none), "has_digits_alone", "has_digits_alone", defArgs s_has_digits_alone, defBody s_has_digits_alone, defScope s_has_digits_alone, [], []⟩,
  ⟨fun K => He.fAd K ("Wish", some "__init__"), "__init__", "Wish.__init__", defArgs s_Wish_init, defBody s_Wish_init, defScope s_Wish_init, [], []⟩,
  ⟨fun K => He.fAd K ("Wish", some "__eq__"), "__eq__", "Wish.__eq__", defArgs s_Wish_eq, defBody s_Wish_eq, defScope s_Wish_eq, [], []⟩,
  ⟨fun K => He.fAd K ("Wish", some "__str__"), "__str__", "Wish.__str__", defArgs s_Wish_str, defBody s_Wish_str, defScope s_Wish_str, [], []⟩,
  ⟨fun K => He5.wf K (He.ga K "Wish") "staticmethod" "read", "read", "Wish.read", defArgs s_Wish_read, defBody s_Wish_read, defScope s_Wish_read, [], []⟩,
  ⟨fun K => He.fAd K ("is_wish_form", none), "is_wish_form", "is_wish_form", defArgs s_is_wish_form, defBody s_is_wish_form, defScope s_is_wish_form, [], []⟩,
  ⟨fun K => He.fAd K ("is_shaped", none), "is_shaped", "is_shaped", defArgs s_is_shaped, defBody s_is_shaped, defScope s_is_shaped, [], []⟩,
  ⟨fun K => He.fAd K ("is_counted", none), "is_counted", "is_counted", defArgs s_is_counted, defBody s_is_counted, defScope s_is_counted, [], []⟩,
  ⟨fun K => He.fAd K ("is_surplus", none), "is_surplus", "is_surplus", defArgs s_is_surplus, defBody s_is_surplus, defScope s_is_surplus, [], []⟩,
  ⟨fun K => He.fAd K ("surplus_of", none), "surplus_of", "surplus_of", defArgs s_surplus_of, defBody s_surplus_of, defScope s_surplus_of, [], []⟩,
  ⟨fun K => He.fAd K ("overs_in", none), "overs_in", "overs_in", defArgs s_overs_in, defBody s_overs_in, defScope s_overs_in, [], []⟩,
  ⟨fun K => He.fAd K ("wish_text", none), "wish_text", "wish_text", defArgs s_wish_text, defBody s_wish_text, defScope s_wish_text, [], []⟩,
  ⟨fun K => He.fAd K ("wish_form_in", none), "wish_form_in", "wish_form_in", defArgs s_wish_form_in, defBody s_wish_form_in, defScope s_wish_form_in, [], []⟩,
  ⟨fun K => He.fAd K ("closed", none), "closed", "closed", defArgs s_closed, defBody s_closed, defScope s_closed, [], []⟩,
  ⟨fun K => He.fAd K ("surplus_in", none), "surplus_in", "surplus_in", defArgs s_surplus_in, defBody s_surplus_in, defScope s_surplus_in, [], []⟩,
  ⟨fun K => He.fAd K ("_law_bag", none), "_law_bag", "_law_bag", defArgs s_bag, defBody s_bag, defScope s_bag, [], []⟩,
  ⟨fun K => He.fAd K ("_law_draw", none), "_law_draw", "_law_draw", defArgs s_draw, defBody s_draw, defScope s_draw, [], []⟩,
  ⟨fun K => He.fAd K ("_law_one", none), "_law_one", "_law_one", defArgs s_one, defBody s_one, defScope s_one, [], []⟩,
  ⟨fun K => He.fAd K ("_law_words", none), "_law_words", "_law_words", defArgs s_words, defBody s_words, defScope s_words, [], []⟩,
  ⟨fun K => He.fAd K ("_law_letters", none), "_law_letters", "_law_letters", defArgs s_letters, defBody s_letters, defScope s_letters, [], []⟩,
  ⟨fun K => He.fAd K ("_law_cords", none), "_law_cords", "_law_cords", defArgs s_cords, defBody s_cords, defScope s_cords, [], []⟩,
  ⟨fun K => He.fAd K ("_law_shape", none), "_law_shape", "_law_shape", defArgs s_shape, defBody s_shape, defScope s_shape, [], []⟩,
  ⟨fun K => He.fAd K ("_law_level", none), "_law_level", "_law_level", defArgs s_level, defBody s_level, defScope s_level, [], []⟩,
  ⟨fun K => He.fAd K ("_law_more", none), "_law_more", "_law_more", defArgs s_more, defBody s_more, defScope s_more, [], []⟩]
def fn2 : List He5.DefA := [⟨fun K => He.fAd K ("_law_plea", none), "_law_plea", "_law_plea", defArgs s_plea, defBody s_plea, defScope s_plea, [], []⟩,
  ⟨fun K => He.fAd K ("_law_level_text", none), "_law_level_text", "_law_level_text", defArgs s_level_text, defBody s_level_text, defScope s_level_text, [], []⟩,
  ⟨fun K => He.fAd K ("_law_written", none), "_law_written", "_law_written", defArgs s_written, defBody s_written, defScope s_written, [], []⟩,
  ⟨fun K => He.fAd K ("_law_right", none), "_law_right", "_law_right", defArgs s_right, defBody s_right, defScope s_right, [], []⟩,
  ⟨fun K => He.fAd K ("law", none), "law", "law", defArgs s_law, defBody s_law, defScope s_law, [], []⟩]
def fns : List He5.DefA := fn0 ++ fn1 ++ fn2
structure SaysA (w : World) (K : PySem.W.Frag) : Prop where
  t : He5.SaysA [] fns K
  more : exB K = true
theorem facts {K : PySem.W.Frag} {w : World} {h : Heap} {mg : Str → Option Value} (X : K.In h) (G : h.Ns mainGlobals mg) (c : SaysA w K) : ∃ a : Ad, Txt K mg a := by
  have d := c.t
  have x := c.more
  unfold exB at x
  obtain ⟨x0, x⟩ := Bool.and_eq_true_iff.mp x
  obtain ⟨x1, x⟩ := Bool.and_eq_true_iff.mp x
  obtain ⟨x2, x⟩ := Bool.and_eq_true_iff.mp x
  obtain ⟨x3, x⟩ := Bool.and_eq_true_iff.mp x
  obtain ⟨x4, x⟩ := Bool.and_eq_true_iff.mp x
  have x5 := x
  obtain ⟨fd_is_whole, F_is_whole⟩ := d.def_ 0 (d := ⟨fun K => He.fAd K ("is_whole", none), "is_whole", "is_whole", defArgs s_is_whole, defBody s_is_whole, defScope s_is_whole, [], []⟩) rfl
  obtain ⟨oc_is_whole, od_is_whole, dV_is_whole, kV_is_whole, dc_is_whole, pm_is_whole, an_is_whole, cd_is_whole, ct_is_whole, sl_is_whole, q_is_whole, l_is_whole, c_is_whole, v_is_whole, _⟩ := F_is_whole.ex
  subst q_is_whole
  have k_is_whole := F_is_whole.kp
  obtain rfl := dfl_none v_is_whole
  obtain ⟨fd_is_number, F_is_number⟩ := d.def_ 1 (d := ⟨fun K => He.fAd K ("is_number", none), "is_number", "is_number", defArgs s_is_number, defBody s_is_number, defScope s_is_number, [], []⟩) rfl
  obtain ⟨oc_is_number, od_is_number, dV_is_number, kV_is_number, dc_is_number, pm_is_number, an_is_number, cd_is_number, ct_is_number, sl_is_number, q_is_number, l_is_number, c_is_number, v_is_number, _⟩ := F_is_number.ex
  subst q_is_number
  have k_is_number := F_is_number.kp
  obtain rfl := dfl_none v_is_number
  obtain ⟨fd_is_small_letter, F_is_small_letter⟩ := d.def_ 2 (d := ⟨fun K => He.fAd K ("is_small_letter", none), "is_small_letter", "is_small_letter", defArgs s_is_small_letter, defBody s_is_small_letter, defScope s_is_small_letter, [], []⟩) rfl
  obtain ⟨oc_is_small_letter, od_is_small_letter, dV_is_small_letter, kV_is_small_letter, dc_is_small_letter, pm_is_small_letter, an_is_small_letter, cd_is_small_letter, ct_is_small_letter, sl_is_small_letter, q_is_small_letter, l_is_small_letter, c_is_small_letter, v_is_small_letter, _⟩ := F_is_small_letter.ex
  subst q_is_small_letter
  have k_is_small_letter := F_is_small_letter.kp
  obtain rfl := dfl_none v_is_small_letter
  obtain ⟨fd_is_capital, F_is_capital⟩ := d.def_ 3 (d := ⟨fun K => He.fAd K ("is_capital", none), "is_capital", "is_capital", defArgs s_is_capital, defBody s_is_capital, defScope s_is_capital, [], []⟩) rfl
  obtain ⟨oc_is_capital, od_is_capital, dV_is_capital, kV_is_capital, dc_is_capital, pm_is_capital, an_is_capital, cd_is_capital, ct_is_capital, sl_is_capital, q_is_capital, l_is_capital, c_is_capital, v_is_capital, _⟩ := F_is_capital.ex
  subst q_is_capital
  have k_is_capital := F_is_capital.kp
  obtain rfl := dfl_none v_is_capital
  obtain ⟨fd_is_word, F_is_word⟩ := d.def_ 4 (d := ⟨fun K => He.fAd K ("is_word", none), "is_word", "is_word", defArgs s_is_word, defBody s_is_word, defScope s_is_word, [], []⟩) rfl
  obtain ⟨oc_is_word, od_is_word, dV_is_word, kV_is_word, dc_is_word, pm_is_word, an_is_word, cd_is_word, ct_is_word, sl_is_word, q_is_word, l_is_word, c_is_word, v_is_word, _⟩ := F_is_word.ex
  subst q_is_word
  have k_is_word := F_is_word.kp
  obtain rfl := dfl_none v_is_word
  obtain ⟨fd_is_row, F_is_row⟩ := d.def_ 5 (d := ⟨fun K => He.fAd K ("is_row", none), "is_row", "is_row", defArgs s_is_row, defBody s_is_row, defScope s_is_row, [], []⟩) rfl
  obtain ⟨oc_is_row, od_is_row, dV_is_row, kV_is_row, dc_is_row, pm_is_row, an_is_row, cd_is_row, ct_is_row, sl_is_row, q_is_row, l_is_row, c_is_row, v_is_row, _⟩ := F_is_row.ex
  subst q_is_row
  have k_is_row := F_is_row.kp
  obtain rfl := dfl_none v_is_row
  obtain ⟨fd_is_rising, F_is_rising⟩ := d.def_ 6 (d := ⟨fun K => He.fAd K ("is_rising", none), "is_rising", "is_rising", defArgs s_is_rising, defBody s_is_rising, defScope s_is_rising, [], []⟩) rfl
  obtain ⟨oc_is_rising, od_is_rising, dV_is_rising, kV_is_rising, dc_is_rising, pm_is_rising, an_is_rising, cd_is_rising, ct_is_rising, sl_is_rising, q_is_rising, l_is_rising, c_is_rising, v_is_rising, _⟩ := F_is_rising.ex
  subst q_is_rising
  have k_is_rising := F_is_rising.kp
  obtain rfl := dfl_none v_is_rising
  obtain ⟨fd_are_capitals, F_are_capitals⟩ := d.def_ 7 (d := ⟨fun K => He.fAd K ("are_capitals", none), "are_capitals", "are_capitals", defArgs s_are_capitals, defBody s_are_capitals, defScope s_are_capitals, [], []⟩) rfl
  obtain ⟨oc_are_capitals, od_are_capitals, dV_are_capitals, kV_are_capitals, dc_are_capitals, pm_are_capitals, an_are_capitals, cd_are_capitals, ct_are_capitals, sl_are_capitals, q_are_capitals, l_are_capitals, c_are_capitals, v_are_capitals, _⟩ := F_are_capitals.ex
  subst q_are_capitals
  have k_are_capitals := F_are_capitals.kp
  obtain rfl := dfl_none v_are_capitals
  obtain ⟨fd_is_one_of, F_is_one_of⟩ := d.def_ 8 (d := ⟨fun K => He.fAd K ("is_one_of", none), "is_one_of", "is_one_of", defArgs s_is_one_of, defBody s_is_one_of, defScope s_is_one_of, [], []⟩) rfl
  obtain ⟨oc_is_one_of, od_is_one_of, dV_is_one_of, kV_is_one_of, dc_is_one_of, pm_is_one_of, an_is_one_of, cd_is_one_of, ct_is_one_of, sl_is_one_of, q_is_one_of, l_is_one_of, c_is_one_of, v_is_one_of, _⟩ := F_is_one_of.ex
  subst q_is_one_of
  have k_is_one_of := F_is_one_of.kp
  obtain rfl := dfl_none v_is_one_of
  obtain ⟨fd_Puppet_init, F_Puppet_init⟩ := d.def_ 9 (d := ⟨fun K => He.fAd K ("Puppet", some "__init__"), "__init__", "Puppet.__init__", defArgs s_Puppet_init, defBody s_Puppet_init, defScope s_Puppet_init, [], []⟩) rfl
  obtain ⟨oc_Puppet_init, od_Puppet_init, dV_Puppet_init, kV_Puppet_init, dc_Puppet_init, pm_Puppet_init, an_Puppet_init, cd_Puppet_init, ct_Puppet_init, sl_Puppet_init, q_Puppet_init, l_Puppet_init, c_Puppet_init, v_Puppet_init, _⟩ := F_Puppet_init.ex
  subst q_Puppet_init
  have k_Puppet_init := F_Puppet_init.kp
  obtain rfl := dfl_none v_Puppet_init
  obtain ⟨fd_check_parts, F_check_parts⟩ := d.def_ 10 (d := ⟨fun K => He.fAd K ("check_parts", none), "check_parts", "check_parts", defArgs s_check_parts, defBody s_check_parts, defScope s_check_parts, [], []⟩) rfl
  obtain ⟨oc_check_parts, od_check_parts, dV_check_parts, kV_check_parts, dc_check_parts, pm_check_parts, an_check_parts, cd_check_parts, ct_check_parts, sl_check_parts, q_check_parts, l_check_parts, c_check_parts, v_check_parts, _⟩ := F_check_parts.ex
  subst q_check_parts
  have k_check_parts := F_check_parts.kp
  obtain rfl := dfl_none v_check_parts
  obtain ⟨fd_check_ties, F_check_ties⟩ := d.def_ 11 (d := ⟨fun K => He.fAd K ("check_ties", none), "check_ties", "check_ties", defArgs s_check_ties, defBody s_check_ties, defScope s_check_ties, [], []⟩) rfl
  obtain ⟨oc_check_ties, od_check_ties, dV_check_ties, kV_check_ties, dc_check_ties, pm_check_ties, an_check_ties, cd_check_ties, ct_check_ties, sl_check_ties, q_check_ties, l_check_ties, c_check_ties, v_check_ties, _⟩ := F_check_ties.ex
  subst q_check_ties
  have k_check_ties := F_check_ties.kp
  obtain rfl := dfl_none v_check_ties
  obtain ⟨fd_is_tie, F_is_tie⟩ := d.def_ 12 (d := ⟨fun K => He.fAd K ("is_tie", none), "is_tie", "is_tie", defArgs s_is_tie, defBody s_is_tie, defScope s_is_tie, [], []⟩) rfl
  obtain ⟨oc_is_tie, od_is_tie, dV_is_tie, kV_is_tie, dc_is_tie, pm_is_tie, an_is_tie, cd_is_tie, ct_is_tie, sl_is_tie, q_is_tie, l_is_tie, c_is_tie, v_is_tie, _⟩ := F_is_tie.ex
  subst q_is_tie
  have k_is_tie := F_is_tie.kp
  obtain rfl := dfl_none v_is_tie
  obtain ⟨fd_is_tied, F_is_tied⟩ := d.def_ 13 (d := ⟨fun K => He.fAd K ("is_tied", none), "is_tied", "is_tied", defArgs s_is_tied, defBody s_is_tied, defScope s_is_tied, [], []⟩) rfl
  obtain ⟨oc_is_tied, od_is_tied, dV_is_tied, kV_is_tied, dc_is_tied, pm_is_tied, an_is_tied, cd_is_tied, ct_is_tied, sl_is_tied, q_is_tied, l_is_tied, c_is_tied, v_is_tied, _⟩ := F_is_tied.ex
  subst q_is_tied
  have k_is_tied := F_is_tied.kp
  obtain rfl := dfl_none v_is_tied
  obtain ⟨fd_check_strings, F_check_strings⟩ := d.def_ 14 (d := ⟨fun K => He.fAd K ("check_strings", none), "check_strings", "check_strings", defArgs s_check_strings, defBody s_check_strings, defScope s_check_strings, [], []⟩) rfl
  obtain ⟨oc_check_strings, od_check_strings, dV_check_strings, kV_check_strings, dc_check_strings, pm_check_strings, an_check_strings, cd_check_strings, ct_check_strings, sl_check_strings, q_check_strings, l_check_strings, c_check_strings, v_check_strings, _⟩ := F_check_strings.ex
  subst q_check_strings
  have k_check_strings := F_check_strings.kp
  obtain rfl := dfl_none v_check_strings
  obtain ⟨fd_is_string, F_is_string⟩ := d.def_ 15 (d := ⟨fun K => He.fAd K ("is_string", none), "is_string", "is_string", defArgs s_is_string, defBody s_is_string, defScope s_is_string, [], []⟩) rfl
  obtain ⟨oc_is_string, od_is_string, dV_is_string, kV_is_string, dc_is_string, pm_is_string, an_is_string, cd_is_string, ct_is_string, sl_is_string, q_is_string, l_is_string, c_is_string, v_is_string, _⟩ := F_is_string.ex
  subst q_is_string
  have k_is_string := F_is_string.kp
  obtain rfl := dfl_none v_is_string
  obtain ⟨fd_distances_of, F_distances_of⟩ := d.def_ 16 (d := ⟨fun K => He.fAd K ("distances_of", none), "distances_of", "distances_of", defArgs s_distances_of, defBody s_distances_of, defScope s_distances_of, [], []⟩) rfl
  obtain ⟨oc_distances_of, od_distances_of, dV_distances_of, kV_distances_of, dc_distances_of, pm_distances_of, an_distances_of, cd_distances_of, ct_distances_of, sl_distances_of, q_distances_of, l_distances_of, c_distances_of, v_distances_of, _⟩ := F_distances_of.ex
  subst q_distances_of
  have k_distances_of := F_distances_of.kp
  obtain rfl := dfl_none v_distances_of
  obtain ⟨fd_shorten, F_shorten⟩ := d.def_ 17 (d := ⟨fun K => He.fAd K ("shorten", none), "shorten", "shorten", defArgs s_shorten, defBody s_shorten, defScope s_shorten, [], []⟩) rfl
  obtain ⟨oc_shorten, od_shorten, dV_shorten, kV_shorten, dc_shorten, pm_shorten, an_shorten, cd_shorten, ct_shorten, sl_shorten, q_shorten, l_shorten, c_shorten, v_shorten, _⟩ := F_shorten.ex
  subst q_shorten
  have k_shorten := F_shorten.kp
  obtain rfl := dfl_none v_shorten
  obtain ⟨fd_moment_at, F_moment_at⟩ := d.def_ 18 (d := ⟨fun K => He.fAd K ("moment_at", none), "moment_at", "moment_at", defArgs s_moment_at, defBody s_moment_at, defScope s_moment_at, [], []⟩) rfl
  obtain ⟨oc_moment_at, od_moment_at, dV_moment_at, kV_moment_at, dc_moment_at, pm_moment_at, an_moment_at, cd_moment_at, ct_moment_at, sl_moment_at, q_moment_at, l_moment_at, c_moment_at, v_moment_at, _⟩ := F_moment_at.ex
  subst q_moment_at
  have k_moment_at := F_moment_at.kp
  obtain rfl := dfl_none v_moment_at
  obtain ⟨fd_is_level, F_is_level⟩ := d.def_ 19 (d := ⟨fun K => He.fAd K ("is_level", none), "is_level", "is_level", defArgs s_is_level, defBody s_is_level, defScope s_is_level, [], []⟩) rfl
  obtain ⟨oc_is_level, od_is_level, dV_is_level, kV_is_level, dc_is_level, pm_is_level, an_is_level, cd_is_level, ct_is_level, sl_is_level, q_is_level, l_is_level, c_is_level, v_is_level, _⟩ := F_is_level.ex
  subst q_is_level
  have k_is_level := F_is_level.kp
  obtain rfl := dfl_none v_is_level
  obtain ⟨fd_p_level_text, F_p_level_text⟩ := d.def_ 20 (d := ⟨fun K => He.fAd K ("level_text", none), "level_text", "level_text", defArgs s_p_level_text, defBody s_p_level_text, defScope s_p_level_text, [], []⟩) rfl
  obtain ⟨oc_p_level_text, od_p_level_text, dV_p_level_text, kV_p_level_text, dc_p_level_text, pm_p_level_text, an_p_level_text, cd_p_level_text, ct_p_level_text, sl_p_level_text, q_p_level_text, l_p_level_text, c_p_level_text, v_p_level_text, _⟩ := F_p_level_text.ex
  subst q_p_level_text
  have k_p_level_text := F_p_level_text.kp
  obtain rfl := dfl_none v_p_level_text
  obtain ⟨fd_level_in, F_level_in⟩ := d.def_ 21 (d := ⟨fun K => He.fAd K ("level_in", none), "level_in", "level_in", defArgs s_level_in, defBody s_level_in, defScope s_level_in, [], []⟩) rfl
  obtain ⟨oc_level_in, od_level_in, dV_level_in, kV_level_in, dc_level_in, pm_level_in, an_level_in, cd_level_in, ct_level_in, sl_level_in, q_level_in, l_level_in, c_level_in, v_level_in, _⟩ := F_level_in.ex
  subst q_level_in
  have k_level_in := F_level_in.kp
  obtain rfl := dfl_none v_level_in
  obtain ⟨fd_moment_in, F_moment_in⟩ := d.def_ 22 (d := ⟨fun K => He.fAd K ("moment_in", none), "moment_in", "moment_in", defArgs s_moment_in, defBody s_moment_in, defScope s_moment_in, [], []⟩) rfl
  obtain ⟨oc_moment_in, od_moment_in, dV_moment_in, kV_moment_in, dc_moment_in, pm_moment_in, an_moment_in, cd_moment_in, ct_moment_in, sl_moment_in, q_moment_in, l_moment_in, c_moment_in, v_moment_in, _⟩ := F_moment_in.ex
  subst q_moment_in
  have k_moment_in := F_moment_in.kp
  obtain rfl := dfl_none v_moment_in
  obtain ⟨fd_Ratio_init, F_Ratio_init⟩ := d.def_ 23 (d := ⟨fun K => He.fAd K ("Ratio", some "__init__"), "__init__", "Ratio.__init__", defArgs s_Ratio_init, defBody s_Ratio_init, defScope s_Ratio_init, [.int 1], []⟩) rfl
  obtain ⟨oc_Ratio_init, od_Ratio_init, dV_Ratio_init, kV_Ratio_init, dc_Ratio_init, pm_Ratio_init, an_Ratio_init, cd_Ratio_init, ct_Ratio_init, sl_Ratio_init, q_Ratio_init, l_Ratio_init, c_Ratio_init, v_Ratio_init, _⟩ := F_Ratio_init.ex
  subst q_Ratio_init
  have k_Ratio_init := F_Ratio_init.kp
  obtain ⟨T_Ratio_init, tc_Ratio_init, td_Ratio_init, its_Ratio_init, tn_Ratio_init, ts_Ratio_init, rfl, t_Ratio_init, va0_Ratio_init⟩ := dfl_some v_Ratio_init
  obtain ⟨u0_Ratio_init, ir0_Ratio_init, rfl, r0_Ratio_init, va1_Ratio_init⟩ := vals_cons va0_Ratio_init
  obtain ⟨tk0_Ratio_init, rfl⟩ := r0_Ratio_init
  obtain rfl := vals_nil va1_Ratio_init
  obtain ⟨fd_Ratio_str, F_Ratio_str⟩ := d.def_ 24 (d := ⟨fun K => He.fAd K ("Ratio", some "__str__"), "__str__", "Ratio.__str__", defArgs s_Ratio_str, defBody s_Ratio_str, defScope s_Ratio_str, [], []⟩) rfl
  obtain ⟨oc_Ratio_str, od_Ratio_str, dV_Ratio_str, kV_Ratio_str, dc_Ratio_str, pm_Ratio_str, an_Ratio_str, cd_Ratio_str, ct_Ratio_str, sl_Ratio_str, q_Ratio_str, l_Ratio_str, c_Ratio_str, v_Ratio_str, _⟩ := F_Ratio_str.ex
  subst q_Ratio_str
  have k_Ratio_str := F_Ratio_str.kp
  obtain rfl := dfl_none v_Ratio_str
  obtain ⟨fd_ratio_in, F_ratio_in⟩ := d.def_ 25 (d := ⟨fun K => He.fAd K ("ratio_in", none), "ratio_in", "ratio_in", defArgs s_ratio_in, defBody s_ratio_in, defScope s_ratio_in, [], []⟩) rfl
  obtain ⟨oc_ratio_in, od_ratio_in, dV_ratio_in, kV_ratio_in, dc_ratio_in, pm_ratio_in, an_ratio_in, cd_ratio_in, ct_ratio_in, sl_ratio_in, q_ratio_in, l_ratio_in, c_ratio_in, v_ratio_in, _⟩ := F_ratio_in.ex
  subst q_ratio_in
  have k_ratio_in := F_ratio_in.kp
  obtain rfl := dfl_none v_ratio_in
  obtain ⟨fd_has_digits_alone, F_has_digits_alone⟩ := d.def_ 26 (d := ⟨fun K => He.fAd K ("has_digits_alone", none), "has_digits_alone", "has_digits_alone", defArgs s_has_digits_alone, defBody s_has_digits_alone, defScope s_has_digits_alone, [], []⟩) rfl
  obtain ⟨oc_has_digits_alone, od_has_digits_alone, dV_has_digits_alone, kV_has_digits_alone, dc_has_digits_alone, pm_has_digits_alone, an_has_digits_alone, cd_has_digits_alone, ct_has_digits_alone, sl_has_digits_alone, q_has_digits_alone, l_has_digits_alone, c_has_digits_alone, v_has_digits_alone, _⟩ := F_has_digits_alone.ex
  subst q_has_digits_alone
  have k_has_digits_alone := F_has_digits_alone.kp
  obtain rfl := dfl_none v_has_digits_alone
  obtain ⟨fd_Wish_init, F_Wish_init⟩ := d.def_ 27 (d := ⟨fun K => He.fAd K ("Wish", some "__init__"), "__init__", "Wish.__init__", defArgs s_Wish_init, defBody s_Wish_init, defScope s_Wish_init, [], []⟩) rfl
  obtain ⟨oc_Wish_init, od_Wish_init, dV_Wish_init, kV_Wish_init, dc_Wish_init, pm_Wish_init, an_Wish_init, cd_Wish_init, ct_Wish_init, sl_Wish_init, q_Wish_init, l_Wish_init, c_Wish_init, v_Wish_init, _⟩ := F_Wish_init.ex
  subst q_Wish_init
  have k_Wish_init := F_Wish_init.kp
  obtain rfl := dfl_none v_Wish_init
  obtain ⟨fd_Wish_eq, F_Wish_eq⟩ := d.def_ 28 (d := ⟨fun K => He.fAd K ("Wish", some "__eq__"), "__eq__", "Wish.__eq__", defArgs s_Wish_eq, defBody s_Wish_eq, defScope s_Wish_eq, [], []⟩) rfl
  obtain ⟨oc_Wish_eq, od_Wish_eq, dV_Wish_eq, kV_Wish_eq, dc_Wish_eq, pm_Wish_eq, an_Wish_eq, cd_Wish_eq, ct_Wish_eq, sl_Wish_eq, q_Wish_eq, l_Wish_eq, c_Wish_eq, v_Wish_eq, _⟩ := F_Wish_eq.ex
  subst q_Wish_eq
  have k_Wish_eq := F_Wish_eq.kp
  obtain rfl := dfl_none v_Wish_eq
  obtain ⟨fd_Wish_str, F_Wish_str⟩ := d.def_ 29 (d := ⟨fun K => He.fAd K ("Wish", some "__str__"), "__str__", "Wish.__str__", defArgs s_Wish_str, defBody s_Wish_str, defScope s_Wish_str, [], []⟩) rfl
  obtain ⟨oc_Wish_str, od_Wish_str, dV_Wish_str, kV_Wish_str, dc_Wish_str, pm_Wish_str, an_Wish_str, cd_Wish_str, ct_Wish_str, sl_Wish_str, q_Wish_str, l_Wish_str, c_Wish_str, v_Wish_str, _⟩ := F_Wish_str.ex
  subst q_Wish_str
  have k_Wish_str := F_Wish_str.kp
  obtain rfl := dfl_none v_Wish_str
  obtain ⟨fd_Wish_read, F_Wish_read⟩ := d.def_ 30 (d := ⟨fun K => He5.wf K (He.ga K "Wish") "staticmethod" "read", "read", "Wish.read", defArgs s_Wish_read, defBody s_Wish_read, defScope s_Wish_read, [], []⟩) rfl
  obtain ⟨oc_Wish_read, od_Wish_read, dV_Wish_read, kV_Wish_read, dc_Wish_read, pm_Wish_read, an_Wish_read, cd_Wish_read, ct_Wish_read, sl_Wish_read, q_Wish_read, l_Wish_read, c_Wish_read, v_Wish_read, _⟩ := F_Wish_read.ex
  subst q_Wish_read
  have k_Wish_read := F_Wish_read.kp
  obtain rfl := dfl_none v_Wish_read
  obtain ⟨fd_is_wish_form, F_is_wish_form⟩ := d.def_ 31 (d := ⟨fun K => He.fAd K ("is_wish_form", none), "is_wish_form", "is_wish_form", defArgs s_is_wish_form, defBody s_is_wish_form, defScope s_is_wish_form, [], []⟩) rfl
  obtain ⟨oc_is_wish_form, od_is_wish_form, dV_is_wish_form, kV_is_wish_form, dc_is_wish_form, pm_is_wish_form, an_is_wish_form, cd_is_wish_form, ct_is_wish_form, sl_is_wish_form, q_is_wish_form, l_is_wish_form, c_is_wish_form, v_is_wish_form, _⟩ := F_is_wish_form.ex
  subst q_is_wish_form
  have k_is_wish_form := F_is_wish_form.kp
  obtain rfl := dfl_none v_is_wish_form
  obtain ⟨fd_is_shaped, F_is_shaped⟩ := d.def_ 32 (d := ⟨fun K => He.fAd K ("is_shaped", none), "is_shaped", "is_shaped", defArgs s_is_shaped, defBody s_is_shaped, defScope s_is_shaped, [], []⟩) rfl
  obtain ⟨oc_is_shaped, od_is_shaped, dV_is_shaped, kV_is_shaped, dc_is_shaped, pm_is_shaped, an_is_shaped, cd_is_shaped, ct_is_shaped, sl_is_shaped, q_is_shaped, l_is_shaped, c_is_shaped, v_is_shaped, _⟩ := F_is_shaped.ex
  subst q_is_shaped
  have k_is_shaped := F_is_shaped.kp
  obtain rfl := dfl_none v_is_shaped
  obtain ⟨fd_is_counted, F_is_counted⟩ := d.def_ 33 (d := ⟨fun K => He.fAd K ("is_counted", none), "is_counted", "is_counted", defArgs s_is_counted, defBody s_is_counted, defScope s_is_counted, [], []⟩) rfl
  obtain ⟨oc_is_counted, od_is_counted, dV_is_counted, kV_is_counted, dc_is_counted, pm_is_counted, an_is_counted, cd_is_counted, ct_is_counted, sl_is_counted, q_is_counted, l_is_counted, c_is_counted, v_is_counted, _⟩ := F_is_counted.ex
  subst q_is_counted
  have k_is_counted := F_is_counted.kp
  obtain rfl := dfl_none v_is_counted
  obtain ⟨fd_is_surplus, F_is_surplus⟩ := d.def_ 34 (d := ⟨fun K => He.fAd K ("is_surplus", none), "is_surplus", "is_surplus", defArgs s_is_surplus, defBody s_is_surplus, defScope s_is_surplus, [], []⟩) rfl
  obtain ⟨oc_is_surplus, od_is_surplus, dV_is_surplus, kV_is_surplus, dc_is_surplus, pm_is_surplus, an_is_surplus, cd_is_surplus, ct_is_surplus, sl_is_surplus, q_is_surplus, l_is_surplus, c_is_surplus, v_is_surplus, _⟩ := F_is_surplus.ex
  subst q_is_surplus
  have k_is_surplus := F_is_surplus.kp
  obtain rfl := dfl_none v_is_surplus
  obtain ⟨fd_surplus_of, F_surplus_of⟩ := d.def_ 35 (d := ⟨fun K => He.fAd K ("surplus_of", none), "surplus_of", "surplus_of", defArgs s_surplus_of, defBody s_surplus_of, defScope s_surplus_of, [], []⟩) rfl
  obtain ⟨oc_surplus_of, od_surplus_of, dV_surplus_of, kV_surplus_of, dc_surplus_of, pm_surplus_of, an_surplus_of, cd_surplus_of, ct_surplus_of, sl_surplus_of, q_surplus_of, l_surplus_of, c_surplus_of, v_surplus_of, _⟩ := F_surplus_of.ex
  subst q_surplus_of
  have k_surplus_of := F_surplus_of.kp
  obtain rfl := dfl_none v_surplus_of
  obtain ⟨fd_overs_in, F_overs_in⟩ := d.def_ 36 (d := ⟨fun K => He.fAd K ("overs_in", none), "overs_in", "overs_in", defArgs s_overs_in, defBody s_overs_in, defScope s_overs_in, [], []⟩) rfl
  obtain ⟨oc_overs_in, od_overs_in, dV_overs_in, kV_overs_in, dc_overs_in, pm_overs_in, an_overs_in, cd_overs_in, ct_overs_in, sl_overs_in, q_overs_in, l_overs_in, c_overs_in, v_overs_in, _⟩ := F_overs_in.ex
  subst q_overs_in
  have k_overs_in := F_overs_in.kp
  obtain rfl := dfl_none v_overs_in
  obtain ⟨fd_wish_text, F_wish_text⟩ := d.def_ 37 (d := ⟨fun K => He.fAd K ("wish_text", none), "wish_text", "wish_text", defArgs s_wish_text, defBody s_wish_text, defScope s_wish_text, [], []⟩) rfl
  obtain ⟨oc_wish_text, od_wish_text, dV_wish_text, kV_wish_text, dc_wish_text, pm_wish_text, an_wish_text, cd_wish_text, ct_wish_text, sl_wish_text, q_wish_text, l_wish_text, c_wish_text, v_wish_text, _⟩ := F_wish_text.ex
  subst q_wish_text
  have k_wish_text := F_wish_text.kp
  obtain rfl := dfl_none v_wish_text
  obtain ⟨fd_wish_form_in, F_wish_form_in⟩ := d.def_ 38 (d := ⟨fun K => He.fAd K ("wish_form_in", none), "wish_form_in", "wish_form_in", defArgs s_wish_form_in, defBody s_wish_form_in, defScope s_wish_form_in, [], []⟩) rfl
  obtain ⟨oc_wish_form_in, od_wish_form_in, dV_wish_form_in, kV_wish_form_in, dc_wish_form_in, pm_wish_form_in, an_wish_form_in, cd_wish_form_in, ct_wish_form_in, sl_wish_form_in, q_wish_form_in, l_wish_form_in, c_wish_form_in, v_wish_form_in, _⟩ := F_wish_form_in.ex
  subst q_wish_form_in
  have k_wish_form_in := F_wish_form_in.kp
  obtain rfl := dfl_none v_wish_form_in
  obtain ⟨fd_closed, F_closed⟩ := d.def_ 39 (d := ⟨fun K => He.fAd K ("closed", none), "closed", "closed", defArgs s_closed, defBody s_closed, defScope s_closed, [], []⟩) rfl
  obtain ⟨oc_closed, od_closed, dV_closed, kV_closed, dc_closed, pm_closed, an_closed, cd_closed, ct_closed, sl_closed, q_closed, l_closed, c_closed, v_closed, _⟩ := F_closed.ex
  subst q_closed
  have k_closed := F_closed.kp
  obtain rfl := dfl_none v_closed
  obtain ⟨fd_surplus_in, F_surplus_in⟩ := d.def_ 40 (d := ⟨fun K => He.fAd K ("surplus_in", none), "surplus_in", "surplus_in", defArgs s_surplus_in, defBody s_surplus_in, defScope s_surplus_in, [], []⟩) rfl
  obtain ⟨oc_surplus_in, od_surplus_in, dV_surplus_in, kV_surplus_in, dc_surplus_in, pm_surplus_in, an_surplus_in, cd_surplus_in, ct_surplus_in, sl_surplus_in, q_surplus_in, l_surplus_in, c_surplus_in, v_surplus_in, _⟩ := F_surplus_in.ex
  subst q_surplus_in
  have k_surplus_in := F_surplus_in.kp
  obtain rfl := dfl_none v_surplus_in
  obtain ⟨fd_bag, F_bag⟩ := d.def_ 41 (d := ⟨fun K => He.fAd K ("_law_bag", none), "_law_bag", "_law_bag", defArgs s_bag, defBody s_bag, defScope s_bag, [], []⟩) rfl
  obtain ⟨oc_bag, od_bag, dV_bag, kV_bag, dc_bag, pm_bag, an_bag, cd_bag, ct_bag, sl_bag, q_bag, l_bag, c_bag, v_bag, _⟩ := F_bag.ex
  subst q_bag
  have k_bag := F_bag.kp
  obtain rfl := dfl_none v_bag
  obtain ⟨fd_draw, F_draw⟩ := d.def_ 42 (d := ⟨fun K => He.fAd K ("_law_draw", none), "_law_draw", "_law_draw", defArgs s_draw, defBody s_draw, defScope s_draw, [], []⟩) rfl
  obtain ⟨oc_draw, od_draw, dV_draw, kV_draw, dc_draw, pm_draw, an_draw, cd_draw, ct_draw, sl_draw, q_draw, l_draw, c_draw, v_draw, _⟩ := F_draw.ex
  subst q_draw
  have k_draw := F_draw.kp
  obtain rfl := dfl_none v_draw
  obtain ⟨fd_one, F_one⟩ := d.def_ 43 (d := ⟨fun K => He.fAd K ("_law_one", none), "_law_one", "_law_one", defArgs s_one, defBody s_one, defScope s_one, [], []⟩) rfl
  obtain ⟨oc_one, od_one, dV_one, kV_one, dc_one, pm_one, an_one, cd_one, ct_one, sl_one, q_one, l_one, c_one, v_one, _⟩ := F_one.ex
  subst q_one
  have k_one := F_one.kp
  obtain rfl := dfl_none v_one
  obtain ⟨fd_words, F_words⟩ := d.def_ 44 (d := ⟨fun K => He.fAd K ("_law_words", none), "_law_words", "_law_words", defArgs s_words, defBody s_words, defScope s_words, [], []⟩) rfl
  obtain ⟨oc_words, od_words, dV_words, kV_words, dc_words, pm_words, an_words, cd_words, ct_words, sl_words, q_words, l_words, c_words, v_words, _⟩ := F_words.ex
  subst q_words
  have k_words := F_words.kp
  obtain rfl := dfl_none v_words
  obtain ⟨fd_letters, F_letters⟩ := d.def_ 45 (d := ⟨fun K => He.fAd K ("_law_letters", none), "_law_letters", "_law_letters", defArgs s_letters, defBody s_letters, defScope s_letters, [], []⟩) rfl
  obtain ⟨oc_letters, od_letters, dV_letters, kV_letters, dc_letters, pm_letters, an_letters, cd_letters, ct_letters, sl_letters, q_letters, l_letters, c_letters, v_letters, _⟩ := F_letters.ex
  subst q_letters
  have k_letters := F_letters.kp
  obtain rfl := dfl_none v_letters
  obtain ⟨fd_cords, F_cords⟩ := d.def_ 46 (d := ⟨fun K => He.fAd K ("_law_cords", none), "_law_cords", "_law_cords", defArgs s_cords, defBody s_cords, defScope s_cords, [], []⟩) rfl
  obtain ⟨oc_cords, od_cords, dV_cords, kV_cords, dc_cords, pm_cords, an_cords, cd_cords, ct_cords, sl_cords, q_cords, l_cords, c_cords, v_cords, _⟩ := F_cords.ex
  subst q_cords
  have k_cords := F_cords.kp
  obtain rfl := dfl_none v_cords
  obtain ⟨fd_shape, F_shape⟩ := d.def_ 47 (d := ⟨fun K => He.fAd K ("_law_shape", none), "_law_shape", "_law_shape", defArgs s_shape, defBody s_shape, defScope s_shape, [], []⟩) rfl
  obtain ⟨oc_shape, od_shape, dV_shape, kV_shape, dc_shape, pm_shape, an_shape, cd_shape, ct_shape, sl_shape, q_shape, l_shape, c_shape, v_shape, _⟩ := F_shape.ex
  subst q_shape
  have k_shape := F_shape.kp
  obtain rfl := dfl_none v_shape
  obtain ⟨fd_level, F_level⟩ := d.def_ 48 (d := ⟨fun K => He.fAd K ("_law_level", none), "_law_level", "_law_level", defArgs s_level, defBody s_level, defScope s_level, [], []⟩) rfl
  obtain ⟨oc_level, od_level, dV_level, kV_level, dc_level, pm_level, an_level, cd_level, ct_level, sl_level, q_level, l_level, c_level, v_level, _⟩ := F_level.ex
  subst q_level
  have k_level := F_level.kp
  obtain rfl := dfl_none v_level
  obtain ⟨fd_more, F_more⟩ := d.def_ 49 (d := ⟨fun K => He.fAd K ("_law_more", none), "_law_more", "_law_more", defArgs s_more, defBody s_more, defScope s_more, [], []⟩) rfl
  obtain ⟨oc_more, od_more, dV_more, kV_more, dc_more, pm_more, an_more, cd_more, ct_more, sl_more, q_more, l_more, c_more, v_more, _⟩ := F_more.ex
  subst q_more
  have k_more := F_more.kp
  obtain rfl := dfl_none v_more
  obtain ⟨fd_plea, F_plea⟩ := d.def_ 50 (d := ⟨fun K => He.fAd K ("_law_plea", none), "_law_plea", "_law_plea", defArgs s_plea, defBody s_plea, defScope s_plea, [], []⟩) rfl
  obtain ⟨oc_plea, od_plea, dV_plea, kV_plea, dc_plea, pm_plea, an_plea, cd_plea, ct_plea, sl_plea, q_plea, l_plea, c_plea, v_plea, _⟩ := F_plea.ex
  subst q_plea
  have k_plea := F_plea.kp
  obtain rfl := dfl_none v_plea
  obtain ⟨fd_level_text, F_level_text⟩ := d.def_ 51 (d := ⟨fun K => He.fAd K ("_law_level_text", none), "_law_level_text", "_law_level_text", defArgs s_level_text, defBody s_level_text, defScope s_level_text, [], []⟩) rfl
  obtain ⟨oc_level_text, od_level_text, dV_level_text, kV_level_text, dc_level_text, pm_level_text, an_level_text, cd_level_text, ct_level_text, sl_level_text, q_level_text, l_level_text, c_level_text, v_level_text, _⟩ := F_level_text.ex
  subst q_level_text
  have k_level_text := F_level_text.kp
  obtain rfl := dfl_none v_level_text
  obtain ⟨fd_written, F_written⟩ := d.def_ 52 (d := ⟨fun K => He.fAd K ("_law_written", none), "_law_written", "_law_written", defArgs s_written, defBody s_written, defScope s_written, [], []⟩) rfl
  obtain ⟨oc_written, od_written, dV_written, kV_written, dc_written, pm_written, an_written, cd_written, ct_written, sl_written, q_written, l_written, c_written, v_written, _⟩ := F_written.ex
  subst q_written
  have k_written := F_written.kp
  obtain rfl := dfl_none v_written
  obtain ⟨fd_right, F_right⟩ := d.def_ 53 (d := ⟨fun K => He.fAd K ("_law_right", none), "_law_right", "_law_right", defArgs s_right, defBody s_right, defScope s_right, [], []⟩) rfl
  obtain ⟨oc_right, od_right, dV_right, kV_right, dc_right, pm_right, an_right, cd_right, ct_right, sl_right, q_right, l_right, c_right, v_right, _⟩ := F_right.ex
  subst q_right
  have k_right := F_right.kp
  obtain rfl := dfl_none v_right
  obtain ⟨fd_law, F_law⟩ := d.def_ 54 (d := ⟨fun K => He.fAd K ("law", none), "law", "law", defArgs s_law, defBody s_law, defScope s_law, [], []⟩) rfl
  obtain ⟨oc_law, od_law, dV_law, kV_law, dc_law, pm_law, an_law, cd_law, ct_law, sl_law, q_law, l_law, c_law, v_law, _⟩ := F_law.ex
  subst q_law
  have k_law := F_law.kp
  obtain rfl := dfl_none v_law
  have aC_Puppet : PySem.W.nsIn K mainGlobals "Puppet" = some (some (.ref (He.ga K "Puppet"))) := of_decide_eq_true (all_at x0 (i := 0) rfl)
  have pg_Puppet : PySem.W.plainGet K (He.ga K "Puppet") Str.empty = true := (all_at x0 (i := 1) rfl)
  have hd_Puppet : PySem.W.hasDictIn K (He.ga K "Puppet") = true := (all_at x0 (i := 2) rfl)
  have po_Puppet : PySem.W.plainOver K (He.ga K "Puppet") = true := (all_at x0 (i := 3) rfl)
  have sa_Puppet : PySem.W.findIn K (.ref (He.ga K "Puppet")) "__setattr__" = some (some (.builtin "object.__setattr__")) := of_decide_eq_true (all_at x0 (i := 4) rfl)
  have mk_Puppet : PySem.W.makesIn K (He.ga K "Puppet") = true := (all_at x0 (i := 5) rfl)
  have kc_Puppet : PySem.W.keepIn K (.ref (He.ga K "Puppet")) = true := (all_at x0 (i := 6) rfl)
  have aC_Ratio : PySem.W.nsIn K mainGlobals "Ratio" = some (some (.ref (He.ga K "Ratio"))) := of_decide_eq_true (all_at x0 (i := 7) rfl)
  have pg_Ratio : PySem.W.plainGet K (He.ga K "Ratio") Str.empty = true := (all_at x0 (i := 8) rfl)
  have hd_Ratio : PySem.W.hasDictIn K (He.ga K "Ratio") = true := (all_at x0 (i := 9) rfl)
  have po_Ratio : PySem.W.plainOver K (He.ga K "Ratio") = true := (all_at x0 (i := 10) rfl)
  have sa_Ratio : PySem.W.findIn K (.ref (He.ga K "Ratio")) "__setattr__" = some (some (.builtin "object.__setattr__")) := of_decide_eq_true (all_at x0 (i := 11) rfl)
  have mk_Ratio : PySem.W.makesIn K (He.ga K "Ratio") = true := (all_at x0 (i := 12) rfl)
  have kc_Ratio : PySem.W.keepIn K (.ref (He.ga K "Ratio")) = true := (all_at x0 (i := 13) rfl)
  have aC_Wish : PySem.W.nsIn K mainGlobals "Wish" = some (some (.ref (He.ga K "Wish"))) := of_decide_eq_true (all_at x0 (i := 14) rfl)
  have pg_Wish : PySem.W.plainGet K (He.ga K "Wish") Str.empty = true := (all_at x0 (i := 15) rfl)
  have hd_Wish : PySem.W.hasDictIn K (He.ga K "Wish") = true := (all_at x0 (i := 16) rfl)
  have po_Wish : PySem.W.plainOver K (He.ga K "Wish") = true := (all_at x0 (i := 17) rfl)
  have sa_Wish : PySem.W.findIn K (.ref (He.ga K "Wish")) "__setattr__" = some (some (.builtin "object.__setattr__")) := of_decide_eq_true (all_at x0 (i := 18) rfl)
  have mk_Wish : PySem.W.makesIn K (He.ga K "Wish") = true := (all_at x0 (i := 19) rfl)
  have kc_Wish : PySem.W.keepIn K (.ref (He.ga K "Wish")) = true := (all_at x0 (i := 20) rfl)
  have a_is_whole : PySem.W.nsIn K mainGlobals "is_whole" = some (some (.ref (He.fAd K ("is_whole", none)))) := of_decide_eq_true (all_at x0 (i := 21) rfl)
  have a_is_number : PySem.W.nsIn K mainGlobals "is_number" = some (some (.ref (He.fAd K ("is_number", none)))) := of_decide_eq_true (all_at x0 (i := 22) rfl)
  have a_is_small_letter : PySem.W.nsIn K mainGlobals "is_small_letter" = some (some (.ref (He.fAd K ("is_small_letter", none)))) := of_decide_eq_true (all_at x0 (i := 23) rfl)
  have a_is_capital : PySem.W.nsIn K mainGlobals "is_capital" = some (some (.ref (He.fAd K ("is_capital", none)))) := of_decide_eq_true (all_at x0 (i := 24) rfl)
  have a_is_word : PySem.W.nsIn K mainGlobals "is_word" = some (some (.ref (He.fAd K ("is_word", none)))) := of_decide_eq_true (all_at x1 (i := 0) rfl)
  have a_is_row : PySem.W.nsIn K mainGlobals "is_row" = some (some (.ref (He.fAd K ("is_row", none)))) := of_decide_eq_true (all_at x1 (i := 1) rfl)
  have a_is_rising : PySem.W.nsIn K mainGlobals "is_rising" = some (some (.ref (He.fAd K ("is_rising", none)))) := of_decide_eq_true (all_at x1 (i := 2) rfl)
  have a_are_capitals : PySem.W.nsIn K mainGlobals "are_capitals" = some (some (.ref (He.fAd K ("are_capitals", none)))) := of_decide_eq_true (all_at x1 (i := 3) rfl)
  have a_is_one_of : PySem.W.nsIn K mainGlobals "is_one_of" = some (some (.ref (He.fAd K ("is_one_of", none)))) := of_decide_eq_true (all_at x1 (i := 4) rfl)
  have a_Puppet_init : PySem.W.findIn K (.ref (He.ga K "Puppet")) "__init__" = some (some (.ref (He.fAd K ("Puppet", some "__init__")))) := of_decide_eq_true (all_at x1 (i := 5) rfl)
  have i_Puppet_init : PySem.W.isFn K (.ref (He.fAd K ("Puppet", some "__init__"))) = true := (all_at x1 (i := 6) rfl)
  have a_check_parts : PySem.W.nsIn K mainGlobals "check_parts" = some (some (.ref (He.fAd K ("check_parts", none)))) := of_decide_eq_true (all_at x1 (i := 7) rfl)
  have a_check_ties : PySem.W.nsIn K mainGlobals "check_ties" = some (some (.ref (He.fAd K ("check_ties", none)))) := of_decide_eq_true (all_at x1 (i := 8) rfl)
  have a_is_tie : PySem.W.nsIn K mainGlobals "is_tie" = some (some (.ref (He.fAd K ("is_tie", none)))) := of_decide_eq_true (all_at x1 (i := 9) rfl)
  have a_is_tied : PySem.W.nsIn K mainGlobals "is_tied" = some (some (.ref (He.fAd K ("is_tied", none)))) := of_decide_eq_true (all_at x1 (i := 10) rfl)
  have a_check_strings : PySem.W.nsIn K mainGlobals "check_strings" = some (some (.ref (He.fAd K ("check_strings", none)))) := of_decide_eq_true (all_at x1 (i := 11) rfl)
  have a_is_string : PySem.W.nsIn K mainGlobals "is_string" = some (some (.ref (He.fAd K ("is_string", none)))) := of_decide_eq_true (all_at x1 (i := 12) rfl)
  have a_distances_of : PySem.W.nsIn K mainGlobals "distances_of" = some (some (.ref (He.fAd K ("distances_of", none)))) := of_decide_eq_true (all_at x1 (i := 13) rfl)
  have a_shorten : PySem.W.nsIn K mainGlobals "shorten" = some (some (.ref (He.fAd K ("shorten", none)))) := of_decide_eq_true (all_at x1 (i := 14) rfl)
  have a_moment_at : PySem.W.nsIn K mainGlobals "moment_at" = some (some (.ref (He.fAd K ("moment_at", none)))) := of_decide_eq_true (all_at x1 (i := 15) rfl)
  have a_is_level : PySem.W.nsIn K mainGlobals "is_level" = some (some (.ref (He.fAd K ("is_level", none)))) := of_decide_eq_true (all_at x1 (i := 16) rfl)
  have a_p_level_text : PySem.W.nsIn K mainGlobals "level_text" = some (some (.ref (He.fAd K ("level_text", none)))) := of_decide_eq_true (all_at x1 (i := 17) rfl)
  have a_level_in : PySem.W.nsIn K mainGlobals "level_in" = some (some (.ref (He.fAd K ("level_in", none)))) := of_decide_eq_true (all_at x1 (i := 18) rfl)
  have a_moment_in : PySem.W.nsIn K mainGlobals "moment_in" = some (some (.ref (He.fAd K ("moment_in", none)))) := of_decide_eq_true (all_at x1 (i := 19) rfl)
  have a_Ratio_init : PySem.W.findIn K (.ref (He.ga K "Ratio")) "__init__" = some (some (.ref (He.fAd K ("Ratio", some "__init__")))) := of_decide_eq_true (all_at x1 (i := 20) rfl)
  have i_Ratio_init : PySem.W.isFn K (.ref (He.fAd K ("Ratio", some "__init__"))) = true := (all_at x1 (i := 21) rfl)
  have a_Ratio_str : PySem.W.findIn K (.ref (He.ga K "Ratio")) "__str__" = some (some (.ref (He.fAd K ("Ratio", some "__str__")))) := of_decide_eq_true (all_at x1 (i := 22) rfl)
  have i_Ratio_str : PySem.W.isFn K (.ref (He.fAd K ("Ratio", some "__str__"))) = true := (all_at x1 (i := 23) rfl)
  have a_ratio_in : PySem.W.nsIn K mainGlobals "ratio_in" = some (some (.ref (He.fAd K ("ratio_in", none)))) := of_decide_eq_true (all_at x1 (i := 24) rfl)
  have a_has_digits_alone : PySem.W.nsIn K mainGlobals "has_digits_alone" = some (some (.ref (He.fAd K ("has_digits_alone", none)))) := of_decide_eq_true (all_at x2 (i := 0) rfl)
  have a_Wish_init : PySem.W.findIn K (.ref (He.ga K "Wish")) "__init__" = some (some (.ref (He.fAd K ("Wish", some "__init__")))) := of_decide_eq_true (all_at x2 (i := 1) rfl)
  have i_Wish_init : PySem.W.isFn K (.ref (He.fAd K ("Wish", some "__init__"))) = true := (all_at x2 (i := 2) rfl)
  have a_Wish_eq : PySem.W.findIn K (.ref (He.ga K "Wish")) "__eq__" = some (some (.ref (He.fAd K ("Wish", some "__eq__")))) := of_decide_eq_true (all_at x2 (i := 3) rfl)
  have i_Wish_eq : PySem.W.isFn K (.ref (He.fAd K ("Wish", some "__eq__"))) = true := (all_at x2 (i := 4) rfl)
  have a_Wish_str : PySem.W.findIn K (.ref (He.ga K "Wish")) "__str__" = some (some (.ref (He.fAd K ("Wish", some "__str__")))) := of_decide_eq_true (all_at x2 (i := 5) rfl)
  have i_Wish_str : PySem.W.isFn K (.ref (He.fAd K ("Wish", some "__str__"))) = true := (all_at x2 (i := 6) rfl)
  obtain ⟨sa_Wish_read, sr_Wish_read, sb_Wish_read⟩ := He5.wrapB_ok (all_at x2 (i := 7) rfl)
  have sc_Wish_read : PySem.W.readsIn K (He.ga K "Wish") (.type "type") = true := (all_at x2 (i := 8) rfl)
  have sd_Wish_read : PySem.W.specialIn K (.ref (He.ga K "Wish")) "__getattribute__" = some (some (.builtin "type.__getattribute__")) := of_decide_eq_true (all_at x2 (i := 9) rfl)
  have a_is_wish_form : PySem.W.nsIn K mainGlobals "is_wish_form" = some (some (.ref (He.fAd K ("is_wish_form", none)))) := of_decide_eq_true (all_at x2 (i := 10) rfl)
  have a_is_shaped : PySem.W.nsIn K mainGlobals "is_shaped" = some (some (.ref (He.fAd K ("is_shaped", none)))) := of_decide_eq_true (all_at x2 (i := 11) rfl)
  have a_is_counted : PySem.W.nsIn K mainGlobals "is_counted" = some (some (.ref (He.fAd K ("is_counted", none)))) := of_decide_eq_true (all_at x2 (i := 12) rfl)
  have a_is_surplus : PySem.W.nsIn K mainGlobals "is_surplus" = some (some (.ref (He.fAd K ("is_surplus", none)))) := of_decide_eq_true (all_at x2 (i := 13) rfl)
  have a_surplus_of : PySem.W.nsIn K mainGlobals "surplus_of" = some (some (.ref (He.fAd K ("surplus_of", none)))) := of_decide_eq_true (all_at x2 (i := 14) rfl)
  have a_overs_in : PySem.W.nsIn K mainGlobals "overs_in" = some (some (.ref (He.fAd K ("overs_in", none)))) := of_decide_eq_true (all_at x2 (i := 15) rfl)
  have a_wish_text : PySem.W.nsIn K mainGlobals "wish_text" = some (some (.ref (He.fAd K ("wish_text", none)))) := of_decide_eq_true (all_at x2 (i := 16) rfl)
  have a_wish_form_in : PySem.W.nsIn K mainGlobals "wish_form_in" = some (some (.ref (He.fAd K ("wish_form_in", none)))) := of_decide_eq_true (all_at x2 (i := 17) rfl)
  have a_closed : PySem.W.nsIn K mainGlobals "closed" = some (some (.ref (He.fAd K ("closed", none)))) := of_decide_eq_true (all_at x2 (i := 18) rfl)
  have a_surplus_in : PySem.W.nsIn K mainGlobals "surplus_in" = some (some (.ref (He.fAd K ("surplus_in", none)))) := of_decide_eq_true (all_at x2 (i := 19) rfl)
  have a_bag : PySem.W.nsIn K mainGlobals "_law_bag" = some (some (.ref (He.fAd K ("_law_bag", none)))) := of_decide_eq_true (all_at x2 (i := 20) rfl)
  have a_draw : PySem.W.nsIn K mainGlobals "_law_draw" = some (some (.ref (He.fAd K ("_law_draw", none)))) := of_decide_eq_true (all_at x2 (i := 21) rfl)
  have a_one : PySem.W.nsIn K mainGlobals "_law_one" = some (some (.ref (He.fAd K ("_law_one", none)))) := of_decide_eq_true (all_at x2 (i := 22) rfl)
  have a_words : PySem.W.nsIn K mainGlobals "_law_words" = some (some (.ref (He.fAd K ("_law_words", none)))) := of_decide_eq_true (all_at x2 (i := 23) rfl)
  have a_letters : PySem.W.nsIn K mainGlobals "_law_letters" = some (some (.ref (He.fAd K ("_law_letters", none)))) := of_decide_eq_true (all_at x2 (i := 24) rfl)
  have a_cords : PySem.W.nsIn K mainGlobals "_law_cords" = some (some (.ref (He.fAd K ("_law_cords", none)))) := of_decide_eq_true (all_at x3 (i := 0) rfl)
  have a_shape : PySem.W.nsIn K mainGlobals "_law_shape" = some (some (.ref (He.fAd K ("_law_shape", none)))) := of_decide_eq_true (all_at x3 (i := 1) rfl)
  have a_level : PySem.W.nsIn K mainGlobals "_law_level" = some (some (.ref (He.fAd K ("_law_level", none)))) := of_decide_eq_true (all_at x3 (i := 2) rfl)
  have a_more : PySem.W.nsIn K mainGlobals "_law_more" = some (some (.ref (He.fAd K ("_law_more", none)))) := of_decide_eq_true (all_at x3 (i := 3) rfl)
  have a_plea : PySem.W.nsIn K mainGlobals "_law_plea" = some (some (.ref (He.fAd K ("_law_plea", none)))) := of_decide_eq_true (all_at x3 (i := 4) rfl)
  have a_level_text : PySem.W.nsIn K mainGlobals "_law_level_text" = some (some (.ref (He.fAd K ("_law_level_text", none)))) := of_decide_eq_true (all_at x3 (i := 5) rfl)
  have a_written : PySem.W.nsIn K mainGlobals "_law_written" = some (some (.ref (He.fAd K ("_law_written", none)))) := of_decide_eq_true (all_at x3 (i := 6) rfl)
  have a_right : PySem.W.nsIn K mainGlobals "_law_right" = some (some (.ref (He.fAd K ("_law_right", none)))) := of_decide_eq_true (all_at x3 (i := 7) rfl)
  have a_law : PySem.W.nsIn K mainGlobals "law" = some (some (.ref (He.fAd K ("law", none)))) := of_decide_eq_true (all_at x3 (i := 8) rfl)
  have z_isinstance : PySem.W.nsIn K mainGlobals "isinstance" = some none := of_decide_eq_true (all_at x3 (i := 9) rfl)
  have z_int : PySem.W.nsIn K mainGlobals "int" = some none := of_decide_eq_true (all_at x3 (i := 10) rfl)
  have z_bool : PySem.W.nsIn K mainGlobals "bool" = some none := of_decide_eq_true (all_at x3 (i := 11) rfl)
  have z_len : PySem.W.nsIn K mainGlobals "len" = some none := of_decide_eq_true (all_at x3 (i := 12) rfl)
  have z_abs : PySem.W.nsIn K mainGlobals "abs" = some none := of_decide_eq_true (all_at x3 (i := 13) rfl)
  have z_range : PySem.W.nsIn K mainGlobals "range" = some none := of_decide_eq_true (all_at x3 (i := 14) rfl)
  have z_all : PySem.W.nsIn K mainGlobals "all" = some none := of_decide_eq_true (all_at x3 (i := 15) rfl)
  have z_any : PySem.W.nsIn K mainGlobals "any" = some none := of_decide_eq_true (all_at x3 (i := 16) rfl)
  have z_max : PySem.W.nsIn K mainGlobals "max" = some none := of_decide_eq_true (all_at x3 (i := 17) rfl)
  have z_min : PySem.W.nsIn K mainGlobals "min" = some none := of_decide_eq_true (all_at x3 (i := 18) rfl)
  have z_str : PySem.W.nsIn K mainGlobals "str" = some none := of_decide_eq_true (all_at x3 (i := 19) rfl)
  have z_tuple : PySem.W.nsIn K mainGlobals "tuple" = some none := of_decide_eq_true (all_at x3 (i := 20) rfl)
  have z_zip : PySem.W.nsIn K mainGlobals "zip" = some none := of_decide_eq_true (all_at x3 (i := 21) rfl)
  have z_list : PySem.W.nsIn K mainGlobals "list" = some none := of_decide_eq_true (all_at x3 (i := 22) rfl)
  have z_sorted : PySem.W.nsIn K mainGlobals "sorted" = some none := of_decide_eq_true (all_at x3 (i := 23) rfl)
  have z_enumerate : PySem.W.nsIn K mainGlobals "enumerate" = some none := of_decide_eq_true (all_at x3 (i := 24) rfl)
  have g_gcd : PySem.W.nsIn K mainGlobals "gcd" = some (some (.builtin "math.gcd")) := of_decide_eq_true (all_at x4 (i := 0) rfl)
  obtain ⟨tg_MOST_PARTS, g_MOST_PARTS⟩ := intB_ok (all_at x4 (i := 1) rfl)
  obtain ⟨tg_MOST_TIES, g_MOST_TIES⟩ := intB_ok (all_at x4 (i := 2) rfl)
  obtain ⟨tg_MOST_HOOKS, g_MOST_HOOKS⟩ := intB_ok (all_at x4 (i := 3) rfl)
  obtain ⟨tg_MOST_STRINGS, g_MOST_STRINGS⟩ := intB_ok (all_at x4 (i := 4) rfl)
  obtain ⟨tg_MOST_AMOUNT, g_MOST_AMOUNT⟩ := intB_ok (all_at x4 (i := 5) rfl)
  obtain ⟨tg_MOST_MOVES, g_MOST_MOVES⟩ := intB_ok (all_at x4 (i := 6) rfl)
  obtain ⟨tg_MOST_WISHES, g_MOST_WISHES⟩ := intB_ok (all_at x4 (i := 7) rfl)
  obtain ⟨tg_MOST_DEPTH, g_MOST_DEPTH⟩ := intB_ok (all_at x4 (i := 8) rfl)
  obtain ⟨tg_MOST_OVERS, g_MOST_OVERS⟩ := intB_ok (all_at x4 (i := 9) rfl)
  have h_n_parts : PySem.W.findIn K (.ref (He.ga K "Puppet")) "parts" = some none := of_decide_eq_true (all_at x4 (i := 10) rfl)
  have h_n_ties : PySem.W.findIn K (.ref (He.ga K "Puppet")) "ties" = some none := of_decide_eq_true (all_at x4 (i := 11) rfl)
  have h_n_hooks : PySem.W.findIn K (.ref (He.ga K "Puppet")) "hooks" = some none := of_decide_eq_true (all_at x4 (i := 12) rfl)
  have h_n_strings : PySem.W.findIn K (.ref (He.ga K "Puppet")) "strings" = some none := of_decide_eq_true (all_at x4 (i := 13) rfl)
  have h_n_names : PySem.W.findIn K (.ref (He.ga K "Puppet")) "names" = some none := of_decide_eq_true (all_at x4 (i := 14) rfl)
  have h_n_distances : PySem.W.findIn K (.ref (He.ga K "Puppet")) "distances" = some none := of_decide_eq_true (all_at x4 (i := 15) rfl)
  have h_nT : PySem.W.findIn K (.ref (He.ga K "Ratio")) "top" = some none := of_decide_eq_true (all_at x4 (i := 16) rfl)
  have h_nB : PySem.W.findIn K (.ref (He.ga K "Ratio")) "bottom" = some none := of_decide_eq_true (all_at x4 (i := 17) rfl)
  have h_nW : PySem.W.findIn K (.ref (He.ga K "Wish")) "form" = some none := of_decide_eq_true (all_at x4 (i := 18) rfl)
  have h_iN : PySem.W.specialIn K (.builtin "object.__class__") "__get__" = some (some (.builtin "getset_descriptor.__get__")) := of_decide_eq_true (all_at x4 (i := 19) rfl)
  have h_iT : PySem.W.takesIn K (.builtin "object.__class__") = some true := of_decide_eq_true (all_at x4 (i := 20) rfl)
  have h_wA : PySem.W.findIn K (.ref (He.ga K "Wish")) "__class__" = some (some (.builtin "object.__class__")) := of_decide_eq_true (all_at x4 (i := 21) rfl)
  have h_wM : PySem.W.mroIn K (He.ga K "Wish") (.type "object") = some true := of_decide_eq_true (all_at x4 (i := 22) rfl)
  have h_wWW : PySem.W.kitOne K (.ref (He.ga K "Wish")) (.ref (He.ga K "Wish")) = some true := of_decide_eq_true (all_at x4 (i := 23) rfl)
  have h_wTW : PySem.W.kitOne K (.type "tuple") (.ref (He.ga K "Wish")) = some false := of_decide_eq_true (all_at x4 (i := 24) rfl)
  have h_wfW : PySem.W.notFirst K (He.ga K "Wish") (.ref (He.ga K "Wish")) = true := (all_at x5 (i := 0) rfl)
  have h_wfT : PySem.W.notFirst K (He.ga K "Wish") (.type "tuple") = true := (all_at x5 (i := 1) rfl)
  exact all_mk X G aC_Puppet pg_Puppet hd_Puppet po_Puppet sa_Puppet mk_Puppet kc_Puppet aC_Ratio pg_Ratio hd_Ratio po_Ratio sa_Ratio mk_Ratio kc_Ratio aC_Wish pg_Wish hd_Wish po_Wish sa_Wish mk_Wish kc_Wish a_is_whole l_is_whole c_is_whole k_is_whole a_is_number l_is_number c_is_number k_is_number a_is_small_letter l_is_small_letter c_is_small_letter k_is_small_letter a_is_capital l_is_capital c_is_capital k_is_capital a_is_word l_is_word c_is_word k_is_word a_is_row l_is_row c_is_row k_is_row a_is_rising l_is_rising c_is_rising k_is_rising a_are_capitals l_are_capitals c_are_capitals k_are_capitals a_is_one_of l_is_one_of c_is_one_of k_is_one_of a_Puppet_init i_Puppet_init l_Puppet_init c_Puppet_init k_Puppet_init a_check_parts l_check_parts c_check_parts k_check_parts a_check_ties l_check_ties c_check_ties k_check_ties a_is_tie l_is_tie c_is_tie k_is_tie a_is_tied l_is_tied c_is_tied k_is_tied a_check_strings l_check_strings c_check_strings k_check_strings a_is_string l_is_string c_is_string k_is_string a_distances_of l_distances_of c_distances_of k_distances_of a_shorten l_shorten c_shorten k_shorten a_moment_at l_moment_at c_moment_at k_moment_at a_is_level l_is_level c_is_level k_is_level a_p_level_text l_p_level_text c_p_level_text k_p_level_text a_level_in l_level_in c_level_in k_level_in a_moment_in l_moment_in c_moment_in k_moment_in a_Ratio_init i_Ratio_init l_Ratio_init c_Ratio_init k_Ratio_init t_Ratio_init a_Ratio_str i_Ratio_str l_Ratio_str c_Ratio_str k_Ratio_str a_ratio_in l_ratio_in c_ratio_in k_ratio_in a_has_digits_alone l_has_digits_alone c_has_digits_alone k_has_digits_alone a_Wish_init i_Wish_init l_Wish_init c_Wish_init k_Wish_init a_Wish_eq i_Wish_eq l_Wish_eq c_Wish_eq k_Wish_eq a_Wish_str i_Wish_str l_Wish_str c_Wish_str k_Wish_str sa_Wish_read sb_Wish_read sc_Wish_read sd_Wish_read l_Wish_read c_Wish_read k_Wish_read a_is_wish_form l_is_wish_form c_is_wish_form k_is_wish_form a_is_shaped l_is_shaped c_is_shaped k_is_shaped a_is_counted l_is_counted c_is_counted k_is_counted a_is_surplus l_is_surplus c_is_surplus k_is_surplus a_surplus_of l_surplus_of c_surplus_of k_surplus_of a_overs_in l_overs_in c_overs_in k_overs_in a_wish_text l_wish_text c_wish_text k_wish_text a_wish_form_in l_wish_form_in c_wish_form_in k_wish_form_in a_closed l_closed c_closed k_closed a_surplus_in l_surplus_in c_surplus_in k_surplus_in a_bag l_bag c_bag k_bag a_draw l_draw c_draw k_draw a_one l_one c_one k_one a_words l_words c_words k_words a_letters l_letters c_letters k_letters a_cords l_cords c_cords k_cords a_shape l_shape c_shape k_shape a_level l_level c_level k_level a_more l_more c_more k_more a_plea l_plea c_plea k_plea a_level_text l_level_text c_level_text k_level_text a_written l_written c_written k_written a_right l_right c_right k_right a_law l_law c_law k_law z_isinstance z_int z_bool z_len z_abs z_range z_all z_any z_max z_min z_str z_tuple z_zip z_list z_sorted z_enumerate g_gcd g_MOST_PARTS g_MOST_TIES g_MOST_HOOKS g_MOST_STRINGS g_MOST_AMOUNT g_MOST_MOVES g_MOST_WISHES g_MOST_DEPTH g_MOST_OVERS h_n_parts h_n_ties h_n_hooks h_n_strings h_n_names h_n_distances h_nT h_nB h_nW h_iN h_iT h_wA h_wM h_wWW h_wTW h_wfW h_wfT
theorem walk_GE {l : PySem.W.OpenLaw} {n k : Nat} {q : Program} {loose : List Str} {XP : (Str → Option Value) → Heap → Prop} {YP : World → Heap → Prop} {d : DefRec} {CX : CXT} {x : Str}
    (hn : l.most = some n) (hn2 : n ≤ sizeLine) (hdf : d.params.defaults = []) (hr : Room k callerA)
    (F : ∀ (w : World) (mg : Str → Option Value) (fa : Addr) (h : Heap), YP w h → h.Ns mainGlobals mg → mg d.name = some (.ref fa) →
      ∃ (K : PySem.W.Frag) (fd : FuncData) (sp : Sp), K.In h ∧ (∀ (s : Shared) (u : Value), BindsTo s fd ⟨[u], []⟩ [(x, u)]) ∧
        (∀ (H : Hp) (a : Addr) (ns : List Int), ns.length ≤ n → SqL K H a (ns.map V.int) → sp [.ref a] H (fun v _ => v = .bl true) fun _ _ _ => False) ∧
        ∀ base : Heap, K.In base → base.Ns mainGlobals mg → FnOkG l.prog w K mg base CX k fa fd [x] sp)
    (hCX : ∀ (H : Hp) (s : Shared) (e : Value) (s' : Shared), CX [] H s (fun _ _ _ => False) e s' → False) : PySem.W.WalkO q loose XP YP l.row.toRowW d [] (fun f vs => PySem.call f vs) :=
  Att.attach_callB hn hdf fun w s0 s1 mg mb fa o pm cd doc a us ns G Y ho hd hcd hmg hobj areI len bits hg => by
    obtain ⟨K, fd, sp, KX, hb, hsp, hF⟩ := F w mg fa _ Y G.T.g hmg
    exact law_callG (tb := []) KX G.T.g G.T.b G.T.builtins G.T.nolimit hg (fun p hp => absurd hp List.not_mem_nil) (fun p hp => absurd hp List.not_mem_nil) (fun p hp => absurd hp List.not_mem_nil) G.T.bmain hobj areI (Nat.le_trans len hn2) hr (fun base b1 b2 _ => hF base b1 b2) hb (fun H _ hS => hsp H a ns len hS) fun H e s' => hCX H s1 e s'
def nm0 : List Str := ["_wall", "__name__", "ShapeError", "QuestionError", "SizeError", "InvalidNumber", "InvalidText", "InvalidParts", "InvalidTies", "InvalidHooks", "InvalidStrings", "InvalidHeights", "InvalidLengths", "InvalidMoves", "InvalidMoment", "InvalidWish", "NotAPuppet", "NotAScript", "NotARun", "UnknownPart", "UnknownHook", "NoWay", "TooMany", "is_whole", "is_number", "is_small_letter", "is_capital", "is_word", "is_row", "is_rising"]
def nm1 : List Str := ["are_capitals", "is_one_of", "has_just", "moment_at", "MOST_PARTS", "MOST_TIES", "MOST_HOOKS", "MOST_STRINGS", "MOST_MOVES", "MOST_HAULS", "MOST_AMOUNT", "MOST_WISHES", "MOST_DEPTH", "MOST_OVERS", "is_level", "is_level_over", "level_text", "level_in", "moment_in", "Ratio", "is_fraction", "as_ratio", "ratio_in", "has_digits_alone", "is_length", "are_lengths", "are_heights", "greatest_of", "Puppet", "check_parts"]
def nm2 : List Str := ["check_ties", "is_tie", "is_tied", "check_strings", "is_string", "distances_of", "shorten", "Script", "Run", "is_amount", "check_moves", "is_move", "are_hooks", "is_haul", "heights_along", "hooks_behind", "rise_of", "Wish", "is_wish_form", "is_shaped", "is_counted", "is_surplus", "surplus_of", "overs_in", "levels_in", "is_met", "level_in_run", "wish_text", "wish_form_in", "closed"]
def nm3 : List Str := ["surplus_in", "_law_bag", "_law_draw", "_law_one", "_law_words", "_law_letters", "_law_cords", "_law_shape", "_law_level", "_law_more", "_law_plea", "_law_level_text", "_law_written", "_law_right"]
def headNames : List Str := nm0 ++ nm1 ++ nm2 ++ nm3
abbrev Rw : PySem.W.OpenRow := PySem.W.OpenLaw.row PySem.Challenge.rw_slackstrings_k17_whole_texts_of_wishes
def asR : Nat → List Addr
  | 0 => []
  | n + 1 => n :: asR n
abbrev AlA : Type := He.AlD × Bool
def obsA (as : List Addr) (g : Addr → Option Obj) : AlA := (He5.obsA [] fns (He.frT g as), exB (He.frT g as))
def hk : PySem.W.Hook where
  α := AlA
  obs := fun s => obsA (mainGlobals :: asR s.heap.objs.size) s.heap.get?
  val := fun w => (He5.valA fns, true)
  says := fun w h => ∃ K : PySem.W.Frag, K.In h ∧ SaysA w K
  of := fun _ _ e => ⟨_, He.frT_in, ⟨congrArg (fun z : AlA => z.1) e, congrArg (fun z : AlA => z.2) e⟩⟩
  keeps := fun _ _ _ ⟨K, hK, c⟩ k => ⟨K, PySem.W.Frag.In.keeps hK k, c⟩
def ob (s : PySem.W.SharedT) : AlA := obsA (mainGlobals :: asR s.n) (HandSHeadRun.getT s)
theorem ob_eq (s : PySem.W.SharedT) : ob s = hk.obs s.abs := by
  show obsA (mainGlobals :: asR s.n) (HandSHeadRun.getT s) = obsA (mainGlobals :: asR s.abs.heap.objs.size) s.abs.heap.get?
  rw [show HandSHeadRun.getT s = s.abs.heap.get? from funext (HandSHeadRun.getT_eq s), show s.abs.heap.objs.size = s.n from PySem.W.absHeap_size _ _ _]
abbrev qv : Program := PySem.W.view Rw.prog [0, 113]
theorem map3 {α β γ δ : Type} {o : Option α} {f : α → β} {g : α → γ} {k : α → δ} {a : β} {b : γ} {c : δ} (h1 : o.map f = some a) (h2 : o.map g = some b) (h3 : o.map k = some c) : o.map (fun x => (f x, g x, k x)) = some (a, b, c) := by
  cases o with
  | none => cases h1
  | some x =>
    have h1 : some (f x) = some a := h1
    have h2 : some (g x) = some b := h2
    have h3 : some (k x) = some c := h3
    show some (f x, g x, k x) = some (a, b, c)
    rw [Option.some.inj h1, Option.some.inj h2, Option.some.inj h3]
theorem runL (w : World) : (HandSHeadRun.wholeF (fun p => HandSHeadRun.stepQ (HandSHeadRun.denQ HandSHeadRun.tabQ) p w) HandSHeadRun.fenceQ 14000 Rw.prog).map (fun x => HandSHeadRun.looksF Rw.prog x.1.heap x.2.abs) = some true := by
  kernel_rfl
theorem runS (w : World) : (HandSHeadRun.wholeF (fun p => HandSHeadRun.stepQ (HandSHeadRun.denQ HandSHeadRun.tabQ) p w) HandSHeadRun.fenceQ 14000 Rw.prog).map (fun x => HandSHeadRun.seenQ qv headNames (PySem.importedModules Rw.prog.main.body) (fun s => PySem.W.xlAt qv [] s && PySem.W.recOk Rw.toRowW.records s) x.2.abs) = some (PySem.W.openGood qv headNames) := by
  kernel_rfl
theorem runO1 (w : World) : (HandSHeadRun.wholeF (fun p => HandSHeadRun.stepQ (HandSHeadRun.denQ HandSHeadRun.tabQ) p w) HandSHeadRun.fenceQ 14000 Rw.prog).map (fun x => (ob x.2).1) = some (He5.valA fns) := by
  kernel_rfl
theorem runO2 (w : World) : (HandSHeadRun.wholeF (fun p => HandSHeadRun.stepQ (HandSHeadRun.denQ HandSHeadRun.tabQ) p w) HandSHeadRun.fenceQ 14000 Rw.prog).map (fun x => (ob x.2).2) = some true := by
  kernel_rfl
theorem map2 {α β γ : Type} {o : Option α} {f : α → β × γ} {a : β} {b : γ} (h1 : o.map (fun x => (f x).1) = some a) (h2 : o.map (fun x => (f x).2) = some b) : o.map f = some (a, b) := by
  cases o with
  | none => cases h1
  | some x =>
    have h1 : some (f x).1 = some a := h1
    have h2 : some (f x).2 = some b := h2
    show some (f x) = some (a, b)
    rw [← Option.some.inj h1, ← Option.some.inj h2]
theorem runO (w : World) : (HandSHeadRun.wholeF (fun p => HandSHeadRun.stepQ (HandSHeadRun.denQ HandSHeadRun.tabQ) p w) HandSHeadRun.fenceQ 14000 Rw.prog).map (fun x => ob x.2) = some (hk.val w) := map2 (runO1 w) (runO2 w)
theorem run (w : World) : HandSHeadRun.RunEqI Rw qv hk ob 14000 headNames w := by
  unfold HandSHeadRun.RunEqI
  exact map3 (runL w) (runS w) (runO w)
end RK17

local macro_rules | `(tactic| walk_at "at") => `(tactic| first | assumption | exact L2.upd_same | ((refine RK.Same.at (by assumption) ?_); walk_at "at") | ((refine RK.SameT.tup (RK.Grown.same (by assumption)) ?_); walk_at "at"))
local macro_rules | `(tactic| walk_at "s") => `(tactic| first
  | with_reducible refine RK.w_seq ?_
  | with_reducible refine RK.w_asg ?_
  | with_reducible refine RK.w_gn ?_
  | with_reducible refine RK.w_if ?_
  | with_reducible refine RK.w_ret ?_
  | with_reducible refine RK.w_next ?_
  | with_reducible refine RK.w_drop ?_
  | with_reducible refine RK.w_par ?_
  | with_reducible refine RK.w_two ?_
  | with_reducible refine RK.w_test ?_
  | with_reducible refine RK.w_tB ?_
  | with_reducible refine RK.w_bl ?_
  | with_reducible refine RK.w_not ?_
  | with_reducible refine RK.w_and ?_
  | with_reducible refine RK.w_or ?_
  | ((with_reducible refine' RK.w_var ?hv ?_); (case hv => exact rfl))
  | with_reducible refine RK.w_c ?_
  | with_reducible refine RK.w_op ?_
  | with_reducible refine RK.w_un ?_
  | with_reducible refine RK.w_I0 ?_
  | with_reducible refine RK.w_U ?_
  | with_reducible refine RK.w_nil ?_
  | with_reducible refine RK.w_cons ?_
  | with_reducible refine RK.w_andV ?_
  | with_reducible refine RK.w_orV ?_
  | with_reducible refine RK.w_notV ?_
  | with_reducible refine RK.w_CB ?_
  | with_reducible refine RK.w_call ?_
  | with_reducible refine RK.w_tup ?_
  | with_reducible refine RK.w_lst ?_
  | with_reducible refine RK.w_sub ?_
  | with_reducible refine RK.w_sfld ?_
  | with_reducible refine RK.w_meth ?_
  | with_reducible refine RK.w_methK ?_
  | with_reducible refine RK.w_make ?_
  | with_reducible refine RK.w_makeK ?_
  | with_reducible refine RK.w_BM ?_
  | with_reducible refine RK.w_sl ?_
  | with_reducible refine RK.w_po ?_
  | with_reducible refine RK.w_pt ?_
  | with_reducible refine RK.w_in ?_
  | with_reducible refine RK.w_fld ?_
  | with_reducible refine RK.w_forJ ?_
  | with_reducible refine RK.w_cm ?_
  | with_reducible refine RK.w_dget1 ?_
  | with_reducible refine RK.w_dget ?_
  | with_reducible refine RK.w_dc ?_
  | with_reducible refine RK.w_iStr ?_
  | with_reducible refine RK.w_iTup ?_
  | with_reducible refine RK.w_iList ?_
  | with_reducible refine RK.w_iEnumT ?_
  | with_reducible refine RK.w_iZipS ?_
  | with_reducible refine RK.w_iRng1 ?_
  | with_reducible refine RK.w_chain ?_
  | with_reducible refine RK.w_retN ?_
  | with_reducible refine RK.w_yes ?_
  | with_reducible refine RK.w_int ?_
  | with_reducible refine RK.w_intB ?_
  | with_reducible refine RK.w_abs ?_
  | with_reducible refine RK.w_max ?_
  | with_reducible refine RK.w_min ?_
  | with_reducible refine RK.w_gcd ?_
  | ((with_reducible refine RK.w_I ?hc ?_); (case hc => first | assumption | (show _ < _; omega) | exact RK.Sz.ok (by assumption) (by assumption) | exact RK.Sz.div (by assumption) (by assumption) | (show _ ∧ _; omega) | (show _ ∨ _; omega) | exact ⟨by decide, by decide, by decide⟩))
  | ((with_reducible refine' RK.w_ixL ?hh ?hi ?_); (case hh => walk_at "at"); (case hi => exact rfl))
  | ((with_reducible refine' RK.w_ixT ?hh ?hi ?_); (case hh => walk_at "at"); (case hi => exact rfl))
  | ((with_reducible refine' RK.w_setL ?hh ?hi ?_); (case hh => walk_at "at"); (case hi => exact rfl))
  | ((with_reducible refine RK.w_eq ?hh ?_); (case hh => exact rfl))
  | ((with_reducible refine RK.w_ne ?hh ?_); (case hh => exact rfl)))
local macro_rules | `(tactic| walk_at "r") => `(tactic| repeat walk_at "s")

namespace RK17
open PySem PySem.Spec L2 RK RZ StX PyProof.Rows
/-! ### kinds of values, of right ones -/
section
variable {P : Program} {w : World} {K : PySem.W.Frag} {mg : Str → Option Value} {base : Heap} {a : Ad}
def spWhole : Sp := fun vs H Q _ => ∃ i, vs = [.int i] ∧ Q (.bl true) H
theorem ok_is_whole (T : Txt K mg a) : FnOk P w K mg base CX0 1 a.f_is_whole a.d_is_whole ["value"] spWhole := by
  refine T.F_is_whole.ok sc_is_whole (fun vs H Q E h => ?_) (fun cdv A outer s H vs Q E hr h => ?_)
  · obtain ⟨i, rfl, _⟩ := h
    rfl
  · obtain ⟨i, rfl, k⟩ := h
    refine ⟨_, (pss_one (ps_ret (pe_and (pe_callB call_isi (by rfl) T.z_isinstance (by decide +kernel) (pa_cons (pv 0) (pa_cons (pe_bltn (v := .ty "int") (by rfl) T.z_int (by decide +kernel) rfl) pa_nil))) (pe_one (pe_not (pe_callB call_isi (by rfl) T.z_isinstance (by decide +kernel) (pa_cons (pv 0) (pa_cons (pe_bltn (v := .ty "bool") (by rfl) T.z_bool (by decide +kernel) rfl) pa_nil)))))))), ?_⟩
    walk_at "r"
    refine ⟨.int i, .ty "int", .type "int", .type "int", true, rfl, .ty _, .base (.int _), kit_ty (by decide +kernel), true, rfl, iteT ?_⟩
    walk_at "r"
    refine ⟨.int i, .ty "bool", .type "int", .type "bool", false, rfl, .ty _, .base (.int _), kit_ty (by decide +kernel), ?_⟩
    walk_at "r"
    exact k
def spNumber : Sp := fun vs H Q _ => ∃ i : Int, vs = [.int i] ∧ 0 ≤ i ∧ Q (.bl true) H
theorem ok_is_number (T : Txt K mg a) : FnOk P w K mg base CX0 2 a.f_is_number a.d_is_number ["value"] spNumber := by
  refine T.F_is_number.ok sc_is_number (fun vs H Q E h => ?_) (fun cdv A outer s H vs Q E hr h => ?_)
  · obtain ⟨i, rfl, _⟩ := h
    rfl
  · obtain ⟨i, rfl, h0, k⟩ := h
    refine ⟨_, (pss_one (ps_ret (pe_and (pe_call (ok_is_whole T) (hr.mono (by decide)) (by rfl) T.m_is_whole T.F_is_whole.kp T.b_is_whole .nil pass0 (pa_cons (pv 0) pa_nil)) (pe_one (pe_cmpR op_ge (pv 0) pe_int (nomark _)))))), ?_⟩
    walk_at "r"
    refine ⟨i, rfl, true, rfl, iteT ?_⟩
    walk_at "r"
    show Q (.bl (decide (0 ≤ i))) H
    rw [decide_eq_true h0]
    exact k
def spLetter : Sp := fun vs H Q _ => ∃ s c, vs = [.str s] ∧ Sgn 97 122 s c ∧ Q (.bl true) H
theorem ok_is_small_letter (T : Txt K mg a) : FnOk P w K mg base CX0 1 a.f_is_small_letter a.d_is_small_letter ["value"] spLetter := by
  refine T.F_is_small_letter.ok sc_is_small_letter (fun vs H Q E h => ?_) (fun cdv A outer s H vs Q E hr h => ?_)
  · obtain ⟨s, c, rfl, _⟩ := h
    rfl
  · obtain ⟨s, c, rfl, ⟨rfl, h1, h2⟩, k⟩ := h
    refine ⟨_, (pss_one (ps_ret (pe_and (pe_callB call_isi (by rfl) T.z_isinstance (by decide +kernel) (pa_cons (pv 0) (pa_cons (pe_bltn (v := .ty "str") (by rfl) T.z_str (by decide +kernel) rfl) pa_nil))) (pe_and (pe_cmpR op_eq (pe_callB cr_len (by rfl) T.z_len PySem.boot_len (pa_cons (pv 0) pa_nil)) pe_int (nomark _)) (pe_one (pe_chain op_le_str op_le_str pe_str (pv 0) pe_str)))))), ?_⟩
    walk_at "r"
    refine ⟨.str ⟨#[c]⟩, .ty "str", .type "str", .type "str", true, rfl, .ty _, .base (.str _), kit_ty (by decide +kernel), true, rfl, iteT ?_⟩
    walk_at "r"
    refine ⟨.str ⟨#[c]⟩, _, rfl, ⟨by show 1 ≤ sizeLine; decide, rfl⟩, ?_⟩
    walk_at "r"
    rw [if_pos (by rfl)]
    refine w_c ?_
    walk_at "r"
    refine ⟨"a", ⟨#[c]⟩, rfl, rfl, ?_⟩
    rw [show (("a" : Str)).cps.toList = [97] from by decide +kernel]
    show ∃ k, V.bl (!decide (([c] : List Nat) < [97])) = .bl k ∧ _
    rw [lt1, decide_eq_false (by omega)]
    refine ⟨true, rfl, iteT ?_⟩
    walk_at "r"
    refine ⟨⟨#[c]⟩, "z", rfl, rfl, ?_⟩
    rw [show (("z" : Str)).cps.toList = [122] from by decide +kernel]
    show Q (.bl (!decide (([122] : List Nat) < [c]))) H
    rw [lt1, decide_eq_false (by omega)]
    exact k
def spCapital : Sp := fun vs H Q _ => ∃ s c, vs = [.str s] ∧ Sgn 65 90 s c ∧ Q (.bl true) H
theorem ok_is_capital (T : Txt K mg a) : FnOk P w K mg base CX0 1 a.f_is_capital a.d_is_capital ["value"] spCapital := by
  refine T.F_is_capital.ok sc_is_capital (fun vs H Q E h => ?_) (fun cdv A outer s H vs Q E hr h => ?_)
  · obtain ⟨s, c, rfl, _⟩ := h
    rfl
  · obtain ⟨s, c, rfl, ⟨rfl, h1, h2⟩, k⟩ := h
    refine ⟨_, (pss_one (ps_ret (pe_and (pe_callB call_isi (by rfl) T.z_isinstance (by decide +kernel) (pa_cons (pv 0) (pa_cons (pe_bltn (v := .ty "str") (by rfl) T.z_str (by decide +kernel) rfl) pa_nil))) (pe_and (pe_cmpR op_eq (pe_callB cr_len (by rfl) T.z_len PySem.boot_len (pa_cons (pv 0) pa_nil)) pe_int (nomark _)) (pe_one (pe_chain op_le_str op_le_str pe_str (pv 0) pe_str)))))), ?_⟩
    walk_at "r"
    refine ⟨.str ⟨#[c]⟩, .ty "str", .type "str", .type "str", true, rfl, .ty _, .base (.str _), kit_ty (by decide +kernel), true, rfl, iteT ?_⟩
    walk_at "r"
    refine ⟨.str ⟨#[c]⟩, _, rfl, ⟨by show 1 ≤ sizeLine; decide, rfl⟩, ?_⟩
    walk_at "r"
    rw [if_pos (by rfl)]
    refine w_c ?_
    walk_at "r"
    refine ⟨"A", ⟨#[c]⟩, rfl, rfl, ?_⟩
    rw [show (("A" : Str)).cps.toList = [65] from by decide +kernel]
    show ∃ k, V.bl (!decide (([c] : List Nat) < [65])) = .bl k ∧ _
    rw [lt1, decide_eq_false (by omega)]
    refine ⟨true, rfl, iteT ?_⟩
    walk_at "r"
    refine ⟨⟨#[c]⟩, "Z", rfl, rfl, ?_⟩
    rw [show (("Z" : Str)).cps.toList = [90] from by decide +kernel]
    show Q (.bl (!decide (([90] : List Nat) < [c]))) H
    rw [lt1, decide_eq_false (by omega)]
    exact k
def spWord : Sp := fun vs H Q _ => ∃ s, vs = [.str s] ∧ Word s ∧ ∀ H', Same H H' → Q (.bl true) H'
theorem ok_is_word (T : Txt K mg a) : FnOk P w K mg base CX0 2 a.f_is_word a.d_is_word ["value"] spWord := by
  refine T.F_is_word.ok sc_is_word (fun vs H Q E h => ?_) (fun cdv A outer s H vs Q E hr h => ?_)
  · obtain ⟨s, rfl, _⟩ := h
    rfl
  · obtain ⟨s, rfl, ⟨h2, h8, hl⟩, k⟩ := h
    refine ⟨_, (pss_one (ps_ret (pe_and (pe_callB call_isi (by rfl) T.z_isinstance (by decide +kernel) (pa_cons (pv 0) (pa_cons (pe_bltn (v := .ty "str") (by rfl) T.z_str (by decide +kernel) rfl) pa_nil))) (pe_and (pe_chain op_le op_le pe_int (pe_callB cr_len (by rfl) T.z_len PySem.boot_len (pa_cons (pv 0) pa_nil)) pe_int) (pe_one (pe_callB (cr_all rfl) (by rfl) T.z_all (by decide +kernel) (pa_cons (pe_lc (own := [("sign", 1)]) (g := gName 1) (tt := tYes) rfl sc_is_word.nd (pi_str (pv 0)) (blkOk_by (own := [("sign", 1)]) (N := ["value", "sign"]) (sc := defScope s_is_word) (by decide +kernel)) (fun _ _ _ _ _ => pg_name (i := 1) sc_is_word.nd rfl (Or.inl rfl)) (fun _ _ _ _ _ => pts_nil) (fun _ _ _ _ _ => by exact (pe_call (ok_is_small_letter T) (hr.mono (by decide)) (by rfl) T.m_is_small_letter T.F_is_small_letter.kp T.b_is_small_letter .nil pass0 (pa_cons (pv 1) pa_nil)))) pa_nil))))))), ?_⟩
    walk_at "r"
    refine ⟨.str s, .ty "str", .type "str", .type "str", true, rfl, .ty _, .base (.str _), kit_ty (by decide +kernel), true, rfl, iteT ?_⟩
    walk_at "r"
    refine w_lenS (by omega) ?_
    walk_at "r"
    rw [decide_eq_true (show (2 : Int) ≤ (s.cps.size : Nat) by omega)]
    refine iteT ?_
    walk_at "r"
    rw [decide_eq_true (show ((s.cps.size : Nat) : Int) ≤ 8 by omega)]
    refine iteT ?_
    walk_at "r"
    refine ⟨s, rfl, cmS walk_str (by omega) (fun _ _ => trivial) (fun _ v _ => v = .bl true) (fun _ _ _ _ _ h => h) (fun i x H1 H2 hi e hy Q' kq => ?_) (fun D zs H1 n1 e1 h1 _ hP => ?_)⟩
    · obtain ⟨rfl, c, hc, rfl⟩ := hy
      refine ⟨rfl, ?_⟩
      walk_at "r"
      obtain ⟨l1, l2⟩ := hl c (Array.mem_toList_iff.mpr (Array.mem_of_getElem? hc))
      exact ⟨_, c, rfl, ⟨rfl, l1, l2⟩, kq _ _ (w_same _) rfl⟩
    walk_at "r"
    exact all_P h1 hP (k _ e1)
/-- so many items -/
def spRow (K : PySem.W.Frag) : Sp := fun vs H Q _ => ∃ t xs lo hi, vs = [.ref t, .int lo, .int hi] ∧ SqT K H t xs ∧ lo ≤ (xs.length : Int) ∧ (xs.length : Int) ≤ hi ∧ Q (.bl true) H
theorem ok_is_row (T : Txt K mg a) : FnOk P w K mg base CX0 1 a.f_is_row a.d_is_row ["value", "least", "most"] (spRow K) := by
  refine T.F_is_row.ok sc_is_row (fun vs H Q E h => ?_) (fun cdv A outer s H vs Q E hr h => ?_)
  · obtain ⟨t, xs, lo, hi, rfl, _⟩ := h
    rfl
  · obtain ⟨t, xs, lo, hi, rfl, ht, h1, h2, k⟩ := h
    refine ⟨_, (pss_one (ps_ret (pe_and (pe_callB call_isi (by rfl) T.z_isinstance (by decide +kernel) (pa_cons (pv 0) (pa_cons (pe_bltn (v := .ty "tuple") (by rfl) T.z_tuple (by decide +kernel) rfl) pa_nil))) (pe_one (pe_chain op_le op_le (pv 1) (pe_callB cr_len (by rfl) T.z_len PySem.boot_len (pa_cons (pv 0) pa_nil)) (pv 2)))))), ?_⟩
    walk_at "r"
    refine ⟨.ref t, .ty "tuple", .type "tuple", .type "tuple", true, rfl, .ty _, tyT ht, kit_ty (by decide +kernel), true, rfl, iteT ?_⟩
    walk_at "r"
    refine w_lenT ht ?_
    walk_at "r"
    rw [decide_eq_true h1]
    refine iteT ?_
    walk_at "r"
    show Q (.bl (decide ((xs.length : Int) ≤ hi))) H
    rw [decide_eq_true h2]
    exact k
theorem row_leaf {H : Hp} {Q : VK} {E : XK} {t : Addr} {xs : List V} {lo hi : Int} (ht : SqT K H t xs) (h1 : lo ≤ (xs.length : Int)) (h2 : (xs.length : Int) ≤ hi) (k : Q (.bl true) H) : spRow K [.ref t, .int lo, .int hi] H Q E := ⟨t, xs, lo, hi, rfl, ht, h1, h2, k⟩
/-- the signs rise -/
def Rise (s : Str) : Prop := ∀ (i c d : Nat), s.cps[i]? = some c → s.cps[i + 1]? = some d → c < d
def spRising : Sp := fun vs H Q _ => ∃ s, vs = [.str s] ∧ s.cps.size ≤ 100 ∧ Rise s ∧ ∀ H', Same H H' → Q (.bl true) H'
theorem ok_is_rising (T : Txt K mg a) : FnOk P w K mg base CX0 1 a.f_is_rising a.d_is_rising ["signs"] spRising := by
  refine T.F_is_rising.ok sc_is_rising (fun vs H Q E h => ?_) (fun cdv A outer s H vs Q E hr h => ?_)
  · obtain ⟨s, rfl, _⟩ := h
    rfl
  · obtain ⟨s, rfl, hs, up, k⟩ := h
    refine ⟨_, (pss_one (ps_ret (pe_callB (cr_all rfl) (by rfl) T.z_all (by decide +kernel) (pa_cons (pe_lc (own := [("one", 1), ("other", 2)]) (g := gTup K 2 (gCons (gName 1) (gCons (gName 2) (gNil)))) (tt := tYes) rfl sc_is_rising.nd (pi_zipS (by rfl) T.z_zip (pa_cons (pv 0) (pa_cons (pe_slice sl_str (pv 0) (po_some pe_int) po_none) pa_nil))) (blkOk_by (own := [("one", 1), ("other", 2)]) (N := ["signs", "one", "other"]) (sc := defScope s_is_rising) (by decide +kernel)) (fun _ _ _ _ _ => by exact pg_tup (n := 2) rfl (pgs_cons (pg_name (i := 1) sc_is_rising.nd rfl (Or.inl rfl)) (pgs_cons (pg_name (i := 2) sc_is_rising.nd rfl (Or.inl rfl)) pgs_nil))) (fun _ _ _ _ _ => pts_nil) (fun _ _ _ _ _ => by exact (pe_cmpR op_lt_str (pv 1) (pv 2) (nomark _)))) pa_nil)))), ?_⟩
    walk_at "r"
    refine ⟨s, rfl, Nat.le_trans hs (by decide), s, _, rfl, cmS walk_zipS (by omega) (fun _ _ => trivial) (fun _ v _ => v = .bl true) (fun _ _ _ _ _ h => h) (fun i x H1 H2 hi e hy Q' kq => ?_) (fun D zs H1 n1 e1 h1 _ hP => ?_)⟩
    · obtain ⟨p, x, y, rfl, np, rfl, hx, hy⟩ := hy
      obtain ⟨c, hc, rfl⟩ := Option.map_eq_some_iff.mp hx
      obtain ⟨d, hd, rfl⟩ := Option.map_eq_some_iff.mp hy
      rw [cutS1_at] at hd
      refine g_two upd_same ⟨rfl, ?_⟩
      walk_at "r"
      refine ⟨_, _, rfl, rfl, ?_⟩
      show Q' (.bl (decide (([c] : List Nat) < [d]))) _
      rw [lt1, decide_eq_true (up i c d hc hd)]
      exact kq _ _ (w_new np) rfl
    walk_at "r"
    exact all_P h1 hP (k _ e1)
/-- one to m capital letters, each above the one before -/
structure Caps (s : Str) : Prop where
  one : 1 ≤ s.cps.size
  few : s.cps.size ≤ 4
  cap : ∀ c ∈ s.cps.toList, 65 ≤ c ∧ c ≤ 90
  up : Rise s
def spCaps : Sp := fun vs H Q _ => ∃ s, vs = [.str s, .int 4] ∧ Caps s ∧ ∀ H', Same H H' → Q (.bl true) H'
theorem ok_are_capitals (T : Txt K mg a) : FnOk P w K mg base CX0 2 a.f_are_capitals a.d_are_capitals ["value", "most"] spCaps := by
  refine T.F_are_capitals.ok sc_are_capitals (fun vs H Q E h => ?_) (fun cdv A outer s H vs Q E hr h => ?_)
  · obtain ⟨s, rfl, _⟩ := h
    rfl
  · obtain ⟨s, rfl, hs, k⟩ := h
    have h1 := hs.one
    have h4 := hs.few
    refine ⟨_, (pss_cons (ps_if (PW.pt (pw_or (pt_not (pt_val (pe_callB call_isi (by rfl) T.z_isinstance (by decide +kernel) (pa_cons (pv 0) (pa_cons (pe_bltn (v := .ty "str") (by rfl) T.z_str (by decide +kernel) rfl) pa_nil))))) (pw_or1 (pt_not (pt_chain op_le op_le pe_int (pe_callB cr_len (by rfl) T.z_len PySem.boot_len (pa_cons (pv 0) pa_nil)) (pv 1)))))) (pss_one (ps_ret pe_bl)) pss_nil)
      (pss_one (ps_ret (pe_and (pe_callB (cr_all rfl) (by rfl) T.z_all (by decide +kernel) (pa_cons (pe_lc (own := [("sign", 2)]) (g := gName 2) (tt := tYes) rfl sc_are_capitals.nd (pi_str (pv 0)) (blkOk_by (own := [("sign", 2)]) (N := ["value", "most", "sign"]) (sc := defScope s_are_capitals) (by decide +kernel)) (fun _ _ _ _ _ => pg_name (i := 2) sc_are_capitals.nd rfl (Or.inl rfl)) (fun _ _ _ _ _ => pts_nil) (fun _ _ _ _ _ => by exact (pe_call (ok_is_capital T) (hr.mono (by decide)) (by rfl) T.m_is_capital T.F_is_capital.kp T.b_is_capital .nil pass0 (pa_cons (pv 2) pa_nil)))) pa_nil)) (pe_one (pe_call (ok_is_rising T) (hr.mono (by decide)) (by rfl) T.m_is_rising T.F_is_rising.kp T.b_is_rising .nil pass0 (pa_cons (pv 0) pa_nil))))))), ?_⟩
    walk_at "r"
    refine ⟨.str s, .ty "str", .type "str", .type "str", true, rfl, .ty _, .base (.str _), kit_ty (by decide +kernel), true, rfl, iteF ?_⟩
    walk_at "r"
    refine w_lenS (by omega) ?_
    walk_at "r"
    rw [decide_eq_true (show (1 : Int) ≤ (s.cps.size : Nat) by omega)]
    refine iteT ?_
    walk_at "r"
    rw [decide_eq_true (show ((s.cps.size : Nat) : Int) ≤ 4 by omega)]
    refine iteF ?_
    walk_at "r"
    refine ⟨s, rfl, cmS walk_str (by omega) (fun _ _ => trivial) (fun _ v _ => v = .bl true) (fun _ _ _ _ _ h => h) (fun i x H1 H2 hi e hy Q' kq => ?_) (fun D zs H1 n1 e1 h1 _ hP => ?_)⟩
    · obtain ⟨rfl, c, hc, rfl⟩ := hy
      refine ⟨rfl, ?_⟩
      walk_at "r"
      obtain ⟨l1, l2⟩ := hs.cap c (Array.mem_toList_iff.mpr (Array.mem_of_getElem? hc))
      exact ⟨_, c, rfl, ⟨rfl, l1, l2⟩, kq _ _ (w_same _) rfl⟩
    walk_at "r"
    refine all_P h1 hP ⟨true, rfl, iteT ?_⟩
    walk_at "r"
    exact ⟨s, rfl, by omega, hs.up, fun H2 e2 => k _ (e1.trans e2)⟩
/-- one of some texts in a tuple -/
def spOneOf (K : PySem.W.Frag) : Sp := fun vs H Q _ => ∃ (s : Str) (t : Addr) (xs : List Str), vs = [.str s, .ref t] ∧ SqT K H t (xs.map V.str) ∧ ∀ H', Same H H' → Q (.bl (decide (s ∈ xs))) H'
theorem ok_is_one_of (T : Txt K mg a) : FnOk P w K mg base CX0 1 a.f_is_one_of a.d_is_one_of ["value", "strings"] (spOneOf K) := by
  refine T.F_is_one_of.ok sc_is_one_of (fun vs H Q E h => ?_) (fun cdv A outer s H vs Q E hr h => ?_)
  · obtain ⟨s, t, xs, rfl, _⟩ := h
    rfl
  · obtain ⟨s, t, xs, rfl, ht, k⟩ := h
    refine ⟨_, (pss_one (ps_ret (pe_and (pe_callB call_isi (by rfl) T.z_isinstance (by decide +kernel) (pa_cons (pv 0) (pa_cons (pe_bltn (v := .ty "str") (by rfl) T.z_str (by decide +kernel) rfl) pa_nil))) (pe_one (pe_cmpR op_in_seq (pv 0) (pe_callTy call_list_of (by rfl) T.z_list (by decide +kernel) (pa_cons (pv 1) pa_nil)) (by rfl)))))), ?_⟩
    walk_at "r"
    refine ⟨.str s, .ty "str", .type "str", .type "str", true, rfl, .ty _, .base (.str _), kit_ty (by decide +kernel), true, rfl, iteT ?_⟩
    walk_at "r"
    refine ⟨t, _, rfl, .inr ht, fun l nl => ?_⟩
    walk_at "r"
    exact in_leaf (.inl (SqL.of upd_same)) (k _ (w_new nl))
theorem oneOf_leaf {H : Hp} {Q : VK} {E : XK} {s : Str} {t : Addr} {xs : List Str} (ht : SqT K H t (xs.map V.str)) (k : ∀ H', Same H H' → Q (.bl (decide (s ∈ xs))) H') : spOneOf K [.str s, .ref t] H Q E := ⟨s, t, xs, rfl, ht, k⟩
/-- one of a text's signs -/
def spOneOfS : Sp := fun vs H Q _ => ∃ (c : Nat) (s : Str), vs = [.str ⟨#[c]⟩, .str s] ∧ s.cps.size ≤ 100 ∧ ∀ H', Same H H' → Q (.bl (decide (c ∈ s.cps.toList))) H'
theorem ok_is_one_ofS (T : Txt K mg a) : FnOk P w K mg base CX0 1 a.f_is_one_of a.d_is_one_of ["value", "strings"] spOneOfS := by
  refine T.F_is_one_of.ok sc_is_one_of (fun vs H Q E h => ?_) (fun cdv A outer s H vs Q E hr h => ?_)
  · obtain ⟨c, s, rfl, _⟩ := h
    rfl
  · obtain ⟨c, s, rfl, hs, k⟩ := h
    refine ⟨_, (pss_one (ps_ret (pe_and (pe_callB call_isi (by rfl) T.z_isinstance (by decide +kernel) (pa_cons (pv 0) (pa_cons (pe_bltn (v := .ty "str") (by rfl) T.z_str (by decide +kernel) rfl) pa_nil))) (pe_one (pe_cmpR op_in_seq (pv 0) (pe_callTy (cr_listS rfl) (by rfl) T.z_list (by decide +kernel) (pa_cons (pv 1) pa_nil)) (by rfl)))))), ?_⟩
    walk_at "r"
    refine ⟨.str ⟨#[c]⟩, .ty "str", .type "str", .type "str", true, rfl, .ty _, .base (.str _), kit_ty (by decide +kernel), true, rfl, iteT ?_⟩
    walk_at "r"
    refine ⟨s, rfl, by omega, fun l nl => ?_⟩
    walk_at "r"
    have e : (s.cps.toList.map fun c => V.str ⟨#[c]⟩) = (s.cps.toList.map fun c => (⟨#[c]⟩ : Str)).map V.str := by rw [List.map_map]; rfl
    refine in_leaf (xs := s.cps.toList.map fun c => (⟨#[c]⟩ : Str)) (.inl (SqL.of (by rw [upd_same, e]))) ?_
    have q : decide ((⟨#[c]⟩ : Str) ∈ s.cps.toList.map fun c => (⟨#[c]⟩ : Str)) = decide (c ∈ s.cps.toList) := by
      rw [Bool.eq_iff_iff, decide_eq_true_eq, decide_eq_true_eq, List.mem_map]
      refine ⟨fun ⟨d, hd, z⟩ => ?_, fun h => ⟨c, h, rfl⟩⟩
      have z : d = c := by simpa using z
      rw [← z]
      exact hd
    rw [q]
    exact k _ (w_new nl)
theorem oneOfS_leaf {H : Hp} {Q : VK} {E : XK} {c : Nat} {s : Str} (hs : s.cps.size ≤ 100) (k : ∀ H', Same H H' → Q (.bl (decide (c ∈ s.cps.toList))) H') : spOneOfS [.str ⟨#[c]⟩, .str s] H Q E := ⟨c, s, rfl, hs, k⟩
end
end RK17


namespace RK17
open PySem PySem.Spec L2 RK RZ StX PyProof.Rows
/-! ### parts, ties, strings of right puppets -/
abbrev Tie3 := Str × Str × Int
def tieV (t : Tie3) : List V := [.str t.1, .str t.2.1, .int t.2.2]
abbrev Ln3 := Str × Str × Str
def lnV (s : Ln3) : List V := [.str s.1, .str s.2.1, .str s.2.2]
structure GoodParts (ps : List Str) : Prop where
  one : 1 ≤ ps.length
  few : ps.length ≤ 6
  word : ∀ p ∈ ps, Word p
  nd : ps.Nodup
def Meet (t u : Tie3) : Prop := (t.1 = u.1 ∧ t.2.1 = u.2.1) ∨ (t.1 = u.2.1 ∧ t.2.1 = u.1)
structure GoodTies (ps : List Str) (es : List Tie3) : Prop where
  few : es.length ≤ 10
  in1 : ∀ t ∈ es, t.1 ∈ ps
  in2 : ∀ t ∈ es, t.2.1 ∈ ps
  ne : ∀ t ∈ es, t.1 ≠ t.2.1
  pos : ∀ t ∈ es, 0 ≤ t.2.2
  most : ∀ t ∈ es, t.2.2 ≤ 1000000
  apart : es.Pairwise fun t u => ¬ Meet t u
structure GoodLns (ps : List Str) (hk : Str) (ls : List Ln3) : Prop where
  one : 1 ≤ ls.length
  few : ls.length ≤ 6
  let_ : ∀ s ∈ ls, ∃ c, Sgn 97 122 s.1 c
  hook : ∀ s ∈ ls, ∃ d, s.2.1 = ⟨#[d]⟩ ∧ d ∈ hk.cps.toList
  part : ∀ s ∈ ls, s.2.2 ∈ ps
  up : ∀ (i : Nat) (s u : Ln3), ls[i]? = some s → ls[i + 1]? = some u → s.1.cps.toList < u.1.cps.toList
section
variable {P : Program} {w : World} {K : PySem.W.Frag} {mg : Str → Option Value} {base : Heap} {a : Ad}
theorem cut_take (xs : List V) (i : Nat) (h : i ≤ xs.length) : cutV xs none (some ((i : Nat) : Int)) = xs.take i := by
  unfold cutV
  rw [HT.sIx_nat, HT.sIx_none, List.drop_zero, Nat.sub_zero, Nat.min_eq_left h]
theorem not_whole (xs : List V) (i : Nat) (h : i < xs.length) : ¬ (HT.sIx xs.length 0 none = 0 ∧ HT.sIx xs.length xs.length (some ((i : Nat) : Int)) = xs.length) := fun z => by
  have := z.2
  rw [HT.sIx_nat, Nat.min_eq_left (Nat.le_of_lt h)] at this
  omega
theorem nd_take {ps : List Str} (nd : ps.Nodup) {i : Nat} {p : Str} (h : ps[i]? = some p) : p ∉ ps.take i := fun hin => by
  have tk : ps.take (i + 1) = ps.take i ++ [p] := by rw [List.take_succ, h]; rfl
  have n2 : (ps.take (i + 1)).Nodup := nd.sublist (List.take_sublist _ _)
  rw [tk, List.nodup_append] at n2
  exact n2.2.2 p hin p List.mem_cons_self rfl
theorem map_at {α : Type} {f : α → V} {l : List α} {i : Nat} {x : V} (h : (l.map f)[i]? = some x) : ∃ p, l[i]? = some p ∧ x = f p := by
  rw [List.getElem?_map] at h
  cases e : l[i]? with
  | none => rw [e] at h; cases h
  | some p => rw [e] at h; exact ⟨p, rfl, (Option.some.inj h).symm⟩
theorem map_atL {α : Type} {f : α → List V} {l : List α} {i : Nat} {x : List V} (h : (l.map f)[i]? = some x) : ∃ p, l[i]? = some p ∧ f p = x := by
  rw [List.getElem?_map] at h
  cases e : l[i]? with
  | none => rw [e] at h; cases h
  | some p => rw [e] at h; exact ⟨p, rfl, Option.some.inj h⟩
def spCheckParts (K : PySem.W.Frag) : Sp := fun vs H Q _ => ∃ (t : Addr) (ps : List Str), vs = [.ref t] ∧ SqT K H t (ps.map V.str) ∧ GoodParts ps ∧ ∀ H', Same H H' → Q .non H'
theorem ok_check_parts (T : Txt K mg a) : FnOk P w K mg base CX0 3 a.f_check_parts a.d_check_parts ["parts"] (spCheckParts K) := by
  refine T.F_check_parts.ok sc_check_parts (fun vs H Q E h => ?_) (fun cdv A outer s H vs Q E hr h => ?_)
  · obtain ⟨t, ps, rfl, _⟩ := h
    rfl
  · obtain ⟨t, ps, rfl, ht, g, k⟩ := h
    have g1 := g.one
    have g6 := g.few
    refine ⟨_, (pss_cons (ps_if (pt_not (pt_val (pe_call (ok_is_row T) (hr.mono (by decide)) (by rfl) T.m_is_row T.F_is_row.kp T.b_is_row .nil pass0 (pa_cons (pv 0) (pa_cons pe_int (pa_cons (pe_glob (v := .int 6) rfl T.m_MOST_PARTS ⟨_, rfl⟩) pa_nil)))))) (pss_one ps_never) pss_nil)
      (pss_one (ps_for PassesOwn.never rfl (pi_enumT (by rfl) T.z_enumerate (pa_cons (pv 0) pa_nil)) (pg_tup rfl (pgs_cons (pg_name (i := 1) sc_check_parts.nd rfl (Or.inl rfl)) (pgs_cons (pg_name (i := 2) sc_check_parts.nd rfl (Or.inl rfl)) pgs_nil))) (pss_one (ps_if (PW.pt (pw_or (pt_not (pt_val (pe_call (ok_is_word T) (hr.mono (by decide)) (by rfl) T.m_is_word T.F_is_word.kp T.b_is_word .nil pass0 (pa_cons (pv 2) pa_nil)))) (pw_or1 (pt_cmpR op_in_seq (pv 2) (pe_slice sl_tup (pv 0) po_none (po_some (pv 1))) (by rfl))))) (pss_one ps_never) pss_nil))))), ?_⟩
    walk_at "r"
    refine row_leaf ht (by rw [List.length_map]; omega) (by rw [List.length_map]; omega) ?_
    refine ⟨true, rfl, iteF ?_⟩
    walk_at "r"
    refine ⟨t, _, rfl, ht, for_leaf walk_enumT (fun i σ' G => Same H G ∧ ∃ v1 v2 : Option V, σ' = [some (.ref t), v1, v2]) ⟨w_same _, _, _, rfl⟩ (fun i σ' G _ ⟨e, _⟩ => seqT_same e ht) ?_ ?_⟩
    · rintro i x σ' G G' hi ⟨e, v1, v2, rfl⟩ ⟨T', y, z, rfl, nT, rfl, hy, hz⟩
      cases hy
      obtain ⟨p, hp, rfl⟩ := map_at hz
      have mp := List.mem_of_getElem? hp
      refine g_two upd_same ?_
      have e1 := e.trans (w_new (o := .tup [.int (i : Nat), .str p]) nT)
      generalize upd G T' (.tup [.int (i : Nat), .str p]) = G1 at e1 ⊢
      walk_at "r"
      refine ⟨p, rfl, g.word p mp, fun G2 e2 => ?_⟩
      have ht2 := seqT_same (e1.trans e2) ht
      refine ⟨true, rfl, iteF ?_⟩
      walk_at "r"
      refine ⟨t, _, rfl, ht2, not_whole _ i (by rw [List.length_map] at hi ⊢; exact hi), fun q nq => ?_⟩
      rw [cut_take _ i (by rw [List.length_map] at hi ⊢; omega), ← List.map_take]
      refine in_leaf (.inr (SqT.of upd_same)) ?_
      rw [decide_eq_false (nd_take g.nd hp)]
      refine ⟨false, rfl, iteF ?_⟩
      walk_at "r"
      exact ⟨(e1.trans e2).trans (w_new nq), _, _, rfl⟩
    · rintro σ' G ⟨e, _⟩
      exact k G e
/-! ties -/
theorem any_F {Q : VK} {D : Addr} {ys : List V} {H : Hp} (h : H D = some (.lst ys)) (hP : ∀ (i : Nat) (v : V), ys[i]? = some v → v = .bl false) (q : Q (.bl false) H) : rAny K [.ref D] H Q := by
  have e : ys = (List.replicate ys.length false).map V.bl := by
    rw [List.map_replicate]
    exact List.eq_replicate_iff.mpr ⟨rfl, fun b hb => by obtain ⟨i, hi⟩ := List.mem_iff_getElem?.mp hb; exact hP i b hi⟩
  refine ⟨D, List.replicate ys.length false, rfl, by rw [← e]; exact SqL.of h, ?_⟩
  have : (List.replicate ys.length false).any id = false := by
    rw [List.any_eq_false]
    intro x hx
    rw [(List.mem_replicate.mp hx).2]
    decide
  rw [this]
  exact q
theorem dp_two {H : Hp} {p : Addr} {x y : Str} (h : SqT K H p [.str x, .str y]) : Dp K H (.ref p) (.tuple [.str x, .str y]) := .tup h (.cons (.str _) (.cons (.str _) .nil))
theorem word_ok {s : Str} (h : Word s) : PyData.strOk s = true := by
  unfold PyData.strOk
  rw [← Array.all_toList, List.all_eq_true]
  intro c hc
  have := h.2.2 c hc
  exact decide_eq_true (by omega)
def spTied (K : PySem.W.Frag) : Sp := fun vs H Q _ => ∃ (p q : Str) (t : Addr) (es : List Tie3), vs = [.str p, .str q, .ref t] ∧ Word p ∧ Word q ∧ Rws K H t (es.map tieV) ∧ es.length ≤ 10 ∧ (∀ e ∈ es, Word e.1 ∧ Word e.2.1) ∧ (∀ e ∈ es, ¬ Meet e (p, q, 0)) ∧ ∀ H', Same H H' → Q (.bl false) H'
theorem ok_is_tied (T : Txt K mg a) : FnOk P w K mg base CX0 1 a.f_is_tied a.d_is_tied ["part", "other", "ties"] (spTied K) := by
  refine T.F_is_tied.ok sc_is_tied (fun vs H Q E h => ?_) (fun cdv A outer s H vs Q E hr h => ?_)
  · obtain ⟨p, q, t, es, rfl, _⟩ := h
    rfl
  · obtain ⟨p, q, t, es, rfl, wp, wq, ⟨as, ht, hl, hrow⟩, few, we, no, k⟩ := h
    refine ⟨_, (pss_one (ps_ret (pe_callB (cr_any rfl) (by rfl) T.z_any (by decide +kernel) (pa_cons (pe_lc (own := [("one", 3), ("two", 4), ("_", 5)]) (g := gTup K 3 (gCons (gName 3) (gCons (gName 4) (gCons (gName 5) (gNil))))) (tt := tYes) rfl sc_is_tied.nd (pi_tup (pv 2)) (blkOk_by (own := [("one", 3), ("two", 4), ("_", 5)]) (N := ["part", "other", "ties", "one", "two", "_"]) (sc := defScope s_is_tied) (by decide +kernel)) (fun _ _ _ _ _ => by exact pg_tup (n := 3) rfl (pgs_cons (pg_name (i := 3) sc_is_tied.nd rfl (Or.inl rfl)) (pgs_cons (pg_name (i := 4) sc_is_tied.nd rfl (Or.inl rfl)) (pgs_cons (pg_name (i := 5) sc_is_tied.nd rfl (Or.inl rfl)) pgs_nil)))) (fun _ _ _ _ _ => pts_nil) (fun _ _ _ _ _ => by exact (pe_cmpR (show OpR _ _ (rInT K) from op_inT (room65 hr)) (pe_tup (pa_cons (pv 3) (pa_cons (pv 4) pa_nil))) (pe_tup (pa_cons (pe_tup (pa_cons (pv 0) (pa_cons (pv 1) pa_nil))) (pa_cons (pe_tup (pa_cons (pv 1) (pa_cons (pv 0) pa_nil))) pa_nil))) (by rfl)))) pa_nil)))), ?_⟩
    walk_at "r"
    refine ⟨t, rfl, ⟨_, ht⟩, cmS walk_tup (by rw [List.length_map, hl, List.length_map]; omega) (fun G e => seqT_same e ht) (fun _ v _ => v = .bl false) (fun _ _ _ _ _ h => h) (fun i x H1 H2 hi e hy Q' kq => ?_) (fun D zs H1 n1 e1 h1 _ hP => ?_)⟩
    · obtain ⟨rfl, hx⟩ := hy
      obtain ⟨r, u, rfl, hu, hr⟩ := rows_at hl hrow hx
      obtain ⟨e0, he, rfl⟩ : ∃ e0, es[i]? = some e0 ∧ tieV e0 = u := by
        rw [List.getElem?_map] at hu
        cases q : es[i]? with
        | none => rw [q] at hu; cases hu
        | some e0 => rw [q] at hu; exact ⟨e0, rfl, Option.some.inj hu⟩
      have me := List.mem_of_getElem? he
      obtain ⟨w1, w2⟩ := we e0 me
      refine g_three (seqT_same e hr) ⟨rfl, ?_⟩
      walk_at "r"
      refine w_newT (by show 2 ≤ 100000; decide) fun t3 H3 n3 e3 h3 => ?_
      walk_at "r"
      refine w_newT (by show 2 ≤ 100000; decide) fun t4 H4 n4 e4 h4 => ?_
      walk_at "r"
      refine w_newT (by show 2 ≤ 100000; decide) fun t5 H5 n5 e5 h5 => ?_
      walk_at "r"
      refine w_newT (by show 2 ≤ 100000; decide) fun t6 H6 n6 e6 h6 => ?_
      have lay : ∀ x y : Str, Word x → Word y → PyData.canLay0 (.tuple [.str x, .str y]) = true := fun x y hx hy => by
        show (PyData.strOk x && (PyData.strOk y && true)) = true
        rw [word_ok hx, word_ok hy]
        rfl
      refine ⟨.tuple [.str e0.1, .str e0.2.1], [.tuple [.str p, .str q], .tuple [.str q, .str p]], dp_two (SqT.of (e6 _ _ (e5 _ _ (e4 _ _ h3)))), .tup (SqT.of h6) (.cons (dp_two (SqT.of (e6 _ _ (e5 _ _ h4)))) (.cons (dp_two (SqT.of (e6 _ _ h5))) .nil)), ?_, ?_, ?_⟩
      · unfold SeqAt.shaped
        rw [lay _ _ w1 w2]
        rfl
      · unfold SeqAt.shaped
        rw [show PyData.canLay0 (.tuple [.tuple [.str p, .str q], .tuple [.str q, .str p]]) = (PyData.canLay0 (.tuple [.str p, .str q]) && (PyData.canLay0 (.tuple [.str q, .str p]) && true)) from rfl, lay _ _ wp wq, lay _ _ wq wp]
        rfl
      · have n := no e0 me
        have f : (([.tuple [.str p, .str q], .tuple [.str q, .str p]] : List PyData).any fun z => PyData.eqv z (.tuple [.str e0.1, .str e0.2.1])) = false := by
          show (((p == e0.1) && ((q == e0.2.1) && true)) || (((q == e0.1) && ((p == e0.2.1) && true)) || false)) = false
          rw [Bool.eq_false_iff]
          intro z
          simp only [Bool.or_eq_true, Bool.and_eq_true, beq_iff_eq, Bool.false_eq_true, or_false, and_true] at z
          exact n (z.elim (fun z => .inl ⟨z.1.symm, z.2.symm⟩) fun z => .inr ⟨z.1.symm, z.2.symm⟩)
        rw [f]
        exact kq _ _ (((e3.trans e4).trans e5).trans e6) rfl
    walk_at "r"
    exact any_F h1 hP (k _ e1)
def spTie (K : PySem.W.Frag) : Sp := fun vs H Q _ => ∃ (t u : Addr) (e : Tie3) (ps : List Str), vs = [.ref t, .ref u] ∧ SqT K H t (tieV e) ∧ SqT K H u (ps.map V.str) ∧ e.1 ∈ ps ∧ e.2.1 ∈ ps ∧ e.1 ≠ e.2.1 ∧ 0 ≤ e.2.2 ∧ e.2.2 ≤ 1000000 ∧ ∀ H', Same H H' → Q (.bl true) H'
theorem ok_is_tie (T : Txt K mg a) : FnOk P w K mg base CX0 3 a.f_is_tie a.d_is_tie ["value", "parts"] (spTie K) := by
  refine T.F_is_tie.ok sc_is_tie (fun vs H Q E h => ?_) (fun cdv A outer s H vs Q E hr h => ?_)
  · obtain ⟨t, u, e, ps, rfl, _⟩ := h
    rfl
  · obtain ⟨t, u, e, ps, rfl, ht, hu, m1, m2, ne, h0, h6, k⟩ := h
    refine ⟨_, (pss_cons (ps_if (PW.pt (pw_or (pt_not (pt_val (pe_call (ok_is_row T) (hr.mono (by decide)) (by rfl) T.m_is_row T.F_is_row.kp T.b_is_row .nil pass0 (pa_cons (pv 0) (pa_cons pe_int (pa_cons pe_int pa_nil)))))) (pw_or (pt_not (pt_val (pe_call (ok_is_one_of T) (hr.mono (by decide)) (by rfl) T.m_is_one_of T.F_is_one_of.kp T.b_is_one_of .nil pass0 (pa_cons (pe_ix ix_tup (pv 0) pe_int (fun _ _ => rfl)) (pa_cons (pv 1) pa_nil))))) (pw_or1 (pt_not (pt_val (pe_call (ok_is_one_of T) (hr.mono (by decide)) (by rfl) T.m_is_one_of T.F_is_one_of.kp T.b_is_one_of .nil pass0 (pa_cons (pe_ix ix_tup (pv 0) pe_int (fun _ _ => rfl)) (pa_cons (pv 1) pa_nil))))))))) (pss_one (ps_ret pe_bl)) pss_nil)
      (pss_one (ps_ret (pe_and (pe_cmpR op_ne (pe_ix ix_tup (pv 0) pe_int (fun _ _ => rfl)) (pe_ix ix_tup (pv 0) pe_int (fun _ _ => rfl)) (nomark _)) (pe_and (pe_call (ok_is_number T) (hr.mono (by decide)) (by rfl) T.m_is_number T.F_is_number.kp T.b_is_number .nil pass0 (pa_cons (pe_ix ix_tup (pv 0) pe_int (fun _ _ => rfl)) pa_nil)) (pe_one (pe_cmpR op_le (pe_ix ix_tup (pv 0) pe_int (fun _ _ => rfl)) (pe_glob (v := .int 1000000) rfl T.m_MOST_AMOUNT ⟨_, rfl⟩) (nomark _)))))))), ?_⟩
    walk_at "r"
    refine row_leaf ht (by show (3 : Int) ≤ 3; decide) (by show (3 : Int) ≤ 3; decide) ⟨true, rfl, iteF ?_⟩
    walk_at "r"
    refine ⟨t, _, 0, _, rfl, rfl, ht, rfl, ?_⟩
    walk_at "r"
    refine oneOf_leaf hu fun H1 e1 => ?_
    rw [decide_eq_true m1]
    refine ⟨true, rfl, iteF ?_⟩
    walk_at "r"
    refine ⟨t, _, 1, _, rfl, rfl, seqT_same e1 ht, rfl, ?_⟩
    walk_at "r"
    refine oneOf_leaf (seqT_same e1 hu) fun H2 e2 => ?_
    rw [decide_eq_true m2]
    refine ⟨true, rfl, iteF ?_⟩
    have ht2 := seqT_same (e1.trans e2) ht
    walk_at "r"
    refine ⟨t, _, 0, _, rfl, rfl, ht2, rfl, ?_⟩
    walk_at "r"
    refine ⟨t, _, 1, _, rfl, rfl, ht2, rfl, ?_⟩
    walk_at "r"
    refine w_iteN (fun _ => ?_) (fun z => absurd (V.str.inj z) ne)
    walk_at "r"
    refine ⟨t, _, 2, _, rfl, rfl, ht2, rfl, ?_⟩
    walk_at "r"
    refine ⟨e.2.2, rfl, h0, true, rfl, iteT ?_⟩
    walk_at "r"
    refine ⟨t, _, 2, _, rfl, rfl, ht2, rfl, ?_⟩
    walk_at "r"
    show Q (.bl (decide (e.2.2 ≤ 1000000))) H2
    rw [decide_eq_true h6]
    exact k _ (e1.trans e2)
theorem rows_take {H H' : Hp} {as : List Addr} {L : List (List V)} {q : Addr} (hl : as.length = L.length) (h : ∀ (i : Nat) (q : Addr) (u : List V), as[i]? = some q → L[i]? = some u → SqT K H q u) (e : Same H H') (i : Nat) (hq : H' q = some (.tup ((as.take i).map V.ref))) : Rws K H' q (L.take i) :=
  ⟨as.take i, SqT.of hq, by rw [List.length_take, List.length_take, hl], fun j r u a b => by
    rw [List.getElem?_take] at a b
    split at a
    · rename_i lt
      rw [if_pos lt] at b
      exact seqT_same e (h j r u a b)
    · cases a⟩
def spCheckTies (K : PySem.W.Frag) : Sp := fun vs H Q _ => ∃ (t u : Addr) (es : List Tie3) (ps : List Str), vs = [.ref t, .ref u] ∧ Rws K H t (es.map tieV) ∧ SqT K H u (ps.map V.str) ∧ GoodParts ps ∧ GoodTies ps es ∧ ∀ H', Same H H' → Q .non H'
theorem ok_check_ties (T : Txt K mg a) : FnOk P w K mg base CX0 4 a.f_check_ties a.d_check_ties ["ties", "parts"] (spCheckTies K) := by
  refine T.F_check_ties.ok sc_check_ties (fun vs H Q E h => ?_) (fun cdv A outer s H vs Q E hr h => ?_)
  · obtain ⟨t, u, es, ps, rfl, _⟩ := h
    rfl
  · obtain ⟨t, u, es, ps, rfl, ⟨as, ht, hl, hrow⟩, hu, gp, g, k⟩ := h
    have few := g.few
    have hl2 : as.length = es.length := by rw [hl, List.length_map]
    refine ⟨_, (pss_cons (ps_if (pt_not (pt_val (pe_call (ok_is_row T) (hr.mono (by decide)) (by rfl) T.m_is_row T.F_is_row.kp T.b_is_row .nil pass0 (pa_cons (pv 0) (pa_cons pe_int (pa_cons (pe_glob (v := .int 10) rfl T.m_MOST_TIES ⟨_, rfl⟩) pa_nil)))))) (pss_one ps_never) pss_nil)
      (pss_one (ps_for PassesOwn.never rfl (pi_enumT (by rfl) T.z_enumerate (pa_cons (pv 0) pa_nil)) (pg_tup rfl (pgs_cons (pg_name (i := 2) sc_check_ties.nd rfl (Or.inl rfl)) (pgs_cons (pg_name (i := 3) sc_check_ties.nd rfl (Or.inl rfl)) pgs_nil))) (pss_one (ps_if (PW.pt (pw_or (pt_not (pt_val (pe_call (ok_is_tie T) (hr.mono (by decide)) (by rfl) T.m_is_tie T.F_is_tie.kp T.b_is_tie .nil pass0 (pa_cons (pv 3) (pa_cons (pv 1) pa_nil))))) (pw_or1 (pt_val (pe_call (ok_is_tied T) (hr.mono (by decide)) (by rfl) T.m_is_tied T.F_is_tied.kp T.b_is_tied .nil pass0 (pa_cons (pe_ix ix_tup (pv 3) pe_int (fun _ _ => rfl)) (pa_cons (pe_ix ix_tup (pv 3) pe_int (fun _ _ => rfl)) (pa_cons (pe_slice sl_tup (pv 0) po_none (po_some (pv 2))) pa_nil)))))))) (pss_one ps_never) pss_nil))))), ?_⟩
    walk_at "r"
    refine row_leaf ht (by rw [List.length_map]; omega) (by rw [List.length_map]; omega) ?_
    refine ⟨true, rfl, iteF ?_⟩
    walk_at "r"
    refine ⟨t, _, rfl, ht, for_leaf walk_enumT (fun i σ' G => Same H G ∧ ∃ v1 v2 : Option V, σ' = [some (.ref t), some (.ref u), v1, v2]) ⟨w_same _, _, _, rfl⟩ (fun i σ' G _ ⟨e, _⟩ => seqT_same e ht) ?_ ?_⟩
    · rintro i x σ' G G' hi ⟨e, v1, v2, rfl⟩ ⟨T', y, z, rfl, nT, rfl, hy, hz⟩
      cases hy
      obtain ⟨r, v, rfl, hv, hrr⟩ := rows_at hl hrow hz
      obtain ⟨e0, he, rfl⟩ := map_atL hv
      have me := List.mem_of_getElem? he
      refine g_two upd_same ?_
      have e1 := e.trans (w_new (o := .tup [.int (i : Nat), .ref r]) nT)
      generalize upd G T' (.tup [.int (i : Nat), .ref r]) = G1 at e1 ⊢
      walk_at "r"
      refine ⟨r, u, e0, ps, rfl, seqT_same e1 hrr, seqT_same e1 hu, g.in1 _ me, g.in2 _ me, g.ne _ me, g.pos _ me, g.most _ me, fun G2 e2 => ?_⟩
      have e12 := e1.trans e2
      have hr2 := seqT_same e12 hrr
      refine ⟨true, rfl, iteF ?_⟩
      walk_at "r"
      refine ⟨r, _, 0, _, rfl, rfl, hr2, rfl, ?_⟩
      walk_at "r"
      refine ⟨r, _, 1, _, rfl, rfl, hr2, rfl, ?_⟩
      walk_at "r"
      refine ⟨t, _, rfl, seqT_same e12 ht, not_whole _ i hi, fun q nq => ?_⟩
      have hi2 : i < as.length := by rw [List.length_map] at hi; exact hi
      rw [cut_take _ i (Nat.le_of_lt hi), ← List.map_take]
      have e3 := e12.trans (w_new (o := .tup ((as.take i).map V.ref)) nq)
      have hq : upd G2 q (.tup ((as.take i).map V.ref)) q = some (.tup ((as.take i).map V.ref)) := upd_same
      generalize upd G2 q (.tup ((as.take i).map V.ref)) = G3 at e3 hq ⊢
      walk_at "r"
      have rw3 := rows_take hl hrow e3 i hq
      rw [← List.map_take] at rw3
      refine ⟨e0.1, e0.2.1, q, es.take i, rfl, gp.word _ (g.in1 _ me), gp.word _ (g.in2 _ me), rw3, by rw [List.length_take]; omega, fun f hf => ⟨gp.word _ (g.in1 _ (List.mem_of_mem_take hf)), gp.word _ (g.in2 _ (List.mem_of_mem_take hf))⟩, fun f hf => ?_, fun G4 e4 => ?_⟩
      · obtain ⟨j, hj⟩ := List.mem_iff_getElem?.mp hf
        rw [List.getElem?_take] at hj
        split at hj
        · rename_i lt
          obtain ⟨l1, x1⟩ := List.getElem?_eq_some_iff.mp hj
          obtain ⟨l2, x2⟩ := List.getElem?_eq_some_iff.mp he
          have := List.pairwise_iff_getElem.mp g.apart j i l1 l2 lt
          rw [x1, x2] at this
          exact this
        · cases hj
      · refine ⟨false, rfl, iteF ?_⟩
        walk_at "r"
        exact ⟨e3.trans e4, _, _, rfl⟩
    · rintro σ' G ⟨e, _⟩
      exact k G e
def spString (K : PySem.W.Frag) : Sp := fun vs H Q _ => ∃ (t u : Addr) (s : Ln3) (hk : Str) (ps : List Str), vs = [.ref t, .str hk, .ref u] ∧ SqT K H t (lnV s) ∧ hk.cps.size ≤ 4 ∧ SqT K H u (ps.map V.str) ∧ (∃ c, Sgn 97 122 s.1 c) ∧ (∃ d, s.2.1 = ⟨#[d]⟩ ∧ d ∈ hk.cps.toList) ∧ s.2.2 ∈ ps ∧ ∀ H', Same H H' → Q (.bl true) H'
theorem ok_is_string (T : Txt K mg a) : FnOk P w K mg base CX0 3 a.f_is_string a.d_is_string ["value", "hooks", "parts"] (spString K) := by
  refine T.F_is_string.ok sc_is_string (fun vs H Q E h => ?_) (fun cdv A outer s H vs Q E hr h => ?_)
  · obtain ⟨t, u, s, hk, ps, rfl, _⟩ := h
    rfl
  · obtain ⟨t, u, s, hk, ps, rfl, ht, h4, hu, ⟨c, hc⟩, ⟨d, hd, md⟩, mp, k⟩ := h
    refine ⟨_, (pss_one (ps_ret (pe_and (pe_call (ok_is_row T) (hr.mono (by decide)) (by rfl) T.m_is_row T.F_is_row.kp T.b_is_row .nil pass0 (pa_cons (pv 0) (pa_cons pe_int (pa_cons pe_int pa_nil)))) (pe_and (pe_call (ok_is_small_letter T) (hr.mono (by decide)) (by rfl) T.m_is_small_letter T.F_is_small_letter.kp T.b_is_small_letter .nil pass0 (pa_cons (pe_ix ix_tup (pv 0) pe_int (fun _ _ => rfl)) pa_nil)) (pe_and (pe_call (ok_is_one_ofS T) (hr.mono (by decide)) (by rfl) T.m_is_one_of T.F_is_one_of.kp T.b_is_one_of .nil pass0 (pa_cons (pe_ix ix_tup (pv 0) pe_int (fun _ _ => rfl)) (pa_cons (pv 1) pa_nil))) (pe_one (pe_call (ok_is_one_of T) (hr.mono (by decide)) (by rfl) T.m_is_one_of T.F_is_one_of.kp T.b_is_one_of .nil pass0 (pa_cons (pe_ix ix_tup (pv 0) pe_int (fun _ _ => rfl)) (pa_cons (pv 2) pa_nil))))))))), ?_⟩
    walk_at "r"
    refine row_leaf ht (by show (3 : Int) ≤ 3; decide) (by show (3 : Int) ≤ 3; decide) ⟨true, rfl, iteT ?_⟩
    walk_at "r"
    refine ⟨t, _, 0, _, rfl, rfl, ht, rfl, ?_⟩
    walk_at "r"
    refine ⟨s.1, c, rfl, hc, true, rfl, iteT ?_⟩
    walk_at "r"
    refine ⟨t, _, 1, .str ⟨#[d]⟩, rfl, rfl, ht, by rw [← hd]; rfl, ?_⟩
    walk_at "r"
    refine oneOfS_leaf (by omega) fun H1 e1 => ?_
    rw [decide_eq_true md]
    refine ⟨true, rfl, iteT ?_⟩
    walk_at "r"
    refine ⟨t, _, 2, _, rfl, rfl, seqT_same e1 ht, rfl, ?_⟩
    walk_at "r"
    refine oneOf_leaf (seqT_same e1 hu) fun H2 e2 => ?_
    rw [decide_eq_true mp]
    exact k _ (e1.trans e2)
def spCheckStrings (K : PySem.W.Frag) : Sp := fun vs H Q _ => ∃ (t u : Addr) (ls : List Ln3) (hk : Str) (ps : List Str), vs = [.ref t, .str hk, .ref u] ∧ Rws K H t (ls.map lnV) ∧ hk.cps.size ≤ 4 ∧ SqT K H u (ps.map V.str) ∧ GoodLns ps hk ls ∧ ∀ H', Same H H' → Q .non H'
theorem ok_check_strings (T : Txt K mg a) : FnOk P w K mg base CX0 4 a.f_check_strings a.d_check_strings ["strings", "hooks", "parts"] (spCheckStrings K) := by
  refine T.F_check_strings.ok sc_check_strings (fun vs H Q E h => ?_) (fun cdv A outer s H vs Q E hr h => ?_)
  · obtain ⟨t, u, ls, hk, ps, rfl, _⟩ := h
    rfl
  · obtain ⟨t, u, ls, hk, ps, rfl, ⟨as, ht, hl, hrow⟩, h4, hu, g, k⟩ := h
    have few := g.few
    have one := g.one
    have hl2 : as.length = ls.length := by rw [hl, List.length_map]
    refine ⟨_, (pss_cons (ps_if (pt_not (pt_val (pe_call (ok_is_row T) (hr.mono (by decide)) (by rfl) T.m_is_row T.F_is_row.kp T.b_is_row .nil pass0 (pa_cons (pv 0) (pa_cons pe_int (pa_cons (pe_glob (v := .int 6) rfl T.m_MOST_STRINGS ⟨_, rfl⟩) pa_nil)))))) (pss_one ps_never) pss_nil)
      (pss_one (ps_for PassesOwn.never rfl (pi_enumT (by rfl) T.z_enumerate (pa_cons (pv 0) pa_nil)) (pg_tup rfl (pgs_cons (pg_name (i := 3) sc_check_strings.nd rfl (Or.inl rfl)) (pgs_cons (pg_name (i := 4) sc_check_strings.nd rfl (Or.inl rfl)) pgs_nil))) (pss_one (ps_if (PW.pt (pw_or (pt_not (pt_val (pe_call (ok_is_string T) (hr.mono (by decide)) (by rfl) T.m_is_string T.F_is_string.kp T.b_is_string .nil pass0 (pa_cons (pv 4) (pa_cons (pv 1) (pa_cons (pv 2) pa_nil)))))) (pw_or1 (PW.pt (pw_and (pt_cmpR op_gt (pv 3) pe_int (nomark _)) (pw_and1 (pt_cmpR op_le_str (pe_ix ix_tup (pv 4) pe_int (fun _ _ => rfl)) (pe_ix ix_tup (pe_ix ix_tup (pv 0) (pe_op op_sub (pv 3) pe_int) (fun _ _ => rfl)) pe_int (fun _ _ => rfl)) (nomark _)))))))) (pss_one ps_never) pss_nil))))), ?_⟩
    walk_at "r"
    refine row_leaf ht (by rw [List.length_map]; omega) (by rw [List.length_map]; omega) ?_
    refine ⟨true, rfl, iteF ?_⟩
    walk_at "r"
    refine ⟨t, _, rfl, ht, for_leaf walk_enumT (fun i σ' G => Same H G ∧ ∃ v1 v2 : Option V, σ' = [some (.ref t), some (.str hk), some (.ref u), v1, v2]) ⟨w_same _, _, _, rfl⟩ (fun i σ' G _ ⟨e, _⟩ => seqT_same e ht) ?_ ?_⟩
    · rintro i x σ' G G' hi ⟨e, v1, v2, rfl⟩ ⟨T', y, z, rfl, nT, rfl, hy, hz⟩
      cases hy
      obtain ⟨r, v, rfl, hv, hrr⟩ := rows_at hl hrow hz
      obtain ⟨s0, he, rfl⟩ := map_atL hv
      have me := List.mem_of_getElem? he
      refine g_two upd_same ?_
      have e1 := e.trans (w_new (o := .tup [.int (i : Nat), .ref r]) nT)
      generalize upd G T' (.tup [.int (i : Nat), .ref r]) = G1 at e1 ⊢
      walk_at "r"
      refine ⟨r, u, s0, hk, ps, rfl, seqT_same e1 hrr, h4, seqT_same e1 hu, g.let_ _ me, g.hook _ me, g.part _ me, fun G2 e2 => ?_⟩
      have e12 := e1.trans e2
      refine ⟨true, rfl, iteF ?_⟩
      walk_at "r"
      refine w_iteD (fun z => ?_) (fun z => ?_)
      · walk_at "r"
        refine ⟨r, _, 0, _, rfl, rfl, seqT_same e12 hrr, rfl, ?_⟩
        walk_at "r"
        have hi2 : i - 1 < as.length := by rw [List.length_map] at hi; omega
        have hi3 : i - 1 < ls.length := by omega
        refine ⟨t, _, (i : Int) - 1, .ref as[i - 1], rfl, rfl, seqT_same e12 ht, ?_, ?_⟩
        · rw [show (i : Int) - 1 = ((i - 1 : Nat) : Int) by omega]
          exact atI_nat (by rw [List.getElem?_map, List.getElem?_eq_getElem hi2]; rfl)
        walk_at "r"
        have hlow : ls[i - 1]? = some ls[i - 1] := List.getElem?_eq_getElem hi3
        have hrow2 := hrow (i - 1) as[i - 1] (lnV ls[i - 1]) (List.getElem?_eq_getElem hi2) (by rw [List.getElem?_map, hlow]; rfl)
        refine ⟨_, _, 0, _, rfl, rfl, seqT_same e12 hrow2, rfl, ?_⟩
        walk_at "r"
        have up := g.up (i - 1) _ s0 hlow (by rw [show i - 1 + 1 = i by omega]; exact he)
        refine ⟨_, _, rfl, rfl, ?_⟩
        show ∃ k, V.bl (!decide (ls[i - 1].1.cps.toList < s0.1.cps.toList)) = .bl k ∧ _
        rw [decide_eq_true up]
        refine ⟨false, rfl, iteF ?_⟩
        walk_at "r"
        exact ⟨e12, _, _, rfl⟩
      · walk_at "r"
        refine iteF ?_
        walk_at "r"
        exact ⟨e12, _, _, rfl⟩
    · rintro σ' G ⟨e, _⟩
      exact k G e
end
end RK17


namespace RK17
open PySem PySem.Spec L2 RK RZ StX PyProof.Rows
/-! ### distances -/
abbrev Tb (kvs : List (List Key × V)) (d : RPath.Tab Str) : Prop := ∀ p q : Str, valV kvs [.inr p, .inr q] = (d p q).map V.int
theorem key2 {a b p q : Str} : ([.inr a, .inr b] : List Key) = [.inr p, .inr q] ↔ a = p ∧ b = q := by
  constructor
  · intro h
    injection h with h1 h2
    injection h2 with h2 _
    exact ⟨Sum.inr.inj h1, Sum.inr.inj h2⟩
  · rintro ⟨rfl, rfl⟩
    rfl
theorem Tb.put {kvs : List (List Key × V)} {d : RPath.Tab Str} (h : Tb kvs d) (p q : Str) (x : Int) : Tb (putK kvs [.inr p, .inr q] (.int x)) (RPath.put d p q x) := fun a b => by
  rw [valV_put]
  by_cases c : a = p ∧ b = q
  · rw [if_pos (key2.mpr c), c.1, c.2, RPath.put_same]
    rfl
  · rw [if_neg (fun z => c (key2.mp z)), RPath.put_ne d x c]
    exact h a b
section
variable {P : Program} {w : World} {K : PySem.W.Frag} {mg : Str → Option Value} {base : Heap} {a : Ad}
def opt (o : Option Int) : V := (o.map V.int).getD .non
theorem opt_non {o : Option Int} (h : opt o = .non) : o = none := by
  cases o with
  | none => rfl
  | some x => cases h
theorem opt_some {o : Option Int} (h : ¬ opt o = .non) : ∃ x, o = some x ∧ opt o = .int x := by
  cases o with
  | none => exact absurd rfl h
  | some x => exact ⟨x, rfl, rfl⟩
theorem isd_t {H : Hp} {D : Addr} {kvs : List (List Key × V)} (h : H D = some (.dT kvs)) : IsD H D := .inr ⟨kvs, .inl h⟩
theorem get_leaf {D b : Addr} {H : Hp} {Q : VK} {kvs : List (List Key × V)} {d : RPath.Tab Str} {p q : Str} (hD : H D = some (.dT kvs)) (h : Tb kvs d) (hb : H b = some (.tup [.str p, .str q])) (k : Q (opt (d p q)) H) : GetL D (.ref b) H Q :=
  ⟨_, DGet.t (k := [.inr p, .inr q]) hD hb, by rw [h]; exact k⟩
def spShorten : Sp := fun vs H Q _ => ∃ (D : Addr) (kvs : List (List Key × V)) (d : RPath.Tab Str) (p m q : Str), vs = [.ref D, .str p, .str m, .str q] ∧ H D = some (.dT kvs) ∧ Tb kvs d ∧ kvs.length ≤ 1000 ∧
  ∀ kvs' H', H' D = some (.dT kvs') → Tb kvs' (RPath.short d p m q) → kvs'.length ≤ kvs.length + 1 → But D H H' → Q .non H'
theorem ok_shorten (T : Txt K mg a) : FnOk P w K mg base CX0 1 a.f_shorten a.d_shorten ["distances", "part", "middle", "other"] spShorten := by
  refine T.F_shorten.ok sc_shorten (fun vs H Q E h => ?_) (fun cdv A outer s H vs Q E hr h => ?_)
  · obtain ⟨D, kvs, d, p, m, q, rfl, _⟩ := h
    rfl
  · obtain ⟨D, kvs, d, p, m, q, rfl, hD, tb, hz, k⟩ := h
    refine ⟨_, (pss_cons (ps_set (i := 4) sc_shorten.nd rfl (Or.inl rfl) (pe_dget1 (hu_of hr) (pv 0) (pe_tup (pa_cons (pv 1) (pa_cons (pv 2) pa_nil))) ⟨rfl, rfl, rfl, rfl⟩))
      (pss_cons (ps_set (i := 5) sc_shorten.nd rfl (Or.inl rfl) (pe_dget1 (hu_of hr) (pv 0) (pe_tup (pa_cons (pv 2) (pa_cons (pv 3) pa_nil))) ⟨rfl, rfl, rfl, rfl⟩))
      (pss_cons (ps_if (PW.pt (pw_or (pt_cmpR op_isN (pv 4) pe_non (nomark _)) (pw_or1 (pt_cmpR op_isN (pv 5) pe_non (nomark _))))) (pss_one ps_retN) pss_nil)
      (pss_cons (ps_set (i := 6) sc_shorten.nd rfl (Or.inl rfl) (pe_dget1 (hu_of hr) (pv 0) (pe_tup (pa_cons (pv 1) (pa_cons (pv 3) pa_nil))) ⟨rfl, rfl, rfl, rfl⟩))
      (pss_one (ps_if (PW.pt (pw_or (pt_cmpR op_isN (pv 6) pe_non (nomark _)) (pw_or1 (pt_cmpR op_lt (pe_op op_add (pv 4) (pv 5)) (pv 6) (nomark _))))) (pss_one (ps_asg (pe_op op_add (pv 4) (pv 5)) (pg_sub (pv 0) (pe_tup (pa_cons (pv 1) (pa_cons (pv 3) pa_nil))) (set_dict (hu_of hr))))) pss_nil)))))), ?_⟩
    walk_at "r"
    refine ⟨D, rfl, isd_t hD, ?_⟩
    walk_at "r"
    refine w_newT (by show 2 ≤ 100000; decide) fun t1 H1 n1 e1 h1 => ?_
    have hD1 := e1 _ _ hD
    refine get_leaf hD1 tb h1 ?_
    walk_at "r"
    refine ⟨D, rfl, isd_t hD1, ?_⟩
    walk_at "r"
    refine w_newT (by show 2 ≤ 100000; decide) fun t2 H2 n2 e2 h2 => ?_
    have hD2 := e2 _ _ hD1
    refine get_leaf hD2 tb h2 ?_
    walk_at "r"
    have e12 := e1.trans e2
    refine ⟨rfl, ?_⟩
    walk_at "r"
    have stays : ∀ {G : Hp}, RPath.short d p m q = d → Same H G → Q .non G := fun {G} z e => k kvs G (e _ _ hD) (by rw [z]; exact tb) (Nat.le_succ _) (.of e)
    refine w_iteD (fun z => ?_) (fun z => ?_)
    · have z0 := opt_non z
      walk_at "r"
      refine iteT ?_
      walk_at "r"
      exact stays (by unfold RPath.short; rw [z0]) e12
    · obtain ⟨x, hx, ox⟩ := opt_some z
      walk_at "r"
      refine ⟨rfl, ?_⟩
      walk_at "r"
      refine w_iteD (fun z => ?_) (fun z => ?_)
      · have z0 := opt_non z
        walk_at "r"
        exact stays (by unfold RPath.short; rw [hx, z0]) e12
      · obtain ⟨y, hy, oy⟩ := opt_some z
        walk_at "r"
        refine ⟨D, rfl, isd_t hD2, ?_⟩
        walk_at "r"
        refine w_newT (by show 2 ≤ 100000; decide) fun t3 H3 n3 e3 h3 => ?_
        have hD3 := e3 _ _ hD2
        refine get_leaf hD3 tb h3 ?_
        rw [ox, oy]
        walk_at "r"
        refine ⟨rfl, ?_⟩
        walk_at "r"
        have e13 := e12.trans e3
        have puts : RPath.short d p m q = RPath.put d p q (x + y) → ∀ {G : Hp}, Same H3 G → ∀ t4, G t4 = some (.tup [.str p, .str q]) → rSetD (.ref D) (.ref t4) (.int (x + y)) G fun G' => Q .non G' := fun z {G} e t4 h4 => by
          have hD4 := e _ _ hD3
          refine ⟨D, _, rfl, DPut.t (k := [.inr p, .inr q]) hD4 h4 (Nat.lt_of_le_of_lt hz (by decide)), ?_⟩
          exact k _ _ upd_same (by rw [z]; exact tb.put p q (x + y)) (length_putK ..) (But.upd (.of (e13.trans e)))
        refine w_iteD (fun z => ?_) (fun z => ?_)
        · have z0 := opt_non z
          refine iteT ?_
          walk_at "r"
          refine w_newT (by show 2 ≤ 100000; decide) fun t4 H4 n4 e4 h4 => ?_
          exact puts (by unfold RPath.short RPath.low; rw [hx, hy]; show (match d p q with | none => _ | some c => _) = _; rw [z0]) e4 t4 h4
        · obtain ⟨c, hc, oc⟩ := opt_some z
          rw [oc]
          walk_at "r"
          refine w_iteD (fun z => ?_) (fun z => ?_)
          · walk_at "r"
            refine w_newT (by show 2 ≤ 100000; decide) fun t4 H4 n4 e4 h4 => ?_
            exact puts (by unfold RPath.short RPath.low; rw [hx, hy]; show (match d p q with | none => _ | some c => _) = _; rw [hc]; exact if_pos z) e4 t4 h4
          · walk_at "r"
            exact stays (by unfold RPath.short RPath.low; rw [hx, hy]; show (match d p q with | none => _ | some c => _) = _; rw [hc]; exact if_neg z) e13
theorem shorten_leaf {H : Hp} {Q : VK} {E : XK} {D : Addr} {kvs : List (List Key × V)} {d : RPath.Tab Str} {p m q : Str} (hD : H D = some (.dT kvs)) (tb : Tb kvs d) (hz : kvs.length ≤ 1000)
    (k : ∀ kvs' H', H' D = some (.dT kvs') → Tb kvs' (RPath.short d p m q) → kvs'.length ≤ kvs.length + 1 → But D H H' → Q .non H') : spShorten [.ref D, .str p, .str m, .str q] H Q E := ⟨D, kvs, d, p, m, q, rfl, hD, tb, hz, k⟩
/-- a dict of distances stands at D -/
structure Dt (H : Hp) (D : Addr) (d : RPath.Tab Str) (n : Nat) : Prop where
  ex : ∃ kvs, H D = some (.dT kvs) ∧ Tb kvs d ∧ kvs.length ≤ n
theorem Dt.same {H H' : Hp} {D : Addr} {d : RPath.Tab Str} {n : Nat} (h : Dt H D d n) (e : Same H H') : Dt H' D d n := let ⟨kvs, a, b, c⟩ := h.ex; ⟨kvs, e _ _ a, b, c⟩
theorem Dt.mono {H : Hp} {D : Addr} {d : RPath.Tab Str} {n m : Nat} (h : Dt H D d n) (l : n ≤ m) : Dt H D d m := let ⟨kvs, a, b, c⟩ := h.ex; ⟨kvs, a, b, Nat.le_trans c l⟩
theorem Dt.eqT {H : Hp} {D : Addr} {d e : RPath.Tab Str} {n : Nat} (h : Dt H D d n) (z : d = e) : Dt H D e n := z ▸ h
theorem take_snoc {α : Type} {l : List α} {i : Nat} {x : α} (h : l[i]? = some x) : l.take (i + 1) = l.take i ++ [x] := by rw [List.take_succ, h]; rfl
theorem put_leafT {D b : Addr} {H : Hp} {R : Hp → Prop} {d : RPath.Tab Str} {p q : Str} {x : Int} {n : Nat} (h : Dt H D d n) (hn : n ≤ 1000) (hb : H b = some (.tup [.str p, .str q])) (k : ∀ H', Dt H' D (RPath.put d p q x) (n + 1) → But D H H' → R H') : rSetD (.ref D) (.ref b) (.int x) H R := by
  obtain ⟨kvs, hD, tb, hz⟩ := h.ex
  refine ⟨D, _, rfl, DPut.t (k := [.inr p, .inr q]) hD hb (Nat.lt_of_le_of_lt (Nat.le_trans hz hn) (by decide)), ?_⟩
  exact k _ ⟨_, upd_same, tb.put p q x, Nat.le_trans (length_putK ..) (Nat.succ_le_succ hz)⟩ (But.upd (.refl D H))
def spDists (K : PySem.W.Frag) : Sp := fun vs H Q _ => ∃ (t u : Addr) (ps : List Str) (es : List Tie3), vs = [.ref t, .ref u] ∧ SqT K H t (ps.map V.str) ∧ Rws K H u (es.map tieV) ∧ ps.length ≤ 6 ∧ es.length ≤ 10 ∧ ∀ D H', H D = none → Same H H' → Dt H' D (RPath.passes ps ps (RPath.ini ps es)) 400 → Q (.ref D) H'
theorem ok_distances_of (T : Txt K mg a) : FnOk P w K mg base CX0 2 a.f_distances_of a.d_distances_of ["parts", "ties"] (spDists K) := by
  refine T.F_distances_of.ok sc_distances_of (fun vs H Q E h => ?_) (fun cdv A outer s H vs Q E hr h => ?_)
  · obtain ⟨t, u, ps, es, rfl, _⟩ := h
    rfl
  · obtain ⟨t, u, ps, es, rfl, ht, ⟨as, hu, hl, hrow⟩, h6, h10, k⟩ := h
    have ml : (ps.map V.str).length = ps.length := List.length_map ..
    have hl2 : as.length = es.length := by rw [hl, List.length_map]
    refine ⟨_, (pss_cons (ps_setDc (i := 2) (o0 := .dT []) (.inr rfl) (hu_of hr) (own := [("part", 3)]) (g := gName 3) (tt := tYes) rfl sc_distances_of.nd rfl rfl (sw_trueD rfl rfl rfl (by decide +kernel)) (pi_tup (pv 0)) (blkOk_by (own := [("part", 3)]) (N := ["parts", "ties", "found", "part", "other", "reach", "middle"]) (sc := defScope s_distances_of) (by decide +kernel)) (fun _ _ _ _ _ => pg_name (i := 3) sc_distances_of.nd rfl (Or.inl rfl)) (fun _ _ _ _ _ => pts_nil) (fun _ _ _ _ _ => by exact (pe_tup (pa_cons (pv 3) (pa_cons (pv 3) pa_nil)))) (fun _ _ _ _ _ => by exact pe_int))
      (pss_cons (ps_for PassesOwn.never rfl (pi_tup (pv 1)) (pg_tup rfl (pgs_cons (pg_name (i := 3) sc_distances_of.nd rfl (Or.inl rfl)) (pgs_cons (pg_name (i := 4) sc_distances_of.nd rfl (Or.inl rfl)) (pgs_cons (pg_name (i := 5) sc_distances_of.nd rfl (Or.inl rfl)) pgs_nil)))) (pss_cons (ps_asg (pv 5) (pg_sub (pv 2) (pe_tup (pa_cons (pv 3) (pa_cons (pv 4) pa_nil))) (set_dict (hu_of hr))))
      (pss_one (ps_asg (pv 5) (pg_sub (pv 2) (pe_tup (pa_cons (pv 4) (pa_cons (pv 3) pa_nil))) (set_dict (hu_of hr)))))))
      (pss_cons (ps_for PassesOwn.never rfl (pi_tup (pv 0)) (pg_name (i := 6) sc_distances_of.nd rfl (Or.inl rfl)) (pss_one (ps_for PassesOwn.never rfl (pi_tup (pv 0)) (pg_name (i := 3) sc_distances_of.nd rfl (Or.inl rfl)) (pss_one (ps_for PassesOwn.never rfl (pi_tup (pv 0)) (pg_name (i := 4) sc_distances_of.nd rfl (Or.inl rfl)) (pss_one (ps_expr (pe_call (ok_shorten T) (hr.mono (by decide)) (by rfl) T.m_shorten T.F_shorten.kp T.b_shorten .nil pass0 (pa_cons (pv 2) (pa_cons (pv 3) (pa_cons (pv 6) (pa_cons (pv 4) pa_nil))))))))))))
      (pss_one (ps_ret (pv 2)))))), ?_⟩
    walk_at "r"
    refine ⟨t, rfl, ⟨_, ht⟩, dc_leaf (walk_tup (xs := ps.map V.str)) (fun D i G => H D = none ∧ But D H G ∧ Dt G D ((ps.take i).foldl (fun d p => RPath.put d p p 0) fun _ _ => none) i) (fun D nD => ⟨nD, But.upd (.refl D H), ⟨[], upd_same, fun _ _ => rfl, Nat.le_refl _⟩⟩) ?_ ?_ ?_⟩
    · rintro D i G _ ⟨nD, e, _⟩
      exact seqT_same (e.same nD) ht
    · rintro D i x G G' hi ⟨nD, e, dt⟩ ⟨rfl, hx⟩
      obtain ⟨p, hp, rfl⟩ := map_at hx
      refine ⟨rfl, ?_⟩
      walk_at "r"
      refine w_newT (by show 2 ≤ 100000; decide) fun t1 H1 n1 e1 h1 => ?_
      walk_at "r"
      obtain ⟨kvs, hD, tb, hz⟩ := (dt.same e1).ex
      have ib : i ≤ 6 := by omega
      refine ⟨_, DPut.t (k := [.inr p, .inr p]) hD h1 (Nat.lt_of_le_of_lt (show kvs.length ≤ 1000 by omega) (by decide)), nD, (e.trans (.of e1)).upd, ⟨_, upd_same, ?_, Nat.le_trans (length_putK ..) (Nat.succ_le_succ hz)⟩⟩
      rw [take_snoc hp, List.foldl_append]
      exact tb.put p p 0
    · rintro D G nD ⟨_, e, dt⟩
      rw [ml, List.take_length] at dt
      have dt : Dt G D (RPath.dia ps) ps.length := dt
      have sG := e.same nD
      walk_at "r"
      refine ⟨u, rfl, ⟨_, seqT_same sG hu⟩, for_leaf (walk_tup (xs := as.map V.ref)) (fun j σ' G => Same H G ∧ Dt G D ((es.take j).foldl RPath.tie2 (RPath.dia ps)) (6 + 2 * j) ∧ ∃ v3 v4 v5 v6 : Option V, σ' = [some (.ref t), some (.ref u), some (.ref D), v3, v4, v5, v6]) ⟨sG, dt.mono (by omega), _, _, _, _, rfl⟩ (fun j σ' G _ ⟨e, _⟩ => seqT_same e hu) ?_ ?_⟩
      · rintro j x σ' G G' hj ⟨e, dt, v3, v4, v5, v6, rfl⟩ ⟨rfl, hx⟩
        obtain ⟨r, v, rfl, hv, hrr⟩ := rows_at hl hrow hx
        obtain ⟨e0, he, rfl⟩ := map_atL hv
        have jb : j < 10 := by rw [List.length_map] at hj; omega
        refine g_three (seqT_same e hrr) ?_
        walk_at "r"
        refine w_newT (by show 2 ≤ 100000; decide) fun t1 H1 n1 e1 h1 => ?_
        refine put_leafT (dt.same e1) (by omega) h1 fun H2 dt2 b2 => ?_
        have e2 := (e.trans e1)
        have s2 : Same H H2 := fun c o h => b2 c o (ne_of_none h nD) (e2 c o h)
        walk_at "r"
        refine w_newT (by show 2 ≤ 100000; decide) fun t3 H3 n3 e3 h3 => ?_
        refine put_leafT (dt2.same e3) (by omega) h3 fun H4 dt4 b4 => ?_
        refine ⟨fun c o h => b4 c o (ne_of_none h nD) ((s2.trans e3) c o h), (dt4.eqT ?_).mono (by omega), _, _, _, _, rfl⟩
        rw [take_snoc he, List.foldl_append]
        rfl
      · rintro σ' G1 ⟨e1, dt1, v3, v4, v5, v6, rfl⟩
        rw [List.length_map, hl2, List.take_length] at dt1
        have dt1 : Dt G1 D (RPath.ini ps es) 26 := (show Dt G1 D (RPath.ini ps es) (6 + 2 * es.length) from dt1).mono (by omega)
        walk_at "r"
        refine ⟨t, rfl, ⟨_, seqT_same e1 ht⟩, for_leaf (walk_tup (xs := ps.map V.str)) (fun i σ' G => Same H G ∧ Dt G D (RPath.passes (ps.take i) ps (RPath.ini ps es)) (26 + 36 * i) ∧ ∃ v3 v4 v5 v6 : Option V, σ' = [some (.ref t), some (.ref u), some (.ref D), v3, v4, v5, v6]) ⟨e1, dt1, _, _, _, _, rfl⟩ (fun j σ' G _ ⟨e, _⟩ => seqT_same e ht) ?_ ?_⟩
        · rintro i x σ' G G' hi ⟨e, dt, w3, w4, w5, w6, rfl⟩ ⟨rfl, hx⟩
          obtain ⟨m, hm, rfl⟩ := map_at hx
          have ib : i < 6 := by rw [List.length_map] at hi; omega
          walk_at "r"
          refine ⟨t, rfl, ⟨_, seqT_same e ht⟩, for_leaf (walk_tup (xs := ps.map V.str)) (fun j σ' G => Same H G ∧ Dt G D (RPath.pass2 (ps.take j) ps (RPath.passes (ps.take i) ps (RPath.ini ps es)) m) (26 + 36 * i + 6 * j) ∧ ∃ v3 v4 v5 : Option V, σ' = [some (.ref t), some (.ref u), some (.ref D), v3, v4, v5, some (.str m)]) ⟨e, dt, _, _, _, rfl⟩ (fun j σ' G _ ⟨e, _⟩ => seqT_same e ht) ?_ ?_⟩
          · rintro j x σ' G2 G2' hj ⟨e2, dt2, x3, x4, x5, rfl⟩ ⟨rfl, hx⟩
            obtain ⟨p, hp, rfl⟩ := map_at hx
            have jb : j < 6 := by rw [List.length_map] at hj; omega
            walk_at "r"
            refine ⟨t, rfl, ⟨_, seqT_same e2 ht⟩, for_leaf (walk_tup (xs := ps.map V.str)) (fun l σ' G => Same H G ∧ Dt G D (RPath.pass1 (ps.take l) (RPath.pass2 (ps.take j) ps (RPath.passes (ps.take i) ps (RPath.ini ps es)) m) p m) (26 + 36 * i + 6 * j + l) ∧ ∃ v4 v5 : Option V, σ' = [some (.ref t), some (.ref u), some (.ref D), some (.str p), v4, v5, some (.str m)]) ⟨e2, dt2, _, _, rfl⟩ (fun j σ' G _ ⟨e, _⟩ => seqT_same e ht) ?_ ?_⟩
            · rintro l x σ' G3 G3' hl3 ⟨e3, dt3, y4, y5, rfl⟩ ⟨rfl, hx⟩
              obtain ⟨q, hq, rfl⟩ := map_at hx
              have lb : l < 6 := by rw [List.length_map] at hl3; omega
              obtain ⟨kvs, hD, tb, hz⟩ := dt3.ex
              walk_at "r"
              refine shorten_leaf hD tb (by omega) fun kvs' H4 hD4 tb4 hz4 b4 => ?_
              walk_at "r"
              refine ⟨fun c o h => b4 c o (ne_of_none h nD) (e3 c o h), ⟨kvs', hD4, ?_, by omega⟩, _, _, rfl⟩
              unfold RPath.pass1
              rw [take_snoc hq, List.foldl_append]
              exact tb4
            · rintro σ' G3 ⟨e3, dt3, y4, y5, rfl⟩
              rw [ml, List.take_length] at dt3
              refine ⟨e3, (dt3.eqT ?_).mono (by omega), _, _, _, rfl⟩
              unfold RPath.pass2
              rw [take_snoc hp, List.foldl_append]
              rfl
          · rintro σ' G2 ⟨e2, dt2, x3, x4, x5, rfl⟩
            rw [ml, List.take_length] at dt2
            refine ⟨e2, (dt2.eqT ?_).mono (by omega), _, _, _, _, rfl⟩
            unfold RPath.passes
            rw [take_snoc hm, List.foldl_append]
            rfl
        · rintro σ' G ⟨e, dt, w3, w4, w5, w6, rfl⟩
          rw [ml, List.take_length] at dt
          walk_at "r"
          exact k D G nD e (dt.mono (by omega))
end
end RK17


namespace RK17
open PySem PySem.Spec L2 RK RZ StX PyProof.Rows
/-! ### a puppet -/
theorem putF_new {f : Str} {v : V} : ∀ {fs : List (Str × V)}, f ∉ fs.map (·.1) → putF f v fs = fs ++ [(f, v)]
  | [], _ => rfl
  | (g, u) :: fs, h => by
    have h1 : ¬ g = f := fun z => h (by rw [← z]; exact List.mem_cons_self)
    have ih := putF_new (f := f) (v := v) (fs := fs) fun m => h (List.mem_cons_of_mem _ m)
    show (if g = f then _ else (g, u) :: putF f v fs) = _
    rw [if_neg h1, ih]
    rfl
abbrev dist (ps : List Str) (es : List Tie3) : RPath.Tab Str := RPath.passes ps ps (RPath.ini ps es)
def nmsL (ls : List Ln3) : Str := Txt.join "" (ls.map fun s => s.1)
def pfs (t u : Addr) (hk : Str) (l : Addr) (nm : Str) (D : Addr) : List (Str × V) := [(("parts" : Str), .ref t), (("ties" : Str), .ref u), (("hooks" : Str), .str hk), (("strings" : Str), .ref l), (("names" : Str), .str nm), (("distances" : Str), .ref D)]
structure GoodPup (ps : List Str) (es : List Tie3) (hk : Str) (ls : List Ln3) : Prop where
  parts : GoodParts ps
  ties : GoodTies ps es
  caps : Caps hk
  lns : GoodLns ps hk ls
structure Pup (K : PySem.W.Frag) (C : Addr) (H : Hp) (p : Addr) (ps : List Str) (es : List Tie3) (hk : Str) (ls : List Ln3) : Prop where
  ob : ∃ dx t u l D, H p = some (.ins C dx (pfs t u hk l (nmsL ls) D)) ∧ SqT K H t (ps.map V.str) ∧ Rws K H u (es.map tieV) ∧ Rws K H l (ls.map lnV) ∧ Dt H D (dist ps es) 400
  good : GoodPup ps es hk ls
theorem Pup.same {K : PySem.W.Frag} {C : Addr} {H H' : Hp} {p : Addr} {ps : List Str} {es : List Tie3} {hk : Str} {ls : List Ln3} (r : Pup K C H p ps es hk ls) (e : Same H H') : Pup K C H' p ps es hk ls :=
  let ⟨dx, t, u, l, D, h1, h2, h3, h4, h5⟩ := r.ob; ⟨⟨dx, t, u, l, D, e _ _ h1, seqT_same e h2, h3.same e, h4.same e, h5.same e⟩, r.good⟩
theorem Dt.kp {H H' : Hp} {D b : Addr} {d : RPath.Tab Str} {n : Nat} (h : Dt H D d n) (e : Kp b H H') : Dt H' D d n := by
  obtain ⟨kvs, h1, h2, h3⟩ := h.ex
  exact ⟨kvs, e.sameT D _ h1 nofun, h2, h3⟩
theorem Pup.kp {K : PySem.W.Frag} {C b : Addr} {H H' : Hp} {p : Addr} {ps : List Str} {es : List Tie3} {hk : Str} {ls : List Ln3} (r : Pup K C H p ps es hk ls) (e : Kp b H H') : Pup K C H' p ps es hk ls :=
  let ⟨dx, t, u, l, D, h1, h2, h3, h4, h5⟩ := r.ob; ⟨⟨dx, t, u, l, D, e.ins h1, e.sqt h2, h3.kp e, h4.kp e, h5.kp e⟩, r.good⟩
section
variable {P : Program} {w : World} {K : PySem.W.Frag} {mg : Str → Option Value} {base : Heap} {a : Ad}
theorem sf_leaf {f : Str} {y : V} {p C dx : Addr} {fs : List (Str × V)} {H : Hp} {N : Hp → Prop} (hp : H p = some (.ins C dx fs)) (cl : Cls K C) (na : NoAttr K C f) (hl : fs.length < 1000) (nw : f ∉ fs.map (·.1)) (k : ∀ H', H' p = some (.ins C dx (fs ++ [(f, y)])) → But p H H' → N H') : Sf K f y (.ref p) H N :=
  ⟨p, C, dx, fs, rfl, hp, cl, na, hl, k _ (by rw [upd_same, putF_new nw]) (But.upd (.refl p H))⟩
theorem But.rws {H H' : Hp} {D p : Addr} {L : List (List V)} {u : HO} (e : But D H H') (hD : H D = some u) (hu : ∀ ys, u ≠ .tup ys) (hf : ∀ o v, u ≠ .frz o v) (h : Rws K H p L) : Rws K H' p L :=
  let ⟨as, h1, h2, h3⟩ := h; ⟨as, e.sqt hD hu hf h1, h2, fun i q u a b => e.sqt hD hu hf (h3 i q u a b)⟩
theorem But.rwsI {H H' : Hp} {p t C dx : Addr} {fs : List (Str × V)} {L : List (List V)} (e : But p H H') (hp : H p = some (.ins C dx fs)) (h : Rws K H t L) : Rws K H' t L := But.rws e hp (fun _ z => by cases z) (fun _ _ z => by cases z) h
theorem But.sqtI {H H' : Hp} {p t C dx : Addr} {fs : List (Str × V)} {xs : List V} (e : But p H H') (hp : H p = some (.ins C dx fs)) (h : SqT K H t xs) : SqT K H' t xs := RK.But.sqt e hp (fun _ z => by cases z) (fun _ _ z => by cases z) h
def spPinit (K : PySem.W.Frag) (C : Addr) : Sp := fun vs H Q _ => ∃ (p dx t u l : Addr) (ps : List Str) (es : List Tie3) (hk : Str) (ls : List Ln3), vs = [.ref p, .ref t, .ref u, .str hk, .ref l] ∧ H p = some (.ins C dx []) ∧ SqT K H t (ps.map V.str) ∧ Rws K H u (es.map tieV) ∧ Rws K H l (ls.map lnV) ∧ GoodPup ps es hk ls ∧
  ∀ H', Pup K C H' p ps es hk ls → But p H H' → Q .non H'
theorem ok_Puppet_init (T : Txt K mg a) : FnOk P w K mg base CX0 5 a.f_Puppet_init a.d_Puppet_init ["self", "parts", "ties", "hooks", "strings"] (spPinit K a.C_Puppet) := by
  refine T.F_Puppet_init.ok sc_Puppet_init (fun vs H Q E h => ?_) (fun cdv A outer s H vs Q E hr h => ?_)
  · obtain ⟨p, dx, t, u, l, ps, es, hk, ls, rfl, _⟩ := h
    rfl
  · obtain ⟨p, dx, t, u, l, ps, es, hk, ls, rfl, hp, ht, hu, hl, g, k⟩ := h
    refine ⟨_, PSs.nox ((pss_cons (ps_expr (pe_call (ok_check_parts T) (hr.mono (by decide)) (by rfl) T.m_check_parts T.F_check_parts.kp T.b_check_parts .nil pass0 (pa_cons (pv 1) pa_nil)))
      (pss_cons (ps_expr (pe_call (ok_check_ties T) (hr.mono (by decide)) (by rfl) T.m_check_ties T.F_check_ties.kp T.b_check_ties .nil pass0 (pa_cons (pv 2) (pa_cons (pv 1) pa_nil))))
      (pss_cons (ps_if (pt_not (pt_val (pe_call (ok_are_capitals T) (hr.mono (by decide)) (by rfl) T.m_are_capitals T.F_are_capitals.kp T.b_are_capitals .nil pass0 (pa_cons (pv 3) (pa_cons (pe_glob (v := .int 4) rfl T.m_MOST_HOOKS ⟨_, rfl⟩) pa_nil))))) (pss_one ps_never) pss_nil)
      (pss_cons (ps_expr (pe_call (ok_check_strings T) (hr.mono (by decide)) (by rfl) T.m_check_strings T.F_check_strings.kp T.b_check_strings .nil pass0 (pa_cons (pv 4) (pa_cons (pv 3) (pa_cons (pv 1) pa_nil)))))
      (pss_cons (ps_fld (pv 0) (pv 1) rfl)
      (pss_cons (ps_fld (pv 0) (pv 2) rfl)
      (pss_cons (ps_fld (pv 0) (pv 3) rfl)
      (pss_cons (ps_fld (pv 0) (pv 4) rfl)
      (pss_cons (ps_fld (pv 0) (pe_join pe_str (pe_lc (own := [("name", 5), ("_", 6)]) (g := gTup K 3 (gCons (gName 5) (gCons (gName 6) (gCons (gName 6) (gNil))))) (tt := tYes) rfl sc_Puppet_init.nd (pi_tup (pv 4)) (blkOk_by (own := [("name", 5), ("_", 6)]) (N := ["self", "parts", "ties", "hooks", "strings", "name", "_"]) (sc := defScope s_Puppet_init) (by decide +kernel)) (fun _ _ _ _ _ => by exact pg_tup (n := 3) rfl (pgs_cons (pg_name (i := 5) sc_Puppet_init.nd rfl (Or.inl rfl)) (pgs_cons (pg_name (i := 6) sc_Puppet_init.nd rfl (Or.inl rfl)) (pgs_cons (pg_name (i := 6) sc_Puppet_init.nd rfl (Or.inl rfl)) pgs_nil)))) (fun _ _ _ _ _ => pts_nil) (fun _ _ _ _ _ => by exact (pv 5)))) rfl)
      (pss_one (ps_fld (pv 0) (pe_call (ok_distances_of T) (hr.mono (by decide)) (by rfl) T.m_distances_of T.F_distances_of.kp T.b_distances_of .nil pass0 (pa_cons (pv 1) (pa_cons (pv 2) pa_nil))) rfl)))))))))))), ?_⟩
    walk_at "r"
    refine ⟨t, ps, rfl, ht, g.parts, fun H1 e1 => ?_⟩
    walk_at "r"
    refine ⟨u, t, es, ps, rfl, hu.same e1, seqT_same e1 ht, g.parts, g.ties, fun H2 e2 => ?_⟩
    have e12 := e1.trans e2
    walk_at "r"
    refine ⟨hk, rfl, g.caps, fun H3 e3 => ?_⟩
    have e13 := e12.trans e3
    refine ⟨true, rfl, iteF ?_⟩
    walk_at "r"
    have h4 := g.caps.few
    refine ⟨l, t, ls, hk, ps, rfl, hl.same e13, by omega, seqT_same e13 ht, g.lns, fun H4 e4 => ?_⟩
    have e14 := e13.trans e4
    walk_at "r"
    refine sf_leaf (e14 _ _ hp) T.cl_Puppet T.n_parts (by show 0 < 1000; decide) (show ("parts" : Str) ∉ ([] : List Str) by decide +kernel) fun H5 p5 b5 => ?_
    walk_at "r"
    refine sf_leaf p5 T.cl_Puppet T.n_ties (by show 1 < 1000; decide) (show ("ties" : Str) ∉ (["parts"] : List Str) by decide +kernel) fun H6 p6 b6 => ?_
    walk_at "r"
    refine sf_leaf p6 T.cl_Puppet T.n_hooks (by show 2 < 1000; decide) (show ("hooks" : Str) ∉ (["parts", "ties"] : List Str) by decide +kernel) fun H7 p7 b7 => ?_
    walk_at "r"
    refine sf_leaf p7 T.cl_Puppet T.n_strings (by show 3 < 1000; decide) (show ("strings" : Str) ∉ (["parts", "ties", "hooks"] : List Str) by decide +kernel) fun H8 p8 b8 => ?_
    have b48 := ((b5.trans b6).trans b7).trans b8
    have pH4 := e14 _ _ hp
    have l8 := But.rwsI b48 pH4 (hl.same e14)
    obtain ⟨as, hl8, ll, lrow⟩ := id l8
    walk_at "r"
    have l1 := g.lns.few
    have ll2 : as.length = ls.length := by rw [ll, List.length_map]
    refine ⟨⟨_, rfl⟩, ?_⟩
    walk_at "r"
    refine ⟨l, rfl, ⟨_, hl8⟩, cmS (walk_tup (xs := as.map V.ref)) (by rw [List.length_map]; omega) (fun G e => seqT_same e hl8) (fun i v _ => ∃ s, ls[i]? = some s ∧ v = .str s.1) (fun _ _ _ _ _ h => h) (fun i x H1 H2 hi e hy Q' kq => ?_) (fun D9 ys H9 n9 e9 h9 hn9 hP => ?_)⟩
    · obtain ⟨rfl, hx⟩ := hy
      obtain ⟨r, v, rfl, hv, hrr⟩ := rows_at ll lrow hx
      obtain ⟨s0, he, rfl⟩ := map_atL hv
      refine g_three (seqT_same e hrr) ⟨rfl, ?_⟩
      walk_at "r"
      exact kq _ _ (w_same _) ⟨s0, he, rfl⟩
    have ey := eq_map (ps := ls) (fun s => V.str s.1) (by rw [hn9, List.length_map, ll2]) hP
    have ey2 : ys = (ls.map fun s => s.1).map V.str := by rw [ey, List.map_map]; rfl
    have sm : ((ls.map fun s => s.1).map fun x => x.length).sum ≤ (ls.map fun s => s.1).length * 1 := sum_le fun x hx => by
      obtain ⟨s, hs, rfl⟩ := List.mem_map.mp hx
      obtain ⟨c, e, _⟩ := g.lns.let_ s hs
      rw [e]
      exact Nat.le_refl 1
    rw [List.length_map] at sm
    refine ⟨"", D9, ls.map fun s => s.1, rfl, rfl, .inl (by rw [← ey2]; exact SqL.of h9), ?_, ?_⟩
    · show _ + _ * 0 ≤ _
      omega
    walk_at "r"
    refine sf_leaf (e9 _ _ p8) T.cl_Puppet T.n_names (by show 4 < 1000; decide) (show ("names" : Str) ∉ (["parts", "ties", "hooks", "strings"] : List Str) by decide +kernel) fun H10 p10 b10 => ?_
    have b410 : But p H4 H10 := (b48.trans (.of e9)).trans b10
    have t10 := But.sqtI b410 pH4 (seqT_same e14 ht)
    have u10 := But.rwsI b410 pH4 (hu.same e14)
    have l10 := But.rwsI b410 pH4 (hl.same e14)
    walk_at "r"
    refine ⟨t, u, ps, es, rfl, t10, u10, g.parts.few, g.ties.few, fun D H11 n11 e11 d11 => ?_⟩
    walk_at "r"
    refine sf_leaf (e11 _ _ p10) T.cl_Puppet T.n_distances (by show 5 < 1000; decide) (show ("distances" : Str) ∉ (["parts", "ties", "hooks", "strings", "names"] : List Str) by decide +kernel) fun H12 p12 b12 => ?_
    have b412 : But p H4 H12 := (b410.trans (.of e11)).trans b12
    have b : But p H H12 := (But.of e14).trans b412
    have pD : D ≠ p := fun z => by
      rw [z, p10] at n11
      cases n11
    refine k H12 ⟨⟨dx, t, u, l, D, p12, But.sqtI b hp ht, But.rwsI b hp hu, But.rwsI b hp hl, ?_⟩, g⟩ b
    obtain ⟨kvs, q1, q2, q3⟩ := d11.ex
    exact ⟨kvs, b12 D _ pD q1, q2, q3⟩
theorem mk_leaf {C : Addr} {H : Hp} {Q : VK} {t u l : Addr} {ps : List Str} {es : List Tie3} {hk : Str} {ls : List Ln3} (ht : SqT K H t (ps.map V.str)) (hu : Rws K H u (es.map tieV)) (hl : Rws K H l (ls.map lnV)) (g : GoodPup ps es hk ls)
    (k : ∀ p H', H p = none → Same H H' → Pup K C H' p ps es hk ls → Q (.ref p) H') : MkL C (spPinit K C) E0 [.ref t, .ref u, .str hk, .ref l] H Q := by
  intro p dx hp hdx hne
  have e0 : Same H (upd (upd H dx (.own p)) p (.ins C dx [])) := fun c o q => by
    rw [upd_ne (ne_of_none q hp), upd_ne (ne_of_none q hdx)]
    exact q
  refine ⟨p, dx, t, u, l, ps, es, hk, ls, rfl, upd_same, seqT_same e0 ht, hu.same e0, hl.same e0, g, fun H' r b => ⟨rfl, ?_⟩⟩
  exact k p H' hp (fun c o q => b c o (ne_of_none q hp) (e0 _ _ q)) r
/-! what a puppet tells of itself -/
theorem pfs_look (t u : Addr) (hk : Str) (l : Addr) (nm : Str) (D : Addr) : (pfs t u hk l nm D).lookup ("parts" : Str) = some (.ref t) ∧ (pfs t u hk l nm D).lookup ("ties" : Str) = some (.ref u) ∧ (pfs t u hk l nm D).lookup ("hooks" : Str) = some (.str hk) ∧ (pfs t u hk l nm D).lookup ("strings" : Str) = some (.ref l) ∧ (pfs t u hk l nm D).lookup ("names" : Str) = some (.str nm) ∧ (pfs t u hk l nm D).lookup ("distances" : Str) = some (.ref D) := by
  have k1 : (("ties" : Str) == ("parts" : Str)) = false := by decide +kernel
  have k2 : (("hooks" : Str) == ("parts" : Str)) = false := by decide +kernel
  have k3 : (("hooks" : Str) == ("ties" : Str)) = false := by decide +kernel
  have k4 : (("strings" : Str) == ("parts" : Str)) = false := by decide +kernel
  have k5 : (("strings" : Str) == ("ties" : Str)) = false := by decide +kernel
  have k6 : (("strings" : Str) == ("hooks" : Str)) = false := by decide +kernel
  have k7 : (("names" : Str) == ("parts" : Str)) = false := by decide +kernel
  have k8 : (("names" : Str) == ("ties" : Str)) = false := by decide +kernel
  have k9 : (("names" : Str) == ("hooks" : Str)) = false := by decide +kernel
  have k10 : (("names" : Str) == ("strings" : Str)) = false := by decide +kernel
  have k11 : (("distances" : Str) == ("parts" : Str)) = false := by decide +kernel
  have k12 : (("distances" : Str) == ("ties" : Str)) = false := by decide +kernel
  have k13 : (("distances" : Str) == ("hooks" : Str)) = false := by decide +kernel
  have k14 : (("distances" : Str) == ("strings" : Str)) = false := by decide +kernel
  have k15 : (("distances" : Str) == ("names" : Str)) = false := by decide +kernel
  refine ⟨?_, ?_, ?_, ?_, ?_, ?_⟩ <;> simp [pfs, List.lookup, k1, k2, k3, k4, k5, k6, k7, k8, k9, k10, k11, k12, k13, k14, k15]
theorem pfs_no (t u : Addr) (hk : Str) (l : Addr) (nm : Str) (D : Addr) {m : Str} (h : m ∉ (["parts", "ties", "hooks", "strings", "names", "distances"] : List Str)) : (pfs t u hk l nm D).lookup m = none := by
  rw [List.lookup_eq_none_iff]
  intro kv hkv
  have : kv.1 ∈ (pfs t u hk l nm D).map (·.1) := List.mem_map.mpr ⟨kv, hkv, rfl⟩
  rw [bne_iff_ne]
  intro z
  exact h (z ▸ this)
theorem parts_leaf (T : Txt K mg a) {H : Hp} {Q : VK} {p : Addr} {ps : List Str} {es : List Tie3} {hk : Str} {ls : List Ln3} (r : Pup K a.C_Puppet H p ps es hk ls) (k : ∀ t, SqT K H t (ps.map V.str) → Q (.ref t) H) : Fl K "parts" (.ref p) H Q := by
  obtain ⟨dx, t, u, l, D, h1, h2, _⟩ := r.ob
  exact ⟨p, _, dx, _, _, rfl, h1, T.cl_Puppet, T.n_parts, (pfs_look ..).1, k t h2⟩
theorem hooks_leaf (T : Txt K mg a) {H : Hp} {Q : VK} {p : Addr} {ps : List Str} {es : List Tie3} {hk : Str} {ls : List Ln3} (r : Pup K a.C_Puppet H p ps es hk ls) (k : Q (.str hk) H) : Fl K "hooks" (.ref p) H Q := by
  obtain ⟨dx, t, u, l, D, h1, _⟩ := r.ob
  exact ⟨p, _, dx, _, _, rfl, h1, T.cl_Puppet, T.n_hooks, (pfs_look ..).2.2.1, k⟩
theorem strings_leaf (T : Txt K mg a) {H : Hp} {Q : VK} {p : Addr} {ps : List Str} {es : List Tie3} {hk : Str} {ls : List Ln3} (r : Pup K a.C_Puppet H p ps es hk ls) (k : ∀ l, Rws K H l (ls.map lnV) → Q (.ref l) H) : Fl K "strings" (.ref p) H Q := by
  obtain ⟨dx, t, u, l, D, h1, _, _, h4, _⟩ := r.ob
  exact ⟨p, _, dx, _, _, rfl, h1, T.cl_Puppet, T.n_strings, (pfs_look ..).2.2.2.1, k l h4⟩
theorem dists_leaf (T : Txt K mg a) {H : Hp} {Q : VK} {p : Addr} {ps : List Str} {es : List Tie3} {hk : Str} {ls : List Ln3} (r : Pup K a.C_Puppet H p ps es hk ls) (k : ∀ D, Dt H D (dist ps es) 400 → Q (.ref D) H) : Fl K "distances" (.ref p) H Q := by
  obtain ⟨dx, t, u, l, D, h1, _, _, _, h5⟩ := r.ob
  exact ⟨p, _, dx, _, _, rfl, h1, T.cl_Puppet, T.n_distances, (pfs_look ..).2.2.2.2.2, k D h5⟩
theorem pup_ml {C : Addr} {H : Hp} {p : Addr} {ps : List Str} {es : List Tie3} {hk : Str} {ls : List Ln3} {m : Str} {R : Prop} (r : Pup K C H p ps es hk ls) (h : m ∉ (["parts", "ties", "hooks", "strings", "names", "distances"] : List Str)) (k : R) : Ml C m (.ref p) H R := by
  obtain ⟨dx, t, u, l, D, h1, _⟩ := r.ob
  exact ⟨p, dx, _, rfl, h1, pfs_no _ _ _ _ _ _ h, k⟩
/-- the distances are exact -/
theorem dist_exact {ps : List Str} {es : List Tie3} (g1 : GoodParts ps) (g : GoodTies ps es) : RPath.Exact es ps (dist ps es) :=
  RPath.passes_exact g.pos (fun t ht => ⟨g.in1 t ht, g.in2 t ht⟩) (RPath.ini_start g.ne g.apart)
end
end RK17


namespace RK17
open PySem PySem.Spec L2 RK RZ StX PyProof.Rows
section
variable {P : Program} {w : World} {K : PySem.W.Frag} {mg : Str → Option Value} {base : Heap} {a : Ad}
/-! ### the bag and its draws -/
def spBag (K : PySem.W.Frag) : Sp := fun vs H Q _ => ∃ (c : Addr) (ns : List Int) (i : Nat), vs = [.ref c, .int i] ∧ SqL K H c (ns.map V.int) ∧ i < 100 ∧ ∀ p H', H p = none → Same H H' → Bag H' p → Q (.ref p) H'
theorem ok_bag (T : Txt K mg a) : FnOk P w K mg base CX0 1 a.f_bag a.d_bag ["_law_cells", "_law_k"] (spBag K) := by
  refine T.F_bag.ok sc_bag (fun vs H Q E h => ?_) (fun cdv A outer s H vs Q E hr h => ?_)
  · obtain ⟨c, ns, i, rfl, _⟩ := h
    rfl
  · obtain ⟨c, ns, i, rfl, hS, hi, k⟩ := h
    refine ⟨_, (pss_cons (ps_par (i := 2) (j := 3) (by rfl) sc_bag.nd rfl rfl (by decide) rfl rfl (pa_cons (pe_ifExp (pt_cmpR op_lt (pv 1) (pe_callB cr_len (by rfl) T.z_len PySem.boot_len (pa_cons (pv 0) pa_nil)) (nomark _)) (pe_callTy cr_int1 (by rfl) T.z_int (by decide +kernel) (pa_cons (pe_ix ix_list (pv 0) (pv 1) (fun _ _ => rfl)) pa_nil)) pe_int) (pa_cons (pe_op op_mul pe_int (pe_op op_add (pv 1) pe_int)) pa_nil)) (by rfl))
      (pss_cons (ps_for PassesOwn.never rfl (pi_list (pe_slice sl_list (pv 0) po_none (po_some pe_int))) (pg_name (i := 4) sc_bag.nd rfl (Or.inl rfl)) (pss_one (ps_set (i := 3) sc_bag.nd rfl (Or.inl rfl) (pe_op op_mod (pe_callTy cr_int1 (by rfl) T.z_int (by decide +kernel) (pa_cons (pe_op op_add (pe_op op_add (pe_op op_mul (pv 3) pe_int) (pe_op op_mod (pe_callTy cr_int1 (by rfl) T.z_int (by decide +kernel) (pa_cons (pv 4) pa_nil)) pe_int)) (pe_op op_mul pe_int (pv 1))) pa_nil)) pe_int))))
      (pss_cons (ps_set (i := 5) sc_bag.nd rfl (Or.inl rfl) (pe_ifExp (PW.pt (pw_or (pt_cmpR op_lt (pv 2) pe_int (nomark _)) (pw_or1 (pt_cmpR op_ge (pv 2) (pe_op op_pow pe_int pe_int) (nomark _))))) (pe_callB cr_abs (by rfl) T.z_abs (by decide +kernel) (pa_cons (pv 2) pa_nil)) pe_int))
      (pss_one (ps_ret (pe_lst (pa_cons (pv 5) (pa_cons (pe_op op_mod (pe_callTy cr_int1 (by rfl) T.z_int (by decide +kernel) (pa_cons (pe_op op_add (pv 3) (pe_op op_mul pe_int (pe_op op_mod (pe_callTy cr_int1 (by rfl) T.z_int (by decide +kernel) (pa_cons (pv 2) pa_nil)) pe_int))) pa_nil)) pe_int) (pa_cons pe_int pa_nil))))))))), ?_⟩
    walk_at "r"
    refine w_cutI (fun _ => True) (fun Q' all => ?_) (fun z _ => ?_)
    · refine w_tIf ?_
      walk_at "r"
      refine w_lenL hS ?_
      walk_at "r"
      refine w_iteD (fun c => ?_) (fun c => ?_)
      · walk_at "r"
        have hi2 : i < ns.length := by rw [List.length_map] at c; omega
        refine ⟨_, _, (i : Int), .int (ns[i]), rfl, rfl, hS, atI_nat (by rw [List.getElem?_map, List.getElem?_eq_getElem hi2]; rfl), ?_⟩
        walk_at "r"
        exact all _ trivial
      · walk_at "r"
        exact all _ trivial
    walk_at "r"
    -- the first seven numbers
    obtain ⟨zs, hz⟩ : ∃ zs : List Int, cutV (ns.map V.int) none (some 7) = zs.map V.int := by
      unfold cutV
      exact ⟨(ns.drop _).take _, by rw [List.map_take, List.map_drop]⟩
    refine ⟨c, _, rfl, hS, fun p hp => ⟨p, rfl, ⟨_, SqL.of upd_same⟩, for_leaf (walk_list (K := K) (a := p) (xs := zs.map V.int))
      (fun j σ' H' => H' = upd H p (.lst (cutV (ns.map V.int) none (some 7))) ∧ ∃ (sd : Int) (v : Option V), σ' = [some (.ref c), some (.int i), some (.int z), some (.int sd), v, none]) ⟨rfl, _, _, rfl⟩ (fun j σ' H' _ ⟨e, _⟩ => ?_) ?_ ?_⟩⟩
    · rw [e, hz]
      exact SqL.of upd_same
    · rintro j y σ' H' H2 hj2 ⟨e, sd, v, rfl⟩ ⟨rfl, hj⟩
      subst e
      obtain ⟨x, hx, rfl⟩ : ∃ x, zs[j]? = some x ∧ V.int x = y := by
        rw [List.getElem?_map] at hj
        cases q : zs[j]? with
        | none => rw [q] at hj; cases hj
        | some x => rw [q] at hj; exact ⟨x, rfl, Option.some.inj hj⟩
      walk_at "r"
      exact ⟨rfl, _, _, rfl⟩
    · rintro σ' H' ⟨e, sd, v, rfl⟩
      subst e
      walk_at "r"
      refine w_cutI (fun _ => True) (fun Q' all => ?_) (fun f _ => ?_)
      · refine w_tIf ?_
        walk_at "r"
        refine w_ite (fun _ => ?_) (fun _ => ?_)
        · refine iteT ?_
          walk_at "r"
          exact all _ trivial
        · walk_at "r"
          refine w_ite (fun _ => ?_) (fun _ => ?_)
          · walk_at "r"
            exact all _ trivial
          · walk_at "r"
            exact all _ trivial
      walk_at "r"
      refine w_newL (by show 3 ≤ 100000; decide) fun q H2 hq e2 h2 => ?_
      refine k q H2 ?_ ((w_new hp).trans e2) ⟨_, _, _, h2⟩
      exact (w_new hp).free hq
def spDraw : Sp := fun vs H Q _ => ∃ (b : Addr) (n : Int), vs = [.ref b, .int n] ∧ Bag H b ∧ 0 < n ∧ n ≤ 10 ^ 12 ∧ ∀ r H', 0 ≤ r → r < n → Kp b H H' → Q (.int r) H'
theorem ok_draw (T : Txt K mg a) : FnOk P w K mg base CX0 1 a.f_draw a.d_draw ["_law_bag_here", "_law_wide"] spDraw := by
  refine T.F_draw.ok sc_draw (fun vs H Q E h => ?_) (fun cdv A outer s H vs Q E hr h => ?_)
  · obtain ⟨b, n, rfl, _⟩ := h
    rfl
  · obtain ⟨b, n, rfl, hb, h0, h1, k⟩ := h
    obtain ⟨f, sd, m, hH⟩ := id hb
    refine ⟨_, (pss_cons (ps_asg (pe_op op_add (pe_ix ix_list (pv 0) pe_int (fun _ _ => rfl)) pe_int) (pg_sub (pv 0) pe_int set_list))
      (pss_cons (ps_if (pt_cmpR op_gt (pe_ix ix_list (pv 0) pe_int (fun _ _ => rfl)) pe_int (nomark _)) (pss_cons (ps_set (i := 2) sc_draw.nd rfl (Or.inl rfl) (pe_op op_mod (pe_callTy cr_int1 (by rfl) T.z_int (by decide +kernel) (pa_cons (pe_ix ix_list (pv 0) pe_int (fun _ _ => rfl)) pa_nil)) (pv 1)))
      (pss_cons (ps_asg (pe_op op_fdivW (pe_ix ix_list (pv 0) pe_int (fun _ _ => rfl)) (pv 1)) (pg_sub (pv 0) pe_int set_list))
      (pss_one (ps_ret (pv 2))))) pss_nil)
      (pss_cons (ps_set (i := 3) sc_draw.nd rfl (Or.inl rfl) (pe_op op_add (pe_callTy cr_int1 (by rfl) T.z_int (by decide +kernel) (pa_cons (pe_ix ix_list (pv 0) pe_int (fun _ _ => rfl)) pa_nil)) (pe_op op_mul pe_int (pe_ix ix_list (pv 0) pe_int (fun _ _ => rfl)))))
      (pss_cons (ps_set (i := 4) sc_draw.nd rfl (Or.inl rfl) (pe_op op_add (pe_op op_mod (pe_callTy cr_int1 (by rfl) T.z_int (by decide +kernel) (pa_cons (pv 3) pa_nil)) pe_int) pe_int))
      (pss_cons (ps_asg (pe_op op_mod (pe_callTy cr_int1 (by rfl) T.z_int (by decide +kernel) (pa_cons (pe_op op_add (pe_op op_add (pe_op op_mul (pv 3) (pv 4)) (pe_op op_mul pe_int (pe_ix ix_list (pv 0) pe_int (fun _ _ => rfl)))) pe_int) pa_nil)) pe_int) (pg_sub (pv 0) pe_int set_list))
      (pss_one (ps_ret (pe_op op_mod (pe_op op_fdivW (pe_callTy cr_int1 (by rfl) T.z_int (by decide +kernel) (pa_cons (pe_ix ix_list (pv 0) pe_int (fun _ _ => rfl)) pa_nil)) pe_int) (pv 1))))))))), ?_⟩
    have c1 : CDivW f n := wide_div (b := 64) h0 (Nat.lt_of_le_of_lt (show n.natAbs ≤ 10 ^ 12 by omega) (by decide)) (by decide) (by decide)
    have c2 : CDivW 0 523 := wide_div (b := 64) (by decide) (by decide) (by decide) (by decide)
    walk_at "r"
    refine w_iteD (fun c => ?_) (fun c => ?_)
    all_goals
      walk_at "r"
      refine k _ _ (Int.emod_nonneg _ (by omega)) (Int.emod_lt_of_pos _ h0) ?_
      rw [upd_upd]
      exact kp_upd hb
theorem draw_leaf {H : Hp} {Q : VK} {E : XK} {b : Addr} {n : Int} (hb : Bag H b) (h0 : 0 < n) (h1 : n ≤ 10 ^ 12) (k : ∀ r H', 0 ≤ r → r < n → Kp b H H' → Q (.int r) H') : spDraw [.ref b, .int n] H Q E := ⟨b, n, rfl, hb, h0, h1, k⟩
theorem KpSqL {H H' : Hp} {b l : Addr} {xs : List V} (k : Kp b H H') (ne : l ≠ b) (h : SqL K H l xs) : SqL K H' l xs := by
  rcases h with (h | ⟨o, h⟩) | h
  · exact .inl (.inl (k.keep _ _ ne h))
  · exact .inl (.inr ⟨o, k.keep _ _ ne h⟩)
  · exact .inr h
/-- one of the list's values, at a drawn place -/
def spOne : Sp := fun vs H Q _ => ∃ (b l : Addr) (xs : List V), vs = [.ref b, .ref l] ∧ Bag H b ∧ H l = some (.lst xs) ∧ l ≠ b ∧ 0 < xs.length ∧ xs.length < 1000 ∧ ∀ v H', v ∈ xs → Kp b H H' → Q v H'
theorem ok_one (T : Txt K mg a) : FnOk P w K mg base CX0 2 a.f_one a.d_one ["_law_bag_here", "_law_some"] spOne := by
  refine T.F_one.ok sc_one (fun vs H Q E h => ?_) (fun cdv A outer s H vs Q E hr h => ?_)
  · obtain ⟨b, l, xs, rfl, _⟩ := h
    rfl
  · obtain ⟨b, l, xs, rfl, hb, hl, hne, h0, h1, k⟩ := h
    refine ⟨_, (pss_one (ps_ret (pe_ix ix_list (pv 1) (pe_call (ok_draw T) (hr.mono (by decide)) (by rfl) T.m_draw T.F_draw.kp T.b_draw .nil pass0 (pa_cons (pv 0) (pa_cons (pe_callB cr_len (by rfl) T.z_len PySem.boot_len (pa_cons (pv 1) pa_nil)) pa_nil))) (fun _ _ => rfl)))), ?_⟩
    walk_at "r"
    refine w_lenL (SqL.of hl) ?_
    walk_at "r"
    refine ⟨b, (xs.length : Int), rfl, hb, by omega, by omega, fun r H1 r0 r1 k1 => ?_⟩
    have hr2 : r.toNat < xs.length := by omega
    refine ⟨_, xs, r, xs[r.toNat], rfl, rfl, SqL.of (k1.keep _ _ hne hl), at_of (by omega) (List.getElem?_eq_getElem hr2), ?_⟩
    exact k _ H1 (List.getElem_mem hr2) k1
theorem one_leaf {H : Hp} {Q : VK} {E : XK} {b l : Addr} {xs : List V} (hb : Bag H b) (hl : H l = some (.lst xs)) (ne : l ≠ b) (h0 : 0 < xs.length) (h1 : xs.length < 1000) (k : ∀ v H', v ∈ xs → Kp b H H' → Q v H') : spOne [.ref b, .ref l] H Q E := ⟨b, l, xs, rfl, hb, hl, ne, h0, h1, k⟩
/-- one of a tuple's values -/
def spOneT (K : PySem.W.Frag) : Sp := fun vs H Q _ => ∃ (b t : Addr) (xs : List V), vs = [.ref b, .ref t] ∧ Bag H b ∧ SqT K H t xs ∧ 0 < xs.length ∧ xs.length < 1000 ∧ ∀ v H', v ∈ xs → Kp b H H' → Q v H'
theorem ok_oneT (T : Txt K mg a) : FnOk P w K mg base CX0 2 a.f_one a.d_one ["_law_bag_here", "_law_some"] (spOneT K) := by
  refine T.F_one.ok sc_one (fun vs H Q E h => ?_) (fun cdv A outer s H vs Q E hr h => ?_)
  · obtain ⟨b, l, xs, rfl, _⟩ := h
    rfl
  · obtain ⟨b, l, xs, rfl, hb, hl, h0, h1, k⟩ := h
    refine ⟨_, (pss_one (ps_ret (pe_ix ix_tup (pv 1) (pe_call (ok_draw T) (hr.mono (by decide)) (by rfl) T.m_draw T.F_draw.kp T.b_draw .nil pass0 (pa_cons (pv 0) (pa_cons (pe_callB cr_len (by rfl) T.z_len PySem.boot_len (pa_cons (pv 1) pa_nil)) pa_nil))) (fun _ _ => rfl)))), ?_⟩
    walk_at "r"
    refine w_lenT hl ?_
    walk_at "r"
    refine ⟨b, (xs.length : Int), rfl, hb, by omega, by omega, fun r H1 r0 r1 k1 => ?_⟩
    have hr2 : r.toNat < xs.length := by omega
    refine ⟨_, xs, r, xs[r.toNat], rfl, rfl, k1.sqt hl, at_of (by omega) (List.getElem?_eq_getElem hr2), ?_⟩
    exact k _ H1 (List.getElem_mem hr2) k1
theorem oneT_leaf {H : Hp} {Q : VK} {E : XK} {b t : Addr} {xs : List V} (hb : Bag H b) (ht : SqT K H t xs) (h0 : 0 < xs.length) (h1 : xs.length < 1000) (k : ∀ v H', v ∈ xs → Kp b H H' → Q v H') : spOneT K [.ref b, .ref t] H Q E := ⟨b, t, xs, rfl, hb, ht, h0, h1, k⟩
/-- one of a text's letters -/
def spOneS : Sp := fun vs H Q _ => ∃ (b : Addr) (s : Str), vs = [.ref b, .str s] ∧ Bag H b ∧ 0 < s.cps.size ∧ s.cps.size < 1000 ∧ ∀ c H', c ∈ s.cps.toList → Kp b H H' → Q (.str ⟨#[c]⟩) H'
theorem ok_oneS (T : Txt K mg a) : FnOk P w K mg base CX0 2 a.f_one a.d_one ["_law_bag_here", "_law_some"] spOneS := by
  refine T.F_one.ok sc_one (fun vs H Q E h => ?_) (fun cdv A outer s H vs Q E hr h => ?_)
  · obtain ⟨b, s, rfl, _⟩ := h
    rfl
  · obtain ⟨b, s, rfl, hb, h0, h1, k⟩ := h
    refine ⟨_, (pss_one (ps_ret (pe_ix ix_str (pv 1) (pe_call (ok_draw T) (hr.mono (by decide)) (by rfl) T.m_draw T.F_draw.kp T.b_draw .nil pass0 (pa_cons (pv 0) (pa_cons (pe_callB cr_len (by rfl) T.z_len PySem.boot_len (pa_cons (pv 1) pa_nil)) pa_nil))) (fun _ _ => rfl)))), ?_⟩
    walk_at "r"
    refine w_lenS (by omega) ?_
    walk_at "r"
    refine draw_leaf hb (by show (0 : Int) < (s.cps.size : Nat); omega) (by show ((s.cps.size : Nat) : Int) ≤ 10 ^ 12; omega) fun r H1 r0 r1 k1 => ?_
    have hr2 : r.toNat < s.cps.toList.length := by rw [Array.length_toList]; omega
    refine ⟨s, r, s.cps.toList[r.toNat], rfl, rfl, Nat.le_trans (Nat.le_of_lt h1) (by decide), (congrArg (atI _) (Int.toNat_of_nonneg r0).symm).trans (atI_nat (List.getElem?_eq_getElem hr2)), ?_⟩
    exact k _ H1 (List.getElem_mem hr2) k1
theorem oneS_leaf {H : Hp} {Q : VK} {E : XK} {b : Addr} {s : Str} (hb : Bag H b) (h0 : 0 < s.cps.size) (h1 : s.cps.size < 1000) (k : ∀ c H', c ∈ s.cps.toList → Kp b H H' → Q (.str ⟨#[c]⟩) H') : spOneS [.ref b, .str s] H Q E := ⟨b, s, rfl, hb, h0, h1, k⟩
/-! ### drawn words -/
theorem KpGrown {b D : Addr} {xs : List V} {H G G' : Hp} (k : Kp b H G) (hD : H D = none) (n : D ≠ b) (g : Grown D xs G G') : Kp b H G' := by
  obtain ⟨f, s, m, hb⟩ := k.bag'
  exact ⟨k.bag, ⟨f, s, m, g.keep _ _ (fun z => n z.symm) hb⟩, fun c u hc h => g.keep _ _ (ne_of_none h hD) (k.keep c u hc h)⟩
theorem w_m1 {σ : L2.St} {H : Hp} {Q : VK} {r : V → List V → Hp → VK → Prop} {to te : TE} (h : to σ H fun x H1 => (∃ a, x = .str a) ∧ te σ H1 fun y H2 => r x [y] H2 Q) : tM1 r to te σ H Q := h
theorem join_tl (parts : List Str) : TL.tl (Txt.join "" parts) = (parts.map TL.tl).flatten := by
  rw [TL.join_eq, TL.tl_join]
  induction parts with
  | nil => rfl
  | cons p r ih =>
    cases r with
    | nil => show TL.tl p = [TL.tl p].flatten; simp
    | cons q r =>
      rw [List.map_cons, List.flatten_cons, ← ih]
      rfl
def sg (c : Nat) : Str := ⟨#[c]⟩
theorem join_sg (cs : List Nat) : (Txt.join "" (cs.map sg)).cps.toList = cs := by
  have := join_tl (cs.map sg)
  show TL.tl (Txt.join "" (cs.map sg)) = cs
  rw [this, List.map_map]
  induction cs with
  | nil => rfl
  | cons c r ih => show [c] ++ ((r.map (TL.tl ∘ sg)).flatten) = c :: r; rw [ih (join_tl _)]; rfl
theorem sgs_of {ys : List V} {Pc : Nat → Prop} (h : ∀ (i : Nat) (v : V), ys[i]? = some v → ∃ c, v = .str (sg c) ∧ Pc c) : ∃ cs : List Nat, ys = (cs.map sg).map V.str ∧ cs.length = ys.length ∧ ∀ c ∈ cs, Pc c := by
  induction ys with
  | nil => exact ⟨[], rfl, rfl, fun c h => by cases h⟩
  | cons y r ih =>
    obtain ⟨c, rfl, hc⟩ := h 0 y rfl
    obtain ⟨cs, rfl, hl, hp⟩ := ih fun i v hv => h (i + 1) v hv
    refine ⟨c :: cs, rfl, by rw [List.length_cons, List.length_cons, hl], fun d hd => ?_⟩
    rcases List.mem_cons.mp hd with rfl | hd
    · exact hc
    · exact hp d hd
def poolW : List Nat := [97, 98, 99, 100, 101, 104, 107, 108, 109, 110, 111, 112, 114, 115, 116, 117, 119, 121, 122]
def spcW : List Nat := [102, 103, 105, 106, 113, 118, 120]
def Plain (s : Str) : Prop := ∀ c ∈ s.cps.toList, c ∈ poolW
def Spc (i : Nat) (s : Str) : Prop := ∃ r c, s.cps.toList = r ++ [c] ∧ spcW[i]? = some c
/-- the words so far: words, no two alike, each plain or ended by its own sign -/
structure Fine (ws : List Str) : Prop where
  word : ∀ w ∈ ws, Word w
  nd : ws.Nodup
  how : ∀ (i : Nat) (w : Str), ws[i]? = some w → Plain w ∨ Spc i w
theorem nodup_snoc {ws : List Str} {w : Str} (h : ws.Nodup) (n : w ∉ ws) : (ws ++ [w]).Nodup := List.nodup_append.mpr ⟨h, by simp, fun a ha b hb => by
  rw [List.mem_singleton] at hb
  subst hb
  exact fun z => n (z ▸ ha)⟩
theorem Fine.snoc {ws : List Str} {w : Str} (f : Fine ws) (hw : Word w) (n : w ∉ ws) (q : Plain w ∨ Spc ws.length w) : Fine (ws ++ [w]) := by
  refine ⟨fun x hx => ?_, nodup_snoc f.nd n, fun i x hx => ?_⟩
  · rcases List.mem_append.mp hx with h | h
    · exact f.word x h
    · rw [List.mem_singleton] at h
      exact h ▸ hw
  · by_cases c : i < ws.length
    · rw [List.getElem?_append_left c] at hx
      exact f.how i x hx
    · rw [List.getElem?_append_right (by omega)] at hx
      have e : i = ws.length := by
        have := (List.getElem?_eq_some_iff.mp hx).1
        simp at this
        omega
      subst e
      simp at hx
      subst hx
      exact q
theorem spc_inj : ∀ i j : Nat, i < 7 → j < 7 → ∀ c, spcW[i]? = some c → spcW[j]? = some c → i = j := by
  intro i j hi hj c h1 h2
  have nd : spcW.Nodup := by decide
  exact (List.getElem?_inj (l := spcW) (by exact hi) nd).mp (h1.trans h2.symm)
theorem spc_new {ws : List Str} {w : Str} (f : Fine ws) (q : Spc ws.length w) : w ∉ ws := fun m => by
  obtain ⟨i, hi⟩ := List.getElem?_of_mem m
  have li : i < ws.length := (List.getElem?_eq_some_iff.mp hi).1
  obtain ⟨r, c, e, hc⟩ := q
  have lc : ws.length < 7 := (List.getElem?_eq_some_iff.mp hc).1
  rcases f.how i w hi with p | ⟨r2, c2, e2, hc2⟩
  · have z := p c (by rw [e]; simp)
    have : c ∈ spcW := List.mem_of_getElem? hc
    revert z
    revert this
    clear hc e
    unfold spcW poolW
    intro h1 h2
    simp at h1 h2
    omega
  · have z : c = c2 := by
      rw [e] at e2
      have := congrArg List.getLast? e2
      simpa using this
    subst z
    have := spc_inj i ws.length (by omega) lc c hc2 hc
    omega
theorem cutS7 (s : Str) : (cutS s none (some 7)).cps.toList = s.cps.toList.take 7 := by
  have hl : s.length = s.cps.toList.length := (Array.length_toList).symm
  show (((s.cps.toList.drop (HT.sIx s.length 0 none)).take (HT.sIx s.length s.length (some 7) - HT.sIx s.length 0 none)).toArray).toList = _
  rw [hl, show (some (7 : Int)) = some ((7 : Nat) : Int) from rfl, HT.sIx_nat, HT.sIx_none]
  generalize s.cps.toList = l
  rw [List.drop_zero, Nat.sub_zero]
  by_cases c : 7 ≤ l.length
  · rw [Nat.min_eq_left c]
  · rw [Nat.min_eq_right (by omega), List.take_of_length_le (Nat.le_refl _), List.take_of_length_le (by omega)]
theorem at_sp {i c : Nat} (h : spcW[i]? = some c) : atI ("fgijqvx" : Str).cps.toList ((0 : Int) + (i : Int)) = some c := by
  rw [show (0 : Int) + (i : Int) = (i : Int) by omega]
  exact atI_nat h
def spWords (K : PySem.W.Frag) : Sp := fun vs H Q _ => ∃ (b : Addr) (m : Nat), vs = [.ref b, .int m] ∧ Bag H b ∧ 1 ≤ m ∧ m ≤ 6 ∧ ∀ t ws H', Kp b H H' → SqT K H' t (ws.map V.str) → ws.length = m → GoodParts ws → Q (.ref t) H'
theorem ok_words (T : Txt K mg a) : FnOk P w K mg base CX0 3 a.f_words a.d_words ["_law_bag_here", "_law_many"] (spWords K) := by
  refine T.F_words.ok sc_words (fun vs H Q E h => ?_) (fun cdv A outer s H vs Q E hr h => ?_)
  · obtain ⟨b, m, rfl, _⟩ := h
    rfl
  · obtain ⟨b, m, rfl, hb, h0, h1, k⟩ := h
    refine ⟨_, (pss_cons (ps_set (i := 2) sc_words.nd rfl (Or.inl rfl) (pe_lst pa_nil))
      (pss_cons (ps_for PassesOwn.never rfl (pi_range1 (by rfl) T.z_range (pa_cons (pv 1) pa_nil)) (pg_name (i := 3) sc_words.nd rfl (Or.inl rfl)) (pss_cons (ps_set (i := 4) sc_words.nd rfl (Or.inl rfl) (pe_join pe_str (pe_lc (own := [("_law_k", 5)]) (g := gName 5) (tt := tYes) rfl sc_words.nd (pi_range1 (by rfl) T.z_range (pa_cons (pe_op op_add pe_int (pe_call (ok_draw T) (hr.mono (by decide)) (by rfl) T.m_draw T.F_draw.kp T.b_draw .nil pass0 (pa_cons (pv 0) (pa_cons pe_int pa_nil)))) pa_nil)) (blkOk_by (own := [("_law_k", 5)]) (N := ["_law_bag_here", "_law_many", "_law_found", "_law_turn", "_law_made", "_law_k"]) (sc := defScope s_words) (by decide +kernel)) (fun _ _ _ _ _ => pg_name (i := 5) sc_words.nd rfl (Or.inl rfl)) (fun _ _ _ _ _ => pts_nil) (fun _ _ _ _ _ => by exact (pe_call (ok_oneS T) (hr.mono (by decide)) (by rfl) T.m_one T.F_one.kp T.b_one .nil pass0 (pa_cons (pv 0) (pa_cons pe_str pa_nil)))))))
      (pss_cons (ps_if (pt_cmpR op_in_seq (pv 4) (pv 2) (by rfl)) (pss_one (ps_set (i := 4) sc_words.nd rfl (Or.inl rfl) (pe_op op_add_str (pe_slice sl_str (pv 4) po_none (po_some pe_int)) (pe_ix ix_str pe_str (pv 3) (fun _ _ => rfl))))) pss_nil)
      (pss_one (ps_expr (pe_bm PySem.F.plainAttrs_list PySem.F.slot_list_append PySem.F.type_list_append mt_append (pv 2) (pa_cons (pv 4) pa_nil)))))))
      (pss_one (ps_ret (pe_callTy call_tuple_of (by rfl) T.z_tuple (by decide +kernel) (pa_cons (pv 2) pa_nil)))))), ?_⟩
    walk_at "r"
    refine w_newL (by show 0 ≤ 100000; decide) fun D H1 nD e1 h1 => ?_
    walk_at "r"
    have ne := bag_ne hb nD
    refine ⟨m, rfl, by omega, by omega, for_leaf (walk_range (lo := 0) (n := m)) (fun i σ' G => ∃ ws : List Str, Kp b H G ∧ G D = some (.lst (ws.map V.str)) ∧ ws.length = i ∧ Fine ws ∧ ∃ v3 v4 : Option V, σ' = [some (.ref b), some (.int m), some (.ref D), v3, v4, none]) ⟨[], .of hb e1, h1, rfl, ⟨fun w h => absurd h List.not_mem_nil, List.nodup_nil, fun i w h => by simp at h⟩, _, _, rfl⟩ (fun _ _ _ _ _ => trivial) ?_ ?_⟩
    · rintro i z σ' G G' hi ⟨ws, kp, h2, hl, fi, v3, v4, rfl⟩ ⟨rfl, rfl⟩
      walk_at "r"
      refine w_m1 ?_
      walk_at "r"
      refine ⟨⟨_, rfl⟩, ?_⟩
      walk_at "r"
      refine draw_leaf kp.bag' (by show (0 : Int) < 6; decide) (by show (6 : Int) ≤ 10 ^ 12; decide) fun r G2 r0 r1 k2 => ?_
      walk_at "r"
      have kp2 := kp.trans k2
      refine ⟨2 + r, rfl, by omega, by omega, cmK kp2.bag' (walk_range (lo := 0) (n := (2 + r).toNat)) (by omega) (fun _ _ => trivial) (fun _ v _ => ∃ c, v = .str (sg c) ∧ c ∈ poolW) (fun _ _ _ _ _ h => h) (fun j x G3 G4 hj k3 hy Q' kq => ?_) (fun L ys G3 nL k3 h3 hn hP => ?_)⟩
      · obtain ⟨rfl, rfl⟩ := hy
        walk_at "r"
        refine ⟨rfl, ?_⟩
        walk_at "r"
        exact oneS_leaf k3.bag' (by decide) (by decide) fun c G5 hc k5 => kq _ _ k5 ⟨c, rfl, hc⟩
      obtain ⟨cs, rfl, hl2, hcs⟩ := sgs_of hP
      walk_at "r"
      have hcl : cs.length ≤ 8 := by rw [hl2, hn]; omega
      have hcl2 : 2 ≤ cs.length := by rw [hl2, hn]; omega
      refine ⟨"", L, cs.map sg, rfl, rfl, .inl (.inl (.inl h3)), ?_, ?_⟩
      · have z : ∀ l : List Nat, ((l.map sg).map fun x => x.length).sum = l.length := fun l => by
          induction l with
          | nil => rfl
          | cons c r ih => rw [List.map_cons, List.map_cons, List.sum_cons, ih, List.length_cons]; show 1 + _ = _; omega
        rw [z]
        show _ + _ * 0 ≤ _
        omega
      have jl := join_sg cs
      revert jl
      generalize Txt.join "" (cs.map sg) = made
      intro jl
      have kp3 := kp2.trans k3
      have hD3 := k3.keep _ _ ne (k2.keep _ _ ne h2)
      have wd : Word made := by
        have e : made.cps.size = cs.length := by rw [← Array.length_toList, jl]
        refine ⟨by omega, by omega, fun c hc => ?_⟩
        rw [jl] at hc
        have := hcs c hc
        unfold poolW at this
        simp at this
        omega
      walk_at "r"
      refine in_leaf (.inl (.inl (.inl hD3))) ?_
      have wl : (ws.map V.str).length ≤ 1000 := by rw [List.length_map]; omega
      by_cases mm : made ∈ ws
      · rw [decide_eq_true mm]
        refine ⟨true, rfl, iteT ?_⟩
        walk_at "r"
        refine ⟨made, rfl, Nat.le_trans wd.2.1 (by decide), ?_⟩
        walk_at "r"
        have hi7 : i < spcW.length := by show i < 7; omega
        refine ⟨"fgijqvx", _, spcW[i], rfl, rfl, by decide, at_sp (List.getElem?_eq_getElem hi7), ?_⟩
        walk_at "r"
        have c7 : (cutS made none (some 7)).cps.toList = made.cps.toList.take 7 := cutS7 made
        have c8 : (cutS made none (some 7)).length ≤ 7 := by
          show (cutS made none (some 7)).cps.size ≤ 7
          rw [← Array.length_toList, c7, List.length_take]
          omega
        refine ⟨_, _, rfl, rfl, Nat.le_trans (show (cutS made none (some 7)).length + 1 ≤ 8 by omega) (by decide), ?_⟩
        walk_at "r"
        have tl2 : (cutS made none (some 7) ++ (⟨#[spcW[i]]⟩ : Str)).cps.toList = made.cps.toList.take 7 ++ [spcW[i]] := by
          have := TL.tl_append (cutS made none (some 7)) (⟨#[spcW[i]]⟩ : Str)
          rw [← c7]
          exact this
        revert tl2
        generalize cutS made none (some 7) ++ (⟨#[spcW[i]]⟩ : Str) = made2
        intro tl2
        refine ⟨.inl ⟨rfl, _, .inl (.inl hD3)⟩, ?_⟩
        walk_at "r"
        refine w_app hD3 wl fun G5 g => ?_
        have sp : Spc ws.length made2 := ⟨_, _, tl2, by rw [hl]; exact List.getElem?_eq_getElem hi7⟩
        have wd2 : Word made2 := by
          have e : made2.cps.size = (made.cps.toList.take 7).length + 1 := by rw [← Array.length_toList, tl2, List.length_append]; rfl
          have e2 : made.cps.size = cs.length := by rw [← Array.length_toList, jl]
          rw [List.length_take, Array.length_toList] at e
          refine ⟨by omega, by omega, fun c hc => ?_⟩
          rw [tl2] at hc
          rcases List.mem_append.mp hc with h | h
          · exact wd.2.2 c (List.mem_of_mem_take h)
          · rw [List.mem_singleton] at h
            rw [h]
            have : ∀ x ∈ spcW, 97 ≤ x ∧ x ≤ 122 := by decide
            exact this _ (List.getElem_mem hi7)
        exact ⟨ws ++ [made2], KpGrown kp3 nD ne g, by rw [g.at_, List.map_append]; rfl, by rw [List.length_append, hl]; rfl, fi.snoc wd2 (spc_new fi sp) (.inr sp), _, _, rfl⟩
      · rw [decide_eq_false mm]
        refine ⟨false, rfl, iteF ?_⟩
        walk_at "r"
        refine ⟨.inl ⟨rfl, _, .inl (.inl hD3)⟩, ?_⟩
        walk_at "r"
        refine w_app hD3 wl fun G5 g => ?_
        exact ⟨ws ++ [made], KpGrown kp3 nD ne g, by rw [g.at_, List.map_append]; rfl, by rw [List.length_append, hl]; rfl, fi.snoc wd mm (.inl fun c hc => hcs c (by rw [← jl]; exact hc)), _, _, rfl⟩
    · rintro σ' G ⟨ws, kp, h2, hl, fi, v3, v4, rfl⟩
      walk_at "r"
      refine ⟨D, _, rfl, .inl ⟨.inl (.inl h2), fun t nt => ?_⟩⟩
      subst hl
      exact k t ws _ (kp.trans (.of kp.bag' (w_new nt))) (SqT.of upd_same) rfl ⟨h0, h1, fi.word, fi.nd⟩/-! ### drawn letters -/
def sgV (l : List Nat) : List V := (l.map sg).map V.str
theorem sgV_eq (z : Str) : (z.cps.toList.map fun c => V.str ⟨#[c]⟩) = sgV z.cps.toList := by unfold sgV; rw [List.map_map]; rfl
theorem sgV_erase (l : List Nat) (k : Nat) : (sgV l).eraseIdx k = sgV (l.eraseIdx k) := by
  induction l generalizing k with
  | nil => rfl
  | cons c r ih =>
    cases k with
    | zero => rfl
    | succ k => show V.str (sg c) :: (sgV r).eraseIdx k = _; rw [ih]; rfl
theorem take_perm {l : List Nat} {k : Nat} (h : k < l.length) : ([l[k]] ++ l.eraseIdx k).Perm l := by
  induction l generalizing k with
  | nil => cases h
  | cons c r ih =>
    cases k with
    | zero => exact List.Perm.refl _
    | succ k =>
      have hk : k < r.length := by simpa using h
      have := ih hk
      show (r[k] :: c :: r.eraseIdx k).Perm (c :: r)
      exact (List.Perm.swap _ _ _).trans (List.Perm.cons c this)
theorem len_sgs (l : List Nat) : ((l.map sg).map fun x => x.length).sum = l.length := by
  induction l with
  | nil => rfl
  | cons c r ih => rw [List.map_cons, List.map_cons, List.sum_cons, ih, List.length_cons]; show 1 + _ = _; omega
theorem sgs_perm {ys : List Str} {l : List Nat} (h : ys.Perm (l.map sg)) : ∃ cs : List Nat, ys = cs.map sg ∧ cs.Perm l := by
  refine ⟨ys.map fun s => s.cps.toList.headD 0, ?_, ?_⟩
  · rw [List.map_map]
    have : ∀ y ∈ ys, (sg ∘ fun s : Str => s.cps.toList.headD 0) y = y := fun y hy => by
      obtain ⟨c, _, rfl⟩ := List.mem_map.mp (h.mem_iff.mp hy)
      rfl
    rw [List.map_congr_left this, List.map_id']
  · have := h.map fun s => s.cps.toList.headD 0
    rw [List.map_map, show ((fun s : Str => s.cps.toList.headD 0) ∘ sg) = id from rfl, List.map_id] at this
    exact this
theorem lt1c (x y : Nat) : ltCps [x] [y] = decide (x < y) := by
  show (decide (x < y) || (x == y && false)) = _
  rw [Bool.and_false, Bool.or_false]
theorem rise_from : ∀ (cs : List Nat) (p : Nat), risingS (sg p) (cs.map sg) = true → (p :: cs).Nodup → (p :: cs).Pairwise (· < ·)
  | [], p, _, _ => List.pairwise_singleton _ _
  | c :: r, p, h, nd => by
    have h : (!ltCps [c] [p] && risingS (sg c) (r.map sg)) = true := h
    rw [Bool.and_eq_true, lt1c, Bool.not_eq_true', decide_eq_false_iff_not] at h
    have nd2 := List.nodup_cons.mp nd
    have ih := rise_from r c h.2 nd2.2
    have lt : p < c := by
      have : p ≠ c := fun z => nd2.1 (by rw [z]; exact List.mem_cons_self ..)
      omega
    refine List.pairwise_cons.mpr ⟨fun x hx => ?_, ih⟩
    rcases List.mem_cons.mp hx with rfl | hx
    · exact lt
    · exact Nat.lt_trans lt ((List.pairwise_cons.mp ih).1 x hx)
theorem sgs_rise {cs : List Nat} (h : sortedS (cs.map sg) = true) (nd : cs.Nodup) : cs.Pairwise (· < ·) := by
  cases cs with
  | nil => exact List.Pairwise.nil
  | cons c r => exact rise_from r c h nd
/-- many different letters of the pool, in order -/
def spLetters : Sp := fun vs H Q _ => ∃ (b : Addr) (z : Str) (m : Nat), vs = [.ref b, .str z, .int m] ∧ Bag H b ∧ z.cps.toList.Nodup ∧ z.cps.size ≤ 20 ∧ m ≤ z.cps.size ∧ ∀ (s : Str) H', Kp b H H' → s.cps.size = m → (∀ c ∈ s.cps.toList, c ∈ z.cps.toList) → s.cps.toList.Pairwise (· < ·) → Q (.str s) H'
theorem ok_letters (T : Txt K mg a) : FnOk P w K mg base CX0 2 a.f_letters a.d_letters ["_law_bag_here", "_law_pool", "_law_many"] spLetters := by
  refine T.F_letters.ok sc_letters (fun vs H Q E h => ?_) (fun cdv A outer s H vs Q E hr h => ?_)
  · obtain ⟨b, z, m, rfl, _⟩ := h
    rfl
  · obtain ⟨b, z, m, rfl, hb, nd, sz, hm, k⟩ := h
    refine ⟨_, (pss_cons (ps_par (i := 3) (j := 4) (by rfl) sc_letters.nd rfl rfl (by decide) rfl rfl (pa_cons (pe_callTy (cr_listS rfl) (by rfl) T.z_list (by decide +kernel) (pa_cons (pv 1) pa_nil)) (pa_cons (pe_lst pa_nil) pa_nil)) (by rfl))
      (pss_cons (ps_for PassesOwn.never rfl (pi_range1 (by rfl) T.z_range (pa_cons (pv 2) pa_nil)) (pg_name (i := 5) sc_letters.nd rfl (Or.inl rfl)) (pss_one (ps_expr (pe_bm PySem.F.plainAttrs_list PySem.F.slot_list_append PySem.F.type_list_append mt_append (pv 4) (pa_cons (pe_bm PySem.F.plainAttrs_list PySem.F.slot_list_pop PySem.F.type_list_pop mt_popAt (pv 3) (pa_cons (pe_call (ok_draw T) (hr.mono (by decide)) (by rfl) T.m_draw T.F_draw.kp T.b_draw .nil pass0 (pa_cons (pv 0) (pa_cons (pe_callB cr_len (by rfl) T.z_len PySem.boot_len (pa_cons (pv 3) pa_nil)) pa_nil))) pa_nil)) pa_nil)))))
      (pss_one (ps_ret (pe_join pe_str (pe_callB cr_sortedS (by rfl) T.z_sorted (by decide +kernel) (pa_cons (pv 4) pa_nil))))))), ?_⟩
    walk_at "r"
    refine ⟨z, rfl, by omega, fun L nL => ?_⟩
    walk_at "r"
    refine w_newL (by show 0 ≤ 100000; decide) fun D H1 nD e1 h1 => ?_
    walk_at "r"
    have nD' : H D = none := by
      cases q : H D with
      | none => rfl
      | some o =>
        have : D ≠ L := fun z => by rw [z, nL] at q; cases q
        rw [upd_ne this, q] at nD
        cases nD
    have neDL : D ≠ L := fun z => by rw [z, upd_same] at nD; cases nD
    have nbL := bag_ne hb nL
    have nbD := bag_ne hb nD'
    refine ⟨m, rfl, by omega, by omega, for_leaf (walk_range (lo := 0) (n := m)) (fun i σ' G => ∃ lf fd : List Nat, Kp b H G ∧ G L = some (.lst (sgV lf)) ∧ G D = some (.lst (sgV fd)) ∧ fd.length = i ∧ (fd ++ lf).Perm z.cps.toList ∧ ∃ v5 : Option V, σ' = [some (.ref b), some (.str z), some (.int m), some (.ref L), some (.ref D), v5]) ⟨z.cps.toList, [], .of hb ((w_new nL).trans e1), by rw [e1 _ _ upd_same, sgV_eq], h1, rfl, List.Perm.refl _, _, rfl⟩ (fun _ _ _ _ _ => trivial) ?_ ?_⟩
    · rintro i y σ' G G' hi ⟨lf, fd, kp, hL, hD, hl, pm, v5, rfl⟩ ⟨rfl, rfl⟩
      have ln : fd.length + lf.length = z.cps.size := by rw [← List.length_append, pm.length_eq, Array.length_toList]
      walk_at "r"
      refine ⟨.inl ⟨rfl, _, .inl (.inl hD)⟩, ?_⟩
      walk_at "r"
      refine ⟨.inl ⟨rfl, _, .inl (.inl hL)⟩, ?_⟩
      walk_at "r"
      refine w_lenL (.inl (.inl hL)) ?_
      walk_at "r"
      have lL : (sgV lf).length = lf.length := by unfold sgV; rw [List.length_map, List.length_map]
      have lD : (sgV fd).length = fd.length := by unfold sgV; rw [List.length_map, List.length_map]
      refine draw_leaf kp.bag' (by omega) (by omega) fun r G2 r0 r1 k2 => ?_
      walk_at "r"
      have hr2 : r.toNat < lf.length := by omega
      have ix : ixN (sgV lf).length r = some r.toNat := by unfold ixN; rw [if_pos r0, if_pos r1]
      have hy : (sgV lf)[r.toNat]? = some (.str (sg lf[r.toNat])) := by unfold sgV; rw [List.getElem?_map, List.getElem?_map, List.getElem?_eq_getElem hr2]; rfl
      have hL2 := k2.keep _ _ nbL hL
      have hD2 := k2.keep _ _ nbD hD
      refine ⟨L, sgV lf, r, r.toNat, _, rfl, rfl, hL2, by omega, by omega, (ixN_seq ix).1, hy, ?_⟩
      walk_at "r"
      refine w_app (by rw [upd_ne neDL]; exact hD2) (by omega) fun G5 g => ?_
      have hL3 : G5 L = some (.lst (sgV (lf.eraseIdx r.toNat))) := by rw [← sgV_erase]; exact g.keep _ _ (fun z => neDL z.symm) upd_same
      exact ⟨lf.eraseIdx r.toNat, fd ++ [lf[r.toNat]], KpGrown ((kp.trans k2).putNew nL nbL) nD' nbD g, hL3, by rw [g.at_]; unfold sgV; rw [List.map_append, List.map_append]; rfl, by rw [List.length_append, hl]; rfl, (by rw [List.append_assoc]; exact (List.Perm.append_left fd (take_perm hr2)).trans pm), _, rfl⟩
    · rintro σ' G ⟨lf, fd, kp, hL, hD, hl, pm, v5, rfl⟩
      walk_at "r"
      refine w_m1 ?_
      walk_at "r"
      refine ⟨⟨_, rfl⟩, ?_⟩
      walk_at "r"
      refine ⟨D, fd.map sg, rfl, .inl (.inl hD), by rw [List.length_map]; omega, fun ys p pm2 srt np => ?_⟩
      obtain ⟨cs, rfl, pc⟩ := sgs_perm pm2
      refine ⟨"", p, cs.map sg, rfl, rfl, .inl (.inl (.inl upd_same)), by rw [len_sgs]; have := pc.length_eq; show _ + _ * 0 ≤ _; omega, ?_⟩
      have jl := join_sg cs
      revert jl
      generalize Txt.join "" (cs.map sg) = made
      intro jl
      have nd2 := pm.nodup_iff.mpr nd
      have nd3 := pc.nodup_iff.mpr (List.nodup_append.mp nd2).1
      refine k made _ (kp.trans (.of kp.bag' (w_new np))) ?_ ?_ ?_
      · rw [← Array.length_toList, jl, pc.length_eq, hl]
      · intro c hc
        rw [jl] at hc
        exact (pm.mem_iff).mp (List.mem_append_left _ (pc.mem_iff.mp hc))
      · rw [jl]
        exact sgs_rise srt nd3
theorem letters_leaf {H : Hp} {Q : VK} {E : XK} {b : Addr} {z : Str} {m : Nat} (hb : Bag H b) (nd : z.cps.toList.Nodup) (sz : z.cps.size ≤ 20) (hm : m ≤ z.cps.size) (k : ∀ (s : Str) H', Kp b H H' → s.cps.size = m → (∀ c ∈ s.cps.toList, c ∈ z.cps.toList) → s.cps.toList.Pairwise (· < ·) → Q (.str s) H') : spLetters [.ref b, .str z, .int m] H Q E := ⟨b, z, m, rfl, hb, nd, sz, hm, k⟩
theorem words_leaf {H : Hp} {Q : VK} {E : XK} {b : Addr} {m : Nat} (hb : Bag H b) (h0 : 1 ≤ m) (h1 : m ≤ 6) (k : ∀ t ws H', Kp b H H' → SqT K H' t (ws.map V.str) → ws.length = m → GoodParts ws → Q (.ref t) H') : spWords K [.ref b, .int m] H Q E := ⟨b, m, rfl, hb, h0, h1, k⟩
/-! ### drawn cords -/
structure Drawn (ps : List Str) (es : List Tie3) (k j : Nat) : Prop where
  few : es.length ≤ 10
  each : ∀ t ∈ es, ∃ (j' k' : Nat) (x y : Str), j' < k' ∧ (k' < k ∨ (k' = k ∧ j' < j)) ∧ ps[j']? = some x ∧ ps[k']? = some y ∧ ((t.1 = x ∧ t.2.1 = y) ∨ (t.1 = y ∧ t.2.1 = x)) ∧ 0 ≤ t.2.2 ∧ t.2.2 ≤ 20
  apart : es.Pairwise fun t u => ¬ Meet t u
theorem Drawn.next {ps : List Str} {es : List Tie3} {k j : Nat} (d : Drawn ps es k j) : Drawn ps es k (j + 1) := ⟨d.few, fun t h => let ⟨j', k', x, y, a, b, c⟩ := d.each t h; ⟨j', k', x, y, a, by omega, c⟩, d.apart⟩
theorem Drawn.line {ps : List Str} {es : List Tie3} {k : Nat} (d : Drawn ps es k k) : Drawn ps es (k + 1) 0 := ⟨d.few, fun t h => let ⟨j', k', x, y, a, b, c⟩ := d.each t h; ⟨j', k', x, y, a, by omega, c⟩, d.apart⟩
theorem Drawn.snoc {ps : List Str} {es : List Tie3} {k j : Nat} (d : Drawn ps es k j) (nd : ps.Nodup) (l : es.length < 10) (lt : j < k) {t : Tie3} {x y : Str} (hx : ps[j]? = some x) (hy : ps[k]? = some y) (ht : (t.1 = x ∧ t.2.1 = y) ∨ (t.1 = y ∧ t.2.1 = x)) (h0 : 0 ≤ t.2.2) (h1 : t.2.2 ≤ 20) : Drawn ps (es ++ [t]) k (j + 1) := by
  refine ⟨by rw [List.length_append]; exact l, fun u hu => ?_, List.pairwise_append.mpr ⟨d.apart, List.pairwise_singleton _ _, fun u hu v hv m => ?_⟩⟩
  · rcases List.mem_append.mp hu with h | h
    · exact d.next.each u h
    · rw [List.mem_singleton] at h
      subst h
      exact ⟨j, k, x, y, lt, by omega, hx, hy, ht, h0, h1⟩
  · rw [List.mem_singleton] at hv
    subst hv
    obtain ⟨j', k', x', y', a, b, hx', hy', e, _⟩ := d.each u hu
    have z : (x' = x ∧ y' = y) ∨ (x' = y ∧ y' = x) := by
      rcases e with ⟨e1, e2⟩ | ⟨e1, e2⟩ <;> rcases ht with ⟨t1, t2⟩ | ⟨t1, t2⟩ <;> rcases m with ⟨m1, m2⟩ | ⟨m1, m2⟩ <;> simp only [e1, e2, t1, t2] at m1 m2 <;> first | exact .inl ⟨m1, m2⟩ | exact .inl ⟨m2, m1⟩ | exact .inr ⟨m1, m2⟩ | exact .inr ⟨m2, m1⟩
    rcases z with ⟨z1, z2⟩ | ⟨z1, z2⟩
    · subst z1 z2
      have := nd_ix nd hx' hx
      have := nd_ix nd hy' hy
      omega
    · subst z1 z2
      have := nd_ix nd hx' hy
      have := nd_ix nd hy' hx
      omega
theorem Drawn.good {ps : List Str} {es : List Tie3} {k j : Nat} (d : Drawn ps es k j) (nd : ps.Nodup) : GoodTies ps es := by
  refine ⟨d.few, fun t h => ?_, fun t h => ?_, fun t h => ?_, fun t h => ?_, fun t h => ?_, d.apart⟩
  all_goals obtain ⟨j', k', x, y, a, b, hx, hy, e, h0, h1⟩ := d.each t h
  · rcases e with ⟨e1, e2⟩ | ⟨e1, e2⟩ <;> rw [e1]
    · exact List.mem_of_getElem? hx
    · exact List.mem_of_getElem? hy
  · rcases e with ⟨e1, e2⟩ | ⟨e1, e2⟩ <;> rw [e2]
    · exact List.mem_of_getElem? hy
    · exact List.mem_of_getElem? hx
  · intro z
    have xy : x = y := by
      rcases e with ⟨e1, e2⟩ | ⟨e1, e2⟩ <;> rw [e1, e2] at z
      · exact z
      · exact z.symm
    subst xy
    have := nd_ix nd hx hy
    omega
  · exact h0
  · omega
theorem w_cutV {te : TE} {σ : L2.St} {H : Hp} {Q : VK} (Inv : V → Hp → Prop) (h1 : ∀ Q' : VK, (∀ v H', Inv v H' → Q' v H') → te σ H Q') (h2 : ∀ v H', Inv v H' → Q v H') : te σ H Q := h1 Q h2
theorem walk_rng0 {n : Nat} : Walk (Itr 0 n) n (fun _ => True) (YFn fun i => .int (i : Nat)) where
  goes := fun i H hi q => (walk_range (lo := 0) (n := n)).goes i H hi q
  stops := fun H q => (walk_range (lo := 0) (n := n)).stops H q
  yields := fun i H v H' hi q y => by
    have := (walk_range (lo := 0) (n := n)).yields i H v H' hi q y
    refine ⟨this.1, this.2.trans ?_⟩
    show V.int (0 + (i : Int)) = V.int (i : Int)
    rw [Int.zero_add]
def spCords (K : PySem.W.Frag) : Sp := fun vs H Q _ => ∃ (b t : Addr) (ps : List Str), vs = [.ref b, .ref t] ∧ Bag H b ∧ SqT K H t (ps.map V.str) ∧ ps.Nodup ∧ ps.length ≤ 6 ∧ ∀ u es H', Kp b H H' → Rws K H' u (es.map tieV) → GoodTies ps es → (∀ t ∈ es, t.2.2 ≤ 20) → Q (.ref u) H'
theorem ok_cords (T : Txt K mg a) : FnOk P w K mg base CX0 3 a.f_cords a.d_cords ["_law_bag_here", "_law_limbs"] (spCords K) := by
  refine T.F_cords.ok sc_cords (fun vs H Q E h => ?_) (fun cdv A outer s H vs Q E hr h => ?_)
  · obtain ⟨b, t, ps, rfl, _⟩ := h
    rfl
  · obtain ⟨b, t, ps, rfl, hb, ht, nd, l6, k⟩ := h
    refine ⟨_, (pss_cons (ps_set (i := 2) sc_cords.nd rfl (Or.inl rfl) (pe_lst pa_nil))
      (pss_cons (ps_for PassesOwn.never rfl (pi_range1 (by rfl) T.z_range (pa_cons (pe_callB cr_len (by rfl) T.z_len PySem.boot_len (pa_cons (pv 1) pa_nil)) pa_nil)) (pg_name (i := 3) sc_cords.nd rfl (Or.inl rfl)) (pss_one (ps_for PassesOwn.never rfl (pi_range1 (by rfl) T.z_range (pa_cons (pv 3) pa_nil)) (pg_name (i := 4) sc_cords.nd rfl (Or.inl rfl)) (pss_one (ps_if (PW.pt (pw_and (pt_cmpR op_lt (pe_call (ok_draw T) (hr.mono (by decide)) (by rfl) T.m_draw T.F_draw.kp T.b_draw .nil pass0 (pa_cons (pv 0) (pa_cons pe_int pa_nil))) pe_int (nomark _)) (pw_and1 (pt_cmpR op_lt (pe_callB cr_len (by rfl) T.z_len PySem.boot_len (pa_cons (pv 2) pa_nil)) pe_int (nomark _))))) (pss_cons (ps_set (i := 5) sc_cords.nd rfl (Or.inl rfl) (pe_ifExp (pt_cmpR op_eq (pe_call (ok_draw T) (hr.mono (by decide)) (by rfl) T.m_draw T.F_draw.kp T.b_draw .nil pass0 (pa_cons (pv 0) (pa_cons pe_int pa_nil))) pe_int (nomark _)) (pe_tup (pa_cons (pe_ix ix_tup (pv 1) (pv 4) (fun _ _ => rfl)) (pa_cons (pe_ix ix_tup (pv 1) (pv 3) (fun _ _ => rfl)) pa_nil))) (pe_tup (pa_cons (pe_ix ix_tup (pv 1) (pv 3) (fun _ _ => rfl)) (pa_cons (pe_ix ix_tup (pv 1) (pv 4) (fun _ _ => rfl)) pa_nil)))))
      (pss_one (ps_expr (pe_bm PySem.F.plainAttrs_list PySem.F.slot_list_append PySem.F.type_list_append mt_append (pv 2) (pa_cons (pe_op op_catT (pv 5) (pe_tup (pa_cons (pe_call (ok_one T) (hr.mono (by decide)) (by rfl) T.m_one T.F_one.kp T.b_one .nil pass0 (pa_cons (pv 0) (pa_cons (pe_lst (pa_cons pe_int (pa_cons pe_int (pa_cons pe_int (pa_cons pe_int (pa_cons pe_int (pa_cons pe_int (pa_cons pe_int pa_nil)))))))) pa_nil))) pa_nil))) pa_nil))))) pss_nil)))))
      (pss_one (ps_ret (pe_callTy call_tuple_of (by rfl) T.z_tuple (by decide +kernel) (pa_cons (pv 2) pa_nil)))))), ?_⟩
    walk_at "r"
    refine w_newL (by show 0 ≤ 100000; decide) fun D H1 nD e1 h1 => ?_
    have nb := bag_ne hb nD
    have lps : (ps.map V.str).length = ps.length := List.length_map ..
    walk_at "r"
    refine w_lenT (seqT_same e1 ht) ?_
    walk_at "r"
    refine ⟨ps.length, by rw [lps], by omega, by omega, for_leaf (walk_rng0 (n := ps.length)) (fun i σ' G => ∃ (as : List Addr) (es : List Tie3) (v3 v4 v5 : Option V), σ' = [some (.ref b), some (.ref t), some (.ref D), v3, v4, v5] ∧ Kp b H G ∧ G D = some (.lst (as.map V.ref)) ∧ as.length = es.length ∧ (∀ (i : Nat) (q : Addr) (u : Tie3), as[i]? = some q → es[i]? = some u → SqT K G q (tieV u)) ∧ Drawn ps es i 0)
      ⟨[], [], _, _, _, rfl, .of hb e1, h1, rfl, fun i q u h => by simp at h, ⟨by decide, fun t h => absurd h List.not_mem_nil, List.Pairwise.nil⟩⟩ (fun _ _ _ _ _ => trivial) ?_ ?_⟩
    · rintro i y σ' G G' hi ⟨as, es, v3, v4, v5, rfl, kp, hD, ll, rows, dr⟩ ⟨rfl, rfl⟩
      walk_at "r"
      refine ⟨(i : Int), rfl, by omega, by omega, for_leaf (walk_rng0 (n := i)) (fun j σ' G => ∃ (as : List Addr) (es : List Tie3) (v4 v5 : Option V), σ' = [some (.ref b), some (.ref t), some (.ref D), some (.int i), v4, v5] ∧ Kp b H G ∧ G D = some (.lst (as.map V.ref)) ∧ as.length = es.length ∧ (∀ (i : Nat) (q : Addr) (u : Tie3), as[i]? = some q → es[i]? = some u → SqT K G q (tieV u)) ∧ Drawn ps es i j)
        ⟨as, es, _, _, rfl, kp, hD, ll, rows, dr⟩ (fun _ _ _ _ _ => trivial) ?_ ?_⟩
      · rintro j y σ' G G' hj ⟨as, es, v4, v5, rfl, kp, hD, ll, rows, dr⟩ ⟨rfl, rfl⟩
        walk_at "r"
        refine draw_leaf kp.bag' (by show (0 : Int) < 5; decide) (by show (5 : Int) ≤ 10 ^ 12; decide) fun r G2 r0 r1 k2 => ?_
        walk_at "r"
        have kp2 := kp.trans k2
        have hD2 := k2.keep _ _ nb hD
        have rows2 : ∀ (i : Nat) (q : Addr) (u : Tie3), as[i]? = some q → es[i]? = some u → SqT K G2 q (tieV u) := fun i q u a b => k2.sqt (rows i q u a b)
        have la : (as.map V.ref).length ≤ 10 := by rw [List.length_map, ll]; exact dr.few
        refine w_iteD (fun c => ?_) (fun c => ?_)
        · walk_at "r"
          refine w_lenL (.inl (.inl hD2)) ?_
          walk_at "r"
          refine w_iteD (fun c10 => ?_) (fun c10 => ?_)
          · walk_at "r"
            have hx : ps[j]? = some (ps[j]'(by omega)) := List.getElem?_eq_getElem (by omega)
            have hy : ps[i]? = some ps[i] := List.getElem?_eq_getElem hi
            revert hx hy
            generalize ps[j]'(by omega) = x
            generalize ps[i] = y
            intro hx hy
            have vx : (ps.map V.str)[j]? = some (.str x) := by rw [List.getElem?_map, hx]; rfl
            have vy : (ps.map V.str)[i]? = some (.str y) := by rw [List.getElem?_map, hy]; rfl
            have ht2 := kp2.sqt ht
            refine w_cutV (fun v G' => ∃ q xx yy, v = .ref q ∧ Kp b G2 G' ∧ SqT K G' q [.str xx, .str yy] ∧ ((xx = x ∧ yy = y) ∨ (xx = y ∧ yy = x))) (fun Q' all => ?_) (fun v G3 hv => ?_)
            · refine w_tIf ?_
              walk_at "r"
              refine draw_leaf k2.bag' (by show (0 : Int) < 2; decide) (by show (2 : Int) ≤ 10 ^ 12; decide) fun r G3 r0 r1 k3 => ?_
              walk_at "r"
              have t3 := k3.sqt ht2
              refine w_iteD (fun c => ?_) (fun c => ?_)
              · walk_at "r"
                refine ⟨t, _, j, .str x, rfl, rfl, t3, atI_nat vx, ?_⟩
                walk_at "r"
                refine ⟨t, _, i, .str y, rfl, rfl, t3, atI_nat vy, ?_⟩
                walk_at "r"
                exact w_newT (by show 2 ≤ 100000; decide) fun q G4 nq e4 h4 => all _ _ ⟨q, x, y, rfl, k3.trans (.of k3.bag' e4), SqT.of h4, .inl ⟨rfl, rfl⟩⟩
              · walk_at "r"
                refine ⟨t, _, i, .str y, rfl, rfl, t3, atI_nat vy, ?_⟩
                walk_at "r"
                refine ⟨t, _, j, .str x, rfl, rfl, t3, atI_nat vx, ?_⟩
                walk_at "r"
                exact w_newT (by show 2 ≤ 100000; decide) fun q G4 nq e4 h4 => all _ _ ⟨q, y, x, rfl, k3.trans (.of k3.bag' e4), SqT.of h4, .inr ⟨rfl, rfl⟩⟩
            obtain ⟨q, xx, yy, rfl, k3, hq, hxy⟩ := hv
            walk_at "r"
            have hD3 := k3.keep _ _ nb hD2
            refine ⟨.inl ⟨rfl, _, .inl (.inl hD3)⟩, ?_⟩
            walk_at "r"
            refine w_newL (by show 7 ≤ 100000; decide) fun w7 G4 n4 e4 h4 => ?_
            walk_at "r"
            have k4 := k3.trans (.of k3.bag' e4)
            refine one_leaf k4.bag' h4 (bag_ne k3.bag' n4) (by decide) (by decide) fun v G5 hv k5 => ?_
            obtain ⟨z, rfl, z0, z1⟩ : ∃ z : Int, v = .int z ∧ 0 ≤ z ∧ z ≤ 20 := by
              simp only [List.mem_cons, List.not_mem_nil, or_false] at hv
              rcases hv with rfl | rfl | rfl | rfl | rfl | rfl | rfl <;> exact ⟨_, rfl, by decide, by decide⟩
            walk_at "r"
            refine w_newT (by show 1 ≤ 100000; decide) fun o1 G6 n6 e6 h6 => ?_
            have k6 := (k4.trans k5).trans (.of k5.bag' e6)
            have q6 := seqT_same e6 (k5.sqt (seqT_same e4 hq))
            have hD6 := k6.keep _ _ nb hD2
            refine ⟨q, o1, _, _, rfl, rfl, q6, SqT.of h6, by simp, (by show 2 + 1 ≤ sizeLine; decide), fun z => (by cases z), fun _ q7 n7 => ?_⟩
            have k7 := kp2.trans (k6.trans (.of k6.bag' (w_new (o := .tup ([.str xx, .str yy] ++ [.int z])) n7)))
            have hD7 := (w_new (o := .tup ([.str xx, .str yy] ++ [.int z])) n7) _ _ hD6
            walk_at "r"
            refine w_app hD7 (by omega) fun G8 g => ?_
            have g8 : ∀ {p xs}, SqT K G2 p xs → SqT K G8 p xs := fun h => g.same.sqt (k6.sqt h |> seqT_same (w_new (o := .tup ([.str xx, .str yy] ++ [.int z])) n7))
            have q8 : SqT K G8 q7 (tieV (xx, yy, z)) := g.same.sqt (SqT.of upd_same)
            have hr : ∀ (i : Nat) (q : Addr) (u : Tie3), (as ++ [q7])[i]? = some q → (es ++ [(xx, yy, z)])[i]? = some u → SqT K G8 q (tieV u) := fun i' q' u' ha he => by
              have va : (as.map V.ref ++ [V.ref q7])[i']? = some (.ref q') := by
                rw [show as.map V.ref ++ [V.ref q7] = (as ++ [q7]).map V.ref by rw [List.map_append]; rfl, List.getElem?_map, ha]
                rfl
              obtain ⟨a', e', s'⟩ := snoc_get2 (R := fun v u => ∃ a, v = V.ref a ∧ SqT K G8 a (tieV u)) (acc := as.map V.ref) (us := es) (by rw [List.length_map, ll]) (fun m v w hv hw => by
                obtain ⟨a', ha', rfl⟩ : ∃ a', as[m]? = some a' ∧ V.ref a' = v := by
                  rw [List.getElem?_map] at hv
                  cases e : as[m]? with
                  | none => rw [e] at hv; cases hv
                  | some a' => rw [e] at hv; exact ⟨a', rfl, Option.some.inj hv⟩
                exact ⟨a', rfl, g8 (rows2 m a' w ha' hw)⟩) ⟨q7, rfl, q8⟩ i' _ u' va he
              cases e'
              exact s'
            refine ⟨as ++ [q7], es ++ [(xx, yy, z)], _, _, rfl, KpGrown k7 nD nb g, by rw [g.at_, List.map_append]; rfl, by rw [List.length_append, List.length_append, ll]; rfl, hr, dr.snoc nd ?_ hj hx hy hxy z0 z1⟩
            rw [List.length_map] at c10
            omega
          · exact ⟨as, es, _, _, rfl, kp2, hD2, ll, rows2, dr.next⟩
        · exact ⟨as, es, _, _, rfl, kp2, hD2, ll, rows2, dr.next⟩
      · rintro σ' G ⟨as, es, v4, v5, rfl, kp, hD, ll, rows, dr⟩
        exact ⟨as, es, _, _, _, rfl, kp, hD, ll, rows, dr.line⟩
    · rintro σ' G ⟨as, es, v3, v4, v5, rfl, kp, hD, ll, rows, dr⟩
      walk_at "r"
      refine ⟨D, _, rfl, .inl ⟨.inl (.inl hD), fun u nu => ?_⟩⟩
      have e9 := w_new (o := .tup (as.map V.ref)) nu
      exact k u es _ (kp.trans (.of kp.bag' e9)) ⟨as, SqT.of upd_same, by rw [List.length_map]; exact ll, fun i q v ha hv => by
        obtain ⟨w', hw, rfl⟩ := map_atL hv
        exact seqT_same e9 (rows i q w' ha hw)⟩ (dr.good nd) fun t ht => (let ⟨_, _, _, _, _, _, _, _, _, _, h⟩ := dr.each t ht; h)
theorem cords_leaf {H : Hp} {Q : VK} {E : XK} {b t : Addr} {ps : List Str} (hb : Bag H b) (ht : SqT K H t (ps.map V.str)) (nd : ps.Nodup) (l6 : ps.length ≤ 6) (k : ∀ u es H', Kp b H H' → Rws K H' u (es.map tieV) → GoodTies ps es → (∀ t ∈ es, t.2.2 ≤ 20) → Q (.ref u) H') : spCords K [.ref b, .ref t] H Q E := ⟨b, t, ps, rfl, hb, ht, nd, l6, k⟩
/-! ### drawn puppets -/
/-- at t a drawn shape -/
structure Shp (K : PySem.W.Frag) (H : Hp) (t : Addr) (ps : List Str) (es : List Tie3) (hk : Str) (ls : List Ln3) : Prop where
  at_ : ∃ tp te tl, SqT K H t [.ref tp, .ref te, .str hk, .ref tl] ∧ SqT K H tp (ps.map V.str) ∧ Rws K H te (es.map tieV) ∧ Rws K H tl (ls.map lnV)
  good : GoodPup ps es hk ls
  p4 : ps.length ≤ 4
  h3 : hk.cps.size ≤ 3
  l4 : ls.length ≤ 4
  r20 : ∀ t ∈ es, t.2.2 ≤ 20
theorem pick {α β : Type} {ys : List α} {R : Nat → α → β → Prop} (h : ∀ (i : Nat) (v : α), ys[i]? = some v → ∃ u, R i v u) : ∃ us : List β, us.length = ys.length ∧ ∀ (i : Nat) (v : α) (u : β), ys[i]? = some v → us[i]? = some u → R i v u := by
  induction ys generalizing R with
  | nil => exact ⟨[], rfl, fun i v u hv => by simp at hv⟩
  | cons y r ih =>
    obtain ⟨u0, h0⟩ := h 0 y rfl
    obtain ⟨us, hl, hu⟩ := ih (R := fun i v u => R (i + 1) v u) fun i v hv => h (i + 1) v hv
    refine ⟨u0 :: us, by rw [List.length_cons, List.length_cons, hl], fun i v u hv hu' => ?_⟩
    cases i with
    | zero => cases hv; cases hu'; exact h0
    | succ i => exact hu i v u hv hu'
def spShape (K : PySem.W.Frag) : Sp := fun vs H Q _ => ∃ (b : Addr), vs = [.ref b] ∧ Bag H b ∧ ∀ t ps es hk ls H', Kp b H H' → Shp K H' t ps es hk ls → Q (.ref t) H'
theorem ok_shape (T : Txt K mg a) : FnOk P w K mg base CX0 4 a.f_shape a.d_shape ["_law_bag_here"] (spShape K) := by
  refine T.F_shape.ok sc_shape (fun vs H Q E h => ?_) (fun cdv A outer s H vs Q E hr h => ?_)
  · obtain ⟨b, rfl, _⟩ := h
    rfl
  · obtain ⟨b, rfl, hb, k⟩ := h
    refine ⟨_, (pss_cons (ps_set (i := 1) sc_shape.nd rfl (Or.inr rfl) (pe_call (ok_words T) (hr.mono (by decide)) (by rfl) T.m_words T.F_words.kp T.b_words .nil pass0 (pa_cons (pv 0) (pa_cons (pe_op op_add pe_int (pe_call (ok_draw T) (hr.mono (by decide)) (by rfl) T.m_draw T.F_draw.kp T.b_draw .nil pass0 (pa_cons (pv 0) (pa_cons pe_int pa_nil)))) pa_nil))))
      (pss_cons (ps_set (i := 2) sc_shape.nd rfl (Or.inr rfl) (pe_call (ok_letters T) (hr.mono (by decide)) (by rfl) T.m_letters T.F_letters.kp T.b_letters .nil pass0 (pa_cons (pv 0) (pa_cons pe_str (pa_cons (pe_op op_add pe_int (pe_call (ok_draw T) (hr.mono (by decide)) (by rfl) T.m_draw T.F_draw.kp T.b_draw .nil pass0 (pa_cons (pv 0) (pa_cons pe_int pa_nil)))) pa_nil)))))
      (pss_cons (ps_set (i := 3) sc_shape.nd rfl (Or.inl rfl) (pe_call (ok_letters T) (hr.mono (by decide)) (by rfl) T.m_letters T.F_letters.kp T.b_letters .nil pass0 (pa_cons (pv 0) (pa_cons pe_str (pa_cons (pe_op op_add pe_int (pe_call (ok_draw T) (hr.mono (by decide)) (by rfl) T.m_draw T.F_draw.kp T.b_draw .nil pass0 (pa_cons (pv 0) (pa_cons pe_int pa_nil)))) pa_nil)))))
      (pss_cons (ps_set (i := 4) sc_shape.nd rfl (Or.inl rfl) (pe_callTy call_tuple_of (by rfl) T.z_tuple (by decide +kernel) (pa_cons (pe_lc (own := [("_law_each", 5)]) (g := gName 5) (tt := tYes) rfl sc_shape.nd (pi_str (pv 3)) (blkOk_by (own := [("_law_each", 5)]) (N := ["_law_bag_here", "_law_limbs", "_law_pegs", "_law_called", "_law_lines", "_law_each"]) (sc := defScope s_shape) (by decide +kernel)) (fun _ _ _ _ _ => pg_name (i := 5) sc_shape.nd rfl (Or.inl rfl)) (fun _ _ _ _ _ => pts_nil) (fun _ _ _ _ _ => by exact (pe_tup (pa_cons (pv 5) (pa_cons (pe_call (ok_oneS T) (hr.mono (by decide)) (by rfl) T.m_one T.F_one.kp T.b_one .nil pass0 (pa_cons (pv 0) (pa_cons (pv 2) pa_nil))) (pa_cons (pe_call (ok_oneT T) (hr.mono (by decide)) (by rfl) T.m_one T.F_one.kp T.b_one .nil pass0 (pa_cons (pv 0) (pa_cons (pv 1) pa_nil))) pa_nil)))))) pa_nil)))
      (pss_one (ps_ret (pe_tup (pa_cons (pv 1) (pa_cons (pe_call (ok_cords T) (hr.mono (by decide)) (by rfl) T.m_cords T.F_cords.kp T.b_cords .nil pass0 (pa_cons (pv 0) (pa_cons (pv 1) pa_nil))) (pa_cons (pv 2) (pa_cons (pv 4) pa_nil))))))))))), ?_⟩
    walk_at "r"
    refine draw_leaf hb (by show (0 : Int) < 4; decide) (by show (4 : Int) ≤ 10 ^ 12; decide) fun r H1 r0 r1 k1 => ?_
    obtain ⟨m1, rfl⟩ := Int.eq_ofNat_of_zero_le r0
    walk_at "r"
    refine words_leaf (m := 1 + m1) k1.bag' (by omega) (by omega) fun tp ps H2 k2 hp lps gp => ?_
    walk_at "r"
    refine draw_leaf k2.bag' (by show (0 : Int) < 3; decide) (by show (3 : Int) ≤ 10 ^ 12; decide) fun r H3 r0 r2 k3 => ?_
    obtain ⟨m2, rfl⟩ := Int.eq_ofNat_of_zero_le r0
    walk_at "r"
    refine letters_leaf (m := 1 + m2) k3.bag' (by decide) (by decide) (by show 1 + m2 ≤ 11; omega) fun hk H4 k4 lh ch uh => ?_
    walk_at "r"
    refine draw_leaf k4.bag' (by show (0 : Int) < 4; decide) (by show (4 : Int) ≤ 10 ^ 12; decide) fun r H5 r0 r3 k5 => ?_
    obtain ⟨m3, rfl⟩ := Int.eq_ofNat_of_zero_le r0
    walk_at "r"
    refine letters_leaf (m := 1 + m3) k5.bag' (by decide) (by decide) (by show 1 + m3 ≤ 11; omega) fun cl H6 k6 lc cc uc => ?_
    have hp6 := k6.sqt (k5.sqt (k4.sqt (k3.sqt hp)))
    walk_at "r"
    refine ⟨cl, rfl, cmK k6.bag' walk_str (by omega) (fun _ _ => trivial) (fun i v G => ∃ u : Addr × Ln3, v = .ref u.1 ∧ SqT K G u.1 (lnV u.2) ∧ (∃ c, cl.cps[i]? = some c ∧ u.2.1 = sg c) ∧ (∃ d, u.2.2.1 = sg d ∧ d ∈ hk.cps.toList) ∧ u.2.2.2 ∈ ps) (fun i v G G' e ⟨u, h1, h2, h3⟩ => ⟨u, h1, e.sqt h2, h3⟩) (fun i x G G' hi kG hy Q' kq => ?_) (fun L ys H7 nL k7 h7 hn hP => ?_)⟩
    · obtain ⟨rfl, c, hc, rfl⟩ := hy
      refine ⟨rfl, ?_⟩
      walk_at "r"
      refine oneS_leaf kG.bag' (by omega) (by omega) fun d G2 hd k2 => ?_
      walk_at "r"
      refine oneT_leaf k2.bag' (k2.sqt (kG.sqt hp6)) (by rw [List.length_map]; omega) (by rw [List.length_map]; omega) fun v G3 hv k3 => ?_
      obtain ⟨q, mq, rfl⟩ := List.mem_map.mp hv
      walk_at "r"
      exact w_newT (by show 3 ≤ 100000; decide) fun u G4 n4 e4 h4 => kq _ _ ((k2.trans k3).trans (.of k3.bag' e4)) ⟨(u, sg c, sg d, q), rfl, SqT.of h4, ⟨c, hc, rfl⟩, ⟨d, rfl, hd⟩, mq⟩
    obtain ⟨us, lus, hus⟩ := pick hP
    have eys : ys = (us.map Prod.fst).map V.ref := List.ext_getElem? fun i => by
      rw [List.getElem?_map, List.getElem?_map]
      cases ey : ys[i]? with
      | none =>
        have : us[i]? = none := List.getElem?_eq_none_iff.mpr (by rw [lus]; exact List.getElem?_eq_none_iff.mp ey)
        rw [this]
        rfl
      | some v =>
        have hi : i < us.length := by rw [lus]; exact (List.getElem?_eq_some_iff.mp ey).1
        have eu := List.getElem?_eq_getElem hi
        rw [eu]
        exact congrArg some (hus i v _ ey eu).1
    have lsp : ∀ (i : Nat) (s : Ln3), (us.map Prod.snd)[i]? = some s → ∃ q, (us.map Prod.fst)[i]? = some q ∧ SqT K H7 q (lnV s) ∧ (∃ c, cl.cps[i]? = some c ∧ s.1 = sg c) ∧ (∃ d, s.2.1 = sg d ∧ d ∈ hk.cps.toList) ∧ s.2.2 ∈ ps := fun i s hs => by
      rw [List.getElem?_map] at hs
      cases eu : us[i]? with
      | none => rw [eu] at hs; cases hs
      | some u =>
        rw [eu] at hs
        cases hs
        have hi : i < ys.length := by rw [← lus]; exact (List.getElem?_eq_some_iff.mp eu).1
        have := hus i _ u (List.getElem?_eq_getElem hi) eu
        exact ⟨u.1, by rw [List.getElem?_map, eu]; rfl, this.2⟩
    walk_at "r"
    refine ⟨L, _, rfl, .inl ⟨.inl (.inl h7), fun tl n8 => ?_⟩⟩
    have e8 := w_new (o := .tup ys) n8
    have k8 : Kp b H6 (upd H7 tl (.tup ys)) := k7.trans (.of k7.bag' e8)
    walk_at "r"
    refine cords_leaf k8.bag' (k8.sqt hp6) gp.nd gp.few fun te es H9 k9 hes ges r20 => ?_
    walk_at "r"
    refine w_newT (by show 4 ≤ 100000; decide) fun t H10 n10 e10 h10 => ?_
    have ht9 : SqT K H9 tl (((us.map Prod.fst)).map V.ref) := by rw [← eys]; exact k9.sqt (SqT.of upd_same)
    refine k t ps es hk (us.map Prod.snd) H10 ((((((k1.trans k2).trans k3).trans k4).trans k5).trans k6).trans ((k8.trans k9).trans (.of k9.bag' e10))) ⟨⟨tp, te, tl, SqT.of h10, seqT_same e10 (k9.sqt (k8.sqt hp6)), hes.same e10, ⟨us.map Prod.fst, seqT_same e10 ht9, by rw [List.length_map, List.length_map, List.length_map], fun i q v ha hv => ?_⟩⟩, ⟨gp, ges, ?_, ?_⟩, by omega, by omega, ?_, r20⟩
    · rw [List.getElem?_map] at hv
      cases es' : (us.map Prod.snd)[i]? with
      | none => rw [es'] at hv; cases hv
      | some s =>
        rw [es'] at hv
        cases hv
        obtain ⟨q', hq', hs, _⟩ := lsp i s es'
        rw [ha] at hq'
        cases hq'
        exact seqT_same e10 (k9.sqt (seqT_same e8 hs))
    · refine ⟨by omega, by omega, fun c hc => ?_, fun i c d hc hd => ?_⟩
      · have := ch c hc
        have all : ∀ x ∈ ("ADFHKMPRSTW" : Str).cps.toList, 65 ≤ x ∧ x ≤ 90 := by decide
        exact all c this
      · have := List.pairwise_iff_getElem.mp uh i (i + 1) (by have := (Array.getElem?_eq_some_iff.mp hc).1; rw [Array.length_toList]; exact this) (by have := (Array.getElem?_eq_some_iff.mp hd).1; rw [Array.length_toList]; exact this) (by omega)
        obtain ⟨_, rfl⟩ := Array.getElem?_eq_some_iff.mp hc
        obtain ⟨_, rfl⟩ := Array.getElem?_eq_some_iff.mp hd
        simpa using this
    · have len : (us.map Prod.snd).length = 1 + m3 := by rw [List.length_map, lus, hn, lc]
      refine ⟨by omega, by omega, fun s hs => ?_, fun s hs => ?_, fun s hs => ?_, fun i s u hs hu => ?_⟩
      · obtain ⟨i, hi⟩ := List.getElem?_of_mem hs
        obtain ⟨_, _, _, ⟨c, hc, e⟩, _⟩ := lsp i s hi
        have mc := cc c (Array.mem_toList_iff.mpr (Array.mem_of_getElem? hc))
        have all : ∀ x ∈ ("abcefgmnxyz" : Str).cps.toList, 97 ≤ x ∧ x ≤ 122 := by decide
        exact ⟨c, e, (all c mc).1, (all c mc).2⟩
      · obtain ⟨i, hi⟩ := List.getElem?_of_mem hs
        obtain ⟨_, _, _, _, ⟨d, e, md⟩, _⟩ := lsp i s hi
        exact ⟨d, e, md⟩
      · obtain ⟨i, hi⟩ := List.getElem?_of_mem hs
        exact (lsp i s hi).choose_spec.2.2.2.2
      · obtain ⟨_, _, _, ⟨c, hc, e⟩, _⟩ := lsp i s hs
        obtain ⟨_, _, _, ⟨d, hd, e'⟩, _⟩ := lsp (i + 1) u hu
        have := List.pairwise_iff_getElem.mp uc i (i + 1) (by have := (Array.getElem?_eq_some_iff.mp hc).1; rw [Array.length_toList]; exact this) (by have := (Array.getElem?_eq_some_iff.mp hd).1; rw [Array.length_toList]; exact this) (by omega)
        obtain ⟨_, rfl⟩ := Array.getElem?_eq_some_iff.mp hc
        obtain ⟨_, rfl⟩ := Array.getElem?_eq_some_iff.mp hd
        rw [e, e']
        exact of_decide_eq_true ((lt1 _ _).trans (decide_eq_true (by simpa using this)))
    · rw [List.length_map, lus, hn, lc]
      omega
theorem shape_leaf {H : Hp} {Q : VK} {E : XK} {b : Addr} (hb : Bag H b) (k : ∀ t ps es hk ls H', Kp b H H' → Shp K H' t ps es hk ls → Q (.ref t) H') : spShape K [.ref b] H Q E := ⟨b, rfl, hb, k⟩
theorem Shp.kp {H H' : Hp} {b t : Addr} {ps : List Str} {es : List Tie3} {hk : Str} {ls : List Ln3} (s : Shp K H t ps es hk ls) (e : SameT H H') : Shp K H' t ps es hk ls :=
  let ⟨tp, te, tl, h1, h2, h3, h4⟩ := s.at_; ⟨⟨tp, te, tl, e.sqt h1, e.sqt h2, h3.sameT e, h4.sameT e⟩, s.good, s.p4, s.h3, s.l4, s.r20⟩
end
end RK17


namespace RK17
open PySem PySem.Spec L2 RK RZ StX PyProof.Rows
/-! ### wishes as data -/
def mk (l : List Nat) : Str := ⟨l.toArray⟩
theorem tl_mk (l : List Nat) : TL.tl (mk l) = l := by simp [TL.tl, mk]
theorem mk_tl (s : Str) : mk (TL.tl s) = s := TL.ext_tl (tl_mk _)
theorem sg_mk (c : Nat) : sg c = mk [c] := rfl
inductive Mo
  | num (n : Nat)
  | last
def Mo.v : Mo → V
  | num n => .int n
  | last => .str "last"
def Mo.d : Mo → PyData
  | num n => .int n
  | last => .str "last"
def Mo.t : Mo → List Nat
  | num n => TL.tl (Str.ofString (toString (n : Int)))
  | last => TL.tl "last"
def Mo.Ok : Mo → Prop
  | num n => n ≤ 6
  | last => True
inductive Lv
  | floor
  | len (c : Nat)
  | part (s : Str) (m : Mo)
  | hook (c : Nat) (m : Mo)
def Lv.d : Lv → PyData
  | floor => .tuple [.str "floor"]
  | len c => .tuple [.str "length", .str (sg c)]
  | part s m => .tuple [.str "part", .str s, m.d]
  | hook c m => .tuple [.str "hook", .str (sg c), m.d]
def Lv.t : Lv → List Nat
  | floor => TL.tl "floor"
  | len c => [c]
  | part s m => TL.tl s ++ 64 :: m.t
  | hook c m => c :: 64 :: m.t
def Lv.Ok : Lv → Prop
  | floor => True
  | len c => 97 ≤ c ∧ c ≤ 122
  | part s m => Word s ∧ m.Ok
  | hook c m => (65 ≤ c ∧ c ≤ 90) ∧ m.Ok
/-- an amount, in lowest terms -/
def amD (u : Int × Int) : PyData := if u.2 = 1 then .int u.1 else .tuple [.int u.1, .int u.2]
def amT (u : Int × Int) : List Nat := TL.tl (Str.ofString (toString u.1)) ++ if u.2 = 1 then [] else 47 :: TL.tl (Str.ofString (toString u.2))
structure AmOk (u : Int × Int) : Prop where
  pos : 1 ≤ u.2
  low : Int.gcd u.1 u.2 = 1
  s1 : u.1.natAbs ≤ 100
  s2 : u.2.natAbs ≤ 100
inductive Fm
  | over (x y : Lv) (u : Int × Int)
  | no (f : Fm)
  | bi (w : Bool) (f g : Fm)
  | tri (f g h : Fm)
def Fm.d : Fm → PyData
  | over x y u => .tuple [.str "over", x.d, y.d, amD u]
  | no f => .tuple [.str "not", f.d]
  | bi w f g => .tuple [.str (if w then "if" else "and"), f.d, g.d]
  | tri f g h => .tuple [.str "or", f.d, g.d, h.d]
def Fm.ht : Fm → Nat
  | over _ _ _ => 0
  | no f => f.ht + 1
  | bi _ f g => max f.ht g.ht + 1
  | tri f g h => max f.ht (max g.ht h.ht) + 1
def Fm.ov : Fm → Nat
  | over _ _ _ => 1
  | no f => f.ov
  | bi _ f g => f.ov + g.ov
  | tri f g h => f.ov + g.ov + h.ov
def Fm.Ok : Fm → Prop
  | over x y u => x.Ok ∧ y.Ok ∧ AmOk u
  | no f => f.Ok
  | bi _ f g => f.Ok ∧ g.Ok
  | tri f g h => f.Ok ∧ g.Ok ∧ h.Ok
def Fm.word : Fm → Str
  | over _ _ _ => "over"
  | no _ => "not"
  | bi w _ _ => if w then "if" else "and"
  | tri _ _ _ => "or"
def Fm.kids : Fm → List Fm
  | over _ _ _ => []
  | no f => [f]
  | bi _ f g => [f, g]
  | tri f g h => [f, g, h]
/-- a wish that is no over -/
structure Fm.Inner (f : Fm) : Prop where
  d : f.d = .tuple (.str f.word :: f.kids.map Fm.d)
  one : 1 ≤ f.kids.length
  few : f.kids.length ≤ 3
  ht : ∀ g ∈ f.kids, g.ht + 1 ≤ f.ht
  ok : f.Ok → ∀ g ∈ f.kids, g.Ok
  ov : f.ov = (f.kids.map Fm.ov).sum
theorem Fm.cases_ (f : Fm) : (∃ x y u, f = .over x y u) ∨ f.Inner := by
  cases f with
  | over x y u => exact .inl ⟨x, y, u, rfl⟩
  | no f => exact .inr ⟨rfl, by simp [kids], by simp [kids], fun g h => by rw [List.mem_singleton.mp h]; exact Nat.le_refl _, fun o g h => by rw [List.mem_singleton.mp h]; exact o, by show f.ov = f.ov + 0; omega⟩
  | bi w f g =>
    refine .inr ⟨rfl, by simp [kids], by simp [kids], fun k h => ?_, fun o k h => ?_, by show f.ov + g.ov = f.ov + (g.ov + 0); omega⟩
    · have : k = f ∨ k = g := by simpa [kids] using h
      show k.ht + 1 ≤ max f.ht g.ht + 1
      rcases this with rfl | rfl <;> omega
    · have : k = f ∨ k = g := by simpa [kids] using h
      rcases this with rfl | rfl
      · exact o.1
      · exact o.2
  | tri f g h =>
    refine .inr ⟨rfl, by simp [kids], by simp [kids], fun k m => ?_, fun o k m => ?_, by show f.ov + g.ov + h.ov = f.ov + (g.ov + (h.ov + 0)); omega⟩
    · have : k = f ∨ k = g ∨ k = h := by simpa [kids] using m
      show k.ht + 1 ≤ max f.ht (max g.ht h.ht) + 1
      rcases this with rfl | rfl | rfl <;> omega
    · have : k = f ∨ k = g ∨ k = h := by simpa [kids] using m
      rcases this with rfl | rfl | rfl
      · exact o.1
      · exact o.2.1
      · exact o.2.2
section
variable {K : PySem.W.Frag} {H H' : Hp}
theorem dp_tup {v : V} {ds : List PyData} (h : Dp K H v (.tuple ds)) : ∃ t xs, v = .ref t ∧ SqT K H t xs ∧ DpAll K H xs ds := by
  cases h with
  | tup a b => exact ⟨_, _, rfl, a, b⟩
theorem dp_str {v : V} {s : Str} (h : Dp K H v (.str s)) : v = .str s := by cases h; rfl
theorem dp_int {v : V} {i : Int} (h : Dp K H v (.int i)) : v = .int i := by cases h; rfl
theorem dpa_cons {xs : List V} {d : PyData} {ds : List PyData} (h : DpAll K H xs (d :: ds)) : ∃ x r, xs = x :: r ∧ Dp K H x d ∧ DpAll K H r ds := by
  cases h with
  | cons a b => exact ⟨_, _, rfl, a, b⟩
theorem dpa_nil {xs : List V} (h : DpAll K H xs []) : xs = [] := by cases h; rfl
theorem dpa_len : ∀ {xs : List V} {ds : List PyData}, DpAll K H xs ds → xs.length = ds.length
  | _, [], h => by rw [dpa_nil h]; rfl
  | _, _ :: _, h => by
    obtain ⟨x, r, rfl, _, h2⟩ := dpa_cons h
    rw [List.length_cons, List.length_cons, dpa_len h2]
theorem dpa_at : ∀ {xs : List V} {ds : List PyData}, DpAll K H xs ds → ∀ (i : Nat) (x : V), xs[i]? = some x → ∃ d, ds[i]? = some d ∧ Dp K H x d
  | _, [], h, i, x, e => by rw [dpa_nil h] at e; simp at e
  | _, _ :: _, h, i, x, e => by
    obtain ⟨y, r, rfl, h1, h2⟩ := dpa_cons h
    cases i with
    | zero => cases e; exact ⟨_, rfl, h1⟩
    | succ i => exact dpa_at h2 i x e
mutual
theorem Dp.same (e : Same H H') : ∀ {v : V} (d : PyData), Dp K H v d → Dp K H' v d
  | _, .none, h => by cases h; exact .non
  | _, .bool b, h => by cases h; exact .bl _
  | _, .int i, h => by cases h; exact .int _
  | _, .str x, h => by cases h; exact .str _
  | _, .list ds, h => by
    cases h with
    | lst a b => exact .lst (seqL_same e a) (DpAll.same e ds b)
  | _, .tuple ds, h => by
    cases h with
    | tup a b => exact .tup (seqT_same e a) (DpAll.same e ds b)
  | _, .dict _, h => by cases h
theorem DpAll.same (e : Same H H') : ∀ {vs : List V} (ds : List PyData), DpAll K H vs ds → DpAll K H' vs ds
  | _, [], h => by cases h; exact .nil
  | _, d :: ds, h => by
    cases h with
    | cons a b => exact .cons (Dp.same e d a) (DpAll.same e ds b)
end
theorem Mo.dp {m : Mo} {v : V} (h : Dp K H v m.d) : v = m.v := by
  cases m with
  | num n => exact dp_int h
  | last => exact dp_str h
end
end RK17


namespace RK17
open PySem PySem.Spec L2 RK RZ StX PyProof.Rows
theorem ix0 {K : PySem.W.Frag} {H : Hp} {Q : VK} {t : Addr} {x : V} {xs : List V} (h : SqT K H t (x :: xs)) (k : Q x H) : rIxT K (.ref t) (.int 0) H Q := ⟨t, _, 0, x, rfl, rfl, h, at_of (j := 0) rfl rfl, k⟩
theorem ix1 {K : PySem.W.Frag} {H : Hp} {Q : VK} {t : Addr} {x y : V} {xs : List V} (h : SqT K H t (y :: x :: xs)) (k : Q x H) : rIxT K (.ref t) (.int 1) H Q := ⟨t, _, 1, x, rfl, rfl, h, at_of (j := 1) rfl rfl, k⟩
theorem ix2 {K : PySem.W.Frag} {H : Hp} {Q : VK} {t : Addr} {x y z : V} {xs : List V} (h : SqT K H t (y :: z :: x :: xs)) (k : Q x H) : rIxT K (.ref t) (.int 2) H Q := ⟨t, _, 2, x, rfl, rfl, h, at_of (j := 2) rfl rfl, k⟩
theorem ix3 {K : PySem.W.Frag} {H : Hp} {Q : VK} {t : Addr} {x y z u : V} {xs : List V} (h : SqT K H t (y :: z :: u :: x :: xs)) (k : Q x H) : rIxT K (.ref t) (.int 3) H Q := ⟨t, _, 3, x, rfl, rfl, h, at_of (j := 3) rfl rfl, k⟩
theorem isS {K : PySem.W.Frag} {H : Hp} {R : VK} (s : Str) (q : R (.bl true) H) : rIsi K [.str s, .ty "str"] H R := ⟨.str s, .ty "str", .type "str", .type "str", true, rfl, .ty _, .base (.str _), kit_ty (by decide +kernel), q⟩
section
variable {P : Program} {w : World} {K : PySem.W.Frag} {mg : Str → Option Value} {base : Heap} {a : Ad}
/-! ### what levels and amounts are -/
def spWholeA (K : PySem.W.Frag) : Sp := fun vs H Q _ => ∃ v, vs = [v] ∧ ((∃ i, v = .int i ∧ Q (.bl true) H) ∨ ∃ t xs, v = .ref t ∧ SqT K H t xs ∧ Q (.bl false) H)
theorem ok_is_wholeA (T : Txt K mg a) : FnOk P w K mg base CX0 1 a.f_is_whole a.d_is_whole ["value"] (spWholeA K) := by
  refine T.F_is_whole.ok sc_is_whole (fun vs H Q E h => ?_) (fun cdv A outer s H vs Q E hr h => ?_)
  · obtain ⟨v, rfl, _⟩ := h
    rfl
  · obtain ⟨v, rfl, h⟩ := h
    refine ⟨_, (pss_one (ps_ret (pe_and (pe_callB call_isi (by rfl) T.z_isinstance (by decide +kernel) (pa_cons (pv 0) (pa_cons (pe_bltn (v := .ty "int") (by rfl) T.z_int (by decide +kernel) rfl) pa_nil))) (pe_one (pe_not (pe_callB call_isi (by rfl) T.z_isinstance (by decide +kernel) (pa_cons (pv 0) (pa_cons (pe_bltn (v := .ty "bool") (by rfl) T.z_bool (by decide +kernel) rfl) pa_nil)))))))), ?_⟩
    walk_at "r"
    rcases h with ⟨i, rfl, k⟩ | ⟨t, xs, rfl, ht, k⟩
    · refine ⟨.int i, .ty "int", .type "int", .type "int", true, rfl, .ty _, .base (.int _), kit_ty (by decide +kernel), true, rfl, iteT ?_⟩
      walk_at "r"
      refine ⟨.int i, .ty "bool", .type "int", .type "bool", false, rfl, .ty _, .base (.int _), kit_ty (by decide +kernel), ?_⟩
      walk_at "r"
      exact k
    · exact ⟨.ref t, .ty "int", .type "tuple", .type "int", false, rfl, .ty _, tyT ht, kit_ty (by decide +kernel), false, rfl, iteF k⟩
def spMoment : Sp := fun vs H Q _ => ∃ m : Mo, vs = [m.v, .int 6] ∧ m.Ok ∧ ∀ z : Int, Q (.int z) H
theorem ok_moment_at (T : Txt K mg a) : FnOk P w K mg base CX0 3 a.f_moment_at a.d_moment_at ["value", "last"] spMoment := by
  refine T.F_moment_at.ok sc_moment_at (fun vs H Q E h => ?_) (fun cdv A outer s H vs Q E hr h => ?_)
  · obtain ⟨m, rfl, _⟩ := h
    rfl
  · obtain ⟨m, rfl, mo, k⟩ := h
    refine ⟨_, (pss_cons (ps_if (pt_val (pe_callB call_isi (by rfl) T.z_isinstance (by decide +kernel) (pa_cons (pv 0) (pa_cons (pe_bltn (v := .ty "str") (by rfl) T.z_str (by decide +kernel) rfl) pa_nil)))) (pss_one (ps_ret (pe_ifExp (pt_cmpR op_eq (pv 0) pe_str (nomark _)) (pv 1) pe_non))) pss_nil)
      (pss_one (ps_ret (pe_ifExp (PW.pt (pw_and (pt_val (pe_call (ok_is_number T) (hr.mono (by decide)) (by rfl) T.m_is_number T.F_is_number.kp T.b_is_number .nil pass0 (pa_cons (pv 0) pa_nil))) (pw_and1 (pt_cmpR op_le (pv 0) (pv 1) (nomark _))))) (pv 0) pe_non)))), ?_⟩
    cases m with
    | num n =>
      dsimp only [Mo.v]
      walk_at "r"
      refine ⟨.int n, .ty "str", .type "int", .type "str", false, rfl, .ty _, .base (.int _), kit_ty (by decide +kernel), false, rfl, iteF ?_⟩
      have n6 : n ≤ 6 := mo
      walk_at "r"
      refine w_tIf ?_
      walk_at "r"
      refine ⟨n, rfl, by omega, true, rfl, iteT ?_⟩
      walk_at "r"
      rw [decide_eq_true (show (n : Int) ≤ 6 by omega)]
      refine iteT ?_
      walk_at "r"
      exact k _
    | last =>
      dsimp only [Mo.v]
      walk_at "r"
      refine ⟨.str "last", .ty "str", .type "str", .type "str", true, rfl, .ty _, .base (.str _), kit_ty (by decide +kernel), true, rfl, iteT ?_⟩
      walk_at "r"
      refine w_tIf ?_
      walk_at "r"
      rw [if_pos (by simp)]
      walk_at "r"
      exact k _
def spLv (K : PySem.W.Frag) : Sp := fun vs H Q _ => ∃ (v : V) (x : Lv), vs = [v] ∧ Dp K H v x.d ∧ x.Ok ∧ ∀ H', Same H H' → Q (.bl true) H'
theorem ok_is_level (T : Txt K mg a) : FnOk P w K mg base CX0 4 a.f_is_level a.d_is_level ["value"] (spLv K) := by
  refine T.F_is_level.ok sc_is_level (fun vs H Q E h => ?_) (fun cdv A outer s H vs Q E hr h => ?_)
  · obtain ⟨v, x, rfl, _⟩ := h
    rfl
  · obtain ⟨v, x, rfl, dp, ok, k⟩ := h
    refine ⟨_, (pss_cons (ps_if (PW.pt (pw_or (pt_not (pt_val (pe_call (ok_is_row T) (hr.mono (by decide)) (by rfl) T.m_is_row T.F_is_row.kp T.b_is_row .nil pass0 (pa_cons (pv 0) (pa_cons pe_int (pa_cons pe_int pa_nil)))))) (pw_or1 (pt_not (pt_val (pe_callB call_isi (by rfl) T.z_isinstance (by decide +kernel) (pa_cons (pe_ix ix_tup (pv 0) pe_int (fun _ _ => rfl)) (pa_cons (pe_bltn (v := .ty "str") (by rfl) T.z_str (by decide +kernel) rfl) pa_nil)))))))) (pss_one (ps_ret pe_bl)) pss_nil)
      (pss_cons (ps_if (pt_cmpR op_eq (pe_callB cr_len (by rfl) T.z_len PySem.boot_len (pa_cons (pv 0) pa_nil)) pe_int (nomark _)) (pss_one (ps_ret (pe_cmpR op_eq (pe_ix ix_tup (pv 0) pe_int (fun _ _ => rfl)) pe_str (nomark _)))) pss_nil)
      (pss_cons (ps_if (pt_cmpR op_eq (pe_callB cr_len (by rfl) T.z_len PySem.boot_len (pa_cons (pv 0) pa_nil)) pe_int (nomark _)) (pss_one (ps_ret (pe_and (pe_cmpR op_eq (pe_ix ix_tup (pv 0) pe_int (fun _ _ => rfl)) pe_str (nomark _)) (pe_one (pe_call (ok_is_small_letter T) (hr.mono (by decide)) (by rfl) T.m_is_small_letter T.F_is_small_letter.kp T.b_is_small_letter .nil pass0 (pa_cons (pe_ix ix_tup (pv 0) pe_int (fun _ _ => rfl)) pa_nil)))))) pss_nil)
      (pss_cons (ps_if (pt_cmpR op_isN (pe_call (ok_moment_at T) (hr.mono (by decide)) (by rfl) T.m_moment_at T.F_moment_at.kp T.b_moment_at .nil pass0 (pa_cons (pe_ix ix_tup (pv 0) pe_int (fun _ _ => rfl)) (pa_cons (pe_glob (v := .int 6) rfl T.m_MOST_MOVES ⟨_, rfl⟩) pa_nil))) pe_non (nomark _)) (pss_one (ps_ret pe_bl)) pss_nil)
      (pss_one (ps_ret (pe_or (pe_and (pe_cmpR op_eq (pe_ix ix_tup (pv 0) pe_int (fun _ _ => rfl)) pe_str (nomark _)) (pe_one (pe_call (ok_is_capital T) (hr.mono (by decide)) (by rfl) T.m_is_capital T.F_is_capital.kp T.b_is_capital .nil pass0 (pa_cons (pe_ix ix_tup (pv 0) pe_int (fun _ _ => rfl)) pa_nil)))) (pe_one (pe_and (pe_cmpR op_eq (pe_ix ix_tup (pv 0) pe_int (fun _ _ => rfl)) pe_str (nomark _)) (pe_one (pe_call (ok_is_word T) (hr.mono (by decide)) (by rfl) T.m_is_word T.F_is_word.kp T.b_is_word .nil pass0 (pa_cons (pe_ix ix_tup (pv 0) pe_int (fun _ _ => rfl)) pa_nil)))))))))))), ?_⟩
    walk_at "r"
    cases x with
    | floor =>
      obtain ⟨t, xs, rfl, ht, da⟩ := dp_tup dp
      obtain ⟨x0, r, rfl, d0, da⟩ := dpa_cons da
      obtain rfl := dpa_nil da
      obtain rfl := dp_str d0
      refine row_leaf ht (by decide) (by show (1 : Int) ≤ 3; decide) ?_
      refine ⟨true, rfl, ?_⟩
      rw [if_neg (by decide)]
      walk_at "r"
      refine ix0 ht ?_
      walk_at "r"
      refine isS _ ?_
      refine ⟨true, rfl, ?_⟩
      rw [if_neg (by decide)]
      walk_at "r"
      refine w_lenT ht ?_
      walk_at "r"
      rw [if_pos (by simp)]
      walk_at "r"
      refine ix0 ht ?_
      walk_at "r"
      rw [decide_eq_true rfl]
      exact k _ (w_same _)
    | len c =>
      obtain ⟨t, xs, rfl, ht, da⟩ := dp_tup dp
      obtain ⟨x0, r, rfl, d0, da⟩ := dpa_cons da
      obtain ⟨x1, r, rfl, d1, da⟩ := dpa_cons da
      obtain rfl := dpa_nil da
      obtain rfl := dp_str d0
      obtain rfl := dp_str d1
      refine row_leaf ht (by show (1 : Int) ≤ 2; decide) (by show (2 : Int) ≤ 3; decide) ?_
      refine ⟨true, rfl, ?_⟩
      rw [if_neg (by decide)]
      walk_at "r"
      refine ix0 ht ?_
      walk_at "r"
      refine isS _ ?_
      refine ⟨true, rfl, ?_⟩
      rw [if_neg (by decide)]
      walk_at "r"
      refine w_lenT ht ?_
      walk_at "r"
      rw [if_neg (by simp)]
      walk_at "r"
      refine w_lenT ht ?_
      walk_at "r"
      rw [if_pos (by simp)]
      walk_at "r"
      refine ix0 ht ?_
      walk_at "r"
      rw [decide_eq_true rfl]
      refine iteT ?_
      walk_at "r"
      refine ix1 ht ?_
      walk_at "r"
      exact ⟨_, c, rfl, ⟨rfl, ok.1, ok.2⟩, k _ (w_same _)⟩
    | part s m =>
      obtain ⟨t, xs, rfl, ht, da⟩ := dp_tup dp
      obtain ⟨x0, r, rfl, d0, da⟩ := dpa_cons da
      obtain ⟨x1, r, rfl, d1, da⟩ := dpa_cons da
      obtain ⟨x2, r, rfl, d2, da⟩ := dpa_cons da
      obtain rfl := dpa_nil da
      obtain rfl := dp_str d0
      obtain rfl := dp_str d1
      obtain rfl := Mo.dp d2
      refine row_leaf ht (by show (1 : Int) ≤ 3; decide) (by show (3 : Int) ≤ 3; decide) ?_
      refine ⟨true, rfl, ?_⟩
      rw [if_neg (by decide)]
      walk_at "r"
      refine ix0 ht ?_
      walk_at "r"
      refine isS _ ?_
      refine ⟨true, rfl, ?_⟩
      rw [if_neg (by decide)]
      walk_at "r"
      refine w_lenT ht ?_
      walk_at "r"
      rw [if_neg (by simp)]
      walk_at "r"
      refine w_lenT ht ?_
      walk_at "r"
      rw [if_neg (by simp)]
      walk_at "r"
      refine ix2 ht ?_
      walk_at "r"
      refine ⟨m, rfl, ok.2, fun z => ?_⟩
      walk_at "r"
      refine ⟨rfl, false, by simp, ?_⟩
      rw [if_neg (by decide)]
      walk_at "r"
      refine ix0 ht ?_
      walk_at "r"
      rw [decide_eq_false (show ¬ V.str "part" = V.str "hook" by decide +kernel)]
      refine iteF ?_
      walk_at "r"
      rw [if_neg (by decide)]
      walk_at "r"
      refine ix0 ht ?_
      walk_at "r"
      rw [decide_eq_true rfl]
      refine iteT ?_
      walk_at "r"
      refine ix1 ht ?_
      walk_at "r"
      exact ⟨s, rfl, ok.1, fun H' e => k _ e⟩
    | hook c m =>
      obtain ⟨t, xs, rfl, ht, da⟩ := dp_tup dp
      obtain ⟨x0, r, rfl, d0, da⟩ := dpa_cons da
      obtain ⟨x1, r, rfl, d1, da⟩ := dpa_cons da
      obtain ⟨x2, r, rfl, d2, da⟩ := dpa_cons da
      obtain rfl := dpa_nil da
      obtain rfl := dp_str d0
      obtain rfl := dp_str d1
      obtain rfl := Mo.dp d2
      refine row_leaf ht (by show (1 : Int) ≤ 3; decide) (by show (3 : Int) ≤ 3; decide) ?_
      refine ⟨true, rfl, ?_⟩
      rw [if_neg (by decide)]
      walk_at "r"
      refine ix0 ht ?_
      walk_at "r"
      refine isS _ ?_
      refine ⟨true, rfl, ?_⟩
      rw [if_neg (by decide)]
      walk_at "r"
      refine w_lenT ht ?_
      walk_at "r"
      rw [if_neg (by simp)]
      walk_at "r"
      refine w_lenT ht ?_
      walk_at "r"
      rw [if_neg (by simp)]
      walk_at "r"
      refine ix2 ht ?_
      walk_at "r"
      refine ⟨m, rfl, ok.2, fun z => ?_⟩
      walk_at "r"
      refine ⟨rfl, false, by simp, ?_⟩
      rw [if_neg (by decide)]
      walk_at "r"
      refine ix0 ht ?_
      walk_at "r"
      rw [decide_eq_true rfl]
      refine iteT ?_
      walk_at "r"
      refine ix1 ht ?_
      walk_at "r"
      exact ⟨_, c, rfl, ⟨rfl, ok.1.1, ok.1.2⟩, true, rfl, iteT (k _ (w_same _))⟩
/-! ### amounts -/
def spAm (K : PySem.W.Frag) : Sp := fun vs H Q _ => ∃ (v : V) (u : Int × Int), vs = [v] ∧ Dp K H v (amD u) ∧ AmOk u ∧ Q (.bl true) H
theorem ok_is_surplus (T : Txt K mg a) : FnOk P w K mg base CX0 2 a.f_is_surplus a.d_is_surplus ["value"] (spAm K) := by
  refine T.F_is_surplus.ok sc_is_surplus (fun vs H Q E h => ?_) (fun cdv A outer s H vs Q E hr h => ?_)
  · obtain ⟨v, u, rfl, _⟩ := h
    rfl
  · obtain ⟨v, u, rfl, dp, ok, k⟩ := h
    refine ⟨_, (pss_cons (ps_if (pt_val (pe_call (ok_is_wholeA T) (hr.mono (by decide)) (by rfl) T.m_is_whole T.F_is_whole.kp T.b_is_whole .nil pass0 (pa_cons (pv 0) pa_nil))) (pss_one (ps_ret pe_bl)) pss_nil)
      (pss_cons (ps_if (PW.pt (pw_or (pt_not (pt_val (pe_call (ok_is_row T) (hr.mono (by decide)) (by rfl) T.m_is_row T.F_is_row.kp T.b_is_row .nil pass0 (pa_cons (pv 0) (pa_cons pe_int (pa_cons pe_int pa_nil)))))) (pw_or (pt_not (pt_val (pe_call (ok_is_whole T) (hr.mono (by decide)) (by rfl) T.m_is_whole T.F_is_whole.kp T.b_is_whole .nil pass0 (pa_cons (pe_ix ix_tup (pv 0) pe_int (fun _ _ => rfl)) pa_nil)))) (pw_or1 (pt_not (pt_val (pe_call (ok_is_whole T) (hr.mono (by decide)) (by rfl) T.m_is_whole T.F_is_whole.kp T.b_is_whole .nil pass0 (pa_cons (pe_ix ix_tup (pv 0) pe_int (fun _ _ => rfl)) pa_nil)))))))) (pss_one (ps_ret pe_bl)) pss_nil)
      (pss_one (ps_ret (pe_and (pe_cmpR op_gt (pe_ix ix_tup (pv 0) pe_int (fun _ _ => rfl)) pe_int (nomark _)) (pe_one (pe_cmpR op_eq (pe_callBfun cr_gcd rfl T.m_gcd (pa_cons (pe_ix ix_tup (pv 0) pe_int (fun _ _ => rfl)) (pa_cons (pe_ix ix_tup (pv 0) pe_int (fun _ _ => rfl)) pa_nil))) pe_int (nomark _)))))))), ?_⟩
    walk_at "r"
    unfold amD at dp
    by_cases c : u.2 = 1
    · rw [if_pos c] at dp
      obtain rfl := dp_int dp
      refine ⟨_, rfl, .inl ⟨_, rfl, true, rfl, iteT ?_⟩⟩
      walk_at "r"
      exact k
    · rw [if_neg c] at dp
      obtain ⟨t, xs, rfl, ht, da⟩ := dp_tup dp
      obtain ⟨x0, r, rfl, d0, da⟩ := dpa_cons da
      obtain ⟨x1, r, rfl, d1, da⟩ := dpa_cons da
      obtain rfl := dpa_nil da
      obtain rfl := dp_int d0
      obtain rfl := dp_int d1
      refine ⟨_, rfl, .inr ⟨t, _, rfl, ht, false, rfl, iteF ?_⟩⟩
      walk_at "r"
      refine row_leaf ht (by show (2 : Int) ≤ 2; decide) (by show (2 : Int) ≤ 2; decide) ?_
      refine ⟨true, rfl, ?_⟩
      rw [if_neg (by decide)]
      walk_at "r"
      refine ix0 ht ?_
      walk_at "r"
      refine ⟨_, rfl, true, rfl, ?_⟩
      rw [if_neg (by decide)]
      walk_at "r"
      refine ix1 ht ?_
      walk_at "r"
      refine ⟨_, rfl, true, rfl, ?_⟩
      rw [if_neg (by decide)]
      walk_at "r"
      refine ix1 ht ?_
      walk_at "r"
      have p := ok.pos
      rw [decide_eq_true (show (1 : Int) < u.2 by omega)]
      refine iteT ?_
      walk_at "r"
      refine ix0 ht ?_
      walk_at "r"
      refine ix1 ht ?_
      walk_at "r"
      rw [show (u.1.natAbs.gcd u.2.natAbs) = 1 from ok.low]
      exact k
def spSurplus (K : PySem.W.Frag) : Sp := fun vs H Q _ => ∃ (v v0 v1 v2 : V) (t : Addr) (u : Int × Int), vs = [.ref t] ∧ SqT K H t [v0, v1, v2, v] ∧ Dp K H v (amD u) ∧ ∀ q H', Same H H' → SqT K H' q [.int u.1, .int u.2] → Q (.ref q) H'
theorem ok_surplus_of (T : Txt K mg a) : FnOk P w K mg base CX0 2 a.f_surplus_of a.d_surplus_of ["form"] (spSurplus K) := by
  refine T.F_surplus_of.ok sc_surplus_of (fun vs H Q E h => ?_) (fun cdv A outer s H vs Q E hr h => ?_)
  · obtain ⟨v, v0, v1, v2, t, u, rfl, _⟩ := h
    rfl
  · obtain ⟨v, v0, v1, v2, t, u, rfl, ht, dp, k⟩ := h
    refine ⟨_, (pss_cons (ps_set (i := 1) sc_surplus_of.nd rfl (Or.inl rfl) (pe_ix ix_tup (pv 0) pe_int (fun _ _ => rfl)))
      (pss_one (ps_ret (pe_ifExp (pt_val (pe_call (ok_is_wholeA T) (hr.mono (by decide)) (by rfl) T.m_is_whole T.F_is_whole.kp T.b_is_whole .nil pass0 (pa_cons (pv 1) pa_nil))) (pe_tup (pa_cons (pv 1) (pa_cons pe_int pa_nil))) (pv 1))))), ?_⟩
    walk_at "r"
    refine ix3 ht ?_
    walk_at "r"
    refine w_tIf ?_
    walk_at "r"
    unfold amD at dp
    by_cases c : u.2 = 1
    · rw [if_pos c] at dp
      obtain rfl := dp_int dp
      refine ⟨_, rfl, .inl ⟨_, rfl, true, rfl, iteT ?_⟩⟩
      walk_at "r"
      refine w_newT (by show 2 ≤ 100000; decide) fun q H2 n2 e2 h2 => ?_
      exact k q H2 e2 (by rw [c]; exact SqT.of h2)
    · rw [if_neg c] at dp
      obtain ⟨t2, xs, rfl, ht2, da⟩ := dp_tup dp
      obtain ⟨x0, r, rfl, d0, da⟩ := dpa_cons da
      obtain ⟨x1, r, rfl, d1, da⟩ := dpa_cons da
      obtain rfl := dpa_nil da
      obtain rfl := dp_int d0
      obtain rfl := dp_int d1
      refine ⟨_, rfl, .inr ⟨t2, _, rfl, ht2, false, rfl, iteF ?_⟩⟩
      walk_at "r"
      exact k _ _ (w_same _) ht2
def Cnt (s : Str) (n : Nat) : Prop := (s = "not" ∧ n = 1) ∨ (s = "if" ∧ n = 2) ∨ (s = "and" ∧ n = 2) ∨ (s = "or" ∧ n = 3)
theorem Fm.Inner.cnt {f : Fm} (i : f.Inner) : Cnt f.word f.kids.length := by
  cases f with
  | over x y u => exact absurd i.one (Nat.not_succ_le_zero 0)
  | no f => exact .inl ⟨rfl, rfl⟩
  | bi w f g =>
    cases w with
    | true => exact .inr (.inl ⟨rfl, rfl⟩)
    | false => exact .inr (.inr (.inl ⟨rfl, rfl⟩))
  | tri f g h => exact .inr (.inr (.inr ⟨rfl, rfl⟩))
def spCounted : Sp := fun vs H Q _ => ∃ (s : Str) (n : Nat), vs = [.str s, .int n] ∧ Cnt s n ∧ ∀ H', Same H H' → Q (.bl true) H'
theorem ok_is_counted (T : Txt K mg a) : FnOk P w K mg base CX0 1 a.f_is_counted a.d_is_counted ["word", "many"] spCounted := by
  refine T.F_is_counted.ok sc_is_counted (fun vs H Q E h => ?_) (fun cdv A outer s H vs Q E hr h => ?_)
  · obtain ⟨s, n, rfl, _⟩ := h
    rfl
  · obtain ⟨s, n, rfl, c, k⟩ := h
    refine ⟨_, (pss_cons (ps_if (pt_cmpR op_eq (pv 0) pe_str (nomark _)) (pss_one (ps_ret (pe_cmpR op_eq (pv 1) pe_int (nomark _)))) pss_nil)
      (pss_cons (ps_if (pt_cmpR op_eq (pv 0) pe_str (nomark _)) (pss_one (ps_ret (pe_cmpR op_eq (pv 1) pe_int (nomark _)))) pss_nil)
      (pss_one (ps_ret (pe_and (pe_cmpR op_in_seq (pv 0) (pe_tup (pa_cons pe_str (pa_cons pe_str pa_nil))) (by rfl)) (pe_one (pe_chain op_le op_le pe_int (pv 1) (pe_glob (v := .int 6) rfl T.m_MOST_WISHES ⟨_, rfl⟩)))))))), ?_⟩
    rcases c with ⟨rfl, rfl⟩ | ⟨rfl, rfl⟩ | ⟨rfl, rfl⟩ | ⟨rfl, rfl⟩
    · walk_at "r"
      rw [if_pos (by simp)]
      walk_at "r"
      exact k _ (w_same _)
    · walk_at "r"
      rw [if_neg (by decide +kernel)]
      walk_at "r"
      rw [if_pos (by simp)]
      walk_at "r"
      exact k _ (w_same _)
    · walk_at "r"
      rw [if_neg (by decide +kernel)]
      walk_at "r"
      rw [if_neg (by decide +kernel)]
      walk_at "r"
      refine w_newT (by show 2 ≤ 100000; decide) fun q H2 n2 e2 h2 => ?_
      refine ⟨q, _, rfl, .inr (SqT.of h2), rfl, rfl, ?_⟩
      refine ⟨true, by decide +kernel, iteT ?_⟩
      walk_at "r"
      refine iteT ?_
      walk_at "r"
      exact k _ e2
    · walk_at "r"
      rw [if_neg (by decide +kernel)]
      walk_at "r"
      rw [if_neg (by decide +kernel)]
      walk_at "r"
      refine w_newT (by show 2 ≤ 100000; decide) fun q H2 n2 e2 h2 => ?_
      refine ⟨q, _, rfl, .inr (SqT.of h2), rfl, rfl, ?_⟩
      refine ⟨true, by decide +kernel, iteT ?_⟩
      walk_at "r"
      refine iteT ?_
      walk_at "r"
      exact k _ e2
end
end RK17


namespace RK17
open PySem PySem.Spec L2 RK RZ StX PyProof.Rows
section
variable {P : Program} {w : World} {K : PySem.W.Frag} {mg : Str → Option Value} {base : Heap} {a : Ad}
/-! ### what wishes are -/
theorem over_d {H : Hp} {v : V} {x y : Lv} {u : Int × Int} (h : Dp K H v (Fm.over x y u).d) : ∃ t v1 v2 v3, v = .ref t ∧ SqT K H t [.str "over", v1, v2, v3] ∧ Dp K H v1 x.d ∧ Dp K H v2 y.d ∧ Dp K H v3 (amD u) := by
  obtain ⟨t, xs, rfl, ht, da⟩ := dp_tup h
  obtain ⟨x0, r, rfl, d0, da⟩ := dpa_cons da
  obtain ⟨x1, r, rfl, d1, da⟩ := dpa_cons da
  obtain ⟨x2, r, rfl, d2, da⟩ := dpa_cons da
  obtain ⟨x3, r, rfl, d3, da⟩ := dpa_cons da
  obtain rfl := dpa_nil da
  obtain rfl := dp_str d0
  exact ⟨t, x1, x2, x3, rfl, ht, d1, d2, d3⟩
theorem inner_d {H : Hp} {v : V} {f : Fm} (i : f.Inner) (h : Dp K H v f.d) : ∃ t xs, v = .ref t ∧ SqT K H t (.str f.word :: xs) ∧ DpAll K H xs (f.kids.map Fm.d) ∧ xs.length = f.kids.length := by
  rw [i.d] at h
  obtain ⟨t, xs, rfl, ht, da⟩ := dp_tup h
  obtain ⟨x0, r, rfl, d0, db⟩ := dpa_cons da
  obtain rfl := dp_str d0
  exact ⟨t, r, rfl, ht, db, by rw [dpa_len db, List.length_map]⟩
theorem word_ne {f : Fm} (i : f.Inner) : ¬ V.str f.word = V.str "over" := by
  rcases i.cnt with ⟨h, _⟩ | ⟨h, _⟩ | ⟨h, _⟩ | ⟨h, _⟩ <;> rw [h] <;> decide +kernel
theorem nope {CX : CXT} {k : Nat} {f : Addr} {fd : FuncData} {ps : List Str} {sp : Sp} (h : ∀ vs H Q E, ¬ sp vs H Q E) : FnOk P w K mg base CX k f fd ps sp := ⟨fun vs H Q E z => (h vs H Q E z).elim, fun A outer s H args us vs Q E _ _ _ _ z => (h vs H Q E z).elim⟩
theorem tail_leaf {H : Hp} {Q : VK} {t : Addr} {x : V} {xs : List V} (ht : SqT K H t (x :: xs)) (k : ∀ p H', Same H H' → SqT K H' p xs → Q (.ref p) H') : rSlT K (.ref t) (some 1) none H Q := by
  refine ⟨t, _, rfl, ht, fun z => ?_, fun p np => ?_⟩
  · have := z.1
    rw [show (some (1 : Int)) = some ((1 : Nat) : Int) from rfl, HT.sIx_nat, List.length_cons] at this
    omega
  · rw [cut1]
    exact k p _ (w_new np) (SqT.of upd_same)
def spShaped (K : PySem.W.Frag) (n : Nat) : Sp := fun vs H Q _ => ∃ (v : V) (f : Fm) (d : Nat), vs = [v, .int d] ∧ Dp K H v f.d ∧ f.Ok ∧ f.ht < n ∧ d + f.ht ≤ 4 ∧ ∀ H', Same H H' → Q (.bl true) H'
theorem ok_shapedN (T : Txt K mg a) : ∀ n, FnOk P w K mg base CX0 (n + 6) a.f_is_shaped a.d_is_shaped ["value", "depth"] (spShaped K n)
  | 0 => nope fun vs H Q E ⟨_, _, _, _, _, _, h, _⟩ => absurd h (Nat.not_lt_zero _)
  | n + 1 => by
    have ih : ∀ _ : Txt K mg a, FnOk P w K mg base CX0 (n + 6) a.f_is_shaped a.d_is_shaped ["value", "depth"] (spShaped K n) := fun T => ok_shapedN T n
    refine FnOk.mono (j := n + 6 + 1) ?_ (by omega)
    refine T.F_is_shaped.ok sc_is_shaped (fun vs H Q E h => ?_) (fun cdv A outer s H vs Q E hr h => ?_)
    · obtain ⟨v, f, d, rfl, _⟩ := h
      rfl
    · obtain ⟨v, f, d, rfl, dp, ok, hn, hd, k⟩ := h
      refine ⟨_, (pss_cons (ps_if (PW.pt (pw_or (pt_cmpR op_gt (pv 1) (pe_glob (v := .int 4) rfl T.m_MOST_DEPTH ⟨_, rfl⟩) (nomark _)) (pw_or (pt_not (pt_val (pe_call (ok_is_row T) (hr.mono (by omega)) (by rfl) T.m_is_row T.F_is_row.kp T.b_is_row .nil pass0 (pa_cons (pv 0) (pa_cons pe_int (pa_cons (pe_op op_add (pe_glob (v := .int 6) rfl T.m_MOST_WISHES ⟨_, rfl⟩) pe_int) pa_nil)))))) (pw_or1 (pt_not (pt_val (pe_callB call_isi (by rfl) T.z_isinstance (by decide +kernel) (pa_cons (pe_ix ix_tup (pv 0) pe_int (fun _ _ => rfl)) (pa_cons (pe_bltn (v := .ty "str") (by rfl) T.z_str (by decide +kernel) rfl) pa_nil))))))))) (pss_one (ps_ret pe_bl)) pss_nil)
      (pss_cons (ps_if (pt_cmpR op_eq (pe_ix ix_tup (pv 0) pe_int (fun _ _ => rfl)) pe_str (nomark _)) (pss_one (ps_ret (pe_and (pe_cmpR op_eq (pe_callB cr_len (by rfl) T.z_len PySem.boot_len (pa_cons (pv 0) pa_nil)) pe_int (nomark _)) (pe_and (pe_call (ok_is_level T) (hr.mono (by omega)) (by rfl) T.m_is_level T.F_is_level.kp T.b_is_level .nil pass0 (pa_cons (pe_ix ix_tup (pv 0) pe_int (fun _ _ => rfl)) pa_nil)) (pe_and (pe_call (ok_is_level T) (hr.mono (by omega)) (by rfl) T.m_is_level T.F_is_level.kp T.b_is_level .nil pass0 (pa_cons (pe_ix ix_tup (pv 0) pe_int (fun _ _ => rfl)) pa_nil)) (pe_one (pe_call (ok_is_surplus T) (hr.mono (by omega)) (by rfl) T.m_is_surplus T.F_is_surplus.kp T.b_is_surplus .nil pass0 (pa_cons (pe_ix ix_tup (pv 0) pe_int (fun _ _ => rfl)) pa_nil)))))))) pss_nil)
      (pss_cons (ps_if (pt_not (pt_val (pe_call (ok_is_counted T) (hr.mono (by omega)) (by rfl) T.m_is_counted T.F_is_counted.kp T.b_is_counted .nil pass0 (pa_cons (pe_ix ix_tup (pv 0) pe_int (fun _ _ => rfl)) (pa_cons (pe_op op_sub (pe_callB cr_len (by rfl) T.z_len PySem.boot_len (pa_cons (pv 0) pa_nil)) pe_int) pa_nil))))) (pss_one (ps_ret pe_bl)) pss_nil)
      (pss_one (ps_ret (pe_callB (cr_all rfl) (by rfl) T.z_all (by decide +kernel) (pa_cons (pe_lc (own := [("each", 2)]) (g := gName 2) (tt := tYes) rfl sc_is_shaped.nd (pi_tup (pe_slice sl_tup (pv 0) (po_some pe_int) po_none)) (blkOk_by (own := [("each", 2)]) (N := ["value", "depth", "each"]) (sc := defScope s_is_shaped) (by decide +kernel)) (fun _ _ _ _ _ => pg_name (i := 2) sc_is_shaped.nd rfl (Or.inl rfl)) (fun _ _ _ _ _ => pts_nil) (fun _ _ _ _ _ => by exact (pe_call (ih T) (hr.mono (by omega)) (by rfl) T.m_is_shaped T.F_is_shaped.kp T.b_is_shaped .nil pass0 (pa_cons (pv 2) (pa_cons (pe_op op_add (pv 1) pe_int) pa_nil))))) pa_nil))))))), ?_⟩
      walk_at "r"
      rw [if_neg (by simp; omega)]
      walk_at "r"
      rcases f.cases_ with ⟨x, y, u, rfl⟩ | fi
      · obtain ⟨t, v1, v2, v3, rfl, ht, d1, d2, d3⟩ := over_d dp
        refine row_leaf ht (by show (2 : Int) ≤ 4; decide) (by show (4 : Int) ≤ 6 + 1; decide) ?_
        refine ⟨true, rfl, ?_⟩
        rw [if_neg (by decide)]
        walk_at "r"
        refine ix0 ht ?_
        walk_at "r"
        refine isS _ ?_
        refine ⟨true, rfl, ?_⟩
        rw [if_neg (by decide)]
        walk_at "r"
        refine ix0 ht ?_
        walk_at "r"
        rw [if_pos (by simp)]
        walk_at "r"
        refine w_lenT ht ?_
        walk_at "r"
        refine iteT ?_
        walk_at "r"
        refine ix1 ht ?_
        walk_at "r"
        refine ⟨v1, x, rfl, d1, ok.1, fun H1 e1 => ?_⟩
        refine ⟨true, rfl, iteT ?_⟩
        walk_at "r"
        refine ix2 (seqT_same e1 ht) ?_
        walk_at "r"
        refine ⟨v2, y, rfl, Dp.same e1 _ d2, ok.2.1, fun H2 e2 => ?_⟩
        refine ⟨true, rfl, iteT ?_⟩
        walk_at "r"
        refine ix3 (seqT_same (e1.trans e2) ht) ?_
        walk_at "r"
        exact ⟨v3, u, rfl, Dp.same (e1.trans e2) _ d3, ok.2.2, k _ (e1.trans e2)⟩
      · obtain ⟨t, xs, rfl, ht, da, xl⟩ := inner_d fi dp
        have k1 := fi.one
        have k3 := fi.few
        refine row_leaf ht (by rw [List.length_cons, xl]; omega) (by rw [List.length_cons, xl]; omega) ?_
        refine ⟨true, rfl, ?_⟩
        rw [if_neg (by decide)]
        walk_at "r"
        refine ix0 ht ?_
        walk_at "r"
        refine isS _ ?_
        refine ⟨true, rfl, ?_⟩
        rw [if_neg (by decide)]
        walk_at "r"
        refine ix0 ht ?_
        walk_at "r"
        rw [if_neg (by rw [decide_eq_false (word_ne fi)]; decide)]
        walk_at "r"
        refine ix0 ht ?_
        walk_at "r"
        refine w_lenT ht ?_
        walk_at "r"
        refine ⟨f.word, f.kids.length, by rw [List.length_cons, xl]; simp, fi.cnt, fun H1 e1 => ?_⟩
        refine ⟨true, rfl, ?_⟩
        rw [if_neg (by decide)]
        walk_at "r"
        refine tail_leaf (seqT_same e1 ht) fun p H2 e2 hp => ?_
        have db := DpAll.same (e1.trans e2) _ da
        refine ⟨p, rfl, ⟨_, hp⟩, cmS (walk_tup (xs := xs)) (by omega) (fun G e => seqT_same e hp) (fun _ v _ => v = .bl true) (fun _ _ _ _ _ h => h) (fun i x G1 G2 hi e hy Q' kq => ?_) (fun D ys H3 n3 e3 h3 hl3 hP => ?_)⟩
        · obtain ⟨rfl, hx⟩ := hy
          obtain ⟨dd, hd2, dx⟩ := dpa_at db i x hx
          rw [List.getElem?_map] at hd2
          obtain ⟨g, hg, rfl⟩ := Option.map_eq_some_iff.mp hd2
          have gm := List.mem_of_getElem? hg
          have gh := fi.ht g gm
          refine ⟨rfl, ?_⟩
          walk_at "r"
          exact ⟨x, g, d + 1, rfl, Dp.same e _ dx, fi.ok ok g gm, by omega, by omega, fun H' e' => kq _ _ e' rfl⟩
        walk_at "r"
        exact all_P h3 hP (k _ ((e1.trans e2).trans e3))
/-! ### the overs of a wish -/
def spOvers (K : PySem.W.Frag) (n : Nat) : Sp := fun vs H Q _ => ∃ (v : V) (f : Fm), vs = [v] ∧ Dp K H v f.d ∧ f.ht < n ∧ f.ov ≤ 50 ∧ ∀ l xs H', H l = none → Same H H' → H' l = some (.lst xs) → xs.length = f.ov → Q (.ref l) H'
theorem ov_pos : ∀ f : Fm, 1 ≤ f.ov
  | .over _ _ _ => Nat.le_refl _
  | .no f => ov_pos f
  | .bi _ f g => Nat.le_trans (ov_pos f) (Nat.le_add_right _ _)
  | .tri f g h => Nat.le_trans (ov_pos f) (Nat.le_trans (Nat.le_add_right _ _) (Nat.le_add_right _ _))
theorem sum_take (l : List Nat) : ∀ i, (l.take i).sum ≤ l.sum := fun i => by
  have := congrArg List.sum (List.take_append_drop i l)
  rw [List.sum_append] at this
  omega
theorem ok_oversN (T : Txt K mg a) : ∀ n, FnOk P w K mg base CX0 (n + 6) a.f_overs_in a.d_overs_in ["form"] (spOvers K n)
  | 0 => nope fun vs H Q E ⟨_, _, _, _, h, _⟩ => absurd h (Nat.not_lt_zero _)
  | n + 1 => by
    have ih : ∀ _ : Txt K mg a, FnOk P w K mg base CX0 (n + 6) a.f_overs_in a.d_overs_in ["form"] (spOvers K n) := fun T => ok_oversN T n
    refine FnOk.mono (j := n + 6 + 1) ?_ (by omega)
    refine T.F_overs_in.ok sc_overs_in (fun vs H Q E h => ?_) (fun cdv A outer s H vs Q E hr h => ?_)
    · obtain ⟨v, f, rfl, _⟩ := h
      rfl
    · obtain ⟨v, f, rfl, dp, hn, h50, k⟩ := h
      refine ⟨_, (pss_cons (ps_if (pt_cmpR op_eq (pe_ix ix_tup (pv 0) pe_int (fun _ _ => rfl)) pe_str (nomark _)) (pss_one (ps_ret (pe_lst (pa_cons (pv 0) pa_nil)))) pss_nil)
      (pss_cons (ps_set (i := 1) sc_overs_in.nd rfl (Or.inl rfl) (pe_lst pa_nil))
      (pss_cons (ps_for PassesOwn.never rfl (pi_tup (pe_slice sl_tup (pv 0) (po_some pe_int) po_none)) (pg_name (i := 2) sc_overs_in.nd rfl (Or.inl rfl)) (pss_one (ps_expr (pe_bm PySem.F.plainAttrs_list PySem.F.slot_list_extend PySem.F.type_list_extend mt_extend (pv 1) (pa_cons (pe_call (ih T) (hr.mono (by omega)) (by rfl) T.m_overs_in T.F_overs_in.kp T.b_overs_in .nil pass0 (pa_cons (pv 2) pa_nil)) pa_nil)))))
      (pss_one (ps_ret (pv 1)))))), ?_⟩
      have eσ : ∀ N : List Str, N.length = 3 → L2.start N [v] = [some v, none, none] := fun N hN => by unfold L2.start; rw [hN]; rfl
      rw [eσ _ (by rfl)]
      rcases f.cases_ with ⟨x, y, u, rfl⟩ | fi
      · obtain ⟨t, v1, v2, v3, rfl, ht, d1, d2, d3⟩ := over_d dp
        walk_at "r"
        refine ix0 ht ?_
        walk_at "r"
        rw [if_pos (by simp)]
        walk_at "r"
        refine w_newL (by show 1 ≤ 100000; decide) fun l H1 n1 e1 h1 => ?_
        exact k l _ H1 n1 e1 h1 rfl
      · obtain ⟨t, xs, rfl, ht, da, xl⟩ := inner_d fi dp
        have k3 := fi.few
        walk_at "r"
        refine ix0 ht ?_
        walk_at "r"
        rw [if_neg (by rw [decide_eq_false (word_ne fi)]; decide)]
        walk_at "r"
        refine w_newL (by show 0 ≤ 100000; decide) fun l H1 n1 e1 h1 => ?_
        walk_at "r"
        refine tail_leaf (seqT_same e1 ht) fun p H2 e2 hp => ?_
        have e12 := e1.trans e2
        have db := DpAll.same e12 _ da
        have hl2 := e2 _ _ h1
        refine ⟨p, rfl, ⟨_, hp⟩, for_leaf (walk_tup (xs := xs)) (fun i σ' G => Same H G ∧ (∃ ys, G l = some (.lst ys) ∧ ys.length = ((f.kids.map Fm.ov).take i).sum) ∧ SqT K G p xs ∧ ∃ v2, σ' = [some (.ref t), some (.ref l), v2]) ⟨e12, ⟨[], hl2, rfl⟩, hp, _, rfl⟩ (fun i σ' G _ ⟨_, _, h, _⟩ => h) ?_ ?_⟩
        · rintro i x σ' G G2 hi ⟨e, ⟨ys, hy, yl⟩, hpG, v2, rfl⟩ ⟨rfl, hx⟩
          have dG := DpAll.same e _ da
          obtain ⟨dd, hd2, dx⟩ := dpa_at dG i x hx
          rw [List.getElem?_map] at hd2
          obtain ⟨g, hg, rfl⟩ := Option.map_eq_some_iff.mp hd2
          have gm := List.mem_of_getElem? hg
          have gh := fi.ht g gm
          have og : (f.kids.map Fm.ov)[i]? = some g.ov := by rw [List.getElem?_map, hg]; rfl
          have tk : ((f.kids.map Fm.ov).take (i + 1)).sum = ((f.kids.map Fm.ov).take i).sum + g.ov := by
            rw [List.take_succ, og, List.sum_append]
            show _ + (g.ov + 0) = _
            omega
          have lt := sum_take (f.kids.map Fm.ov) (i + 1)
          rw [← fi.ov] at lt
          walk_at "r"
          refine ⟨.inl ⟨rfl, _, .inl (.inl hy)⟩, ?_⟩
          walk_at "r"
          refine ⟨x, g, rfl, dx, by omega, by omega, fun l2 zs H3 n3 e3 h3 zl => ?_⟩
          walk_at "r"
          have hy3 := e3 _ _ hy
          refine ⟨l, l2, ys, zs, rfl, rfl, hy3, h3, Nat.le_trans (show ys.length + zs.length ≤ 50 by omega) (by decide), ?_⟩
          refine ⟨RK.Same.updL (e.trans e3) n1, ⟨_, upd_same, by rw [List.length_append, yl, zl, tk]⟩, (SameT.upd hy3).sqt (seqT_same e3 hpG), _, rfl⟩
        · rintro σ' G ⟨e, ⟨ys, hy, yl⟩, hpG, v2, rfl⟩
          walk_at "r"
          rw [xl, show f.kids.length = (f.kids.map Fm.ov).length from (List.length_map _).symm, List.take_length, ← fi.ov] at yl
          exact k l ys G n1 e hy yl
def spWform (K : PySem.W.Frag) : Sp := fun vs H Q _ => ∃ (v : V) (f : Fm), vs = [v] ∧ Dp K H v f.d ∧ f.Ok ∧ f.ht ≤ 4 ∧ f.ov ≤ 8 ∧ ∀ H', Same H H' → Q (.bl true) H'
theorem ok_is_wish_form (T : Txt K mg a) : FnOk P w K mg base CX0 14 a.f_is_wish_form a.d_is_wish_form ["value"] (spWform K) := by
  refine T.F_is_wish_form.ok sc_is_wish_form (fun vs H Q E h => ?_) (fun cdv A outer s H vs Q E hr h => ?_)
  · obtain ⟨v, f, rfl, _⟩ := h
    rfl
  · obtain ⟨v, f, rfl, dp, ok, h4, h8, k⟩ := h
    have ok_is_shaped : ∀ T : Txt K mg a, FnOk P w K mg base CX0 11 a.f_is_shaped a.d_is_shaped ["value", "depth"] (spShaped K 5) := fun T => ok_shapedN T 5
    have ok_overs_in : ∀ T : Txt K mg a, FnOk P w K mg base CX0 11 a.f_overs_in a.d_overs_in ["form"] (spOvers K 5) := fun T => ok_oversN T 5
    refine ⟨_, (pss_one (ps_ret (pe_and (pe_call (ok_is_shaped T) (hr.mono (by decide)) (by rfl) T.m_is_shaped T.F_is_shaped.kp T.b_is_shaped .nil pass0 (pa_cons (pv 0) (pa_cons pe_int pa_nil))) (pe_one (pe_cmpR op_le (pe_callB cr_len (by rfl) T.z_len PySem.boot_len (pa_cons (pe_call (ok_overs_in T) (hr.mono (by decide)) (by rfl) T.m_overs_in T.F_overs_in.kp T.b_overs_in .nil pass0 (pa_cons (pv 0) pa_nil)) pa_nil)) (pe_glob (v := .int 8) rfl T.m_MOST_OVERS ⟨_, rfl⟩) (nomark _)))))), ?_⟩
    walk_at "r"
    refine ⟨v, f, 0, rfl, dp, ok, by omega, by omega, fun H1 e1 => ?_⟩
    refine ⟨true, rfl, iteT ?_⟩
    walk_at "r"
    refine ⟨v, f, rfl, Dp.same e1 _ dp, by omega, by omega, fun l xs H2 n2 e2 h2 xl => ?_⟩
    walk_at "r"
    refine w_lenL (SqL.of h2) ?_
    walk_at "r"
    rw [decide_eq_true (show (xs.length : Int) ≤ 8 by omega)]
    exact k _ (e1.trans e2)
end
end RK17


namespace RK17
open PySem PySem.Spec L2 RK RZ StX PyProof.Rows
/-! ### values -/
def rfs (t b : Int) : List (Str × V) := [(("top" : Str), .int t), (("bottom" : Str), .int b)]
theorem rfs_top (t b : Int) : (rfs t b).lookup ("top" : Str) = some (.int t) := by simp [rfs, List.lookup]
theorem rfs_bot (t b : Int) : (rfs t b).lookup ("bottom" : Str) = some (.int b) := by
  have h : (("bottom" : Str) == ("top" : Str)) = false := by decide +kernel
  simp [rfs, List.lookup, h]
theorem rfs_no (t b : Int) {m : Str} (h1 : (m == ("top" : Str)) = false) (h2 : (m == ("bottom" : Str)) = false) : (rfs t b).lookup m = none := by simp [rfs, List.lookup, h1, h2]
theorem rfs_put (t b : Int) : putF "bottom" (.int b) (putF "top" (.int t) []) = rfs t b := by
  have k : ¬ (("top" : Str) = "bottom") := by decide +kernel
  show (if ("top" : Str) = "bottom" then [(("top" : Str), V.int b)] else (("top" : Str), V.int t) :: putF "bottom" (V.int b) []) = rfs t b
  rw [if_neg k]
  all_goals rfl
/-- a Ratio stands at p: t / b in lowest terms -/
structure Rat (C : Addr) (H : Hp) (p : Addr) (t b : Int) : Prop where
  ob : ∃ dx, H p = some (.ins C dx (rfs t b))
  pos : 0 < b
  cop : Int.gcd t b = 1
theorem Rat.same {C : Addr} {H H' : Hp} {p : Addr} {t b : Int} (r : Rat C H p t b) (e : Same H H') : Rat C H' p t b := let ⟨dx, h⟩ := r.ob; ⟨⟨dx, e _ _ h⟩, r.pos, r.cop⟩
theorem Rat.sameT {C : Addr} {H H' : Hp} {p : Addr} {t b : Int} (r : Rat C H p t b) (e : SameT H H') : Rat C H' p t b := let ⟨dx, h⟩ := r.ob; ⟨⟨dx, e.ins h⟩, r.pos, r.cop⟩
theorem Rat.kp {C : Addr} {H H' : Hp} {p bg : Addr} {t b : Int} (r : Rat C H p t b) (e : Kp bg H H') : Rat C H' p t b := let ⟨dx, h⟩ := r.ob; ⟨⟨dx, e.ins h⟩, r.pos, r.cop⟩
section
variable {P : Program} {w : World} {K : PySem.W.Frag} {mg : Str → Option Value} {base : Heap} {a : Ad}
def spWholeR (K : PySem.W.Frag) : Sp := fun vs H Q _ => ∃ x t b1 b2, vs = [x] ∧ TyX K H x t ∧ PySem.W.kitOne K t (.type "int") = some b1 ∧ PySem.W.kitOne K t (.type "bool") = some b2 ∧ Q (.bl (b1 && !b2)) H
theorem ok_is_wholeR (T : Txt K mg a) : FnOk P w K mg base CX0 1 a.f_is_whole a.d_is_whole ["value"] (spWholeR K) := by
  refine T.F_is_whole.ok sc_is_whole (fun vs H Q E h => ?_) (fun cdv A outer s H vs Q E hr h => ?_)
  · obtain ⟨x, t, b1, b2, rfl, _⟩ := h
    rfl
  · obtain ⟨x, t, b1, b2, rfl, ty, h1, h2, k⟩ := h
    refine ⟨_, (pss_one (ps_ret (pe_and (pe_callB call_isi (by rfl) T.z_isinstance (by decide +kernel) (pa_cons (pv 0) (pa_cons (pe_bltn (v := .ty "int") (by rfl) T.z_int (by decide +kernel) rfl) pa_nil))) (pe_one (pe_not (pe_callB call_isi (by rfl) T.z_isinstance (by decide +kernel) (pa_cons (pv 0) (pa_cons (pe_bltn (v := .ty "bool") (by rfl) T.z_bool (by decide +kernel) rfl) pa_nil)))))))), ?_⟩
    walk_at "r"
    refine ⟨x, .ty "int", t, .type "int", b1, rfl, .ty _, ty, h1, b1, rfl, ?_⟩
    cases b1 with
    | false => exact iteF k
    | true =>
      refine iteT ?_
      walk_at "r"
      exact ⟨x, .ty "bool", t, .type "bool", b2, rfl, .ty _, ty, h2, b2, rfl, by simpa using k⟩
theorem wholeR_int {K : PySem.W.Frag} {H : Hp} {Q : VK} {E : XK} {i : Int} (q : Q (.bl true) H) : spWholeR K [.int i] H Q E :=
  ⟨.int i, .type "int", true, false, rfl, .base (.int i), kit_ty (by decide +kernel), kit_ty (by decide +kernel), q⟩
/-! ### making -/
def spInit (C : Addr) : Sp := fun vs H Q _ => ∃ (p dx : Addr) (t b : Int), vs = [.ref p, .int t, .int b] ∧ H p = some (.ins C dx []) ∧ 0 < b ∧ Sz 8000 b ∧
  ∀ H' x y, H' p = some (.ins C dx (rfs x y)) → (∀ c o, c ≠ p → H c = some o → H' c = some o) → Nrm t b x y → Q .non H'
theorem ok_Ratio_init (T : Txt K mg a) : FnOk P w K mg base CX0 2 a.f_Ratio_init a.d_Ratio_init ["self", "top", "bottom"] (spInit a.C_Ratio) := by
  refine T.F_Ratio_init.ok sc_Ratio_init (fun vs H Q E h => ?_) (fun cdv A outer s H vs Q E hr h => ?_)
  · obtain ⟨p, dx, t, b, rfl, _⟩ := h
    rfl
  · obtain ⟨p, dx, t, b, rfl, hp, h0, hz, k⟩ := h
    refine ⟨_, PSs.nox ((pss_cons (ps_if (pt_not (pt_val (pe_call (ok_is_wholeR T) (hr.mono (by decide)) (by rfl) T.m_is_whole T.F_is_whole.kp T.b_is_whole .nil pass0 (pa_cons (pv 1) pa_nil)))) (pss_one ps_never) pss_nil)
      (pss_cons (ps_if (PW.pt (pw_or (pt_not (pt_val (pe_call (ok_is_wholeR T) (hr.mono (by decide)) (by rfl) T.m_is_whole T.F_is_whole.kp T.b_is_whole .nil pass0 (pa_cons (pv 2) pa_nil)))) (pw_or1 (pt_cmpR op_lt (pv 2) pe_int (nomark _))))) (pss_one ps_never) pss_nil)
      (pss_cons (ps_set (i := 3) sc_Ratio_init.nd rfl (Or.inl rfl) (pe_callBfun cr_gcd rfl T.m_gcd (pa_cons (pv 1) (pa_cons (pv 2) pa_nil))))
      (pss_cons (ps_fld (pv 0) (pe_op op_fdivW (pv 1) (pv 3)) rfl)
      (pss_one (ps_fld (pv 0) (pe_op op_fdivW (pv 2) (pv 3)) rfl))))))), ?_⟩
    have hN := nrm_div (u := t) h0
    have g0 : 0 < Int.gcd t b := Int.gcd_pos_of_ne_zero_right t (by omega)
    have gle : (Int.gcd t b : Int) ≤ b := Int.le_of_dvd h0 (Int.gcd_dvd_right ..)
    have gz : CDivW 0 (Int.gcd t b : Int) := wide_div (by omega) (wide_le (by omega) gle hz) (by decide) (by decide)
    walk_at "r"
    refine wholeR_int ?_
    walk_at "r"
    refine iteF ?_
    walk_at "r"
    refine wholeR_int ?_
    walk_at "r"
    refine iteF ?_
    walk_at "r"
    rw [decide_eq_false (by omega)]
    refine iteF ?_
    walk_at "r"
    refine ⟨p, _, dx, _, rfl, hp, T.cl_Ratio, T.nT, by decide, ?_⟩
    walk_at "r"
    refine ⟨p, _, dx, _, rfl, upd_same, T.cl_Ratio, T.nB, by show 1 < 1000; decide, ?_⟩
    rw [upd_upd]
    exact k _ (t / (Int.gcd t b : Int)) (b / (Int.gcd t b : Int)) (Eq.trans upd_same (congrArg (fun l => some (HO.ins a.C_Ratio dx l)) (rfs_put _ _))) (fun c o hc e => by rw [upd_ne hc]; exact e) hN
theorem bd_Ratio (T : Txt K mg a) : L2.Binds K a.d_Ratio_init ["self", "top", "bottom"] [] := by
  obtain ⟨ds, v, b⟩ := T.F_Ratio_init.binds1 (ps := ["self", "top", "bottom"]) 3 1 (by simp) rfl (fun _ _ _ _ _ _ _ us its h1 h2 => match us, its, h1, h2 with | [_, _, _], [_], _, _ => ⟨_, rfl, rfl⟩)
  cases v
  exact b
theorem bd1_Ratio (T : Txt K mg a) : ∃ ds, L2.Vals [.int 1] ds ∧ L2.Binds K a.d_Ratio_init ["self", "top", "bottom"] ds :=
  T.F_Ratio_init.binds1 (ps := ["self", "top", "bottom"]) 2 0 (by simp) rfl (fun _ _ _ _ _ _ _ us its h1 h2 => match us, its, h1, h2 with | [_, _], [_], _, _ => ⟨_, rfl, rfl⟩)
theorem mkq_leaf {C : Addr} {H : Hp} {Q : VK} {t b : Int} (h0 : 0 < b) (hz : Sz 8000 b) (k : ∀ p H' x y, H p = none → Same H H' → Rat C H' p x y → Nrm t b x y → Q (.ref p) H') : MkL C (spInit C) E0 [.int t, .int b] H Q := by
  intro p dx hp hdx hne
  refine ⟨p, dx, t, b, rfl, upd_same, h0, hz, fun H' x y e kp n => ⟨rfl, ?_⟩⟩
  refine k p H' x y hp (fun c o q => kp c o (ne_of_none q hp) ?_) ⟨⟨dx, e⟩, n.pos, n.cop⟩ n
  rw [upd_ne (ne_of_none q hp), upd_ne (ne_of_none q hdx)]
  exact q
theorem mkq1_leaf {C : Addr} {H : Hp} {Q : VK} {t : Int} (k : ∀ p H', H p = none → Same H H' → Rat C H' p t 1 → Q (.ref p) H') : MkL C (spInit C) E0 [.int t, .int 1] H Q :=
  mkq_leaf (by decide) Sz.one fun p H' x y hp e r n => by
    have z := n.uniq (u' := t) (l' := 1) (x' := t) (y' := 1) ⟨by decide, Int.gcd_one_right .., rfl⟩ (by decide) (by decide) rfl
    obtain ⟨rfl, rfl⟩ := z
    exact k p H' hp e r
theorem top_leaf (T : Txt K mg a) {H : Hp} {Q : VK} {p : Addr} {t b : Int} (r : Rat a.C_Ratio H p t b) (q : Q (.int t) H) : Fl K "top" (.ref p) H Q := by
  obtain ⟨dx, h⟩ := r.ob
  exact ⟨p, _, dx, _, _, rfl, h, T.cl_Ratio, T.nT, rfs_top _ _, q⟩
theorem bot_leaf (T : Txt K mg a) {H : Hp} {Q : VK} {p : Addr} {t b : Int} (r : Rat a.C_Ratio H p t b) (q : Q (.int b) H) : Fl K "bottom" (.ref p) H Q := by
  obtain ⟨dx, h⟩ := r.ob
  exact ⟨p, _, dx, _, _, rfl, h, T.cl_Ratio, T.nB, rfs_bot _ _, q⟩
/-- digits 0 to 9 alone, one at least -/
def dg (t : Str) : Bool := decide (t.cps.toList ≠ []) && t.cps.toList.all fun c => decide (48 ≤ c) && decide (c ≤ 57)
theorem low_digit : ∀ c : Nat, c < 128 → Unicode.isDigit c = (decide (48 ≤ c) && decide (c ≤ 57)) := by decide +kernel
theorem dg_of (t : Str) : (Txt.isascii t && Txt.isdigit t) = dg t := by
  unfold Txt.isascii Txt.isdigit dg
  have hl : t.length = t.cps.toList.length := Array.length_toList.symm
  rw [hl, ← Array.all_toList, ← Array.all_toList]
  generalize t.cps.toList = l
  by_cases h : l.all (fun c => decide (c < 128)) = true
  · have e : l.all Unicode.isDigit = l.all fun c => decide (48 ≤ c) && decide (c ≤ 57) := by
      rw [Bool.eq_iff_iff, List.all_eq_true, List.all_eq_true]
      exact forall_congr' fun c => forall_congr' fun hc => by rw [low_digit c (of_decide_eq_true (List.all_eq_true.mp h c hc))]
    rw [h, e]
    cases l <;> simp
  · rw [Bool.not_eq_true] at h
    have e : l.all (fun c => decide (48 ≤ c) && decide (c ≤ 57)) = false := by
      rw [Bool.eq_false_iff]
      intro z
      rw [Bool.eq_false_iff] at h
      exact h (List.all_eq_true.mpr fun c hc => by
        have := List.all_eq_true.mp z c hc
        simp only [Bool.and_eq_true, decide_eq_true_eq] at this
        exact decide_eq_true (by omega))
    rw [h, e]
    simp
def spDig : Sp := fun vs H Q _ => ∃ t, vs = [.str t] ∧ Q (.bl (dg t)) H
theorem ok_has_digits_alone (T : Txt K mg a) : FnOk P w K mg base CX0 1 a.f_has_digits_alone a.d_has_digits_alone ["text"] spDig := by
  refine T.F_has_digits_alone.ok sc_has_digits_alone (fun vs H Q E h => ?_) (fun cdv A outer s H vs Q E hr h => ?_)
  · obtain ⟨t, rfl, _⟩ := h
    rfl
  · obtain ⟨t, rfl, k⟩ := h
    refine ⟨_, (pss_one (ps_ret (pe_and (pe_m0 PySem.F.slot_str_isascii PySem.F.type_str_isascii mt_isascii (pv 0)) (pe_one (pe_m0 PySem.F.slot_str_isdigit PySem.F.type_str_isdigit mt_isdigit (pv 0)))))), ?_⟩
    walk_at "r"
    refine ⟨.str t, rfl, ⟨t, rfl⟩, t, rfl, rfl, trivial, Txt.isascii t, rfl, ?_⟩
    rw [← dg_of] at k
    cases e : Txt.isascii t with
    | false =>
      rw [e] at k
      rw [if_neg (by decide)]
      exact k
    | true =>
      rw [e] at k
      rw [if_pos rfl]
      exact ⟨.str t, rfl, ⟨t, rfl⟩, t, rfl, rfl, trivial, k⟩
theorem fold_lt : ∀ (cs : List Nat) (m : Nat), NumText.AllDigits cs → cs.foldl (fun acc c => acc * 10 + (c - 48)) m < (m + 1) * 10 ^ cs.length
  | [], m, _ => by simp
  | c :: r, m, h => by
    have ih := fold_lt r (m * 10 + (c - 48)) fun x hx => h x (List.mem_cons_of_mem _ hx)
    have hc := h c List.mem_cons_self
    rw [List.foldl_cons, List.length_cons]
    refine Nat.lt_of_lt_of_le ih ?_
    calc (m * 10 + (c - 48) + 1) * 10 ^ r.length ≤ ((m + 1) * 10) * 10 ^ r.length := Nat.mul_le_mul_right _ (by omega)
      _ = (m + 1) * 10 ^ (r.length + 1) := by rw [Nat.pow_succ, Nat.mul_assoc, Nat.mul_comm 10]
theorem dg_all {t : Str} (h : dg t = true) : NumText.AllDigits t.cps.toList ∧ t.cps.toList ≠ [] := by
  obtain ⟨h1, h2⟩ := Bool.and_eq_true_iff.mp h
  refine ⟨fun c hc => ?_, of_decide_eq_true h1⟩
  have z := List.all_eq_true.mp h2 c hc
  rw [Bool.and_eq_true, decide_eq_true_eq, decide_eq_true_eq] at z
  exact z
/-- a row of digits is a number -/
theorem dg_int {t : Str} (h : dg t = true) (hl : t.length ≤ 640) : ∃ n : Nat, intText? t = some (n : Int) ∧ Sz 3000 (n : Int) := by
  obtain ⟨h1, h2⟩ := dg_all h
  refine ⟨_, PySem.intText_digits h1 h2 (by omega), ?_⟩
  have z := fold_lt t.cps.toList 0 h1
  have e : t.cps.toList.length = t.length := Array.length_toList
  rw [e] at z
  show ((NumText.digitsVal t.cps.toList : Nat) : Int).natAbs < 2 ^ 3000
  rw [Int.natAbs_natCast]
  refine Nat.lt_of_lt_of_le z ?_
  rw [Nat.zero_add, Nat.one_mul]
  exact Nat.le_trans (Nat.pow_le_pow_right (by decide) hl) (by decide +kernel)
theorem pre_int {t : Str} (h : dg (Txt.removeprefix t "-") = true) (hl : t.length ≤ 640) : ∃ n : Int, intText? t = some n := by
  rw [StrLaws.removeprefix_eq] at h
  split at h
  · rename_i c
    have c2 := (Bool.and_eq_true_iff.mp c).2
    rw [StrLaws.subAt_eq, List.drop_zero] at c2
    have c3 : t.cps.toList.take 1 = [45] := beq_iff_eq.mp c2
    cases e : t.cps.toList with
    | nil => rw [e] at c3; cases c3
    | cons d cs =>
      rw [e] at c3
      obtain rfl : d = 45 := by simpa using c3
      obtain ⟨h1, h2⟩ := dg_all h
      have el : t.cps.toList.length = t.length := Array.length_toList
      have e2 : ((t.cps.toList.drop 1).take (t.length - 1)).toArray.toList = cs := by
        rw [← el, e]
        simp
      have e3 : ((⟨((t.cps.toList.drop ("-" : Str).length).take (t.length - ("-" : Str).length)).toArray⟩ : Str)).cps.toList = cs := e2
      rw [e3] at h1 h2
      exact ⟨_, PySem.intText_neg e h1 h2 (by omega)⟩
  · obtain ⟨n, h1, _⟩ := dg_int h hl
    exact ⟨_, h1⟩
/-- what a text tells: top and bottom as they stand -/
def cut (t : Str) : Str × Str × Str := Txt.partition t "/"
def low (t : Str) : Str := if (cut t).2.1 = Str.empty then "1" else (cut t).2.2
def good (t : Str) : Bool := dg (Txt.removeprefix (cut t).1 "-") && dg (low t)
theorem part_sep (t : Str) : (Txt.partition t "/").2.1 = "/" ∨ (Txt.partition t "/").2.1 = Str.empty := by
  unfold Txt.partition
  split
  · exact .inl rfl
  · exact .inr rfl
theorem cut_len (t : Str) : (cut t).1.length ≤ t.length ∧ (cut t).2.1.length ≤ t.length + 1 ∧ (cut t).2.2.length ≤ t.length := by
  unfold cut Txt.partition
  split
  · exact ⟨le_strSub .., by show 1 ≤ t.length + 1; omega, le_strSub ..⟩
  · exact ⟨Nat.le_refl _, Nat.zero_le _, Nat.zero_le _⟩
/-- the pair that a text tells -/
def told? (t : Str) : Option (Int × Int) := if good t = true then (intText? (cut t).1).bind fun u => (intText? (low t)).bind fun l => if l = 0 then none else some (u, l) else none
def spRin (C : Addr) : Sp := fun vs H Q _ => ∃ t, vs = [.str t] ∧ t.length ≤ 600 ∧ (told? t = none → ∀ H', Same H H' → Q .non H') ∧
  ∀ u l, told? t = some (u, l) → ∀ p H' x y, H p = none → Same H H' → Rat C H' p x y → Nrm u l x y → Q (.ref p) H'
theorem ok_ratio_in (T : Txt K mg a) : FnOk P w K mg base CX0 5 a.f_ratio_in a.d_ratio_in ["text"] (spRin a.C_Ratio) := by
  refine T.F_ratio_in.ok sc_ratio_in (fun vs H Q E h => ?_) (fun cdv A outer s H vs Q E hr h => ?_)
  · obtain ⟨t, rfl, _⟩ := h
    rfl
  · obtain ⟨t, rfl, hl, k0, k1⟩ := h
    refine ⟨_, (pss_cons (ps_asg (pe_m1 PySem.F.slot_str_partition PySem.F.type_str_partition mt_partition (pv 0) pe_str) (pg_tup rfl (pgs_cons (pg_name (i := 1) sc_ratio_in.nd rfl (Or.inl rfl)) (pgs_cons (pg_name (i := 2) sc_ratio_in.nd rfl (Or.inl rfl)) (pgs_cons (pg_name (i := 3) sc_ratio_in.nd rfl (Or.inl rfl)) pgs_nil)))))
      (pss_cons (ps_if (pt_not (pt_truth (pv 2) (fun _ => rfl))) (pss_one (ps_set (i := 3) sc_ratio_in.nd rfl (Or.inl rfl) pe_str)) pss_nil)
      (pss_cons (ps_if (PW.pt (pw_or (pt_not (pt_val (pe_call (ok_has_digits_alone T) (hr.mono (by decide)) (by rfl) T.m_has_digits_alone T.F_has_digits_alone.kp T.b_has_digits_alone .nil pass0 (pa_cons (pe_m1 PySem.F.slot_str_removeprefix PySem.F.type_str_removeprefix mt_removeprefix (pv 1) pe_str) pa_nil)))) (pw_or1 (pt_not (pt_val (pe_call (ok_has_digits_alone T) (hr.mono (by decide)) (by rfl) T.m_has_digits_alone T.F_has_digits_alone.kp T.b_has_digits_alone .nil pass0 (pa_cons (pv 3) pa_nil))))))) (pss_one (ps_ret pe_non)) pss_nil)
      (pss_cons (ps_if (pt_cmpR op_eq (pe_callTy call_int_str (by rfl) T.z_int (by decide +kernel) (pa_cons (pv 3) pa_nil)) pe_int (nomark _)) (pss_one (ps_ret pe_non)) pss_nil)
      (pss_one (ps_ret (pe_make T.mk_Ratio (ok_Ratio_init T) (hr.mono (by decide)) (by rfl) T.m_Ratio (bd_Ratio T) .nil pass0 (pa_cons (pe_callTy call_int_str (by rfl) T.z_int (by decide +kernel) (pa_cons (pv 1) pa_nil)) (pa_cons (pe_callTy call_int_str (by rfl) T.z_int (by decide +kernel) (pa_cons (pv 3) pa_nil)) pa_nil))))))))), ?_⟩
    walk_at "r"
    refine ⟨.str t, rfl, ⟨t, rfl⟩, t, "/", rfl, rfl, rfl, Nat.le_trans hl (by decide), fun p hp => ?_⟩
    have e1 := w_new (o := .tup [.str (Txt.partition t "/").1, .str (Txt.partition t "/").2.1, .str (Txt.partition t "/").2.2]) hp
    refine ⟨p, _, rfl, SqT.of upd_same, rfl, _, _, rfl, _, _, rfl, _, _, rfl, rfl, ?_⟩
    generalize upd H p _ = H1 at e1 ⊢
    walk_at "r"
    have l1 : (cut t).1.length ≤ 600 := Nat.le_trans (cut_len t).1 hl
    have l2 : (cut t).2.1.length ≤ 601 := Nat.le_trans (cut_len t).2.1 (by omega)
    have l3 : (cut t).2.2.length ≤ 600 := Nat.le_trans (cut_len t).2.2 hl
    refine ⟨_, ⟨Nat.le_trans l2 (by decide), rfl⟩, ?_⟩
    have none_of : good t = false → told? t = none := fun g => by unfold told?; rw [if_neg (by rw [g]; decide)]
    have tail : ∀ (b : Str), low t = b → b.length ≤ 640 → dg (Txt.removeprefix (cut t).1 "-") = true → dg b = true → ∃ (u : Int) (n : Nat), intText? (cut t).1 = some u ∧ intText? b = some (n : Int) ∧ Sz 8000 (n : Int) ∧ (n = 0 → told? t = none) ∧ (n ≠ 0 → told? t = some (u, (n : Int))) := fun b eb hb g1 g2 => by
      obtain ⟨n, h1, h2⟩ := dg_int g2 hb
      obtain ⟨u, h3⟩ := pre_int g1 (by omega)
      have g : good t = true := by unfold good; rw [g1, eb, g2]; rfl
      have e : told? t = if (n : Int) = 0 then none else some (u, (n : Int)) := by
        unfold told?
        rw [if_pos g, h3, Option.bind_some, eb, h1, Option.bind_some]
      exact ⟨u, n, h3, h1, h2.mono (by decide), fun z => by rw [e, if_pos (by omega)], fun z => by rw [e, if_neg (by omega)]⟩
    have key : ∃ b, low t = b ∧ b.length ≤ 640 ∧ (((cut t).2.1 = Str.empty ∧ b = "1") ∨ ((cut t).2.1 ≠ Str.empty ∧ b = (cut t).2.2)) := by
      by_cases z : (cut t).2.1 = Str.empty
      · exact ⟨"1", by unfold low; rw [if_pos z], by decide, .inl ⟨z, rfl⟩⟩
      · exact ⟨(cut t).2.2, by unfold low; rw [if_neg z], by omega, .inr ⟨z, rfl⟩⟩
    obtain ⟨b, eb, hb, hcase⟩ := key
    have neg1 : dg (Txt.removeprefix (cut t).1 "-") = false → told? t = none := fun z => none_of (by unfold good; rw [z]; rfl)
    have neg2 : dg b = false → told? t = none := fun z => none_of (by unfold good; rw [eb, z, Bool.and_false])
    rcases hcase with ⟨z, rfl⟩ | ⟨z, rfl⟩
    · have z' : (Txt.partition t "/").2.1 = Str.empty := z
      rw [z']
      dsimp only
      rw [if_pos (by rfl)]
      walk_at "r"
      refine ⟨.str (cut t).1, rfl, ⟨_, rfl⟩, (cut t).1, "-", rfl, rfl, Nat.le_trans l1 (by decide), ?_⟩
      walk_at "r"
      refine ⟨_, rfl, _, rfl, ?_⟩
      cases g1 : dg (Txt.removeprefix (cut t).1 "-") with
      | false =>
        rw [if_pos (by rfl)]
        walk_at "r"
        exact k0 (neg1 g1) _ e1
      | true =>
        rw [if_neg (by decide)]
        walk_at "r"
        refine ⟨_, rfl, _, rfl, ?_⟩
        cases g2 : dg ("1" : Str) with
        | false =>
          rw [if_pos (by rfl)]
          walk_at "r"
          exact k0 (neg2 g2) _ e1
        | true =>
          rw [if_neg (by decide)]
          obtain ⟨u, n, h1, h2, zn, hz, hnz⟩ := tail _ eb hb g1 g2
          walk_at "r"
          refine ⟨_, _, rfl, h2, hb, ?_⟩
          walk_at "r"
          by_cases z0 : n = 0
          · rw [if_pos (by simp [z0])]
            walk_at "r"
            exact k0 (hz z0) _ e1
          · rw [if_neg (by simp [z0])]
            walk_at "r"
            refine ⟨_, _, rfl, h1, Nat.le_trans l1 (by decide), ?_⟩
            walk_at "r"
            refine ⟨_, _, rfl, h2, hb, ?_⟩
            walk_at "r"
            exact mkq_leaf (by omega) zn fun p' H' x y hp' e' r n' => k1 u n (hnz z0) p' H' x y (by cases q : H p' with | none => rfl | some o => (have w := e1 _ _ q; rw [hp'] at w; cases w)) (e1.trans e') r n'
    · have z' : (Txt.partition t "/").2.1 = "/" := (part_sep t).resolve_right z
      rw [z']
      dsimp only
      rw [if_neg (by decide)]
      walk_at "r"
      refine ⟨.str (cut t).1, rfl, ⟨_, rfl⟩, (cut t).1, "-", rfl, rfl, Nat.le_trans l1 (by decide), ?_⟩
      walk_at "r"
      refine ⟨_, rfl, _, rfl, ?_⟩
      cases g1 : dg (Txt.removeprefix (cut t).1 "-") with
      | false =>
        rw [if_pos (by rfl)]
        walk_at "r"
        exact k0 (neg1 g1) _ e1
      | true =>
        rw [if_neg (by decide)]
        walk_at "r"
        refine ⟨_, rfl, _, rfl, ?_⟩
        cases g2 : dg (Txt.partition t "/").2.2 with
        | false =>
          rw [if_pos (by rfl)]
          walk_at "r"
          exact k0 (neg2 g2) _ e1
        | true =>
          rw [if_neg (by decide)]
          obtain ⟨u, n, h1, h2, zn, hz, hnz⟩ := tail _ eb hb g1 g2
          walk_at "r"
          refine ⟨_, _, rfl, h2, hb, ?_⟩
          walk_at "r"
          by_cases z0 : n = 0
          · rw [if_pos (by simp [z0])]
            walk_at "r"
            exact k0 (hz z0) _ e1
          · rw [if_neg (by simp [z0])]
            walk_at "r"
            refine ⟨_, _, rfl, h1, Nat.le_trans l1 (by decide), ?_⟩
            walk_at "r"
            refine ⟨_, _, rfl, h2, hb, ?_⟩
            walk_at "r"
            exact mkq_leaf (by omega) zn fun p' H' x y hp' e' r n' => k1 u n (hnz z0) p' H' x y (by cases q : H p' with | none => rfl | some o => (have w := e1 _ _ q; rw [hp'] at w; cases w)) (e1.trans e') r n'
/-- the text of t / b -/
def txt (t b : Int) : Str := if b = 1 then Str.ofString (toString t) else Str.ofString (toString t) ++ "/" ++ Str.ofString (toString b)
def Shown (z : Int) : Prop := z.natAbs.log2 < 1900
def spStr (C : Addr) : Sp := fun vs H Q _ => ∃ p t b, vs = [.ref p] ∧ Rat C H p t b ∧ Shown t ∧ Shown b ∧ (txt t b).length ≤ 2000 ∧ Q (.str (txt t b)) H
theorem ok_Ratio_str (T : Txt K mg a) : FnOk P w K mg base CX0 1 a.f_Ratio_str a.d_Ratio_str ["self"] (spStr a.C_Ratio) := by
  refine T.F_Ratio_str.ok sc_Ratio_str (fun vs H Q E h => ?_) (fun cdv A outer s H vs Q E hr h => ?_)
  · obtain ⟨p, t, b, rfl, _⟩ := h
    rfl
  · obtain ⟨p, t, b, rfl, r, zt, zb, zl, k⟩ := h
    refine ⟨_, (pss_cons (ps_if (pt_cmpR op_eq (pe_fld (pv 0) rfl) pe_int (nomark _)) (pss_one (ps_ret (pe_callTy call_str_int (by rfl) T.z_str (by decide +kernel) (pa_cons (pe_fld (pv 0) rfl) pa_nil)))) pss_nil)
      (pss_one (ps_ret (pe_joined (.cons (pe_fmt (pe_fld (pv 0) rfl)) (.cons pe_str (.cons (pe_fmt (pe_fld (pv 0) rfl)) .nil))))))), ?_⟩
    walk_at "r"
    refine bot_leaf T r ?_
    walk_at "r"
    have lt : t.natAbs.log2 < 1920 := Nat.lt_of_lt_of_le zt (by decide)
    have lb : b.natAbs.log2 < 1920 := Nat.lt_of_lt_of_le zb (by decide)
    by_cases hb : b = 1
    · rw [if_pos (by simp [hb])]
      walk_at "r"
      refine top_leaf T r ?_
      walk_at "r"
      refine ⟨t, rfl, lt, ?_⟩
      unfold txt at k
      rw [if_pos hb] at k
      exact k
    · rw [if_neg (by simp [hb])]
      unfold txt at k zl
      rw [if_neg hb] at k zl
      have e0 : Str.empty ++ Str.ofString (toString t) = Str.ofString (toString t) := Str.empty_append _
      rw [Str.length_append, Str.length_append] at zl
      have sl : 2000 ≤ sizeLine := by decide
      walk_at "r"
      unfold tJs tFmt
      walk_at "r"
      refine top_leaf T r (.inr ⟨t, rfl, lt, _, rfl, ?_, ?_⟩)
      · rw [e0]
        omega
      · rw [e0]
        unfold tJs
        refine ⟨_, rfl, by rw [Str.length_append]; omega, ?_⟩
        unfold tJs
        show tFld _ _ _ _ _ _
        walk_at "r"
        refine bot_leaf T r (.inr ⟨b, rfl, lb, _, rfl, by rw [Str.length_append, Str.length_append]; omega, ?_⟩)
        unfold tJs
        exact k
end
end RK17


namespace RK17
open PySem PySem.Spec L2 RK RZ StX PyProof.Rows
/-! ### texts -/
def Fm.t : Fm → List Nat
  | over x y u => TL.tl "(over " ++ (x.t ++ 32 :: (y.t ++ 32 :: (amT u ++ [41])))
  | no f => 40 :: (TL.tl "not" ++ 32 :: (f.t ++ [41]))
  | bi w f g => 40 :: (TL.tl (if w then "if" else "and") ++ 32 :: ((f.t ++ 32 :: g.t) ++ [41]))
  | tri f g h => 40 :: (TL.tl "or" ++ 32 :: ((f.t ++ 32 :: (g.t ++ 32 :: h.t)) ++ [41]))
theorem inner_t {f : Fm} (i : f.Inner) : f.t = 40 :: (TL.tl f.word ++ 32 :: (TL.joinL [32] (f.kids.map Fm.t) ++ [41])) := by
  cases f with
  | over x y u => exact absurd i.one (Nat.not_succ_le_zero 0)
  | no f => rfl
  | bi w f g => rfl
  | tri f g h => rfl
theorem mo_len {m : Mo} (h : m.Ok) : m.t.length ≤ 4 := by
  cases m with
  | num n =>
    have : n ≤ 6 := h
    have e : ∀ k, k ≤ 6 → (Mo.num k).t.length ≤ 4 := by decide +kernel
    exact e n this
  | last => decide +kernel
theorem lv_len {x : Lv} (h : x.Ok) : x.t.length ≤ 13 := by
  cases x with
  | floor => decide +kernel
  | len c => exact Nat.le_of_ble_eq_true rfl
  | part s m =>
    have h1 := mo_len h.2
    have h2 := h.1.2.1
    show (TL.tl s ++ 64 :: m.t).length ≤ 13
    rw [List.length_append, List.length_cons, Array.length_toList]
    omega
  | hook c m =>
    have h1 := mo_len h.2
    show (c :: 64 :: m.t).length ≤ 13
    rw [List.length_cons, List.length_cons]
    omega
section
variable {P : Program} {w : World} {K : PySem.W.Frag} {mg : Str → Option Value} {base : Heap} {a : Ad}
theorem str_mk {s : Str} {l : List Nat} (h : TL.tl s = l) : s = mk l := by rw [← h, mk_tl]
def spLevelText (K : PySem.W.Frag) : Sp := fun vs H Q _ => ∃ (v : V) (x : Lv), vs = [v] ∧ Dp K H v x.d ∧ x.Ok ∧ Q (.str (mk x.t)) H
theorem ok_p_level_text (T : Txt K mg a) : FnOk P w K mg base CX0 1 a.f_p_level_text a.d_p_level_text ["level"] (spLevelText K) := by
  refine T.F_p_level_text.ok sc_p_level_text (fun vs H Q E h => ?_) (fun cdv A outer s H vs Q E hr h => ?_)
  · obtain ⟨v, x, rfl, _⟩ := h
    rfl
  · obtain ⟨v, x, rfl, dp, ok, k⟩ := h
    refine ⟨_, (pss_cons (ps_if (pt_cmpR op_eq (pe_ix ix_tup (pv 0) pe_int (fun _ _ => rfl)) pe_str (nomark _)) (pss_one (ps_ret pe_str)) pss_nil)
      (pss_one (ps_ret (pe_ifExp (pt_cmpR op_eq (pe_ix ix_tup (pv 0) pe_int (fun _ _ => rfl)) pe_str (nomark _)) (pe_ix ix_tup (pv 0) pe_int (fun _ _ => rfl)) (pe_joined (.cons (pe_fmt (pe_ix ix_tup (pv 0) pe_int (fun _ _ => rfl))) (.cons pe_str (.cons (pe_fmt (pe_ix ix_tup (pv 0) pe_int (fun _ _ => rfl))) .nil)))))))), ?_⟩
    walk_at "r"
    cases x with
    | floor =>
      obtain ⟨t, xs, rfl, ht, da⟩ := dp_tup dp
      obtain ⟨x0, r, rfl, d0, da⟩ := dpa_cons da
      obtain rfl := dp_str d0
      refine ix0 ht ?_
      walk_at "r"
      rw [if_pos (by simp)]
      walk_at "r"
      rw [show mk Lv.floor.t = "floor" from mk_tl _] at k
      exact k
    | len c =>
      obtain ⟨t, xs, rfl, ht, da⟩ := dp_tup dp
      obtain ⟨x0, r, rfl, d0, da⟩ := dpa_cons da
      obtain ⟨x1, r, rfl, d1, da⟩ := dpa_cons da
      obtain rfl := dp_str d0
      obtain rfl := dp_str d1
      refine ix0 ht ?_
      walk_at "r"
      rw [if_neg (by decide +kernel)]
      walk_at "r"
      refine w_tIf ?_
      walk_at "r"
      refine ix0 ht ?_
      walk_at "r"
      rw [if_pos (by simp)]
      walk_at "r"
      refine ix1 ht ?_
      exact k
    | part s m =>
      obtain ⟨t, xs, rfl, ht, da⟩ := dp_tup dp
      obtain ⟨x0, r, rfl, d0, da⟩ := dpa_cons da
      obtain ⟨x1, r, rfl, d1, da⟩ := dpa_cons da
      obtain ⟨x2, r, rfl, d2, da⟩ := dpa_cons da
      obtain rfl := dp_str d0
      obtain rfl := dp_str d1
      obtain rfl := Mo.dp d2
      refine ix0 ht ?_
      walk_at "r"
      rw [if_neg (by decide +kernel)]
      walk_at "r"
      refine w_tIf ?_
      walk_at "r"
      refine ix0 ht ?_
      walk_at "r"
      rw [if_neg (by decide +kernel)]
      walk_at "r"
      unfold tJs tFmt
      walk_at "r"
      have zs : (s : Str).length ≤ 8 := ok.1.2.1
      have big : 100 ≤ sizeLine := by decide
      refine ix1 ht (.inl ⟨s, rfl, by omega, s, rfl, by rw [Str.length_append, show Str.empty.length = 0 from rfl]; omega, ?_⟩)
      unfold tJs
      refine ⟨"@", rfl, by rw [Str.length_append, Str.length_append, show Str.empty.length = 0 from rfl, show ("@" : Str).length = 1 from rfl]; omega, ?_⟩
      unfold tJs
      show tOp _ _ _ _ _ _
      walk_at "r"
      cases m with
      | num n =>
        have n6 : n ≤ 6 := ok.2
        have lg : ∀ k : Nat, k ≤ 6 → ((k : Int)).natAbs.log2 < 1920 ∧ (Str.ofString (toString (k : Int))).length ≤ 4 := by decide +kernel
        obtain ⟨l1, l2⟩ := lg n n6
        refine ix2 ht (.inr ⟨n, rfl, l1, _, rfl, by rw [Str.length_append, Str.length_append, Str.length_append, show Str.empty.length = 0 from rfl, show ("@" : Str).length = 1 from rfl]; omega, ?_⟩)
        unfold tJs
        rw [str_mk (s := ((Str.empty ++ s) ++ "@") ++ Str.ofString (toString (n : Int))) (l := (Lv.part s (.num n)).t) (by rw [TL.tl_append, TL.tl_append, TL.tl_append]; simp [Lv.t, Mo.t, TL.tl]; rfl)]
        exact k
      | last =>
        refine ix2 ht (.inl ⟨"last", rfl, by decide, _, rfl, by rw [Str.length_append, Str.length_append, Str.length_append, show Str.empty.length = 0 from rfl, show ("@" : Str).length = 1 from rfl, show ("last" : Str).length = 4 from rfl]; omega, ?_⟩)
        unfold tJs
        rw [str_mk (s := ((Str.empty ++ s) ++ "@") ++ "last") (l := (Lv.part s .last).t) (by rw [TL.tl_append, TL.tl_append, TL.tl_append]; simp [Lv.t, Mo.t, TL.tl]; rfl)]
        exact k
    | hook c m =>
      obtain ⟨t, xs, rfl, ht, da⟩ := dp_tup dp
      obtain ⟨x0, r, rfl, d0, da⟩ := dpa_cons da
      obtain ⟨x1, r, rfl, d1, da⟩ := dpa_cons da
      obtain ⟨x2, r, rfl, d2, da⟩ := dpa_cons da
      obtain rfl := dp_str d0
      obtain rfl := dp_str d1
      obtain rfl := Mo.dp d2
      refine ix0 ht ?_
      walk_at "r"
      rw [if_neg (by decide +kernel)]
      walk_at "r"
      refine w_tIf ?_
      walk_at "r"
      refine ix0 ht ?_
      walk_at "r"
      rw [if_neg (by decide +kernel)]
      walk_at "r"
      unfold tJs tFmt
      walk_at "r"
      have zs : (sg c : Str).length ≤ 8 := (by show 1 ≤ 8; decide)
      have big : 100 ≤ sizeLine := by decide
      refine ix1 ht (.inl ⟨sg c, rfl, by omega, sg c, rfl, by rw [Str.length_append, show Str.empty.length = 0 from rfl]; omega, ?_⟩)
      unfold tJs
      refine ⟨"@", rfl, by rw [Str.length_append, Str.length_append, show Str.empty.length = 0 from rfl, show ("@" : Str).length = 1 from rfl]; omega, ?_⟩
      unfold tJs
      show tOp _ _ _ _ _ _
      walk_at "r"
      cases m with
      | num n =>
        have n6 : n ≤ 6 := ok.2
        have lg : ∀ k : Nat, k ≤ 6 → ((k : Int)).natAbs.log2 < 1920 ∧ (Str.ofString (toString (k : Int))).length ≤ 4 := by decide +kernel
        obtain ⟨l1, l2⟩ := lg n n6
        refine ix2 ht (.inr ⟨n, rfl, l1, _, rfl, by rw [Str.length_append, Str.length_append, Str.length_append, show Str.empty.length = 0 from rfl, show ("@" : Str).length = 1 from rfl]; omega, ?_⟩)
        unfold tJs
        rw [str_mk (s := ((Str.empty ++ sg c) ++ "@") ++ Str.ofString (toString (n : Int))) (l := (Lv.hook c (.num n)).t) (by rw [TL.tl_append, TL.tl_append, TL.tl_append]; simp [Lv.t, Mo.t, TL.tl]; rfl)]
        exact k
      | last =>
        refine ix2 ht (.inl ⟨"last", rfl, by decide, _, rfl, by rw [Str.length_append, Str.length_append, Str.length_append, show Str.empty.length = 0 from rfl, show ("@" : Str).length = 1 from rfl, show ("last" : Str).length = 4 from rfl]; omega, ?_⟩)
        unfold tJs
        rw [str_mk (s := ((Str.empty ++ sg c) ++ "@") ++ "last") (l := (Lv.hook c .last).t) (by rw [TL.tl_append, TL.tl_append, TL.tl_append]; simp [Lv.t, Mo.t, TL.tl]; rfl)]
        exact k
end
end RK17


namespace RK17
open PySem PySem.Spec L2 RK RZ StX PyProof.Rows
/-! ### the text of a wish -/
theorem int_len : ∀ z : Int, z.natAbs ≤ 100 → (Str.ofString (toString z)).length ≤ 5 := by
  have h : ∀ k : Nat, k < 201 → (Str.ofString (toString ((k : Int) - 100))).length ≤ 5 := by decide +kernel
  intro z hz
  have := h (z + 100).toNat (by omega)
  rwa [Int.toNat_of_nonneg (by omega), show z + 100 - 100 = z by omega] at this
theorem am_len {u : Int × Int} (h : AmOk u) : (amT u).length ≤ 11 := by
  have h1 := int_len u.1 h.s1
  have h2 := int_len u.2 h.s2
  unfold amT
  rw [List.length_append, Array.length_toList]
  have e1 : (Str.ofString (toString u.1)).cps.size = (Str.ofString (toString u.1)).length := rfl
  by_cases c : u.2 = 1
  · rw [if_pos c, e1]
    show _ + 0 ≤ 11
    omega
  · rw [if_neg c, e1, List.length_cons, Array.length_toList]
    have e2 : (Str.ofString (toString u.2)).cps.size = (Str.ofString (toString u.2)).length := rfl
    rw [e2]
    omega
theorem txt_am (u : Int × Int) : TL.tl (txt u.1 u.2) = amT u := by
  unfold txt amT
  by_cases c : u.2 = 1
  · rw [if_pos c, if_pos c, List.append_nil]
  · rw [if_neg c, if_neg c, TL.tl_append, TL.tl_append, List.append_assoc]
    rfl
theorem fm_len : ∀ f : Fm, f.Ok → f.t.length ≤ 64 * 4 ^ f.ht
  | .over x y u, ok => by
    have h1 := lv_len ok.1
    have h2 := lv_len ok.2.1
    have h3 := am_len ok.2.2
    show (TL.tl "(over " ++ (x.t ++ 32 :: (y.t ++ 32 :: (amT u ++ [41])))).length ≤ 64 * 4 ^ 0
    have h0 : (TL.tl "(over ").length = 6 := by decide +kernel
    simp only [List.length_append, List.length_cons, List.length_nil, h0]
    omega
  | .no f, ok => by
    have h1 := fm_len f ok
    have h0 : (TL.tl "not").length = 3 := by decide +kernel
    show (40 :: (TL.tl "not" ++ 32 :: (f.t ++ [41]))).length ≤ 64 * 4 ^ (f.ht + 1)
    have p := Nat.pow_pos (n := f.ht) (show 0 < 4 by decide)
    simp only [List.length_append, List.length_cons, List.length_nil, h0, Nat.pow_succ]
    omega
  | .bi w f g, ok => by
    have h1 := fm_len f ok.1
    have h2 := fm_len g ok.2
    have h0 : (TL.tl (if w then "if" else "and")).length ≤ 3 := by cases w <;> decide +kernel
    have m1 : 4 ^ f.ht ≤ 4 ^ max f.ht g.ht := Nat.pow_le_pow_right (by decide) (Nat.le_max_left _ _)
    have m2 : 4 ^ g.ht ≤ 4 ^ max f.ht g.ht := Nat.pow_le_pow_right (by decide) (Nat.le_max_right _ _)
    have p := Nat.pow_pos (n := max f.ht g.ht) (show 0 < 4 by decide)
    show (40 :: (TL.tl (if w then "if" else "and") ++ 32 :: ((f.t ++ 32 :: g.t) ++ [41]))).length ≤ 64 * 4 ^ (max f.ht g.ht + 1)
    simp only [List.length_append, List.length_cons, List.length_nil, Nat.pow_succ]
    omega
  | .tri f g h, ok => by
    have h1 := fm_len f ok.1
    have h2 := fm_len g ok.2.1
    have h3 := fm_len h ok.2.2
    have h0 : (TL.tl "or").length = 2 := by decide +kernel
    have m1 : 4 ^ f.ht ≤ 4 ^ max f.ht (max g.ht h.ht) := Nat.pow_le_pow_right (by decide) (by omega)
    have m2 : 4 ^ g.ht ≤ 4 ^ max f.ht (max g.ht h.ht) := Nat.pow_le_pow_right (by decide) (by omega)
    have m3 : 4 ^ h.ht ≤ 4 ^ max f.ht (max g.ht h.ht) := Nat.pow_le_pow_right (by decide) (by omega)
    have p := Nat.pow_pos (n := max f.ht (max g.ht h.ht)) (show 0 < 4 by decide)
    show (40 :: (TL.tl "or" ++ 32 :: ((f.t ++ 32 :: (g.t ++ 32 :: h.t)) ++ [41]))).length ≤ 64 * 4 ^ (max f.ht (max g.ht h.ht) + 1)
    simp only [List.length_append, List.length_cons, List.length_nil, h0, Nat.pow_succ]
    omega
theorem fm_len4 {f : Fm} (ok : f.Ok) (h : f.ht ≤ 4) : f.t.length ≤ 20000 := Nat.le_trans (fm_len f ok) (Nat.le_trans (Nat.mul_le_mul_left _ (Nat.pow_le_pow_right (by decide) h)) (by decide))
theorem mk_len (l : List Nat) : (mk l).length = l.length := by
  show (mk l).cps.size = _
  rw [← Array.length_toList]
  exact congrArg List.length (tl_mk l)
section
variable {P : Program} {w : World} {K : PySem.W.Frag} {mg : Str → Option Value} {base : Heap} {a : Ad}
def spText (K : PySem.W.Frag) (n : Nat) : Sp := fun vs H Q _ => ∃ (v : V) (f : Fm), vs = [v] ∧ Dp K H v f.d ∧ f.Ok ∧ f.ht < n ∧ f.ht ≤ 4 ∧ ∀ H', Same H H' → Q (.str (mk f.t)) H'
theorem ok_textN (T : Txt K mg a) : ∀ n, FnOk P w K mg base CX0 (n + 6) a.f_wish_text a.d_wish_text ["form"] (spText K n)
  | 0 => nope fun vs H Q E ⟨_, _, _, _, _, h, _⟩ => absurd h (Nat.not_lt_zero _)
  | n + 1 => by
    have ih : ∀ _ : Txt K mg a, FnOk P w K mg base CX0 (n + 6) a.f_wish_text a.d_wish_text ["form"] (spText K n) := fun T => ok_textN T n
    refine FnOk.mono (j := n + 6 + 1) ?_ (by omega)
    refine T.F_wish_text.ok sc_wish_text (fun vs H Q E h => ?_) (fun cdv A outer s H vs Q E hr h => ?_)
    · obtain ⟨v, f, rfl, _⟩ := h
      rfl
    · obtain ⟨v, f, rfl, dp, ok, hn, h4, k⟩ := h
      refine ⟨_, (pss_cons (ps_if (pt_cmpR op_eq (pe_ix ix_tup (pv 0) pe_int (fun _ _ => rfl)) pe_str (nomark _)) (pss_cons (ps_asg (pe_call (ok_surplus_of T) (hr.mono (by omega)) (by rfl) T.m_surplus_of T.F_surplus_of.kp T.b_surplus_of .nil pass0 (pa_cons (pv 0) pa_nil)) (pg_tup rfl (pgs_cons (pg_name (i := 1) sc_wish_text.nd rfl (Or.inl rfl)) (pgs_cons (pg_name (i := 2) sc_wish_text.nd rfl (Or.inl rfl)) pgs_nil))))
      (pss_one (ps_ret (pe_joined (.cons pe_str (.cons (pe_fmt (pe_call (ok_p_level_text T) (hr.mono (by omega)) (by rfl) T.m_p_level_text T.F_p_level_text.kp T.b_p_level_text .nil pass0 (pa_cons (pe_ix ix_tup (pv 0) pe_int (fun _ _ => rfl)) pa_nil))) (.cons pe_str (.cons (pe_fmt (pe_call (ok_p_level_text T) (hr.mono (by omega)) (by rfl) T.m_p_level_text T.F_p_level_text.kp T.b_p_level_text .nil pass0 (pa_cons (pe_ix ix_tup (pv 0) pe_int (fun _ _ => rfl)) pa_nil))) (.cons pe_str (.cons (pe_fmtSO T.me_Ratio_str.at_ T.me_Ratio_str.fn (ok_Ratio_str T) (hr.mono (by omega)) T.b_Ratio_str pass0 (pe_make T.mk_Ratio (ok_Ratio_init T) (hr.mono (by omega)) (by rfl) T.m_Ratio (bd_Ratio T) .nil pass0 (pa_cons (pv 1) (pa_cons (pv 2) pa_nil)))) (.cons pe_str .nil))))))))))) pss_nil)
      (pss_cons (ps_set (i := 3) sc_wish_text.nd rfl (Or.inl rfl) (pe_join pe_str (pe_lc (own := [("each", 4)]) (g := gName 4) (tt := tYes) rfl sc_wish_text.nd (pi_tup (pe_slice sl_tup (pv 0) (po_some pe_int) po_none)) (blkOk_by (own := [("each", 4)]) (N := ["form", "top", "bottom", "inner", "each"]) (sc := defScope s_wish_text) (by decide +kernel)) (fun _ _ _ _ _ => pg_name (i := 4) sc_wish_text.nd rfl (Or.inl rfl)) (fun _ _ _ _ _ => pts_nil) (fun _ _ _ _ _ => by exact (pe_call (ih T) (hr.mono (by omega)) (by rfl) T.m_wish_text T.F_wish_text.kp T.b_wish_text .nil pass0 (pa_cons (pv 4) pa_nil))))))
      (pss_one (ps_ret (pe_joined (.cons pe_str (.cons (pe_fmt (pe_ix ix_tup (pv 0) pe_int (fun _ _ => rfl))) (.cons pe_str (.cons (pe_fmt (pv 3)) (.cons pe_str .nil)))))))))), ?_⟩
      have eσ : ∀ N : List Str, N.length = 5 → L2.start N [v] = [some v, none, none, none, none] := fun N hN => by unfold L2.start; rw [hN]; rfl
      rw [eσ _ (by rfl)]
      rcases f.cases_ with ⟨x, y, u, rfl⟩ | fi
      · obtain ⟨t, v1, v2, v3, rfl, ht, d1, d2, d3⟩ := over_d dp
        walk_at "r"
        refine ix0 ht ?_
        walk_at "r"
        rw [if_pos (by simp)]
        walk_at "r"
        refine ⟨v3, _, v1, v2, t, u, rfl, ht, d3, fun q H1 e1 hq => ?_⟩
        refine g_twoT hq ?_
        walk_at "r"
        unfold tJs
        refine ⟨"(over ", rfl, by decide, ?_⟩
        unfold tJs tFmt
        walk_at "r"
        have big : 1000 ≤ sizeLine := by decide
        have z0 : Str.empty.length = 0 := rfl
        have z1 : ("(over " : Str).length = 6 := by decide +kernel
        have z2 : (" " : Str).length = 1 := by decide +kernel
        have z3 : (")" : Str).length = 1 := by decide +kernel
        have l1 : (mk x.t).length ≤ 13 := by rw [mk_len]; exact lv_len ok.1
        have l2 : (mk y.t).length ≤ 13 := by rw [mk_len]; exact lv_len ok.2.1
        have l3 : (txt u.1 u.2).length ≤ 11 := by
          have h := am_len ok.2.2
          rw [← txt_am, Array.length_toList] at h
          exact h
        refine ix1 (seqT_same e1 ht) ?_
        walk_at "r"
        refine ⟨v1, x, rfl, Dp.same e1 _ d1, ok.1, .inl ⟨_, rfl, by omega, _, rfl, by simp only [Str.length_append]; omega, ?_⟩⟩
        unfold tJs
        refine ⟨" ", rfl, by simp only [Str.length_append]; omega, ?_⟩
        unfold tJs
        show tCall _ _ _ _ _ _ _
        walk_at "r"
        refine ix2 (seqT_same e1 ht) ?_
        walk_at "r"
        refine ⟨v2, y, rfl, Dp.same e1 _ d2, ok.2.1, .inl ⟨_, rfl, by omega, _, rfl, by simp only [Str.length_append]; omega, ?_⟩⟩
        unfold tJs
        refine ⟨" ", rfl, by simp only [Str.length_append]; omega, ?_⟩
        unfold tJs
        show tMake _ _ _ _ _ _ _ _
        walk_at "r"
        have am := ok.2.2
        have p2 := am.pos
        refine mkq_leaf (by omega) (Nat.lt_of_le_of_lt am.s2 (by decide +kernel)) fun q2 H2 x2 y2 n2 e2 r2 nr => ?_
        obtain ⟨rfl, rfl⟩ := nr.uniq (u' := u.1) (l' := u.2) (x' := u.1) (y' := u.2) ⟨by omega, am.low, rfl⟩ (by omega) (by omega) rfl
        obtain ⟨dx, hq2⟩ := r2.ob
        have lg : ∀ z : Int, z.natAbs ≤ 100 → z.natAbs.log2 < 1900 := fun z hz => by
          rcases Nat.eq_zero_or_pos z.natAbs with h | h
          · rw [h]; decide
          · exact (Nat.log2_lt (by omega)).mpr (Nat.lt_of_le_of_lt hz (Nat.lt_of_lt_of_le (by decide : 100 < 2 ^ 10) (Nat.pow_le_pow_right (by decide) (by decide))))
        refine ⟨q2, dx, _, rfl, hq2, q2, u.1, u.2, rfl, r2, lg _ am.s1, lg _ am.s2, by omega, _, rfl, by omega, _, rfl, by simp only [Str.length_append]; omega, ?_⟩
        unfold tJs
        refine ⟨")", rfl, by simp only [Str.length_append]; omega, ?_⟩
        unfold tJs
        rw [str_mk (s := ((((((Str.empty ++ "(over ") ++ mk x.t) ++ " ") ++ mk y.t) ++ " ") ++ txt u.1 u.2) ++ ")") (l := (Fm.over x y u).t) (by
          rw [TL.tl_append, TL.tl_append, TL.tl_append, TL.tl_append, TL.tl_append, TL.tl_append, TL.tl_append, txt_am, tl_mk, tl_mk]
          show ((((((([] ++ TL.tl "(over ") ++ x.t) ++ [32]) ++ y.t) ++ [32]) ++ amT u) ++ [41]) = TL.tl "(over " ++ (x.t ++ 32 :: (y.t ++ 32 :: (amT u ++ [41])))
          simp)]
        exact k _ (e1.trans e2)
      · obtain ⟨t, xs, rfl, ht, da, xl⟩ := inner_d fi dp
        have k3 := fi.few
        walk_at "r"
        refine ix0 ht ?_
        walk_at "r"
        rw [if_neg (by rw [decide_eq_false (word_ne fi)]; decide)]
        walk_at "r"
        refine w_m1 ?_
        walk_at "r"
        refine ⟨⟨_, rfl⟩, ?_⟩
        walk_at "r"
        refine tail_leaf ht fun p H2 e2 hp => ?_
        have db := DpAll.same e2 _ da
        refine ⟨p, rfl, ⟨_, hp⟩, cmS (walk_tup (xs := xs)) (by omega) (fun G e => seqT_same e hp) (fun i v _ => ∃ g, f.kids[i]? = some g ∧ v = .str (mk g.t)) (fun _ _ _ _ _ h => h) (fun i x G1 G2 hi e hy Q' kq => ?_) (fun D ys H3 n3 e3 h3 hl3 hP => ?_)⟩
        · obtain ⟨rfl, hx⟩ := hy
          obtain ⟨dd, hd2, dx⟩ := dpa_at db i x hx
          rw [List.getElem?_map] at hd2
          obtain ⟨g, hg, rfl⟩ := Option.map_eq_some_iff.mp hd2
          have gm := List.mem_of_getElem? hg
          have gh := fi.ht g gm
          refine ⟨rfl, ?_⟩
          walk_at "r"
          exact ⟨x, g, rfl, Dp.same e _ dx, fi.ok ok g gm, by omega, by omega, fun H' e' => kq _ _ e' ⟨g, hg, rfl⟩⟩
        have ey := eq_map (fun g : Fm => V.str (mk g.t)) (ps := f.kids) (by rw [hl3, xl]) hP
        have kl : ∀ g ∈ f.kids, (mk g.t).length ≤ 20000 := fun g gm => by
          rw [mk_len]
          have := fi.ht g gm
          exact fm_len4 (fi.ok ok g gm) (by omega)
        refine ⟨" ", D, f.kids.map fun g => mk g.t, rfl, rfl, .inl (SqL.of (by rw [h3, ey, List.map_map]; rfl)), ?_, ?_⟩
        · have : (((f.kids.map fun g => mk g.t).map fun x => x.length).sum) ≤ (f.kids.map fun g => mk g.t).length * 20000 := sum_le fun x hx => by
            obtain ⟨u, hu, rfl⟩ := List.mem_map.mp hx
            exact kl u hu
          rw [List.length_map] at this ⊢
          show _ + _ * 1 ≤ _
          omega
        walk_at "r"
        have jn : TL.tl (Txt.join " " (f.kids.map fun g => mk g.t)) = TL.joinL [32] (f.kids.map Fm.t) := by
          rw [TL.join_eq, TL.tl_join, List.map_map]
          have : (TL.tl ∘ fun g : Fm => mk g.t) = Fm.t := funext fun g => tl_mk _
          rw [this]
          rfl
        have fl := fm_len4 ok h4
        rw [inner_t fi] at fl
        simp only [List.length_cons, List.length_append, List.length_nil] at fl
        have jl : (Txt.join " " (f.kids.map fun g => mk g.t)).length ≤ 20000 := by
          have e := congrArg List.length jn
          rw [Array.length_toList] at e
          show (Txt.join " " (f.kids.map fun g => mk g.t)).cps.size ≤ 20000
          rw [e]
          omega
        have wl : f.word.length ≤ 4 := by
          rcases fi.cnt with ⟨h, _⟩ | ⟨h, _⟩ | ⟨h, _⟩ | ⟨h, _⟩ <;> rw [h] <;> decide +kernel
        have big : 30000 ≤ sizeLine := by decide
        have z0 : Str.empty.length = 0 := rfl
        have z1 : ("(" : Str).length = 1 := by decide +kernel
        have z2 : (" " : Str).length = 1 := by decide +kernel
        have z3 : (")" : Str).length = 1 := by decide +kernel
        unfold tJs
        refine ⟨"(", rfl, by simp only [Str.length_append]; omega, ?_⟩
        unfold tJs tFmt
        walk_at "r"
        refine ix0 (seqT_same (e2.trans e3) ht) (.inl ⟨f.word, rfl, by omega, f.word, rfl, by simp only [Str.length_append]; omega, ?_⟩)
        unfold tJs
        refine ⟨" ", rfl, by simp only [Str.length_append]; omega, ?_⟩
        unfold tJs
        refine ⟨_, rfl, .inl ⟨_, rfl, by omega, _, rfl, by simp only [Str.length_append]; omega, ?_⟩⟩
        unfold tJs
        refine ⟨")", rfl, by simp only [Str.length_append]; omega, ?_⟩
        unfold tJs
        rw [str_mk (s := ((((Str.empty ++ "(") ++ f.word) ++ " ") ++ Txt.join " " (f.kids.map fun g => mk g.t)) ++ ")") (l := f.t) (by
          rw [TL.tl_append, TL.tl_append, TL.tl_append, TL.tl_append, TL.tl_append, jn, inner_t fi]
          show (((([] ++ [40]) ++ TL.tl f.word) ++ [32]) ++ TL.joinL [32] (f.kids.map Fm.t)) ++ [41] = _
          simp)]
        exact k _ (e2.trans e3)
end
end RK17


namespace RK17
open PySem PySem.Spec L2 RK RZ StX PyProof.Rows
section
variable {P : Program} {w : World} {K : PySem.W.Frag} {mg : Str → Option Value} {base : Heap} {a : Ad}
/-! ### levels that are read -/
theorem mo_digit : ∀ n : Nat, n ≤ 6 → (Mo.num n).t = [48 + n] ∧ intText? (mk [48 + n]) = some (n : Int) := by
  have h : ∀ n : Nat, n ≤ 6 → (Mo.num n).t = [48 + n] ∧ (intText? (mk [48 + n]) == some (n : Int)) = true := by decide +kernel
  intro n hn
  obtain ⟨h1, h2⟩ := h n hn
  exact ⟨h1, eq_of_beq h2⟩
def spMomentIn : Sp := fun vs H Q _ => ∃ m : Mo, vs = [.str (mk m.t)] ∧ m.Ok ∧ Q m.v H
theorem ok_moment_in (T : Txt K mg a) : FnOk P w K mg base CX0 1 a.f_moment_in a.d_moment_in ["text"] spMomentIn := by
  refine T.F_moment_in.ok sc_moment_in (fun vs H Q E h => ?_) (fun cdv A outer s H vs Q E hr h => ?_)
  · obtain ⟨m, rfl, _⟩ := h
    rfl
  · obtain ⟨m, rfl, mo, k⟩ := h
    refine ⟨_, (pss_one (ps_ret (pe_ifExp (PW.pt (pw_and (pt_cmpR op_eq (pe_callB cr_len (by rfl) T.z_len PySem.boot_len (pa_cons (pv 0) pa_nil)) pe_int (nomark _)) (pw_and1 (pt_chain op_le_str op_le_str pe_str (pv 0) pe_str)))) (pe_callTy call_int_str (by rfl) T.z_int (by decide +kernel) (pa_cons (pv 0) pa_nil)) (pv 0)))), ?_⟩
    cases m with
    | num n =>
      have n6 : n ≤ 6 := mo
      obtain ⟨e1, e2⟩ := mo_digit n n6
      rw [e1]
      walk_at "r"
      refine w_tIf ?_
      walk_at "r"
      refine w_lenS (by show 1 ≤ 1000; decide) ?_
      walk_at "r"
      refine iteT ?_
      walk_at "r"
      refine ⟨"0", mk [48 + n], rfl, rfl, ?_⟩
      rw [show (("0" : Str)).cps.toList = [48] from by decide +kernel, show (mk [48 + n]).cps.toList = [48 + n] from tl_mk _, lt1, decide_eq_false (by omega)]
      refine ⟨true, rfl, iteT ?_⟩
      walk_at "r"
      refine ⟨mk [48 + n], "9", rfl, rfl, ?_⟩
      rw [show (("9" : Str)).cps.toList = [57] from by decide +kernel, show (mk [48 + n]).cps.toList = [48 + n] from tl_mk _, lt1, decide_eq_false (by omega)]
      refine ⟨true, rfl, iteT ?_⟩
      walk_at "r"
      exact ⟨_, n, rfl, e2, by show 1 ≤ 640; decide, k⟩
    | last =>
      rw [show mk Mo.last.t = "last" from mk_tl _]
      walk_at "r"
      refine w_tIf ?_
      walk_at "r"
      refine w_lenS (by decide) ?_
      walk_at "r"
      rw [if_neg (by decide +kernel)]
      walk_at "r"
      rw [if_neg (by decide)]
      walk_at "r"
      exact k
def spCapA : Sp := fun vs H Q _ => ∃ s : Str, vs = [.str s] ∧ ((∃ c, s = sg c ∧ 65 ≤ c ∧ c ≤ 90 ∧ Q (.bl true) H) ∨ (s.cps.size ≠ 1 ∧ s.cps.size ≤ 1000 ∧ Q (.bl false) H))
theorem ok_is_capitalA (T : Txt K mg a) : FnOk P w K mg base CX0 1 a.f_is_capital a.d_is_capital ["value"] spCapA := by
  refine T.F_is_capital.ok sc_is_capital (fun vs H Q E h => ?_) (fun cdv A outer s H vs Q E hr h => ?_)
  · obtain ⟨s, rfl, _⟩ := h
    rfl
  · obtain ⟨s, rfl, h⟩ := h
    refine ⟨_, (pss_one (ps_ret (pe_and (pe_callB call_isi (by rfl) T.z_isinstance (by decide +kernel) (pa_cons (pv 0) (pa_cons (pe_bltn (v := .ty "str") (by rfl) T.z_str (by decide +kernel) rfl) pa_nil))) (pe_and (pe_cmpR op_eq (pe_callB cr_len (by rfl) T.z_len PySem.boot_len (pa_cons (pv 0) pa_nil)) pe_int (nomark _)) (pe_one (pe_chain op_le_str op_le_str pe_str (pv 0) pe_str)))))), ?_⟩
    walk_at "r"
    refine ⟨.str s, .ty "str", .type "str", .type "str", true, rfl, .ty _, .base (.str _), kit_ty (by decide +kernel), true, rfl, iteT ?_⟩
    walk_at "r"
    rcases h with ⟨c, rfl, h1, h2, k⟩ | ⟨h1, h2, k⟩
    · refine w_lenS (by show 1 ≤ 1000; decide) ?_
      walk_at "r"
      refine iteT ?_
      walk_at "r"
      refine ⟨"A", ⟨#[c]⟩, rfl, rfl, ?_⟩
      rw [show (("A" : Str)).cps.toList = [65] from by decide +kernel]
      show ∃ k, V.bl (!decide (([c] : List Nat) < [65])) = .bl k ∧ _
      rw [lt1, decide_eq_false (by omega)]
      refine ⟨true, rfl, iteT ?_⟩
      walk_at "r"
      refine ⟨⟨#[c]⟩, "Z", rfl, rfl, ?_⟩
      rw [show (("Z" : Str)).cps.toList = [90] from by decide +kernel]
      show Q (.bl (!decide (([90] : List Nat) < [c]))) H
      rw [lt1, decide_eq_false (by omega)]
      exact k
    · refine w_lenS h2 ?_
      walk_at "r"
      rw [if_neg (by simp; omega)]
      exact k
theorem mo_no64 {m : Mo} (h : m.Ok) : 64 ∉ m.t := by
  cases m with
  | num n =>
    rw [(mo_digit n h).1]
    have : n ≤ 6 := h
    simp
    omega
  | last => decide +kernel
theorem word_no {s : Str} (h : Word s) {c : Nat} (hc : c < 97) : c ∉ TL.tl s := fun m => by
  have := (h.2.2 c m).1
  omega
def spLevelIn (K : PySem.W.Frag) : Sp := fun vs H Q _ => ∃ x : Lv, vs = [.str (mk x.t)] ∧ x.Ok ∧ ∀ v H', Same H H' → Dp K H' v x.d → Q v H'
theorem ok_level_in (T : Txt K mg a) : FnOk P w K mg base CX0 2 a.f_level_in a.d_level_in ["text"] (spLevelIn K) := by
  refine T.F_level_in.ok sc_level_in (fun vs H Q E h => ?_) (fun cdv A outer s H vs Q E hr h => ?_)
  · obtain ⟨x, rfl, _⟩ := h
    rfl
  · obtain ⟨x, rfl, ok, k⟩ := h
    refine ⟨_, (pss_cons (ps_asg (pe_m1 PySem.F.slot_str_partition PySem.F.type_str_partition mt_partition (pv 0) pe_str) (pg_tup rfl (pgs_cons (pg_name (i := 1) sc_level_in.nd rfl (Or.inl rfl)) (pgs_cons (pg_name (i := 2) sc_level_in.nd rfl (Or.inl rfl)) (pgs_cons (pg_name (i := 3) sc_level_in.nd rfl (Or.inl rfl)) pgs_nil)))))
      (pss_cons (ps_if (pt_not (pt_truth (pv 2) (fun _ => rfl))) (pss_one (ps_ret (pe_ifExp (pt_cmpR op_eq (pv 0) pe_str (nomark _)) (pe_tup (pa_cons pe_str pa_nil)) (pe_tup (pa_cons pe_str (pa_cons (pv 0) pa_nil)))))) pss_nil)
      (pss_one (ps_ret (pe_tup (pa_cons (pe_ifExp (pt_val (pe_call (ok_is_capitalA T) (hr.mono (by decide)) (by rfl) T.m_is_capital T.F_is_capital.kp T.b_is_capital .nil pass0 (pa_cons (pv 1) pa_nil))) pe_str pe_str) (pa_cons (pv 1) (pa_cons (pe_call (ok_moment_in T) (hr.mono (by decide)) (by rfl) T.m_moment_in T.F_moment_in.kp T.b_moment_in .nil pass0 (pa_cons (pv 3) pa_nil)) pa_nil)))))))), ?_⟩
    have eσ : ∀ N : List Str, N.length = 4 → L2.start N [V.str (mk x.t)] = [some (V.str (mk x.t)), none, none, none] := fun N hN => by unfold L2.start; rw [hN]; rfl
    rw [eσ _ (by rfl)]
    have xl := lv_len ok
    have ml : (mk x.t).length ≤ 13 := by rw [mk_len]; exact xl
    walk_at "r"
    refine ⟨.str (mk x.t), rfl, ⟨_, rfl⟩, mk x.t, "@", rfl, rfl, rfl, Nat.le_trans ml (by decide), fun p hp => ?_⟩
    have e1 := w_new (o := .tup [.str (Txt.partition (mk x.t) "@").1, .str (Txt.partition (mk x.t) "@").2.1, .str (Txt.partition (mk x.t) "@").2.2]) hp
    have none_ : 64 ∉ x.t → Txt.partition (mk x.t) "@" = (mk x.t, Str.empty, Str.empty) := fun h => TL.partition_none (y := "@") (s := 64) (S := []) rfl (by rw [tl_mk]; exact h)
    refine ⟨p, _, rfl, SqT.of upd_same, rfl, _, _, rfl, _, _, rfl, _, _, rfl, rfl, ?_⟩
    generalize upd H p _ = H1 at e1 ⊢
    cases x with
    | floor =>
      rw [none_ (by decide +kernel)]
      dsimp only
      walk_at "r"
      refine ⟨false, ⟨by decide, by rfl⟩, ?_⟩
      dsimp only
      rw [if_pos (by decide)]
      walk_at "r"
      refine w_tIf ?_
      walk_at "r"
      rw [show mk Lv.floor.t = "floor" from mk_tl _]
      rw [if_pos (by simp)]
      walk_at "r"
      refine w_newT (by show 1 ≤ 100000; decide) fun q H2 n2 e2 h2 => ?_
      exact k _ _ (e1.trans e2) (.tup (SqT.of h2) (.cons (.str _) .nil))
    | len c =>
      have c64 : 64 ∉ (Lv.len c).t := by
        show 64 ∉ [c]
        have := ok.1
        simp
        omega
      rw [none_ c64]
      dsimp only
      walk_at "r"
      refine ⟨false, ⟨by decide, by rfl⟩, ?_⟩
      dsimp only
      rw [if_pos (by decide)]
      walk_at "r"
      refine w_tIf ?_
      walk_at "r"
      have ne : ¬ V.str (mk (Lv.len c).t) = V.str "floor" := fun z => by
        have := congrArg (fun s : Str => s.cps.size) (V.str.inj z)
        cases this
      rw [if_neg (by rw [decide_eq_false ne]; decide)]
      walk_at "r"
      refine w_newT (by show 2 ≤ 100000; decide) fun q H2 n2 e2 h2 => ?_
      exact k _ _ (e1.trans e2) (.tup (SqT.of h2) (.cons (.str _) (.cons (.str _) .nil)))
    | part s m =>
      have hp : mk (Lv.part s m).t = s ++ "@" ++ mk m.t := (str_mk (by rw [TL.tl_append, TL.tl_append, tl_mk, List.append_assoc]; rfl)).symm
      rw [show Txt.partition (mk (Lv.part s m).t) "@" = (s, ("@" : Str), mk m.t) from by rw [hp]; exact TL.partition_app (s := 64) (S := []) rfl (word_no ok.1 (by decide))]
      dsimp only
      walk_at "r"
      refine ⟨true, ⟨by decide, by rfl⟩, ?_⟩
      dsimp only
      rw [if_neg (by decide)]
      walk_at "r"
      refine w_tIf ?_
      walk_at "r"
      refine ⟨s, rfl, .inr ⟨by have := ok.1.1; omega, by have := ok.1.2.1; omega, ?_⟩⟩
      refine ⟨false, rfl, iteF ?_⟩
      walk_at "r"
      refine ⟨m, rfl, ok.2, ?_⟩
      walk_at "r"
      refine w_newT (by show 3 ≤ 100000; decide) fun q H2 n2 e2 h2 => ?_
      refine k _ _ (e1.trans e2) (.tup (SqT.of h2) (.cons (.str _) (.cons (.str _) (.cons ?_ .nil))))
      cases m with
      | num n => exact .int _
      | last => exact .str _
    | hook c m =>
      have hp : mk (Lv.hook c m).t = sg c ++ "@" ++ mk m.t := (str_mk (by rw [TL.tl_append, TL.tl_append, tl_mk, List.append_assoc]; rfl)).symm
      have c64 : 64 ∉ TL.tl (sg c) := by
        show 64 ∉ [c]
        have := ok.1.1
        simp
        omega
      rw [show Txt.partition (mk (Lv.hook c m).t) "@" = (sg c, ("@" : Str), mk m.t) from by rw [hp]; exact TL.partition_app (s := 64) (S := []) rfl c64]
      dsimp only
      walk_at "r"
      refine ⟨true, ⟨by decide, by rfl⟩, ?_⟩
      dsimp only
      rw [if_neg (by decide)]
      walk_at "r"
      refine w_tIf ?_
      walk_at "r"
      refine ⟨sg c, rfl, .inl ⟨c, rfl, ok.1.1, ok.1.2, ?_⟩⟩
      refine ⟨true, rfl, iteT ?_⟩
      walk_at "r"
      refine ⟨m, rfl, ok.2, ?_⟩
      walk_at "r"
      refine w_newT (by show 3 ≤ 100000; decide) fun q H2 n2 e2 h2 => ?_
      refine k _ _ (e1.trans e2) (.tup (SqT.of h2) (.cons (.str _) (.cons (.str _) (.cons ?_ .nil))))
      cases m with
      | num n => exact .int _
      | last => exact .str _
/-! ### amounts that are read -/
theorem int_read : ∀ z : Int, z.natAbs ≤ 100 → intText? (Str.ofString (toString z)) = some z ∧ dg (Txt.removeprefix (Str.ofString (toString z)) "-") = true ∧ 47 ∉ TL.tl (Str.ofString (toString z)) ∧ (0 ≤ z → dg (Str.ofString (toString z)) = true) := by
  have h : ∀ k : Nat, k < 201 → (intText? (Str.ofString (toString ((k : Int) - 100))) == some ((k : Int) - 100)) = true ∧ dg (Txt.removeprefix (Str.ofString (toString ((k : Int) - 100))) "-") = true ∧ 47 ∉ TL.tl (Str.ofString (toString ((k : Int) - 100))) ∧ (0 ≤ (k : Int) - 100 → dg (Str.ofString (toString ((k : Int) - 100))) = true) := by decide +kernel
  intro z hz
  have := h (z + 100).toNat (by omega)
  rw [Int.toNat_of_nonneg (by omega), show z + 100 - 100 = z by omega] at this
  exact ⟨eq_of_beq this.1, this.2⟩
theorem told_am {u : Int × Int} (ok : AmOk u) : told? (mk (amT u)) = some u := by
  obtain ⟨t, b⟩ := u
  have p := ok.pos
  obtain ⟨h1, h2, h3, _⟩ := int_read t ok.s1
  obtain ⟨g1, _, g3, g4⟩ := int_read b ok.s2
  have g4 := g4 (by show (0 : Int) ≤ b; have : (1 : Int) ≤ b := p; omega)
  by_cases c : b = 1
  · have e : mk (amT (t, b)) = Str.ofString (toString t) := by
      unfold amT
      rw [if_pos c, List.append_nil]
      exact mk_tl _
    have ct : cut (Str.ofString (toString t)) = (Str.ofString (toString t), Str.empty, Str.empty) := TL.partition_none (y := "/") (s := 47) (S := []) rfl h3
    have lw : low (Str.ofString (toString t)) = "1" := by unfold low; rw [ct, if_pos rfl]
    have i1 : intText? "1" = some 1 := by decide +kernel
    rw [e]
    unfold told? good
    rw [lw, ct, h2, show dg "1" = true by decide +kernel, if_pos (by rfl), h1, i1]
    show (if (1 : Int) = 0 then none else some (t, (1 : Int))) = some (t, b)
    rw [if_neg (by decide), c]
  · have e : mk (amT (t, b)) = Str.ofString (toString t) ++ "/" ++ Str.ofString (toString b) := by
      unfold amT
      rw [if_neg c]
      exact (str_mk (by rw [TL.tl_append, TL.tl_append, List.append_assoc]; rfl)).symm
    have ct : cut (Str.ofString (toString t) ++ "/" ++ Str.ofString (toString b)) = (Str.ofString (toString t), ("/" : Str), Str.ofString (toString b)) := TL.partition_app (y := "/") (s := 47) (S := []) rfl h3
    have lw : low (Str.ofString (toString t) ++ "/" ++ Str.ofString (toString b)) = Str.ofString (toString b) := by
      unfold low
      rw [ct]
      exact if_neg (show ¬ ("/" : Str) = Str.empty by decide +kernel)
    rw [e]
    unfold told? good
    rw [lw, ct, h2, g4, if_pos (by rfl), h1, g1]
    show (if b = 0 then none else some (t, b)) = some (t, b)
    have : (1 : Int) ≤ b := p
    rw [if_neg (by omega)]
def spSurplusIn (K : PySem.W.Frag) : Sp := fun vs H Q _ => ∃ u : Int × Int, vs = [.str (mk (amT u))] ∧ AmOk u ∧ ∀ v H', Same H H' → Dp K H' v (amD u) → Q v H'
theorem ok_surplus_in (T : Txt K mg a) : FnOk P w K mg base CX0 6 a.f_surplus_in a.d_surplus_in ["text"] (spSurplusIn K) := by
  refine T.F_surplus_in.ok sc_surplus_in (fun vs H Q E h => ?_) (fun cdv A outer s H vs Q E hr h => ?_)
  · obtain ⟨u, rfl, _⟩ := h
    rfl
  · obtain ⟨u, rfl, ok, k⟩ := h
    refine ⟨_, (pss_cons (ps_set (i := 1) sc_surplus_in.nd rfl (Or.inl rfl) (pe_call (ok_ratio_in T) (hr.mono (by decide)) (by rfl) T.m_ratio_in T.F_ratio_in.kp T.b_ratio_in .nil pass0 (pa_cons (pv 0) pa_nil)))
      (pss_cons (ps_if (pt_cmpR op_isN (pv 1) pe_non (nomark _)) (pss_one (ps_ret pe_non)) pss_nil)
      (pss_one (ps_ret (pe_ifExp (pt_cmpR op_eq (pe_fld (pv 1) rfl) pe_int (nomark _)) (pe_fld (pv 1) rfl) (pe_tup (pa_cons (pe_fld (pv 1) rfl) (pa_cons (pe_fld (pv 1) rfl) pa_nil)))))))), ?_⟩
    have ml : (mk (amT u)).length ≤ 11 := by rw [mk_len]; exact am_len ok
    have rd := told_am ok
    walk_at "r"
    refine ⟨mk (amT u), rfl, by omega, fun z => ?_, fun t b z p H1 x y n1 e1 r1 nr => ?_⟩
    · rw [rd] at z; cases z
    rw [rd] at z
    obtain ⟨rfl, rfl⟩ := Prod.mk.inj (Option.some.inj z)
    have p2 := ok.pos
    obtain ⟨rfl, rfl⟩ := nr.uniq (u' := u.1) (l' := u.2) (x' := u.1) (y' := u.2) ⟨by omega, ok.low, rfl⟩ (by omega) (by omega) rfl
    walk_at "r"
    refine ⟨rfl, false, by simp, ?_⟩
    rw [if_neg (by decide)]
    walk_at "r"
    refine w_tIf ?_
    walk_at "r"
    refine bot_leaf T r1 ?_
    walk_at "r"
    by_cases c : u.2 = 1
    · rw [if_pos (by simp [c])]
      walk_at "r"
      refine top_leaf T r1 ?_
      exact k _ _ e1 (by unfold amD; rw [if_pos c]; exact .int _)
    · rw [if_neg (by simp [c])]
      walk_at "r"
      refine top_leaf T r1 ?_
      walk_at "r"
      refine bot_leaf T r1 ?_
      walk_at "r"
      refine w_newT (by show 2 ≤ 100000; decide) fun q H2 n2 e2 h2 => ?_
      exact k _ _ (e1.trans e2) (by unfold amD; rw [if_neg c]; exact .tup (SqT.of h2) (.cons (.int _) (.cons (.int _) .nil)))
end
end RK17


namespace RK17
open PySem PySem.Spec L2 RK RZ StX PyProof.Rows
section
variable {K : PySem.W.Frag} {H H' : Hp}
mutual
/-- no list within -/
def noL : PyData → Prop
  | .list _ => False
  | .tuple ds => noLs ds
  | _ => True
def noLs : List PyData → Prop
  | [] => True
  | d :: ds => noL d ∧ noLs ds
end
mutual
theorem Dp.sameT (e : SameT H H') : ∀ {v : V} (d : PyData), noL d → Dp K H v d → Dp K H' v d
  | _, .none, _, h => by cases h; exact .non
  | _, .bool b, _, h => by cases h; exact .bl _
  | _, .int i, _, h => by cases h; exact .int _
  | _, .str x, _, h => by cases h; exact .str _
  | _, .list ds, n, h => by unfold noL at n; exact n.elim
  | _, .tuple ds, n, h => by
    unfold noL at n
    cases h with
    | tup a b => exact .tup (e.sqt a) (DpAll.sameT e ds n b)
  | _, .dict _, _, h => by cases h
theorem DpAll.sameT (e : SameT H H') : ∀ {vs : List V} (ds : List PyData), noLs ds → DpAll K H vs ds → DpAll K H' vs ds
  | _, [], _, h => by cases h; exact .nil
  | _, d :: ds, n, h => by
    unfold noLs at n
    cases h with
    | cons a b => exact .cons (Dp.sameT e d n.1 a) (DpAll.sameT e ds n.2 b)
end
theorem noL_mo (m : Mo) : noL m.d := by cases m <;> simp [Mo.d, noL]
theorem noL_lv (x : Lv) : noL x.d := by cases x <;> simp [Lv.d, noL, noLs, noL_mo]
theorem noL_am (u : Int × Int) : noL (amD u) := by
  unfold amD
  split <;> simp [noL, noLs]
theorem noL_fm : ∀ f : Fm, noL f.d
  | .over x y u => by simp [Fm.d, noL, noLs, noL_lv, noL_am]
  | .no f => by simp [Fm.d, noL, noLs, noL_fm f]
  | .bi w f g => by simp [Fm.d, noL, noLs, noL_fm f, noL_fm g]
  | .tri f g h => by simp [Fm.d, noL, noLs, noL_fm f, noL_fm g, noL_fm h]
theorem noLs_map (fs : List Fm) : noLs (fs.map Fm.d) := by
  induction fs with
  | nil => simp [noLs]
  | cons f r ih => simp [noLs, noL_fm, ih]
end
section
variable {P : Program} {w : World} {K : PySem.W.Frag} {mg : Str → Option Value} {base : Heap} {a : Ad}
/-! ### a closed bracket -/
def spClosed (K : PySem.W.Frag) : Sp := fun vs H Q _ => ∃ (l : Addr) (f : Fm), vs = [.ref l] ∧ f.Ok ∧ ((∃ x y u, f = .over x y u ∧ H l = some (.lst [.str "over", .str (mk x.t), .str (mk y.t), .str (mk (amT u))])) ∨ (f.Inner ∧ ∃ xs, H l = some (.lst (.str f.word :: xs)) ∧ DpAll K H xs (f.kids.map Fm.d))) ∧ ∀ v H', Same H H' → Dp K H' v f.d → Q v H'
theorem ok_closed (T : Txt K mg a) : FnOk P w K mg base CX0 8 a.f_closed a.d_closed ["words"] (spClosed K) := by
  refine T.F_closed.ok sc_closed (fun vs H Q E h => ?_) (fun cdv A outer s H vs Q E hr h => ?_)
  · obtain ⟨l, f, rfl, _⟩ := h
    rfl
  · obtain ⟨l, f, rfl, ok, h, k⟩ := h
    refine ⟨_, (pss_cons (ps_if (PW.pt (pw_and (pt_cmpR op_eq (pe_callB cr_len (by rfl) T.z_len PySem.boot_len (pa_cons (pv 0) pa_nil)) pe_int (nomark _)) (pw_and (pt_cmpR op_eq (pe_ix ix_list (pv 0) pe_int (fun _ _ => rfl)) pe_str (nomark _)) (pw_and1 (pt_val (pe_callB (cr_all rfl) (by rfl) T.z_all (by decide +kernel) (pa_cons (pe_lc (own := [("word", 1)]) (g := gName 1) (tt := tYes) rfl sc_closed.nd (pi_list (pv 0)) (blkOk_by (own := [("word", 1)]) (N := ["words", "word"]) (sc := defScope s_closed) (by decide +kernel)) (fun _ _ _ _ _ => pg_name (i := 1) sc_closed.nd rfl (Or.inl rfl)) (fun _ _ _ _ _ => pts_nil) (fun _ _ _ _ _ => by exact (pe_callB (show CallR _ _ (rIsi K) from call_isi) (by rfl) T.z_isinstance (by decide +kernel) (pa_cons (pv 1) (pa_cons (pe_bltn (v := .ty "str") (by rfl) T.z_str (by decide +kernel) rfl) pa_nil))))) pa_nil))))))) (pss_one (ps_ret (pe_tup (pa_cons pe_str (pa_cons (pe_call (ok_level_in T) (hr.mono (by decide)) (by rfl) T.m_level_in T.F_level_in.kp T.b_level_in .nil pass0 (pa_cons (pe_ix ix_list (pv 0) pe_int (fun _ _ => rfl)) pa_nil)) (pa_cons (pe_call (ok_level_in T) (hr.mono (by decide)) (by rfl) T.m_level_in T.F_level_in.kp T.b_level_in .nil pass0 (pa_cons (pe_ix ix_list (pv 0) pe_int (fun _ _ => rfl)) pa_nil)) (pa_cons (pe_call (ok_surplus_in T) (hr.mono (by decide)) (by rfl) T.m_surplus_in T.F_surplus_in.kp T.b_surplus_in .nil pass0 (pa_cons (pe_ix ix_list (pv 0) pe_int (fun _ _ => rfl)) pa_nil)) pa_nil))))))) pss_nil)
      (pss_one (ps_ret (pe_callTy call_tuple_of (by rfl) T.z_tuple (by decide +kernel) (pa_cons (pv 0) pa_nil))))), ?_⟩
    walk_at "r"
    rcases h with ⟨x, y, u, rfl, hl⟩ | ⟨fi, xs, hl, da⟩
    · refine w_lenL (SqL.of hl) ?_
      walk_at "r"
      refine iteT ?_
      walk_at "r"
      rw [if_pos (by simp)]
      walk_at "r"
      refine ⟨l, rfl, ⟨_, SqL.of hl⟩, cmS (walk_list (xs := [V.str "over", .str (mk x.t), .str (mk y.t), .str (mk (amT u))])) (by show 4 ≤ 1000; decide) (fun G e => SqL.of (e _ _ hl)) (fun _ v _ => v = .bl true) (fun _ _ _ _ _ h => h) (fun i z G1 G2 hi e hy Q' kq => ?_) (fun D ys H1 n1 e1 h1 hl1 hP => ?_)⟩
      · obtain ⟨rfl, hz⟩ := hy
        obtain ⟨s, rfl⟩ : ∃ s : Str, z = .str s := by
          have := List.mem_of_getElem? hz
          simp only [List.mem_cons, List.not_mem_nil, or_false] at this
          rcases this with rfl | rfl | rfl | rfl <;> exact ⟨_, rfl⟩
        refine ⟨rfl, ?_⟩
        walk_at "r"
        exact isS _ (kq _ _ (w_same _) rfl)
      walk_at "r"
      refine all_P h1 hP ?_
      refine ⟨true, rfl, iteT ?_⟩
      have hl2 := e1 _ _ hl
      walk_at "r"
      refine ⟨x, rfl, ok.1, fun v1 H2 e2 d1 => ?_⟩
      have hl3 := e2 _ _ hl2
      walk_at "r"
      refine ⟨y, rfl, ok.2.1, fun v2 H3 e3 d2 => ?_⟩
      have hl4 := e3 _ _ hl3
      walk_at "r"
      refine ⟨u, rfl, ok.2.2, fun v3 H4 e4 d3 => ?_⟩
      walk_at "r"
      refine w_newT (by show 4 ≤ 100000; decide) fun q H5 n5 e5 h5 => ?_
      exact k _ _ ((((e1.trans e2).trans e3).trans e4).trans e5) (.tup (SqT.of h5) (.cons (.str _) (.cons (Dp.same ((e3.trans e4).trans e5) _ d1) (.cons (Dp.same (e4.trans e5) _ d2) (.cons (Dp.same e5 _ d3) .nil)))))
    · refine w_lenL (SqL.of hl) ?_
      walk_at "r"
      by_cases c : V.int ((V.str f.word :: xs).length : Nat) = V.int 4
      · rw [decide_eq_true c, if_pos rfl]
        walk_at "r"
        refine w_ixL hl (at_of (j := 0) rfl rfl) ?_
        walk_at "r"
        rw [if_neg (by rw [decide_eq_false (word_ne fi)]; decide)]
        rw [if_neg (by decide)]
        walk_at "r"
        refine ⟨l, _, rfl, .inl ⟨SqL.of hl, fun q nq => ?_⟩⟩
        have e := w_new (o := .tup (V.str f.word :: xs)) nq
        exact k _ _ e (by rw [fi.d]; exact .tup (SqT.of upd_same) (.cons (.str _) (DpAll.same e _ da)))
      · rw [decide_eq_false c, if_neg (by decide)]
        rw [if_neg (by decide)]
        walk_at "r"
        refine ⟨l, _, rfl, .inl ⟨SqL.of hl, fun q nq => ?_⟩⟩
        have e := w_new (o := .tup (V.str f.word :: xs)) nq
        exact k _ _ e (by rw [fi.d]; exact .tup (SqT.of upd_same) (.cons (.str _) (DpAll.same e _ da)))
end
end RK17


namespace RK17
open PySem PySem.Spec L2 RK RZ StX PyProof.Rows
/-! ### what is read, word by word (pure) -/
inductive Tk
  | op
  | wd (t : List Nat)
  | cl (g : Fm)
def Tk.t : Tk → List Nat
  | op => [40]
  | wd t => t
  | cl _ => [41]
inductive It
  | w (t : List Nat)
  | f (g : Fm)
def items : Fm → List It
  | .over x y u => [.w (TL.tl "over"), .w x.t, .w y.t, .w (amT u)]
  | .no f => [.w (TL.tl "not"), .f f]
  | .bi w f g => [.w (TL.tl (if w then "if" else "and")), .f f, .f g]
  | .tri f g h => [.w (TL.tl "or"), .f f, .f g, .f h]
theorem items_in {f : Fm} (i : f.Inner) : items f = .w (TL.tl f.word) :: f.kids.map .f := by
  cases f with
  | over x y u => exact absurd i.one (Nat.not_succ_le_zero 0)
  | no f => rfl
  | bi w f g => rfl
  | tri f g h => rfl
def body : Fm → List Tk
  | .over x y u => [.op, .wd (TL.tl "over"), .wd x.t, .wd y.t, .wd (amT u)]
  | .no f => .op :: .wd (TL.tl "not") :: (body f ++ [.cl f])
  | .bi w f g => .op :: .wd (TL.tl (if w then "if" else "and")) :: ((body f ++ [.cl f]) ++ (body g ++ [.cl g]))
  | .tri f g h => .op :: .wd (TL.tl "or") :: ((body f ++ [.cl f]) ++ ((body g ++ [.cl g]) ++ (body h ++ [.cl h])))
def step (S : List (List It)) : Tk → List (List It)
  | .op => S ++ [[]]
  | .wd t => S.dropLast ++ [S.getLastD [] ++ [.w t]]
  | .cl g => S.dropLast.dropLast ++ [S.dropLast.getLastD [] ++ [.f g]]
def Good' (S : List (List It)) : Tk → Prop
  | .op => True
  | .wd t => (∃ R top, S = R ++ [top]) ∧ t ≠ [40] ∧ t ≠ [41]
  | .cl g => g.Ok ∧ ∃ R top, S = R ++ [top, items g]
def OkRun : List (List It) → List Tk → Prop
  | _, [] => True
  | S, k :: r => Good' S k ∧ OkRun (step S k) r
def rn (S : List (List It)) (ks : List Tk) : List (List It) := ks.foldl step S
theorem okRun_app : ∀ {a b : List Tk} {S : List (List It)}, OkRun S a → OkRun (rn S a) b → OkRun S (a ++ b)
  | [], _, _, _, h => h
  | _ :: _, _, _, h, g => ⟨h.1, okRun_app h.2 g⟩
theorem rn_app (S : List (List It)) (a b : List Tk) : rn S (a ++ b) = rn (rn S a) b := List.foldl_append
theorem okRun_at : ∀ {ks : List Tk} {S : List (List It)}, OkRun S ks → ∀ {i : Nat} {k : Tk}, ks[i]? = some k → Good' (rn S (ks.take i)) k
  | _ :: _, _, h, 0, _, e => by cases e; exact h.1
  | _ :: _, _, h, i + 1, _, e => okRun_at h.2 (i := i) e
theorem int_no : ∀ z : Int, z.natAbs ≤ 100 → 32 ∉ TL.tl (Str.ofString (toString z)) ∧ 40 ∉ TL.tl (Str.ofString (toString z)) ∧ 41 ∉ TL.tl (Str.ofString (toString z)) := by
  have h : ∀ k : Nat, k < 201 → 32 ∉ TL.tl (Str.ofString (toString ((k : Int) - 100))) ∧ 40 ∉ TL.tl (Str.ofString (toString ((k : Int) - 100))) ∧ 41 ∉ TL.tl (Str.ofString (toString ((k : Int) - 100))) := by decide +kernel
  intro z hz
  have := h (z + 100).toNat (by omega)
  rwa [Int.toNat_of_nonneg (by omega), show z + 100 - 100 = z by omega] at this
/-- no sign that parts words -/
structure Cln (l : List Nat) : Prop where
  sp : 32 ∉ l
  op : 40 ∉ l
  cl : 41 ∉ l
theorem Cln.ne {l : List Nat} (h : Cln l) : l ≠ [40] ∧ l ≠ [41] := ⟨fun z => h.op (by rw [z]; exact List.mem_singleton.mpr rfl), fun z => h.cl (by rw [z]; exact List.mem_singleton.mpr rfl)⟩
theorem Cln.app {a b : List Nat} (h : Cln a) (g : Cln b) : Cln (a ++ b) := ⟨fun z => (List.mem_append.mp z).elim h.sp g.sp, fun z => (List.mem_append.mp z).elim h.op g.op, fun z => (List.mem_append.mp z).elim h.cl g.cl⟩
theorem Cln.cons {c : Nat} {b : List Nat} (h : 41 < c) (g : Cln b) : Cln (c :: b) := ⟨fun z => (List.mem_cons.mp z).elim (fun e => by omega) g.sp, fun z => (List.mem_cons.mp z).elim (fun e => by omega) g.op, fun z => (List.mem_cons.mp z).elim (fun e => by omega) g.cl⟩
theorem Cln.nil : Cln [] := ⟨List.not_mem_nil, List.not_mem_nil, List.not_mem_nil⟩
theorem cln_am {u : Int × Int} (ok : AmOk u) : Cln (amT u) := by
  obtain ⟨a1, a2, a3⟩ := int_no u.1 ok.s1
  obtain ⟨b1, b2, b3⟩ := int_no u.2 ok.s2
  unfold amT
  refine Cln.app ⟨a1, a2, a3⟩ ?_
  split
  · exact Cln.nil
  · exact Cln.cons (by decide) ⟨b1, b2, b3⟩
theorem cln_mo {m : Mo} (h : m.Ok) : Cln m.t := by
  cases m with
  | num n =>
    rw [(mo_digit n h).1]
    exact Cln.cons (by omega) Cln.nil
  | last => exact ⟨by decide +kernel, by decide +kernel, by decide +kernel⟩
theorem cln_lv {x : Lv} (h : x.Ok) : Cln x.t := by
  cases x with
  | floor => exact ⟨by decide +kernel, by decide +kernel, by decide +kernel⟩
  | len c => exact Cln.cons (by have := h.1; omega) Cln.nil
  | part s m => exact Cln.app ⟨word_no h.1 (by decide), word_no h.1 (by decide), word_no h.1 (by decide)⟩ (Cln.cons (by decide) (cln_mo h.2))
  | hook c m => exact Cln.cons (by have := h.1.1; omega) (Cln.cons (by decide) (cln_mo h.2))
theorem cln_words : Cln (TL.tl "over") ∧ Cln (TL.tl "not") ∧ (∀ w : Bool, Cln (TL.tl (if w then "if" else "and"))) ∧ Cln (TL.tl "or") := by
  refine ⟨⟨?_, ?_, ?_⟩, ⟨?_, ?_, ?_⟩, fun w => ?_, ⟨?_, ?_, ?_⟩⟩
  all_goals first | decide +kernel | (cases w <;> exact ⟨by decide +kernel, by decide +kernel, by decide +kernel⟩)
theorem step_wd (R : List (List It)) (top : List It) (t : List Nat) : step (R ++ [top]) (.wd t) = R ++ [top ++ [.w t]] := by
  show (R ++ [top]).dropLast ++ [(R ++ [top]).getLastD [] ++ [.w t]] = _
  simp
theorem step_cl (R : List (List It)) (top ws : List It) (g : Fm) : step ((R ++ [top]) ++ [ws]) (.cl g) = R ++ [top ++ [.f g]] := by
  show ((R ++ [top]) ++ [ws]).dropLast.dropLast ++ [((R ++ [top]) ++ [ws]).dropLast.getLastD [] ++ [.f g]] = _
  simp
theorem kid_run {f : Fm} (ok : f.Ok) (h : ∀ S, OkRun S (body f) ∧ rn S (body f) = S ++ [items f]) (R : List (List It)) (top : List It) : OkRun (R ++ [top]) (body f ++ [.cl f]) ∧ rn (R ++ [top]) (body f ++ [.cl f]) = R ++ [top ++ [.f f]] := by
  obtain ⟨h1, h2⟩ := h (R ++ [top])
  refine ⟨okRun_app h1 ?_, ?_⟩
  · rw [h2]
    exact ⟨⟨ok, R, top, by simp⟩, trivial⟩
  · rw [rn_app, h2]
    exact step_cl R top _ f
theorem body_run : ∀ f : Fm, f.Ok → ∀ S, OkRun S (body f) ∧ rn S (body f) = S ++ [items f]
  | .over x y u, ok, S => by
    have w0 := cln_words.1.ne
    have w1 := (cln_lv ok.1).ne
    have w2 := (cln_lv ok.2.1).ne
    have w3 := (cln_am ok.2.2).ne
    have e1 : step (step S .op) (.wd (TL.tl "over")) = S ++ [[.w (TL.tl "over")]] := step_wd S [] _
    have e2 : step (step (step S .op) (.wd (TL.tl "over"))) (.wd x.t) = S ++ [[.w (TL.tl "over"), .w x.t]] := by rw [e1]; exact step_wd S _ _
    have e3 : step (step (step (step S .op) (.wd (TL.tl "over"))) (.wd x.t)) (.wd y.t) = S ++ [[.w (TL.tl "over"), .w x.t, .w y.t]] := by rw [e2]; exact step_wd S _ _
    have e4 : step (step (step (step (step S .op) (.wd (TL.tl "over"))) (.wd x.t)) (.wd y.t)) (.wd (amT u)) = S ++ [[.w (TL.tl "over"), .w x.t, .w y.t, .w (amT u)]] := by rw [e3]; exact step_wd S _ _
    exact ⟨⟨trivial, ⟨⟨S, [], rfl⟩, w0⟩, ⟨⟨S, _, e1⟩, w1⟩, ⟨⟨S, _, e2⟩, w2⟩, ⟨⟨S, _, e3⟩, w3⟩, trivial⟩, e4⟩
  | .no f, ok, S => by
    obtain ⟨k1, k2⟩ := kid_run (f := f) ok (body_run f ok) S [.w (TL.tl "not")]
    have w0 := cln_words.2.1.ne
    have e : step (step S .op) (.wd (TL.tl "not")) = S ++ [[.w (TL.tl "not")]] := step_wd S [] _
    refine ⟨⟨trivial, ⟨⟨S, [], rfl⟩, w0⟩, by rw [e]; exact k1⟩, ?_⟩
    show rn (step (step S .op) (.wd (TL.tl "not"))) _ = _
    rw [e, k2]
    rfl
  | .bi w f g, ok, S => by
    generalize hw : TL.tl (if w then "if" else "and") = wd
    obtain ⟨k1, k2⟩ := kid_run ok.1 (body_run f ok.1) S [.w wd]
    obtain ⟨g1, g2⟩ := kid_run ok.2 (body_run g ok.2) S ([.w wd] ++ [.f f])
    have w0 := (cln_words.2.2.1 w).ne
    rw [hw] at w0
    have e : step (step S .op) (.wd wd) = S ++ [[.w wd]] := step_wd S [] _
    have eb : body (.bi w f g) = .op :: .wd wd :: ((body f ++ [.cl f]) ++ (body g ++ [.cl g])) := by rw [← hw]; rfl
    have ei : items (.bi w f g) = [.w wd, .f f, .f g] := by rw [← hw]; rfl
    rw [eb, ei]
    refine ⟨⟨trivial, ⟨⟨S, [], rfl⟩, w0⟩, by rw [e]; exact okRun_app k1 (by rw [k2]; exact g1)⟩, ?_⟩
    show rn (step (step S .op) (.wd wd)) _ = _
    rw [e, rn_app, k2, g2]
    rfl
  | .tri f g h, ok, S => by
    obtain ⟨k1, k2⟩ := kid_run ok.1 (body_run f ok.1) S [.w (TL.tl "or")]
    obtain ⟨g1, g2⟩ := kid_run ok.2.1 (body_run g ok.2.1) S ([.w (TL.tl "or")] ++ [.f f])
    obtain ⟨h1, h2⟩ := kid_run ok.2.2 (body_run h ok.2.2) S (([.w (TL.tl "or")] ++ [.f f]) ++ [.f g])
    have w0 := cln_words.2.2.2.ne
    have e : step (step S .op) (.wd (TL.tl "or")) = S ++ [[.w (TL.tl "or")]] := step_wd S [] _
    refine ⟨⟨trivial, ⟨⟨S, [], rfl⟩, w0⟩, by rw [e]; exact okRun_app k1 (by rw [k2]; exact okRun_app g1 (by rw [g2]; exact h1))⟩, ?_⟩
    show rn (step (step S .op) (.wd (TL.tl "or"))) _ = _
    rw [e, rn_app, k2, rn_app, g2, h2]
    rfl
end RK17


namespace RK17
open PySem PySem.Spec L2 RK RZ StX PyProof.Rows
/-! ### the words of a text (pure) -/
theorem rep_one (c : Nat) (z : List Nat) : ∀ l : List Nat, PySem.StrLaws.replL [c] z l = l.flatMap fun d => if d = c then z else [d]
  | [] => PySem.StrLaws.replL_nil
  | d :: r => by
    rw [List.flatMap_cons, ← rep_one c z r]
    by_cases h : d = c
    · rw [if_pos h, PySem.StrLaws.replL_hit (by simp) (by rw [h]; rfl)]
      rfl
    · rw [if_neg h, PySem.StrLaws.replL_miss (y := [c]) (z := z) (c := d) (r := r) (fun e => h (List.cons.inj (show [d] = [c] from e)).1)]
      rfl
/-- brackets stand apart -/
def apart (l : List Nat) : List Nat := (l.flatMap fun d => if d = 40 then [40, 32] else [d]).flatMap fun d => if d = 41 then [32, 41] else [d]
theorem apart_app (a b : List Nat) : apart (a ++ b) = apart a ++ apart b := by unfold apart; rw [List.flatMap_append, List.flatMap_append]
theorem apart_cln : ∀ {l : List Nat}, Cln l → apart l = l
  | [], _ => rfl
  | d :: r, h => by
    have h1 : d ≠ 40 := fun z => h.op (by rw [z]; exact List.mem_cons_self)
    have h2 : d ≠ 41 := fun z => h.cl (by rw [z]; exact List.mem_cons_self)
    have ih := apart_cln (l := r) ⟨fun m => h.sp (List.mem_cons_of_mem _ m), fun m => h.op (List.mem_cons_of_mem _ m), fun m => h.cl (List.mem_cons_of_mem _ m)⟩
    have e : apart [d] = [d] := by unfold apart; simp [h1, h2]
    rw [show d :: r = [d] ++ r from rfl, apart_app, e, ih]
theorem apart_sp : apart [32] = [32] := rfl
theorem apart_op : apart [40] = [40, 32] := rfl
theorem apart_cl : apart [41] = [32, 41] := rfl
theorem joinL_app : ∀ {a b : List (List Nat)}, a ≠ [] → b ≠ [] → TL.joinL [32] (a ++ b) = TL.joinL [32] a ++ 32 :: TL.joinL [32] b
  | [x], b, _, hb => by
    cases b with
    | nil => exact absurd rfl hb
    | cons y r => rfl
  | x :: y :: r, b, _, hb => by
    have ih := joinL_app (a := y :: r) (by simp) hb
    show x ++ ([32] ++ TL.joinL [32] ((y :: r) ++ b)) = (x ++ ([32] ++ TL.joinL [32] (y :: r))) ++ 32 :: TL.joinL [32] b
    rw [ih, List.append_assoc, List.append_assoc]
def toks (f : Fm) : List (List Nat) := (body f ++ [Tk.cl f]).map Tk.t
theorem toks_ne (f : Fm) : toks f ≠ [] := by unfold toks; simp
theorem toks_no (f : Fm) : toks (.no f) = [[40]] ++ ([TL.tl "not"] ++ (toks f ++ [[41]])) := by
  unfold toks
  simp [body, Tk.t]
theorem toks_bi (w : Bool) (f g : Fm) : toks (.bi w f g) = [[40]] ++ ([TL.tl (if w then "if" else "and")] ++ (toks f ++ (toks g ++ [[41]]))) := by
  unfold toks
  simp [body, Tk.t]
theorem toks_tri (f g h : Fm) : toks (.tri f g h) = [[40]] ++ ([TL.tl "or"] ++ (toks f ++ (toks g ++ (toks h ++ [[41]])))) := by
  unfold toks
  simp [body, Tk.t]
theorem apart_t : ∀ f : Fm, f.Ok → apart f.t = TL.joinL [32] (toks f)
  | .over x y u, ok => by
    have e0 : TL.tl "(over " = [40] ++ (TL.tl "over" ++ [32]) := by decide +kernel
    show apart (TL.tl "(over " ++ (x.t ++ 32 :: (y.t ++ 32 :: (amT u ++ [41])))) = _
    rw [e0, show x.t ++ 32 :: (y.t ++ 32 :: (amT u ++ [41])) = x.t ++ ([32] ++ (y.t ++ ([32] ++ (amT u ++ [41])))) from by simp]
    simp only [apart_app, apart_sp, apart_op, apart_cl, apart_cln cln_words.1, apart_cln (cln_lv ok.1), apart_cln (cln_lv ok.2.1), apart_cln (cln_am ok.2.2)]
    show _ = [40] ++ ([32] ++ (TL.tl "over" ++ ([32] ++ (x.t ++ ([32] ++ (y.t ++ ([32] ++ (amT u ++ ([32] ++ [41])))))))))
    simp
  | .no f, ok => by
    have ih := apart_t f ok
    show apart (40 :: (TL.tl "not" ++ 32 :: (f.t ++ [41]))) = _
    rw [show (40 :: (TL.tl "not" ++ 32 :: (f.t ++ [41]))) = [40] ++ (TL.tl "not" ++ ([32] ++ (f.t ++ [41]))) from by simp, toks_no, joinL_app (by simp) (by simp), joinL_app (by simp) (by simp), joinL_app (toks_ne f) (by simp)]
    simp only [apart_app, apart_sp, apart_op, apart_cl, apart_cln cln_words.2.1, ih]
    simp [TL.joinL]
  | .bi w f g, ok => by
    have ih := apart_t f ok.1
    have ih2 := apart_t g ok.2
    have cw := cln_words.2.2.1 w
    have tb := toks_bi w f g
    show apart (40 :: (TL.tl (if w then "if" else "and") ++ 32 :: ((f.t ++ 32 :: g.t) ++ [41]))) = _
    rw [tb]
    generalize TL.tl (if w then "if" else "and") = wd at *
    rw [show (40 :: (wd ++ 32 :: ((f.t ++ 32 :: g.t) ++ [41]))) = [40] ++ (wd ++ ([32] ++ (f.t ++ ([32] ++ (g.t ++ [41]))))) from by simp, joinL_app (by simp) (by simp), joinL_app (by simp) (by simp [toks_ne]), joinL_app (toks_ne f) (by simp), joinL_app (toks_ne g) (by simp)]
    simp only [apart_app, apart_sp, apart_op, apart_cl, apart_cln cw, ih, ih2]
    simp [TL.joinL]
  | .tri f g h, ok => by
    have ih := apart_t f ok.1
    have ih2 := apart_t g ok.2.1
    have ih3 := apart_t h ok.2.2
    show apart (40 :: (TL.tl "or" ++ 32 :: ((f.t ++ 32 :: (g.t ++ 32 :: h.t)) ++ [41]))) = _
    rw [show (40 :: (TL.tl "or" ++ 32 :: ((f.t ++ 32 :: (g.t ++ 32 :: h.t)) ++ [41]))) = [40] ++ (TL.tl "or" ++ ([32] ++ (f.t ++ ([32] ++ (g.t ++ ([32] ++ (h.t ++ [41]))))))) from by simp, toks_tri, joinL_app (by simp) (by simp), joinL_app (by simp) (by simp [toks_ne]), joinL_app (toks_ne f) (by simp), joinL_app (toks_ne g) (by simp), joinL_app (toks_ne h) (by simp)]
    simp only [apart_app, apart_sp, apart_op, apart_cl, apart_cln cln_words.2.2.2, ih, ih2, ih3]
    simp [TL.joinL]
theorem toks_sp : ∀ f : Fm, f.Ok → ∀ t ∈ toks f, 32 ∉ t
  | .over x y u, ok, t, h => by
    have : t = [40] ∨ t = TL.tl "over" ∨ t = x.t ∨ t = y.t ∨ t = amT u ∨ t = [41] := by simpa [toks, body, Tk.t] using h
    rcases this with rfl | rfl | rfl | rfl | rfl | rfl
    · decide
    · exact cln_words.1.sp
    · exact (cln_lv ok.1).sp
    · exact (cln_lv ok.2.1).sp
    · exact (cln_am ok.2.2).sp
    · decide
  | .no f, ok, t, h => by
    rw [toks_no] at h
    have : t = [40] ∨ t = TL.tl "not" ∨ t ∈ toks f ∨ t = [41] := by simpa using h
    rcases this with rfl | rfl | h | rfl
    · decide
    · exact cln_words.2.1.sp
    · exact toks_sp f ok t h
    · decide
  | .bi w f g, ok, t, h => by
    rw [toks_bi] at h
    have : t = [40] ∨ t = TL.tl (if w then "if" else "and") ∨ t ∈ toks f ∨ t ∈ toks g ∨ t = [41] := by simpa using h
    rcases this with rfl | rfl | h | h | rfl
    · decide
    · exact (cln_words.2.2.1 w).sp
    · exact toks_sp f ok.1 t h
    · exact toks_sp g ok.2 t h
    · decide
  | .tri f g k, ok, t, h => by
    rw [toks_tri] at h
    have : t = [40] ∨ t = TL.tl "or" ∨ t ∈ toks f ∨ t ∈ toks g ∨ t ∈ toks k ∨ t = [41] := by simpa using h
    rcases this with rfl | rfl | h | h | h | rfl
    · decide
    · exact cln_words.2.2.2.sp
    · exact toks_sp f ok.1 t h
    · exact toks_sp g ok.2.1 t h
    · exact toks_sp k ok.2.2 t h
    · decide
/-- the text, its brackets set apart, split -/
theorem read_words {f : Fm} (ok : f.Ok) : Txt.split (Txt.replace (Txt.replace (mk f.t) "(" "( ") ")" " )") " " = (toks f).map mk := by
  have r1 : TL.tl (Txt.replace (mk f.t) "(" "( ") = f.t.flatMap fun d => if d = 40 then [40, 32] else [d] := by
    rw [show TL.tl (Txt.replace (mk f.t) "(" "( ") = PySem.StrLaws.replL (TL.tl "(") (TL.tl "( ") (TL.tl (mk f.t)) from PySem.StrLaws.replace_list (by decide), tl_mk]
    exact rep_one 40 [40, 32] _
  have r2 : TL.tl (Txt.replace (Txt.replace (mk f.t) "(" "( ") ")" " )") = apart f.t := by
    rw [show TL.tl (Txt.replace (Txt.replace (mk f.t) "(" "( ") ")" " )") = PySem.StrLaws.replL (TL.tl ")") (TL.tl " )") (TL.tl (Txt.replace (mk f.t) "(" "( ")) from PySem.StrLaws.replace_list (by decide), r1]
    exact rep_one 41 [32, 41] _
  have e : Txt.replace (Txt.replace (mk f.t) "(" "( ") ")" " )" = Txt.join " " ((toks f).map mk) := by
    refine TL.ext_tl ?_
    rw [r2, apart_t f ok, TL.join_eq, TL.tl_join, List.map_map]
    have : (TL.tl ∘ mk) = id := funext fun l => tl_mk l
    rw [this, List.map_id]
    rfl
  rw [e]
  exact TL.split_join (s := 32) (S := []) rfl (by decide +kernel) (by simp [toks_ne]) fun p h => by
    obtain ⟨t, ht, rfl⟩ := List.mem_map.mp h
    rw [tl_mk]
    exact toks_sp f ok t ht
end RK17


namespace RK17
open PySem PySem.Spec L2 RK RZ StX PyProof.Rows
open CwR
/-! ### the lists that are under way -/
theorem at_last (ys : List V) (y : V) : atI (ys ++ [y]) (-1) = some y := by
  unfold atI ixN
  have n : ((ys ++ [y]).length : Int) = ys.length + 1 := by rw [List.length_append]; rfl
  rw [if_neg (by decide), if_pos (by omega)]
  show (ys ++ [y])[(-1 + ((ys ++ [y]).length : Int)).toNat]? = some y
  rw [n, show ((-1 : Int) + ((ys.length : Int) + 1)).toNat = ys.length from by omega, List.getElem?_append_right (Nat.le_refl _), Nat.sub_self]
  rfl
def ItR (K : PySem.W.Frag) (G : Hp) (x : V) : It → Prop
  | .w t => x = .str (mk t)
  | .f g => Dp K G x g.d
theorem ItR.sameT {K : PySem.W.Frag} {G G' : Hp} {x : V} {it : It} (h : ItR K G x it) (e : SameT G G') : ItR K G' x it := by
  cases it with
  | w t => exact h
  | f g => exact Dp.sameT e _ (noL_fm g) h
inductive Row (K : PySem.W.Frag) (G : Hp) : List V → List It → Prop
  | nil : Row K G [] []
  | cons {x : V} {xs : List V} {i : It} {is : List It} : ItR K G x i → Row K G xs is → Row K G (x :: xs) (i :: is)
theorem Row.sameT {K : PySem.W.Frag} {G G' : Hp} {xs : List V} {is : List It} (h : Row K G xs is) (e : SameT G G') : Row K G' xs is := by
  induction h with
  | nil => exact .nil
  | cons a _ ih => exact .cons (a.sameT e) ih
theorem Row.snoc {K : PySem.W.Frag} {G : Hp} {xs : List V} {is : List It} {x : V} {i : It} (h : Row K G xs is) (hx : ItR K G x i) : Row K G (xs ++ [x]) (is ++ [i]) := by
  induction h with
  | nil => exact .cons hx .nil
  | cons a _ ih => exact .cons a ih
theorem Row.len {K : PySem.W.Frag} {G : Hp} {xs : List V} {is : List It} (h : Row K G xs is) : xs.length = is.length := by
  induction h with
  | nil => rfl
  | cons _ _ ih => rw [List.length_cons, List.length_cons, ih]
/-- the lists of a row of rows -/
inductive Sts (K : PySem.W.Frag) (G : Hp) : List Addr → List (List It) → Prop
  | nil : Sts K G [] []
  | cons {a : Addr} {as : List Addr} {is : List It} {S : List (List It)} : (∃ xs, G a = some (.lst xs) ∧ Row K G xs is) → Sts K G as S → Sts K G (a :: as) (is :: S)
theorem Sts.keep {K : PySem.W.Frag} {G G' : Hp} {as : List Addr} {S : List (List It)} (h : Sts K G as S) (e : SameT G G') (k : ∀ a ∈ as, ∀ o, G a = some o → G' a = some o) : Sts K G' as S := by
  induction h with
  | nil => exact .nil
  | cons a _ ih =>
    obtain ⟨xs, h1, h2⟩ := a
    exact .cons ⟨xs, k _ List.mem_cons_self _ h1, h2.sameT e⟩ (ih fun a m => k a (List.mem_cons_of_mem _ m))
theorem Sts.snoc {K : PySem.W.Frag} {G : Hp} {as : List Addr} {S : List (List It)} {a : Addr} {is : List It} (h : Sts K G as S) (x : ∃ xs, G a = some (.lst xs) ∧ Row K G xs is) : Sts K G (as ++ [a]) (S ++ [is]) := by
  induction h with
  | nil => exact .cons x .nil
  | cons b _ ih => exact .cons b ih
theorem Sts.split {K : PySem.W.Frag} {G : Hp} : ∀ {as : List Addr} {S : List (List It)} {is : List It}, Sts K G as (S ++ [is]) → ∃ bs a, as = bs ++ [a] ∧ Sts K G bs S ∧ ∃ xs, G a = some (.lst xs) ∧ Row K G xs is
  | _, [], _, h => by
    cases h with
    | cons x t => cases t; exact ⟨[], _, rfl, .nil, x⟩
  | _, i :: S, is, h => by
    cases h with
    | cons x t =>
      obtain ⟨bs, a, rfl, h1, h2⟩ := Sts.split t
      exact ⟨_ :: bs, a, rfl, .cons x h1, h2⟩
theorem Sts.len {K : PySem.W.Frag} {G : Hp} {as : List Addr} {S : List (List It)} (h : Sts K G as S) : as.length = S.length := by
  induction h with
  | nil => rfl
  | cons _ _ ih => rw [List.length_cons, List.length_cons, ih]
/-- lists at LL: the rows of S, each in a list of its own, none of them there in H -/
structure Rep (K : PySem.W.Frag) (H G : Hp) (LL wl : Addr) (S : List (List It)) (as : List Addr) : Prop where
  at_ : G LL = some (.lst (as.map V.ref))
  sts : Sts K G as S
  new : ∀ a ∈ as, H a = none ∧ a ≠ LL ∧ a ≠ wl
  nd : as.Nodup
  n0 : H LL = none
  sm : Same H G
/-- a list more -/
theorem Rep.op {K : PySem.W.Frag} {H G G1 G2 : Hp} {LL wl p : Addr} {S : List (List It)} {as : List Addr} (r : Rep K H G LL wl S as) (np : G p = none) (e1 : Same G G1) (h1 : G1 p = some (.lst [])) (g : Grown LL (as.map V.ref ++ [V.ref p]) G1 G2) (hw : G wl ≠ none) : Rep K H G2 LL wl (S ++ [[]]) (as ++ [p]) := by
  have pL : p ≠ LL := fun z => by rw [z, r.at_] at np; cases np
  have pw : p ≠ wl := fun z => hw (z ▸ np)
  have pH : H p = none := none_of r.sm np
  have pa : ∀ a ∈ as, a ≠ p := fun a m z => by
    subst z
    have : ∀ {as : List Addr} {S : List (List It)}, Sts K G as S → a ∈ as → G a ≠ none := fun {as S} h => by
      induction h with
      | nil => exact fun m => absurd m List.not_mem_nil
      | cons x _ ih =>
        intro m
        rcases List.mem_cons.mp m with rfl | m
        · obtain ⟨xs, h, _⟩ := x; rw [h]; simp
        · exact ih m
    exact this r.sts m np
  refine ⟨by rw [g.at_, List.map_append]; rfl, ?_, fun a m => ?_, ?_, r.n0, fun c o h => ?_⟩
  · refine Sts.snoc (r.sts.keep ((SameT.of e1).trans g.same) fun a m o h => g.keep _ _ (r.new a m).2.1 (e1 _ _ h)) ⟨[], g.keep _ _ pL h1, .nil⟩
  · rcases List.mem_append.mp m with h | h
    · exact r.new a h
    · rw [List.mem_singleton.mp h]
      exact ⟨pH, pL, pw⟩
  · exact List.nodup_append.mpr ⟨r.nd, by simp, fun a ha b hb => by rw [List.mem_singleton.mp hb]; exact pa a ha⟩
  · exact g.keep _ _ (ne_of_none h r.n0) (e1 _ _ (r.sm _ _ h))
/-- a value more at the end of the last list -/
theorem Rep.add {K : PySem.W.Frag} {H G G2 : Hp} {LL wl a : Addr} {R : List (List It)} {top : List It} {bs : List Addr} {xs : List V} {x : V} {it : It} (r : Rep K H G LL wl (R ++ [top]) (bs ++ [a])) (hR : Sts K G bs R) (ht : Row K G xs top) (hx : ItR K G x it) (g : Grown a (xs ++ [x]) G G2) : Rep K H G2 LL wl (R ++ [top ++ [it]]) (bs ++ [a]) := by
  obtain ⟨aH, aL, aw⟩ := r.new a (List.mem_append_right _ (List.mem_singleton.mpr rfl))
  have nb : ∀ b ∈ bs, b ≠ a := fun b hb => (List.nodup_append.mp r.nd).2.2 b hb a (List.mem_singleton.mpr rfl)
  refine ⟨g.keep _ _ (fun z => aL z.symm) r.at_, ?_, r.new, r.nd, r.n0, fun c o h => g.keep _ _ (ne_of_none h aH) (r.sm _ _ h)⟩
  exact Sts.snoc (hR.keep g.same fun b m o h => g.keep _ _ (nb b m) h) ⟨_, g.at_, (ht.snoc hx).sameT g.same⟩
end RK17


namespace RK17
open PySem PySem.Spec L2 RK RZ StX PyProof.Rows
open CwR
theorem Rep.same {K : PySem.W.Frag} {H G G2 : Hp} {LL wl : Addr} {S : List (List It)} {as : List Addr} (r : Rep K H G LL wl S as) (e : Same G G2) : Rep K H G2 LL wl S as := ⟨e _ _ r.at_, r.sts.keep (SameT.of e) fun _ _ _ h => e _ _ h, r.new, r.nd, r.n0, r.sm.trans e⟩
/-- a list less -/
theorem Rep.pop {K : PySem.W.Frag} {H G G2 : Hp} {LL wl a : Addr} {S : List (List It)} {is : List It} {bs : List Addr} {xs : List V} (r : Rep K H G LL wl (S ++ [is]) (bs ++ [a])) (hs : Sts K G bs S) (hx : G a = some (.lst xs)) (hr : Row K G xs is) (g : Grown LL (bs.map V.ref) G G2) : Rep K H G2 LL wl S bs ∧ G2 a = some (.lst xs) ∧ Row K G2 xs is := by
  obtain ⟨aH, aL, aw⟩ := r.new a (List.mem_append_right _ (List.mem_singleton.mpr rfl))
  have new : ∀ b ∈ bs, H b = none ∧ b ≠ LL ∧ b ≠ wl := fun b hb => r.new b (List.mem_append_left _ hb)
  exact ⟨⟨g.at_, hs.keep g.same fun b m o h => g.keep _ _ (new b m).2.1 h, new, (List.nodup_append.mp r.nd).1, r.n0, fun c o h => g.keep _ _ (ne_of_none h r.n0) (r.sm _ _ h)⟩, g.keep _ _ aL hx, hr.sameT g.same⟩
theorem row_kids {K : PySem.W.Frag} {G : Hp} : ∀ {ys : List V} {fs : List Fm}, Row K G ys (fs.map It.f) → DpAll K G ys (fs.map Fm.d)
  | _, [], h => by cases h; exact .nil
  | _, f :: fs, h => by
    cases h with
    | cons a t => exact .cons a (row_kids t)
theorem row_closed {K : PySem.W.Frag} {G : Hp} {xs : List V} {g : Fm} (h : Row K G xs (items g)) : (∃ x y u, g = .over x y u ∧ xs = [.str "over", .str (mk x.t), .str (mk y.t), .str (mk (amT u))]) ∨ (g.Inner ∧ ∃ ys, xs = .str g.word :: ys ∧ DpAll K G ys (g.kids.map Fm.d)) := by
  rcases g.cases_ with ⟨x, y, u, rfl⟩ | gi
  · refine .inl ⟨x, y, u, rfl, ?_⟩
    cases h with
    | cons a1 t =>
      cases t with
      | cons a2 t =>
        cases t with
        | cons a3 t =>
          cases t with
          | cons a4 t =>
            cases t
            rw [a1, a2, a3, a4, mk_tl]
  · rw [items_in gi] at h
    cases h with
    | cons a t => exact .inr ⟨gi, _, by rw [a, mk_tl], row_kids t⟩
theorem rn_take {ks : List Tk} {S : List (List It)} {i : Nat} {k : Tk} (h : ks[i]? = some k) : rn S (ks.take (i + 1)) = step (rn S (ks.take i)) k := by
  rw [List.take_succ, h]
  exact rn_app S _ _
theorem grown_lst {LL : Addr} {xs zs : List V} {G : Hp} (h : G LL = some (.lst xs)) : Grown LL zs G (upd G LL (.lst zs)) := ⟨upd_same, fun c o hc e => by rw [upd_ne hc]; exact e, SameT.upd h⟩
theorem body_len : ∀ f : Fm, (body f).length ≤ 8 * 4 ^ f.ht
  | .over x y u => by
    show 5 ≤ 8 * 4 ^ 0
    decide
  | .no f => by
    have h1 := body_len f
    have p := Nat.pow_pos (n := f.ht) (show 0 < 4 by decide)
    show (Tk.op :: Tk.wd (TL.tl "not") :: (body f ++ [Tk.cl f])).length ≤ 8 * 4 ^ (f.ht + 1)
    simp only [List.length_append, List.length_cons, List.length_nil, Nat.pow_succ]
    omega
  | .bi w f g => by
    have h1 := body_len f
    have h2 := body_len g
    have m1 : 4 ^ f.ht ≤ 4 ^ max f.ht g.ht := Nat.pow_le_pow_right (by decide) (Nat.le_max_left _ _)
    have m2 : 4 ^ g.ht ≤ 4 ^ max f.ht g.ht := Nat.pow_le_pow_right (by decide) (Nat.le_max_right _ _)
    have p := Nat.pow_pos (n := max f.ht g.ht) (show 0 < 4 by decide)
    show (Tk.op :: Tk.wd _ :: ((body f ++ [Tk.cl f]) ++ (body g ++ [Tk.cl g]))).length ≤ 8 * 4 ^ (max f.ht g.ht + 1)
    simp only [List.length_append, List.length_cons, List.length_nil, Nat.pow_succ]
    omega
  | .tri f g h => by
    have h1 := body_len f
    have h2 := body_len g
    have h3 := body_len h
    have m1 : 4 ^ f.ht ≤ 4 ^ max f.ht (max g.ht h.ht) := Nat.pow_le_pow_right (by decide) (by omega)
    have m2 : 4 ^ g.ht ≤ 4 ^ max f.ht (max g.ht h.ht) := Nat.pow_le_pow_right (by decide) (by omega)
    have m3 : 4 ^ h.ht ≤ 4 ^ max f.ht (max g.ht h.ht) := Nat.pow_le_pow_right (by decide) (by omega)
    have p := Nat.pow_pos (n := max f.ht (max g.ht h.ht)) (show 0 < 4 by decide)
    show (Tk.op :: Tk.wd _ :: ((body f ++ [Tk.cl f]) ++ ((body g ++ [Tk.cl g]) ++ (body h ++ [Tk.cl h])))).length ≤ 8 * 4 ^ (max f.ht (max g.ht h.ht) + 1)
    simp only [List.length_append, List.length_cons, List.length_nil, Nat.pow_succ]
    omega
structure Few (S : List (List It)) (n : Nat) : Prop where
  len : S.length ≤ n
  all : ∀ is ∈ S, is.length ≤ n
theorem last_few {S : List (List It)} {n : Nat} (h : Few S n) : (S.getLastD []).length ≤ n := by
  cases e : S.getLast? with
  | none =>
    have : S = [] := List.getLast?_eq_none_iff.mp e
    subst this
    exact Nat.zero_le _
  | some x =>
    have : S.getLastD [] = x := by rw [List.getLastD_eq_getLast?, e]; rfl
    rw [this]
    exact h.all x (List.mem_of_getLast? e)
theorem drop_few {S : List (List It)} {n : Nat} (h : Few S n) : Few S.dropLast n := ⟨by rw [List.length_dropLast]; have := h.len; omega, fun is m => h.all is ((List.dropLast_sublist S).mem m)⟩
theorem snoc_few {S : List (List It)} {is : List It} {n : Nat} (h : Few S n) (l : is.length ≤ n + 1) : Few (S ++ [is]) (n + 1) := ⟨by rw [List.length_append]; have := h.len; show S.length + 1 ≤ _; omega, fun x m => by
  rcases List.mem_append.mp m with m | m
  · exact Nat.le_succ_of_le (h.all x m)
  · rw [List.mem_singleton.mp m]; exact l⟩
theorem step_few {S : List (List It)} {n : Nat} (h : Few S n) (k : Tk) : Few (step S k) (n + 1) := by
  cases k with
  | op => exact snoc_few h (Nat.zero_le _)
  | wd t => exact snoc_few (drop_few h) (by rw [List.length_append]; have := last_few h; show _ + 1 ≤ _; omega)
  | cl g => exact snoc_few (drop_few (drop_few h)) (by rw [List.length_append]; have := last_few (drop_few h); show _ + 1 ≤ _; omega)
theorem rn_few : ∀ (ks : List Tk) {S : List (List It)} {n : Nat}, Few S n → Few (rn S ks) (n + ks.length)
  | [], _, _, h => h
  | k :: r, S, n, h => by
    have := rn_few r (step_few h k)
    rw [List.length_cons, show n + (r.length + 1) = n + 1 + r.length by omega]
    exact this
theorem w_app2 {H : Hp} {Q : VK} {l : Addr} {xs : List V} {y : V} (h : H l = some (.lst xs)) (hl : xs.length ≤ 100000) (k : ∀ H', Grown l (xs ++ [y]) H H' → Q .non H') : rAppend (.ref l) [y] H Q :=
  ⟨l, xs, y, rfl, rfl, h, Nat.lt_of_le_of_lt hl (by decide), k _ ⟨upd_same, fun c o hc e => by rw [upd_ne hc]; exact e, SameT.upd h⟩⟩
section
variable {P : Program} {w : World} {K : PySem.W.Frag} {mg : Str → Option Value} {base : Heap} {a : Ad}
def spFormIn (K : PySem.W.Frag) : Sp := fun vs H Q _ => ∃ f : Fm, vs = [.str (mk f.t)] ∧ f.Ok ∧ f.ht ≤ 4 ∧ ∀ v H', Same H H' → Dp K H' v f.d → Q v H'
theorem ok_wish_form_in (T : Txt K mg a) : FnOk P w K mg base CX0 10 a.f_wish_form_in a.d_wish_form_in ["text"] (spFormIn K) := by
  refine funT T.F_wish_form_in sc_wish_form_in (by decide +kernel) (by decide) (fun vs H Q E h => ?_) (fun cdv A outer s H vs Q E hr h => ?_)
  · obtain ⟨f, rfl, _⟩ := h
    rfl
  · obtain ⟨f, rfl, ok, h4, k⟩ := h
    refine ⟨_, (psst_cons (PST.of (ps_set (i := 1) sc_wish_form_in.nd rfl (Or.inl rfl) (pe_lst pa_nil)))
      (psst_cons (pst_for PassesOwn.never rfl (pit_list (pet_m1 PySem.F.slot_str_split PySem.F.type_str_split mt_split (CwR.pet_replT (CwR.pet_replC (pv 0))) pe_str)) (pg_name (i := 2) sc_wish_form_in.nd rfl (Or.inl rfl)) (pss_one (ps_if (pt_cmpR op_eq (pv 2) pe_str (nomark _)) (pss_one (ps_expr (pe_bm PySem.F.plainAttrs_list PySem.F.slot_list_append PySem.F.type_list_append mt_append (pv 1) (pa_cons (pe_lst pa_nil) pa_nil)))) (pss_one (ps_if (pt_not (pt_truth (pv 1) (fun _ => rfl))) (pss_one (ps_ret pe_non)) (pss_one (ps_if (pt_cmpR op_eq (pv 2) pe_str (nomark _)) (pss_cons (ps_set (i := 3) sc_wish_form_in.nd rfl (Or.inl rfl) (pe_call (ok_closed T) (hr.mono (by decide)) (by rfl) T.m_closed T.F_closed.kp T.b_closed .nil pass0 (pa_cons (pe_bm0 PySem.F.plainAttrs_list PySem.F.slot_list_pop PySem.F.type_list_pop mt_pop (pv 1)) pa_nil)))
      (pss_cons (ps_if (pt_not (pt_truth (pv 1) (fun _ => rfl))) (pss_one (ps_ret (pv 3))) pss_nil)
      (pss_one (ps_expr (pe_bm PySem.F.plainAttrs_list PySem.F.slot_list_append PySem.F.type_list_append mt_append (pe_ix ix_list (pv 1) (pe_un un_neg pe_int) (fun _ _ => rfl)) (pa_cons (pv 3) pa_nil)))))) (pss_one (ps_expr (pe_bm PySem.F.plainAttrs_list PySem.F.slot_list_append PySem.F.type_list_append mt_append (pe_ix ix_list (pv 1) (pe_un un_neg pe_int) (fun _ _ => rfl)) (pa_cons (pv 2) pa_nil)))))))))))
      (psst_one (PST.of (ps_ret pe_non))))), ?_⟩
    have eσ : ∀ N : List Str, N.length = 4 → L2.start N [V.str (mk f.t)] = [some (V.str (mk f.t)), none, none, none] := fun N hN => by unfold L2.start; rw [hN]; rfl
    rw [eσ _ (by rfl)]
    walk_at "r"
    refine w_newL (by show 0 ≤ 100000; decide) fun LL H1 nL eL hL => ?_
    walk_at "r"
    refine w_m1 ?_
    unfold CwR.tReplC
    walk_at "r"
    have fl : (mk f.t).length ≤ 20000 := by rw [mk_len]; exact fm_len4 ok h4
    have l1 := TK.replace_len (mk f.t) "(" "( "
    have l2 := TK.replace_len (Txt.replace (mk f.t) "(" "( ") ")" " )"
    have z2 : ("( " : Str).length = 2 := by decide +kernel
    have z3 : (" )" : Str).length = 2 := by decide +kernel
    rw [z2] at l1
    rw [z3] at l2
    refine ⟨mk f.t, rfl, by rw [z2]; omega, _, rfl, by rw [z3]; omega, ⟨_, rfl⟩, ?_⟩
    walk_at "r"
    refine ⟨_, " ", rfl, rfl, rfl, Nat.le_trans (show _ ≤ 200000 by omega) (by decide), fun wl nw => ?_⟩
    rw [read_words ok]
    have e2 := w_new (o := .lst (((toks f).map mk).map V.str)) nw
    have hw : upd H1 wl (.lst (((toks f).map mk).map V.str)) wl = some (.lst (((toks f).map mk).map V.str)) := upd_same
    generalize upd H1 wl (.lst (((toks f).map mk).map V.str)) = H2 at *
    have e12 := eL.trans e2
    have LLw : LL ≠ wl := fun z => by rw [← z, hL] at nw; cases nw
    obtain ⟨okr, run⟩ := body_run f ok []
    have tl : (((toks f).map mk).map V.str).length = (body f).length + 1 := by
      unfold toks
      simp
    have rep0 : Rep K H H2 LL wl (rn [] ((body f).take 0)) [] := ⟨e2 _ _ hL, .nil, fun a h => absurd h List.not_mem_nil, List.nodup_nil, nL, e12⟩
    refine ⟨wl, rfl, ⟨_, SqL.of hw⟩, for_leaf (walk_list (xs := ((toks f).map mk).map V.str)) (fun i σ' G => i ≤ (body f).length ∧ (∃ as, Rep K H G LL wl (rn [] ((body f).take i)) as) ∧ G wl = some (.lst (((toks f).map mk).map V.str)) ∧ ∃ v2 v3, σ' = [some (.str (mk f.t)), some (.ref LL), v2, v3]) ⟨Nat.zero_le _, ⟨[], rep0⟩, hw, none, none, rfl⟩ (fun i σ' G _ ⟨_, _, h, _⟩ => SqL.of h) ?_ ?_⟩
    · rintro i y σ' G G2 hi ⟨ib, ⟨as, rp⟩, gw, v2, v3, rfl⟩ ⟨rfl, hy⟩
      obtain ⟨kt, hk, rfl⟩ : ∃ kt : Tk, (body f ++ [Tk.cl f])[i]? = some kt ∧ y = .str (mk kt.t) := by
        unfold toks at hy
        rw [List.map_map, List.map_map, List.getElem?_map] at hy
        obtain ⟨kt, h1, h2⟩ := Option.map_eq_some_iff.mp hy
        exact ⟨kt, h1, h2.symm⟩
      have gwn : G2 wl ≠ none := by rw [gw]; simp
      by_cases lt : i < (body f).length
      · have hb : (body f)[i]? = some kt := by rw [List.getElem?_append_left lt] at hk; exact hk
        have good := okRun_at okr hb
        have nx := rn_take (S := []) hb
        have few : Few (rn [] ((body f).take i)) 2048 := by
          have h1 := rn_few ((body f).take i) (S := []) (n := 0) ⟨Nat.le_refl _, fun is m => absurd m List.not_mem_nil⟩
          have h2 : 0 + ((body f).take i).length ≤ 2048 := by
            rw [List.length_take]
            have := body_len f
            have := Nat.pow_le_pow_right (n := 4) (by decide) h4
            omega
          exact ⟨Nat.le_trans h1.len h2, fun is m => Nat.le_trans (h1.all is m) h2⟩
        have len := rp.sts.len
        walk_at "r"
        cases kt with
        | op =>
          rw [if_pos (by rfl)]
          walk_at "r"
          refine ⟨.inl ⟨rfl, _, .inl (.inl rp.at_)⟩, ?_⟩
          walk_at "r"
          refine w_newL (by show 0 ≤ 100000; decide) fun p G3 np e3 h3 => ?_
          walk_at "r"
          refine w_app2 (e3 _ _ rp.at_) (by rw [List.length_map, len]; have := few.len; omega) fun G4 g4 => ?_
          have pw : wl ≠ LL := fun z => LLw z.symm
          have rp2 := rp.op np e3 h3 g4 gwn
          rw [← show rn [] ((body f).take (i + 1)) = rn [] ((body f).take i) ++ [[]] from nx] at rp2
          exact ⟨lt, ⟨_, rp2⟩, g4.keep _ _ pw (e3 _ _ gw), _, _, rfl⟩
        | wd t =>
          obtain ⟨⟨R, top, eS⟩, n40, n41⟩ := good
          have ne1 : ¬ V.str (mk t) = V.str "(" := fun z => n40 (by have := congrArg TL.tl (V.str.inj z); rw [tl_mk] at this; rw [this]; rfl)
          have ne2 : ¬ V.str (mk t) = V.str ")" := fun z => n41 (by have := congrArg TL.tl (V.str.inj z); rw [tl_mk] at this; rw [this]; rfl)
          rw [eS] at rp few nx
          obtain ⟨bs, aa, rfl, hbs, xs, hx, hrow⟩ := rp.sts.split
          rw [if_neg (by rw [decide_eq_false (show ¬ V.str (mk (Tk.wd t).t) = V.str "(" from ne1)]; decide)]
          walk_at "r"
          refine ⟨true, .inl ⟨_, SqL.of rp.at_, by rw [List.map_append]; simp⟩, ?_⟩
          dsimp only
          rw [if_neg (by decide)]
          walk_at "r"
          rw [if_neg (by rw [decide_eq_false (show ¬ V.str (mk (Tk.wd t).t) = V.str ")" from ne2)]; decide)]
          walk_at "r"
          have aa_at : atI ((bs ++ [aa]).map V.ref) (-1) = some (V.ref aa) := by rw [List.map_append]; exact at_last _ _
          refine ⟨LL, _, _, .ref aa, rfl, rfl, SqL.of rp.at_, aa_at, ?_⟩
          refine ⟨.inl ⟨rfl, _, .inl (.inl hx)⟩, ?_⟩
          walk_at "r"
          have xl := hrow.len
          have tl2 := few.all top (List.mem_append_right _ (List.mem_singleton.mpr rfl))
          refine w_app2 hx (by omega) fun G4 g4 => ?_
          have rp2 := rp.add (it := .w t) hbs hrow rfl g4
          rw [← step_wd, ← nx] at rp2
          exact ⟨lt, ⟨_, rp2⟩, g4.keep _ _ (fun z => (rp.new aa (List.mem_append_right _ (List.mem_singleton.mpr rfl))).2.2 z.symm) gw, _, _, rfl⟩
        | cl g =>
          obtain ⟨gok, R, top, eS⟩ := good
          rw [show R ++ [top, items g] = (R ++ [top]) ++ [items g] from by simp] at eS
          rw [eS] at rp few nx
          obtain ⟨cs, ca, rfl, hcs, xs, hx, hrow⟩ := rp.sts.split
          rw [if_neg (by rw [show (Tk.cl g).t = [41] from rfl]; decide +kernel)]
          walk_at "r"
          refine ⟨true, .inl ⟨_, SqL.of rp.at_, by rw [List.map_append]; simp⟩, ?_⟩
          dsimp only
          rw [if_neg (by decide)]
          walk_at "r"
          rw [if_pos (by rfl)]
          walk_at "r"
          refine ⟨_, rfl, .inl ⟨rfl, _, .inl (.inl rp.at_)⟩, LL, _, .ref ca, rfl, rfl, rp.at_, by simp, ?_⟩
          rw [show ((cs ++ [ca]).map V.ref).dropLast = cs.map V.ref from by rw [List.map_append]; simp]
          have g3 := grown_lst (zs := cs.map V.ref) rp.at_
          obtain ⟨rp3, hx3, row3⟩ := rp.pop hcs hx hrow g3
          have gw3 := g3.keep _ _ (fun z => LLw z.symm) gw
          generalize upd G2 LL (.lst (cs.map V.ref)) = G3 at *
          walk_at "r"
          refine ⟨ca, g, rfl, gok, ?_, fun v G4 e4 d4 => ?_⟩
          · rcases row_closed row3 with ⟨x, y, u, h1, h2⟩ | ⟨gi, ys, h1, h2⟩
            · exact .inl ⟨x, y, u, h1, by rw [← h2]; exact hx3⟩
            · exact .inr ⟨gi, ys, by rw [← h1]; exact hx3, h2⟩
          have rp4 := rp3.same e4
          have gw4 := e4 _ _ gw3
          walk_at "r"
          obtain ⟨bs, aa, rfl, hbs, ys, hy4, yrow⟩ := rp4.sts.split
          refine ⟨true, .inl ⟨_, SqL.of rp4.at_, by rw [List.map_append]; simp⟩, ?_⟩
          dsimp only
          rw [if_neg (by decide)]
          walk_at "r"
          have aa_at : atI ((bs ++ [aa]).map V.ref) (-1) = some (V.ref aa) := by rw [List.map_append]; exact at_last _ _
          refine ⟨LL, _, _, .ref aa, rfl, rfl, SqL.of rp4.at_, aa_at, ?_⟩
          refine ⟨.inl ⟨rfl, _, .inl (.inl hy4)⟩, ?_⟩
          walk_at "r"
          have xl := yrow.len
          have tl2 := few.all top (by simp)
          refine w_app2 hy4 (by omega) fun G5 g5 => ?_
          have rp5 := rp4.add (it := .f g) hbs yrow d4 g5
          rw [← step_cl R top (items g), ← nx] at rp5
          exact ⟨lt, ⟨_, rp5⟩, g5.keep _ _ (fun z => (rp4.new aa (List.mem_append_right _ (List.mem_singleton.mpr rfl))).2.2 z.symm) gw4, _, _, rfl⟩
      · have ie : i = (body f).length := by omega
        subst ie
        have ek : kt = .cl f := by
          rw [List.getElem?_append_right (Nat.le_refl _), Nat.sub_self] at hk
          cases hk
          rfl
        subst ek
        rw [List.take_length, show rn [] (body f) = [] ++ [items f] from run] at rp
        walk_at "r"
        obtain ⟨cs, ca, rfl, hcs, xs, hx, hrow⟩ := rp.sts.split
        rw [if_neg (by rw [show (Tk.cl f).t = [41] from rfl]; decide +kernel)]
        walk_at "r"
        refine ⟨true, .inl ⟨_, SqL.of rp.at_, by rw [List.map_append]; simp⟩, ?_⟩
        dsimp only
        rw [if_neg (by decide)]
        walk_at "r"
        rw [if_pos (by rfl)]
        walk_at "r"
        refine ⟨_, rfl, .inl ⟨rfl, _, .inl (.inl rp.at_)⟩, LL, _, .ref ca, rfl, rfl, rp.at_, by simp, ?_⟩
        rw [show ((cs ++ [ca]).map V.ref).dropLast = cs.map V.ref from by rw [List.map_append]; simp]
        have g3 := grown_lst (zs := cs.map V.ref) rp.at_
        obtain ⟨rp3, hx3, row3⟩ := rp.pop hcs hx hrow g3
        have gw3 := g3.keep _ _ (fun z => LLw z.symm) gw
        generalize upd G2 LL (.lst (cs.map V.ref)) = G3 at *
        walk_at "r"
        refine ⟨ca, f, rfl, ok, ?_, fun v G4 e4 d4 => ?_⟩
        · rcases row_closed row3 with ⟨x, y, u, h1, h2⟩ | ⟨gi, ys, h1, h2⟩
          · exact .inl ⟨x, y, u, h1, by rw [← h2]; exact hx3⟩
          · exact .inr ⟨gi, ys, by rw [← h1]; exact hx3, h2⟩
        have rp4 := rp3.same e4
        have gw4 := e4 _ _ gw3
        walk_at "r"
        have c0 : cs = [] := by
          cases hcs
          rfl
        subst c0
        refine ⟨false, .inl ⟨_, SqL.of rp4.at_, rfl⟩, ?_⟩
        dsimp only
        rw [if_pos (by decide)]
        walk_at "r"
        exact k _ _ rp4.sm d4
    · rintro σ' G ⟨ib, _⟩
      omega
end
end RK17


namespace RK17
open PySem PySem.Spec L2 RK RZ StX PyProof.Rows
/-! ### wishes -/
theorem strOk_of {s : Str} (h : ∀ c ∈ s.cps.toList, c < 1114112) : PyData.strOk s = true := by
  unfold PyData.strOk
  rw [← Array.all_toList, List.all_eq_true]
  exact fun c hc => decide_eq_true (h c hc)
theorem strOk_word {s : Str} (h : Word s) : PyData.strOk s = true := strOk_of fun c hc => by have := (h.2.2 c hc).2; omega
theorem strOk_sg {c : Nat} (h : c ≤ 122) : PyData.strOk (sg c) = true := strOk_of fun d hd => by
  have : d = c := List.mem_singleton.mp hd
  omega
theorem lay_mo (m : Mo) : m.d.canLay0 = true ∧ m.d.depth = 0 := by
  cases m with
  | num n => exact ⟨by simp [Mo.d, PyData.canLay0], by simp [Mo.d, PyData.depth]⟩
  | last => exact ⟨by decide +kernel, by simp [Mo.d, PyData.depth]⟩
theorem k_floor : PyData.strOk "floor" = true ∧ PyData.strOk "length" = true ∧ PyData.strOk "part" = true ∧ PyData.strOk "hook" = true ∧ PyData.strOk "over" = true ∧ PyData.strOk "not" = true ∧ PyData.strOk "if" = true ∧ PyData.strOk "and" = true ∧ PyData.strOk "or" = true := by decide +kernel
theorem lay_lv {x : Lv} (ok : x.Ok) : x.d.canLay0 = true ∧ x.d.depth ≤ 1 := by
  obtain ⟨k1, k2, k3, k4, _⟩ := k_floor
  cases x with
  | floor => exact ⟨by simp [Lv.d, PyData.canLay0, PyData.canLayAll0, k1], by simp [Lv.d, PyData.depth, PyData.depthAll]⟩
  | len c => exact ⟨by simp [Lv.d, PyData.canLay0, PyData.canLayAll0, k2, strOk_sg ok.2], by simp [Lv.d, PyData.depth, PyData.depthAll]⟩
  | part s m =>
    obtain ⟨m1, m2⟩ := lay_mo m
    exact ⟨by simp [Lv.d, PyData.canLay0, PyData.canLayAll0, k3, strOk_word ok.1, m1], by simp [Lv.d, PyData.depth, PyData.depthAll, m2]⟩
  | hook c m =>
    obtain ⟨m1, m2⟩ := lay_mo m
    exact ⟨by simp [Lv.d, PyData.canLay0, PyData.canLayAll0, k4, strOk_sg (c := c) (by have := ok.1.2; omega), m1], by simp [Lv.d, PyData.depth, PyData.depthAll, m2]⟩
theorem lay_am (u : Int × Int) : (amD u).canLay0 = true ∧ (amD u).depth ≤ 1 := by
  unfold amD
  split
  · exact ⟨by simp [PyData.canLay0], by simp [PyData.depth]⟩
  · exact ⟨by simp [PyData.canLay0, PyData.canLayAll0], by simp [PyData.depth, PyData.depthAll]⟩
theorem lay_fm : ∀ f : Fm, f.Ok → f.d.canLay0 = true ∧ f.d.depth ≤ f.ht + 2
  | .over x y u, ok => by
    obtain ⟨_, _, _, _, k5, _⟩ := k_floor
    obtain ⟨a1, a2⟩ := lay_lv ok.1
    obtain ⟨b1, b2⟩ := lay_lv ok.2.1
    obtain ⟨c1, c2⟩ := lay_am u
    refine ⟨by simp [Fm.d, PyData.canLay0, PyData.canLayAll0, k5, a1, b1, c1], ?_⟩
    simp [Fm.d, PyData.depth, PyData.depthAll, Fm.ht]
    omega
  | .no f, ok => by
    obtain ⟨_, _, _, _, _, k6, _⟩ := k_floor
    obtain ⟨a1, a2⟩ := lay_fm f ok
    refine ⟨by simp [Fm.d, PyData.canLay0, PyData.canLayAll0, k6, a1], ?_⟩
    simp [Fm.d, PyData.depth, PyData.depthAll, Fm.ht]
    omega
  | .bi w f g, ok => by
    obtain ⟨_, _, _, _, _, _, k7, k8, _⟩ := k_floor
    obtain ⟨a1, a2⟩ := lay_fm f ok.1
    obtain ⟨b1, b2⟩ := lay_fm g ok.2
    refine ⟨by cases w <;> simp [Fm.d, PyData.canLay0, PyData.canLayAll0, k7, k8, a1, b1], ?_⟩
    simp [Fm.d, PyData.depth, PyData.depthAll, Fm.ht]
    omega
  | .tri f g h, ok => by
    obtain ⟨_, _, _, _, _, _, _, _, k9⟩ := k_floor
    obtain ⟨a1, a2⟩ := lay_fm f ok.1
    obtain ⟨b1, b2⟩ := lay_fm g ok.2.1
    obtain ⟨c1, c2⟩ := lay_fm h ok.2.2
    refine ⟨by simp [Fm.d, PyData.canLay0, PyData.canLayAll0, k9, a1, b1, c1], ?_⟩
    simp [Fm.d, PyData.depth, PyData.depthAll, Fm.ht]
    omega
/-- a wish that may be one -/
structure FmG (f : Fm) : Prop where
  ok : f.Ok
  ht : f.ht ≤ 4
  ov : f.ov ≤ 8
theorem FmG.sh {f : Fm} (g : FmG f) : SeqAt.shaped f.d = true := by
  obtain ⟨h1, h2⟩ := lay_fm f g.ok
  have := g.ht
  unfold SeqAt.shaped
  rw [h1]
  exact decide_eq_true (by omega)
theorem FmG.refl {f : Fm} (g : FmG f) : PyData.eqv f.d f.d = true := SeqAt.eqv_refl _ (lay_fm f g.ok).1
/-- a wish stands at p -/
def Wsh (K : PySem.W.Frag) (C : Addr) (H : Hp) (p : Addr) (f : Fm) : Prop := ∃ dx t, H p = some (.ins C dx [(("form" : Str), .ref t)]) ∧ Dp K H (.ref t) f.d ∧ FmG f
theorem Wsh.same {K : PySem.W.Frag} {C : Addr} {H H' : Hp} {p : Addr} {f : Fm} (r : Wsh K C H p f) (e : Same H H') : Wsh K C H' p f := let ⟨dx, t, h1, h2, h3⟩ := r; ⟨dx, t, e _ _ h1, Dp.same e _ h2, h3⟩
theorem Wsh.sameT {K : PySem.W.Frag} {C : Addr} {H H' : Hp} {p : Addr} {f : Fm} (r : Wsh K C H p f) (e : SameT H H') : Wsh K C H' p f := let ⟨dx, t, h1, h2, h3⟩ := r; ⟨dx, t, e.ins h1, Dp.sameT e _ (noL_fm f) h2, h3⟩
section
variable {P : Program} {w : World} {K : PySem.W.Frag} {mg : Str → Option Value} {base : Heap} {a : Ad}
def spWinit (K : PySem.W.Frag) (C : Addr) : Sp := fun vs H Q _ => ∃ (p dx t : Addr) (f : Fm), vs = [.ref p, .ref t] ∧ H p = some (.ins C dx []) ∧ Dp K H (.ref t) f.d ∧ FmG f ∧ ∀ H', H' p = some (.ins C dx [(("form" : Str), .ref t)]) → (∀ c o, c ≠ p → H c = some o → H' c = some o) → Q .non H'
theorem ok_Wish_init (T : Txt K mg a) : FnOk P w K mg base CX0 15 a.f_Wish_init a.d_Wish_init ["self", "form"] (spWinit K a.C_Wish) := by
  refine T.F_Wish_init.ok sc_Wish_init (fun vs H Q E h => ?_) (fun cdv A outer s H vs Q E hr h => ?_)
  · obtain ⟨p, dx, t, f, rfl, _⟩ := h
    rfl
  · obtain ⟨p, dx, t, f, rfl, hp, dp, fg, k⟩ := h
    refine ⟨_, PSs.nox ((pss_cons (ps_if (pt_not (pt_val (pe_call (ok_is_wish_form T) (hr.mono (by decide)) (by rfl) T.m_is_wish_form T.F_is_wish_form.kp T.b_is_wish_form .nil pass0 (pa_cons (pv 1) pa_nil)))) (pss_one ps_never) pss_nil)
      (pss_one (ps_fld (pv 0) (pv 1) rfl)))), ?_⟩
    walk_at "r"
    refine ⟨.ref t, f, rfl, dp, fg.ok, fg.ht, fg.ov, fun H1 e1 => ?_⟩
    refine ⟨true, rfl, ?_⟩
    rw [if_neg (by decide)]
    walk_at "r"
    refine ⟨p, _, dx, _, rfl, e1 _ _ hp, T.cl_Wish, T.nW, by decide, ?_⟩
    exact k _ upd_same fun c o hc h => by rw [upd_ne hc]; exact e1 _ _ h
theorem mkW_leaf {C : Addr} {H : Hp} {Q : VK} {t : Addr} {f : Fm} (dp : Dp K H (.ref t) f.d) (g : FmG f) (k : ∀ p H', H p = none → Same H H' → Wsh K C H' p f → Q (.ref p) H') : MkL C (spWinit K C) E0 [.ref t] H Q := by
  intro p dx hp hdx hne
  have e0 : Same H (upd (upd H dx (.own p)) p (.ins C dx [])) := fun c o q => by
    rw [upd_ne (ne_of_none q hp), upd_ne (ne_of_none q hdx)]
    exact q
  refine ⟨p, dx, t, f, rfl, upd_same, Dp.same e0 _ dp, g, fun H' h kp => ⟨rfl, ?_⟩⟩
  have e1 : Same H H' := fun c o q => kp c o (ne_of_none q hp) (e0 _ _ q)
  exact k p H' hp e1 ⟨dx, t, h, Dp.same e1 _ dp, g⟩
theorem wf_leaf (T : Txt K mg a) {H : Hp} {Q : VK} {p : Addr} {f : Fm} (r : Wsh K a.C_Wish H p f) (k : ∀ t, Dp K H (.ref t) f.d → Q (.ref t) H) : Fl K "form" (.ref p) H Q := by
  obtain ⟨dx, t, h, dp, _⟩ := r
  exact ⟨p, _, dx, _, _, rfl, h, T.cl_Wish, T.nW, rfl, k t dp⟩
theorem wsh_ty (T : Txt K mg a) {H : Hp} {p : Addr} {f : Fm} (r : Wsh K a.C_Wish H p f) : TyX K H (.ref p) (.ref a.C_Wish) := by
  obtain ⟨dx, t, h, _⟩ := r
  exact .base (.ins h T.cl_Wish T.wA T.iN T.iT T.wM)
def spWeq (K : PySem.W.Frag) (C : Addr) : Sp := fun vs H Q _ => ∃ (p : Addr) (f : Fm) (y : V), vs = [.ref p, y] ∧ Wsh K C H p f ∧ ((∃ q g, y = .ref q ∧ Wsh K C H q g ∧ Q (.bl (PyData.eqv f.d g.d)) H) ∨ ∃ t xs, y = .ref t ∧ SqT K H t xs ∧ Q (.bl false) H)
theorem ok_Wish_eq (T : Txt K mg a) : FnOk P w K mg base CX0 1 a.f_Wish_eq a.d_Wish_eq ["self", "other"] (spWeq K a.C_Wish) := by
  refine T.F_Wish_eq.ok sc_Wish_eq (fun vs H Q E h => ?_) (fun cdv A outer s H vs Q E hr h => ?_)
  · obtain ⟨p, f, y, rfl, _⟩ := h
    rfl
  · obtain ⟨p, f, y, rfl, wp, h⟩ := h
    have fg := wp
    obtain ⟨_, _, _, _, fg⟩ := fg
    refine ⟨_, (pss_one (ps_ret (pe_and (pe_callB call_isi (by rfl) T.z_isinstance (by decide +kernel) (pa_cons (pv 1) (pa_cons (pe_glob (v := .ref a.C_Wish) rfl T.m_Wish rfl) pa_nil))) (pe_one (pe_cmpR (op_eqD hr.units) (pe_fld (pv 0) rfl) (pe_fld (pv 1) rfl) (nomark _)))))), ?_⟩
    walk_at "r"
    rcases h with ⟨q, g, rfl, wq, k⟩ | ⟨t, xs, rfl, ht, k⟩
    · have gg := wq
      obtain ⟨_, _, _, _, gg⟩ := gg
      refine ⟨.ref q, .ref a.C_Wish, .ref a.C_Wish, .ref a.C_Wish, true, rfl, .own _, wsh_ty T wq, T.wWW, true, rfl, iteT ?_⟩
      walk_at "r"
      refine wf_leaf T wp fun t1 d1 => ?_
      walk_at "r"
      refine wf_leaf T wq fun t2 d2 => ?_
      exact ⟨_, _, d1, d2, fg.sh, gg.sh, k⟩
    · exact ⟨.ref t, .ref a.C_Wish, .type "tuple", .ref a.C_Wish, false, rfl, .own _, tyT ht, T.wTW, false, rfl, iteF k⟩
def spWstr (K : PySem.W.Frag) (C : Addr) : Sp := fun vs H Q _ => ∃ (p : Addr) (f : Fm), vs = [.ref p] ∧ Wsh K C H p f ∧ ∀ H', Same H H' → Q (.str (mk f.t)) H'
theorem ok_Wish_str (T : Txt K mg a) : FnOk P w K mg base CX0 14 a.f_Wish_str a.d_Wish_str ["self"] (spWstr K a.C_Wish) := by
  refine T.F_Wish_str.ok sc_Wish_str (fun vs H Q E h => ?_) (fun cdv A outer s H vs Q E hr h => ?_)
  · obtain ⟨p, f, rfl, _⟩ := h
    rfl
  · obtain ⟨p, f, rfl, wp, k⟩ := h
    have fg := wp
    obtain ⟨_, _, _, _, fg⟩ := fg
    have ok_wish_text : ∀ T : Txt K mg a, FnOk P w K mg base CX0 11 a.f_wish_text a.d_wish_text ["form"] (spText K 5) := fun T => ok_textN T 5
    refine ⟨_, (pss_one (ps_ret (pe_callTy SkE.call_str_str (by rfl) T.z_str (by decide +kernel) (pa_cons (pe_call (ok_wish_text T) (hr.mono (by decide)) (by rfl) T.m_wish_text T.F_wish_text.kp T.b_wish_text .nil pass0 (pa_cons (pe_fld (pv 0) rfl) pa_nil)) pa_nil)))), ?_⟩
    walk_at "r"
    refine wf_leaf T wp fun t1 d1 => ?_
    walk_at "r"
    have h4 := fg.ht
    refine ⟨.ref t1, f, rfl, d1, fg.ok, by omega, fg.ht, fun H1 e1 => ?_⟩
    walk_at "r"
    exact ⟨_, rfl, k _ e1⟩
def spWread (K : PySem.W.Frag) (C : Addr) : Sp := fun vs H Q _ => ∃ (f : Fm), vs = [.str (mk f.t)] ∧ FmG f ∧ ∀ p H', H p = none → Same H H' → Wsh K C H' p f → Q (.ref p) H'
theorem ok_Wish_read (T : Txt K mg a) : FnOk P w K mg base CX0 18 a.f_Wish_read a.d_Wish_read ["text"] (spWread K a.C_Wish) := by
  refine T.F_Wish_read.ok sc_Wish_read (fun vs H Q E h => ?_) (fun cdv A outer s H vs Q E hr h => ?_)
  · obtain ⟨f, rfl, _⟩ := h
    rfl
  · obtain ⟨f, rfl, fg, k⟩ := h
    have ok_wish_text : ∀ T : Txt K mg a, FnOk P w K mg base CX0 11 a.f_wish_text a.d_wish_text ["form"] (spText K 5) := fun T => ok_textN T 5
    refine ⟨_, PSs.nox ((pss_cons (ps_set (i := 1) sc_Wish_read.nd rfl (Or.inl rfl) (pe_ifExp (pt_val (pe_callB call_isi (by rfl) T.z_isinstance (by decide +kernel) (pa_cons (pv 0) (pa_cons (pe_bltn (v := .ty "str") (by rfl) T.z_str (by decide +kernel) rfl) pa_nil)))) (pe_call (ok_wish_form_in T) (hr.mono (by decide)) (by rfl) T.m_wish_form_in T.F_wish_form_in.kp T.b_wish_form_in .nil pass0 (pa_cons (pv 0) pa_nil)) pe_non))
      (pss_cons (ps_if (PW.pt (pw_or (pt_not (pt_val (pe_call (ok_is_wish_form T) (hr.mono (by decide)) (by rfl) T.m_is_wish_form T.F_is_wish_form.kp T.b_is_wish_form .nil pass0 (pa_cons (pv 1) pa_nil)))) (pw_or1 (pt_cmpR op_ne (pe_call (ok_wish_text T) (hr.mono (by decide)) (by rfl) T.m_wish_text T.F_wish_text.kp T.b_wish_text .nil pass0 (pa_cons (pv 1) pa_nil)) (pv 0) (nomark _))))) (pss_one ps_never) pss_nil)
      (pss_one (ps_ret (pe_make T.mk_Wish (ok_Wish_init T) (hr.mono (by decide)) (by rfl) T.m_Wish T.b_Wish_init .nil pass0 (pa_cons (pv 1) pa_nil))))))), ?_⟩
    walk_at "r"
    refine w_tIf ?_
    walk_at "r"
    refine isS _ ?_
    refine ⟨true, rfl, iteT ?_⟩
    walk_at "r"
    refine ⟨f, rfl, fg.ok, fg.ht, fun v H1 e1 d1 => ?_⟩
    walk_at "r"
    refine ⟨v, f, rfl, d1, fg.ok, fg.ht, fg.ov, fun H2 e2 => ?_⟩
    refine ⟨true, rfl, ?_⟩
    rw [if_neg (by decide)]
    walk_at "r"
    have h4 := fg.ht
    refine ⟨v, f, rfl, Dp.same e2 _ d1, fg.ok, by omega, fg.ht, fun H3 e3 => ?_⟩
    walk_at "r"
    rw [if_neg (by simp)]
    walk_at "r"
    have e13 := (e1.trans e2).trans e3
    have d3 := Dp.same (e2.trans e3) _ d1
    obtain ⟨t, xs, rfl, _⟩ : ∃ t xs, v = .ref t ∧ SqT K H1 t xs := by
      cases f <;> (obtain ⟨t, xs, rfl, ht, _⟩ := dp_tup d1; exact ⟨t, xs, rfl, ht⟩)
    refine mkW_leaf d3 fg fun p H4 n4 e4 w4 => ?_
    exact k p H4 (none_of e13 n4) (e13.trans e4) w4
end
end RK17


namespace RK17
open PySem PySem.Spec L2 RK RZ StX PyProof.Rows
/-! ### drawn wishes -/
theorem mo_dp {K : PySem.W.Frag} {H : Hp} (m : Mo) : Dp K H m.v m.d := by
  cases m with
  | num n => exact .int _
  | last => exact .str _
section
variable {P : Program} {w : World} {K : PySem.W.Frag} {mg : Str → Option Value} {base : Heap} {a : Ad}
def spLevel (K : PySem.W.Frag) : Sp := fun vs H Q _ => ∃ (b t : Addr) (ps : List Str) (es : List Tie3) (hk : Str) (ls : List Ln3), vs = [.ref b, .ref t, .int 6] ∧ Bag H b ∧ Shp K H t ps es hk ls ∧ ∀ (v : V) (x : Lv) H', Kp b H H' → Dp K H' v x.d → x.Ok → Q v H'
theorem ok_level (T : Txt K mg a) : FnOk P w K mg base CX0 3 a.f_level a.d_level ["_law_bag_here", "_law_shape_here", "_law_far_when"] (spLevel K) := by
  refine T.F_level.ok sc_level (fun vs H Q E h => ?_) (fun cdv A outer s H vs Q E hr h => ?_)
  · obtain ⟨b, t, ps, es, hk, ls, rfl, _⟩ := h
    rfl
  · obtain ⟨b, t, ps, es, hk, ls, rfl, hb, sh, k⟩ := h
    refine ⟨_, (pss_cons (ps_par (i := 3) (j := 4) (by rfl) sc_level.nd rfl rfl (by decide) rfl rfl (pa_cons (pe_call (ok_draw T) (hr.mono (by decide)) (by rfl) T.m_draw T.F_draw.kp T.b_draw .nil pass0 (pa_cons (pv 0) (pa_cons pe_int pa_nil))) (pa_cons (pe_call (ok_one T) (hr.mono (by decide)) (by rfl) T.m_one T.F_one.kp T.b_one .nil pass0 (pa_cons (pv 0) (pa_cons (pe_lst (pa_cons pe_int (pa_cons (pv 2) (pa_cons (pe_call (ok_draw T) (hr.mono (by decide)) (by rfl) T.m_draw T.F_draw.kp T.b_draw .nil pass0 (pa_cons (pv 0) (pa_cons (pe_op op_add (pv 2) pe_int) pa_nil))) (pa_cons pe_str pa_nil))))) pa_nil))) pa_nil)) (by rfl))
      (pss_cons (ps_if (pt_cmpR op_lt (pv 3) pe_int (nomark _)) (pss_one (ps_ret (pe_tup (pa_cons pe_str (pa_cons (pe_call (ok_oneT T) (hr.mono (by decide)) (by rfl) T.m_one T.F_one.kp T.b_one .nil pass0 (pa_cons (pv 0) (pa_cons (pe_ix ix_tup (pv 1) pe_int (fun _ _ => rfl)) pa_nil))) (pa_cons (pv 4) pa_nil)))))) pss_nil)
      (pss_cons (ps_if (pt_cmpR op_lt (pv 3) pe_int (nomark _)) (pss_one (ps_ret (pe_tup (pa_cons pe_str (pa_cons (pe_call (ok_oneS T) (hr.mono (by decide)) (by rfl) T.m_one T.F_one.kp T.b_one .nil pass0 (pa_cons (pv 0) (pa_cons (pe_ix ix_tup (pv 1) pe_int (fun _ _ => rfl)) pa_nil))) (pa_cons (pv 4) pa_nil)))))) pss_nil)
      (pss_one (ps_ret (pe_ifExp (pt_cmpR op_eq (pv 3) pe_int (nomark _)) (pe_tup (pa_cons pe_str (pa_cons (pe_ix ix_tup (pe_call (ok_oneT T) (hr.mono (by decide)) (by rfl) T.m_one T.F_one.kp T.b_one .nil pass0 (pa_cons (pv 0) (pa_cons (pe_ix ix_tup (pv 1) pe_int (fun _ _ => rfl)) pa_nil))) pe_int (fun _ _ => rfl)) pa_nil))) (pe_tup (pa_cons pe_str pa_nil)))))))), ?_⟩
    walk_at "r"
    refine draw_leaf hb (by show (0 : Int) < 8; decide) (by show (8 : Int) ≤ 10 ^ 12; decide) fun way H1 w0 w1 k1 => ?_
    walk_at "r"
    refine draw_leaf k1.bag' (by show (0 : Int) < 6 + 1; decide) (by show (6 : Int) + 1 ≤ 10 ^ 12; decide) fun r H2 r0 r1 k2 => ?_
    walk_at "r"
    refine w_newL (by show 4 ≤ 100000; decide) fun l H3 n3 e3 h3 => ?_
    have k3 := (k1.trans k2).trans (.of k2.bag' e3)
    walk_at "r"
    refine one_leaf k3.bag' h3 (bag_ne k2.bag' n3) (by show 0 < 4; decide) (by show 4 < 1000; decide) fun v H4 hv k4 => ?_
    have k14 := k3.trans k4
    have sh4 := sh.kp (b := b) k14.sameT
    obtain ⟨m, mok, rfl⟩ : ∃ m : Mo, m.Ok ∧ v = m.v := by
      have : v = .int 0 ∨ v = .int 6 ∨ v = .int r ∨ v = .str "last" := by simpa using hv
      rcases this with rfl | rfl | rfl | rfl
      · exact ⟨.num 0, by show 0 ≤ 6; decide, rfl⟩
      · exact ⟨.num 6, by show 6 ≤ 6; decide, rfl⟩
      · obtain ⟨n, rfl⟩ := Int.eq_ofNat_of_zero_le r0
        exact ⟨.num n, by show n ≤ 6; omega, rfl⟩
      · exact ⟨.last, trivial, rfl⟩
    obtain ⟨tp, te, tl, a0, a1, a2, a3⟩ := sh4.at_
    have gp := sh4.good
    obtain ⟨wn, rfl⟩ := Int.eq_ofNat_of_zero_le w0
    walk_at "r"
    by_cases c1 : wn < 4
    · rw [if_pos (by exact decide_eq_true (by omega))]
      walk_at "r"
      refine ix0 a0 ?_
      walk_at "r"
      refine oneT_leaf k14.bag' a1 (by rw [List.length_map]; exact gp.parts.one) (by rw [List.length_map]; have := gp.parts.few; omega) fun v H5 hv k5 => ?_
      obtain ⟨p, mp, rfl⟩ := List.mem_map.mp hv
      walk_at "r"
      exact w_newT (by show 3 ≤ 100000; decide) fun u H6 n6 e6 h6 => k _ (.part p m) _ (k14.trans (k5.trans (.of k5.bag' e6))) (.tup (SqT.of h6) (.cons (.str _) (.cons (.str _) (.cons (mo_dp m) .nil)))) ⟨gp.parts.word p mp, mok⟩
    · rw [if_neg (by exact fun z => c1 (by have := of_decide_eq_true z; omega))]
      walk_at "r"
      by_cases c2 : wn < 6
      · rw [if_pos (by exact decide_eq_true (by omega))]
        walk_at "r"
        refine ix2 a0 ?_
        walk_at "r"
        refine oneS_leaf k14.bag' gp.caps.one (by have := gp.caps.few; omega) fun c H5 hc k5 => ?_
        walk_at "r"
        exact w_newT (by show 3 ≤ 100000; decide) fun u H6 n6 e6 h6 => k _ (.hook c m) _ (k14.trans (k5.trans (.of k5.bag' e6))) (.tup (SqT.of h6) (.cons (.str _) (.cons (.str _) (.cons (mo_dp m) .nil)))) ⟨gp.caps.cap c hc, mok⟩
      · rw [if_neg (by exact fun z => c2 (by have := of_decide_eq_true z; omega))]
        walk_at "r"
        refine w_tIf ?_
        walk_at "r"
        refine w_iteD (fun c3 => ?_) (fun c3 => ?_)
        · walk_at "r"
          refine ix3 a0 ?_
          walk_at "r"
          obtain ⟨as, b1, b2, b3⟩ := a3
          refine oneT_leaf k14.bag' b1 (by rw [List.length_map, b2, List.length_map]; exact gp.lns.one) (by rw [List.length_map, b2, List.length_map]; have := gp.lns.few; omega) fun v H5 hv k5 => ?_
          obtain ⟨i, hi⟩ := List.getElem?_of_mem hv
          obtain ⟨q, u, rfl, hu, hq⟩ := rows_at b2 b3 hi
          rw [List.getElem?_map] at hu
          obtain ⟨ln, hl, rfl⟩ := Option.map_eq_some_iff.mp hu
          obtain ⟨c, rc, c1, c2⟩ := gp.lns.let_ ln (List.mem_of_getElem? hl)
          walk_at "r"
          refine ix0 (k5.sqt hq) ?_
          walk_at "r"
          rw [rc]
          exact w_newT (by show 2 ≤ 100000; decide) fun u H6 n6 e6 h6 => k _ (.len c) _ (k14.trans (k5.trans (.of k5.bag' e6))) (.tup (SqT.of h6) (.cons (.str _) (.cons (.str _) .nil))) ⟨c1, c2⟩
        · walk_at "r"
          exact w_newT (by show 1 ≤ 100000; decide) fun u H6 n6 e6 h6 => k _ .floor _ (k14.trans (.of k14.bag' e6)) (.tup (SqT.of h6) (.cons (.str _) .nil)) trivial
def spMore (K : PySem.W.Frag) : Sp := fun vs H Q _ => ∃ (b : Addr), vs = [.ref b] ∧ Bag H b ∧ ∀ (v : V) (u : Int × Int) H', Kp b H H' → Dp K H' v (amD u) → AmOk u → Q v H'
theorem am_int {K : PySem.W.Frag} {H : Hp} (i : Int) : Dp K H (.int i) (amD (i, 1)) := by
  unfold amD
  rw [if_pos rfl]
  exact .int _
theorem am_ok1 {i : Int} (h : i.natAbs ≤ 100) : AmOk (i, 1) := ⟨by show (1 : Int) ≤ 1; decide, by show Int.gcd i 1 = 1; exact Int.gcd_one_right i, h, by show (1 : Int).natAbs ≤ 100; decide⟩
theorem am_two {K : PySem.W.Frag} {H : Hp} {t : Addr} {x y : Int} (h : H t = some (.tup [.int x, .int y])) (n : y ≠ 1) : Dp K H (.ref t) (amD (x, y)) := by
  unfold amD
  rw [if_neg n]
  exact .tup (SqT.of h) (.cons (.int _) (.cons (.int _) .nil))
theorem ok_more (T : Txt K mg a) : FnOk P w K mg base CX0 3 a.f_more a.d_more ["_law_bag_here"] (spMore K) := by
  refine T.F_more.ok sc_more (fun vs H Q E h => ?_) (fun cdv A outer s H vs Q E hr h => ?_)
  · obtain ⟨b, rfl, _⟩ := h
    rfl
  · obtain ⟨b, rfl, hb, k⟩ := h
    refine ⟨_, (pss_one (ps_ret (pe_call (ok_one T) (hr.mono (by decide)) (by rfl) T.m_one T.F_one.kp T.b_one .nil pass0 (pa_cons (pv 0) (pa_cons (pe_lst (pa_cons pe_int (pa_cons pe_int (pa_cons pe_int (pa_cons (pe_op op_sub pe_int pe_int) (pa_cons pe_int (pa_cons (pe_tup (pa_cons pe_int (pa_cons pe_int pa_nil))) (pa_cons (pe_tup (pa_cons (pe_op op_sub pe_int pe_int) (pa_cons pe_int pa_nil))) (pa_cons (pe_tup (pa_cons pe_int (pa_cons pe_int pa_nil))) (pa_cons (pe_op op_sub pe_int pe_int) (pa_cons (pe_call (ok_draw T) (hr.mono (by decide)) (by rfl) T.m_draw T.F_draw.kp T.b_draw .nil pass0 (pa_cons (pv 0) (pa_cons pe_int pa_nil))) pa_nil))))))))))) pa_nil))))), ?_⟩
    walk_at "r"
    refine w_newT (by show 2 ≤ 100000; decide) fun t1 H1 n1 e1 h1 => ?_
    walk_at "r"
    refine w_newT (by show 2 ≤ 100000; decide) fun t2 H2 n2 e2 h2 => ?_
    walk_at "r"
    refine w_newT (by show 2 ≤ 100000; decide) fun t3 H3 n3 e3 h3 => ?_
    have k3 : Kp b H H3 := .of hb ((e1.trans e2).trans e3)
    walk_at "r"
    refine draw_leaf k3.bag' (by show (0 : Int) < 40; decide) (by show (40 : Int) ≤ 10 ^ 12; decide) fun r H4 r0 r1 k4 => ?_
    walk_at "r"
    refine w_newL (by show 10 ≤ 100000; decide) fun l H5 n5 e5 h5 => ?_
    have k5 := (k3.trans k4).trans (.of k4.bag' e5)
    walk_at "r"
    refine one_leaf k5.bag' h5 (bag_ne k4.bag' n5) (by show 0 < 10; decide) (by show 10 < 1000; decide) fun v H6 hv k6 => ?_
    have k16 := k5.trans k6
    have t1' := k6.tup (e5 _ _ (k4.tup (e3 _ _ (e2 _ _ h1))))
    have t2' := k6.tup (e5 _ _ (k4.tup (e3 _ _ h2)))
    have t3' := k6.tup (e5 _ _ (k4.tup h3))
    have : v = .int 0 ∨ v = .int 3 ∨ v = .int (0 - 4) ∨ v = .int 12 ∨ v = .ref t1 ∨ v = .ref t2 ∨ v = .ref t3 ∨ v = .int (0 - 20) ∨ v = .int r := by
      simp only [List.mem_cons, List.not_mem_nil, or_false] at hv
      rcases hv with h | h | h | h | h | h | h | h | h | h <;> simp [h]
    rcases this with rfl | rfl | rfl | rfl | rfl | rfl | rfl | rfl | rfl
    · exact k _ (0, 1) _ k16 (am_int _) (am_ok1 (by decide))
    · exact k _ (3, 1) _ k16 (am_int _) (am_ok1 (by decide))
    · exact k _ (0 - 4, 1) _ k16 (am_int _) (am_ok1 (by decide))
    · exact k _ (12, 1) _ k16 (am_int _) (am_ok1 (by decide))
    · exact k _ (1, 2) _ k16 (am_two t1' (by decide)) ⟨by decide, by decide, by decide, by decide⟩
    · exact k _ (0 - 7, 3) _ k16 (am_two t2' (by decide)) ⟨by decide, by decide, by decide, by decide⟩
    · exact k _ (5, 6) _ k16 (am_two t3' (by decide)) ⟨by decide, by decide, by decide, by decide⟩
    · exact k _ (0 - 20, 1) _ k16 (am_int _) (am_ok1 (by decide))
    · exact k _ (r, 1) _ k16 (am_int _) (am_ok1 (by omega))
def ovB : Nat → Nat
  | 0 => 1
  | n + 1 => max 3 (2 * ovB n)
theorem ovB_one (n : Nat) : 1 ≤ ovB n := by
  cases n with
  | zero => exact Nat.le_refl _
  | succ n => show 1 ≤ max 3 (2 * ovB n); omega
theorem ovB_up (n : Nat) : ovB n + 2 ≤ ovB (n + 1) ∧ 2 * ovB n ≤ ovB (n + 1) := by
  have := ovB_one n
  show ovB n + 2 ≤ max 3 (2 * ovB n) ∧ 2 * ovB n ≤ max 3 (2 * ovB n)
  omega
/-- drawn with so much room -/
structure Dr (f : Fm) (n : Nat) : Prop where
  ok : f.Ok
  ht : f.ht ≤ n
  ov : f.ov ≤ ovB n
def spPlea (K : PySem.W.Frag) (n : Nat) : Sp := fun vs H Q _ => ∃ (b t : Addr) (ps : List Str) (es : List Tie3) (hk : Str) (ls : List Ln3) (r : Int), vs = [.ref b, .ref t, .int 6, .int r] ∧ Bag H b ∧ Shp K H t ps es hk ls ∧ 0 ≤ r ∧ r.toNat < n ∧ ∀ (v : V) (f : Fm) H', Kp b H H' → Dp K H' v f.d → Dr f r.toNat → Q v H'
theorem ok_pleaN (T : Txt K mg a) : ∀ n, FnOk P w K mg base CX0 (n + 6) a.f_plea a.d_plea ["_law_bag_here", "_law_shape_here", "_law_far_when", "_law_room"] (spPlea K n)
  | 0 => nope fun vs H Q E ⟨_, _, _, _, _, _, _, _, _, _, _, h, _⟩ => absurd h (Nat.not_lt_zero _)
  | n + 1 => by
    have ih : ∀ _ : Txt K mg a, FnOk P w K mg base CX0 (n + 6) a.f_plea a.d_plea ["_law_bag_here", "_law_shape_here", "_law_far_when", "_law_room"] (spPlea K n) := fun T => ok_pleaN T n
    refine FnOk.mono (j := n + 6 + 1) ?_ (by omega)
    refine T.F_plea.ok sc_plea (fun vs H Q E h => ?_) (fun cdv A outer s H vs Q E hr h => ?_)
    · obtain ⟨b, t, ps, es, hk, ls, r, rfl, _⟩ := h
      rfl
    · obtain ⟨b, t, ps, es, hk, ls, r, rfl, hb, sh, r0, hn, k⟩ := h
      refine ⟨_, (pss_cons (ps_set (i := 4) sc_plea.nd rfl (Or.inl rfl) (pe_ifExp (pt_cmpR op_gt (pv 3) pe_int (nomark _)) (pe_call (ok_draw T) (hr.mono (by omega)) (by rfl) T.m_draw T.F_draw.kp T.b_draw .nil pass0 (pa_cons (pv 0) (pa_cons pe_int pa_nil))) pe_int))
      (pss_cons (ps_if (pt_cmpR op_lt (pv 4) pe_int (nomark _)) (pss_one (ps_ret (pe_tup (pa_cons pe_str (pa_cons (pe_call (ok_level T) (hr.mono (by omega)) (by rfl) T.m_level T.F_level.kp T.b_level .nil pass0 (pa_cons (pv 0) (pa_cons (pv 1) (pa_cons (pv 2) pa_nil)))) (pa_cons (pe_call (ok_level T) (hr.mono (by omega)) (by rfl) T.m_level T.F_level.kp T.b_level .nil pass0 (pa_cons (pv 0) (pa_cons (pv 1) (pa_cons (pv 2) pa_nil)))) (pa_cons (pe_call (ok_more T) (hr.mono (by omega)) (by rfl) T.m_more T.F_more.kp T.b_more .nil pass0 (pa_cons (pv 0) pa_nil)) pa_nil))))))) pss_nil)
      (pss_cons (ps_if (pt_cmpR op_eq (pv 4) pe_int (nomark _)) (pss_one (ps_ret (pe_tup (pa_cons pe_str (pa_cons (pe_call (ih T) (hr.mono (by omega)) (by rfl) T.m_plea T.F_plea.kp T.b_plea .nil pass0 (pa_cons (pv 0) (pa_cons (pv 1) (pa_cons (pv 2) (pa_cons (pe_op op_sub (pv 3) pe_int) pa_nil))))) pa_nil))))) pss_nil)
      (pss_cons (ps_set (i := 5) sc_plea.nd rfl (Or.inl rfl) (pe_call (ih T) (hr.mono (by omega)) (by rfl) T.m_plea T.F_plea.kp T.b_plea .nil pass0 (pa_cons (pv 0) (pa_cons (pv 1) (pa_cons (pv 2) (pa_cons (pe_op op_sub (pv 3) pe_int) pa_nil))))))
      (pss_cons (ps_if (pt_cmpR op_lt (pv 4) pe_int (nomark _)) (pss_one (ps_ret (pe_tup (pa_cons (pe_ix ix_list (pe_lst (pa_cons pe_str (pa_cons pe_str pa_nil))) (pe_op op_sub (pv 4) pe_int) (fun _ _ => rfl)) (pa_cons (pv 5) (pa_cons (pe_call (ih T) (hr.mono (by omega)) (by rfl) T.m_plea T.F_plea.kp T.b_plea .nil pass0 (pa_cons (pv 0) (pa_cons (pv 1) (pa_cons (pv 2) (pa_cons (pe_op op_sub (pv 3) pe_int) pa_nil))))) pa_nil)))))) pss_nil)
      (pss_one (ps_ret (pe_tup (pa_cons pe_str (pa_cons (pv 5) (pa_cons (pe_call (ih T) (hr.mono (by omega)) (by rfl) T.m_plea T.F_plea.kp T.b_plea .nil pass0 (pa_cons (pv 0) (pa_cons (pv 1) (pa_cons (pv 2) (pa_cons pe_int pa_nil))))) (pa_cons (pe_call (ih T) (hr.mono (by omega)) (by rfl) T.m_plea T.F_plea.kp T.b_plea .nil pass0 (pa_cons (pv 0) (pa_cons (pv 1) (pa_cons (pv 2) (pa_cons pe_int pa_nil))))) pa_nil)))))))))))), ?_⟩
      have eσ : ∀ N : List Str, N.length = 6 → L2.start N [V.ref b, .ref t, .int 6, .int r] = [some (V.ref b), some (.ref t), some (.int 6), some (.int r), none, none] := fun N hN => by unfold L2.start; rw [hN]; rfl
      rw [eσ _ (by rfl)]
      obtain ⟨m, rfl⟩ := Int.eq_ofNat_of_zero_le r0
      have mt : (m : Int).toNat = m := Int.toNat_natCast m
      rw [mt] at hn k
      have over_ : ∀ (G : Hp), Kp b H G → ∀ (t1 t2 : V) (x y : Lv) (v : V) (u : Int × Int) (G1 G2 G3 : Hp) (q : Addr), Kp b G G1 → Kp b G1 G2 → Kp b G2 G3 → Dp K G1 t1 x.d → Dp K G2 t2 y.d → Dp K G3 v (amD u) → x.Ok → y.Ok → AmOk u → ∀ G4, Same G3 G4 → G4 q = some (.tup [.str "over", t1, t2, v]) → Q (.ref q) G4 := fun G kG t1 t2 x y v u G1 G2 G3 q g1 g2 g3 dx dy du ox oy ou G4 e4 h4 => by
        refine k _ (.over x y u) G4 ((((kG.trans g1).trans g2).trans g3).trans (.of g3.bag' e4)) (.tup (SqT.of h4) (.cons (.str _) (.cons ?_ (.cons ?_ (.cons (Dp.same e4 _ du) .nil))))) ⟨⟨ox, oy, ou⟩, Nat.zero_le _, ovB_one m⟩
        · exact Dp.same e4 _ (Dp.sameT (g2.trans g3).sameT _ (noL_lv x) dx)
        · exact Dp.same e4 _ (Dp.sameT g3.sameT _ (noL_lv y) dy)
      walk_at "r"
      refine w_tIf ?_
      walk_at "r"
      refine w_iteD (fun mz => ?_) (fun mz => ?_)
      rotate_left
      · obtain rfl : m = 0 := by omega
        walk_at "r"
        rw [if_pos (by decide)]
        walk_at "r"
        have kG := Kp.refl hb
        refine ⟨b, t, ps, es, hk, ls, rfl, kG.bag', sh.kp (b := b) kG.sameT, fun t1 x G1 g1 dx ox => ?_⟩
        walk_at "r"
        refine ⟨b, t, ps, es, hk, ls, rfl, g1.bag', sh.kp (b := b) (kG.trans g1).sameT, fun t2 y G2 g2 dy oy => ?_⟩
        walk_at "r"
        refine ⟨b, rfl, g2.bag', fun v u G3 g3 du ou => ?_⟩
        walk_at "r"
        exact w_newT (by show 4 ≤ 100000; decide) fun q G4 n4 e4 h4 => over_ _ kG t1 t2 x y v u G1 G2 G3 q g1 g2 g3 dx dy du ox oy ou G4 e4 h4
      · obtain ⟨mm, rfl⟩ : ∃ mm, m = mm + 1 := ⟨m - 1, by omega⟩
        have em : (((mm + 1 : Nat) : Int) - 1).toNat = mm := by omega
        have up := ovB_up mm
        have kov : ∀ (v : V) (f : Fm) G, Kp b H G → Dp K G v f.d → f.Ok → f.ht ≤ mm + 1 → f.ov ≤ ovB (mm + 1) → Q v G := fun v f G kg d o h1 h2 => k v f G kg d ⟨o, h1, h2⟩
        walk_at "r"
        refine draw_leaf hb (by show (0 : Int) < 7; decide) (by show (7 : Int) ≤ 10 ^ 12; decide) fun wy G w0 w1 kG => ?_
        obtain ⟨wn, rfl⟩ := Int.eq_ofNat_of_zero_le w0
        walk_at "r"
        by_cases c1 : wn < 2
        · rw [if_pos (by exact decide_eq_true (by omega))]
          walk_at "r"
          refine ⟨b, t, ps, es, hk, ls, rfl, kG.bag', sh.kp (b := b) kG.sameT, fun t1 x G1 g1 dx ox => ?_⟩
          walk_at "r"
          refine ⟨b, t, ps, es, hk, ls, rfl, g1.bag', sh.kp (b := b) (kG.trans g1).sameT, fun t2 y G2 g2 dy oy => ?_⟩
          walk_at "r"
          refine ⟨b, rfl, g2.bag', fun v u G3 g3 du ou => ?_⟩
          walk_at "r"
          exact w_newT (by show 4 ≤ 100000; decide) fun q G4 n4 e4 h4 => over_ _ kG t1 t2 x y v u G1 G2 G3 q g1 g2 g3 dx dy du ox oy ou G4 e4 h4
        · rw [if_neg (by exact fun z => c1 (by have := of_decide_eq_true z; omega))]
          walk_at "r"
          refine w_iteD (fun c2 => ?_) (fun c2 => ?_)
          · walk_at "r"
            refine ⟨b, t, ps, es, hk, ls, _, rfl, kG.bag', sh.kp (b := b) kG.sameT, by omega, by omega, fun v f G1 g1 df rf => ?_⟩
            rw [em] at rf
            walk_at "r"
            exact w_newT (by show 2 ≤ 100000; decide) fun q G2 n2 e2 h2 => kov _ (.no f) _ (kG.trans (g1.trans (.of g1.bag' e2))) (.tup (SqT.of h2) (.cons (.str _) (.cons (Dp.same e2 _ df) .nil))) rf.ok (Nat.succ_le_succ rf.ht) (by have := rf.ov; show f.ov ≤ _; omega)
          · have c2 : wn ≠ 2 := fun z => c2 (by rw [z]; rfl)
            walk_at "r"
            refine ⟨b, t, ps, es, hk, ls, _, rfl, kG.bag', sh.kp (b := b) kG.sameT, by omega, by omega, fun v f G1 g1 df rf => ?_⟩
            rw [em] at rf
            have kG1 := kG.trans g1
            walk_at "r"
            by_cases c3 : wn < 5
            · rw [if_pos (by exact decide_eq_true (by omega))]
              walk_at "r"
              refine w_newL (by show 2 ≤ 100000; decide) fun l G2 n2 e2 h2 => ?_
              have kG2 := kG1.trans (.of kG1.bag' e2)
              walk_at "r"
              obtain ⟨w, hw⟩ : ∃ w : Bool, atI [V.str "if", .str "and"] ((wn : Int) - 3) = some (.str (if w then "if" else "and")) := by
                have : wn = 3 ∨ wn = 4 := by omega
                rcases this with rfl | rfl
                · exact ⟨true, rfl⟩
                · exact ⟨false, rfl⟩
              refine w_ixL h2 hw ?_
              walk_at "r"
              refine ⟨b, t, ps, es, hk, ls, _, rfl, kG2.bag', sh.kp (b := b) kG2.sameT, by omega, by omega, fun v2 f2 G3 g3 df2 rf2 => ?_⟩
              rw [em] at rf2
              have q1 := rf.ht
              have q2 := rf2.ht
              have o1 := rf.ov
              have o2 := rf2.ov
              walk_at "r"
              exact w_newT (by show 3 ≤ 100000; decide) fun q G4 n4 e4 h4 => kov _ (.bi w f f2) _ (kG2.trans (g3.trans (.of g3.bag' e4))) (.tup (SqT.of h4) (.cons (.str _) (.cons (Dp.same e4 _ (Dp.sameT g3.sameT _ (noL_fm f) (Dp.same e2 _ df))) (.cons (Dp.same e4 _ df2) .nil)))) ⟨rf.ok, rf2.ok⟩ (by show max f.ht f2.ht + 1 ≤ _; omega) (by show f.ov + f2.ov ≤ _; omega)
            · rw [if_neg (by exact fun z => c3 (by have := of_decide_eq_true z; omega))]
              walk_at "r"
              refine ⟨b, t, ps, es, hk, ls, _, rfl, kG1.bag', sh.kp (b := b) kG1.sameT, by decide, by show 0 < n; omega, fun v2 f2 G2 g2 df2 rf2 => ?_⟩
              have kG2 := kG1.trans g2
              walk_at "r"
              refine ⟨b, t, ps, es, hk, ls, _, rfl, kG2.bag', sh.kp (b := b) kG2.sameT, by decide, by show 0 < n; omega, fun v3 f3 G3 g3 df3 rf3 => ?_⟩
              have h2 := rf2.ht
              have h3 := rf3.ht
              have o2 : f2.ov ≤ 1 := rf2.ov
              have o3 : f3.ov ≤ 1 := rf3.ov
              rw [show (0 : Int).toNat = 0 from rfl] at h2 h3
              walk_at "r"
              exact w_newT (by show 4 ≤ 100000; decide) fun q G4 n4 e4 h4 => kov _ (.tri f f2 f3) _ (kG2.trans (g3.trans (.of g3.bag' e4))) (.tup (SqT.of h4) (.cons (.str _) (.cons (Dp.same e4 _ (Dp.sameT (g2.trans g3).sameT _ (noL_fm f) df)) (.cons (Dp.same e4 _ (Dp.sameT g3.sameT _ (noL_fm f2) df2)) (.cons (Dp.same e4 _ df3) .nil))))) ⟨rf.ok, rf2.ok, rf3.ok⟩ (by have := rf.ht; show max f.ht (max f2.ht f3.ht) + 1 ≤ _; omega) (by have := rf.ov; show f.ov + f2.ov + f3.ov ≤ _; omega)
end
end RK17


namespace RK17
open PySem PySem.Spec L2 RK RZ StX PyProof.Rows
/-! ### written wishes -/
theorem lay_sh {x : Lv} (ok : x.Ok) : SeqAt.shaped x.d = true := by
  obtain ⟨h1, h2⟩ := lay_lv ok
  unfold SeqAt.shaped
  rw [h1]
  exact decide_eq_true (by omega)
section
variable {P : Program} {w : World} {K : PySem.W.Frag} {mg : Str → Option Value} {base : Heap} {a : Ad}
def spLevelTextL (K : PySem.W.Frag) : Sp := fun vs H Q _ => ∃ (v : V) (x : Lv), vs = [v] ∧ Dp K H v x.d ∧ x.Ok ∧ ∀ H', Same H H' → Q (.str (mk x.t)) H'
theorem ok_level_text (T : Txt K mg a) : FnOk P w K mg base CX0 1 a.f_level_text a.d_level_text ["_law_level_here"] (spLevelTextL K) := by
  refine T.F_level_text.ok sc_level_text (fun vs H Q E h => ?_) (fun cdv A outer s H vs Q E hr h => ?_)
  · obtain ⟨v, x, rfl, _⟩ := h
    rfl
  · obtain ⟨v, x, rfl, dp, ok, k⟩ := h
    refine ⟨_, (pss_cons (ps_if (pt_cmpR (op_eqD hr.units) (pv 0) (pe_tup (pa_cons pe_str pa_nil)) (nomark _)) (pss_one (ps_ret pe_str)) pss_nil)
      (pss_one (ps_ret (pe_ifExp (pt_cmpR op_eq (pe_ix ix_tup (pv 0) pe_int (fun _ _ => rfl)) pe_str (nomark _)) (pe_ix ix_tup (pv 0) pe_int (fun _ _ => rfl)) (pe_op op_add_str (pe_op op_add_str (pe_ix ix_tup (pv 0) pe_int (fun _ _ => rfl)) pe_str) (pe_callTy (CallR.or call_str_int SkE.call_str_str) (by rfl) T.z_str (by decide +kernel) (pa_cons (pe_ix ix_tup (pv 0) pe_int (fun _ _ => rfl)) pa_nil))))))), ?_⟩
    walk_at "r"
    refine w_newT (by show 1 ≤ 100000; decide) fun f0 H1 n1 e1 h1 => ?_
    walk_at "r"
    refine ⟨_, _, Dp.same e1 _ dp, .tup (SqT.of h1) (.cons (.str _) .nil), lay_sh ok, by decide +kernel, ?_⟩
    cases x with
    | floor =>
      refine ⟨_, rfl, ?_⟩
      rw [if_pos (by decide +kernel)]
      walk_at "r"
      rw [show mk Lv.floor.t = "floor" from mk_tl _] at k
      exact k _ e1
    | len c =>
      obtain ⟨t, xs, rfl, ht, da⟩ := dp_tup dp
      obtain ⟨x0, r, rfl, d0, da⟩ := dpa_cons da
      obtain ⟨x1, r, rfl, d1, da⟩ := dpa_cons da
      obtain rfl := dp_str d0
      obtain rfl := dp_str d1
      have ht := seqT_same e1 ht
      refine ⟨_, rfl, ?_⟩
      rw [if_neg (by simp [Lv.d, PyData.eqv, PyData.eqvAll])]
      walk_at "r"
      refine w_tIf ?_
      walk_at "r"
      refine ix0 ht ?_
      walk_at "r"
      rw [if_pos (by simp)]
      walk_at "r"
      refine ix1 ht ?_
      exact k _ e1
    | part s m =>
      obtain ⟨t, xs, rfl, ht, da⟩ := dp_tup dp
      obtain ⟨x0, r, rfl, d0, da⟩ := dpa_cons da
      obtain ⟨x1, r, rfl, d1, da⟩ := dpa_cons da
      obtain ⟨x2, r, rfl, d2, da⟩ := dpa_cons da
      obtain rfl := dp_str d0
      obtain rfl := dp_str d1
      obtain rfl := Mo.dp d2
      have ht := seqT_same e1 ht
      refine ⟨_, rfl, ?_⟩
      rw [if_neg (by simp [Lv.d, PyData.eqv, PyData.eqvAll])]
      walk_at "r"
      refine w_tIf ?_
      walk_at "r"
      refine ix0 ht ?_
      walk_at "r"
      rw [if_neg (by decide +kernel)]
      walk_at "r"
      have zs : (s : Str).length ≤ 8 := ok.1.2.1
      have z1 : ("@" : Str).length = 1 := rfl
      have big : 100 ≤ sizeLine := by decide
      refine ix1 ht ?_
      walk_at "r"
      refine ⟨_, _, rfl, rfl, by omega, ?_⟩
      walk_at "r"
      refine ix2 ht ?_
      cases m with
      | num n =>
        have n6 : n ≤ 6 := ok.2
        have lg : ∀ k : Nat, k ≤ 6 → ((k : Int)).natAbs.log2 < 1920 ∧ (Str.ofString (toString (k : Int))).length ≤ 4 := by decide +kernel
        obtain ⟨l1, l2⟩ := lg n n6
        refine .inl ⟨n, rfl, l1, ?_⟩
        walk_at "r"
        refine ⟨_, _, rfl, rfl, by rw [Str.length_append]; omega, ?_⟩
        rw [str_mk (s := (s ++ "@") ++ Str.ofString (toString (n : Int))) (l := (Lv.part s (.num n)).t) (by rw [TL.tl_append, TL.tl_append]; simp [Lv.t, Mo.t, TL.tl]; rfl)]
        exact k _ e1
      | last =>
        refine .inr ⟨"last", rfl, ?_⟩
        walk_at "r"
        refine ⟨_, _, rfl, rfl, by rw [Str.length_append, show ("last" : Str).length = 4 from rfl]; omega, ?_⟩
        rw [str_mk (s := (s ++ "@") ++ "last") (l := (Lv.part s .last).t) (by rw [TL.tl_append, TL.tl_append]; simp [Lv.t, Mo.t, TL.tl]; rfl)]
        exact k _ e1
    | hook c m =>
      obtain ⟨t, xs, rfl, ht, da⟩ := dp_tup dp
      obtain ⟨x0, r, rfl, d0, da⟩ := dpa_cons da
      obtain ⟨x1, r, rfl, d1, da⟩ := dpa_cons da
      obtain ⟨x2, r, rfl, d2, da⟩ := dpa_cons da
      obtain rfl := dp_str d0
      obtain rfl := dp_str d1
      obtain rfl := Mo.dp d2
      have ht := seqT_same e1 ht
      refine ⟨_, rfl, ?_⟩
      rw [if_neg (by simp [Lv.d, PyData.eqv, PyData.eqvAll])]
      walk_at "r"
      refine w_tIf ?_
      walk_at "r"
      refine ix0 ht ?_
      walk_at "r"
      rw [if_neg (by decide +kernel)]
      walk_at "r"
      have zs : (sg c : Str).length ≤ 8 := (by show 1 ≤ 8; decide)
      have z1 : ("@" : Str).length = 1 := rfl
      have big : 100 ≤ sizeLine := by decide
      refine ix1 ht ?_
      walk_at "r"
      refine ⟨_, _, rfl, rfl, by omega, ?_⟩
      walk_at "r"
      refine ix2 ht ?_
      cases m with
      | num n =>
        have n6 : n ≤ 6 := ok.2
        have lg : ∀ k : Nat, k ≤ 6 → ((k : Int)).natAbs.log2 < 1920 ∧ (Str.ofString (toString (k : Int))).length ≤ 4 := by decide +kernel
        obtain ⟨l1, l2⟩ := lg n n6
        refine .inl ⟨n, rfl, l1, ?_⟩
        walk_at "r"
        refine ⟨_, _, rfl, rfl, by rw [Str.length_append]; omega, ?_⟩
        rw [str_mk (s := (sg c ++ "@") ++ Str.ofString (toString (n : Int))) (l := (Lv.hook c (.num n)).t) (by rw [TL.tl_append, TL.tl_append]; simp [Lv.t, Mo.t, TL.tl]; rfl)]
        exact k _ e1
      | last =>
        refine .inr ⟨"last", rfl, ?_⟩
        walk_at "r"
        refine ⟨_, _, rfl, rfl, by rw [Str.length_append, show ("last" : Str).length = 4 from rfl]; omega, ?_⟩
        rw [str_mk (s := (sg c ++ "@") ++ "last") (l := (Lv.hook c .last).t) (by rw [TL.tl_append, TL.tl_append]; simp [Lv.t, Mo.t, TL.tl]; rfl)]
        exact k _ e1
def spWritten (K : PySem.W.Frag) (n : Nat) : Sp := fun vs H Q _ => ∃ (v : V) (f : Fm), vs = [v] ∧ Dp K H v f.d ∧ f.Ok ∧ f.ht < n ∧ f.ht ≤ 4 ∧ ∀ H', Same H H' → Q (.str (mk f.t)) H'
theorem ok_writtenN (T : Txt K mg a) : ∀ n, FnOk P w K mg base CX0 (n + 6) a.f_written a.d_written ["_law_plea_here"] (spWritten K n)
  | 0 => nope fun vs H Q E ⟨_, _, _, _, _, h, _⟩ => absurd h (Nat.not_lt_zero _)
  | n + 1 => by
    have ih : ∀ _ : Txt K mg a, FnOk P w K mg base CX0 (n + 6) a.f_written a.d_written ["_law_plea_here"] (spWritten K n) := fun T => ok_writtenN T n
    refine FnOk.mono (j := n + 6 + 1) ?_ (by omega)
    refine T.F_written.ok sc_written (fun vs H Q E h => ?_) (fun cdv A outer s H vs Q E hr h => ?_)
    · obtain ⟨v, f, rfl, _⟩ := h
      rfl
    · obtain ⟨v, f, rfl, dp, ok, hn, h4, k⟩ := h
      refine ⟨_, (pss_cons (ps_if (pt_cmpR op_eq (pe_ix ix_tup (pv 0) pe_int (fun _ _ => rfl)) pe_str (nomark _)) (pss_cons (ps_set (i := 1) sc_written.nd rfl (Or.inl rfl) (pe_ifExp (pt_val (pe_callB call_isi (by rfl) T.z_isinstance (by decide +kernel) (pa_cons (pe_ix ix_tup (pv 0) pe_int (fun _ _ => rfl)) (pa_cons (pe_bltn (v := .ty "tuple") (by rfl) T.z_tuple (by decide +kernel) rfl) pa_nil)))) (pe_ix ix_tup (pv 0) pe_int (fun _ _ => rfl)) (pe_tup (pa_cons (pe_ix ix_tup (pv 0) pe_int (fun _ _ => rfl)) (pa_cons pe_int pa_nil)))))
      (pss_cons (ps_set (i := 2) sc_written.nd rfl (Or.inl rfl) (pe_ifExp (pt_cmpR op_eq (pe_ix ix_tup (pv 1) pe_int (fun _ _ => rfl)) pe_int (nomark _)) (pe_callTy call_str_int (by rfl) T.z_str (by decide +kernel) (pa_cons (pe_ix ix_tup (pv 1) pe_int (fun _ _ => rfl)) pa_nil)) (pe_op op_add_str (pe_op op_add_str (pe_callTy call_str_int (by rfl) T.z_str (by decide +kernel) (pa_cons (pe_ix ix_tup (pv 1) pe_int (fun _ _ => rfl)) pa_nil)) pe_str) (pe_callTy call_str_int (by rfl) T.z_str (by decide +kernel) (pa_cons (pe_ix ix_tup (pv 1) pe_int (fun _ _ => rfl)) pa_nil)))))
      (pss_cons (ps_set (i := 3) sc_written.nd rfl (Or.inl rfl) (pe_lst (pa_cons (pe_call (ok_level_text T) (hr.mono (by omega)) (by rfl) T.m_level_text T.F_level_text.kp T.b_level_text .nil pass0 (pa_cons (pe_ix ix_tup (pv 0) pe_int (fun _ _ => rfl)) pa_nil)) (pa_cons (pe_call (ok_level_text T) (hr.mono (by omega)) (by rfl) T.m_level_text T.F_level_text.kp T.b_level_text .nil pass0 (pa_cons (pe_ix ix_tup (pv 0) pe_int (fun _ _ => rfl)) pa_nil)) pa_nil))))
      (pss_one (ps_ret (pe_op op_add_str (pe_op op_add_str pe_str (pe_join pe_str (pe_op op_cat (pv 3) (pe_lst (pa_cons (pv 2) pa_nil))))) pe_str)))))) pss_nil)
      (pss_one (ps_ret (pe_op op_add_str (pe_op op_add_str pe_str (pe_join pe_str (pe_op op_cat (pe_lst (pa_cons (pe_ix ix_tup (pv 0) pe_int (fun _ _ => rfl)) pa_nil)) (pe_lc (own := [("_law_each", 4)]) (g := gName 4) (tt := tYes) rfl sc_written.nd (pi_tup (pe_slice sl_tup (pv 0) (po_some pe_int) po_none)) (blkOk_by (own := [("_law_each", 4)]) (N := ["_law_plea_here", "_law_more_here", "_law_line", "_law_pair", "_law_each"]) (sc := defScope s_written) (by decide +kernel)) (fun _ _ _ _ _ => pg_name (i := 4) sc_written.nd rfl (Or.inl rfl)) (fun _ _ _ _ _ => pts_nil) (fun _ _ _ _ _ => by exact (pe_call (ih T) (hr.mono (by omega)) (by rfl) T.m_written T.F_written.kp T.b_written .nil pass0 (pa_cons (pv 4) pa_nil))))))) pe_str)))), ?_⟩
      have eσ : ∀ N : List Str, N.length = 5 → L2.start N [v] = [some v, none, none, none, none] := fun N hN => by unfold L2.start; rw [hN]; rfl
      rw [eσ _ (by rfl)]
      rcases f.cases_ with ⟨x, y, u, rfl⟩ | fi
      · obtain ⟨t, v1, v2, v3, rfl, ht, d1, d2, d3⟩ := over_d dp
        walk_at "r"
        refine ix0 ht ?_
        walk_at "r"
        rw [if_pos (by simp)]
        walk_at "r"
        refine w_tIf ?_
        walk_at "r"
        refine ix3 ht ?_
        walk_at "r"
        have big : 1000 ≤ sizeLine := by decide
        have z1 : ("(over " : Str).length = 6 := by decide +kernel
        have z2 : (" " : Str).length = 1 := by decide +kernel
        have z3 : (")" : Str).length = 1 := by decide +kernel
        have z4 : ("/" : Str).length = 1 := by decide +kernel
        have l1 : (mk x.t).length ≤ 13 := by rw [mk_len]; exact lv_len ok.1
        have l2 : (mk y.t).length ≤ 13 := by rw [mk_len]; exact lv_len ok.2.1
        have am := ok.2.2
        have l3 := am_len am
        have lg : ∀ z : Int, z.natAbs ≤ 100 → z.natAbs.log2 < 1920 := fun z hz => by
          rcases Nat.eq_zero_or_pos z.natAbs with h | h
          · rw [h]; decide
          · exact (Nat.log2_lt (by omega)).mpr (Nat.lt_of_le_of_lt hz (Nat.lt_of_lt_of_le (by decide : 100 < 2 ^ 10) (Nat.pow_le_pow_right (by decide) (by decide))))
        unfold amD at d3
        by_cases c : u.2 = 1
        · rw [if_pos c] at d3
          obtain rfl := dp_int d3
          refine ⟨.int u.1, .ty "tuple", .type "int", .type "tuple", false, rfl, .ty _, .base (.int _), kit_ty (by decide +kernel), false, rfl, iteF ?_⟩
          walk_at "r"
          refine ix3 ht ?_
          walk_at "r"
          refine w_newT (by show 2 ≤ 100000; decide) fun t2 G n2 e1 h2 => ?_
          have ht2 := SqT.of (K := K) h2
          walk_at "r"
          refine w_tIf ?_
          walk_at "r"
          rw [if_pos (by decide)]
          walk_at "r"
          refine ⟨_, rfl, lg _ am.s1, ?_⟩
          obtain ⟨L, eL⟩ : ∃ L, L = Str.ofString (toString u.1) := ⟨_, rfl⟩
          have hL : TL.tl L = amT u := by
            rw [eL]
            unfold amT
            rw [if_pos c, List.append_nil]
          rw [show (toString u.1 : Str) = L from eL.symm]
          have hLl : L.length ≤ 11 := by
            show L.cps.size ≤ 11
            rw [← Array.length_toList]
            show (TL.tl L).length ≤ 11
            rw [hL]
            exact l3
          walk_at "r"
          refine ix1 (seqT_same e1 ht) ?_
          walk_at "r"
          refine ⟨v1, x, rfl, Dp.same e1 _ d1, ok.1, fun G1 g1 => ?_⟩
          walk_at "r"
          refine ix2 (seqT_same (e1.trans g1) ht) ?_
          walk_at "r"
          refine ⟨v2, y, rfl, Dp.same (e1.trans g1) _ d2, ok.2.1, fun G2 g2 => ?_⟩
          walk_at "r"
          refine w_newL (by show 2 ≤ 100000; decide) fun p1 G3 n3 g3 h3 => ?_
          walk_at "r"
          refine w_m1 ?_
          walk_at "r"
          refine ⟨⟨_, rfl⟩, ?_⟩
          walk_at "r"
          refine w_newL (by show 1 ≤ 100000; decide) fun p2 G4 n4 g4 h4 => ?_
          walk_at "r"
          refine ⟨p1, p2, _, _, rfl, rfl, g4 _ _ h3, h4, by show 3 ≤ sizeLine; decide, fun p3 n5 => ?_⟩
          have g5 := w_new (o := .lst ([V.str (mk x.t), .str (mk y.t)] ++ [.str L])) n5
          refine ⟨" ", p3, [mk x.t, mk y.t, L], rfl, rfl, .inl (SqL.of upd_same), by simp only [List.map_cons, List.map_nil, List.sum_cons, List.sum_nil, List.length_cons, List.length_nil]; omega, ?_⟩
          have jn : TL.tl (Txt.join " " [mk x.t, mk y.t, L]) = x.t ++ 32 :: (y.t ++ 32 :: amT u) := by
            rw [TL.join_eq, TL.tl_join]
            show TL.joinL [32] [TL.tl (mk x.t), TL.tl (mk y.t), TL.tl L] = _
            rw [tl_mk, tl_mk, hL]
            simp [TL.joinL]
          have jl : (Txt.join " " [mk x.t, mk y.t, L]).length ≤ 60 := by
            have e := congrArg List.length jn
            rw [Array.length_toList] at e
            show (Txt.join " " [mk x.t, mk y.t, L]).cps.size ≤ 60
            rw [e]
            have m1 : x.t.length ≤ 13 := lv_len ok.1
            have m2 : y.t.length ≤ 13 := lv_len ok.2.1
            simp only [List.length_append, List.length_cons]
            omega
          walk_at "r"
          refine ⟨_, _, rfl, rfl, by omega, ?_⟩
          walk_at "r"
          refine ⟨_, _, rfl, rfl, by rw [Str.length_append]; omega, ?_⟩
          rw [str_mk (s := (("(over " : Str) ++ Txt.join " " [mk x.t, mk y.t, L]) ++ ")") (l := (Fm.over x y u).t) (by
            rw [TL.tl_append, TL.tl_append, jn]
            show (TL.tl "(over " ++ _) ++ [41] = TL.tl "(over " ++ (x.t ++ 32 :: (y.t ++ 32 :: (amT u ++ [41])))
            simp)]
          exact k _ ((((e1.trans g1).trans g2).trans g3).trans (g4.trans g5))
        · rw [if_neg c] at d3
          obtain ⟨t2, xs, rfl, ht2, da⟩ := dp_tup d3
          obtain ⟨x0, r, rfl, e0, da⟩ := dpa_cons da
          obtain ⟨x1, r, rfl, e1, da⟩ := dpa_cons da
          obtain rfl := dpa_nil da
          obtain rfl := dp_int e0
          obtain rfl := dp_int e1
          refine ⟨.ref t2, .ty "tuple", .type "tuple", .type "tuple", true, rfl, .ty _, tyT ht2, kit_ty (by decide +kernel), true, rfl, iteT ?_⟩
          walk_at "r"
          refine ix3 ht ?_
          walk_at "r"
          refine w_tIf ?_
          walk_at "r"
          refine ix1 ht2 ?_
          walk_at "r"
          refine w_iteD (fun z => absurd (by injection z) c) (fun _ => ?_)
          walk_at "r"
          refine ix0 ht2 ?_
          refine ⟨_, rfl, lg _ am.s1, ?_⟩
          have l3' := l3
          unfold amT at l3'
          rw [if_neg c, List.length_append, List.length_cons] at l3'
          have q1 : (Str.ofString (toString u.1)).length ≤ 11 := by
            show (Str.ofString (toString u.1)).cps.size ≤ 11
            rw [← Array.length_toList]
            show (TL.tl _).length ≤ 11
            omega
          have q2 : (Str.ofString (toString u.2)).length ≤ 11 := by
            show (Str.ofString (toString u.2)).cps.size ≤ 11
            rw [← Array.length_toList]
            show (TL.tl _).length ≤ 11
            omega
          walk_at "r"
          refine ⟨_, _, rfl, rfl, by show (Str.ofString (toString u.1)).length + _ ≤ _; omega, ?_⟩
          walk_at "r"
          refine ix1 ht2 ?_
          refine ⟨_, rfl, lg _ am.s2, ?_⟩
          walk_at "r"
          refine ⟨_, _, rfl, rfl, by show (Str.ofString (toString u.1) ++ "/").length + (Str.ofString (toString u.2)).length ≤ _; rw [Str.length_append]; omega, ?_⟩
          obtain ⟨L, eL⟩ : ∃ L, L = Str.ofString (toString u.1) ++ "/" ++ Str.ofString (toString u.2) := ⟨_, rfl⟩
          have hL : TL.tl L = amT u := by
            rw [eL]
            unfold amT
            rw [if_neg c, TL.tl_append, TL.tl_append, List.append_assoc]
            rfl
          rw [show ((toString u.1 : Str) ++ "/" ++ (toString u.2 : Str)) = L from eL.symm]
          have hLl : L.length ≤ 11 := by
            show L.cps.size ≤ 11
            rw [← Array.length_toList]
            show (TL.tl L).length ≤ 11
            rw [hL]
            exact l3
          walk_at "r"
          refine ix1 (ht) ?_
          walk_at "r"
          refine ⟨v1, x, rfl, d1, ok.1, fun G1 g1 => ?_⟩
          walk_at "r"
          refine ix2 (seqT_same (g1) ht) ?_
          walk_at "r"
          refine ⟨v2, y, rfl, Dp.same (g1) _ d2, ok.2.1, fun G2 g2 => ?_⟩
          walk_at "r"
          refine w_newL (by show 2 ≤ 100000; decide) fun p1 G3 n3 g3 h3 => ?_
          walk_at "r"
          refine w_m1 ?_
          walk_at "r"
          refine ⟨⟨_, rfl⟩, ?_⟩
          walk_at "r"
          refine w_newL (by show 1 ≤ 100000; decide) fun p2 G4 n4 g4 h4 => ?_
          walk_at "r"
          refine ⟨p1, p2, _, _, rfl, rfl, g4 _ _ h3, h4, by show 3 ≤ sizeLine; decide, fun p3 n5 => ?_⟩
          have g5 := w_new (o := .lst ([V.str (mk x.t), .str (mk y.t)] ++ [.str L])) n5
          refine ⟨" ", p3, [mk x.t, mk y.t, L], rfl, rfl, .inl (SqL.of upd_same), by simp only [List.map_cons, List.map_nil, List.sum_cons, List.sum_nil, List.length_cons, List.length_nil]; omega, ?_⟩
          have jn : TL.tl (Txt.join " " [mk x.t, mk y.t, L]) = x.t ++ 32 :: (y.t ++ 32 :: amT u) := by
            rw [TL.join_eq, TL.tl_join]
            show TL.joinL [32] [TL.tl (mk x.t), TL.tl (mk y.t), TL.tl L] = _
            rw [tl_mk, tl_mk, hL]
            simp [TL.joinL]
          have jl : (Txt.join " " [mk x.t, mk y.t, L]).length ≤ 60 := by
            have e := congrArg List.length jn
            rw [Array.length_toList] at e
            show (Txt.join " " [mk x.t, mk y.t, L]).cps.size ≤ 60
            rw [e]
            have m1 : x.t.length ≤ 13 := lv_len ok.1
            have m2 : y.t.length ≤ 13 := lv_len ok.2.1
            simp only [List.length_append, List.length_cons]
            omega
          walk_at "r"
          refine ⟨_, _, rfl, rfl, by omega, ?_⟩
          walk_at "r"
          refine ⟨_, _, rfl, rfl, by rw [Str.length_append]; omega, ?_⟩
          rw [str_mk (s := (("(over " : Str) ++ Txt.join " " [mk x.t, mk y.t, L]) ++ ")") (l := (Fm.over x y u).t) (by
            rw [TL.tl_append, TL.tl_append, jn]
            show (TL.tl "(over " ++ _) ++ [41] = TL.tl "(over " ++ (x.t ++ 32 :: (y.t ++ 32 :: (amT u ++ [41])))
            simp)]
          exact k _ ((((g1).trans g2).trans g3).trans (g4.trans g5))
      · obtain ⟨t, xs, rfl, ht, da, xl⟩ := inner_d fi dp
        have k3 := fi.few
        walk_at "r"
        refine ix0 ht ?_
        walk_at "r"
        rw [if_neg (by rw [decide_eq_false (word_ne fi)]; decide)]
        walk_at "r"
        refine w_m1 ?_
        walk_at "r"
        refine ⟨⟨_, rfl⟩, ?_⟩
        walk_at "r"
        refine ix0 ht ?_
        walk_at "r"
        refine w_newL (by show 1 ≤ 100000; decide) fun pw H1 n1 e1 h1 => ?_
        walk_at "r"
        refine tail_leaf (seqT_same e1 ht) fun p H2 e2 hp => ?_
        have e12 := e1.trans e2
        have db := DpAll.same e12 _ da
        refine ⟨p, rfl, ⟨_, hp⟩, cmS (walk_tup (xs := xs)) (by omega) (fun G e => seqT_same e hp) (fun i v _ => ∃ g, f.kids[i]? = some g ∧ v = .str (mk g.t)) (fun _ _ _ _ _ h => h) (fun i x G1 G2 hi e hy Q' kq => ?_) (fun D ys H3 n3 e3 h3 hl3 hP => ?_)⟩
        · obtain ⟨rfl, hx⟩ := hy
          obtain ⟨dd, hd2, dx⟩ := dpa_at db i x hx
          rw [List.getElem?_map] at hd2
          obtain ⟨g, hg, rfl⟩ := Option.map_eq_some_iff.mp hd2
          have gm := List.mem_of_getElem? hg
          have gh := fi.ht g gm
          refine ⟨rfl, ?_⟩
          walk_at "r"
          exact ⟨x, g, rfl, Dp.same e _ dx, fi.ok ok g gm, by omega, by omega, fun H' e' => kq _ _ e' ⟨g, hg, rfl⟩⟩
        have ey := eq_map (fun g : Fm => V.str (mk g.t)) (ps := f.kids) (by rw [hl3, xl]) hP
        have kl : ∀ g ∈ f.kids, (mk g.t).length ≤ 20000 := fun g gm => by
          rw [mk_len]
          have := fi.ht g gm
          exact fm_len4 (fi.ok ok g gm) (by omega)
        have wl : f.word.length ≤ 4 := by
          rcases fi.cnt with ⟨h, _⟩ | ⟨h, _⟩ | ⟨h, _⟩ | ⟨h, _⟩ <;> rw [h] <;> decide +kernel
        have big : 30000 ≤ sizeLine := by decide
        refine ⟨pw, D, _, _, rfl, rfl, (e2.trans e3) _ _ h1, h3, by rw [hl3]; show 1 + xs.length ≤ sizeLine; omega, fun p3 n5 => ?_⟩
        have g5 := w_new (o := .lst ([V.str f.word] ++ ys)) n5
        refine ⟨" ", p3, f.word :: f.kids.map fun g => mk g.t, rfl, rfl, .inl (SqL.of (by rw [upd_same, ey, List.map_cons, List.map_map]; rfl)), ?_, ?_⟩
        · have : (((f.kids.map fun g => mk g.t).map fun x => x.length).sum) ≤ (f.kids.map fun g => mk g.t).length * 20000 := sum_le fun x hx => by
            obtain ⟨u, hu, rfl⟩ := List.mem_map.mp hx
            exact kl u hu
          rw [List.length_map] at this
          rw [List.map_cons, List.sum_cons, List.length_cons, List.length_map]
          show _ + (_ + 1) * 1 ≤ _
          omega
        walk_at "r"
        have jn : TL.tl (Txt.join " " (f.word :: f.kids.map fun g => mk g.t)) = TL.tl f.word ++ 32 :: TL.joinL [32] (f.kids.map Fm.t) := by
          rw [TL.join_eq, TL.tl_join, List.map_cons, List.map_map]
          have : (TL.tl ∘ fun g : Fm => mk g.t) = Fm.t := funext fun g => tl_mk _
          rw [this]
          have k1 := fi.one
          cases hk : f.kids with
          | nil => rw [hk] at k1; simp at k1
          | cons g gs => simp [TL.joinL]; rfl
        have fl := fm_len4 ok h4
        rw [inner_t fi] at fl
        simp only [List.length_cons, List.length_append, List.length_nil] at fl
        have jl : (Txt.join " " (f.word :: f.kids.map fun g => mk g.t)).length ≤ 20000 := by
          have e := congrArg List.length jn
          rw [Array.length_toList, List.length_append, List.length_cons] at e
          show (Txt.join " " (f.word :: f.kids.map fun g => mk g.t)).cps.size ≤ 20000
          rw [e]
          omega
        have z1 : ("(" : Str).length = 1 := by decide +kernel
        have z3 : (")" : Str).length = 1 := by decide +kernel
        refine ⟨_, _, rfl, rfl, by omega, ?_⟩
        walk_at "r"
        refine ⟨_, _, rfl, rfl, by rw [Str.length_append]; omega, ?_⟩
        rw [str_mk (s := (("(" : Str) ++ Txt.join " " (f.word :: f.kids.map fun g => mk g.t)) ++ ")") (l := f.t) (by
          rw [TL.tl_append, TL.tl_append, jn, inner_t fi]
          show ([40] ++ _) ++ [41] = _
          simp)]
        exact k _ (e12.trans (e3.trans g5))
end
end RK17


namespace RK17
open PySem PySem.Spec L2 RK RZ StX PyProof.Rows
/-! ### the law's own comparisons -/
def Low (l : List Nat) : Prop := ∀ c ∈ l, c < 1114112
theorem Low.app {x y : List Nat} (h : Low x) (g : Low y) : Low (x ++ y) := fun c m => (List.mem_append.mp m).elim (h c) (g c)
theorem Low.cons {n : Nat} {y : List Nat} (h : n < 1114112) (g : Low y) : Low (n :: y) := fun c m => (List.mem_cons.mp m).elim (fun e => e ▸ h) (g c)
theorem Low.nil : Low [] := fun c m => absurd m List.not_mem_nil
theorem Low.of (s : String) : Low (TL.tl (Str.ofString s)) := fun c m => by
  have e : TL.tl (Str.ofString s) = s.toList.map Char.toNat := by rw [Str.ofString_eq_toList]
  rw [e] at m
  obtain ⟨d, _, rfl⟩ := List.mem_map.mp m
  have := d.valid
  rcases this with h | h
  · have h : d.toNat < 55296 := h
    omega
  · have h : d.toNat < 1114112 := h.2
    omega
theorem low_am (u : Int × Int) : Low (amT u) := by
  unfold amT
  refine (Low.of _).app ?_
  split
  · exact Low.nil
  · exact Low.cons (by decide) (Low.of _)
theorem low_mo (m : Mo) : Low m.t := by
  cases m with
  | num n => exact Low.of _
  | last => exact Low.of "last"
theorem low_lv {x : Lv} (h : x.Ok) : Low x.t := by
  cases x with
  | floor => exact Low.of "floor"
  | len c => exact Low.cons (by have := h.2; omega) Low.nil
  | part s m => exact Low.app (fun c hc => by have := (h.1.2.2 c hc).2; omega) (Low.cons (by decide) (low_mo m))
  | hook c m => exact Low.cons (by have := h.1.2; omega) (Low.cons (by decide) (low_mo m))
theorem low_fm : ∀ f : Fm, f.Ok → Low f.t
  | .over x y u, ok => (Low.of "(over ").app ((low_lv ok.1).app (.cons (by decide) ((low_lv ok.2.1).app (.cons (by decide) ((low_am u).app (.cons (by decide) .nil))))))
  | .no f, ok => .cons (by decide) ((Low.of "not").app (.cons (by decide) ((low_fm f ok).app (.cons (by decide) .nil))))
  | .bi w f g, ok => .cons (by decide) (Low.app (match w with | true => Low.of "if" | false => Low.of "and") (.cons (by decide) (((low_fm f ok.1).app (.cons (by decide) (low_fm g ok.2))).app (.cons (by decide) .nil))))
  | .tri f g h, ok => .cons (by decide) ((Low.of "or").app (.cons (by decide) (((low_fm f ok.1).app (.cons (by decide) ((low_fm g ok.2.1).app (.cons (by decide) (low_fm h ok.2.2))))).app (.cons (by decide) .nil))))
theorem fmg_so {f : Fm} (g : FmG f) : PyData.strOk (mk f.t) = true := strOk_of fun c hc => low_fm f g.ok c (by rw [← tl_mk f.t]; exact hc)
theorem shaped_L {ds : List PyData} (h : ∀ d ∈ ds, d.canLay0 = true ∧ d.depth ≤ 6) : SeqAt.shaped (.list ds) = true := by
  have h1 : PyData.canLayAll0 ds = true ∧ PyData.depthAll ds ≤ 6 := by
    induction ds with
    | nil => exact ⟨by simp [PyData.canLayAll0], by simp [PyData.depthAll]⟩
    | cons d r ih =>
      obtain ⟨a1, a2⟩ := ih fun x m => h x (List.mem_cons_of_mem _ m)
      obtain ⟨b1, b2⟩ := h d List.mem_cons_self
      exact ⟨by simp [PyData.canLayAll0, a1, b1], by simp only [PyData.depthAll]; omega⟩
  unfold SeqAt.shaped
  rw [show (PyData.list ds).canLay0 = true from by simp [PyData.canLay0, h1.1]]
  exact decide_eq_true (by simp only [PyData.depth]; have := h1.2; omega)
theorem FmG.lay {f : Fm} (g : FmG f) : f.d.canLay0 = true ∧ f.d.depth ≤ 6 := by
  obtain ⟨h1, h2⟩ := lay_fm f g.ok
  have := g.ht
  exact ⟨h1, by omega⟩
theorem lay_bl (x : Bool) : (PyData.bool x).canLay0 = true ∧ (PyData.bool x).depth ≤ 6 := ⟨by simp [PyData.canLay0], by simp [PyData.depth]⟩
theorem lay_str {s : Str} (h : PyData.strOk s = true) : (PyData.str s).canLay0 = true ∧ (PyData.str s).depth ≤ 6 := ⟨by simp [PyData.canLay0, h], by simp [PyData.depth]⟩
theorem oEqx {X : Cx} {a : Ad} (T : Txt X.K X.mg a) (hr : Room 1 X.A) : OpR X (compareOp .Eq) (rEqO X.K a.C_Wish (spWeq X.K a.C_Wish) E0) := op_eqO T.me_Wish_eq.at_ T.me_Wish_eq.fn (ok_Wish_eq T) hr T.b_Wish_eq pass0
section
variable {P : Program} {w : World} {K : PySem.W.Frag} {mg : Str → Option Value} {base : Heap} {a : Ad}
theorem kb_Wish_read (T : Txt K mg a) : KBn K a.d_Wish_read ["text"] 0 ["text"] (fun us ws => us ++ ws) (fun vs zs => vs ++ zs) := by
  obtain ⟨oc, od, kV, doc, pm, an, cdv, ct, osl, e, _⟩ := T.F_Wish_read.ex
  rw [e]
  exact ⟨fun s us ws _ h1 h2 => match us, ws, h1, h2 with | [], [_], _, _ => .of_eq rfl, fun r1 r2 => r1.append r2⟩
theorem kbW (T : Txt K mg a) : KBn K a.d_Wish_init ["self", "form"] 1 ["form"] (fun us ws => us ++ ws) (fun vs zs => vs ++ zs) := by
  obtain ⟨oc, od, kV, doc, pm, an, cdv, ct, osl, e, _⟩ := T.F_Wish_init.ex
  rw [e]
  exact ⟨fun s us ws _ h1 h2 => match us, ws, h1, h2 with | [_], [_], _, _ => .of_eq rfl, fun r1 r2 => r1.append r2⟩
theorem eqW_leaf (T : Txt K mg a) {H : Hp} {Q : VK} {p q : Addr} {f g : Fm} (r : Wsh K a.C_Wish H p f) (r2 : Wsh K a.C_Wish H q g) (k : Q (.bl (PyData.eqv f.d g.d)) H) : rEqO K a.C_Wish (spWeq K a.C_Wish) E0 (.ref p) (.ref q) H Q := by
  obtain ⟨dx, t, h, _⟩ := id r
  exact ⟨p, dx, _, .ref a.C_Wish, rfl, h, wsh_ty T r2, T.wfW, p, f, .ref q, rfl, r, .inl ⟨q, g, rfl, r2, k⟩⟩
theorem eqT_leaf (T : Txt K mg a) {H : Hp} {Q : VK} {p t : Addr} {f : Fm} {xs : List V} (r : Wsh K a.C_Wish H p f) (ht : SqT K H t xs) (k : Q (.bl false) H) : rEqO K a.C_Wish (spWeq K a.C_Wish) E0 (.ref p) (.ref t) H Q := by
  obtain ⟨dx, t', h, _⟩ := id r
  exact ⟨p, dx, _, .type "tuple", rfl, h, tyT ht, T.wfT, p, f, .ref t, rfl, r, .inr ⟨t, xs, rfl, ht, k⟩⟩
theorem fm_ref {H : Hp} {v : V} {f : Fm} (d : Dp K H v f.d) : ∃ t xs, v = .ref t ∧ SqT K H t xs := by
  cases f <;> (obtain ⟨t, xs, rfl, ht, _⟩ := dp_tup d; exact ⟨t, xs, rfl, ht⟩)
theorem strW_leaf {C : Addr} {H : Hp} {Q : VK} {p : Addr} {f : Fm} (r : Wsh K C H p f) (k : ∀ H', Same H H' → Q (.str (mk f.t)) H') : rStrO C (spWstr K C) E0 [.ref p] H Q := by
  obtain ⟨dx, t, h, _⟩ := id r
  exact ⟨p, dx, _, rfl, h, p, f, rfl, r, fun H' e => ⟨_, rfl, k H' e⟩⟩
theorem mkWK_leaf {C : Addr} {H : Hp} {Q : VK} {t : Addr} {f : Fm} (dp : Dp K H (.ref t) f.d) (g : FmG f) (k : ∀ p H', H p = none → Same H H' → Wsh K C H' p f → Q (.ref p) H') : MkK C 0 1 (spWinit K C) (fun vs zs => vs ++ zs) E0 [] [.ref t] H Q := ⟨rfl, rfl, mkW_leaf dp g k⟩
/-- wishes of these forms at these places -/
def Wss (K : PySem.W.Frag) (C : Addr) (H : Hp) (ws : List Addr) (fs : List Fm) : Prop := ws.length = fs.length ∧ ∀ (i : Nat) (p : Addr) (f : Fm), ws[i]? = some p → fs[i]? = some f → Wsh K C H p f
theorem Wss.sameT {C : Addr} {H H' : Hp} {ws : List Addr} {fs : List Fm} (h : Wss K C H ws fs) (e : SameT H H') : Wss K C H' ws fs := ⟨h.1, fun i p f a b => (h.2 i p f a b).sameT e⟩
theorem Wss.snoc {C : Addr} {H : Hp} {ws : List Addr} {fs : List Fm} {p : Addr} {f : Fm} (h : Wss K C H ws fs) (r : Wsh K C H p f) : Wss K C H (ws ++ [p]) (fs ++ [f]) := by
  refine ⟨by rw [List.length_append, List.length_append, h.1]; rfl, fun i q g hq hg => ?_⟩
  by_cases c : i < ws.length
  · rw [List.getElem?_append_left c] at hq
    rw [List.getElem?_append_left (by rw [← h.1]; exact c)] at hg
    exact h.2 i q g hq hg
  · rw [List.getElem?_append_right (Nat.le_of_not_lt c)] at hq
    rw [List.getElem?_append_right (by rw [← h.1]; exact Nat.le_of_not_lt c), ← h.1] at hg
    cases n : i - ws.length with
    | zero => rw [n] at hq hg; cases hq; cases hg; exact r
    | succ m => rw [n] at hq; cases hq
theorem dpa_bls {H : Hp} : ∀ bs : List Bool, DpAll K H (bs.map V.bl) (bs.map PyData.bool)
  | [] => .nil
  | b :: bs => .cons (.bl _) (dpa_bls bs)
def spRight : Sp := fun vs H Q _ => ∃ b : Addr, vs = [.ref b] ∧ Bag H b ∧ ∀ H', Kp b H H' → Q (.bl true) H'
theorem ok_right (T : Txt K mg a) : FnOk P w K mg base CX0 20 a.f_right a.d_right ["_law_bag_here"] spRight := by
  obtain ⟨pR, st_Wish_read⟩ := T.sm_Wish_read
  refine T.F_right.ok sc_right (fun vs H Q E h => ?_) (fun cdv A outer s H vs Q E hr h => ?_)
  · obtain ⟨b, rfl, _⟩ := h
    rfl
  · obtain ⟨b, rfl, hb, k⟩ := h
    have kb_Wish := kbW T
    have ok_plea : ∀ T : Txt K mg a, FnOk P w K mg base CX0 9 a.f_plea a.d_plea ["_law_bag_here", "_law_shape_here", "_law_far_when", "_law_room"] (spPlea K 3) := fun T => ok_pleaN T 3
    have ok_written : ∀ T : Txt K mg a, FnOk P w K mg base CX0 9 a.f_written a.d_written ["_law_plea_here"] (spWritten K 3) := fun T => ok_writtenN T 3
    refine ⟨_, (pss_cons (ps_par (i := 1) (j := 2) (by rfl) sc_right.nd rfl rfl (by decide) rfl rfl (pa_cons (pe_call (ok_shape T) (hr.mono (by decide)) (by rfl) T.m_shape T.F_shape.kp T.b_shape .nil pass0 (pa_cons (pv 0) pa_nil)) (pa_cons (pe_lst pa_nil) pa_nil)) (by rfl))
      (pss_cons (ps_for PassesOwn.never rfl (pi_range1 (by rfl) T.z_range (pa_cons pe_int pa_nil)) (pg_name (i := 3) sc_right.nd rfl (Or.inl rfl)) (pss_cons (ps_set (i := 4) sc_right.nd rfl (Or.inl rfl) (pe_call (ok_plea T) (hr.mono (by decide)) (by rfl) T.m_plea T.F_plea.kp T.b_plea .nil pass0 (pa_cons (pv 0) (pa_cons (pv 1) (pa_cons pe_int (pa_cons (pe_call (ok_draw T) (hr.mono (by decide)) (by rfl) T.m_draw T.F_draw.kp T.b_draw .nil pass0 (pa_cons (pv 0) (pa_cons pe_int pa_nil))) pa_nil))))))
      (pss_cons (ps_par (i := 5) (j := 6) (by rfl) sc_right.nd rfl rfl (by decide) rfl rfl (pa_cons (pe_call (ok_written T) (hr.mono (by decide)) (by rfl) T.m_written T.F_written.kp T.b_written .nil pass0 (pa_cons (pv 4) pa_nil)) (pa_cons (pe_make T.mk_Wish (ok_Wish_init T) (hr.mono (by decide)) (by rfl) T.m_Wish T.b_Wish_init .nil pass0 (pa_cons (pv 4) pa_nil)) pa_nil)) (by rfl))
      (pss_cons (ps_if (pt_cmpR (op_neD hr.units) (pe_lst (pa_cons (pe_fld (pv 6) rfl) (pa_cons (pe_callTy (cr_strO T.me_Wish_str.at_ T.me_Wish_str.fn (ok_Wish_str T) (hr.mono (by decide)) T.b_Wish_str pass0) (by rfl) T.z_str (by decide +kernel) (pa_cons (pv 6) pa_nil)) (pa_cons (pe_callTy (cr_strO T.me_Wish_str.at_ T.me_Wish_str.fn (ok_Wish_str T) (hr.mono (by decide)) T.b_Wish_str pass0) (by rfl) T.z_str (by decide +kernel) (pa_cons (pv 6) pa_nil)) pa_nil)))) (pe_lst (pa_cons (pv 4) (pa_cons (pv 5) (pa_cons (pv 5) pa_nil)))) (nomark _)) (pss_one (ps_ret pe_bl)) pss_nil)
      (pss_cons (ps_set (i := 7) sc_right.nd rfl (Or.inl rfl) (pe_smeth (pe_glob (v := .ref a.C_Wish) rfl T.m_Wish rfl) st_Wish_read (ok_Wish_read T) (hr.mono (by decide)) T.b_Wish_read pass0 (pa_cons (pv 5) pa_nil)))
      (pss_cons (ps_set (i := 8) sc_right.nd rfl (Or.inl rfl) (pe_lst (pa_cons (pe_fld (pv 7) rfl) (pa_cons (pe_cmpR (oEqx T (by exact hr.mono (by decide))) (pe_smethK (pe_glob (v := .ref a.C_Wish) rfl T.m_Wish rfl) st_Wish_read (ok_Wish_read T) (hr.mono (by decide)) (kb_Wish_read T) pass0 (pk_cons (pv 5) pk_nil)) (pv 6) (nomark _)) (pa_cons (pe_cmpR (oEqx T (by exact hr.mono (by decide))) (pe_makeK0 T.mk_Wish (ok_Wish_init T) (hr.mono (by decide)) (by rfl) T.m_Wish kb_Wish pass0 (pk_cons (pv 4) pk_nil)) (pv 7) (nomark _)) (pa_cons (pe_cmpR (oEqx T (by exact hr.mono (by decide))) (pv 6) (pv 4) (nomark _)) pa_nil))))))
      (pss_cons (ps_if (pt_cmpR (op_neD hr.units) (pv 8) (pe_lst (pa_cons (pv 4) (pa_cons pe_bl (pa_cons pe_bl (pa_cons pe_bl pa_nil))))) (nomark _)) (pss_one (ps_ret pe_bl)) pss_nil)
      (pss_one (ps_expr (pe_bm PySem.F.plainAttrs_list PySem.F.slot_list_append PySem.F.type_list_append mt_append (pv 2) (pa_cons (pv 6) pa_nil)))))))))))
      (pss_cons (ps_for PassesOwn.never rfl (pi_list (pv 2)) (pg_name (i := 9) sc_right.nd rfl (Or.inr rfl)) (pss_one (ps_if (pt_cmpR (op_neD hr.units) (pe_lc (own := [("_law_that", 10)]) (g := gName 10) (tt := tYes) rfl sc_right.nd (pi_list (pv 2)) (blkOk_by (own := [("_law_that", 10)]) (N := ["_law_bag_here", "_law_shape_here", "_law_made", "_law_turn", "_law_plea_here", "_law_line", "_law_mine", "_law_again", "_law_found", "_law_this", "_law_that"]) (sc := defScope s_right) (by decide +kernel)) (fun _ _ _ _ _ => pg_name (i := 10) sc_right.nd rfl (Or.inl rfl)) (fun _ _ _ _ _ => pts_nil) (fun _ _ _ _ _ => by exact (pe_cmpR (show OpR _ _ (rEqO K a.C_Wish (spWeq K a.C_Wish) E0) from oEqx T (by exact hr.mono (by decide))) (pv 9) (pv 10) (nomark _)))) (pe_lc (own := [("_law_that", 10)]) (g := gName 10) (tt := tYes) rfl sc_right.nd (pi_list (pv 2)) (blkOk_by (own := [("_law_that", 10)]) (N := ["_law_bag_here", "_law_shape_here", "_law_made", "_law_turn", "_law_plea_here", "_law_line", "_law_mine", "_law_again", "_law_found", "_law_this", "_law_that"]) (sc := defScope s_right) (by decide +kernel)) (fun _ _ _ _ _ => pg_name (i := 10) sc_right.nd rfl (Or.inl rfl)) (fun _ _ _ _ _ => pts_nil) (fun _ _ _ _ _ => by exact (pe_cmpR (show OpR _ _ (rEqD K) from op_eqD (by exact hr.units)) (show PE _ _ (tFld K _ _) from pe_fld (pv 9) (by rfl)) (show PE _ _ (tFld K _ _) from pe_fld (pv 10) (by rfl)) (nomark _)))) (nomark _)) (pss_one (ps_ret pe_bl)) pss_nil)))
      (pss_one (ps_ret pe_bl))))), ?_⟩
    walk_at "r"
    refine ⟨b, rfl, hb, fun t ps es hk ls H1 k1 sh => ?_⟩
    walk_at "r"
    refine w_newL (by show 0 ≤ 100000; decide) fun L H2 nL e2 h2 => ?_
    have k2 := k1.trans (.of k1.bag' e2)
    have neL := bag_ne k1.bag' nL
    have nLH := k1.free nL
    walk_at "r"
    refine ⟨6, rfl, by decide, by decide, for_leaf (walk_range (lo := 0) (n := 6)) (fun i σ' G => ∃ (ws : List Addr) (fs : List Fm), Kp b H G ∧ Shp K G t ps es hk ls ∧ G L = some (.lst (ws.map V.ref)) ∧ ws.length = i ∧ Wss K a.C_Wish G ws fs ∧ ∃ v3 v4 v5 v6 v7 v8 v9 v10 : Option V, σ' = [some (.ref b), some (.ref t), some (.ref L), v3, v4, v5, v6, v7, v8, v9, v10]) ⟨[], [], k2, sh.kp (b := b) (SameT.of e2), h2, rfl, ⟨rfl, fun i p f h => by simp at h⟩, _, _, _, _, _, _, _, _, rfl⟩ (fun _ _ _ _ _ => trivial) ?_ ?_⟩
    · rintro i z σ' G0 G hi ⟨ws, fs, kp, shG, hL, hl, hw, v3, v4, v5, v6, v7, v8, v9, v10, rfl⟩ ⟨rfl, rfl⟩
      walk_at "r"
      refine draw_leaf kp.bag' (by show (0 : Int) < 3; decide) (by show (3 : Int) ≤ 10 ^ 12; decide) fun r G1 r0 r1 g1 => ?_
      walk_at "r"
      refine ⟨b, t, ps, es, hk, ls, r, rfl, g1.bag', shG.kp (b := b) g1.sameT, r0, by omega, fun v f G2 g2 dv dr => ?_⟩
      have fg : FmG f := by
        have h1 := dr.ht
        have h2 := dr.ov
        refine ⟨dr.ok, by omega, Nat.le_trans h2 ?_⟩
        have : ∀ n, n ≤ 2 → ovB n ≤ 8 := by decide
        exact this _ (by omega)
      have so := fmg_so fg
      obtain ⟨tv, xv, rfl, hv⟩ := fm_ref dv
      have kp2 := (kp.trans g1).trans g2
      walk_at "r"
      refine ⟨.ref tv, f, rfl, dv, fg.ok, by have := dr.ht; omega, fg.ht, fun G3 e3 => ?_⟩
      walk_at "r"
      refine mkW_leaf (Dp.same e3 _ dv) fg fun p G4 n4 e4 wp => ?_
      walk_at "r"
      refine wf_leaf T wp fun t1 d1 => ?_
      walk_at "r"
      refine strW_leaf wp fun G5 e5 => ?_
      walk_at "r"
      refine strW_leaf (wp.same e5) fun G6 e6 => ?_
      walk_at "r"
      refine w_newL (by show 3 ≤ 100000; decide) fun l1 G7 n7 e7 h7 => ?_
      walk_at "r"
      refine w_newL (by show 3 ≤ 100000; decide) fun l2 G8 n8 e8 h8 => ?_
      have e48 := (e5.trans e6).trans (e7.trans e8)
      have e28 := (e3.trans e4).trans e48
      have dv8 := Dp.same e28 _ dv
      have s3 : SeqAt.shaped (.list [f.d, .str (mk f.t), .str (mk f.t)]) = true := shaped_L fun d m => by
        have : d = f.d ∨ d = .str (mk f.t) := by simpa using m
        rcases this with rfl | rfl
        · exact fg.lay
        · exact lay_str so
      refine ⟨_, _, .lst (SqL.of (e8 _ _ h7)) (.cons (Dp.same e48 _ d1) (.cons (.str _) (.cons (.str _) .nil))), .lst (SqL.of h8) (.cons dv8 (.cons (.str _) (.cons (.str _) .nil))), s3, s3, ?_⟩
      rw [SeqAt.eqv_refl _ (SeqAt.canLay_of_shaped s3)]
      refine ⟨_, rfl, iteF ?_⟩
      walk_at "r"
      unfold tSMeth
      walk_at "r"
      refine ⟨rfl, ?_⟩
      walk_at "r"
      refine ⟨f, rfl, fg, fun q G9 n9 e9 wq => ?_⟩
      have wp9 := wp.same (e48.trans e9)
      walk_at "r"
      refine wf_leaf T wq fun t2 d2 => ?_
      walk_at "r"
      unfold tSMethK
      walk_at "r"
      refine ⟨rfl, ?_⟩
      walk_at "r"
      refine ⟨rfl, ?_⟩
      refine ⟨f, rfl, fg, fun q2 G10 n10 e10 wq2 => ?_⟩
      walk_at "r"
      refine eqW_leaf T wq2 (wp9.same e10) ?_
      rw [fg.refl]
      walk_at "r"
      have dv10 := Dp.same (e9.trans e10) _ dv8
      refine mkWK_leaf dv10 fg fun q3 G11 n11 e11 wq3 => ?_
      walk_at "r"
      refine eqW_leaf T wq3 (wq.same (e10.trans e11)) ?_
      rw [fg.refl]
      walk_at "r"
      have e811 := e9.trans (e10.trans e11)
      refine eqT_leaf T (wp9.same (e10.trans e11)) (seqT_same (e28.trans e811) hv) ?_
      walk_at "r"
      refine w_newL (by show 4 ≤ 100000; decide) fun l3 G12 n12 e12 h12 => ?_
      walk_at "r"
      refine w_newL (by show 4 ≤ 100000; decide) fun l4 G13 n13 e13 h13 => ?_
      have s4 : SeqAt.shaped (.list [f.d, .bool true, .bool true, .bool false]) = true := shaped_L fun d m => by
        have : d = f.d ∨ d = .bool true ∨ d = .bool false := by simpa using m
        rcases this with rfl | rfl | rfl
        · exact fg.lay
        · exact lay_bl _
        · exact lay_bl _
      have e813 := e811.trans (e12.trans e13)
      refine ⟨_, _, .lst (SqL.of (e13 _ _ h12)) (.cons (Dp.same ((e10.trans e11).trans (e12.trans e13)) _ d2) (.cons (.bl _) (.cons (.bl _) (.cons (.bl _) .nil)))), .lst (SqL.of h13) (.cons (Dp.same e813 _ dv8) (.cons (.bl _) (.cons (.bl _) (.cons (.bl _) .nil)))), s4, s4, ?_⟩
      rw [SeqAt.eqv_refl _ (SeqAt.canLay_of_shaped s4)]
      refine ⟨_, rfl, iteF ?_⟩
      walk_at "r"
      have e213 := e28.trans e813
      have kp13 := kp2.trans (.of kp2.bag' e213)
      have hL13 := e213 _ _ (g2.keep _ _ neL (g1.keep _ _ neL hL))
      have wl : (ws.map V.ref).length ≤ 1000 := by rw [List.length_map]; omega
      have s013 : SameT G G13 := (g1.trans (g2.trans (.of g2.bag' e213))).sameT
      refine ⟨.inl ⟨rfl, _, .inl (.inl hL13)⟩, ?_⟩
      walk_at "r"
      refine w_app hL13 wl fun G14 g => ?_
      exact ⟨ws ++ [p], fs ++ [f], KpGrown kp13 nLH neL g, shG.kp (b := b) (SameT.trans s013 g.same), by rw [g.at_, List.map_append]; rfl, by rw [List.length_append, hl]; rfl, (hw.sameT (SameT.trans s013 g.same)).snoc ((wp9.same ((e10.trans e11).trans (e12.trans e13))).sameT g.same), _, _, _, _, _, _, _, _, rfl⟩
    · rintro σ' G ⟨ws, fs, kp, shG, hL, hl, hw, v3, v4, v5, v6, v7, v8, v9, v10, rfl⟩
      walk_at "r"
      have wl : (ws.map V.ref).length ≤ 1000 := by rw [List.length_map]; omega
      refine ⟨L, rfl, ⟨_, SqL.of hL⟩, for_leaf (walk_list (xs := ws.map V.ref)) (fun i σ' G' => Same G G' ∧ ∃ v9 v10 : Option V, σ' = [some (.ref b), some (.ref t), some (.ref L), v3, v4, v5, v6, v7, v8, v9, v10]) ⟨w_same _, _, _, rfl⟩ (fun i σ' G' _ ⟨e, _⟩ => SqL.of (e _ _ hL)) ?_ ?_⟩
      · rintro i x σ' G1 G2 hi ⟨e, v9, v10, rfl⟩ ⟨rfl, hx⟩
        have hx' := hx
        rw [List.getElem?_map] at hx'
        obtain ⟨p, hp, rfl⟩ := Option.map_eq_some_iff.mp hx'
        have hip := (List.getElem?_eq_some_iff.mp hp).1
        obtain ⟨f, hf⟩ : ∃ f, fs[i]? = some f := ⟨_, List.getElem?_eq_getElem (by rw [← hw.1]; exact hip)⟩
        have wp := (hw.2 i p f hp hf).same e
        have fg := wp
        obtain ⟨_, _, _, _, fg⟩ := fg
        have hL1 := e _ _ hL
        walk_at "r"
        refine ⟨L, rfl, ⟨_, SqL.of hL1⟩, cmS (walk_list (xs := ws.map V.ref)) wl (fun G' e' => SqL.of (e' _ _ hL1)) (fun j y _ => ∃ g, fs[j]? = some g ∧ y = .bl (PyData.eqv f.d g.d)) (fun _ _ _ _ _ h => h) (fun j x G3 G4 hj e3 hy Q' kq => ?_) (fun m1 ys H5 n5 e5 h5 hl5 hP => ?_)⟩
        · obtain ⟨rfl, hx⟩ := hy
          rw [List.getElem?_map] at hx
          obtain ⟨q, hq, rfl⟩ := Option.map_eq_some_iff.mp hx
          have hjq := (List.getElem?_eq_some_iff.mp hq).1
          obtain ⟨g, hg⟩ : ∃ g, fs[j]? = some g := ⟨_, List.getElem?_eq_getElem (by rw [← hw.1]; exact hjq)⟩
          have wq := (hw.2 j q g hq hg).same (e.trans e3)
          refine ⟨rfl, ?_⟩
          walk_at "r"
          refine eqW_leaf T (wp.same e3) wq ?_
          exact kq _ _ (w_same _) ⟨g, hg, rfl⟩
        walk_at "r"
        have hL5 := e5 _ _ hL1
        refine ⟨L, rfl, ⟨_, SqL.of hL5⟩, cmS (walk_list (xs := ws.map V.ref)) wl (fun G' e' => SqL.of (e' _ _ hL5)) (fun j y _ => ∃ g, fs[j]? = some g ∧ y = .bl (PyData.eqv f.d g.d)) (fun _ _ _ _ _ h => h) (fun j x G3 G4 hj e3 hy Q' kq => ?_) (fun m2 zs H6 n6 e6 h6 hl6 hR => ?_)⟩
        · obtain ⟨rfl, hx⟩ := hy
          rw [List.getElem?_map] at hx
          obtain ⟨q, hq, rfl⟩ := Option.map_eq_some_iff.mp hx
          have hjq := (List.getElem?_eq_some_iff.mp hq).1
          obtain ⟨g, hg⟩ : ∃ g, fs[j]? = some g := ⟨_, List.getElem?_eq_getElem (by rw [← hw.1]; exact hjq)⟩
          have wq := (hw.2 j q g hq hg).same ((e.trans e5).trans e3)
          have gg := wq
          obtain ⟨_, _, _, _, gg⟩ := gg
          refine ⟨rfl, ?_⟩
          walk_at "r"
          refine wf_leaf T (wp.same (e5.trans e3)) fun t1 d1 => ?_
          walk_at "r"
          refine wf_leaf T wq fun t2 d2 => ?_
          exact ⟨_, _, d1, d2, fg.sh, gg.sh, kq _ _ (w_same _) ⟨g, hg, rfl⟩⟩
        have ey := eq_map (fun g : Fm => V.bl (PyData.eqv f.d g.d)) (ps := fs) (by rw [hl5, List.length_map, hw.1]) hP
        have ez := eq_map (fun g : Fm => V.bl (PyData.eqv f.d g.d)) (ps := fs) (by rw [hl6, List.length_map, hw.1]) hR
        have emm : (fs.map fun g : Fm => V.bl (PyData.eqv f.d g.d)) = (fs.map fun g => PyData.eqv f.d g.d).map V.bl := by rw [List.map_map]; rfl
        rw [ey, emm] at h5
        rw [ez, emm] at h6
        have sh : SeqAt.shaped (.list ((fs.map fun g => PyData.eqv f.d g.d).map PyData.bool)) = true := shaped_L fun d m => by
          obtain ⟨x, _, rfl⟩ := List.mem_map.mp m
          exact lay_bl x
        refine ⟨_, _, .lst (SqL.of (e6 _ _ h5)) (dpa_bls _), .lst (SqL.of h6) (dpa_bls _), sh, sh, ?_⟩
        rw [SeqAt.eqv_refl _ (SeqAt.canLay_of_shaped sh)]
        refine ⟨_, rfl, iteF ?_⟩
        walk_at "r"
        exact ⟨e.trans (e5.trans e6), _, _, rfl⟩
      · rintro σ' G1 ⟨e, v9, v10, rfl⟩
        walk_at "r"
        exact k _ (kp.trans (.of kp.bag' e))
end
end RK17


namespace RK17
open PySem PySem.Spec L2 RK RZ StX PyProof.Rows
section
variable {P : Program} {w : World} {K : PySem.W.Frag} {mg : Str → Option Value} {base : Heap} {a : Ad}
def W1 : Fm := .no (.over (.part "foot" (.num 2)) (.len 97) (0 - 3, 2))
def W2 : Fm := .bi true (.over (.hook 65 .last) .floor (7, 1)) (.tri (.over .floor (.len 98) (0, 1)) (.over (.part "last" (.num 0)) (.part "floor" .last) (0 - 1, 1)) (.over (.part "hand" (.num 6)) (.hook 65 (.num 0)) (1, 2)))
theorem wd {s : Str} (h : (decide (2 ≤ s.cps.size) && decide (s.cps.size ≤ 8) && s.cps.toList.all fun c => decide (97 ≤ c) && decide (c ≤ 122)) = true) : Word s := by
  obtain ⟨h12, h3⟩ := Bool.and_eq_true_iff.mp h
  obtain ⟨h1, h2⟩ := Bool.and_eq_true_iff.mp h12
  refine ⟨of_decide_eq_true h1, of_decide_eq_true h2, fun c hc => ?_⟩
  obtain ⟨a, b⟩ := Bool.and_eq_true_iff.mp (List.all_eq_true.mp h3 c hc)
  exact ⟨of_decide_eq_true a, of_decide_eq_true b⟩
theorem am2 {x y : Int} (h : (decide (1 ≤ y) && decide (Int.gcd x y = 1) && decide (x.natAbs ≤ 100) && decide (y.natAbs ≤ 100)) = true) : AmOk (x, y) := by
  obtain ⟨h123, h4⟩ := Bool.and_eq_true_iff.mp h
  obtain ⟨h12, h3⟩ := Bool.and_eq_true_iff.mp h123
  obtain ⟨h1, h2⟩ := Bool.and_eq_true_iff.mp h12
  exact ⟨of_decide_eq_true h1, of_decide_eq_true h2, of_decide_eq_true h3, of_decide_eq_true h4⟩
theorem num_ok {n : Nat} (h : n ≤ 6) : (Mo.num n).Ok := h
theorem g_1 : FmG W1 := ⟨⟨⟨wd (by decide +kernel), num_ok (by decide)⟩, ⟨by decide, by decide⟩, am2 (by decide +kernel)⟩, by decide +kernel, by decide +kernel⟩
theorem g_2 : FmG W2 := ⟨⟨⟨⟨⟨by decide, by decide⟩, trivial⟩, trivial, am2 (by decide +kernel)⟩, ⟨trivial, ⟨by decide, by decide⟩, am2 (by decide +kernel)⟩, ⟨⟨wd (by decide +kernel), num_ok (by decide)⟩, ⟨wd (by decide +kernel), trivial⟩, am2 (by decide +kernel)⟩, ⟨⟨wd (by decide +kernel), num_ok (by decide)⟩, ⟨⟨by decide, by decide⟩, num_ok (by decide)⟩, am2 (by decide +kernel)⟩⟩, by decide +kernel, by decide +kernel⟩
theorem t_1 : mk W1.t = "(not (over foot@2 a -3/2))" := by decide +kernel
theorem t_2 : mk W2.t = "(if (over A@last floor 7) (or (over floor b 0) (over last@0 floor@last -1) (over hand@6 A@0 1/2)))" := by decide +kernel
theorem am_tup {H : Hp} {t : Addr} {x y : Int} (h : SqT K H t [.int x, .int y]) (n : y ≠ 1) : Dp K H (.ref t) (amD (x, y)) := by
  unfold amD
  rw [if_neg n]
  exact .tup h (.cons (.int _) (.cons (.int _) .nil))
def spLaw (K : PySem.W.Frag) : Sp := fun vs H Q _ => ∃ (c : Addr) (ns : List Int), vs = [.ref c] ∧ SqL K H c (ns.map V.int) ∧ ns.length ≤ 63 ∧ ∀ H', Q (.bl true) H'
theorem ok_law (T : Txt K mg a) : FnOkG P w K mg base CX0 40 a.f_law a.d_law ["_law_cells"] (spLaw K) := by
  obtain ⟨pR, st_Wish_read⟩ := T.sm_Wish_read
  refine funG T.F_law sc_law (fun vs H Q E h => ?_) (fun cdv A outer s H vs Q E hG hr h => ?_)
  · obtain ⟨c, ns, rfl, _⟩ := h
    rfl
  · obtain ⟨c, ns, rfl, hcs, hl, k⟩ := h
    refine ⟨_, PSs.nox ((pss_cons (ps_set (i := 1) sc_law.nd rfl (Or.inl rfl) (pe_tup (pa_cons pe_str (pa_cons (pe_tup (pa_cons pe_str (pa_cons (pe_tup (pa_cons pe_str (pa_cons pe_str (pa_cons pe_int pa_nil)))) (pa_cons (pe_tup (pa_cons pe_str (pa_cons pe_str pa_nil))) (pa_cons (pe_tup (pa_cons (pe_op op_sub pe_int pe_int) (pa_cons pe_int pa_nil))) pa_nil))))) pa_nil))))
      (pss_cons (ps_if (PW.pt (pw_or (pt_cmpR op_ne (pe_callTy (cr_strO T.me_Wish_str.at_ T.me_Wish_str.fn (ok_Wish_str T) (hr.mono (by decide)) T.b_Wish_str pass0) (by rfl) T.z_str (by decide +kernel) (pa_cons (pe_make T.mk_Wish (ok_Wish_init T) (hr.mono (by decide)) (by rfl) T.m_Wish T.b_Wish_init .nil pass0 (pa_cons (pv 1) pa_nil)) pa_nil)) pe_str (nomark _)) (pw_or1 (pt_cmpR (op_neD hr.units) (pe_fld (pe_smeth (pe_glob (v := .ref a.C_Wish) rfl T.m_Wish rfl) st_Wish_read (ok_Wish_read T) (hr.mono (by decide)) T.b_Wish_read pass0 (pa_cons pe_str pa_nil)) rfl) (pv 1) (nomark _))))) (pss_one (ps_ret pe_bl)) pss_nil)
      (pss_cons (ps_set (i := 2) sc_law.nd rfl (Or.inl rfl) pe_str)
      (pss_cons (ps_set (i := 1) sc_law.nd rfl (Or.inl rfl) (pe_tup (pa_cons pe_str (pa_cons (pe_tup (pa_cons pe_str (pa_cons (pe_tup (pa_cons pe_str (pa_cons pe_str (pa_cons pe_str pa_nil)))) (pa_cons (pe_tup (pa_cons pe_str pa_nil)) (pa_cons pe_int pa_nil))))) (pa_cons (pe_tup (pa_cons pe_str (pa_cons (pe_tup (pa_cons pe_str (pa_cons (pe_tup (pa_cons pe_str pa_nil)) (pa_cons (pe_tup (pa_cons pe_str (pa_cons pe_str pa_nil))) (pa_cons pe_int pa_nil))))) (pa_cons (pe_tup (pa_cons pe_str (pa_cons (pe_tup (pa_cons pe_str (pa_cons pe_str (pa_cons pe_int pa_nil)))) (pa_cons (pe_tup (pa_cons pe_str (pa_cons pe_str (pa_cons pe_str pa_nil)))) (pa_cons (pe_op op_sub pe_int pe_int) pa_nil))))) (pa_cons (pe_tup (pa_cons pe_str (pa_cons (pe_tup (pa_cons pe_str (pa_cons pe_str (pa_cons pe_int pa_nil)))) (pa_cons (pe_tup (pa_cons pe_str (pa_cons pe_str (pa_cons pe_int pa_nil)))) (pa_cons (pe_tup (pa_cons pe_int (pa_cons pe_int pa_nil))) pa_nil))))) pa_nil))))) pa_nil)))))
      (pss_cons (ps_if (PW.pt (pw_or (pt_cmpR (op_neD hr.units) (pe_fld (pe_smeth (pe_glob (v := .ref a.C_Wish) rfl T.m_Wish rfl) st_Wish_read (ok_Wish_read T) (hr.mono (by decide)) T.b_Wish_read pass0 (pa_cons (pv 2) pa_nil)) rfl) (pv 1) (nomark _)) (pw_or1 (pt_cmpR op_ne (pe_callTy (cr_strO T.me_Wish_str.at_ T.me_Wish_str.fn (ok_Wish_str T) (hr.mono (by decide)) T.b_Wish_str pass0) (by rfl) T.z_str (by decide +kernel) (pa_cons (pe_make T.mk_Wish (ok_Wish_init T) (hr.mono (by decide)) (by rfl) T.m_Wish T.b_Wish_init .nil pass0 (pa_cons (pv 1) pa_nil)) pa_nil)) (pv 2) (nomark _))))) (pss_one (ps_ret pe_bl)) pss_nil)
      (pss_one (ps_ret (pe_callB (cr_all rfl) (by rfl) T.z_all (by decide +kernel) (pa_cons (pe_lc (own := [("_law_k", 3)]) (g := gName 3) (tt := tYes) rfl sc_law.nd (pi_range1 (by rfl) T.z_range (pa_cons (pe_callB (cr_max2 rfl) (by rfl) T.z_max (by decide +kernel) (pa_cons pe_int (pa_cons (pe_callB (cr_min2 rfl) (by rfl) T.z_min (by decide +kernel) (pa_cons (pe_callB cr_len (by rfl) T.z_len PySem.boot_len (pa_cons (pv 0) pa_nil)) (pa_cons pe_int pa_nil))) pa_nil))) pa_nil)) (blkOk_by (own := [("_law_k", 3)]) (N := ["_law_cells", "_law_plea_here", "_law_line", "_law_k"]) (sc := defScope s_law) (by decide +kernel)) (fun _ _ _ _ _ => pg_name (i := 3) sc_law.nd rfl (Or.inl rfl)) (fun _ _ _ _ _ => pts_nil) (fun _ _ _ _ _ => by exact (pe_call (ok_right T) (hr.mono (by decide)) (by rfl) T.m_right T.F_right.kp T.b_right .nil pass0 (pa_cons (pe_call (ok_bag T) (hr.mono (by decide)) (by rfl) T.m_bag T.F_bag.kp T.b_bag .nil pass0 (pa_cons (pv 0) (pa_cons (pv 3) pa_nil))) pa_nil)))) pa_nil)))))))))), ?_⟩
    have eσ : ∀ N : List Str, N.length = 4 → L2.start N [V.ref c] = [some (V.ref c), none, none, none] := fun N hN => by unfold L2.start; rw [hN]; rfl
    rw [eσ _ (by rfl)]
    walk_at "r"
    refine w_newT (by show 3 ≤ 100000; decide) fun at1 aH1 an1 ae1 ah1 => ?_
    walk_at "r"
    refine w_newT (by show 2 ≤ 100000; decide) fun at2 aH2 an2 ae2 ah2 => ?_
    walk_at "r"
    refine w_newT (by show 2 ≤ 100000; decide) fun at3 aH3 an3 ae3 ah3 => ?_
    walk_at "r"
    refine w_newT (by show 4 ≤ 100000; decide) fun at4 aH4 an4 ae4 ah4 => ?_
    walk_at "r"
    refine w_newT (by show 2 ≤ 100000; decide) fun at5 aH5 an5 ae5 ah5 => ?_
    have aq1 := seqT_same (ae2.trans (ae3.trans (ae4.trans (ae5)))) (SqT.of (K := K) ah1)
    have aq2 := seqT_same (ae3.trans (ae4.trans (ae5))) (SqT.of (K := K) ah2)
    have aq3 := seqT_same (ae4.trans (ae5)) (SqT.of (K := K) ah3)
    have aq4 := seqT_same (ae5) (SqT.of (K := K) ah4)
    have aq5 := SqT.of (K := K) ah5
    have ae0 := ae1.trans (ae2.trans (ae3.trans (ae4.trans (ae5))))
    have d1 : Dp K aH5 (.ref at5) W1.d := (.tup aq5 (.cons (.str _) (.cons (.tup aq4 (.cons (.str _) (.cons (.tup aq1 (.cons (.str _) (.cons (.str _) (.cons (.int _) .nil)))) (.cons (.tup aq2 (.cons (.str _) (.cons (.str _) .nil))) (.cons (am_tup aq3 (by decide)) .nil))))) .nil)))
    walk_at "r"
    refine mkW_leaf d1 g_1 fun p1 G1 m1 f1 w1 => ?_
    walk_at "r"
    refine strW_leaf w1 fun G2 f2 => ?_
    rw [t_1]
    walk_at "r"
    refine ⟨rfl, ?_⟩
    walk_at "r"
    refine ⟨W1, by rw [t_1], g_1, fun p3 G3 m3 f3 w3 => ?_⟩
    obtain ⟨dx3, t3, h3, c3, _⟩ := id w3
    refine ⟨p3, a.C_Wish, dx3, _, .ref t3, rfl, h3, T.cl_Wish, T.nW, rfl, ?_⟩
    walk_at "r"
    have d1' := Dp.same ((f1.trans f2).trans f3) _ d1
    refine ⟨_, _, c3, d1', g_1.sh, g_1.sh, ?_⟩
    rw [g_1.refl]
    refine ⟨false, rfl, iteF ?_⟩
    walk_at "r"
    refine w_newT (by show 3 ≤ 100000; decide) fun bt1 bH1 bn1 be1 bh1 => ?_
    walk_at "r"
    refine w_newT (by show 1 ≤ 100000; decide) fun bt2 bH2 bn2 be2 bh2 => ?_
    walk_at "r"
    refine w_newT (by show 4 ≤ 100000; decide) fun bt3 bH3 bn3 be3 bh3 => ?_
    walk_at "r"
    refine w_newT (by show 1 ≤ 100000; decide) fun bt4 bH4 bn4 be4 bh4 => ?_
    walk_at "r"
    refine w_newT (by show 2 ≤ 100000; decide) fun bt5 bH5 bn5 be5 bh5 => ?_
    walk_at "r"
    refine w_newT (by show 4 ≤ 100000; decide) fun bt6 bH6 bn6 be6 bh6 => ?_
    walk_at "r"
    refine w_newT (by show 3 ≤ 100000; decide) fun bt7 bH7 bn7 be7 bh7 => ?_
    walk_at "r"
    refine w_newT (by show 3 ≤ 100000; decide) fun bt8 bH8 bn8 be8 bh8 => ?_
    walk_at "r"
    refine w_newT (by show 4 ≤ 100000; decide) fun bt9 bH9 bn9 be9 bh9 => ?_
    walk_at "r"
    refine w_newT (by show 3 ≤ 100000; decide) fun bt10 bH10 bn10 be10 bh10 => ?_
    walk_at "r"
    refine w_newT (by show 3 ≤ 100000; decide) fun bt11 bH11 bn11 be11 bh11 => ?_
    walk_at "r"
    refine w_newT (by show 2 ≤ 100000; decide) fun bt12 bH12 bn12 be12 bh12 => ?_
    walk_at "r"
    refine w_newT (by show 4 ≤ 100000; decide) fun bt13 bH13 bn13 be13 bh13 => ?_
    walk_at "r"
    refine w_newT (by show 4 ≤ 100000; decide) fun bt14 bH14 bn14 be14 bh14 => ?_
    walk_at "r"
    refine w_newT (by show 3 ≤ 100000; decide) fun bt15 bH15 bn15 be15 bh15 => ?_
    have bq1 := seqT_same (be2.trans (be3.trans (be4.trans (be5.trans (be6.trans (be7.trans (be8.trans (be9.trans (be10.trans (be11.trans (be12.trans (be13.trans (be14.trans (be15)))))))))))))) (SqT.of (K := K) bh1)
    have bq2 := seqT_same (be3.trans (be4.trans (be5.trans (be6.trans (be7.trans (be8.trans (be9.trans (be10.trans (be11.trans (be12.trans (be13.trans (be14.trans (be15))))))))))))) (SqT.of (K := K) bh2)
    have bq3 := seqT_same (be4.trans (be5.trans (be6.trans (be7.trans (be8.trans (be9.trans (be10.trans (be11.trans (be12.trans (be13.trans (be14.trans (be15)))))))))))) (SqT.of (K := K) bh3)
    have bq4 := seqT_same (be5.trans (be6.trans (be7.trans (be8.trans (be9.trans (be10.trans (be11.trans (be12.trans (be13.trans (be14.trans (be15))))))))))) (SqT.of (K := K) bh4)
    have bq5 := seqT_same (be6.trans (be7.trans (be8.trans (be9.trans (be10.trans (be11.trans (be12.trans (be13.trans (be14.trans (be15)))))))))) (SqT.of (K := K) bh5)
    have bq6 := seqT_same (be7.trans (be8.trans (be9.trans (be10.trans (be11.trans (be12.trans (be13.trans (be14.trans (be15))))))))) (SqT.of (K := K) bh6)
    have bq7 := seqT_same (be8.trans (be9.trans (be10.trans (be11.trans (be12.trans (be13.trans (be14.trans (be15)))))))) (SqT.of (K := K) bh7)
    have bq8 := seqT_same (be9.trans (be10.trans (be11.trans (be12.trans (be13.trans (be14.trans (be15))))))) (SqT.of (K := K) bh8)
    have bq9 := seqT_same (be10.trans (be11.trans (be12.trans (be13.trans (be14.trans (be15)))))) (SqT.of (K := K) bh9)
    have bq10 := seqT_same (be11.trans (be12.trans (be13.trans (be14.trans (be15))))) (SqT.of (K := K) bh10)
    have bq11 := seqT_same (be12.trans (be13.trans (be14.trans (be15)))) (SqT.of (K := K) bh11)
    have bq12 := seqT_same (be13.trans (be14.trans (be15))) (SqT.of (K := K) bh12)
    have bq13 := seqT_same (be14.trans (be15)) (SqT.of (K := K) bh13)
    have bq14 := seqT_same (be15) (SqT.of (K := K) bh14)
    have bq15 := SqT.of (K := K) bh15
    have be0 := be1.trans (be2.trans (be3.trans (be4.trans (be5.trans (be6.trans (be7.trans (be8.trans (be9.trans (be10.trans (be11.trans (be12.trans (be13.trans (be14.trans (be15))))))))))))))
    have d2 : Dp K bH15 (.ref bt15) W2.d := (.tup bq15 (.cons (.str _) (.cons (.tup bq3 (.cons (.str _) (.cons (.tup bq1 (.cons (.str _) (.cons (.str _) (.cons (.str _) .nil)))) (.cons (.tup bq2 (.cons (.str _) .nil)) (.cons (am_int 7) .nil))))) (.cons (.tup bq14 (.cons (.str _) (.cons (.tup bq6 (.cons (.str _) (.cons (.tup bq4 (.cons (.str _) .nil)) (.cons (.tup bq5 (.cons (.str _) (.cons (.str _) .nil))) (.cons (am_int 0) .nil))))) (.cons (.tup bq9 (.cons (.str _) (.cons (.tup bq7 (.cons (.str _) (.cons (.str _) (.cons (.int _) .nil)))) (.cons (.tup bq8 (.cons (.str _) (.cons (.str _) (.cons (.str _) .nil)))) (.cons (am_int _) .nil))))) (.cons (.tup bq13 (.cons (.str _) (.cons (.tup bq10 (.cons (.str _) (.cons (.str _) (.cons (.int _) .nil)))) (.cons (.tup bq11 (.cons (.str _) (.cons (.str _) (.cons (.int _) .nil)))) (.cons (am_tup bq12 (by decide)) .nil))))) .nil))))) .nil))))
    walk_at "r"
    refine ⟨rfl, ?_⟩
    walk_at "r"
    refine ⟨W2, by rw [t_2], g_2, fun p5 G5 m5 f5 w5 => ?_⟩
    walk_at "r"
    obtain ⟨dx5, t5, h5, c5, _⟩ := id w5
    refine ⟨p5, a.C_Wish, dx5, _, .ref t5, rfl, h5, T.cl_Wish, T.nW, rfl, ?_⟩
    walk_at "r"
    have d2' := Dp.same f5 _ d2
    refine ⟨_, _, c5, d2', g_2.sh, g_2.sh, ?_⟩
    rw [g_2.refl]
    refine ⟨false, rfl, iteF ?_⟩
    walk_at "r"
    refine mkW_leaf d2' g_2 fun p6 G6 m6 f6 w6 => ?_
    walk_at "r"
    refine strW_leaf w6 fun G7 f7 => ?_
    rw [t_2]
    walk_at "r"
    rw [if_neg (by simp)]
    walk_at "r"
    have eH : Same H G7 := (ae0.trans ((f1.trans f2).trans f3)).trans ((be0.trans f5).trans (f6.trans f7))
    have sq : SqL K G7 c (ns.map V.int) := seqL_same eH hcs
    refine w_lenL sq ?_
    walk_at "r"
    have nn : ∀ z : Int, z ≤ 63 → (if (if (6 : Int) < z then (6 : Int) else z) > 2 then (if (6 : Int) < z then (6 : Int) else z) else 2) ≤ 6 ∧ 2 ≤ (if (if (6 : Int) < z then (6 : Int) else z) > 2 then (if (6 : Int) < z then (6 : Int) else z) else 2) := fun z hz => by split <;> (try split) <;> omega
    obtain ⟨b1, b2⟩ := nn ((ns.map V.int).length : Int) (by rw [List.length_map]; omega)
    refine ⟨_, rfl, ?_, ?_, ?_⟩
    · omega
    · omega
    refine cmS walk_rng0 (by omega) (fun _ _ => trivial) (fun i v _ => v = .bl true) (fun _ _ _ _ _ h => h) (fun i x G G' hi e hy Q' kq => ?_) (fun D ys G12 n12 f12 h12 hn12 hP => ?_)
    · obtain ⟨rfl, rfl⟩ := hy
      refine ⟨rfl, ?_⟩
      walk_at "r"
      refine ⟨c, ns, i, rfl, seqL_same e sq, by omega, fun b B1 nb eb bag => ?_⟩
      walk_at "r"
      exact ⟨b, rfl, bag, fun B2 k2 => kq _ _ (fun x o hx => k2.keep _ _ (ne_of_none hx nb) (eb _ _ hx)) rfl⟩
    walk_at "r"
    exact all_P h12 hP (k _)
end
end RK17

open PySem PySem.W PySem.Calls PyProof.Rows
set_option maxRecDepth 100000 in
set_option maxHeartbeats 0 in
theorem PySem.Challenge.cw_slackstrings_k17_whole_texts_of_wishes_holds : PySem.Challenge.rw_slackstrings_k17_whole_texts_of_wishes.Holds := by
  w_on; o_law
  refine HandSHeadRun.head_imp (r := OpenLaw.row PySem.Challenge.rw_slackstrings_k17_whole_texts_of_wishes) (q := view (OpenLaw.row PySem.Challenge.rw_slackstrings_k17_whole_texts_of_wishes).prog [0, 113]) (H := RK17.hk) (ob := RK17.ob) (M := 14000) (loose := RK17.headNames) (d := HandSHeadRun.topDef (OpenLaw.row PySem.Challenge.rw_slackstrings_k17_whole_texts_of_wishes).prog 113) (kwd := []) RK17.ob_eq
    RK17.run (by kernel_rfl) (by kernel_rfl) (by kernel_rfl) (by rfl) (by first | assumption | decide +kernel) (by decide +kernel) ⟨rfl, rfl, rfl, rfl, rfl, by decide +kernel⟩ ?hw ?hc
  case hw => w_witness2
  case hc =>
    refine RK17.walk_GE (l := PySem.Challenge.rw_slackstrings_k17_whole_texts_of_wishes) (n := 63) (k := 40) (x := "_law_cells") (CX := L2.CX0) rfl (by decide) (by kernel_rfl) ⟨rfl, by decide, by decide⟩ ?F (fun _ _ _ _ z => z)
    intro w mg fa h Y G hmg0
    obtain ⟨K, KX, c⟩ := Y
    have hmg : mg ("law" : PySem.Str) = some (.ref fa) := by
      have e : (HandSHeadRun.topDef (OpenLaw.row PySem.Challenge.rw_slackstrings_k17_whole_texts_of_wishes).prog 113).name = ("law" : PySem.Str) := by kernel_rfl
      rw [← e]
      exact hmg0
    obtain ⟨a, T⟩ := RK17.facts (w := w) KX G c
    rw [T.m_law] at hmg
    cases hmg
    refine ⟨K, a.d_law, RK17.spLaw K, KX, fun s u => ?_, fun H a ns hl hS => ⟨a, ns, rfl, hS, hl, fun _ => rfl⟩, fun base _ _ => RK17.ok_law T⟩
    obtain ⟨oc, od, kV, doc, pm, an, cdv, ct, osl, e, _, _⟩ := T.F_law.ex
    rw [e]
    exact .of_eq rfl
