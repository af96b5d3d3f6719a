import PyProof.Rows.All
import HandS.ClsMeth
import HandS.Comp
import HandS.Conv
import HandS.Deep
import HandS.Defaults
import HandS.DictComp
import HandS.EndOwn
import HandS.EndTab
import HandS.Ends
import HandS.Exc
import HandS.ExcField
import HandS.ExcInit
import HandS.ExcIs
import HandS.ExcValue
import HandS.FStr
import HandS.ForMost
import HandS.Gcd
import HandS.HotCalls
import HandS.IsInst
import HandS.Iter
import HandS.Lambda
import HandS.MakeKw
import HandS.MakeKwOnly
import HandS.RaiseMore
import HandS.ReplaceDef
import HandS.ReplaceLit
import HandS.SetFor
import HandS.SlotsOwn
import HandS.Small
import HandS.Star
import HandS.Style
import HandS.Text
import HandS.TupAny
import HandS.Walk
import HandS.Wide
import HandS.Zip
import KE.GoesNew
import KE.KOpsOwn
import KE.KTryMore
import OpenK.AllK
import PyProof.CallFns
import PyProof.CallStr
import PyProof.EqKinds
import PyProof.InstNe
import PyProof.MeetsStr3
import PyProof.ReprRoads
import PyProof.Rows.EqMixed
import PyProof.StrHeap
import PyProof.StrReplace2
import Wide.All
import Wide.FinOn
import OpenK.AllK
import Wide.All
import Wide.FinOn
import PySem.Challenge.RW_slackstrings_k08_whole_heights_are_least
set_option Elab.async false
set_option linter.all false
set_option maxRecDepth 100000
set_option maxHeartbeats 4000000
/-! Own operators of a class, over the layer. -/
namespace PySem.RkX
open PySem PySem.W
section
variable {prog : Program} {w : World} {A : Around} {E : Value → Shared → Prop} {s : Shared} {K : Frag} {x C L f : Addr} {h₀ : Heap} {m : Str → Option Value} {ox : Obj} {od : Option Obj}

/-- int op instance, int's own slot declines -/
theorem bin_IO {op : Operator} {i : Int} {t : Tok} {id : String} {g0 : Addr} {Q : Value → Shared → Prop} (X : K.In s.heap) (I : InstAt s.heap x ox C od) (hc : selfFirst K C = true)
    (hs : findIn K (.ref C) (PySem.dunder op.info.2) = some (some (.ref g0))) (hr : findIn K (.ref C) (dunderR op.info.2) = some (some (.ref f))) (hf : isFn K (.ref f) = true)
    (hsub : subIn K (.ref C) (.type "int") = some false) (fillsT : fillsNumberSlot (.type "int") op.info.2 = pure true) (slot : Slot "int" (PySem.dunder op.info.2) id)
    (hd : ∀ Q : Value → Shared → Prop, Q .notImplemented s → wpAny (model prog w) A (call (.builtin id) [.int i t, .ref x]) Q E s)
    (h : wpAny (model prog w) A (call (.ref f) [.ref x, .int i t]) (CmpBack Q) E s) : wpAny (model prog w) A (binaryOp op (.int i t) (.ref x)) Q E s := by
  obtain ⟨cd, rest, hcd, hm⟩ := ksp_first hc
  rcases hi : op.info with ⟨sym, nm'⟩
  rw [hi] at hs hr fillsT slot
  dsimp only at hs hr fillsT slot
  have one := ksp_try X I hr hf h
  have two : wpAny (model prog w) A (tryMethod (.int i t) (PySem.dunder nm') (.ref x)) (fun r s' => r = none ∧ s' = s) E s :=
    wpAny_tryMethod_declines (typeIs_int s i t) slot (hd _ ⟨rfl, rfl, rfl⟩)
  obtain ⟨hh, g, d, tt, os⟩ := s
  have L1 : Looks (model prog w) hh (typeOf (.ref x)) (.ref C) := I.type
  have L2 : Looks (model prog w) hh (typeOf (.int i t)) (.type "int") := Looks.of_pure rfl
  have L3 : Looks (model prog w) hh (fillsNumberSlot (.ref C) nm') true := fills_K X hcd hm hs
  have L4 : Looks (model prog w) hh (fillsNumberSlot (.type "int") nm') true := Looks.of_pure fillsT
  have L5 : Looks (model prog w) hh (isSubtype (.ref C) (.type "int")) false := looks_subIn X hsub
  have L7 : Looks (model prog w) hh (numberSlotInPython (.type "int") nm') false := Looks.of_pure rfl
  have hne : (Value.type "int" == Value.ref C) = false := Bool.eq_false_iff.mpr fun q => by cases beq_iff_eq.mp q
  simp only [binaryOp, hi]
  refine wpAny_holding (wpAny_bind ?_)
  unfold binaryOp1
  refine wpAny_bind (L2.at (wpAny_bind (L1.at (wpAny_bind (L4.at ?_)))))
  simp only [hne, Bool.false_eq_true, if_false]
  ksp_lk
  refine wpAny_mono two (fun r s' hr' => ?_) fun _ _ e => e
  obtain ⟨rfl, rfl⟩ := hr'
  ksp_lk
  refine wpAny_mono one (fun r s' hr' => ?_) fun _ _ e => e
  obtain ⟨v, rfl, hq⟩ := hr'
  ksp_lk
  exact hq

/-- int == instance: int's own __eq__ declines, the class's one is asked -/
theorem eq_IO {i : Int} {t : Tok} {Q : Value → Shared → Prop} (hu : A.units < cLine) (X : K.In s.heap) (I : InstAt s.heap x ox C od)
    (hs : findIn K (.ref C) "__eq__" = some (some (.ref f))) (hf : isFn K (.ref f) = true) (hsub : subIn K (.ref C) (.type "int") = some false)
    (hd : ∀ Q : Value → Shared → Prop, Q .notImplemented s → wpAny (model prog w) A (call (.builtin "int.__eq__") [.int i t, .ref x]) Q E s)
    (h : wpAny (model prog w) A (call (.ref f) [.ref x, .int i t]) (CmpBack Q) E s) : wpAny (model prog w) A (richCompare .Eq (.int i t) (.ref x)) Q E s := by
  have one : wpAny (model prog w) A (tryCompare (.ref x) "__eq__" (.int i t)) (fun r s' => ∃ v, r = some v ∧ Q v s') E s := by
    unfold tryCompare
    refine wpAny_bind (ifBound_K X I hs hf (wpAny_mono h (fun v s' hv => ?_) fun _ _ e => e))
    cases v <;> first | exact hv.elim | exact wpAny_pure ⟨_, rfl, hv⟩
  have two : wpAny (model prog w) A (tryCompare (.int i t) "__eq__" (.ref x)) (fun r s' => r = none ∧ s' = s) E s :=
    wpAny_tryCompare_declines (typeIs_int s i t) F.slot_int_eq (hd _ ⟨rfl, rfl, rfl⟩)
  have L2 : Looks (model prog w) s.heap (typeOf (.int i t)) (.type "int") := Looks.of_pure rfl
  have hne0 : (Value.type "int" == Value.ref C) = false := Bool.eq_false_iff.mpr fun q => by cases beq_iff_eq.mp q
  have hne : (Value.type "int" != Value.ref C) = true := by
    rw [bne, hne0]
    rfl
  unfold richCompare
  simp only [(typeIs_int s i t).oneThing_none]
  refine wpAny_holding (wpAny_bind (wpAny_cRoomFor hu ?_))
  rw [show cmpInfo .Eq = ("==", ("__eq__" : Str), ("__eq__" : Str)) from rfl]
  dsimp only
  refine wpAny_bind (L2.here (wpAny_bind (I.type.here ?_)))
  simp only [hne, if_true]
  refine wpAny_bind ((looks_subIn X hsub).here ?_)
  simp only [Bool.false_eq_true, if_false, Bool.not_false, if_true]
  refine wpAny_bind (wpAny_mono two (fun r s' hr' => ?_) fun _ _ e => e)
  obtain ⟨rfl, rfl⟩ := hr'
  refine wpAny_bind (wpAny_mono one (fun r s' hr' => ?_) fun _ _ e => e)
  obtain ⟨v, rfl, hq⟩ := hr'
  exact wpAny_pure hq

/-- int's slots decline an object that holds no int -/
def NoPrim (h : Heap) (x : Addr) : Prop := ∃ o, h.get? x = some o ∧ ∀ i t, o.data ≠ .prim (.int i t)
theorem asInt_ref {Q : Option Int → Shared → Prop} {M : Model} (h : NoPrim s.heap x) (q : Q none s) : wpAny M A (asInt? (.ref x)) Q E s := by
  obtain ⟨o, ho, hn⟩ := h
  unfold asInt?
  refine wpAny_bind (wpAny_load ho ?_)
  split
  · rename_i i t e
    exact absurd e (hn i t)
  · exact wpAny_pure q

/-- instance != instance: object's own __ne__ asks the class's __eq__ -/
theorem ne_entry {y : Addr} {Q : Fin → Shared → Prop} (hu : A.units < cLine) (X : K.In s.heap) (I : InstAt s.heap x ox C od) (hs : findIn K (.ref C) "__eq__" = some (some (.ref f))) (hf : isFn K (.ref f) = true)
    (h : wpAny (model prog w) A (call (.ref f) [.ref x, .ref y]) (fun v s' => ∃ b, v = .bool b ∧ Q (.done (.ret (.bool (!b)))) s') E s) :
    wpAny (model prog w) A (Builtin.«object.__ne__» ⟨[.ref x, .ref y], []⟩) Q E s := by
  have one : wpAny (model prog w) A (callSpecialIfBound? (.ref x) "__eq__" [.ref y]) (fun r s' => ∃ b, r = some (.bool b) ∧ Q (.done (.ret (.bool (!b)))) s') E s :=
    ifBound_K X I hs hf (wpAny_mono h (fun v s' ⟨b, e, q⟩ => ⟨b, by rw [e], q⟩) fun _ _ e => e)
  obtain ⟨hp, g, d, tk, os⟩ := s
  unfold Builtin.«object.__ne__»
  repeat (first
    | with_reducible refine wpAny_cRoomFor hu ?_
    | (refine wpAny_bind (m := callSpecialIfBound? (.ref x) (Str.ofString "__eq__") [.ref y]) (wpAny_mono one (fun r s' hr => by
          obtain ⟨b, rfl, hq⟩ := hr
          repeat (first | exact hq | exact wpAny_pure hq | exact wpAny_truthy_bool hq | (refine wpAny_bind (m := truthy (.bool _)) (wpAny_truthy_bool ?_)) | wp_step)) fun _ _ e => e))
    | wp_step)
theorem ne_check {y : Addr} {Q : Unit → Shared → Prop} {M : Model} (X : K.In s.heap) (I : InstAt s.heap x ox C od) (hob : subIn K (.ref C) (.type "object") = some true) (hq : Q () s) :
    wpAny M A (checkBuiltinCall "object.__ne__" ⟨[.ref x, .ref y], []⟩) Q E s := by
  have ha := F.cmpArgs_ne (.ref x) (.ref y)
  simp only [checkBuiltinCall, F.cmpKind_ne, F.cmpSplit_ne]
  refine wpAny_bind ?_
  unfold isInstance
  refine wpAny_bind (I.type.here ((looks_subIn X hob).here ?_))
  cases hsig : Manifest.signature? "object.__ne__" with
  | none => repeat (first | exact hq | exact wpAny_pure hq | wp_step)
  | some sig =>
    simp only [argsOk, hsig] at ha
    have h2 : Bind.checkArgs "object.__ne__" sig ⟨[.ref x, .ref y], []⟩ = pure () := ha
    repeat (first | exact hq | exact wpAny_pure hq | (rw [h2]; exact wpAny_pure hq) | wp_step)
theorem ne_OO {y : Addr} {Q : Value → Shared → Prop} (hu : A.units + 1 < cLine) (X : K.In s.heap) (I : InstAt s.heap x ox C od) (hy : Looks (model prog w) s.heap (typeOf (.ref y)) (.ref C))
    (hs : findIn K (.ref C) "__eq__" = some (some (.ref f))) (hf : isFn K (.ref f) = true) (hn : findIn K (.ref C) "__ne__" = some (some (.builtin "object.__ne__"))) (hob : subIn K (.ref C) (.type "object") = some true)
    (h : wpAny (model prog w) A.in1 (call (.ref f) [.ref x, .ref y]) (fun v s' => ∃ b, v = .bool b ∧ Q (.bool (!b)) s') E s) : wpAny (model prog w) A (richCompare .NotEq (.ref x) (.ref y)) Q E s := by
  have called : wpAny (model prog w) A (call (.builtin "object.__ne__") [.ref x, .ref y]) (fun v s' => ∃ b, v = .bool b ∧ Q (.bool b) s') E s := by
    refine wpAny_call (codeAny_call_builtin F.cmp_object.ne.plain F.cmpEntry_ne (ne_check X I hob ?_))
    refine ne_entry (A := A.in1) hu X I hs hf (wpAny_mono h (fun v s' hv => ?_) fun _ _ e => e)
    obtain ⟨b, rfl, hq⟩ := hv
    exact ⟨b, rfl, _, rfl, hq⟩
  have bound : wpAny (model prog w) A (callSpecialIfBound? (.ref x) "__ne__" [.ref y]) (fun r s' => ∃ b, r = some (.bool b) ∧ Q (.bool b) s') E s := by
    simp only [callSpecialIfBound?, bindSpecialIfBound?]
    refine wpAny_holding (wpAny_bind (wpAny_bind (wpAny_bind (I.type.here ((looks_findIn X hn).here ?_)))))
    have sb := F.cmp_object.ne.bind
    simp only [sb]
    refine wpAny_bind (wpAny_askSetting (wpAny_ite ?_))
    have fin : wpAny (model prog w) A (call (.builtin "object.__ne__") ([.ref x] ++ [.ref y]) >>= fun v => pure (some v)) (fun r s' => ∃ b, r = some (.bool b) ∧ Q (.bool b) s') E s :=
      wpAny_bind (wpAny_mono called (fun v s' h' => wpAny_pure (by obtain ⟨b, rfl, q⟩ := h'; exact ⟨b, rfl, q⟩)) fun _ _ h' => h')
    split
    · exact wpAny_bind (wpAny_pure (wpAny_pure fin))
    · exact wpAny_tryCatch (wpAny_bind (wpAny_pure (wpAny_pure fin)))
  have one : wpAny (model prog w) A (tryCompare (.ref x) "__ne__" (.ref y)) (fun r s' => ∃ b, r = some (.bool b) ∧ Q (.bool b) s') E s := by
    unfold tryCompare
    refine wpAny_bind (wpAny_mono bound (fun r s' hr => ?_) fun _ _ e => e)
    obtain ⟨b, rfl, q⟩ := hr
    exact wpAny_pure ⟨b, rfl, q⟩
  unfold richCompare
  simp only [oneThing_ref]
  refine wpAny_holding (wpAny_bind (wpAny_cRoomFor (Nat.lt_of_succ_lt hu) ?_))
  rw [cmpInfo_NotEq]
  dsimp only
  refine wpAny_bind (I.type.here (wpAny_bind (hy.here ?_)))
  rw [show (Value.ref C != Value.ref C) = false from by simp]
  simp only [Bool.false_eq_true, if_false]
  refine wpAny_bind (wpAny_pure ?_)
  simp only [Bool.false_eq_true, if_false]
  refine wpAny_bind (wpAny_mono one (fun r s' hr => ?_) fun _ _ e => e)
  obtain ⟨b, rfl, q⟩ := hr
  exact wpAny_pure q
end
section
variable {x : Addr} (a : Int) (t : Tok)
theorem dec_add : GivesAt (fun s => NoPrim s.heap x) (Builtin.«int.__add__» ⟨[.int a t, .ref x], []⟩) (.val .notImplemented) := by
  intro prog w A R s hP h
  obtain ⟨hp, g, d, tk, os⟩ := s
  wp_walk
  obtain ⟨o, ho, hn⟩ := hP
  refine wpAny_load ho ?_
  split
  · rename_i i t e
    exact absurd e (hn i t)
  · wp_walk
    exact h
theorem dec_sub : GivesAt (fun s => NoPrim s.heap x) (Builtin.«int.__sub__» ⟨[.int a t, .ref x], []⟩) (.val .notImplemented) := by
  intro prog w A R s hP h
  obtain ⟨hp, g, d, tk, os⟩ := s
  wp_walk
  obtain ⟨o, ho, hn⟩ := hP
  refine wpAny_load ho ?_
  split
  · rename_i i t e
    exact absurd e (hn i t)
  · wp_walk
    exact h
theorem dec_mul : GivesAt (fun s => NoPrim s.heap x) (Builtin.«int.__mul__» ⟨[.int a t, .ref x], []⟩) (.val .notImplemented) := by
  intro prog w A R s hP h
  obtain ⟨hp, g, d, tk, os⟩ := s
  wp_walk
  obtain ⟨o, ho, hn⟩ := hP
  refine wpAny_load ho ?_
  split
  · rename_i i t e
    exact absurd e (hn i t)
  · wp_walk
    exact h
theorem dec_eq : GivesAt (fun s => NoPrim s.heap x) (Builtin.«int.__eq__» ⟨[.int a t, .ref x], []⟩) (.val .notImplemented) := by
  intro prog w A R s hP h
  obtain ⟨hp, g, d, tk, os⟩ := s
  wp_walk
  obtain ⟨o, ho, hn⟩ := hP
  refine wpAny_load ho ?_
  split
  · rename_i i t e
    exact absurd e (hn i t)
  · wp_walk
    exact h
end
end PySem.RkX

namespace RK
open PySem PySem.Spec PyProof.Rows L2

/-! ### rules for own operators, by values -/
section
variable {X : Cx} {CX : CXT} {n : Nat} {C f g0 : Addr} {fd : FuncData} {ps : List Str} {sp : Sp} {E : XK}
theorem inst_at {pins : List (Addr × Obj)} {σ : L2.St} {H : Hp} {s : Shared} {a dx : Addr} {fs : List (Str × V)} (I : Inv X pins σ H s) (h : H a = some (.ins C dx fs)) : ∃ od, PySem.W.InstAt s.heap a (PySem.W.instObj C dx) C (some od) := by
  obtain ⟨mA, J, _⟩ := ins_get I.hok h
  obtain ⟨od, J, _⟩ := J.look
  exact ⟨od, J⟩
theorem inst_np {h : Heap} {a dx : Addr} {od : Option Obj} (J : PySem.W.InstAt h a (PySem.W.instObj C dx) C od) : PySem.RkX.NoPrim h a := ⟨_, J.at_, fun i t e => nomatch e⟩
/-- a op b, both instances of the class at C -/
def rOwn2 (C : Addr) (sp : Sp) (E : XK) : R2 := fun x y H Q => ∃ a b dx fs dy gs, x = .ref a ∧ y = .ref b ∧ H a = some (.ins C dx fs) ∧ H b = some (.ins C dy gs) ∧ sp [x, y] H Q E
theorem op_own2 {op : Operator} (hc : PySem.W.selfFirst X.K C = true) (hs : PySem.W.findIn X.K (.ref C) (PySem.dunder op.info.2) = some (some (.ref f))) (hf : PySem.W.isFn X.K (.ref f) = true)
    (F : FnOk X.prog X.w X.K X.mg X.base CX n f fd ps sp) (hr : Room n X.A) (hb : Binds X.K fd ps []) (hx : Passes CX X E) : OpR X (binaryOp op) (rOwn2 C sp E) := by
  intro pins s σ H x y v u Q I rx ry h
  obtain ⟨a, b, dx, fs, dy, gs, rfl, rfl, ha, hb', q⟩ := h
  cases (show v = Value.ref a from rx)
  cases (show u = Value.ref b from ry)
  obtain ⟨od, J⟩ := inst_at I ha
  obtain ⟨od', J'⟩ := inst_at I hb'
  obtain ⟨m, hF⟩ := I.fr
  refine PySem.W.binop_K hF I.ok.mod.kin J J'.type hc hs hf ?_
  refine wpAny_mono (run_fn (vs := [V.ref a, V.ref b]) F hr hb .nil hx I (.cons rfl (.cons rfl .nil)) q) (fun w s' z => ?_) fun _ _ x => x
  obtain ⟨z', H', I', rz, qz⟩ := z
  exact SlX.cmpback rz ⟨z', H', I', rz, qz⟩
/-- a op int -/
def rOwnI (C : Addr) (sp : Sp) (E : XK) : R2 := fun x y H Q => ∃ a dx fs i, x = .ref a ∧ y = .int i ∧ H a = some (.ins C dx fs) ∧ sp [x, y] H Q E
theorem op_ownI {op : Operator} {fo ro rc : Option Value} (hc : PySem.W.selfFirst X.K C = true) (hs : PySem.W.findIn X.K (.ref C) (PySem.dunder op.info.2) = some (some (.ref f))) (hf : PySem.W.isFn X.K (.ref f) = true)
    (hr' : PySem.W.findIn X.K (.ref C) (dunderR op.info.2) = some rc) (hp : rc = none ∨ ∃ g : Addr, rc = some (.ref g))
    (h1 : PySem.W.findIn X.K (.type "int") (PySem.dunder op.info.2) = some fo) (h2 : PySem.W.findIn X.K (.type "int") (dunderR op.info.2) = some ro) (hsub : PySem.W.subIn X.K (.type "int") (.ref C) = some false)
    (F : FnOk X.prog X.w X.K X.mg X.base CX n f fd ps sp) (hr : Room n X.A) (hb : Binds X.K fd ps []) (hx : Passes CX X E) : OpR X (binaryOp op) (rOwnI C sp E) := by
  intro pins s σ H x y v u Q I rx ry h
  obtain ⟨a, dx, fs, i, rfl, rfl, ha, q⟩ := h
  cases (show v = Value.ref a from rx)
  obtain ⟨t, rfl⟩ := (show ∃ t, u = Value.int i t from ry)
  obtain ⟨od, J⟩ := inst_at I ha
  obtain ⟨m, hF⟩ := I.fr
  refine PySem.W.ksp_binT hF I.ok.mod.kin J rfl hc hs hf hr' hp h1 h2 hsub ?_
  refine wpAny_mono (run_fn (vs := [V.ref a, V.int i]) F hr hb .nil hx I (.cons rfl (.cons ⟨t, rfl⟩ .nil)) q) (fun w s' z => ?_) fun _ _ x => x
  obtain ⟨z', H', I', rz, qz⟩ := z
  exact SlX.cmpback rz ⟨z', H', I', rz, qz⟩
/-- int op a: by the class's reflected def -/
def rIOwn (C : Addr) (sp : Sp) (E : XK) : R2 := fun x y H Q => ∃ a dx fs i, x = .int i ∧ y = .ref a ∧ H a = some (.ins C dx fs) ∧ sp [y, x] H Q E
theorem op_Iown {op : Operator} {id : String} {B : Builtin} (hc : PySem.W.selfFirst X.K C = true) (hs : PySem.W.findIn X.K (.ref C) (PySem.dunder op.info.2) = some (some (.ref g0)))
    (hr' : PySem.W.findIn X.K (.ref C) (dunderR op.info.2) = some (some (.ref f))) (hf : PySem.W.isFn X.K (.ref f) = true) (hsub : PySem.W.subIn X.K (.ref C) (.type "int") = some false)
    (fillsT : fillsNumberSlot (.type "int") op.info.2 = pure true) (slot : Slot "int" (PySem.dunder op.info.2) id) (entry : entryFor table id = some B) (args : ∀ a b : Value, argsOk id ⟨[a, b], []⟩)
    (dec : ∀ (i : Int) (t : Tok) (x : Addr), GivesAt (fun s => PySem.RkX.NoPrim s.heap x) (B ⟨[.int i t, .ref x], []⟩) (.val .notImplemented))
    (F : FnOk X.prog X.w X.K X.mg X.base CX n f fd ps sp) (hr : Room n X.A) (hb : Binds X.K fd ps []) (hx : Passes CX X E) : OpR X (binaryOp op) (rIOwn C sp E) := by
  intro pins s σ H x y v u Q I rx ry h
  obtain ⟨a, dx, fs, i, rfl, rfl, ha, q⟩ := h
  obtain ⟨t, rfl⟩ := (show ∃ t, v = Value.int i t from rx)
  cases (show u = Value.ref a from ry)
  obtain ⟨od, J⟩ := inst_at I ha
  refine PySem.RkX.bin_IO I.kIn J hc hs hr' hf hsub fillsT slot (fun Q' q' => call_givesAt slot (typeIs_int s i t) entry (args _ _) (dec i t a) (inst_np J) q') ?_
  refine wpAny_mono (run_fn (vs := [V.ref a, V.int i]) F hr hb .nil hx I (.cons rfl (.cons ⟨t, rfl⟩ .nil)) q) (fun w s' z => ?_) fun _ _ x => x
  obtain ⟨z', H', I', rz, qz⟩ := z
  exact SlX.cmpback rz ⟨z', H', I', rz, qz⟩
/-- -a -/
def rNegO (C : Addr) (sp : Sp) (E : XK) : V → Hp → VK → Prop := fun x H Q => ∃ a dx fs, x = .ref a ∧ H a = some (.ins C dx fs) ∧ sp [x] H Q E
theorem un_negO (hs : PySem.W.findIn X.K (.ref C) "__neg__" = some (some (.ref f))) (hf : PySem.W.isFn X.K (.ref f) = true)
    (F : FnOk X.prog X.w X.K X.mg X.base CX n f fd ps sp) (hr : Room n X.A) (hb : Binds X.K fd ps []) (hx : Passes CX X E) : UnR X (unaryOp .USub) (rNegO C sp E) := by
  intro pins s σ H x v Q I rx h
  obtain ⟨a, dx, fs, rfl, ha, q⟩ := h
  cases (show v = Value.ref a from rx)
  obtain ⟨od, J⟩ := inst_at I ha
  obtain ⟨m, hF⟩ := I.fr
  exact PySem.W.ksp_neg hF I.ok.mod.kin J hs hf (run_fn (vs := [V.ref a]) F hr hb .nil hx I (.cons rfl .nil) q)
/-- a == anything of a known type -/
def rEqO (K : PySem.W.Frag) (C : Addr) (sp : Sp) (E : XK) : R2 := fun x y H Q => ∃ a dx fs t, x = .ref a ∧ H a = some (.ins C dx fs) ∧ TyX K H y t ∧ PySem.W.notFirst K C t = true ∧ sp [x, y] H Q E
theorem op_eqO (hs : PySem.W.findIn X.K (.ref C) "__eq__" = some (some (.ref f))) (hf : PySem.W.isFn X.K (.ref f) = true)
    (F : FnOk X.prog X.w X.K X.mg X.base CX n f fd ps sp) (hr : Room n X.A) (hb : Binds X.K fd ps []) (hx : Passes CX X E) : OpR X (compareOp .Eq) (rEqO X.K C sp E) := by
  intro pins s σ H x y v u Q I rx ry h
  obtain ⟨a, dx, fs, t, rfl, ha, ty, hn, q⟩ := h
  cases (show v = Value.ref a from rx)
  obtain ⟨od, J⟩ := inst_at I ha
  obtain ⟨m, hF⟩ := I.fr
  obtain ⟨P, Z, p, _⟩ := kit_of I ry ty
  refine PySem.W.cmp_K (op := .Eq) (tb := t) hr.units0 hF I.ok.mod.kin J (Z.ty _ _ I.kIn p) hn hs hf ?_
  refine wpAny_mono (run_fn (vs := [V.ref a, y]) F hr hb .nil hx I (.cons rfl (.cons ry .nil)) q) (fun w s' z => ?_) fun _ _ x => x
  obtain ⟨z', H', I', rz, qz⟩ := z
  exact SlX.cmpback rz ⟨z', H', I', rz, qz⟩
/-- int == a -/
theorem op_eqIO (hs : PySem.W.findIn X.K (.ref C) "__eq__" = some (some (.ref f))) (hf : PySem.W.isFn X.K (.ref f) = true) (hsub : PySem.W.subIn X.K (.ref C) (.type "int") = some false)
    (F : FnOk X.prog X.w X.K X.mg X.base CX n f fd ps sp) (hr : Room n X.A) (hb : Binds X.K fd ps []) (hx : Passes CX X E) : OpR X (compareOp .Eq) (rIOwn C sp E) := by
  intro pins s σ H x y v u Q I rx ry h
  obtain ⟨a, dx, fs, i, rfl, rfl, ha, q⟩ := h
  obtain ⟨t, rfl⟩ := (show ∃ t, v = Value.int i t from rx)
  cases (show u = Value.ref a from ry)
  obtain ⟨od, J⟩ := inst_at I ha
  refine PySem.RkX.eq_IO hr.units0 I.kIn J hs hf hsub (fun Q' q' => call_givesAt PySem.F.slot_int_eq (typeIs_int s i t) PySem.F.entry_int_eq (PySem.F.args_int_eq_2 _ _) (PySem.RkX.dec_eq i t) (inst_np J) q') ?_
  refine wpAny_mono (run_fn (vs := [V.ref a, V.int i]) F hr hb .nil hx I (.cons rfl (.cons ⟨t, rfl⟩ .nil)) q) (fun w s' z => ?_) fun _ _ x => x
  obtain ⟨z', H', I', rz, qz⟩ := z
  exact SlX.cmpback rz ⟨z', H', I', rz, qz⟩
/-- a != b by the class's own == -/
def rNeO (C : Addr) (sp : Sp) (E : XK) : R2 := fun x y H Q => ∃ a b dx fs dy gs, x = .ref a ∧ y = .ref b ∧ H a = some (.ins C dx fs) ∧ H b = some (.ins C dy gs) ∧ sp [x, y] H (fun v H' => ∃ k, v = .bl k ∧ Q (.bl (!k)) H') E
theorem op_neO (hs : PySem.W.findIn X.K (.ref C) "__eq__" = some (some (.ref f))) (hf : PySem.W.isFn X.K (.ref f) = true) (hn : PySem.W.findIn X.K (.ref C) "__ne__" = some (some (.builtin "object.__ne__"))) (hob : PySem.W.subIn X.K (.ref C) (.type "object") = some true)
    (F : FnOk X.prog X.w X.K X.mg X.base CX n f fd ps sp) (hr : Room (n + 1) X.A) (hb : Binds X.K fd ps []) (hx : Passes CX X E) : OpR X (compareOp .NotEq) (rNeO C sp E) := by
  intro pins s σ H x y v u Q I rx ry h
  obtain ⟨a, b, dx, fs, dy, gs, rfl, rfl, ha, hb', q⟩ := h
  cases (show v = Value.ref a from rx)
  cases (show u = Value.ref b from ry)
  obtain ⟨od, J⟩ := inst_at I ha
  obtain ⟨od', J'⟩ := inst_at I hb'
  have hu : X.A.units + 1 < cLine := Nat.lt_of_le_of_lt (Nat.add_le_add_left (by decide : 1 ≤ 64) _) hr.units
  show wpAny (model X.prog X.w) X.A (richCompare .NotEq (.ref a) (.ref b)) (EP X pins σ Q) X.xe s
  refine PySem.RkX.ne_OO hu I.kIn J J'.type hs hf hn hob ?_
  have hr1 : Room n X.A.in1 := hr.in1
  have r2 : Vals [V.ref a, V.ref b] [Value.ref a, Value.ref b] := .cons rfl (.cons rfl .nil)
  have hl := F.len _ _ _ _ q
  refine wpAny_call (codeAny_mono (F.run X.A.in1 X.stack s H ⟨[.ref a, .ref b], []⟩ [.ref a, .ref b] [.ref a, .ref b] _ E hr1 I.env0.in1 (by
    have := hb s [.ref a, .ref b] I.kIn (by simpa using hl)
    simpa using this) r2 q) fun r s' hq => ?_)
  cases r with
  | error e => exact hx pins σ H s e s' I hq
  | ok fl =>
    cases fl with
    | ret w =>
      obtain ⟨z, H', I', rz, k, ez, qz⟩ := I.after hq
      subst ez
      cases rz
      exact ⟨k, rfl, .bl (!k), H', I', rfl, qz⟩
    | next => exact False.elim hq
    | brk => exact False.elim hq
    | cont => exact False.elim hq
/-- o.m(k = v, ..) -/
def tMethK (C : Addr) (m : Str) (ks : List Str) (sp : Sp) (gV : List V → List V → List V) (E : XK) (ta : TE) (tk : TA) : TE := fun σ H Q => ta σ H fun x H1 => ∃ a dx fs, x = .ref a ∧ H1 a = some (.ins C dx fs) ∧ fs.lookup m = none ∧
  tk σ H1 fun zs H2 => zs.length = ks.length ∧ sp (gV [x] zs) H2 Q E
theorem pe_methK {pl : Sem Bool} {o : Expr} {m : Str} {apos pos : Pos} {kws : List Keyword} {ta : TE} {tk : TA} {ks : List Str} {g : List Value → List Value → List Value} {gV : List V → List V → List V} (he : PE X o ta) (c : Cls X.K C) (hm : Meth X.K C m f)
    (F : FnOk X.prog X.w X.K X.mg X.base CX n f fd ps sp) (hr : Room n X.A) (hb : KBn X.K fd ps 1 ks g gV) (hx : Passes CX X E) (hkw : PK X kws tk)
    (hall : (backToKw pos (keywordEach kws X.env)).all (·.1.isSome) = true := by rfl) (hks : (backToKw pos (keywordEach kws X.env)).filterMap (·.1) = ks := by rfl)
    (hpl : ((backTo pos (starEach [] X.env)).any (·.1) || (backToKw pos (keywordEach kws X.env)).any (·.1.isNone)) = false := by rfl)
    (ht : eval (.Call (.Attribute o m apos) [] kws pos) X.env = (do
      let ov ← eval o X.env
      standAt apos.atName
      let (f, first) ← holding [ov] (getMethod ov m pl)
      callWith pos f first (backTo pos (starEach [] X.env)) (backToKw pos (keywordEach kws X.env))) := by rfl) :
    PE X (.Call (.Attribute o m apos) [] kws pos) (tMethK C m ks sp gV E ta tk) := by
  refine ⟨fun pins s σ H Q I h => ?_⟩
  refine PySem.W.methodCall_KW (pl := pl) (thn (he.run pins s σ H _ I h) fun u s1 ⟨x, H1, I1, rx, a, dx, fs, ex, ea, l, q⟩ => ?_) ht
  subst ex
  obtain rfl : u = Value.ref a := rx
  refine getmeth_ok I1 ea c hm l ?_
  refine PySem.W.callWith_KW0 (first := [.ref a]) (h₀ := X.base) I1.ok.mod.kin hm.kp hall ?_ hpl
  refine thn (hkw.run pos pins s1 σ H1 _ I1 q) fun ws s2 ⟨zs, H2, I2, rz, l2, q2⟩ => ⟨I2.kIn, ?_⟩
  rw [hks]
  exact run_fnN (us := [.ref a]) (vs := [.ref a]) F hr hb hx I2 (.cons rfl .nil) rz rfl l2 q2
/-- // by a divisor of any sign, below 2 ^ 9000 -/
def CDivZ (_ j : Int) : Prop := j ≠ 0 ∧ j.natAbs.log2 < 9000
theorem op_fdivZ : OpR X (binaryOp .FloorDiv) (rI CDivZ fun i j => .int (i.fdiv j)) := opI fun i j _ _ _ _ _ hc q => floordiv_int hc.1 q (.inl (PyProof.noPylong_of_log2 hc.2))
end
end RK

namespace RK
open PySem PySem.Spec PyProof.Rows L2

/-! ### readings, a step at a time -/
section
variable {K : PySem.W.Frag} {D : Ends} {σ : L2.St} {H : Hp} {t u : TS} {te ta tb : TE} {c tt uu : TT} {ag ar : TA} {g : TG} {Q : VK} {v x y : V} {i j : Nat} {E : XK} {sp : Sp} {dvs : List V} {R : Prop}
theorem w_seq (h : t { D with nx := u D } σ H) : tSeq t u D σ H := h
theorem w_asg (h : te σ H fun x H1 => g x σ H1 D.nx) : tAsg te g D σ H := h
theorem w_gn {Q : L2.St → Hp → Prop} (h : Q (σ.set i (some v)) H) : gName i v σ H Q := h
theorem w_if (h : c σ H fun b H1 => if b = true then t D σ H1 else u D σ H1) : tIfS c t u D σ H := h
theorem w_ret (h : te σ H D.rt) : tRet te D σ H := h
theorem w_retN (h : D.rt .non H) : tRetN D σ H := h
theorem w_next (h : D.nx σ H) : tNext D σ H := h
theorem w_drop (h : te σ H fun _ H1 => D.nx σ H1) : tDrop te D σ H := h
theorem w_par (h : ag σ H fun vs H1 => ∃ v w, vs = [v, w] ∧ D.nx ((σ.set i (some v)).set j (some w)) H1) : tPar i j ag D σ H := h
theorem w_two {P : V → V → Prop} {v w : V} (h : P v w) : ∃ a b, ([v, w] : List V) = [a, b] ∧ P a b := ⟨v, w, rfl, h⟩
theorem w_test {Q : Bool → Hp → Prop} (h : te σ H fun x H' => ∃ k, x = .bl k ∧ Q k H') : tTest te σ H Q := h
theorem w_tB {Q : Bool → Hp → Prop} (h : te σ H fun x H' => ∃ k, x = .bl k ∧ Q k H') : tB te σ H Q := h
theorem w_bl {P : Bool → Prop} {b : Bool} (h : P b) : ∃ k, V.bl b = V.bl k ∧ P k := ⟨b, rfl, h⟩
theorem w_not {Q : Bool → Hp → Prop} (h : tt σ H fun c H1 => Q (!c) H1) : tNot tt σ H Q := h
theorem w_and {Q : Bool → Hp → Prop} (h : tt σ H fun c H1 => if c = true then uu σ H1 Q else Q false H1) : tAnd tt uu σ H Q := h
theorem w_or {Q : Bool → Hp → Prop} (h : tt σ H fun c H1 => if c = true then Q true H1 else uu σ H1 Q) : tOr tt uu σ H Q := h
theorem w_var (h : σ[i]? = some (some v)) (q : Q v H) : tVar i σ H Q := ⟨v, h, q⟩
theorem w_c (q : Q v H) : tC v σ H Q := q
theorem w_op {r : R2} (h : ta σ H fun x H1 => tb σ H1 fun y H2 => r x y H2 Q) : tOp r ta tb σ H Q := h
theorem w_un {r : V → Hp → VK → Prop} (h : ta σ H fun x H1 => r x H1 Q) : tUn r ta σ H Q := h
theorem w_I0 {gg : Int → Int → V} {a b : Int} (q : Q (gg a b) H) : rI0 gg (.int a) (.int b) H Q := ⟨a, b, rfl, rfl, q⟩
theorem w_I {C : Int → Int → Prop} {gg : Int → Int → V} {a b : Int} (hc : C a b) (q : Q (gg a b) H) : rI C gg (.int a) (.int b) H Q := ⟨a, b, rfl, rfl, hc, q⟩
theorem w_U {gg : Int → V} {a : Int} (q : Q (gg a) H) : rU gg (.int a) H Q := ⟨a, rfl, q⟩
theorem w_tIf (h : tt σ H fun c H1 => if c = true then ta σ H1 Q else tb σ H1 Q) : tIf tt ta tb σ H Q := h
/-- a cut: what the value and the heap are, then what is done with them -/
theorem w_cut (P : V → Hp → Prop) (h : ∀ Q' : VK, (∀ v H', P v H' → Q' v H') → te σ H Q') (all : ∀ v H', P v H' → Q v H') : te σ H Q := h Q all
/-- an int, the heap as it is -/
theorem w_cutI (P : Int → Prop) (h : ∀ Q' : VK, (∀ z, P z → Q' (.int z) H) → te σ H Q') (all : ∀ z, P z → Q (.int z) H) : te σ H Q := h Q all
theorem w_cutA (P : List V → Hp → Prop) {Q : List V → Hp → Prop} (h : ∀ Q' : List V → Hp → Prop, (∀ v H', P v H' → Q' v H') → ag σ H Q') (all : ∀ v H', P v H' → Q v H') : ag σ H Q := h Q all
theorem s_cut (P : L2.St → Hp → Prop) (h : ∀ N : L2.St → Hp → Prop, (∀ σ' H', P σ' H' → N σ' H') → t { D with nx := N } σ H) (all : ∀ σ' H', P σ' H' → D.nx σ' H') : t D σ H := h D.nx all
theorem w_nil {Q : List V → Hp → Prop} (q : Q [] H) : tNil σ H Q := q
theorem w_cons {Q : List V → Hp → Prop} (h : te σ H fun x H1 => ar σ H1 fun xs H2 => Q (x :: xs) H2) : tCons te ar σ H Q := h
theorem w_andV (h : ta σ H fun x H1 => ∃ c, x = .bl c ∧ if c = true then tb σ H1 Q else Q (.bl false) H1) : tAndV ta tb σ H Q := h
theorem w_orV (h : ta σ H fun x H1 => ∃ c, x = .bl c ∧ if c = true then Q (.bl true) H1 else tb σ H1 Q) : tOrV ta tb σ H Q := h
theorem w_notV (h : ta σ H fun x H1 => ∃ c, x = .bl c ∧ Q (.bl (!c)) H1) : tNotV ta σ H Q := h
theorem w_CB {r : List V → Hp → VK → Prop} (h : ag σ H fun vs H1 => r vs H1 Q) : tCB r ag σ H Q := h
theorem w_call (h : ag σ H fun vs H1 => sp (vs ++ dvs) H1 Q E) : tCall sp dvs E ag σ H Q := h
theorem w_same (H : Hp) : Same H H := fun _ _ h => h
/-- a new object: what stood stands -/
theorem w_new {p : Addr} {o : HO} (h : H p = none) : Same H (upd H p o) := fun b u e => by
  rw [upd_ne (ne_of_none e h)]
  exact e
/-! leaves: a new object -/
def NewT (xs : List V) (H : Hp) (Q : VK) : Prop := xs.length ≤ sizeLine ∧ ∀ p, H p = none → Q (.ref p) (upd H p (.tup xs))
def NewL (xs : List V) (H : Hp) (Q : VK) : Prop := xs.length ≤ sizeLine ∧ ∀ p, H p = none → Q (.ref p) (upd H p (.lst xs))
theorem w_newT {xs : List V} (hl : xs.length ≤ 100000) (h : ∀ p H2, H p = none → Same H H2 → H2 p = some (.tup xs) → Q (.ref p) H2) : NewT xs H Q :=
  ⟨Nat.le_trans hl (by decide), fun p hp => h p _ hp (w_new hp) upd_same⟩
theorem w_newL {xs : List V} (hl : xs.length ≤ 100000) (h : ∀ p H2, H p = none → Same H H2 → H2 p = some (.lst xs) → Q (.ref p) H2) : NewL xs H Q :=
  ⟨Nat.le_trans hl (by decide), fun p hp => h p _ hp (w_new hp) upd_same⟩
theorem w_tup (h : ag σ H fun xs H1 => NewT xs H1 Q) : tTup ag σ H Q := h
theorem w_lst (h : ag σ H fun xs H1 => NewL xs H1 Q) : tLst ag σ H Q := h
def Fl (K : PySem.W.Frag) (f : Str) (x : V) (H : Hp) (Q : VK) : Prop := ∃ a C dx fs v, x = .ref a ∧ H a = some (.ins C dx fs) ∧ Cls K C ∧ NoAttr K C f ∧ fs.lookup f = some v ∧ Q v H
theorem w_fld {f : Str} (h : te σ H fun x H1 => Fl K f x H1 Q) : tFld K te f σ H Q := h
/-- what is asked at a store into a field, at a method's call, at a making -/
def Sf (K : PySem.W.Frag) (f : Str) (y x : V) (H : Hp) (N : Hp → Prop) : Prop := ∃ a C dx fs, x = .ref a ∧ H a = some (.ins C dx fs) ∧ Cls K C ∧ NoAttr K C f ∧ fs.length < 1000 ∧ N (upd H a (.ins C dx (putF f y fs)))
theorem w_sfld {tv : TE} {f : Str} (h : tv σ H fun y H1 => ta σ H1 fun x H2 => Sf K f y x H2 (D.nx σ)) : sFld K ta tv f D σ H := h
def Ml (C : Addr) (m : Str) (x : V) (H : Hp) (R : Prop) : Prop := ∃ a dx fs, x = .ref a ∧ H a = some (.ins C dx fs) ∧ fs.lookup m = none ∧ R
theorem w_meth {C : Addr} {m : Str} (h : te σ H fun x H1 => Ml C m x H1 (ag σ H1 fun vs H2 => sp (x :: (vs ++ dvs)) H2 Q E)) : tMeth C m sp dvs E te ag σ H Q := h
theorem w_methK {C : Addr} {m : Str} {ks : List Str} {gV : List V → List V → List V} (h : te σ H fun x H1 => Ml C m x H1 (ag σ H1 fun zs H2 => zs.length = ks.length ∧ sp (gV [x] zs) H2 Q E)) : tMethK C m ks sp gV E te ag σ H Q := h
def MkL (C : Addr) (sp : Sp) (E : XK) (vs : List V) (H : Hp) (Q : VK) : Prop := ∀ x dx, H x = none → H dx = none → dx ≠ x → sp (.ref x :: vs) (upd (upd H dx (.own x)) x (.ins C dx [])) (fun v H2 => v = .non ∧ Q (.ref x) H2) E
theorem w_make {C : Addr} (h : ag σ H fun vs H1 => MkL C sp E (vs ++ dvs) H1 Q) : tMake C sp dvs E ag σ H Q := h
def MkK (C : Addr) (n m : Nat) (sp : Sp) (gV : List V → List V → List V) (E : XK) (vs zs : List V) (H : Hp) (Q : VK) : Prop := vs.length = n ∧ zs.length = m ∧ ∀ x dx, H x = none → H dx = none → dx ≠ x → sp (gV (.ref x :: vs) zs) (upd (upd H dx (.own x)) x (.ins C dx [])) (fun v H3 => v = .non ∧ Q (.ref x) H3) E
theorem w_makeK {C : Addr} {n m : Nat} {gV : List V → List V → List V} (h : ag σ H fun vs H1 => ar σ H1 fun zs H2 => MkK C n m sp gV E vs zs H2 Q) : tMakeK C n m sp gV E ag ar σ H Q := h
theorem w_BM {T : String} {r : V → List V → Hp → VK → Prop} (h : te σ H fun x H1 => tyV K T x H1 ∧ ag σ H1 fun xs H2 => r x xs H2 Q) : tBM K T r te ag σ H Q := h
theorem w_sl {r : V → Option Int → Option Int → Hp → VK → Prop} {tl th : TO} (h : te σ H fun x H1 => tl σ H1 fun l H2 => th σ H2 fun u H3 => r x l u H3 Q) : tSl r te tl th σ H Q := h
theorem w_po {Q : Option Int → Hp → Prop} (q : Q none H) : tNoPart σ H Q := q
theorem w_pt {Q : Option Int → Hp → Prop} (h : te σ H fun x H1 => ∃ i, x = .int i ∧ Q (some i) H1) : tPart te σ H Q := h
theorem w_in {P : Int → Prop} {i : Int} (h : P i) : ∃ k, V.int i = V.int k ∧ P k := ⟨i, rfl, h⟩
theorem w_yes {Q : Bool → Hp → Prop} (q : Q true H) : tYes σ H Q := q
theorem w_ixL {p : Addr} {xs : List V} {a : Int} (h : H p = some (.lst xs)) (ha : atI xs a = some v) (q : Q v H) : rIxL K (.ref p) (.int a) H Q := ⟨p, xs, a, v, rfl, rfl, SqL.of h, ha, q⟩
theorem w_ixT {p : Addr} {xs : List V} {a : Int} (h : H p = some (.tup xs)) (ha : atI xs a = some v) (q : Q v H) : rIxT K (.ref p) (.int a) H Q := ⟨p, xs, a, v, rfl, rfl, SqT.of h, ha, q⟩
theorem w_sub {to ti : TE} {ts : TSet} {Q : L2.St → Hp → Prop} (h : to σ H fun o H1 => ti σ H1 fun i H2 => ts o i v H2 fun H3 => Q σ H3) : gSub to ti ts v σ H Q := h
theorem w_setL {Q : Hp → Prop} {p : Addr} {xs : List V} {a : Int} {j : Nat} (h : H p = some (.lst xs)) (hj : ixN xs.length a = some j) (q : Q (upd H p (.lst (xs.set j v)))) : rSetL (.ref p) (.int a) v H Q := ⟨p, xs, a, j, rfl, rfl, h, hj, q⟩
theorem w_eq (hs : scal x y = true) (q : Q (.bl (decide (x = y))) H) : rEq x y H Q := ⟨hs, q⟩
theorem w_ne (hs : scal x y = true) (q : Q (.bl (!decide (x = y))) H) : rNe x y H Q := ⟨hs, q⟩
/-! built-ins under names -/
def rInt1 : List V → Hp → VK → Prop := fun xs H Q => (∃ i, xs = [.int i] ∧ Q (.int i) H) ∨ ∃ k, xs = [.bl k] ∧ Q (.int (if k then 1 else 0)) H
theorem cr_int1 {X : Cx} : CallR X (.type "int") rInt1 := call_int1
theorem w_int {a : Int} (q : Q (.int a) H) : rInt1 [.int a] H Q := .inl ⟨a, rfl, q⟩
theorem w_intB {b : Bool} (q : Q (.int (if b then 1 else 0)) H) : rInt1 [.bl b] H Q := .inr ⟨b, rfl, q⟩
def rAbs1 : List V → Hp → VK → Prop := fun xs H Q => ∃ i, xs = [.int i] ∧ Q (.int (if i < 0 then -i else i)) H
theorem cr_abs {X : Cx} : CallR X (.builtin "abs") rAbs1 := call_abs
theorem w_abs {a : Int} (q : Q (.int (if a < 0 then -a else a)) H) : rAbs1 [.int a] H Q := ⟨a, rfl, q⟩
def rMax2 : List V → Hp → VK → Prop := fun xs H Q => ∃ i j, xs = [.int i, .int j] ∧ Q (.int (if j > i then j else i)) H
theorem cr_max2 {X : Cx} (hc : X.calm = true) : CallR X (.builtin "max") rMax2 := call_max2 hc
theorem w_max {a b : Int} (q : Q (.int (if b > a then b else a)) H) : rMax2 [.int a, .int b] H Q := ⟨a, b, rfl, q⟩
def rMin2 : List V → Hp → VK → Prop := fun xs H Q => ∃ i j, xs = [.int i, .int j] ∧ Q (.int (if j < i then j else i)) H
theorem cr_min2 {X : Cx} (hc : X.calm = true) : CallR X (.builtin "min") rMin2 := call_min2 hc
theorem w_min {a b : Int} (q : Q (.int (if b < a then b else a)) H) : rMin2 [.int a, .int b] H Q := ⟨a, b, rfl, q⟩
def rLen (K : PySem.W.Frag) : List V → Hp → VK → Prop := fun xs H Q => ∃ x n, xs = [x] ∧ LenV K x H n ∧ Q (.int n) H
theorem cr_len {X : Cx} : CallR X (.builtin "len") (rLen X.K) := call_len
theorem w_lenL {p : Addr} {xs : List V} (h : SqL K H p xs) (q : Q (.int xs.length) H) : rLen K [.ref p] H Q := ⟨_, _, rfl, .inl ⟨xs, h, rfl⟩, q⟩
theorem w_lenT {p : Addr} {xs : List V} (h : SqT K H p xs) (q : Q (.int xs.length) H) : rLen K [.ref p] H Q := ⟨_, _, rfl, .inr ⟨xs, h, rfl⟩, q⟩
theorem w_gcd {a b : Int} (q : Q (.int ((Nat.gcd a.natAbs b.natAbs : Nat) : Int)) H) : rGcd [.int a, .int b] H Q := ⟨a, b, rfl, q⟩
/-! tests -/
theorem w_ite {b : Bool} {A B : Prop} (h1 : b = true → A) (h2 : b = false → B) : if b = true then A else B := by
  cases b with
  | true => rw [if_pos rfl]; exact h1 rfl
  | false => rw [if_neg Bool.false_ne_true]; exact h2 rfl
theorem w_iteD {p A B : Prop} [Decidable p] (h1 : p → A) (h2 : ¬ p → B) : if decide p = true then A else B :=
  w_ite (fun e => h1 (of_decide_eq_true e)) fun e => h2 (of_decide_eq_false e)
theorem w_iteN {p A B : Prop} [Decidable p] (h1 : ¬ p → A) (h2 : p → B) : if (!decide p) = true then A else B :=
  w_ite (fun e => h1 (of_decide_eq_false (by simpa using e))) fun e => h2 (of_decide_eq_true (by simpa using e))
end
/-! ### sizes -/
def Sz (k : Nat) (x : Int) : Prop := x.natAbs < 2 ^ k
theorem Sz.mono {k j : Nat} {x : Int} (h : Sz k x) (hk : k ≤ j) : Sz j x := Nat.lt_of_lt_of_le h (Nat.pow_le_pow_right (by decide) hk)
theorem Sz.mul {k j : Nat} {x y : Int} (h : Sz k x) (h' : Sz j y) : Sz (k + j) (x * y) := wide_lt h h'
theorem Sz.neg {k : Nat} {x : Int} (h : Sz k x) : Sz k (-x) := by unfold Sz; rw [Int.natAbs_neg]; exact h
theorem Sz.ok {k j : Nat} {x y : Int} (h : Sz k x) (h' : Sz j y) (hk : k + j ≤ 900000 := by decide) : CMulW x y := wide_mul (h.mono (Nat.le_succ k)) (h'.mono (Nat.le_succ j)) (Nat.succ_pos _) (Nat.succ_pos _) (by omega)
theorem Sz.of {k : Nat} {x : Int} (h : x.natAbs < 2 ^ k) : Sz k x := h
theorem Sz.small {k : Nat} {x : Int} (h : x.natAbs < 1048576) (hk : 20 ≤ k := by decide) : Sz k x := Sz.mono (k := 20) h hk
theorem Sz.one {k : Nat} (h : 1 ≤ k := by decide) : Sz k 1 := Sz.mono (k := 1) (by show (1 : Int).natAbs < 2 ^ 1; decide) h
theorem Sz.div {k : Nat} {i j : Int} (h : 0 < j) (hz : Sz k j) (hk : k ≤ 8000 := by decide) : CDivW i j := wide_div h (hz.mono (Nat.le_succ k)) (Nat.succ_pos _) (by omega)
theorem Sz.le {k : Nat} {x y : Int} (h : Sz k y) (hx : x.natAbs ≤ y.natAbs) : Sz k x := Nat.lt_of_le_of_lt hx h
theorem Sz.add {k : Nat} {x y : Int} (h : Sz k x) (h' : Sz k y) : Sz (k + 1) (x + y) := by
  unfold Sz at *
  have : (x + y).natAbs ≤ x.natAbs + y.natAbs := Int.natAbs_add_le x y
  rw [Nat.pow_succ]
  omega
theorem Sz.sub {k : Nat} {x y : Int} (h : Sz k x) (h' : Sz k y) : Sz (k + 1) (x - y) := by
  rw [Int.sub_eq_add_neg]
  exact h.add h'.neg
/-! ### what is kept -/
theorem Same.at {H H' : Hp} {a : Addr} {o : HO} (e : Same H H') (h : H a = some o) : H' a = some o := e a o h
/-- a law's bag of numbers -/
def Bag (H : Hp) (b : Addr) : Prop := ∃ f s n : Int, H b = some (.lst [.int f, .int s, .int n])
/-- all is kept but the bag's numbers -/
structure Kp (b : Addr) (H H' : Hp) : Prop where
  bag : Bag H b
  bag' : Bag H' b
  keep : ∀ c o, c ≠ b → H c = some o → H' c = some o
theorem Bag.same {H H' : Hp} {b : Addr} (h : Bag H b) (e : Same H H') : Bag H' b := let ⟨f, s, n, h⟩ := h; ⟨f, s, n, e _ _ h⟩
theorem Kp.of {H H' : Hp} {b : Addr} (h : Bag H b) (e : Same H H') : Kp b H H' := ⟨h, h.same e, fun c o _ q => e c o q⟩
theorem Kp.refl {H : Hp} {b : Addr} (h : Bag H b) : Kp b H H := .of h (w_same H)
theorem Kp.trans {H H1 H2 : Hp} {b : Addr} (a : Kp b H H1) (c : Kp b H1 H2) : Kp b H H2 := ⟨a.bag, c.bag', fun x o n q => c.keep x o n (a.keep x o n q)⟩
theorem Kp.same {H H1 H2 : Hp} {b : Addr} (a : Kp b H H1) (c : Same H1 H2) : Kp b H H2 := a.trans (.of a.bag' c)
theorem Kp.tup {H H' : Hp} {b a : Addr} {xs : List V} (k : Kp b H H') (h : H a = some (.tup xs)) : H' a = some (.tup xs) := by
  obtain ⟨f, s, n, hb⟩ := k.bag
  exact k.keep a _ (ne_of h hb (by intro z; cases z)) h
theorem Kp.ins {H H' : Hp} {b a C dx : Addr} {fs : List (Str × V)} (k : Kp b H H') (h : H a = some (.ins C dx fs)) : H' a = some (.ins C dx fs) := by
  obtain ⟨f, s, n, hb⟩ := k.bag
  exact k.keep a _ (ne_of h hb (by intro z; cases z)) h
theorem Kp.free {H H' : Hp} {b p : Addr} (k : Kp b H H') (h : H' p = none) : H p = none := by
  cases q : H p with
  | none => rfl
  | some o =>
    by_cases e : p = b
    · obtain ⟨f, s, n, hb⟩ := k.bag'
      rw [e, hb] at h
      cases h
    · rw [k.keep p o e q] at h
      cases h
theorem Kp.seq {K : PySem.W.Frag} {H H' : Hp} {b a : Addr} {xs : List V} (k : Kp b H H') (hne : a ≠ b) (h : SqL K H a xs) : SqL K H' a xs := by
  rcases h with (h | ⟨o, h⟩) | h
  · exact .inl (.inl (k.keep _ _ hne h))
  · exact .inl (.inr ⟨o, k.keep _ _ hne h⟩)
  · exact .inr h
/-! ### comprehensions -/
section
variable {K : PySem.W.Frag} {σ : L2.St} {H : Hp} {Q : VK} {tl te : TE} {g : TG} {tt : TT} {vs : List Nat} {tb : TS} {D : Ends} {j : Nat}
/-- the comprehension, the loop, when the list is there -/
def LcS (K : PySem.W.Frag) (g : TG) (tt : TT) (te : TE) (vs : List Nat) (σ : L2.St) (x : V) (H : Hp) (Q : VK) : Prop := tLc (iList K (tC x)) g tt te vs σ H Q
def ForS (K : PySem.W.Frag) (g : TG) (tb : TS) (D : Ends) (σ : L2.St) (x : V) (H : Hp) : Prop := tFor (iList K (tC x)) g tb D σ H
theorem w_lcL (h : tl σ H fun x H1 => LcS K g tt te vs σ x H1 Q) : tLc (iList K tl) g tt te vs σ H Q := h
theorem w_forL (h : tl σ H fun x H1 => ForS K g tb D σ x H1) : tFor (iList K tl) g tb D σ H := h
/-- what is no list stands as it stood -/
def SameT (H H' : Hp) : Prop := ∀ c o, H c = some o → (∀ xs, o ≠ .lst xs) → H' c = some o
theorem SameT.of {H H' : Hp} (e : Same H H') : SameT H H' := fun c o h _ => e c o h
theorem SameT.upd {H : Hp} {p : Addr} {xs : List V} {o : HO} (h : H p = some (.lst xs)) : SameT H (upd H p o) := fun c u e n => by
  have hc : c ≠ p := fun z => by rw [z, h] at e; cases e; exact n xs rfl
  rw [upd_ne hc]
  exact e
theorem SameT.tup {H H' : Hp} {p : Addr} {xs : List V} (e : SameT H H') (h : H p = some (.tup xs)) : H' p = some (.tup xs) := e p _ h fun _ z => nomatch z
theorem SameT.ins {H H' : Hp} {p C dx : Addr} {fs : List (Str × V)} (e : SameT H H') (h : H p = some (.ins C dx fs)) : H' p = some (.ins C dx fs) := e p _ h fun _ z => nomatch z
/-- a list grows by one -/
structure Grown (l : Addr) (xs : List V) (H H' : Hp) : Prop where
  at_ : H' l = some (.lst xs)
  keep : ∀ c o, c ≠ l → H c = some o → H' c = some o
  same : SameT H H'
theorem w_app {l : Addr} {xs : List V} {y : V} (h : H l = some (.lst xs)) (hl : xs.length ≤ 1000) (k : ∀ H', Grown l (xs ++ [y]) H H' → Q .non H') : rAppend (.ref l) [y] H Q :=
  ⟨l, xs, y, rfl, rfl, h, Nat.lt_of_le_of_lt hl (by decide), k _ ⟨upd_same, fun c o hc e => by rw [upd_ne hc]; exact e, SameT.upd h⟩⟩
theorem Same.updL {H H' : Hp} {p : Addr} {o : HO} (e : Same H H') (h : H p = none) : Same H (upd H' p o) := fun c u q => by
  rw [upd_ne (ne_of_none q h)]
  exact e c u q
/-- [f(x) for x in a list]: each element leaves what stood, and gives what P says -/
theorem lc_each {l : Addr} {xs : List V} (P : Nat → V → Hp → Prop) (mono : ∀ i v H H', SameT H H' → P i v H → P i v H') (hl : H l = some (.lst xs)) (hlen : xs.length ≤ 1000)
    (hw : ∀ x, wipe ((wipe σ vs).set j (some x)) vs = wipe σ vs)
    (he : ∀ i x H', xs[i]? = some x → Same H H' → ∀ Q' : VK, (∀ v H'', Same H' H'' → P i v H'' → Q' v H'') → te ((wipe σ vs).set j (some x)) H' Q')
    (k : ∀ D ys H', H D = none → Same H H' → H' D = some (.lst ys) → ys.length = xs.length → (∀ i v, ys[i]? = some v → P i v H') → Q (.ref D) H') : LcS K (gName j) tYes te vs σ (.ref l) H Q := by
  refine ⟨l, rfl, ⟨_, SqL.of hl⟩, fun Dl hD => ?_⟩
  refine lc_list (K := K) (a := l) (xs := xs) (fun i H' => ∃ acc, H' Dl = some (.lst acc) ∧ acc.length = i ∧ Same H H' ∧ ∀ m v, acc[m]? = some v → P m v H') ⟨[], upd_same, rfl, w_new hD, fun m v e => by simp at e⟩
    (fun i H' _ ⟨acc, _, _, e, _⟩ => SqL.of (e _ _ hl)) ?_ ?_
  · rintro i x H' hx ⟨acc, h1, h2, e, hp⟩
    refine ⟨hw x, ?_⟩
    refine w_yes ?_
    rw [if_pos rfl]
    refine he i x H' hx e _ fun v H2 e2 pv => ?_
    have hi : i < xs.length := (List.getElem?_eq_some_iff.mp hx).1
    have h3 : H2 Dl = some (.lst acc) := e2 _ _ h1
    refine ⟨acc, h3, Nat.lt_of_lt_of_le (show acc.length < 1001 by omega) (by decide), acc ++ [v], upd_same, by rw [List.length_append, h2]; rfl, RK.Same.updL (e.trans e2) hD, fun m u hu => ?_⟩
    by_cases hm : m < acc.length
    · rw [List.getElem?_append_left hm] at hu
      exact mono m u H2 _ (SameT.upd h3) (mono m u H' H2 (.of e2) (hp m u hu))
    · rw [List.getElem?_append_right (by omega)] at hu
      have em : m = acc.length := by
        have := (List.getElem?_eq_some_iff.mp hu).1
        simp at this
        omega
      subst em
      simp at hu
      subst hu
      exact mono _ _ H2 _ (SameT.upd h3) (by rw [h2]; exact pv)
  · rintro H' ⟨acc, h1, h2, e, hp⟩
    exact k Dl acc H' hD e h1 h2 hp
/-- [f(i) for i in range(n)] -/
theorem lc_rng {lo : Int} {n : Nat} {W : TI} (P : Nat → V → Hp → Prop) (mono : ∀ i v H H', SameT H H' → P i v H → P i v H') (hn : n ≤ 1000) (hwi : ∀ R : It → Hp → Prop, R (Itr lo n) H → W σ H R)
    (hw : ∀ x, wipe ((wipe σ vs).set j (some x)) vs = wipe σ vs)
    (he : ∀ i H', i < n → Same H H' → ∀ Q' : VK, (∀ v H'', Same H' H'' → P i v H'' → Q' v H'') → te ((wipe σ vs).set j (some (.int (lo + i)))) H' Q')
    (k : ∀ D ys H', H D = none → Same H H' → H' D = some (.lst ys) → ys.length = n → (∀ i v, ys[i]? = some v → P i v H') → Q (.ref D) H') : tLc W (gName j) tYes te vs σ H Q := by
  refine hwi _ fun Dl hD => ?_
  refine lc_range (lo := lo) (n := n) (fun i H' => ∃ acc, H' Dl = some (.lst acc) ∧ acc.length = i ∧ Same H H' ∧ ∀ m v, acc[m]? = some v → P m v H') ⟨[], upd_same, rfl, w_new hD, fun m v e => by simp at e⟩ ?_ ?_
  · rintro i H' hi ⟨acc, h1, h2, e, hp⟩
    refine ⟨hw _, ?_⟩
    refine w_yes ?_
    rw [if_pos rfl]
    refine he i H' hi e _ fun v H2 e2 pv => ?_
    have h3 : H2 Dl = some (.lst acc) := e2 _ _ h1
    refine ⟨acc, h3, Nat.lt_of_lt_of_le (show acc.length < 1001 by omega) (by decide), acc ++ [v], upd_same, by rw [List.length_append, h2]; rfl, RK.Same.updL (e.trans e2) hD, fun m u hu => ?_⟩
    by_cases hm : m < acc.length
    · rw [List.getElem?_append_left hm] at hu
      exact mono m u H2 _ (SameT.upd h3) (mono m u H' H2 (.of e2) (hp m u hu))
    · rw [List.getElem?_append_right (by omega)] at hu
      have em : m = acc.length := by
        have := (List.getElem?_eq_some_iff.mp hu).1
        simp at this
        omega
      subst em
      simp at hu
      subst hu
      exact mono _ _ H2 _ (SameT.upd h3) (by rw [h2]; exact pv)
  · rintro H' ⟨acc, h1, h2, e, hp⟩
    exact k Dl acc H' hD e h1 h2 hp
end
end RK

/-! lowest terms, plain -/
namespace RK
/-- x, y are u, l in lowest terms (l not 0), y above 0 -/
structure Nrm (u l x y : Int) : Prop where
  pos : 0 < y
  cop : Int.gcd x y = 1
  eq : x * l = u * y
theorem dvd_of_cop {x y z : Int} (c : Int.gcd x y = 1) (h : y ∣ x * z) : y ∣ z := by
  have h' : y.natAbs ∣ x.natAbs * z.natAbs := by rw [← Int.natAbs_mul]; exact Int.natAbs_dvd_natAbs.mpr h
  exact Int.natAbs_dvd_natAbs.mp (Nat.Coprime.dvd_of_dvd_mul_left (show Nat.Coprime y.natAbs x.natAbs from by rw [Nat.coprime_comm]; exact c) h')
theorem nrm_uniq0 {x y x' y' : Int} (h1 : 0 < y) (h2 : 0 < y') (c1 : Int.gcd x y = 1) (c2 : Int.gcd x' y' = 1) (e : x * y' = x' * y) : x = x' ∧ y = y' := by
  have d1 : y ∣ y' := by
    have : y ∣ x * y' := ⟨x', by rw [e, Int.mul_comm]⟩
    exact dvd_of_cop c1 this
  have d2 : y' ∣ y := by
    have : y' ∣ x' * y := ⟨x, by rw [← e, Int.mul_comm]⟩
    exact dvd_of_cop c2 this
  have ey : y = y' := Int.le_antisymm (Int.le_of_dvd h2 d1) (Int.le_of_dvd h1 d2)
  subst ey
  exact ⟨Int.eq_of_mul_eq_mul_right (by omega) e, rfl⟩
theorem Nrm.uniq {u l u' l' x y x' y' : Int} (a : Nrm u l x y) (b : Nrm u' l' x' y') (hl : l ≠ 0) (hl' : l' ≠ 0) (e : u * l' = u' * l) : x = x' ∧ y = y' := by
  refine nrm_uniq0 a.pos b.pos a.cop b.cop ?_
  have h1 := a.eq
  have h2 := b.eq
  have k : l * l' * (x * y') = l * l' * (x' * y) := by grind
  exact Int.eq_of_mul_eq_mul_left (Int.mul_ne_zero hl hl') k
/-- dividing by the greatest common divisor -/
theorem nrm_div {u l : Int} (hl : 0 < l) : Nrm u l (u / (Int.gcd u l : Int)) (l / (Int.gcd u l : Int)) := by
  have g0 : 0 < Int.gcd u l := Int.gcd_pos_of_ne_zero_right u (by omega)
  have d1 : ((Int.gcd u l : Nat) : Int) ∣ u := Int.gcd_dvd_left ..
  have d2 : ((Int.gcd u l : Nat) : Int) ∣ l := Int.gcd_dvd_right ..
  generalize hg : ((Int.gcd u l : Nat) : Int) = g at *
  have gp : 0 < g := by omega
  obtain ⟨a, ha⟩ := d1
  obtain ⟨b, hb⟩ := d2
  have ea : u / g = a := by rw [ha]; exact Int.mul_ediv_cancel_left a (by omega)
  have eb : l / g = b := by rw [hb]; exact Int.mul_ediv_cancel_left b (by omega)
  refine ⟨?_, ?_, ?_⟩
  · rw [eb]
    have : 0 < b * g := by rw [Int.mul_comm]; omega
    exact Int.pos_of_mul_pos_left this gp
  · have := Int.gcd_ediv_gcd_ediv_gcd (i := u) (j := l) g0
    rw [hg] at this
    exact this
  · rw [ea, eb, ha, hb]
    grind
theorem nrm_low {u l d : Int} (hl : l ≠ 0) (hd : d = if 0 < l then (Int.gcd u l : Int) else 0 - (Int.gcd u l : Int)) : Nrm u l (u.fdiv d) (l.fdiv d) ∧ d ≠ 0 := by
  have g0 : 0 < Int.gcd u l := Int.gcd_pos_of_ne_zero_right u hl
  have d1 : ((Int.gcd u l : Nat) : Int) ∣ u := Int.gcd_dvd_left ..
  have d2 : ((Int.gcd u l : Nat) : Int) ∣ l := Int.gcd_dvd_right ..
  have hc := Int.gcd_ediv_gcd_ediv_gcd (i := u) (j := l) g0
  generalize hg : ((Int.gcd u l : Nat) : Int) = g at *
  have gp : 0 < g := by omega
  obtain ⟨x, hx⟩ := d1
  obtain ⟨y, hy⟩ := d2
  rw [hx, hy, Int.mul_ediv_cancel_left x (by omega), Int.mul_ediv_cancel_left y (by omega)] at hc
  by_cases h : 0 < l
  · rw [if_pos h] at hd
    rw [hd]
    have ex : u.fdiv g = x := by rw [hx]; exact Int.mul_fdiv_cancel_left x (by omega)
    have ey : l.fdiv g = y := by rw [hy]; exact Int.mul_fdiv_cancel_left y (by omega)
    refine ⟨⟨?_, ?_, ?_⟩, by omega⟩
    · rw [ey]
      exact Int.pos_of_mul_pos_left (show 0 < y * g by rw [Int.mul_comm]; omega) gp
    · rw [ex, ey]
      exact hc
    · rw [ex, ey, hx, hy]
      grind
  · rw [if_neg h] at hd
    have ed : d = -g := by omega
    subst ed
    have ex : u.fdiv (-g) = -x := by rw [hx, show g * x = (-g) * (-x) by grind]; exact Int.mul_fdiv_cancel_left _ (by omega)
    have ey : l.fdiv (-g) = -y := by rw [hy, show g * y = (-g) * (-y) by grind]; exact Int.mul_fdiv_cancel_left _ (by omega)
    refine ⟨⟨?_, ?_, ?_⟩, by omega⟩
    · rw [ey]
      exact Int.pos_of_mul_pos_left (show 0 < -y * g by grind) gp
    · rw [ex, ey]
      show Nat.gcd (-x).natAbs (-y).natAbs = 1
      rw [Int.natAbs_neg, Int.natAbs_neg]
      exact hc
    · rw [ex, ey, hx, hy]
      grind
theorem Nrm.dvd {u l x y : Int} (n : Nrm u l x y) : y ∣ l ∧ x ∣ u := by
  have c := n.cop
  refine ⟨dvd_of_cop c ⟨u, by rw [n.eq, Int.mul_comm]⟩, ?_⟩
  refine dvd_of_cop (x := y) (by rw [Int.gcd_comm]; exact c) ⟨l, by rw [n.eq, Int.mul_comm]⟩
theorem Nrm.le {u l x y : Int} (n : Nrm u l x y) (hl : l ≠ 0) : y.natAbs ≤ l.natAbs ∧ x.natAbs ≤ u.natAbs := by
  obtain ⟨d1, d2⟩ := n.dvd
  refine ⟨Nat.le_of_dvd (by omega) (Int.natAbs_dvd_natAbs.mpr d1), ?_⟩
  by_cases h : u = 0
  · have e := n.eq
    rw [h, Int.zero_mul] at e
    rcases Int.mul_eq_zero.mp e with z | z
    · rw [z]
      exact Nat.zero_le _
    · exact absurd z hl
  · exact Nat.le_of_dvd (by omega) (Int.natAbs_dvd_natAbs.mpr d2)
theorem cmp_same {A B X Y M N : Int} (hM : 0 < M) (hN : 0 < N) (h1 : A * M = X * N) (h2 : B * M = Y * N) : (A = B ↔ X = Y) ∧ (A < B ↔ X < Y) := by
  refine ⟨⟨fun e => ?_, fun e => ?_⟩, ⟨fun e => ?_, fun e => ?_⟩⟩
  · exact Int.eq_of_mul_eq_mul_right (show N ≠ 0 by omega) (by rw [← h1, ← h2, e])
  · exact Int.eq_of_mul_eq_mul_right (show M ≠ 0 by omega) (by rw [h1, h2, e])
  · exact Int.lt_of_mul_lt_mul_right (by rw [← h1, ← h2]; exact Int.mul_lt_mul_of_pos_right e hM) (show 0 ≤ N by omega)
  · exact Int.lt_of_mul_lt_mul_right (by rw [h1, h2]; exact Int.mul_lt_mul_of_pos_right e hN) (show 0 ≤ M by omega)
theorem gcd_step {x y : Int} (h : 0 ≤ x) (_ : 0 < y) : Int.gcd y (x % y) = Int.gcd x y := by
  show Nat.gcd y.natAbs (x % y).natAbs = Nat.gcd x.natAbs y.natAbs
  rw [Nat.gcd_comm x.natAbs, Nat.gcd_rec y.natAbs x.natAbs, Nat.gcd_comm, Int.natAbs_emod_of_nonneg h]
theorem gcd_abs (u l : Int) : Int.gcd (if u < 0 then -u else u) (if l < 0 then -l else l) = Int.gcd u l := by
  have e : ∀ z : Int, (if z < 0 then -z else z).natAbs = z.natAbs := fun z => by split <;> omega
  show Nat.gcd _ _ = Nat.gcd _ _
  rw [e, e]
end RK

/-! try .. except (A, B, C) as e; a caught exception handed to a def -/
namespace RK
open PySem PySem.Spec PyProof.Rows L2
/-- three classes, one behind the other -/
def exm3 (K : PySem.W.Frag) (cls c1 c2 c3 : Value) : Option Bool := PySem.W.exmAny K cls [c1, c2, c3]
/-- what the clause wishes of an exception of the body: slot i is the name's -/
def wAs3 (K : PySem.W.Frag) (c1 c2 c3 : Value) (nl i : Nat) (ts : Addr → Obj → Value → Option Addr → TS) (Wout : WX) (D : Ends) : WX := fun cls d σ H =>
  ∃ b, exm3 K cls c1 c2 c3 = some b ∧
    (b = true → ∀ a oe, σ.length = nl → H a = none → Zc cls d oe → (∃ vs, oe.data = .fields vs) → ts a oe cls d { nx := fun σ' H' => D.nx (σ'.set i none) H', rt := D.rt, bk := fun σ' H' => D.bk (σ'.set i none) H', ct := fun σ' H' => D.ct (σ'.set i none) H' } (σ.set i (some (.ref a))) H) ∧
    (b = false → Wout cls d σ H)
theorem flying_push {B h : Heap} {l : List Env} {a : Addr} {Z : Obj → Prop} {o : Obj} (f : HandSPX.FlyingZ B l a Z h) : HandSPX.FlyingZ B l a Z (h.push o) := by
  obtain ⟨st, no, ff, oe, vs, T, oT, tz, g1, g2, g3, g4, g5, g6, g7, g8, g9⟩ := f
  have up : ∀ b u, h.get? b = some u → (h.push o).get? b = some u := fun b u e => Heap.get?_push_of_some _ e
  exact ⟨fun b u e => up b u (st b u e), no, ff.of_keeps fun b u e _ => ⟨u, up b u e, rfl⟩, oe, vs, T, oT, tz, up _ _ g1, g2, g3, g4, g5, g6, up _ _ g7, g8, g9⟩
section
variable {X : Cx} {x1 x2 x3 n : Str} {c1 c2 c3 : Value} {i k : Nat} {body rest : List Stmt} {b0 : Stmt} {q1 q2 q3 qt pos pos' : Pos} {tb : WX → TS} {ts : Addr → Obj → Value → Option Addr → TS} {Wout : WX}
theorem ps_try_as3 (hstk : X.stack = X.env :: X.outer) (hfrm : X.env.frame = some X.env.locals) (nd : X.N.Nodup) (hi : X.N[i]? = some n) (hloc : X.env.kindOf n = some .local)
    (C1 : Gl X x1 ∧ X.mg x1 = some c1) (C2 : Gl X x2 ∧ X.mg x2 = some c2) (C3 : Gl X x3 ∧ X.mg x3 = some c3) (tk : Takes X Wout)
    (hb : ∀ (W : WX) (pn : List (Addr × Obj)) (xe : Value → Shared → Prop), Takes (X.tr pn xe) W → PassesOwn (model X.prog X.w) X.A X.env xe → PSs (X.tr pn xe) body (tb W))
    (hsu : ∀ (a : Addr) (oe : Obj) (cls : Value) (d : Option Addr) (pn : List (Addr × Obj)), X.base.get? a = none → Zc cls d oe → (∃ vs, oe.data = .fields vs) → PSs (X.suite a ((a, oe) :: pn)) (b0 :: rest) (ts a oe cls d))
    (d1 : (x1 == ("__debug__" : Str)) = false := by decide) (d2 : (x2 == ("__debug__" : Str)) = false := by decide) (d3 : (x3 == ("__debug__" : Str)) = false := by decide) :
    PS X (.Try body [.ExceptHandler (some (.Tuple [.Name x1 q1, .Name x2 q2, .Name x3 q3] k qt)) (some n) (b0 :: rest) pos'] [] [] pos) (fun D σ H => tb (wAs3 X.K c1 c2 c3 X.N.length i ts Wout D) D σ H) := by
  refine ⟨fun pins s σ H D I h => wpAny_Try_except ?_⟩
  have ok := I.ok
  have hA : X.A.frames = some (X.env :: X.outer) := by rw [ok.frames, hstk]
  refine wpAny_mono ((hb (wAs3 X.K c1 c2 c3 X.N.length i ts Wout D) (X.pn ++ pins) (fun e sa => wpAny (model X.prog X.w) X.A (noteFrame e X.env) (fun _ sb => wpAny (model X.prog X.w) X.A (setFlight e none) (fun _ sc =>
    wpAny (model X.prog X.w) X.A (handleBy e X.env [.ExceptHandler (some (.Tuple [.Name x1 q1, .Name x2 q2, .Name x3 q3] k qt)) (some n) (b0 :: rest) pos']) (SP X pins D) X.xe sc) X.xe sb) X.xe sa) (fun u s' xx => ?_) PassesOwn.looking).run [] s σ H D (I.toTry _) h) (fun f s1 hsp => ?_) (fun e s1 he => he)
  · obtain ⟨a, B, sI, pins', σ', H', cls, d, rfl, J', nb, up, sky, na, os, ag, b, hb1, hyes, hno⟩ := xx
    have J := J'.ofTry ok
    rw [hstk] at sky
    show wpAny (model X.prog X.w) X.A (noteFrame (.ref a) X.env) _ _ _
    refine Sky.land Zc.steady hA hfrm sky fun ha fla upa => ?_
    have Ja : Inv X pins σ' H' { s' with heap := ha } := J.landed nb fla.1 (up.trans upa) os ag
    have baseN : X.base.get? a = none := by
      cases e : X.base.get? a with
      | none => rfl
      | some o =>
        exfalso
        have hn := nb a o (J.bk a o e) (fun z => by rw [(J.stack.mem z).1] at e; cases e)
        rw [fla.2.1] at hn
        cases hn
    -- what the exception is, wherever it flies
    have facts : ∀ {h : Heap}, HandSPX.FlyingZ B (X.env :: X.outer) a (Zc cls d) h → ∃ oe vs, h.get? a = some oe ∧ Zc cls d oe ∧ oe.data = .fields vs ∧ a ≠ X.env.locals ∧ a ∉ X.fs := fun {h} f => by
      obtain ⟨oe, vs, e1, e2, e3⟩ := f.there
      have no : a ∉ frs (X.env :: X.outer) := fun z => by
        obtain ⟨_, o', e', hf⟩ := f.2.2.1.mem z
        rw [e1] at e'
        cases e'
        exact hf vs e3
      refine ⟨oe, vs, e1, e2, e3, fun z => no (List.mem_filterMap.mpr ⟨X.env, List.mem_cons_self, by rw [hfrm, z]⟩), fun z => ?_⟩
      obtain ⟨ev, m1, m2⟩ := List.mem_filterMap.mp z
      exact no (List.mem_filterMap.mpr ⟨ev, List.mem_cons_of_mem _ m1, m2⟩)
    obtain ⟨oa, va, a1, a2, a3, aL, aF⟩ := facts fla
    have Sa := Ja.suite a1 a3 na aL aF
    refine wpAny_handleBy_cons (codeAny_handlers_test (wpAny_Tuple ?_)) (fun z => nomatch z)
    refine Calls.spliced_cons (ld_glob (X := X.suite a ((a, oa) :: (X.pn ++ pins))) Sa C1.1 C1.2 ?_ d1)
    refine Calls.spliced_cons (ld_glob (X := X.suite a ((a, oa) :: (X.pn ++ pins))) Sa C2.1 C2.2 ?_ d2)
    refine Calls.spliced_cons (ld_glob (X := X.suite a ((a, oa) :: (X.pn ++ pins))) Sa C3.1 C3.2 ?_ d3)
    refine Calls.spliced_nil ⟨by show 3 ≤ sizeLine; decide, ?_⟩
    have flb : HandSPX.FlyingZ B (X.env :: X.outer) a (Zc cls d) (ha.push { cls := .type "tuple", data := .seq [c1, c2, c3].toArray }) := flying_push fla
    have upb : sI.heap.UpToSlots (ha.push { cls := .type "tuple", data := .seq [c1, c2, c3].toArray }) := (up.trans upa).trans (Heap.UpToSlots.of_keeps fun b u e => Heap.get?_push_of_some _ e)
    have tup : (ha.push { cls := .type "tuple", data := .seq [c1, c2, c3].toArray }).get? ha.objs.size = some { cls := .type "tuple", data := .seq [c1, c2, c3].toArray } := Heap.get?_push_size _ rfl
    show wpAny _ _ (excMatches (.ref a) (.ref ha.objs.size)) _ _ { s' with heap := ha.push { cls := .type "tuple", data := .seq [c1, c2, c3].toArray } }
    generalize ha.push { cls := .type "tuple", data := .seq [c1, c2, c3].toArray } = hc at flb upb tup ⊢
    have Jb : Inv X pins σ' H' { s' with heap := hc } := J.landed nb flb.1 upb os ag
    obtain ⟨ob, vb, b1, b2, b3, _, _⟩ := facts flb
    refine (PySem.W.exm_tup3 (M := model X.prog X.w) Jb.kIn (fun A Q E s kp q => wpAny_typeOf_ref (kp _ _ b1) (by rw [b2.1]; exact q)) tup hb1).here ?_
    cases b with
    | true =>
      refine codeAny_handlers_suite_as (HandSPX.lands_againZ flb fun hd fld upd => ?_)
      have Jd : Inv X pins σ' H' { s' with heap := hd } := J.landed nb fld.1 (upb.trans upd) os ag
      obtain ⟨od, vd, e1, e2, e3, eL, eF⟩ := facts fld
      refine store_ok (X := X.suite a ((a, od) :: (X.pn ++ pins))) (v := .ref a) (Jd.suite e1 e3 na eL eF) nd hi (.inl hloc) rfl (fun se Se => ?_) (.inr hloc)
      refine wpAny_mono ((hsu a od cls d (X.pn ++ pins) baseN e2 ⟨_, e3⟩).run [] se _ H' _ Se (hyes rfl a od J.len na e2 ⟨_, e3⟩)) (fun f sf hsp => ?_) (fun _ _ z => z.elim)
      have gone : ∀ {σ6 : L2.St} {H6 : Hp} {Q : Shared → Prop}, Inv (X.suite a ((a, od) :: (X.pn ++ pins))) [] σ6 H6 sf → (∀ s7, Inv X pins (σ6.set i none) H6 s7 → Q s7) →
          wpAny (model X.prog X.w) X.A (do bindName X.env n .none; unbindBehindTheSuite X.env n pos') (fun _ s7 => Q s7) X.xe sf := fun {_ _ _} S6 hq => gone_ok (S6.unsuite ok) nd hi hloc hq
      cases f with
      | ret u => exact (fun ⟨v6, σ6, H6, S6, r6, w6⟩ => gone S6 fun s7 J7 => ⟨_, _, _, J7, r6, w6⟩) hsp
      | next => exact (fun ⟨σ6, H6, S6, w6⟩ => gone S6 fun s7 J7 => ⟨_, _, J7, w6⟩) hsp
      | brk => exact (fun ⟨σ6, H6, S6, w6⟩ => gone S6 fun s7 J7 => ⟨_, _, J7, w6⟩) hsp
      | cont => exact (fun ⟨σ6, H6, S6, w6⟩ => gone S6 fun s7 J7 => ⟨_, _, J7, w6⟩) hsp
    | false =>
      show wpAny _ X.A (handleBy (.ref a) X.env []) _ _ _
      refine wpAny_handleBy_nil ?_
      have flb' := flb
      obtain ⟨_, _, _, oe, vs, T, oT, tz, g1, g2, g3, g4, _⟩ := flb'
      unfold PySem.passOn
      refine wpAny_bind (wpAny_field g1 g3 g4 ?_)
      rw [if_neg (show ¬ ((Value.ref T == Value.none) = true) by simp)]
      have out : wpAny (model X.prog X.w) X.A (setFlight (.ref a) X.env.frame) (fun _ sz => wpAny (model X.prog X.w) X.A (throw (.ref a) : Sem Flow) (SP X pins D) X.xe sz) X.xe { s' with heap := hc } := by
        rw [hfrm]
        refine HandSPX.setFlight_upZ flb fun hz held upz => wpAny_throw (tk _ _ ⟨a, B, sI, pins, σ', H', cls, d, rfl, J, nb, upb.trans upz, .inr (.inr (by rw [hstk]; exact held)), na, os, ag, hno rfl⟩)
      first
        | exact wpAny_bind (wpAny_pure (wpAny_bind out))
        | exact wpAny_bind out
  · cases f with
    | ret u => exact (fun ⟨v, σ', H', J', r, w⟩ => ⟨v, σ', H', J'.ofTry ok, r, w⟩) hsp
    | next => exact (fun ⟨σ', H', J', w⟩ => wpAny_execs_nil ⟨σ', H', J'.ofTry ok, w⟩) hsp
    | brk => exact (fun ⟨σ', H', J', w⟩ => ⟨σ', H', J'.ofTry ok, w⟩) hsp
    | cont => exact (fun ⟨σ', H', J', w⟩ => ⟨σ', H', J'.ofTry ok, w⟩) hsp
end
/-! ### the caught exception as an argument -/
/-- the object at a, as it stands -/
def ExE (oe : Obj) (a : Addr) : HO := .ext fun h => h.get? a = some oe
theorem ExE.ok {P : Program} {w : World} {H : Hp} {h : Heap} {a : Addr} {oe : Obj} (e : h.get? a = some oe) : ObjOk P w H h a (ExE oe a) := ⟨e, ⟨oe, e⟩, fun _ _ q k => k _ q⟩
/-- f(.., e, ..): e is the exception that the suite holds -/
def tExc (oe : Obj) (a : Addr) (sp : Sp) (E : XK) (t : TA) : TE := fun σ H Q => t σ H fun vs H1 => sp vs (upd H1 a (ExE oe a)) (fun v H2 => H2 a = some (ExE oe a) ∧ Q v (delH H2 a)) E
section
variable {X : Cx} {CX : CXT} {k : Nat} {f : Addr} {fd : FuncData} {ps : List Str} {sp : Sp} {E : XK} {x : Str} {es : List Expr} {e : Expr} {t : TA} {a : Addr} {oe : Obj} {p pos : Pos}
theorem exc_back {H H2 : Hp} {h h' : Heap} {fs : List Addr} (ha : h.get? a = some oe) (hn : H a = none) (h2 : H2 a = some (ExE oe a)) (u : Un fs [] (upd H a (ExE oe a)) H2 h h') (e' : h'.get? a = some oe) : Un fs [] H (delH H2 a) h h' := by
  have other : ∀ {b : Addr} {o : HO}, H b = some o → b ≠ a := fun {b o} q z => by rw [z, hn] at q; cases q
  have other2 : ∀ {b : Addr} {o : HO}, H2 b = some o → (∀ φ, o ≠ .ext φ) → b ≠ a := fun {b o} q n z => by rw [z, h2] at q; cases q; exact n _ rfl
  refine ⟨fun b o q n hb hx => ?_, fun b o q n hb hx => ?_, fun b o q n hx => ?_, u.there, fun b xs q => ?_, fun b o w q => ?_, fun b tb q => ?_⟩
  · by_cases z : b = a
    · subst z
      rw [ha] at q
      cases q
      exact e'
    · exact u.keep b o q (by rw [upd_ne z]; exact n) hb hx
  · by_cases z : b = a
    · subst z
      rw [ha] at q
      cases q
      exact ⟨oe.slots, e'⟩
    · exact u.slot b o q (by rw [upd_ne z]; exact n) hb hx
  · by_cases z : b = a
    · rw [z, delH_same]
    · rw [delH_ne z]
      exact u.free b o q (by rw [upd_ne z]; exact n) hx
  · rw [delH_ne (other q)]
    exact u.tups b xs (by rw [upd_ne (other q)]; exact q)
  · rw [delH_ne (other q)]
    exact u.frzs b o w (by rw [upd_ne (other q)]; exact q)
  · rw [delH_ne (other q)]
    exact u.tbls b tb (by rw [upd_ne (other q)]; exact q)
theorem hok_del {P : Program} {w : World} {H : Hp} {h : Heap} (ok : HOk P w H h) (h2 : H a = some (ExE oe a)) : HOk P w (delH H a) h := fun b u q => by
  have hb : b ≠ a := fun z => by rw [z, delH_same] at q; cases q
  rw [delH_ne hb] at q
  refine (ok b u q).stay (fun _ _ _ r => r) (fun c r => ?_) (fun c xs r => ?_)
  · rw [delH_ne (fun z => by rw [z, h2] at r; cases r)]
    exact r
  · rw [delH_ne (fun z => by rw [z, h2] at r; cases r)]
    exact r
end
end RK

/-! isinstance and fields of an exception that a def was handed -/
namespace PySem.W
open PySem PySem.Spec PySem.Calls PyProof.Rows
section
variable {prog : Program} {w : World} {A : Around} {E : Value → Shared → Prop} {s : Shared} {K : Frag} {x D : Addr} {ox : Obj} {od : Option Obj}
theorem rk_findData {C : Addr} {name : Str} {u g : Value} (c1 : (clsIn K C).isSome = true) (c2 : findIn K (.ref C) name = some (some u)) (c3 : specialIn K u "__get__" = some (some g)) (c4 : takesIn K u = some true) : findObj K C od name = some (.bind g u) := by
  obtain ⟨cd, e⟩ := Option.isSome_iff_exists.mp c1
  unfold findObj
  simp [e, c2, c3, c4]
/-- x.__class__ of an own exception, whatever its dict -/
theorem rk_classE {Q : Option Value → Shared → Prop} (C : L2.ExcC K D) (KI : K.In s.heap) (I : InstAt s.heap x ox D od) (h : Q (some (.ref D)) { s with toks := s.toks + 1 }) : wpAny (model prog w) A (getAttr? (.ref x) "__class__") Q E s := by
  have fo : findObj K D od "__class__" = some (.bind (.builtin "getset_descriptor.__get__") (.builtin "object.__class__")) := rk_findData (by obtain ⟨cd, e, _⟩ := any_some C.hd; rw [e]; rfl) C.ha C.hn C.ht
  obtain ⟨hh, gg, dd, tt, oo⟩ := s
  have T0 := I.type (M := model prog w)
  have T1 := looks_findIn (M := model prog w) KI C.hg
  have T2 := looks_findIn (M := model prog w) KI C.hk
  have T3 := looks_find (M := model prog w) KI I fo
  have isB : Looks (model prog w) hh (isInstance (.ref x) (.type "BaseException")) true := T0.andThen (looks_subIn KI C.hs)
  have z2 : (Value.builtin "BaseException.__getattribute__" == Value.builtin "object.__getattribute__") = false := by decide +kernel
  unfold getAttr? getAttrBy? getAttrBy
  refine wpAny_bind (wpAny_mkText (wpAny_bind (wpAny_attempt (wpAny_holding (wpAny_bind (T0.at (wpAny_bind (T1.at ?_))))))))
  show wpAny _ _ (if (onTheHeap (Value.ref D) && Value.builtin "BaseException.__getattribute__" == Value.builtin "object.__getattribute__") = true then _ else _) _ _ _
  rw [z2, Bool.and_false, if_neg Bool.false_ne_true]
  unfold getAttrByItsOwn hookBefore
  refine wpAny_bind ?_
  have z3 : onTheHeap (Value.ref D) = true := rfl
  rw [if_pos z3]
  refine T2.at (wpAny_bind (wpAny_attempt (wpAny_holding ?_)))
  unfold callGetattribute
  rw [show (false && onTheHeap (Value.builtin "BaseException.__getattribute__")) = false from rfl, if_neg Bool.false_ne_true]
  unfold boundAndCalled
  rw [PySem.F.excAttr_ValueError.ga.bind (.ref x)]
  refine wpAny_bind (wpAny_pure ?_)
  show wpAny _ _ (call (.builtin "BaseException.__getattribute__") [.ref x, .str "__class__" tt]) _ _ _
  refine wpAny_call (codeAny_call_builtin PySem.F.excAttr_ValueError.ga.plain PySem.F.entry_bexc_ga (@check_slot (model prog w) _ _ ⟨hh, gg, dd, tt + 1, oo⟩ "BaseException.__getattribute__" "BaseException" "__getattribute__" (.ref x) [.str "__class__" tt] [] _ (by decide +kernel) (by decide +kernel) isB (PySem.F.args_bexc_ga (.ref x) (.str "__class__" tt)) ?_))
  unfold Builtin.«object.__getattribute__»
  refine wpAny_bind (wpAny_of_eq (a := ((Value.ref x : Value), [Value.str "__class__" tt])) (by first | rfl | (simp only [slotArgs]; rfl)) (wpAny_bind (wpAny_pure (wpAny_bind (T0.at (wpAny_bind (T3.at ?_)))))))
  show wpAny _ _ (holding [Value.builtin "object.__class__"] (call (.builtin "getset_descriptor.__get__") [.builtin "object.__class__", .ref x, .ref D]) >>= ret) _ _ _
  refine wpAny_bind (wpAny_holding (wpAny_call (class_get (s := ⟨hh, gg, dd, tt + 1, oo⟩) (ox := ox) (od := od) KI I C.hm (wpAny_pure ?_))))
  show wpAny _ _ (handedOut (.ref D)) _ _ _
  rw [handedOut_of (v := .ref D) rfl]
  first
    | exact wpAny_pure (wpAny_pure h)
    | exact wpAny_pure h
    | exact wpAny_pure (wpAny_bind (wpAny_pure (wpAny_pure h)))
theorem rk_clsObj {C : L2.ExcC K D} : ∃ oc, K.lookup D = some oc ∧ ∃ cd, oc.data = .cls cd := by
  obtain ⟨cd, e, _⟩ := any_some C.hd
  unfold clsIn at e
  split at e
  · rename_i ho
    exact ⟨_, ho, _, rfl⟩
  · cases e
theorem rk_kitE (C : L2.ExcC K D) : KitX K (.ref x) (.ref D) (fun h => InstAt h x ox D od) where
  ty := fun _ _ _ I => I.type
  it := fun M h KI I => by
    obtain ⟨oc, ho, cd, e⟩ := rk_clsObj (C := C)
    obtain ⟨c0, d0, t0, sl0⟩ := oc
    cases e
    intro A' Q' E' s' kp q
    unfold isType loadHead
    exact wpAny_bind (wpAny_loadPart (kp _ _ (KI _ _ ho)) (wpAny_pure q))
  ne := fun h tp dd its m sl KI e => by
    obtain ⟨oc, ho, cd, e2⟩ := rk_clsObj (C := C)
    refine Bool.eq_false_iff.mpr fun q => ?_
    obtain rfl : D = tp := Value.ref.inj (beq_iff_eq.mp q)
    rw [KI _ _ ho] at e
    cases e
    cases e2
  ca := fun KI I q => rk_classE C KI I q
end
end PySem.W
namespace RK
open PySem PySem.Spec PyProof.Rows L2
section
variable {X : Cx} {a D : Addr} {oe : Obj}
theorem exc_inst {h : Heap} {od : Option Addr} {o : Option Obj} (hz : Zc (.ref D) od oe) (hf : ∃ vs, oe.data = .fields vs) (e : h.get? a = some oe) (ho : match od with | none => o = none | some dd => ∃ u, h.get? dd = some u ∧ o = some u) : PySem.W.InstAt h a oe D o := by
  obtain ⟨vs, hd⟩ := hf
  refine ⟨e, hz.1, by unfold PySem.W.notCls; rw [hd] <;> rfl, ?_⟩
  rw [hz.2]
  cases od with
  | none => subst ho; trivial
  | some dd =>
    obtain ⟨u, h1, rfl⟩ := ho
    exact h1
/-- what is asked of a handed exception: its class D, its dict at dd with the fields fs -/
structure ExAt (H : Hp) (a D : Addr) (fs : List (Str × V)) : Prop where
  ex : ∃ oe dd, H a = some (ExE oe a) ∧ Zc (.ref D) (some dd) oe ∧ (∃ vs, oe.data = .fields vs) ∧ H dd = some (.xd fs)
def rIsX (K : PySem.W.Frag) : List V → Hp → VK → Prop := fun xs H Q => ∃ (a D : Addr) (fs : List (Str × V)) (c : V) (cv : Value) (b : Bool), xs = [.ref a, c] ∧ ExAt H a D fs ∧ ExcC K D ∧ (∀ u, RelV c u → u = cv) ∧ PySem.W.kitOne K (.ref D) cv = some b ∧ Q (.bl b) H
theorem cr_isX : CallR X (.builtin "isinstance") (rIsX X.K) := by
  intro pins s σ H xs us Q I r h
  obtain ⟨a, D, fs, c, cv, b, rfl, ⟨oe, dd, ha, hz, hf, hd⟩, C, hc, e, q⟩ := h
  cases r with
  | cons r1 r =>
    cases r with
    | cons r2 r =>
      cases r
      cases r1
      obtain rfl := hc _ r2
      have ea : s.heap.get? a = some oe := (I.hok a _ ha).1
      obtain ⟨mA, hns, _⟩ : ObjOk X.prog X.w H s.heap dd (.xd fs) := I.hok dd _ hd
      obtain ⟨od, ho, _⟩ := lookIn_ns hns
      exact PySem.W.kia_one (PySem.W.rk_kitE C) I.kIn (exc_inst hz hf ea ⟨od, ho, rfl⟩) e (fun z => nomatch z) fun tk => ⟨.bl b, H, I.kept (t' := tk) fun _ _ z => z, rfl, q⟩
/-- e.f -/
def tXfT (K : PySem.W.Frag) (f : Str) (te : TE) : TE := fun σ H Q => te σ H fun x H1 => ∃ (a D : Addr) (fs : List (Str × V)) (v : V), x = .ref a ∧ ExAt H1 a D fs ∧ XfC K D ∧ PySem.W.findIn K (.ref D) f = some none ∧ fs.lookup f = some v ∧ Q v H1
theorem pe_xfT {e : Expr} {te : TE} {pos : Pos} {f : Str} (he : PE X e te) (hb : attributeBase e f X.env (eval e X.env) = eval e X.env := by rfl) : PE X (.Attribute e f pos) (tXfT X.K f te) := by
  refine ⟨fun pins s σ H Q I h => attr_of hb (thn (he.run pins s σ H _ I h) fun u s1 hh => ?_)⟩
  obtain ⟨x, H1, I1, rx, a, D, fs, v, rfl, ⟨oe, dd, ha, hz, hf, hd⟩, T, hno, l, q⟩ := hh
  obtain rfl : u = Value.ref a := rx
  have ea : s1.heap.get? a = some oe := (I1.hok a _ ha).1
  obtain ⟨mA, hns, hr⟩ : ObjOk X.prog X.w H1 s1.heap dd (.xd fs) := I1.hok dd _ hd
  obtain ⟨od, ho, hl⟩ := lookIn_ns hns
  obtain ⟨u, hu, ru⟩ := RelO.some_of (v := v) (o := mA f) (by rw [← l]; exact hr f)
  exact HandSPX.exc_get I1.kIn (exc_inst hz hf ea ⟨od, ho, rfl⟩) T.ga T.gg T.exC (PySem.W.findObj_own T.hdC hno rfl (by rw [hl, hu])) (handed_of ru) ⟨v, H1, I1.tok _, ru, q⟩
end
end RK

/-! defs that are called where no text of a collection is under way (so that they may ask for such a text) -/
namespace RK
open PySem PySem.Spec PyProof.Rows L2
structure FnOkG (P : Program) (w : World) (K : PySem.W.Frag) (mg : Str → Option Value) (base : Heap) (CX : CXT) (k : Nat) (f : Addr) (fd : FuncData) (ps : List Str) (sp : Sp) : Prop where
  len : ∀ vs H Q E, sp vs H Q E → vs.length = ps.length
  run : ∀ (A : Around) (outer : List Env) (s : Shared) (H : Hp) (args : Args) (us : List Value) (vs : List V) (Q : VK) (E : XK), A.guards = some [] → Room k A → Env0 P w K mg base A outer s H → BindsTo s fd args (ps.zip us) → Vals vs us → sp vs H Q E →
    codeAny (model P w) A (.call (.ref f) args) (CR CX outer P w H s Q E) s
section
variable {P : Program} {w : World} {K : PySem.W.Frag} {mg : Str → Option Value} {base : Heap} {CX : CXT} {k : Nat} {f : Addr} {fd : FuncData} {N ps : List Str} {sp : Sp} {x qual : Str} {st : Stmt}
theorem guards_deeper {A : Around} {env : Env} (h : A.guards = some []) : (A.deeper env).guards = some [] := h
theorem FnOkG.of (F : FnOk P w K mg base CX k f fd ps sp) : FnOkG P w K mg base CX k f fd ps sp := ⟨F.len, fun A outer s H args us vs Q E _ => F.run A outer s H args us vs Q E⟩
/-- as Fun.ok, the body may use that no text of a collection is under way -/
theorem funG {CX : CXT} (F : Fun K x qual st f fd) (S : FnScope N ps (defScope st)) (len : ∀ vs H Q E, sp vs H Q E → vs.length = ps.length)
    (hbody : ∀ (cdv : Value) (A : Around) (outer : List Env) (s : Shared) (H : Hp) (vs : List V) (Q : VK) (E : XK), A.guards = some [] → Room k (A.deeper (envOfC qual (defScope st) s.heap.objs.size f cdv)) → sp vs H Q E →
      ∃ t, PSs (cxOf CX P w K mg base N qual (defScope st) f cdv A outer s H E) (defBody st) t ∧ t { nx := fun _ H' => Q .non H', rt := Q } (L2.start N vs) H) : FnOkG P w K mg base CX (k + 1) f fd ps sp := by
  obtain ⟨oc, od, kV, doc, pm, an, cdv, ct, osl, rfl, lk, hcd⟩ := F.ex
  exact ⟨len, fun A outer s H args us vs Q E hg hr e0 hb r q => LamX.run_ofS lk hcd S hr e0 hb r (len _ _ _ _ q) fun hr' => hbody cdv A outer s H vs Q E hg hr' q⟩
end
section
variable {X : Cx} {CX : CXT} {k : Nat} {f : Addr} {fd : FuncData} {ps : List Str} {sp : Sp} {E : XK} {x : Str} {es : List Expr} {e : Expr} {t : TA} {p pos : Pos}
theorem run_G {pins : List (Addr × Obj)} {σ : L2.St} {H : Hp} {s : Shared} {Q : VK} {us : List Value} {vs : List V} (F : FnOkG X.prog X.w X.K X.mg X.base CX k f fd ps sp) (hG : X.A.guards = some []) (hr : Room k X.A) (hb : L2.Binds X.K fd ps []) (hx : Passes CX X E)
    (I : Inv X pins σ H s) (r : Vals vs us) (h : sp vs H Q E) : wpAny (model X.prog X.w) X.A (call (.ref f) us) (EP X pins σ Q) X.xe s := by
  have hl : (us ++ []).length = ps.length := by rw [List.append_nil, ← r.length]; exact F.len _ _ _ _ h
  have r' : Vals vs (us ++ []) := by rw [List.append_nil]; exact r
  refine wpAny_call (codeAny_mono (F.run X.A X.stack s H ⟨us, []⟩ (us ++ []) vs Q E hG hr I.env0 (hb s us I.kIn hl) r' h) fun res s' hq => ?_)
  match res, hq with
  | .error er, hq => exact hx pins σ H s er s' I hq
  | .ok (.ret u), hq => exact I.after hq
  | .ok .next, hq => exact hq.elim
  | .ok .brk, hq => exact hq.elim
  | .ok .cont, hq => exact hq.elim
/-- f(e, ..) -/
theorem pe_callG (F : FnOkG X.prog X.w X.K X.mg X.base CX k f fd ps sp) (hG : X.A.guards = some []) (hr : Room k X.A) (hg : Gl X x) (hm : X.mg x = some (.ref f)) (hk : PySem.W.keepIn X.K (.ref f) = true) (hb : L2.Binds X.K fd ps []) (hx : Passes CX X E)
    (ha : PA X (e :: es) t) (hdb : (x == ("__debug__" : Str)) = false := by decide) (he : starEach (e :: es) X.env = (false, eval e X.env) :: starEach es X.env := by rfl) (hpl : (backTo pos (starEach es X.env)).any (·.1) = false := by rfl) :
    PE X (.Call (.Name x p) (e :: es) [] pos) (tCall sp [] E t) := by
  refine ⟨fun pins s σ H Q I h => wpAny_Call_Name_kw (ld_glob I hg hm (PySem.W.callWith_K (h₀ := X.base) I.ok.mod.kin hk (thn (ha.run pos pins s σ H _ I h) fun us s1 hh => ?_) he hpl) hdb)⟩
  obtain ⟨vs, H1, I1, r, q⟩ := hh
  exact ⟨I1.kIn, run_G F hG hr hb hx I1 r (by rw [List.append_nil] at q; exact q)⟩
end
/-! ### defs that an except suite calls -/
structure RoomS (k : Nat) (A : Around) : Prop where
  dp : A.depth + 3 * k + 5 < recursionLimit
  un : A.units + 16 * k + 200 < cLine
theorem RoomS.mono {j k : Nat} {A : Around} (r : RoomS k A) (h : j ≤ k) : RoomS j A := ⟨by have := r.dp; omega, by have := r.un; omega⟩
theorem RoomS.deeper {k : Nat} {A : Around} (r : RoomS (k + 1) A) (env : Env) : RoomS k (A.deeper env) := by
  obtain ⟨h1, h2⟩ := r
  exact ⟨by show A.depth + 1 + 3 * k + 5 < _; omega, by show A.units + 3 + 16 * k + 200 < _; omega⟩
theorem RoomS.of {k : Nat} {A : Around} (r : Room k A) : RoomS k A := ⟨r.dp, r.un⟩
theorem RoomS.units {k : Nat} {A : Around} (r : RoomS k A) : A.units + 64 < cLine := by have := r.un; omega
structure FnS (P : Program) (w : World) (K : PySem.W.Frag) (mg : Str → Option Value) (base : Heap) (CX : CXT) (k : Nat) (f : Addr) (fd : FuncData) (ps : List Str) (sp : Sp) : Prop where
  len : ∀ vs H Q E, sp vs H Q E → vs.length = ps.length
  run : ∀ (A : Around) (outer : List Env) (s : Shared) (H : Hp) (args : Args) (us : List Value) (vs : List V) (Q : VK) (E : XK), A.guards = some [] → RoomS k A → Env0 P w K mg base A outer s H → BindsTo s fd args (ps.zip us) → Vals vs us → sp vs H Q E →
    codeAny (model P w) A (.call (.ref f) args) (CR CX outer P w H s Q E) s
/-- the context of such a def's body: its own object stands as it stood -/
abbrev cxS (CX : CXT) (P : Program) (w : World) (K : PySem.W.Frag) (mg : Str → Option Value) (base : Heap) (N : List Str) (qual : Str) (scope : Scope) (f : Addr) (cd : Value) (A : Around) (outer : List Env) (s : Shared) (H : Hp) (E : XK) (o : Obj) : Cx := L2H.cxH CX P w K mg base N qual scope f cd A outer s H E (f, o)
section
variable {P : Program} {w : World} {K : PySem.W.Frag} {mg : Str → Option Value} {base : Heap} {k : Nat} {f : Addr} {fd : FuncData} {N ps : List Str} {sp : Sp} {x qual : Str} {st : Stmt}
theorem funS {CX : CXT} (F : Fun K x qual st f fd) (S : FnScope N ps (defScope st)) (len : ∀ vs H Q E, sp vs H Q E → vs.length = ps.length)
    (hbody : ∀ (cdv : Value) (o : Obj) (A : Around) (outer : List Env) (s : Shared) (H : Hp) (vs : List V) (Q : VK) (E : XK), A.guards = some [] → RoomS k (A.deeper (envOfC qual (defScope st) s.heap.objs.size f cdv)) → sp vs H Q E →
      ∃ t, PSs (cxS CX P w K mg base N qual (defScope st) f cdv A outer s H E o) (defBody st) t ∧ t { nx := fun _ H' => Q .non H', rt := Q } (L2.start N vs) H) : FnS P w K mg base CX (k + 1) f fd ps sp := by
  obtain ⟨oc, od, kV, doc, pm, an, cdv, ct, osl, rfl, lk, hcd⟩ := F.ex
  refine ⟨len, fun A outer s H args us vs Q E hG hr e0 hb r q => ?_⟩
  have inB := e0.mod.kin f _ lk
  obtain ⟨inS, fr⟩ := e0.bs f _ inB
  have KX : K.In s.heap := e0.mod.kin.keeps fun b o z => (e0.bs b o z).1
  have noL : s.heap.NoLimit := e0.mod.nolimit.keeps fun b o z => (e0.bs b o z).1
  have kinds : ∀ y ∈ ps.zip us, (defScope st).names.lookup y.1 = some .local ∨ ((defScope st).names.lookup y.1 = some .cell ∧ ((cellsFrom (s.heap.objs.size + 1) (defScope st).names []).lookup y.1).isSome = true) := fun ⟨n, v⟩ hy =>
    (S.par n (List.of_mem_zip hy).1).imp id fun z => ⟨z, PySem.W.cellsFrom_some _ _ _ (.inl z)⟩
  refine codeAny_call_function (show A.depth < recursionLimit by have := hr.dp; omega) (KX _ _ lk) rfl S.co S.gen rfl (PySem.W.codeRec_of KX hcd) (hb _ _ _ _ (wpAny_newFunctionEnv_cells S.kind kinds fun env he s1 ic => ?_))
  subst he
  refine ⟨noL.keeps ic.toInCall.keep, codeAny_func ?_⟩
  obtain ⟨t, ht, hq⟩ := hbody cdv { cls := oc, dict := od, data := .func (PySem.W.fnOf x qual (defArgs st) (defBody st) (defScope st) .none kV doc pm an cdv ct), slots := osl } A outer s H vs Q E hG (hr.deeper _) q
  have I := L2H.inv_startH (CX := CX) (E := E) S (p := (f, _)) ⟨inS, fr, (fun z => by rw [(e0.funs.mem z).1] at inB; cases inB), fun v z => (nomatch z)⟩ e0 (len _ _ _ _ q) r ic
  refine wpAny_mono (ht.run [] s1 (L2.start N vs) H _ I hq) (fun fl s' hs => ?_) fun e s' hs => hs
  match fl, hs with
  | .ret u, ⟨v, σ', H', J, rv, z⟩ => exact ⟨v, H', J.os, J.bare, J.base, J.hok, rv, z⟩
  | .next, ⟨σ', H', J, z⟩ => exact ⟨.non, H', J.os, J.bare, J.base, J.hok, rfl, z⟩
  | .brk, ⟨_, _, _, z⟩ => exact z.elim
  | .cont, ⟨_, _, _, z⟩ => exact z.elim
end
section
variable {X : Cx} {CX : CXT} {k : Nat} {f : Addr} {fd : FuncData} {ps : List Str} {sp : Sp} {E : XK} {x : Str} {es : List Expr} {e : Expr} {t : TA} {a : Addr} {oe : Obj} {p pos : Pos}
theorem pe_exc (hp : (a, oe) ∈ X.pn) (hB : X.base.get? a = none) (F : FnS X.prog X.w X.K X.mg X.base CX k f fd ps sp) (hG : X.A.guards = some []) (hr : RoomS k X.A) (hg : Gl X x) (hm : X.mg x = some (.ref f)) (hk : PySem.W.keepIn X.K (.ref f) = true) (hb : L2.Binds X.K fd ps [])
    (hE : ∀ s H e s', CX X.stack H s E e s' → False)
    (ha : PA X (e :: es) t) (hdb : (x == ("__debug__" : Str)) = false := by decide) (he : starEach (e :: es) X.env = (false, eval e X.env) :: starEach es X.env := by rfl) (hpl : (backTo pos (starEach es X.env)).any (·.1) = false := by rfl) :
    PE X (.Call (.Name x p) (e :: es) [] pos) (tExc oe a sp E t) := by
  refine ⟨fun pins s σ H Q I h => wpAny_Call_Name_kw (ld_glob I hg hm ?_ hdb)⟩
  refine PySem.W.callWith_K (h₀ := X.base) I.ok.mod.kin hk (thn (ha.run pos pins s σ H _ I h) fun us s1 hh => ?_) he hpl
  obtain ⟨vs, H1, I1, r, q⟩ := hh
  refine ⟨I1.kIn, ?_⟩
  obtain ⟨pa, pn, pl, pf, _⟩ := I1.pin (a, oe) (List.mem_append_left _ hp)
  have e0 := I1.env0
  have e1 : Env0 X.prog X.w X.K X.mg X.base X.A X.stack s1 (upd H1 a (ExE oe a)) :=
    ⟨e0.frames, e0.mod, fun b o z => ⟨(e0.bs b o z).1, by rw [upd_ne (fun w => by rw [w, hB] at z; cases z)]; exact (e0.bs b o z).2⟩, e0.bsz, e0.funs,
      fun b z => by
        rw [upd_ne (fun w => by
          rcases List.mem_cons.mp (I1.stkSub b z) with q | q
          · exact pl (w ▸ q)
          · exact pf (w ▸ q))]
        exact e0.frf b z, e0.hok.laidN (fun _ _ z => z) pn (ExE.ok pa), e0.bare⟩
  have hl : (us ++ []).length = ps.length := by rw [List.append_nil, ← r.length]; exact F.len _ _ _ _ q
  have r' : Vals vs (us ++ []) := by rw [List.append_nil]; exact r
  refine wpAny_call (codeAny_mono (F.run X.A X.stack s1 _ ⟨us, []⟩ (us ++ []) vs _ E hG hr e1 (hb s1 us I1.kIn hl) r' q) fun res s2 hq => ?_)
  cases res with
  | error er => exact (hE _ _ _ _ hq).elim
  | ok fl =>
    cases fl with
    | ret u =>
      obtain ⟨v, H2, os, bare, un, hok, rv, h2, qv⟩ := hq
      have ea : s2.heap.get? a = some oe := (hok a _ h2).1
      exact ⟨v, _, I1.call' os (exc_back pa pn h2 un ea) (hok_del hok h2) bare (fun b z => nomatch z), rv, qv⟩
    | next => exact hq.elim
    | brk => exact hq.elim
    | cont => exact hq.elim
end
end RK

/-! repr of data, where no text of a collection is under way -/
namespace RK
open PySem PySem.Spec PyProof.Rows L2
def rReprD (K : PySem.W.Frag) : List V → Hp → VK → Prop := fun xs H Q => ∃ x d, xs = [x] ∧ Dp K H x d ∧ d.showable = true ∧ d.hasDict = false ∧ d.depth < 60 ∧ d.shown.length ≤ sizeLine ∧ Q (.str d.shown) H
theorem cr_reprD {X : Cx} (hG : X.A.guards = some []) (hu : X.A.units + 64 < cLine) : CallR X (.builtin "repr") (rReprD X.K) := by
  intro pins s σ H xs us Q I r h
  obtain ⟨x, d, rfl, dp, hs, hnd, hd, hz, q⟩ := h
  obtain ⟨u, rfl, ru⟩ := vals1 r
  obtain ⟨as, rd⟩ := Dp.reads I d x u dp ru
  have big : ∀ a : Addr, u = .ref a → wpAny (model X.prog X.w) X.A (call (.builtin "repr") [u]) (EP X pins σ Q) X.xe s := fun a e => by
    subst e
    exact repr_of_reads' rd hs (PyData.noDict_hsm hnd) hG (by omega) (fun _ _ z => z) (fun h' tok tk hk => ⟨.str _, H, I.kept (t' := tk) hk, ⟨tok, rfl⟩, q⟩) hz
  cases dp with
  | lst _ _ => cases ru; exact big _ rfl
  | tup _ _ => cases ru; exact big _ rfl
  | non =>
    cases ru
    exact PySem.P.repr_of_none ⟨.str _, H, I.tok _, ⟨_, rfl⟩, q⟩
  | bl b =>
    cases ru
    exact PySem.P.repr_of_bool ⟨.str _, H, I.tok _, ⟨_, rfl⟩, by cases b <;> exact q⟩
  | int i =>
    obtain ⟨t, rfl⟩ := ru
    exact PySem.P.repr_of_int (of_decide_eq_true hs) ⟨.str _, H, I.tok _, ⟨_, rfl⟩, q⟩
  | str y =>
    obtain ⟨t, rfl⟩ := ru
    exact PySem.P.repr_of_str ⟨.str _, H, I.tok _, ⟨_, rfl⟩, q⟩ hz
end RK

/-! the end of a law whose defs ask for the texts of collections: the law's promise at the head's own surroundings -/
namespace RK
open PySem PySem.Spec PyProof.Rows L2 LamX
theorem callerG : callerA.guards = some [] := rfl
theorem law_callG {P : Program} {w : World} {K : PySem.W.Frag} {mg mb : Str → Option Value} {CX : CXT} {k : Nat} {fa a : Addr} {tb : List (Addr × Addr)} {fd : FuncData} {x : Str} {sp : Sp} {s1 : Shared} {us : List Value} {ns : List Int}
    (hK : K.In s1.heap) (hG : s1.heap.Ns mainGlobals mg) (hB : s1.heap.Ns builtinsNs mb) (hBB : ∀ x : Str, x ≠ "__name__" → mb x = bootBuiltins x) (hL : s1.heap.NoLimit) (hg : s1.gens = #[])
    (tabs : ∀ p ∈ tb, s1.heap.get? p.2 = some { cls := .none, data := .fields #[] }) (tabK : ∀ p ∈ tb, K.lookup p.2 = none) (codes : ∀ p ∈ tb, PySem.W.CodeHd s1.heap p.1 p.2)
    (hM : ∃ (bm : Addr) (ob : Obj), mg "__builtins__" = some (.ref bm) ∧ bm ≠ builtinsNs ∧ s1.heap.get? bm = some ob ∧ ob.cls = .type "module" ∧ ob.dict = some builtinsNs ∧ ob.data = .plain)
    (scr : s1.heap.get? a = some { cls := .type "list", data := .seq us.toArray }) (areI : IntsAre us ns) (len : ns.length ≤ sizeLine) (hr : Room k callerA)
    (F : ∀ base : Heap, K.In base → base.Ns mainGlobals mg → (∀ p ∈ tb, TabB base mg p.1 p.2) → FnOkG P w K mg base CX k fa fd [x] sp) (bind : ∀ (s : Shared) (u : Value), BindsTo s fd ⟨[u], []⟩ [(x, u)])
    (prom : ∀ H : Hp, (∀ p ∈ tb, H p.2 = some (.tbl #[])) → SqL K H a (ns.map V.int) → sp [.ref a] H (fun v _ => v = .bl true) fun _ _ _ => False)
    (none_ : ∀ H e s', CX [] H s1 (fun _ _ _ => False) e s' → False) :
    codeAny (model P w) callerA (.call (.ref fa) ⟨[.ref a], []⟩) (fun r s' => r = .ok (.ret (.bool true)) ∧ OldK s1.heap s'.heap ∧ s'.os = s1.os ∧ AllBare s'.gens) s1 := by
  have rel := vals_ints areI
  have lenU := areI.length
  generalize eT : tb.map (·.2) = TT
  have inT : ∀ p ∈ tb, p.2 ∈ TT := fun p hp => eT ▸ List.mem_map.mpr ⟨p, hp, rfl⟩
  have ofT : ∀ {b : Addr}, b ∈ TT → ∃ p ∈ tb, p.2 = b := fun {b} h => List.mem_map.mp (eT.symm ▸ h)
  have tabAt : ∀ {b : Addr}, b ∈ TT → s1.heap.get? b = some { cls := .none, data := .fields #[] } := fun {b} h => by
    obtain ⟨p, hp, rfl⟩ := ofT h
    exact tabs p hp
  have scrT : a ∉ TT := fun z => by
    have := (tabAt z).symm.trans scr
    cases this
  have go : ∀ H : Hp, (∀ p ∈ tb, H p.2 = some (.tbl #[])) → (∀ b u, H b = some u → (b = a ∧ (∃ o xs, u = .frz o (.lst xs)) ∧ K.lookup a = none) ∨ (b ∈ TT ∧ u = .tbl #[])) → SqL K H a (ns.map V.int) → HOk P w H s1.heap →
      codeAny (model P w) callerA (.call (.ref fa) ⟨[.ref a], []⟩) (fun r s' => r = .ok (.ret (.bool true)) ∧ OldK s1.heap s'.heap ∧ s'.os = s1.os ∧ AllBare s'.gens) s1 := by
    intro H hT what hS hok
    have sees : ∀ {b : Addr} {o : Obj}, s1.heap.get? b = some o → H b = none → (hidT s1.heap H).get? b = some o := fun e n => hidT_get e n
    have plain : ∀ {b : Addr} {o : Obj}, s1.heap.get? b = some o → (∀ vs n, o.data ≠ .seq vs n) → o.data ≠ .fields #[] → H b = none := fun {b o} e d1 d2 => by
      cases q : H b with
      | none => rfl
      | some u =>
        exfalso
        rcases what b u q with ⟨rfl, _⟩ | ⟨hb, _⟩
        · rw [scr] at e
          cases e
          exact d1 _ _ rfl
        · rw [tabAt hb] at e
          cases e
          exact d2 rfl
    have dicts : ∀ {b : Addr} {o : Obj} {es : Array DictEntry} {ep : Nat}, s1.heap.get? b = some o → o.data = .dict es ep → H b = none := fun e d => plain e (fun vs n z => by rw [d] at z; cases z) (fun z => by rw [d] at z; cases z)
    have nsT : ∀ {b : Addr} {m : Str → Option Value}, s1.heap.Ns b m → (hidT s1.heap H).Ns b m := fun {b m} ⟨o, es, ep, e, d, r⟩ => ⟨o, es, ep, sees e (dicts e d), d, r⟩
    have inB : K.In (hidT s1.heap H) := fun b o e => sees (hK b o e) (by
      cases q : H b with
      | none => rfl
      | some u =>
        exfalso
        rcases what b u q with ⟨rfl, _, nK⟩ | ⟨hb, _⟩
        · rw [nK] at e
          cases e
        · obtain ⟨p, hp, rfl⟩ := ofT hb
          rw [tabK p hp] at e
          cases e)
    have modB : L2.Mod K mg (hidT s1.heap H) := ⟨inB, nsT hG, ⟨mb, nsT hB, hBB⟩, by obtain ⟨mc, l1, l2⟩ := hL; exact ⟨mc, nsT l1, l2⟩⟩
    have tabB : ∀ p ∈ tb, TabB (hidT s1.heap H) mg p.1 p.2 := fun p hp => by
      refine ⟨?_, ?_, fun z => ?_⟩
      · obtain ⟨o, ws, file, tf, flags, tg, inF, text, tt, e1, r1, r2, r3, rest⟩ := codes p hp
        refine ⟨o, ws, file, tf, flags, tg, inF, text, tt, sees e1 (plain e1 (fun vs n z => by rw [r2] at z; cases z) (fun z => ?_)), r1, r2, r3, rest⟩
        rw [r2] at z
        cases z
        simp at r3
      · obtain ⟨bm, ob, b1, b2, b3, b4, b5, b6⟩ := hM
        refine ⟨bm, ob, b1, b2, fun q => ?_, fun q => ?_, sees b3 (plain b3 (fun vs n z => by rw [b6] at z; cases z) (fun z => by rw [b6] at z; cases z)), b4, b5, b6⟩
        · obtain ⟨o, es, ep, e, hd, _⟩ := hG
          rw [q, e] at b3
          cases b3
          rw [hd] at b6
          cases b6
        · rw [q, tabs p hp] at b3
          cases b3
          cases b6
      · obtain ⟨o, es, ep, e, hd, _⟩ := hG
        rw [z, tabs p hp] at e
        cases e
        cases hd
    have start : Env0 P w K mg (hidT s1.heap H) callerA [] s1 H := ⟨rfl, modB, fun b o e => of_hidT e, Nat.le_of_eq (hidT_size _ _), trivial, (fun b z => absurd (show b ∈ ([] : List Addr) from z) List.not_mem_nil), hok, .of_eq hg⟩
    refine codeAny_mono ((F _ inB (nsT hG) tabB).run callerA [] s1 H ⟨[.ref a], []⟩ [.ref a] [.ref a] _ _ callerG hr start (bind s1 (.ref a)) (.cons rfl .nil) (prom H hT hS)) fun r s2 res => ?_
    match r, res with
    | .error e, res => exact (none_ H e s2 res).elim
    | .ok .next, res => exact res.elim
    | .ok .brk, res => exact res.elim
    | .ok .cont, res => exact res.elim
    | .ok (.ret u), ⟨v, H2, os, bare, un, hok2, rv, q⟩ =>
      have qv : v = .bl true := q
      subst qv
      obtain rfl : u = Value.bool true := rv
      have old : ∀ {b : Addr} {o : Obj}, b ∉ TT → s1.heap.get? b = some o → s2.heap.get? b = some o := fun {b o} nb e => by
        cases hq : H b with
        | none => exact un.keep b o e hq (fun z => absurd (show b ∈ ([] : List Addr) from z) List.not_mem_nil) List.not_mem_nil
        | some u =>
          rcases what b u hq with ⟨_, ⟨ob, xs, rfl⟩, _⟩ | ⟨hb, _⟩
          · have e1 := (hok b _ hq).1
            have e2 := (hok2 b _ (un.frzs b ob _ hq)).1
            rw [e] at e1
            cases e1
            exact e2
          · exact absurd hb nb
      have more : ∀ p ∈ tb, ∃ m : Array Value, s2.heap.get? p.2 = some { cls := .none, data := .fields m } := fun p hp => by
        obtain ⟨m, z⟩ := un.tbls p.2 #[] (hT p hp)
        exact ⟨_, hok2 p.2 _ z⟩
      refine ⟨rfl, ⟨fun b o e => ?_, fun b o e => ?_⟩, os, bare⟩
      · by_cases hb : b ∈ TT
        · obtain ⟨p, hp, rfl⟩ := ofT hb
          obtain ⟨m, hm⟩ := more p hp
          rw [tabs p hp] at e
          cases e
          exact .inr (.inl ⟨((codes p hp).tab (tabs p hp)).isCodeTable, rfl, #[], m, rfl, by rw [Array.empty_append]; exact hm⟩)
        · exact .inl (old hb e)
      · by_cases hb : b ∈ TT
        · obtain ⟨p, hp, rfl⟩ := ofT hb
          obtain ⟨m, hm⟩ := more p hp
          exact ⟨_, hm⟩
        · exact ⟨o, old hb e⟩
  -- the heap as it is tracked in the beginning
  cases own : K.lookup a with
  | some o =>
    have e := hK a o own
    rw [scr] at e
    cases e
    refine go (fun b => if b ∈ TT then some (.tbl #[]) else none) (fun p hp => if_pos (inT p hp)) (fun b u h => ?_) (.inr ⟨_, us.toArray, _, own, rfl, rfl, rfl, by rw [List.size_toArray, lenU]; exact len, by simpa using rel⟩) (fun b u h => ?_)
    all_goals
      try dsimp only at h
      split at h
      · rename_i hb
        cases h
        first
          | exact .inr ⟨hb, rfl⟩
          | exact tabAt hb
      · cases h
  | none =>
    refine go (fun b => if b = a then some (.frz { cls := .type "list", data := .seq us.toArray } (.lst (ns.map V.int))) else if b ∈ TT then some (.tbl #[]) else none) (fun p hp => ?_) (fun b u h => ?_) (.inl (.inr ⟨{ cls := .type "list", data := .seq us.toArray }, if_pos rfl⟩)) (fun b u h => ?_)
    · try dsimp only
      rw [if_neg (show ¬ p.2 = a from fun z => scrT (z ▸ inT p hp)), if_pos (inT p hp)]
    · try dsimp only at h
      split at h
      · rename_i hb
        cases h
        exact .inl ⟨hb, ⟨_, _, rfl⟩, own⟩
      · split at h
        · rename_i hb
          cases h
          exact .inr ⟨hb, rfl⟩
        · cases h
    · try dsimp only at h
      split at h
      · rename_i hb
        cases h
        rw [hb]
        exact ⟨scr, by rw [List.length_map]; exact len, us, _, rel, scr⟩
      · split at h
        · rename_i hb
          cases h
          exact tabAt hb
        · cases h
/-- F is told the tables of the defs' code objects, too (all empty) -/
theorem walk_G {l : PySem.W.OpenLaw} {n k : Nat} {q : Program} {loose : List Str} {XP : (Str → Option Value) → Heap → Prop} {YP : World → Heap → Prop} {d : DefRec} {K : Params → PySem.W.Frag} {CX : World → CXT} {x : Str}
    (hn : l.most = some n) (hn2 : n ≤ sizeLine) (hdf : d.params.defaults = []) (hr : Room k callerA) (hY : ∀ (w : World) (h : Heap), YP w h → (K w.params).In h)
    (F : ∀ (w : World) (mg : Str → Option Value) (fa : Addr) (h : Heap), YP w h → (K w.params).In h → h.Ns mainGlobals mg → mg d.name = some (.ref fa) →
      (∀ e ∈ recsOf q, ∃ a o fd c P, mg e.name = some (.ref a) ∧ h.get? a = some o ∧ o.data = .func fd ∧ fd.code = .ref c ∧ h.IsCode c P #[] ∧ h.TableAt c P #[]) →
      ∃ (fd : FuncData) (tb : List (Addr × Addr)) (sp : Sp), (∀ p ∈ tb, h.get? p.2 = some { cls := .none, data := .fields #[] }) ∧ (∀ p ∈ tb, (K w.params).lookup p.2 = none) ∧ (∀ p ∈ tb, PySem.W.CodeHd h p.1 p.2) ∧ (∀ (s : Shared) (u : Value), BindsTo s fd ⟨[u], []⟩ [(x, u)]) ∧
        (∀ (H : Hp) (a : Addr) (ns : List Int), ns.length ≤ n → (∀ z ∈ ns, Builtin.Int.intBits z ≤ 1048576) → (∀ p ∈ tb, H p.2 = some (.tbl #[])) → SqL (K w.params) H a (ns.map V.int) → sp [.ref a] H (fun v _ => v = .bl true) fun _ _ _ => False) ∧
        ∀ base : Heap, (K w.params).In base → base.Ns mainGlobals mg → (∀ p ∈ tb, TabB base mg p.1 p.2) → FnOkG l.prog w (K w.params) mg base (CX w) k fa fd [x] sp)
    (hCX : ∀ (w : World) (H : Hp) (s : Shared) (e : Value) (s' : Shared), CX w [] H s (fun _ _ _ => False) e s' → False) : PySem.W.WalkO q loose XP YP l.row.toRowW d [] (fun f vs => PySem.call f vs) :=
  Att.attach_callB hn hdf fun w s0 s1 mg mb fa o pm cd doc a us ns G Y ho hd hcd hmg hobj areI len bits hg => by
    obtain ⟨fd, tb, sp, t1, t2, t3, hb, hsp, hF⟩ := F w mg fa _ Y (hY w _ Y) G.T.g hmg G.T.tab
    exact law_callG (hY w _ Y) G.T.g G.T.b G.T.builtins G.T.nolimit hg t1 t2 t3 G.T.bmain hobj areI (Nat.le_trans len hn2) hr hF hb (fun H hH hS => hsp H a ns len bits hH hS) fun H e s' => hCX w H s1 e s'
end RK

/-! told: try: got = act() / except (A, B, C) as e: return sort(e); behind it: return [word, got] -/
namespace RK
open PySem PySem.Spec PyProof.Rows L2 LamX
/-- what it makes of the reading of the lambda; spS: what sort promises -/
def TTold3 (K : PySem.W.Frag) (c1 c2 c3 : Value) (spS : Sp) (word : Str) : (XK → Hp → VK → Prop) → Hp → VK → Prop := fun tl H Q =>
  tl (fun cls d H' => ∃ b, exm3 K cls c1 c2 c3 = some b ∧
      (b = true → ∀ a oe, H' a = none → Zc cls d oe → (∃ vs, oe.data = .fields vs) → spS [.ref a] (upd H' a (ExE oe a)) (fun v H2 => H2 a = some (ExE oe a) ∧ Q v (delH H2 a)) C8.E0) ∧ (b = false → False)) H
    fun v H' => ∀ p, H' p = none → Q (.ref p) (upd H' p (.lst [.str word, v]))
section
variable {X : Cx}
/-- a reading, and what follows from its end -/
theorem pe_wk {e : Expr} {te : TE} (h : PE X e te) : PE X e (fun σ H Q => ∃ R : VK, te σ H R ∧ ∀ v H', R v H' → Q v H') :=
  ⟨fun pins s σ H Q I w => by
    obtain ⟨R, w1, w2⟩ := w
    exact wpAny_mono (h.run pins s σ H R I w1) (fun u s' z => by obtain ⟨v, H', I', r, q⟩ := z; exact ⟨v, H', I', r, w2 v H' q⟩) fun _ _ z => z⟩
theorem told_gives3 {x a got e srt word : Str} {x1 x2 x3 : Str} {sg : Scope} {g fS : Addr} {fdS : FuncData} {psS : List Str} {spS : Sp} {c1 c2 c3 cdg : Value} {q : Str} {j k kk : Nat} {n1 n2 n3 n4 n5 n6 n7 n8 n9 m1 m2 m3 m4 m5 m6 m7 m8 m9 : Pos}
    (hG : X.A.guards = some []) (hr : Room (k + 1) X.A) (F : FnS X.prog X.w X.K X.mg X.base C8.CX0 k fS fdS psS spS)
    (S : FnScope [a, got, e] [a] sg) (h1 : sg.names.lookup x1 = some .globalImplicit) (h2 : sg.names.lookup x2 = some .globalImplicit) (h3 : sg.names.lookup x3 = some .globalImplicit) (hs : sg.names.lookup srt = some .globalImplicit)
    (g1 : X.mg x1 = some c1) (g2 : X.mg x2 = some c2) (g3 : X.mg x3 = some c3) (gs : X.mg srt = some (.ref fS)) (ks : PySem.W.keepIn X.K (.ref fS) = true) (bs : L2.Binds X.K fdS psS [])
    (lg : sg.names.lookup got = some .local) (le : sg.names.lookup e = some .local)
    (d1 : (x1 == ("__debug__" : Str)) = false) (d2 : (x2 == ("__debug__" : Str)) = false) (d3 : (x3 == ("__debug__" : Str)) = false) (ds : (srt == ("__debug__" : Str)) = false)
    (de : (e == ("__debug__" : Str)) = false) (ce : (e == ("__classdict__" : Str)) = false) (dg : (got == ("__debug__" : Str)) = false) (cg : (got == ("__classdict__" : Str)) = false) :
    GivesTo X [a, got, e] x sg g cdg [.Try [.Assign [.Name got n1] (.Call (.Name a n2) [] [] n3) n4] [.ExceptHandler (some (.Tuple [.Name x1 n5, .Name x2 n6, .Name x3 n7] kk n8)) (some e) [.Return (some (.Call (.Name srt m1) [.Name e m2] [] m3)) m4] m5] [] [] m6, .Return (some (.List [.Constant (.str word) j m7, .Name got m8] m9)) n9] a q
      (TTold3 X.K c1 c2 c3 spS word) := by
  intro f c' s H Q tl act hc h
  refine ⟨_, pss_cons (ps_try_as3 (X := (cxOf C8.CX0 X.prog X.w X.K X.mg X.base [a, got, e] x sg g cdg X.A X.stack s H C8.E0).nox) (i := 2)
      (tb := fun W D σ H => ∃ Ech : XK, (∀ cls d σ' H', Ech cls d H' → W cls d σ' H') ∧ σ[0]? = some (some (.ref f)) ∧ H c' = some (CodeO c' q) ∧ ∃ R : VK, tl Ech H R ∧ ∀ v H1, R v H1 → D.nx (σ.set 1 (some v)) H1)
      (Wout := fun _ _ _ _ => False) rfl rfl S.nd rfl le ⟨h1, g1⟩ ⟨h2, g2⟩ ⟨h3, g3⟩ LamX.takes0 (fun W pn xe tk hp => ?_)
      (fun b oe cls d pn hB hz hf => pss_one (ps_ret (pe_exc (a := b) (oe := oe) (E := C8.E0) (List.mem_cons_self) hB F hG ?_ hs gs ks bs (fun _ _ _ _ z => z.elim) (pa_cons (pe_var (i := 2) rfl (.inl le) de ce) pa_nil) ds))) d1 d2 d3) (pss_one (ps_ret (pe_lst (pa_cons pe_str (pa_cons (pe_var (i := 1) rfl (.inl lg) dg cg) pa_nil))))), ?_⟩
  · refine ⟨fun pins s' σ H' D I h' => ?_⟩
    obtain ⟨Ech, hW, w1, w2, R, w3, w4⟩ := h'
    exact (pss_one (ps_set (i := 1) S.nd rfl (Or.inl lg) (pe_wk (act W pn xe Ech n2 n3 tk hW)))).run pins s' σ H' D I ⟨R, ⟨w1, w2, w3⟩, w4⟩
  · exact ⟨(hr.deeper (envOfC x sg s.heap.objs.size g cdg)).dp, (hr.deeper (envOfC x sg s.heap.objs.size g cdg)).un⟩
  · refine ⟨_, fun cls d σ' H' w => ?_, rfl, hc, _, h, fun v H1 w => ?_⟩
    · obtain ⟨b, e1, e2, e3⟩ := w
      refine ⟨b, e1, fun hb a' oe hl na hz hf => ?_, fun hb => (e3 hb).elim⟩
      refine ⟨.ref a', ?_, e2 hb a' oe na hz hf⟩
      rw [List.getElem?_set_self (by rw [hl]; show 2 < 3; decide)]
    · exact ⟨v, rfl, by show 2 ≤ sizeLine; decide, w⟩
end
end RK

/-! an own exception class over ValueError, from facts that are looked up -/
namespace RK
open PySem PySem.Spec PyProof.Rows L2
/-- the shape of its class object -/
def oexS (C : Addr) (cd : ClassData) (sl : Array (Option Value)) : Bool := match cd.mro, sl.toList with
  | .ref C' :: bm, [_, _, _, _, some (.builtin n), _] => decide (C' = C) && decide (n = "ValueError.__new__") && !cd.hasDel && cd.hasDict && PySem.HandSPX.refsVE bm
  | _, _ => false
theorem oex_mk {K : PySem.W.Frag} {C : Addr} {dd : Option Addr} {cd : ClassData} {sl : Array (Option Value)} (l : K.lookup C = some ⟨.type "type", dd, .cls cd, sl⟩) (y : oexS C cd sl = true)
    (sa : PySem.W.findIn K (.ref C) "__setattr__" = some (some (.builtin "object.__setattr__"))) (ex : PySem.W.subIn K (.ref C) (.type "BaseException") = some true) (ty : PySem.W.typeIn K (.ref C) = some (.type "type")) (kc : PySem.W.keepIn K (.ref C) = true) : OexC K C := by
  refine ⟨?_, sa, ex, ty, kc⟩
  unfold oexS at y
  split at y
  · rename_i C' bm k0 k1 k2 k3 n k5 em es
    obtain ⟨ls⟩ := sl
    dsimp only at es
    subst es
    obtain ⟨nm, bs, mro, ns, qn, hd, sn, sub, ab, col, del⟩ := cd
    dsimp only at em y
    subst em
    obtain ⟨y, rv⟩ := Bool.and_eq_true_iff.mp y
    obtain ⟨y, y1⟩ := Bool.and_eq_true_iff.mp y
    obtain ⟨y, y2⟩ := Bool.and_eq_true_iff.mp y
    obtain ⟨y3, y4⟩ := Bool.and_eq_true_iff.mp y
    obtain rfl := of_decide_eq_true y3
    obtain rfl := of_decide_eq_true y4
    cases hd with
    | false => cases y1
    | true =>
      cases del with
      | true => cases y2
      | false => exact ⟨nm, qn, ns, bs, bm, sn, sub, ab, col, dd, k0, k1, k2, k3, k5, l, rv⟩
  · cases y
/-- xs.count(True), xs a list of truths -/
def rCntB (K : PySem.W.Frag) : V → List V → Hp → VK → Prop := fun x xs H Q => ∃ (p : Addr) (bs : List Bool), x = .ref p ∧ xs = [.bl true] ∧ SqL K H p (bs.map V.bl) ∧ Q (.int (bs.count true : Nat)) H
def isTrue (v : Value) : Bool := match v with
  | .bool b => b == true
  | _ => false
theorem bools_of : ∀ {bs : List Bool} {us : List Value}, Vals (bs.map V.bl) us → us = bs.map Value.bool
  | [], _, .nil => rfl
  | b :: r, _, .cons h t => by
    cases h
    rw [bools_of t]
    rfl
theorem count_true : ∀ bs : List Bool, (bs.map Value.bool).countP isTrue = bs.count true
  | [] => rfl
  | b :: r => by
    rw [List.map_cons, List.countP_cons, List.count_cons, count_true r]
    cases b <;> rfl
theorem mt_countB {X : Cx} : MtR X "list.count" (rCntB X.K) := by
  intro pins s σ H x xs v us Q I rx rxs h
  obtain ⟨p, bs, rfl, rfl, hs, q⟩ := h
  cases rx
  obtain ⟨u, rfl, ru⟩ := rxs.one
  cases ru
  obtain ⟨its, rv, ⟨⟨cls, dd, data, sl⟩, n, ho, hc, _, hd⟩, _⟩ := I.list hs
  dsimp only at hc hd
  subst hc hd
  obtain rfl := bools_of rv
  refine call_meets PySem.F.slot_list_count ⟨_, ho, rfl⟩ PySem.F.entry_list_count (PySem.F.args_list_count_2 _ _) (SeqAt.list_countAt p _ n dd sl (.bool true) isTrue) ⟨ho, fun y hy => ?_, ?_⟩
  · obtain ⟨b, _, rfl⟩ := List.mem_map.mp (show y ∈ bs.map Value.bool by simpa using hy)
    exact SeqAt.EqAt.bool_bool b true
  · exact ⟨.int (bs.count true : Nat), H, I.tok _, ⟨s.toks, by show Value.int (((bs.map Value.bool).countP isTrue : Nat) : Int) s.toks = _; rw [count_true]⟩, q⟩
end RK

/-! str(x) of an instance whose class has an own __str__ -/
namespace RK
open PySem PySem.Spec PyProof.Rows L2
section
variable {prog : Program} {w : World} {A : Around} {E : Value → Shared → Prop} {s : Shared} {K : PySem.W.Frag} {x C f : Addr} {ox : Obj} {od : Option Obj}
theorem strOf_own {Q : Value → Shared → Prop} (hu : A.units < cLine) (KI : K.In s.heap) (I : PySem.W.InstAt s.heap x ox C od) (hs : PySem.W.findIn K (.ref C) "__str__" = some (some (.ref f))) (hf : PySem.W.isFn K (.ref f) = true)
    (h : wpAny (model prog w) A (call (.ref f) [.ref x]) (fun r s1 => ∃ y u, r = Value.str y u ∧ Q r s1) E s) : wpAny (model prog w) A (Builtin.Str.strOf (.ref x)) Q E s := by
  unfold Builtin.Str.strOf
  rw [show Builtin.Str.isExactStr (.ref x) = false from rfl, if_neg Bool.false_ne_true]
  refine wpAny_bind (m := cRoomFor _ _) (wpAny_cRoomFor hu (wpAny_bind (m := callSpecial? (.ref x) (Str.ofString "__str__")) (PySem.W.special_fn KI I hs (beq_iff_eq.mp hf) (wpAny_mono h (fun r s1 z => ?_) fun _ _ y => y))))
  obtain ⟨y, u, rfl, q⟩ := z
  exact wpAny_pure q
theorem str_ownI {Q : Value → Shared → Prop} (hu : A.in1.in1.units < cLine) (KI : K.In s.heap) (I : PySem.W.InstAt s.heap x ox C od) (hs : PySem.W.findIn K (.ref C) "__str__" = some (some (.ref f))) (hf : PySem.W.isFn K (.ref f) = true)
    (h : wpAny (model prog w) A.in1.in1 (call (.ref f) [.ref x]) (fun r s1 => ∃ y u, r = Value.str y u ∧ Q r s1) E s) : wpAny (model prog w) A (call (.type "str") [.ref x]) Q E s := by
  refine callType_codes (T := "str") (Bi := Builtin.«object.__init__») (Q₁ := fun r s1 => ∃ y u, r = Value.str y u ∧ Q r s1) PySem.F.called_str (PySem.F.typeCall_str_1 _) PySem.F.entry_object_init (codeAny_of_tree ?_) (fun obj s1 z => ?_)
  · show wpAny _ A.in1.in1 (do checkBuiltinCall "str.__new__" ⟨[.type "str", .ref x], []⟩; again (.builtin "str.__new__" ⟨[.type "str", .ref x], []⟩)) _ _ s
    refine wpAny_bind (wpAny_of_eq (PySem.F.newCall_str_1 _) (wpAny_pure ⟨plainId_quiet (by decide +kernel) _, codeAny_builtin PySem.F.entry_str_new ?_⟩))
    rw [Around.under_plainId (by decide +kernel) _, str_new_tree (.ref x)]
    refine wpAny_bind (wpAny_pure (wpAny_bind (wpAny_of_eq isSubtype_str_str (wpAny_bind (strOf_own hu KI I hs hf (wpAny_mono h (fun r s1 z => ?_) fun _ _ y => y))))))
    obtain ⟨y, u, rfl, q⟩ := z
    exact ⟨y, u, rfl, wpAny_pure ⟨y, u, rfl, q⟩⟩
  · obtain ⟨y, u, rfl, q⟩ := z
    exact ⟨typeIs_str _ _ _, PySem.F.args_object_init_2 _ _, object_init_meets PySem.F.called_str.init.lookup PySem.F.called_str.made (by decide) prog w A.in1 _ s1 ⟨typeIs_str _ _ _, rfl, q⟩⟩
end
section
variable {X : Cx} {CX : CXT} {n : Nat} {C f : Addr} {fd : FuncData} {ps : List Str} {sp : Sp} {E : XK}
/-- str(x), x an instance of the class at C -/
def rStrO (C : Addr) (sp : Sp) (E : XK) : List V → Hp → VK → Prop := fun xs H Q => ∃ p dx fs, xs = [.ref p] ∧ H p = some (.ins C dx fs) ∧ sp [.ref p] H (fun v H' => ∃ y, v = .str y ∧ Q (.str y) H') E
theorem cr_strO (hs : PySem.W.findIn X.K (.ref C) "__str__" = some (some (.ref f))) (hf : PySem.W.isFn X.K (.ref f) = true) (F : FnOk X.prog X.w X.K X.mg X.base CX n f fd ps sp) (hr : Room (n + 2) X.A) (hb : L2.Binds X.K fd ps []) (hx : Passes CX X E) :
    CallR X (.type "str") (rStrO C sp E) := by
  intro pins s σ H xs us Q I r h
  obtain ⟨p, dx, fs, rfl, hp, q⟩ := h
  obtain ⟨u, rfl, ru⟩ := vals1 r
  cases (show u = Value.ref p from ru)
  obtain ⟨od, J⟩ := inst_at I hp
  have hr2 : Room n X.A.in1.in1 := (Room.in1 (k := n + 1) hr).in1
  have hl := F.len _ _ _ _ q
  have rv : Vals [V.ref p] ([Value.ref p] ++ []) := .cons rfl .nil
  refine str_ownI (by have := hr2.un; omega) I.kIn J hs hf (wpAny_call (codeAny_mono (F.run X.A.in1.in1 X.stack s H ⟨[.ref p], []⟩ ([Value.ref p] ++ []) [.ref p] _ E hr2 I.env0.in1.in1 (hb s [Value.ref p] I.kIn (by rw [List.append_nil]; exact hl)) rv q) fun res s' hq => ?_))
  match res, hq with
  | .error er, hq => exact hx pins σ H s er s' I hq
  | .ok (.ret v), hq =>
    obtain ⟨z, H', I', rz, y, rfl, qz⟩ := I.after hq
    obtain ⟨t, rfl⟩ := rz
    exact ⟨y, t, rfl, .str y, H', I', ⟨t, rfl⟩, qz⟩
  | .ok .next, hq => exact hq.elim
  | .ok .brk, hq => exact hq.elim
  | .ok .cont, hq => exact hq.elim
end
end RK

/-! C.m(e, ..) where m is a staticmethod of the class at C -/
namespace RK
open PySem PySem.Spec PyProof.Rows L2
structure SMet (K : PySem.W.Frag) (C : Addr) (mc : Value) (m : Str) (p g : Addr) : Prop where
  at_ : PySem.W.findCls K (.ref C) mc m = some (.get (.builtin "staticmethod.__get__") (.ref p) .none (.ref C))
  rc : ∃ rest, PySem.W.recIn K p "staticmethod" = some (.ref g :: rest)
  rd : PySem.W.readsIn K C mc = true
  ga : PySem.W.specialIn K (.ref C) "__getattribute__" = some (some (.builtin "type.__getattribute__"))
  kp : PySem.W.keepIn K (.ref g) = true
def tSMeth (C : Addr) (sp : Sp) (E : XK) (ta : TE) (t : TA) : TE := fun σ H Q => ta σ H fun x H1 => x = .ref C ∧ t σ H1 fun vs H2 => sp vs H2 Q E
section
variable {X : Cx} {CX : CXT} {k : Nat} {C p g : Addr} {mc : Value} {m : Str} {fd : FuncData} {ps : List Str} {sp : Sp} {E : XK} {o e : Expr} {es : List Expr} {ta : TE} {t : TA} {apos pos : Pos}
theorem pe_smeth {pl : Sem Bool} (he : PE X o ta) (c : SMet X.K C mc m p g) (F : FnOk X.prog X.w X.K X.mg X.base CX k g fd ps sp) (hr : Room k X.A) (hb : L2.Binds X.K fd ps []) (hx : Passes CX X E) (ha : PA X (e :: es) t)
    (hst : starEach (e :: es) X.env = (false, eval e X.env) :: starEach es X.env := by rfl) (hpl : (backTo pos (starEach es X.env)).any (·.1) = false := by rfl)
    (ht : eval (.Call (.Attribute o m apos) (e :: es) [] pos) X.env = (do
      let ov ← eval o X.env
      standAt apos.atName
      let (f, first) ← holding [ov] (getMethod ov m pl)
      callWith pos f first (backTo pos (starEach (e :: es) X.env)) (backToKw pos (keywordEach [] X.env))) := by rfl) :
    PE X (.Call (.Attribute o m apos) (e :: es) [] pos) (tSMeth C sp E ta t) := by
  refine ⟨fun pins s σ H Q I h => PySem.W.methodCall_KW (pl := pl) (thn (he.run pins s σ H _ I h) fun u s1 hh => ?_) ht⟩
  obtain ⟨x, H1, I1, rx, rfl, q⟩ := hh
  obtain rfl : u = Value.ref C := rx
  obtain ⟨rest, hp⟩ := c.rc
  refine PySem.W.method_cls I1.kIn c.ga (PySem.W.cls_bind I1.kIn c.rd c.at_ (wpAny_call (PySem.W.sm_get (s := { s1 with toks := s1.toks + 1 }) I1.kIn hp (PySem.W.handed_on rfl ?_))))
  have I2 := I1.kept (h' := s1.heap) (t' := s1.toks + 1) fun _ _ z => z
  refine PySem.W.callWith_K (h₀ := X.base) I2.ok.mod.kin c.kp (thn (ha.run pos pins _ σ H1 _ I2 q) fun us s3 hh => ?_) hst hpl
  obtain ⟨vs, H2, I3, rv, q2⟩ := hh
  exact ⟨I3.kIn, run_fn F hr hb .nil hx I3 rv (by rw [List.append_nil]; exact q2)⟩
/-- C.m(k = v, ..) -/
def tSMethK (C : Addr) (ks : List Str) (sp : Sp) (gV : List V → List V → List V) (E : XK) (ta : TE) (tk : TA) : TE := fun σ H Q => ta σ H fun x H1 => x = .ref C ∧ tk σ H1 fun zs H2 => zs.length = ks.length ∧ sp (gV [] zs) H2 Q E
theorem pe_smethK {pl : Sem Bool} {kws : List Keyword} {ks : List Str} {gg : List Value → List Value → List Value} {gV : List V → List V → List V} {tk : TA} (he : PE X o ta) (c : SMet X.K C mc m p g) (F : FnOk X.prog X.w X.K X.mg X.base CX k g fd ps sp) (hr : Room k X.A) (hb : KBn X.K fd ps 0 ks gg gV) (hx : Passes CX X E) (hkw : PK X kws tk)
    (hall : (backToKw pos (keywordEach kws X.env)).all (·.1.isSome) = true := by rfl) (hks : (backToKw pos (keywordEach kws X.env)).filterMap (·.1) = ks := by rfl)
    (hpl : ((backTo pos (starEach [] X.env)).any (·.1) || (backToKw pos (keywordEach kws X.env)).any (·.1.isNone)) = false := by rfl)
    (ht : eval (.Call (.Attribute o m apos) [] kws pos) X.env = (do
      let ov ← eval o X.env
      standAt apos.atName
      let (f, first) ← holding [ov] (getMethod ov m pl)
      callWith pos f first (backTo pos (starEach [] X.env)) (backToKw pos (keywordEach kws X.env))) := by rfl) :
    PE X (.Call (.Attribute o m apos) [] kws pos) (tSMethK C ks sp gV E ta tk) := by
  refine ⟨fun pins s σ H Q I h => PySem.W.methodCall_KW (pl := pl) (thn (he.run pins s σ H _ I h) fun u s1 hh => ?_) ht⟩
  obtain ⟨x, H1, I1, rx, rfl, q⟩ := hh
  obtain rfl : u = Value.ref C := rx
  obtain ⟨rest, hp⟩ := c.rc
  refine PySem.W.method_cls I1.kIn c.ga (PySem.W.cls_bind I1.kIn c.rd c.at_ (wpAny_call (PySem.W.sm_get (s := { s1 with toks := s1.toks + 1 }) I1.kIn hp (PySem.W.handed_on rfl ?_))))
  have I2 := I1.kept (h' := s1.heap) (t' := s1.toks + 1) fun _ _ z => z
  refine PySem.W.callWith_KW0 (first := []) (h₀ := X.base) I2.ok.mod.kin c.kp hall (thn (hkw.run pos pins _ σ H1 _ I2 q) fun ws s3 hh => ?_) hpl
  obtain ⟨zs, H2, I3, rz, l2, q2⟩ := hh
  refine ⟨I3.kIn, ?_⟩
  rw [hks]
  exact run_fnN (us := []) (vs := []) F hr hb hx I3 .nil rz rfl l2 q2
end
end RK

/-! a token that is out, carried through a for, a test and a comprehension; s.replace(y, z, 1) -/
namespace RK
open PySem PySem.Spec PyProof.Rows L2
section
variable {P : Program} {w : World} {K : PySem.W.Frag} {mg : Str → Option Value} {base : Heap} {CX : CXT} {k : Nat} {f : Addr} {fd : FuncData} {N ps : List Str} {sp : Sp} {x qual : Str} {st : Stmt}
/-- a def whose body may use that a token is out -/
theorem funT (F : Fun K x qual st f fd) (S : FnScope N ps (defScope st)) (hn : ∀ y ∈ (defScope st).names, y.2 ≠ .cell) (hp : 1 ≤ ps.length) (len : ∀ vs H Q E, sp vs H Q E → vs.length = ps.length)
    (body : ∀ (cdv : Value) (A : Around) (outer : List Env) (s : Shared) (H : Hp) (vs : List V) (Q : VK) (E : XK), Room k (A.deeper (envOfC qual (defScope st) s.heap.objs.size f cdv)) → sp vs H Q E →
      ∃ t, PSsT (cxOf CX P w K mg base N qual (defScope st) f cdv A outer s H E).nox (defBody st) t ∧ t { nx := fun _ H' => Q .non H', rt := Q } (L2.start N vs) H) : FnOk P w K mg base CX (k + 1) f fd ps sp := by
  obtain ⟨oc, od, kV, doc, pm, an, cdv, ct, osl, rfl, lk, hcd⟩ := F.ex
  exact fn_ofT lk hcd S hn hp len fun A outer s H vs Q E hr q => by
    obtain ⟨t, h1, h2⟩ := body cdv A outer s H vs Q E hr q
    exact ⟨t, fun pins s σ H D h0 I hw => wpAny_mono (h1 pins s σ H D h0 (I.wish _) hw) (fun _ _ q => q.unwish) fun _ _ z => False.elim z, h2⟩
end
/-! ### replace, once -/
def rep1 (x y z : Str) : Str := if ((Builtin.Str.occurrences x y 0 x.length 1).isEmpty || (y.length == 0 && z.length == 0)) = true then x else Builtin.Str.glued z (Builtin.Str.partsBetween x (Builtin.Str.occurrences x y 0 x.length 1) y.length)
def tRep1 (to : TE) (y z : Str) : TE := fun σ H Q => to σ H fun v H1 => ∃ x, v = .str x ∧ x.length ≤ 10000 ∧ Q (.str (rep1 x y z)) H1
theorem gives_rep1 (x y z : Str) (t u v c : Tok) (h0 : (u == 0 || v == 0) = false) (h1 : (u == v) = false) (h2 : (y == z) = false) (h3 : Builtin.Str.tooLong (x.length + (Builtin.Str.occurrences x y 0 x.length 1).length * z.length) = false) :
    Gives (Builtin.«str.replace» ⟨[.str x t, .str y u, .str z v, .int 1 c], []⟩) (if ((Builtin.Str.occurrences x y 0 x.length 1).isEmpty || (y.length == 0 && z.length == 0)) = true then .val (.str x t) else .str (Builtin.Str.glued z (Builtin.Str.partsBetween x (Builtin.Str.occurrences x y 0 x.length 1) y.length))) := by
  have e : Builtin.«str.replace» ⟨[.str x t, .str y u, .str z v, .int 1 c], []⟩ = (if ((Builtin.Str.occurrences x y 0 x.length 1).isEmpty || (y.length == 0 && z.length == 0)) = true then (do rule "str.replace.nothing"; ret (.str x t)) else
      (do let same ← isSame (.str y u) (.str z v)
          if same = true then (do rule "str.replace.old-is-new"; ret (.str x t)) else
          if Builtin.Str.tooLong (x.length + (Builtin.Str.occurrences x y 0 x.length 1).length * z.length) = true then unsupported "str.replace:memory" else
          retStr (Builtin.Str.glued z (Builtin.Str.partsBetween x (Builtin.Str.occurrences x y 0 x.length 1) y.length)))) := by
    show (do let limit ← Builtin.Str.countLimit "str.replace" (some (.int 1 c)) (x.length + 1); _) = _
    rw [countLimit_int "str.replace" 1 c (x.length + 1) (by decide)]
    rfl
  rw [e]
  cases hc : ((Builtin.Str.occurrences x y 0 x.length 1).isEmpty || (y.length == 0 && z.length == 0))
  · rw [isSame_str_other y z u v h0 h1 h2, h3]
    exact .of_eq rfl
  · exact .rule (.of_eq rfl)
theorem glued1_len (x y z : Str) : (Builtin.Str.glued z (Builtin.Str.partsBetween x (Builtin.Str.occurrences x y 0 x.length 1) y.length)).length ≤ x.length + z.length := by
  have self := congrArg Str.length (StrLaws.glued_between_self x y 1)
  rw [size_glued, length_partsBetween] at self
  rw [size_glued, length_partsBetween]
  have few := StrLaws.occ_length_le x y 0 x.length 1
  rw [Nat.add_sub_cancel] at self ⊢
  have cut : (Builtin.Str.occurrences x y 0 x.length 1).length * z.length ≤ 1 * z.length := Nat.mul_le_mul_right _ few
  omega
theorem thnT {α : Type} {t : Sem α} {Q Q' : α → Shared → Prop} {M : Model} {A : Around} {E : Value → Shared → Prop} {s : Shared} {n : Nat} (hn : n ≤ s.toks) (h : wpAny M A t Q E s) (k : ∀ a s', n ≤ s'.toks → Q a s' → Q' a s') : wpAny M A t Q' E s :=
  wpAny_mono (wpAny_toks_of hn h) (fun a s' z => k a s' z.1 z.2) fun _ _ z => z.2
section
variable {X : Cx} {o e : Expr} {to te : TE} {y z : Str} {j k l : Nat} {c0 c1 c2 apos pos : Pos}
theorem pet_rep1 (ho : PE X o to) (hyz : (y == z) = false := by decide) (hz : z.length ≤ 100 := by decide)
    (hst : starEach [.Constant (.str y) j c0, .Constant (.str z) k c1, .Constant (.int 1) l c2] X.env = [(false, eval (.Constant (.str y) j c0) X.env), (false, eval (.Constant (.str z) k c1) X.env), (false, eval (.Constant (.int 1) l c2) X.env)] := by rfl)
    (hb : attributeBase o "replace" X.env (eval o X.env) = eval o X.env := by rfl) (hl : (apos.endLine == pos.line) = true := by rfl)
    (hf : ((backTo pos (starEach [.Constant (.str y) j c0, .Constant (.str z) k c1, .Constant (.int 1) l c2] X.env)).all (fun x => !x.1) && (backToKw pos (keywordEach [] X.env)).all (fun x => x.1.isSome) && decide ([(Expr.Constant (.str y) j c0), .Constant (.str z) k c1, .Constant (.int 1) l c2].length + ([] : List Keyword).length + (if ([] : List Keyword).isEmpty then 0 else 1) < 30)) = true := by rfl) :
    PET X (.Call (.Attribute o "replace" apos) [.Constant (.str y) j c0, .Constant (.str z) k c1, .Constant (.int 1) l c2] [] pos) (tRep1 to y z) := by
  intro pins s σ H Q h0 I h
  refine wpAny_Call_method_late hb hf hl rfl (thnT h0 (ho.run pins s σ H _ I h) fun v s1 t1 q => ?_)
  obtain ⟨v', H1, I1, r1, x, rfl, hx, q⟩ := q
  obtain ⟨tx, rfl⟩ := r1
  rw [hst]
  refine ⟨"str", _, PySem.F.plainAttrs_str, PySem.F.slot_str_replace, PySem.F.type_str_replace, typeIs_str _ _ _, (fun _ e => nomatch e), Calls.callWith_builtin rfl (Calls.evalArgs_plain ?_)⟩
  show wpAny _ _ (spliced [(false, eval (.Constant (.str y) j c0) X.env), (false, eval (.Constant (.str z) k c1) X.env), (false, eval (.Constant (.int 1) l c2) X.env)]) _ _ _
  refine Calls.spliced_cons (Calls.Constant_str (Calls.spliced_cons (Calls.Constant_str (Calls.spliced_cons (wpAny_Constant_int (Calls.spliced_nil ?_))))))
  have hlong : Builtin.Str.tooLong (x.length + (Builtin.Str.occurrences x y 0 x.length 1).length * z.length) = false := by
    have h1 := StrLaws.occ_length_le x y 0 x.length 1
    have h2 : (Builtin.Str.occurrences x y 0 x.length 1).length * z.length ≤ 1 * z.length := Nat.mul_le_mul_right _ h1
    unfold Builtin.Str.tooLong sizeLine
    exact decide_eq_false (by omega)
  refine call_gives F.slot_str_replace (typeIs_str _ _ _) F.entry_str_replace (F.args_str_replace_4 _ _ _ _) (gives_rep1 x y z tx _ _ _ ?_ ?_ hyz hlong) ?_
  · have a1 : s1.toks ≠ 0 := by omega
    have a2 : s1.toks + 1 ≠ 0 := by omega
    simp [a1, a2]
  · have a3 : s1.toks ≠ s1.toks + 1 := by omega
    simp [a3]
  · unfold rep1 at q
    split
    · rename_i c
      rw [if_pos c] at q
      exact ⟨.str x, H1, I1.tok _, ⟨tx, rfl⟩, q⟩
    · rename_i c
      rw [if_neg c] at q
      refine ⟨?_, ⟨.str _, H1, I1.tok _, ⟨_, rfl⟩, q⟩⟩
      have hg := glued1_len x y z
      show _ ≤ sizeLine
      unfold sizeLine
      omega
end
/-! ### for, a token out ahead of each turn -/
section
variable {X : Cx}
theorem pst_forT {tg iter : Expr} {body : List Stmt} {wi : TI} {g : TG} {tb : TS} {pos : Pos} (hp : PassesOwn (model X.prog X.w) X.A X.env X.xe) (hc : X.calm = true) (hi : PI X tg iter wi) (hg : PG X tg g) (hb : PSsT X body tb)
    (hs : ∀ x, foldedSetIterable iter X.env x = pure x := by intro _; rfl) : PST X (.For tg iter body [] pos) (tFor wi g tb) := by
  intro pins s σ H D h0 I h
  refine wpAny_For (thnT h0 (hi.run pins s σ H _ I h) fun v s1 t1 hv => thnT t1 hv fun itv s2 t2 hx => ?_) hs
  obtain ⟨it, fp, tn, J, H2, rfl, I2, T, b2, f2, W, ⟨m0, w0⟩, turn⟩ := hx
  have free_ : ∀ {H' : Hp}, (∀ b ∈ fp, H' b = none) → ∀ b ∈ fp, FpOk X pins H' b := fun n b m => ⟨n b m, (f2 b m).2⟩
  refine codeAny_forLoop_any (fun n z => 1 ≤ z.toks ∧ ∃ i τ G, Inv X pins τ G z ∧ tn i z.heap ∧ (∀ b ∈ fp, G b = none) ∧ W i n τ G) (fun n z hz => ?_) m0 ⟨t2, 0, σ, H2, I2, b2, fun b m => (f2 b m).1, w0⟩
  obtain ⟨tz, i, τ, G, J3, b3, n3, w3⟩ := hz
  have back : ∀ {z' y' : Shared} {τ' : L2.St} {G' : Hp} {N : L2.St → Hp → Prop}, 1 ≤ z'.toks → tn (i + 1) y'.heap → (∀ σ H, N σ H → ∃ m', m' < n ∧ W (i + 1) m' σ H) → Inv X (pins ++ pinsAt fp y'.heap) τ' G' z' → N τ' G' →
      ∃ m, m < n ∧ 1 ≤ z'.toks ∧ ∃ i τ G, Inv X pins τ G z' ∧ tn i z'.heap ∧ (∀ b ∈ fp, G b = none) ∧ W i m τ G := fun {z' y' τ' G' N} tz' by' hN J' nn => by
    obtain ⟨m', hm, w'⟩ := hN _ _ nn
    have at_ : ∀ b ∈ fp, ∀ ob, y'.heap.get? b = some ob → z'.heap.get? b = some ob ∧ G' b = none := fun b mb ob eb => by
      have q := J'.pin (b, ob) (List.mem_append_right _ (List.mem_append_right _ (mem_pinsAt mb eb)))
      exact ⟨q.1, q.2.1⟩
    refine ⟨m', hm, tz', i + 1, τ', G', J'.unpinned, T.keep _ _ _ by' fun b mb ob eb => (at_ b mb ob eb).1, fun b mb => ?_, w'⟩
    obtain ⟨ob, eb, _⟩ := T.obj _ _ by' b mb
    exact (at_ b mb ob eb).2
  rcases turn i n τ G w3 with ⟨stop, qn⟩ | ⟨go, N, hN, step⟩
  · refine wpAny_passesOwn hp (thn (T.done X rfl rfl rfl hc i pins z τ G X.xe J3 (free_ n3) b3 stop) fun r z1 hr => ?_)
    obtain ⟨rfl, J4⟩ := hr
    exact wpAny_execs_nil ⟨τ, G, J4, qn⟩
  · refine wpAny_passesOwn hp (thnT tz (T.item X rfl rfl rfl hc i pins z τ G X.xe J3 (free_ n3) b3 go) fun r z1 t4 hr => ?_)
    obtain ⟨u, rfl, hu⟩ := hr
    refine wpAny_passesOwn hp (thnT t4 hu fun _ z2 t5 hx => ?_)
    obtain ⟨x, G5, J5, r5, y5, b5, n5⟩ := hx
    have J5' := J5.pinned (free_ n5) (T.obj _ _ b5)
    refine wpAny_passesOwn hp (thnT t5 (hg.run _ z2 τ G5 x u _ J5' r5 (step x G5 y5)) fun _ z3 t6 hx => ?_)
    obtain ⟨τ6, G6, J6, q6⟩ := hx
    refine wpAny_passesOwn hp (thnT t6 (hb _ z3 τ6 G6 _ t6 J6 q6) fun fl z4 t7 q7 => ?_)
    cases fl with
    | next => obtain ⟨τ7, G7, J7, n7⟩ := q7; exact back t7 b5 hN J7 n7
    | cont => obtain ⟨τ7, G7, J7, n7⟩ := q7; exact back t7 b5 hN J7 n7
    | brk => obtain ⟨τ7, G7, J7, q7⟩ := q7; exact ⟨τ7, G7, J7.unpinned, q7⟩
    | ret v => obtain ⟨x7, τ7, G7, J7, r7, q7⟩ := q7; exact ⟨x7, τ7, G7, J7.unpinned, r7, q7⟩
end
/-! ### a comprehension over a text whose reckoning wants a token -/
section
variable {X : Cx}
theorem pet_lcS {elt tg iter : Expr} {ifs : List Expr} {scope : Scope} {own : List (Str × Nat)} {pos : Pos} {ti : TE} {g : TG} {tt : TT} {te : TE} (hc : X.calm = true) (hN : X.N.Nodup) (hi : PET X iter ti) (ok : BlkOk X.N X.env.scope scope own)
    (hg : ∀ s H C cl fp, PG (X.blk s H scope (compEnvC scope cl C X.env) fp) tg g) (ht : ∀ s H C cl fp, PTs (X.blk s H scope (compEnvC scope cl C X.env) fp) ifs tt) (he : ∀ s H C cl fp, PE (X.blk s H scope (compEnvC scope cl C X.env) fp) elt te)
    (hs : ∀ x, foldedSetIterable iter X.env x = pure x := by intro _; rfl) : PET X (.ListComp elt [⟨tg, iter, ifs, 0⟩] scope pos) (tLc (iStr ti) g tt te (own.map (·.2))) := by
  intro pins s σ H Q h0 I h
  rw [eval_ListComp]
  have closed := closure_ok (scope := scope) (env := X.env) fun y hy e => (ok.free y hy e).elim (fun c => I.ok.has _ (.inl c)) fun c => I.ok.has _ (.inr c)
  refine wpAny_comprehension_free (use := none) rfl hs closed ok.kind (fun y hy e => (ok.uniq y hy).trans (by rw [e])) (thn (hi pins s σ H _ h0 I h) fun v s1 hv => ?_)
  obtain ⟨_, H1, I1, r1, x, rfl, q⟩ := hv
  obtain ⟨t, rfl⟩ := r1
  have rest : ∀ itv s2, PIE X pins σ tg (fun J G => ∀ D, G D = none → ∃ W : Nat → Nat → Hp → Prop, (∃ m, W 0 m (upd G D (.lst []))) ∧ ∀ i m F, W i m F →
      (J.stop i F ∧ Q (.ref D) F) ∨ (J.go i F ∧ ∃ Nx : Hp → Prop, (∀ F', Nx F' → ∃ m', m' < m ∧ W (i + 1) m' F') ∧ ∀ x F', J.yld i F x F' → g x (wipe σ (own.map (·.2))) F' fun σ2 F2 => wipe σ2 (own.map (·.2)) = wipe σ (own.map (·.2)) ∧ tt σ2 F2 fun b F3 =>
        if b = true then te σ2 F3 fun y F4 => ∃ acc, F4 D = some (.lst acc) ∧ acc.length < sizeLine ∧ Nx (upd F4 D (.lst (acc ++ [y]))) else Nx F3)) itv s2 →
      wpAny (model X.prog X.w) X.A (newList []) (fun acc s3 => wpAny (model X.prog X.w) X.A (newFunctionEnv scope X.env.globals (cloFrom X.env.cells scope.names []) [] X.env.qual none .none (some X.env)) (fun cenv s4 =>
        codeAny (model X.prog X.w) X.A (.compStart (.ListComp elt [⟨tg, iter, ifs, 0⟩] scope pos) 0 itv acc { cenv with scope := relabel scope X.env }) (compPost (model X.prog X.w) X.A X.xe none (EP X pins σ Q) acc cenv.locals) s4) X.xe s3) X.xe s2 := by
    intro itv s2 hP
    obtain ⟨it, fp, tn, J, H2, rfl, I2, T, b2, f2, q⟩ := hP
    refine wpAny_newObj_type (newEnv_comp ?_) (Nat.zero_le _)
    have nD : H2 s2.heap.objs.size = none := I2.hok.fresh (Nat.le_refl _)
    obtain ⟨W, ⟨m0, w0⟩, turn⟩ := q _ nD
    have I3 : Inv X pins σ (upd H2 s2.heap.objs.size (.lst [])) { s2 with heap := s2.heap.push { cls := .type "list", data := .seq ([] : List Value).toArray } } :=
      I2.laid (t' := s2.toks) (fun b o e => Heap.get?_push_of_some _ e) (Nat.le_refl _) ⟨Nat.zero_le _, [], 0, .nil, Heap.get?_push_size _ rfl⟩
    have old : ∀ b ∈ fp, b < s2.heap.objs.size := fun b hb => by
      obtain ⟨o, e, _⟩ := T.obj _ _ b2 b hb
      exact Heap.lt_size e
    have b3 : tn 0 (s2.heap.push { cls := .type "list", data := .seq ([] : List Value).toArray }) := T.keep _ _ _ b2 fun b _ o e => Heap.get?_push_of_some _ e
    have f3 : ∀ b ∈ fp, FpOk X pins (upd H2 s2.heap.objs.size (.lst [])) b := fun b hb => ⟨by rw [upd_ne (Nat.ne_of_lt (old b hb))]; exact (f2 b hb).1, (f2 b hb).2⟩
    have l3 : ∀ b ∈ fp, b < (s2.heap.push { cls := .type "list", data := .seq ([] : List Value).toArray }).objs.size := fun b hb => by
      rw [Heap.size_push]
      exact Nat.lt_succ_of_lt (old b hb)
    generalize s2.heap.objs.size = D at *
    show codeAny _ _ _ _ { ({ s2 with heap := s2.heap.push { cls := .type "list", data := .seq ([] : List Value).toArray } } : Shared) with heap := pushCells ((s2.heap.push { cls := .type "list", data := .seq ([] : List Value).toArray }).push { cls := .type "dict", data := .dict #[] }) scope.names }
    generalize hs3 : ({ s2 with heap := s2.heap.push { cls := .type "list", data := .seq ([] : List Value).toArray } } : Shared) = s3 at I3 ⊢
    have hh : s2.heap.push { cls := .type "list", data := .seq ([] : List Value).toArray } = s3.heap := by rw [← hs3]
    rw [hh] at b3 l3 ⊢
    generalize upd H2 D (.lst []) = H3 at *
    have I4 := block_start I3 ok hN fun b hb => ⟨f3 b hb, l3 b hb⟩
    have G_ := hg s3 H3 s3.heap.objs.size (cellsFrom (s3.heap.objs.size + 1) scope.names (cloFrom X.env.cells scope.names [])) fp
    have T_ := ht s3 H3 s3.heap.objs.size (cellsFrom (s3.heap.objs.size + 1) scope.names (cloFrom X.env.cells scope.names [])) fp
    have E_ := he s3 H3 s3.heap.objs.size (cellsFrom (s3.heap.objs.size + 1) scope.names (cloFrom X.env.cells scope.names [])) fp
    show codeAny _ _ (.compStart _ 0 (.ref it) (.ref D) (compEnvC scope (cellsFrom (s3.heap.objs.size + 1) scope.names (cloFrom X.env.cells scope.names [])) s3.heap.objs.size X.env)) (compPost _ _ _ none (EP X pins σ Q) (.ref D) s3.heap.objs.size) { s3 with heap := pushCells (s3.heap.push { cls := .type "dict", data := .dict #[] }) scope.names }
    have here : (compEnvC scope (cellsFrom (s3.heap.objs.size + 1) scope.names (cloFrom X.env.cells scope.names [])) s3.heap.objs.size X.env).locals = s3.heap.objs.size := rfl
    generalize compEnvC scope (cellsFrom (s3.heap.objs.size + 1) scope.names (cloFrom X.env.cells scope.names [])) s3.heap.objs.size X.env = ce at I4 G_ T_ E_ here ⊢
    have b4 : tn 0 (pushCells (s3.heap.push { cls := .type "dict", data := .dict #[] }) scope.names) := T.keep _ _ _ b3 fun b _ o e => pushCells_keeps _ _ _ _ (Heap.get?_push_of_some _ e)
    generalize hs4 : ({ s3 with heap := pushCells (s3.heap.push { cls := .type "dict", data := .dict #[] }) scope.names } : Shared) = s4 at I4 ⊢
    have b4' : tn 0 s4.heap := by rw [← hs4]; exact b4
    have its_ : ∀ {τ : L2.St} {G : Hp} {z : Shared}, Inv (X.blk s3 H3 scope ce fp) [] τ G z → (∀ b ∈ fp, G b = none) → ∀ b ∈ fp, FpOk (X.blk s3 H3 scope ce fp) [] G b := fun J n b hb =>
      ⟨n b hb, (J.ok.exf b hb).1, J.ok.exfs b hb, .inl hb, fun c d e => (J.ok.exf b hb).2 c d e, fun p hp => by cases hp⟩
    refine codeAny_compStart_list ?_ (T.self X.A 0 _ _ _ b4' ?_)
    all_goals
      refine compLoop_any (fun n z => ∃ i G, Inv (X.blk s3 H3 scope ce fp) [] (wipe σ (own.map (·.2))) G z ∧ tn i z.heap ∧ (∀ b ∈ fp, G b = none) ∧ W i n G) (fun n z hz => ?_) m0 ⟨0, H3, I4, b4', fun b hb => (f3 b hb).1, w0⟩
      obtain ⟨i, G, J5, b5, n5, w5⟩ := hz
      rcases turn i n G w5 with ⟨stop, qq⟩ | ⟨go, Nx, hNx, step⟩
      · refine thnF (T.done (X.blk s3 H3 scope ce fp) rfl rfl rfl hc i [] z _ G (fun _ _ => False) J5 (its_ J5 n5) b5 stop) fun r z6 hr => ?_
        obtain ⟨rfl, J6⟩ := hr
        have out : Inv X pins σ G z6 := I3.call' (ch := fp) J6.os J6.base J6.hok J6.bare fun b hb => let f := f3 b hb; ⟨f.2.2.2.1, f.2.1, f.2.2.2.2.1, f.2.2.2.2.2⟩
        have gone : G s3.heap.objs.size = none := by rw [← here]; exact J6.free
        obtain ⟨m, names, _⟩ := J6.loc
        obtain ⟨p0, p1, _, p3, p4, p5⟩ := I3.fpOk (H' := G) (Nat.le_refl _) gone
        refine ⟨m, by rw [← here]; exact names, fun hp sb => ⟨.ref D, G, out.turned (t' := z6.toks) (fun b o nb e => (sb.2 b nb).trans e) p0 p1 p3 p4 p5, rfl, qq⟩⟩
      · refine thnF (T.item (X.blk s3 H3 scope ce fp) rfl rfl rfl hc i [] z _ G (fun _ _ => False) J5 (its_ J5 n5) b5 go) fun r z6 hr => ?_
        obtain ⟨u, rfl, hu⟩ := hr
        refine thnF hu fun _ z7 hx => ?_
        obtain ⟨y, G7, J7, r7, y7, b7, n7⟩ := hx
        have J7' := J7.pinned (its_ J7 n7) (T.obj _ _ b7)
        refine thnF (G_.run _ z7 _ G7 y u _ J7' r7 (step y G7 y7)) fun _ z8 hx => ?_
        obtain ⟨τ8, G8, J8, e8, q8⟩ := hx
        refine thnF (T_.run _ z8 τ8 G8 _ J8 q8) fun b z9 hx => ?_
        obtain ⟨G9, J9, q9⟩ := hx
        have turn_ : ∀ {z' : Shared} {G' : Hp}, Inv (X.blk s3 H3 scope ce fp) ([] ++ pinsAt fp z7.heap) τ8 G' z' → Nx G' → ∃ m, m < n ∧ ∃ i G, Inv (X.blk s3 H3 scope ce fp) [] (wipe σ (own.map (·.2))) G z' ∧ tn i z'.heap ∧ (∀ b ∈ fp, G b = none) ∧ W i m G := fun {z' G'} J' nx => by
          obtain ⟨m', hm, w'⟩ := hNx G' nx
          have at_ : ∀ b ∈ fp, ∀ o, z7.heap.get? b = some o → z'.heap.get? b = some o ∧ G' b = none := fun b hb o e => by
            have p := J'.pin (b, o) (List.mem_append_right _ (List.mem_append_right _ (mem_pinsAt hb e)))
            exact ⟨p.1, p.2.1⟩
          refine ⟨m', hm, i + 1, G', (J'.unpinned (pins := [])).weak (by rw [← e8, wipe_length]) (fun j v e => ?_), T.keep _ _ _ b7 fun b hb o e => (at_ b hb o e).1, fun b hb => ?_, w'⟩
          · rw [← e8] at e
            exact (wipe_some e).1
          · obtain ⟨o, e, _⟩ := T.obj _ _ b7 b hb
            exact (at_ b hb o e).2
        cases b with
        | false =>
          rw [if_neg (by decide)] at q9 ⊢
          exact turn_ J9 q9
        | true =>
          rw [if_pos rfl] at q9 ⊢
          refine thnF (E_.run _ z9 τ8 G9 _ J9 q9) fun v' z10 hx => ?_
          obtain ⟨yv, G10, J10, r10, acc, a1, a2, nx⟩ := hx
          exact app_ok (X := X.blk s3 H3 scope ce fp) J10 a1 a2 r10 fun z11 J11 => turn_ J11 nx
  cases ha : x.cps.all (· < 128)
  · exact wpAny_pyIter_wide ha (rest _ _ (pi_one (tk := s1.toks) I1 _ (turn_str _ x t "str_iterator" (.inr rfl)) ⟨_, Heap.get?_push_size _ rfl, rfl, rfl⟩ q))
  · exact wpAny_pyIter_ascii ha (rest _ _ (pi_one (tk := s1.toks) I1 _ (turn_str _ x t "str_ascii_iterator" (.inl rfl)) ⟨_, Heap.get?_push_size _ rfl, rfl, rfl⟩ q))
end
/-! ### a test that wants a token -/
section
variable {X : Cx} {a b c : Expr} {ta tb : TE} {pos : Pos}
def PTT (X : Cx) (e : Expr) (t : TT) : Prop :=
  ∀ (pins : List (Addr × Obj)) (s : Shared) (σ : L2.St) (H : Hp) (Q : Bool → Hp → Prop), 1 ≤ s.toks → Inv X pins σ H s → t σ H Q → wpAny (model X.prog X.w) X.A (PySem.isTrue e X.env (eval e X.env)) (TP X pins σ Q) X.xe s
theorem ptt_cmp {op : CmpOp} {r : R2} (ho : OpR X (compareOp op) r) (ha : PET X a ta) (hb : PE X b tb) (hm : behindInMarks op b = false) : PTT X (.Compare a [op] [b] pos) (tTest (tOp r ta tb)) := by
  intro pins s σ H Q h0 I h
  refine wpAny_isTrue_Compare1 (thn (ha pins s σ H _ h0 I h) fun v s1 hv => ?_) hm
  obtain ⟨x, H1, I1, r1, q1⟩ := hv
  refine thn (hb.run pins s1 σ H1 _ I1 q1) fun u s2 hu => ?_
  obtain ⟨y, H2, I2, r2, q2⟩ := hu
  refine thn (ho pins s2 σ H2 x y v u _ I2 r1 r2 q2) fun d s3 hd => ?_
  obtain ⟨_, H3, I3, r3, k, rfl, q3⟩ := hd
  cases r3
  exact wpAny_truthy_bool ⟨H3, I3, q3⟩
theorem pst_ifT {ss us : List Stmt} {tc : TT} {t u : TS} (hc : PTT X c tc) (ha : PSsT X ss t) (hb : PSsT X us u) : PST X (.If c ss us pos) (tIfS tc t u) := by
  intro pins s σ H D h0 I h
  refine wpAny_If (thnT h0 (hc pins s σ H _ h0 I h) fun d s1 t1 hd => ?_)
  obtain ⟨H1, I1, q1⟩ := hd
  cases d with
  | true => exact ha pins s1 σ H1 D t1 I1 q1
  | false => exact hb pins s1 σ H1 D t1 I1 q1
end
end RK

/-! a def that makes lambdas for told; what is kept by one -/
namespace RK
open PySem PySem.Spec PyProof.Rows L2 LamX
section
variable {P : Program} {w : World} {K : PySem.W.Frag} {mg : Str → Option Value} {base : Heap} {CX : CXT} {k : Nat} {f : Addr} {fd : FuncData} {N ps : List Str} {sp : Sp} {x qual : Str} {st : Stmt}
/-- as funG, the body's code object is told -/
theorem funGc {CX : CXT} (F : Fun K x qual st f fd) (S : FnScope N ps (defScope st)) (len : ∀ vs H Q E, sp vs H Q E → vs.length = ps.length)
    (hbody : ∀ (cdv : Value) (A : Around) (outer : List Env) (s : Shared) (H : Hp) (vs : List V) (Q : VK) (E : XK), fd.code = cdv → A.guards = some [] → Room k (A.deeper (envOfC qual (defScope st) s.heap.objs.size f cdv)) → sp vs H Q E →
      ∃ t, PSs (cxOf CX P w K mg base N qual (defScope st) f cdv A outer s H E) (defBody st) t ∧ t { nx := fun _ H' => Q .non H', rt := Q } (L2.start N vs) H) : FnOkG P w K mg base CX (k + 1) f fd ps sp := by
  obtain ⟨oc, od, kV, doc, pm, an, cdv, ct, osl, e, lk, hcd⟩ := F.ex
  subst e
  exact ⟨len, fun A outer s H args us vs Q E hg hr e0 hb r q => LamX.run_ofS lk hcd S hr e0 hb r (len _ _ _ _ q) fun hr' => hbody cdv A outer s H vs Q E rfl hg hr' q⟩
end
/-! ### what a lambda's making keeps -/
theorem tabs_kp {T : List (Addr × Str)} {b : Addr} {H H' : Hp} (k : Kp b H H') (t : Tabs T H) : Tabs T H' := fun p hp => by
  obtain ⟨ps, h1, h2, h3⟩ := t p hp
  obtain ⟨f, s, n, hb⟩ := k.bag
  have other : ∀ {c : Addr} {o : HO}, H c = some o → (∀ xs, o ≠ .lst xs) → H' c = some o := fun {c o} h ne => k.keep c o (fun z => by rw [z, hb] at h; cases h; exact ne _ rfl) h
  refine ⟨ps, other h1 (fun xs z => by cases z), h2, fun pos cv hc => ?_⟩
  obtain ⟨c, e1, e2⟩ := h3 pos cv hc
  exact ⟨c, e1, other e2 fun xs z => by unfold CodeO at z; cases z⟩
theorem Same.ext {H H' : Hp} (e : Same H H') : ExtN H H' := fun b o h _ => e b o h
/-- all stays but the bag's numbers and the tables -/
structure Kb (T : List (Addr × Str)) (b : Addr) (H H' : Hp) : Prop where
  bag : Bag H b
  bag' : Bag H' b
  keep : ∀ c o, c ≠ b → H c = some o → (∀ ps, o ≠ .tbl ps) → H' c = some o
  tabs : Tabs T H'
variable {T : List (Addr × Str)} {b : Addr} {H H1 H2 : Hp}
theorem Kb.refl (h : Bag H b) (t : Tabs T H) : Kb T b H H := ⟨h, h, fun _ _ _ q _ => q, t⟩
theorem Kb.kp (a : Kb T b H H1) (c : Kp b H1 H2) : Kb T b H H2 := ⟨a.bag, c.bag', fun d o n q t => c.keep d o n (a.keep d o n q t), tabs_kp c a.tabs⟩
theorem Kb.same (a : Kb T b H H1) (c : Same H1 H2) : Kb T b H H2 := a.kp (.of a.bag' c)
theorem Kb.ext (a : Kb T b H H1) (c : ExtN H1 H2) (t : Tabs T H2) : Kb T b H H2 := by
  obtain ⟨f, s, n, hb⟩ := a.bag'
  exact ⟨a.bag, ⟨f, s, n, c _ _ hb fun ps z => by cases z⟩, fun d o n q y => c d o (a.keep d o n q y) y, t⟩
theorem Kb.trans (a : Kb T b H H1) (c : Kb T b H1 H2) : Kb T b H H2 := ⟨a.bag, c.bag', fun d o n q y => c.keep d o n (a.keep d o n q y) y, c.tabs⟩
theorem Kb.lst {a : Addr} {xs : List V} (k : Kb T b H H1) (n : a ≠ b) (h : H a = some (.lst xs)) : H1 a = some (.lst xs) := k.keep a _ n h fun ps z => by cases z
theorem Kb.tup {a : Addr} {xs : List V} (k : Kb T b H H1) (h : H a = some (.tup xs)) : H1 a = some (.tup xs) := by
  obtain ⟨f, s, n, hb⟩ := k.bag
  exact k.keep a _ (ne_of h hb (by intro z; cases z)) h fun ps z => by cases z
theorem Kb.ins {a C dx : Addr} {fs : List (Str × V)} (k : Kb T b H H1) (h : H a = some (.ins C dx fs)) : H1 a = some (.ins C dx fs) := by
  obtain ⟨f, s, n, hb⟩ := k.bag
  exact k.keep a _ (ne_of h hb (by intro z; cases z)) h fun ps z => by cases z
/-! ### a list that the law was handed, whatever is made beside it -/
def StL (K : PySem.W.Frag) (c : Addr) (xs : List V) (H : Hp) : Prop := (∀ H', SqL K H' c xs) ∨ ∃ o, H c = some o ∧ (∀ ps, o ≠ .tbl ps) ∧ ∀ H', H' c = some o → SqL K H' c xs
section
variable {K : PySem.W.Frag} {c : Addr} {xs : List V}
theorem StL.of (h : SqL K H c xs) : StL K c xs H := by
  rcases h with (h | ⟨o, h⟩) | h
  · exact .inr ⟨_, h, (fun ps z => by cases z), fun H' h' => .inl (.inl h')⟩
  · exact .inr ⟨_, h, (fun ps z => by cases z), fun H' h' => .inl (.inr ⟨o, h'⟩)⟩
  · exact .inl fun H' => .inr h
theorem StL.sql (s : StL K c xs H) : SqL K H c xs := by
  rcases s with h | ⟨o, h1, _, h3⟩
  · exact h H
  · exact h3 H h1
theorem StL.keep (s : StL K c xs H) (k : ∀ o, H c = some o → (∀ ps, o ≠ .tbl ps) → H1 c = some o) : StL K c xs H1 := by
  rcases s with h | ⟨o, h1, h2, h3⟩
  · exact .inl h
  · exact .inr ⟨o, k o h1 h2, h2, h3⟩
theorem StL.same (s : StL K c xs H) (e : Same H H1) : StL K c xs H1 := s.keep fun o h _ => e _ _ h
/-- a bag is made, and what then keeps all but it and the tables -/
theorem StL.kb {p : Addr} (s : StL K c xs H) (hp : H p = none) (e : Same H H1) (k : Kb T p H1 H2) : StL K c xs H2 := s.keep fun o h t => k.keep _ _ (ne_of_none h hp) (e _ _ h) t
theorem StL.new {D : Addr} {o : HO} (s : StL K c xs H) (hD : H D = none) : StL K c xs (upd H D o) := s.same (w_new hD)
/-- [true, ..]: each element by a bag of its own -/
theorem lc_rngT {lo : Int} {n j : Nat} {W : TI} {te : TE} {vs : List Nat} {σ : L2.St} {Q : VK} (hn : n ≤ 1000) (hwi : ∀ R : It → Hp → Prop, R (Itr lo n) H → W σ H R) (hw : ∀ x, wipe ((wipe σ vs).set j (some x)) vs = wipe σ vs) (hc : StL K c xs H) (ht : Tabs T H)
    (he : ∀ i H', i < n → StL K c xs H' → Tabs T H' → ∀ Q' : VK, (∀ H'', StL K c xs H'' → Tabs T H'' → (∀ D acc, H' D = some (.lst acc) → H'' D = some (.lst acc)) → Q' (.bl true) H'') → te ((wipe σ vs).set j (some (.int (lo + i)))) H' Q')
    (k : ∀ D H', H' D = some (.lst (List.replicate n (.bl true))) → Q (.ref D) H') : tLc W (gName j) tYes te vs σ H Q := by
  refine hwi _ fun D hD => ?_
  refine lc_range (lo := lo) (n := n) (fun i G => G D = some (.lst (List.replicate i (.bl true))) ∧ StL K c xs G ∧ Tabs T G ∧ ∀ o, H c = some o → c ≠ D) ⟨upd_same, hc.new hD, ht.ext (w_new hD), fun o h => ne_of_none h hD⟩ ?_ ?_
  · rintro i G hi ⟨hG, st, tb, ne⟩
    refine ⟨hw _, ?_⟩
    refine w_yes ?_
    rw [if_pos rfl]
    refine he i G hi st tb _ fun G2 st2 tb2 kp => ?_
    have h2 := kp D _ hG
    have up : upd G2 D (.lst (List.replicate i (.bl true) ++ [.bl true])) D = some (.lst (List.replicate (i + 1) (.bl true))) := by rw [upd_same, List.replicate_succ']
    refine ⟨_, h2, by rw [List.length_replicate]; exact Nat.lt_of_lt_of_le (show i < 1001 by omega) (by decide), up, ?_, ?_, ne⟩
    · rcases hc with h | ⟨o, h1, h2, h3⟩
      · exact .inl h
      · have nc := ne _ h1
        exact st2.keep fun o' h' _ => by rw [upd_ne nc]; exact h'
    · exact fun p hp => by
        obtain ⟨ps, t1, t2, t3⟩ := tb2 p hp
        have a1 : p.1 ≠ D := fun z => by rw [z, h2] at t1; cases t1
        refine ⟨ps, by rw [upd_ne a1]; exact t1, t2, fun pos cv hv => ?_⟩
        obtain ⟨d, d1, d2⟩ := t3 pos cv hv
        have a2 : d ≠ D := fun z => by
          rw [z, h2] at d2
          unfold CodeO at d2
          cases d2
        exact ⟨d, d1, by rw [upd_ne a2]; exact d2⟩
  · rintro G ⟨hG, _⟩
    exact k D G hG
theorem all_rep {Q : VK} {D : Addr} {n : Nat} (h : H D = some (.lst (List.replicate n (.bl true)))) (q : Q (.bl true) H) : rAll K [.ref D] H Q := by
  have e : List.replicate n (V.bl true) = (List.replicate n true).map V.bl := by rw [List.map_replicate]
  refine ⟨D, List.replicate n true, rfl, by rw [← e]; exact SqL.of h, ?_⟩
  rw [show (List.replicate n true).all id = true from List.all_eq_true.mpr fun x hx => (List.mem_replicate.mp hx).2]
  exact q
end
/-- the table of the code object at c -/
def tabOf (K : PySem.W.Frag) (c : Addr) : Option Addr := match K.lookup c with
  | some o => (match o.data with
    | .fields vs => (match (vs[11]? : Option Value) with
      | some (.ref P) => some P
      | _ => none)
    | _ => none)
  | none => none
end RK

/-! comprehensions over a list or a tuple, with a target of any form -/
namespace RK
open PySem PySem.Spec PyProof.Rows L2 RZ
theorem seqT_same {K : PySem.W.Frag} {H H' : Hp} {p : Addr} {xs : List V} (e : Same H H') (h : SqT K H p xs) : SqT K H' p xs := by
  rcases h with (h | ⟨o, h⟩) | h
  · exact .inl (.inl (e _ _ h))
  · exact .inl (.inr ⟨o, e _ _ h⟩)
  · exact .inr h
section
variable {K : PySem.W.Frag} {σ : L2.St} {H : Hp} {Q : VK} {g : TG} {te : TE} {vs : List Nat}
/-- [f(x) for x in a list], the target of any form: each element leaves what stood, and gives what P says -/
theorem lc_mapL {l : Addr} {xs : List V} (P : Nat → V → Hp → Prop) (mono : ∀ i v H H', SameT H H' → P i v H → P i v H') (hl : SqL K H l xs) (hlen : xs.length ≤ 1000)
    (he : ∀ (i : Nat) (x : V) (H' : Hp), xs[i]? = some x → Same H H' → ∀ Q' : VK, (∀ v H'', Same H' H'' → P i v H'' → Q' v H'') → g x (wipe σ vs) H' fun σ2 H2 => wipe σ2 vs = wipe σ vs ∧ te σ2 H2 Q')
    (k : ∀ D ys H', H D = none → Same H H' → H' D = some (.lst ys) → ys.length = xs.length → (∀ i v, ys[i]? = some v → P i v H') → Q (.ref D) H') :
    ∀ D, H D = none → ∃ W : Nat → Nat → Hp → Prop, (∃ m, W 0 m (upd H D (.lst []))) ∧ ∀ i m G, W i m G →
      ((Itl K l).stop i G ∧ Q (.ref D) G) ∨ ((Itl K l).go i G ∧ ∃ Nx : Hp → Prop, (∀ G', Nx G' → ∃ m', m' < m ∧ W (i + 1) m' G') ∧ ∀ y G', (Itl K l).yld i G y G' → g y (wipe σ vs) G' fun σ2 H2 => wipe σ2 vs = wipe σ vs ∧ tYes σ2 H2 fun b H3 =>
        if b = true then te σ2 H3 fun y H4 => ∃ acc, H4 D = some (.lst acc) ∧ acc.length < sizeLine ∧ Nx (upd H4 D (.lst (acc ++ [y]))) else Nx H3) := by
  intro D hD
  refine lc_list (K := K) (a := l) (xs := xs) (fun i G => ∃ acc, G D = some (.lst acc) ∧ acc.length = i ∧ Same H G ∧ ∀ m v, acc[m]? = some v → P m v G) ⟨[], upd_same, rfl, w_new hD, fun m v e => by simp at e⟩ (fun i G _ hG => Same.seq (let ⟨_, _, _, e, _⟩ := hG; e) hl) ?_ ?_
  · rintro i x G hx ⟨acc, h1, h2, e, hp⟩
    have hi := (List.getElem?_eq_some_iff.mp hx).1
    refine he i x G hx e (fun y H4 => ∃ acc, H4 D = some (.lst acc) ∧ acc.length < sizeLine ∧ ∃ acc', upd H4 D (.lst (acc ++ [y])) D = some (.lst acc') ∧ acc'.length = i + 1 ∧ Same H (upd H4 D (.lst (acc ++ [y]))) ∧ ∀ m v, acc'[m]? = some v → P m v (upd H4 D (.lst (acc ++ [y])))) fun v H4 e4 pv => ?_
    have h3 := e4 _ _ h1
    refine ⟨acc, h3, Nat.lt_of_lt_of_le (show acc.length < 1001 by omega) (by decide), acc ++ [v], upd_same, by rw [List.length_append, h2]; rfl, RK.Same.updL (e.trans e4) hD, fun m u hu => ?_⟩
    by_cases hm : m < acc.length
    · rw [List.getElem?_append_left hm] at hu
      exact mono m u H4 _ (SameT.upd h3) (mono m u G H4 (.of e4) (hp m u hu))
    · rw [List.getElem?_append_right (by omega)] at hu
      have em : m = acc.length := by
        have := (List.getElem?_eq_some_iff.mp hu).1
        simp at this
        omega
      subst em
      simp at hu
      subst hu
      exact mono _ _ H4 _ (SameT.upd h3) (by rw [h2]; exact pv)
  · rintro G ⟨acc, h1, h2, e, hp⟩
    exact k D acc G hD e h1 h2 hp
/-- [f(x) for x in a tuple], the target of any form: each element leaves what stood, and gives what P says -/
theorem lc_mapT {l : Addr} {xs : List V} (P : Nat → V → Hp → Prop) (mono : ∀ i v H H', SameT H H' → P i v H → P i v H') (hl : SqT K H l xs) (hlen : xs.length ≤ 1000)
    (he : ∀ (i : Nat) (x : V) (H' : Hp), xs[i]? = some x → Same H H' → ∀ Q' : VK, (∀ v H'', Same H' H'' → P i v H'' → Q' v H'') → g x (wipe σ vs) H' fun σ2 H2 => wipe σ2 vs = wipe σ vs ∧ te σ2 H2 Q')
    (k : ∀ D ys H', H D = none → Same H H' → H' D = some (.lst ys) → ys.length = xs.length → (∀ i v, ys[i]? = some v → P i v H') → Q (.ref D) H') :
    ∀ D, H D = none → ∃ W : Nat → Nat → Hp → Prop, (∃ m, W 0 m (upd H D (.lst []))) ∧ ∀ i m G, W i m G →
      ((Itt K l).stop i G ∧ Q (.ref D) G) ∨ ((Itt K l).go i G ∧ ∃ Nx : Hp → Prop, (∀ G', Nx G' → ∃ m', m' < m ∧ W (i + 1) m' G') ∧ ∀ y G', (Itt K l).yld i G y G' → g y (wipe σ vs) G' fun σ2 H2 => wipe σ2 vs = wipe σ vs ∧ tYes σ2 H2 fun b H3 =>
        if b = true then te σ2 H3 fun y H4 => ∃ acc, H4 D = some (.lst acc) ∧ acc.length < sizeLine ∧ Nx (upd H4 D (.lst (acc ++ [y]))) else Nx H3) := by
  intro D hD
  refine lc_tup (K := K) (a := l) (xs := xs) (fun i G => ∃ acc, G D = some (.lst acc) ∧ acc.length = i ∧ Same H G ∧ ∀ m v, acc[m]? = some v → P m v G) ⟨[], upd_same, rfl, w_new hD, fun m v e => by simp at e⟩ (fun i G _ hG => seqT_same (let ⟨_, _, _, e, _⟩ := hG; e) hl) ?_ ?_
  · rintro i x G hx ⟨acc, h1, h2, e, hp⟩
    have hi := (List.getElem?_eq_some_iff.mp hx).1
    refine he i x G hx e (fun y H4 => ∃ acc, H4 D = some (.lst acc) ∧ acc.length < sizeLine ∧ ∃ acc', upd H4 D (.lst (acc ++ [y])) D = some (.lst acc') ∧ acc'.length = i + 1 ∧ Same H (upd H4 D (.lst (acc ++ [y]))) ∧ ∀ m v, acc'[m]? = some v → P m v (upd H4 D (.lst (acc ++ [y])))) fun v H4 e4 pv => ?_
    have h3 := e4 _ _ h1
    refine ⟨acc, h3, Nat.lt_of_lt_of_le (show acc.length < 1001 by omega) (by decide), acc ++ [v], upd_same, by rw [List.length_append, h2]; rfl, RK.Same.updL (e.trans e4) hD, fun m u hu => ?_⟩
    by_cases hm : m < acc.length
    · rw [List.getElem?_append_left hm] at hu
      exact mono m u H4 _ (SameT.upd h3) (mono m u G H4 (.of e4) (hp m u hu))
    · rw [List.getElem?_append_right (by omega)] at hu
      have em : m = acc.length := by
        have := (List.getElem?_eq_some_iff.mp hu).1
        simp at this
        omega
      subst em
      simp at hu
      subst hu
      exact mono _ _ H4 _ (SameT.upd h3) (by rw [h2]; exact pv)
  · rintro G ⟨acc, h1, h2, e, hp⟩
    exact k D acc G hD e h1 h2 hp
theorem cut1 (xs : List V) : cutV xs (some 1) none = xs.drop 1 := by
  unfold cutV
  rw [show (some (1 : Int)) = some ((1 : Nat) : Int) from rfl, HT.sIx_nat, HT.sIx_none]
  cases xs with
  | nil => rfl
  | cons x r =>
    rw [show min 1 (x :: r).length = 1 from by rw [List.length_cons]; omega]
    simp
def LcT (K : PySem.W.Frag) (g : TG) (tt : TT) (te : TE) (vs : List Nat) (σ : L2.St) (x : V) (H : Hp) (Q : VK) : Prop := ∃ a, x = .ref a ∧ (∃ xs, SqT K H a xs) ∧ ∀ D, H D = none → ∃ W : Nat → Nat → Hp → Prop, (∃ m, W 0 m (upd H D (.lst []))) ∧ ∀ i m G, W i m G →
  ((Itt K a).stop i G ∧ Q (.ref D) G) ∨ ((Itt K a).go i G ∧ ∃ Nx : Hp → Prop, (∀ G', Nx G' → ∃ m', m' < m ∧ W (i + 1) m' G') ∧ ∀ y G', (Itt K a).yld i G y G' → g y (wipe σ vs) G' fun σ2 H2 => wipe σ2 vs = wipe σ vs ∧ tt σ2 H2 fun b H3 =>
    if b = true then te σ2 H3 fun y H4 => ∃ acc, H4 D = some (.lst acc) ∧ acc.length < sizeLine ∧ Nx (upd H4 D (.lst (acc ++ [y]))) else Nx H3)
theorem w_lcT {tl : TE} {tt : TT} (h : tl σ H fun x H1 => LcT K g tt te vs σ x H1 Q) : tLc (iTup K tl) g tt te vs σ H Q := h
theorem lcT_leaf {l : Addr} {xs : List V} (P : Nat → V → Hp → Prop) (mono : ∀ i v H H', SameT H H' → P i v H → P i v H') (hl : SqT K H l xs) (hlen : xs.length ≤ 1000)
    (he : ∀ (i : Nat) (x : V) (H' : Hp), xs[i]? = some x → Same H H' → ∀ Q' : VK, (∀ v H'', Same H' H'' → P i v H'' → Q' v H'') → g x (wipe σ vs) H' fun σ2 H2 => wipe σ2 vs = wipe σ vs ∧ te σ2 H2 Q')
    (k : ∀ D ys H', H D = none → Same H H' → H' D = some (.lst ys) → ys.length = xs.length → (∀ i v, ys[i]? = some v → P i v H') → Q (.ref D) H') : LcT K g tYes te vs σ (.ref l) H Q := ⟨l, rfl, ⟨_, hl⟩, lc_mapT P mono hl hlen he k⟩
theorem lcL_leaf {l : Addr} {xs : List V} (P : Nat → V → Hp → Prop) (mono : ∀ i v H H', SameT H H' → P i v H → P i v H') (hl : SqL K H l xs) (hlen : xs.length ≤ 1000)
    (he : ∀ (i : Nat) (x : V) (H' : Hp), xs[i]? = some x → Same H H' → ∀ Q' : VK, (∀ v H'', Same H' H'' → P i v H'' → Q' v H'') → g x (wipe σ vs) H' fun σ2 H2 => wipe σ2 vs = wipe σ vs ∧ te σ2 H2 Q')
    (k : ∀ D ys H', H D = none → Same H H' → H' D = some (.lst ys) → ys.length = xs.length → (∀ i v, ys[i]? = some v → P i v H') → Q (.ref D) H') : LcS K g tYes te vs σ (.ref l) H Q := ⟨l, rfl, ⟨_, hl⟩, lc_mapL P mono hl hlen he k⟩
/-- a list of truths -/
theorem all_P {D : Addr} {ys : List V} (h : H D = some (.lst ys)) (hP : ∀ (i : Nat) (v : V), ys[i]? = some v → v = .bl true) (q : Q (.bl true) H) : rAll K [.ref D] H Q := by
  have e : ys = List.replicate ys.length (.bl true) := List.eq_replicate_iff.mpr ⟨rfl, fun b hb => by obtain ⟨i, hi⟩ := List.mem_iff_getElem?.mp hb; exact hP i b hi⟩
  rw [e] at h
  exact all_rep h q
theorem tyT {t : Addr} {xs : List V} (h : SqT K H t xs) : TyX K H (.ref t) (.type "tuple") := by
  rcases h with (h | ⟨o, h⟩) | ⟨o, its, n, h1, h2, _⟩
  · exact .base (.tup h)
  · exact .fTuple h
  · exact .kTuple h1 h2
def CmpAt (g : TG) (tt : TT) (te : TE) (vs : List Nat) (σ : L2.St) (Q : VK) (J : It) (H : Hp) : Prop := ∀ D, H D = none → ∃ W : Nat → Nat → Hp → Prop, (∃ m, W 0 m (upd H D (.lst []))) ∧ ∀ i m G, W i m G →
  (J.stop i G ∧ Q (.ref D) G) ∨ (J.go i G ∧ ∃ Nx : Hp → Prop, (∀ G', Nx G' → ∃ m', m' < m ∧ W (i + 1) m' G') ∧ ∀ y G', J.yld i G y G' → g y (wipe σ vs) G' fun σ2 H2 => wipe σ2 vs = wipe σ vs ∧ tt σ2 H2 fun b H3 =>
    if b = true then te σ2 H3 fun y H4 => ∃ acc, H4 D = some (.lst acc) ∧ acc.length < sizeLine ∧ Nx (upd H4 D (.lst (acc ++ [y]))) else Nx H3)
def ZpL (K : PySem.W.Frag) (g : TG) (tt : TT) (te : TE) (vs : List Nat) (σ : L2.St) (us : List V) (H : Hp) (Q : VK) : Prop :=
  ∃ a b xs ys, us = [V.ref a, .ref b] ∧ ((SqL K H a xs ∧ SqL K H b ys ∧ CmpAt g tt te vs σ Q (Itz K a b) H) ∨ (SqT K H a xs ∧ SqT K H b ys ∧ CmpAt g tt te vs σ Q (ItzT K a b) H))
theorem w_zip {ta : TA} {tt : TT} (h : ta σ H fun us H1 => ZpL K g tt te vs σ us H1 Q) : tLc (iZipA K ta) g tt te vs σ H Q := h
/-- [f(x, y) for x, y in zip(a, b)], all true, a and b tuples -/
theorem zip_leaf {i j : Nat} {a b : Addr} {xs ys : List V} (ha : SqT K H a xs) (hb : SqT K H b ys) (hlen : xs.length ≤ 1000)
    (he : ∀ (n : Nat) (x y : V) (H' : Hp), xs[n]? = some x → ys[n]? = some y → Same H H' → wipe (((wipe σ vs).set i (some x)).set j (some y)) vs = wipe σ vs ∧ ∀ Q' : VK, (∀ H'', Same H' H'' → Q' (.bl true) H'') → te (((wipe σ vs).set i (some x)).set j (some y)) H' Q')
    (k : ∀ D zs H', H D = none → Same H H' → H' D = some (.lst zs) → (∀ (n : Nat) (v : V), zs[n]? = some v → v = .bl true) → Q (.ref D) H') : ZpL K (gTup K 2 (gCons (gName i) (gCons (gName j) gNil))) tYes te vs σ [.ref a, .ref b] H Q := by
  refine ⟨a, b, xs, ys, rfl, .inr ⟨ha, hb, fun D hD => ?_⟩⟩
  refine ⟨fun n m G => m = xs.length - n ∧ n ≤ xs.length ∧ Same H G ∧ G D = some (.lst (List.replicate n (.bl true))), ⟨_, rfl, Nat.zero_le _, w_new hD, upd_same⟩, ?_⟩
  rintro n m G ⟨rfl, hn, e, hG⟩
  have ha' := seqT_same e ha
  have hb' := seqT_same e hb
  have stop : n = xs.length ∨ ys.length ≤ n → (ItzT K a b).stop n G ∧ Q (.ref D) G := fun h => ⟨⟨xs, ys, ha', hb', h.imp (fun z => Nat.le_of_eq z.symm) id⟩, k D _ G hD e hG fun n v hv => by
    have := List.mem_of_getElem? hv
    exact (List.mem_replicate.mp this).2⟩
  by_cases h1 : n < xs.length
  · by_cases h2 : n < ys.length
    · have hx : xs[n]? = some xs[n] := List.getElem?_eq_getElem h1
      have hy : ys[n]? = some ys[n] := List.getElem?_eq_getElem h2
      refine .inr ⟨⟨xs, ys, _, _, ha', hb', hx, hy⟩, fun G' => Same H G' ∧ G' D = some (.lst (List.replicate (n + 1) (.bl true))), fun G' hq => ⟨_, by omega, rfl, h1, hq.1, hq.2⟩, fun v G' hq => ?_⟩
      obtain ⟨T, x', y', rfl, hT, rfl, f1, f2⟩ := hq
      have eT := w_new (o := .tup [x', y']) hT
      have e' := e.trans eT
      obtain ⟨w1, w2⟩ := he n x' y' _ (f1 xs ha') (f2 ys hb') e'
      refine ⟨T, [x', y'], rfl, SqT.of upd_same, rfl, x', [y'], rfl, y', [], rfl, rfl, w1, ?_⟩
      refine w_yes ?_
      rw [if_pos rfl]
      refine w2 _ fun G2 e2 => ?_
      have hG2 : G2 D = some (.lst (List.replicate n (.bl true))) := e2 _ _ (eT _ _ hG)
      exact ⟨_, hG2, by rw [List.length_replicate]; exact Nat.lt_of_lt_of_le (show n < 1001 by omega) (by decide), RK.Same.updL (e'.trans e2) hD, by rw [upd_same, List.replicate_succ']⟩
    · exact .inl (stop (.inr (by omega)))
  · exact .inl (stop (.inl (by omega)))
/-- a pair, taken apart into two slots -/
theorem g_two {i j : Nat} {q : Addr} {x y : V} {Q : L2.St → Hp → Prop} (h : H q = some (.tup [x, y])) (k : Q ((σ.set i (some x)).set j (some y)) H) : gTup K 2 (gCons (gName i) (gCons (gName j) gNil)) (.ref q) σ H Q :=
  ⟨q, [x, y], rfl, SqT.of h, rfl, x, [y], rfl, y, [], rfl, rfl, k⟩
theorem eq_map {α : Type} {ys : List V} {ps : List α} (f : α → V) (hl : ys.length = ps.length) (h : ∀ (i : Nat) (v : V), ys[i]? = some v → ∃ p, ps[i]? = some p ∧ v = f p) : ys = ps.map f := by
  refine List.ext_getElem? fun i => ?_
  rw [List.getElem?_map]
  cases e : ys[i]? with
  | none =>
    have := List.getElem?_eq_none_iff.mp e
    rw [List.getElem?_eq_none_iff.mpr (by omega)]
    rfl
  | some v =>
    obtain ⟨p, hp, rfl⟩ := h i v e
    rw [hp]
    rfl
theorem sum_le {α : Type} {l : List α} {f : α → Nat} {b : Nat} (h : ∀ x ∈ l, f x ≤ b) : (l.map f).sum ≤ l.length * b := by
  induction l with
  | nil => simp
  | cons x r ih =>
    rw [List.map_cons, List.sum_cons, List.length_cons, Nat.add_mul, Nat.one_mul]
    have h1 := h x List.mem_cons_self
    have h2 := ih fun y hy => h y (List.mem_cons_of_mem _ hy)
    omega
/-- a list whose items stand at addresses of a kind -/
theorem refs_of {α : Type} {ys : List V} {ps : List α} {R : Addr → α → Prop} (hl : ys.length = ps.length) (h : ∀ (i : Nat) (v : V), ys[i]? = some v → ∃ q u, ps[i]? = some u ∧ v = .ref q ∧ R q u) : ∃ as : List Addr, ys = as.map V.ref ∧ as.length = ps.length ∧ ∀ (i : Nat) (q : Addr) (u : α), as[i]? = some q → ps[i]? = some u → R q u := by
  induction ys generalizing ps with
  | nil => exact ⟨[], rfl, hl, fun i q u a => by simp at a⟩
  | cons y r ih =>
    cases ps with
    | nil => cases hl
    | cons p ps =>
      obtain ⟨q0, u0, e1, rfl, e2⟩ := h 0 y rfl
      cases e1
      obtain ⟨as, rfl, e3, e4⟩ := ih (ps := ps) (by simpa using hl) fun i v hv => h (i + 1) v hv
      refine ⟨q0 :: as, rfl, by rw [List.length_cons, List.length_cons, e3], fun i q u a b => ?_⟩
      cases i with
      | zero =>
        cases a
        cases b
        exact e2
      | succ j => exact e4 j q u a b
end
end RK

/-! enumerate of a tuple, zip of two texts, list(text): the library's iterators (GoesN, Draws) as walks of the hand layer -/
namespace RK
open PySem PySem.Spec PyProof.Rows L2
/-- a turn whose new pair stands at T -/
theorem pair_new {X : Cx} {pins : List (Addr × Obj)} {σ : L2.St} {H : Hp} {s : Shared} {own : List Addr} {T : Addr} {x y : V} {u v : Value} {h' : Heap} {tk : Nat} (I : Inv X pins σ H s) (hf : ∀ b ∈ own, FpOk X pins H b)
    (k : ∀ b o, b ∉ own → s.heap.get? b = some o → h'.get? b = some o) (hT : s.heap.objs.size ≤ T) (p : IsTup h' T #[u, v]) (r1 : RelV x u) (r2 : RelV y v) : Inv X pins σ (upd H T (.tup [x, y])) { s with heap := h', toks := tk } :=
  I.turnedNew (ch := own) k hf hT (show ObjOk X.prog X.w _ h' T (.tup [x, y]) from ⟨by show 2 ≤ sizeLine; decide, [u, v], .cons r1 (.cons r2 .nil), p⟩)
theorem own_stays {H : Hp} {T : Addr} {o : HO} {N : Nat} {own : List Addr} (h : ∀ b ∈ own, H b = none) (lt : ∀ b ∈ own, b < N) (hT : N ≤ T) : ∀ b ∈ own, upd H T o b = none := fun b hb => by
  rw [upd_ne (Nat.ne_of_lt (Nat.lt_of_lt_of_le (lt b hb) hT))]
  exact h b hb
/-- the tuple at a, each item with its place in a new pair -/
def IteT (K : PySem.W.Frag) (a : Addr) : It :=
  ⟨fun i H => ∃ (xs : List V) (x : V), SqT K H a xs ∧ xs[i]? = some x, fun i H v H' => ∃ T x, v = .ref T ∧ H T = none ∧ H' = upd H T (.tup [.int ((i : Nat) : Int), x]) ∧ ∀ xs, SqT K H a xs → xs[i]? = some x, fun i H => ∃ xs : List V, SqT K H a xs ∧ i = xs.length⟩
/-- its state: the iterator's own cells -/
def EnT (a e it : Addr) (i : Nat) (h : Heap) : Prop := (∃ old, IsEnum h e it ((i : Nat) : Int) old) ∧ h.IsTupleIter it a i
theorem turn_enumT {P : Program} {w : World} {K : PySem.W.Frag} {elts : List Expr} {kk : Nat} {tpos : Pos} (a e it : Addr) (ne : e ≠ it) (na : a ≠ it) (nb : a ≠ e) :
    Turn P w K (.Tuple elts kk tpos) (IteT K a) [e, it] e (EnT a e it) where
  mem := List.mem_cons_self
  obj := fun i h ⟨⟨old, he⟩, o, ho, hc, hd⟩ b hb => by
    rcases List.mem_cons.mp hb with rfl | hb
    · exact ⟨_, he, fun v => nofun⟩
    · obtain rfl := List.mem_singleton.mp hb
      exact ⟨o, ho, fun v q => by rw [hd] at q; cases q⟩
  keep := fun i h h' ⟨⟨old, he⟩, hi⟩ k => ⟨⟨old, k e List.mem_cons_self _ he⟩, hi.at fun o q => k it (List.mem_cons_of_mem _ List.mem_cons_self) o q⟩
  item := by
    rintro X rfl rfl rfl hc i pins s σ H E I hf ⟨⟨old, he⟩, hit⟩ ⟨xs, x, hq, hx⟩
    obtain ⟨its, rv, p, _⟩ := I.tuple hq
    obtain ⟨u, hu, ru⟩ := rv.get hx
    have hu2 : its.toArray[i]? = some u := by simpa using hu
    have lt : ∀ b ∈ [e, it], b < s.heap.objs.size := fun b hb => by
      rcases List.mem_cons.mp hb with rfl | hb
      · exact Heap.lt_size he
      · obtain rfl := List.mem_singleton.mp hb
        obtain ⟨o, ho, _⟩ := hit
        exact Heap.lt_size ho
    have G := GoesN.enumFrom (prog := X.prog) (w := X.w) (A := X.A) (elts := elts) (x1 := kk) (pos := tpos) 0 (Draws.tuple (A := X.A.in1) (show X.A.in1.handled = none from I.ok.hd hc) it a na its.toArray) e ne (by simp [ne, Ne.symm nb]) (by simp)
    refine G.goes i s _ E (Array.getElem?_eq_some_iff.mp hu2).1 ⟨⟨old, by rw [Int.zero_add]; exact he⟩, hit, p⟩ ?_
    rintro v h' tk ⟨T, t, y, rfl, hT, hy, pT⟩ ⟨⟨old', he'⟩, hit', _⟩ hk _
    cases hu2.symm.trans hy
    rw [Int.zero_add] at pT he'
    exact ⟨.ref T, _, pair_new I hf hk hT pT (show RelV (.int ((i : Nat) : Int)) _ from ⟨_, rfl⟩) ru, rfl, ⟨T, x, rfl, I.hok.fresh hT, rfl, fun ys hys => by rw [I.tuple_inj hys hq]; exact hx⟩, ⟨⟨old', he'⟩, hit'⟩, own_stays (fun b hb => (hf b hb).1) lt hT⟩
  done := by
    rintro X rfl rfl rfl hc i pins s σ H E I hf ⟨⟨old, he⟩, hit⟩ ⟨xs, hq, rfl⟩
    obtain ⟨its, rv, p, _⟩ := I.tuple hq
    have hl : xs.length = its.toArray.size := by rw [rv.length]; simp
    rw [hl] at he hit
    have G := GoesN.enumFrom (prog := X.prog) (w := X.w) (A := X.A) (elts := elts) (x1 := kk) (pos := tpos) 0 (Draws.tuple (A := X.A.in1) (show X.A.in1.handled = none from I.ok.hd hc) it a na its.toArray) e ne (by simp [ne, Ne.symm nb]) (by simp)
    refine G.stops s _ E ⟨⟨old, by rw [Int.zero_add]; exact he⟩, hit, p⟩ fun h' tk hk _ => I.turnedL hk hf
  self := fun A i s Q E ⟨⟨_, he⟩, _⟩ q => wpAny_pyIter_enum he q
theorem meets_enum1 {v : Value} {o : Obj} {C : Heap → Prop} (B : Begins v o C) : Meets (Builtin.«enumerate.__new__» ⟨[.type "enumerate", v], []⟩) (fun _ R s => C s.heap ∧
    R (.ok (.ret (.ref (s.heap.push o).objs.size))) { s with heap := (s.heap.push o).push { cls := .type "enumerate", data := .fields #[.none, .bool false, .ref s.heap.objs.size, rawInt 0, .none, .none] } }) := by
  refine .of_wp fun P w A R s h => ?_
  obtain ⟨hp, g, d, tk, os⟩ := s
  obtain ⟨hC, h⟩ := h
  have known := sub_enumerate
  have it0 : ∀ {A' : Around} {E : Value → Shared → Prop} {Q : Value → Shared → Prop}, Q (.ref hp.objs.size) ⟨hp.push o, g, d, tk, os⟩ → wpAny (model P w) A' (pyIter v) Q E ⟨hp, g, d, tk, os⟩ := fun q => B.iter _ _ _ _ _ _ hC q
  wp_walk using it0
  refine wpAny_stack_any fun st => wpAny_pure ?_
  split <;> first
    | (wp_walk using it0; exact ⟨_, rfl, h⟩)
    | (rename_i c _ _ _ _ _; cases (c == Value.type "enumerate") <;> (wp_walk using it0; exact ⟨_, rfl, h⟩))
theorem enum_starts {P : Program} {w : World} {A : Around} {E : Value → Shared → Prop} {s : Shared} {v : Value} {o : Obj} {C : Heap → Prop} {Q : Value → Shared → Prop} (B : Begins v o C) (hC : C s.heap)
    (q : ∀ h', IsEnum h' (s.heap.objs.size + 1) s.heap.objs.size 0 .none → h'.get? s.heap.objs.size = some o → (∀ b u, s.heap.get? b = some u → h'.get? b = some u) → Q (.ref (s.heap.objs.size + 1)) { s with heap := h' }) :
    wpAny (model P w) A (call (.type "enumerate") [v]) Q E s := by
  refine callType_new F.called_enumerate (by decide) (F.typeCall_enumerate_1 _) (F.newCall_enumerate_1 _) (fun obj => F.args_object_init_2 obj _) F.entry_enumerate_new (meets_enum1 B) ⟨hC, ?_⟩
  have z1 := Heap.size_push s.heap o
  have g1 := Heap.get?_push_size (s.heap.push o) (o := { cls := .type "enumerate", data := .fields #[.none, .bool false, .ref s.heap.objs.size, rawInt 0, .none, .none] }) rfl
  rw [z1] at g1
  show _ ∧ _
  rw [z1]
  exact ⟨⟨_, g1, rfl⟩, q _ g1 (Heap.get?_push_of_some _ (Heap.get?_push_size _ B.free)) fun b u e => Heap.get?_push_of_some _ (Heap.get?_push_of_some _ e)⟩
def iEnumT (K : PySem.W.Frag) (ta : TA) : TI := fun σ H R => ta σ H fun vs H1 => ∃ a xs, vs = [.ref a] ∧ SqT K H1 a xs ∧ R (IteT K a) H1
/-- for i, x in enumerate(a tuple) -/
theorem pi_enumT {X : Cx} {e : Expr} {ta : TA} {p pos tpos : Pos} {elts : List Expr} {kk : Nat} (hg : Gl X "enumerate") (hm : X.mg "enumerate" = none) (ha : PA X [e] ta) (hs : starEach [e] X.env = [(false, eval e X.env)] := by rfl) :
    PI X (.Tuple elts kk tpos) (.Call (.Name "enumerate" p) [e] [] pos) (iEnumT X.K ta) where
  run := fun pins s σ H R I h => by
    refine Call_ (ld_blt I hg hm boot_enumerate (callWith_type1 (thn (ha.run pos pins s σ H _ I h) ?_) hs rfl))
    rintro us t ⟨_, H1, J, rv, a, xs, rfl, hq, q⟩
    obtain ⟨u, rfl, ru⟩ := vals1 rv
    cases ru
    obtain ⟨its, _, ip, _⟩ := J.tuple hq
    have la : a < t.heap.objs.size := by obtain ⟨o, ho, _⟩ := ip; exact Heap.lt_size ho
    refine enum_starts (begins_tuple a its.toArray) ip fun h' he hi hk => wpAny_pyIter_enum he ?_
    refine ⟨t.heap.objs.size + 1, [t.heap.objs.size + 1, t.heap.objs.size], _, _, H1, rfl, J.kept (t' := t.toks) hk, turn_enumT a _ _ (Nat.succ_ne_self _) (Nat.ne_of_lt la) (Nat.ne_of_lt (Nat.lt_succ_of_lt la)), ⟨⟨_, he⟩, ⟨_, hi, rfl, rfl⟩⟩, fun b hb => ?_, q⟩
    have le : t.heap.objs.size ≤ b := by
      rcases List.mem_cons.mp hb with rfl | hb
      · exact Nat.le_succ _
      · exact Nat.le_of_eq (List.mem_singleton.mp hb).symm
    exact J.fpOk le (J.hok.fresh le)
/-- two texts, sign by sign, the signs in new pairs -/
def ItzS (x y : Str) : It :=
  ⟨fun i _ => ∃ c d : Nat, x.cps[i]? = some c ∧ y.cps[i]? = some d, fun i H v H' => ∃ (T : Addr) (c d : Nat), v = .ref T ∧ H T = none ∧ H' = upd H T (.tup [.str ⟨#[c]⟩, .str ⟨#[d]⟩]) ∧ x.cps[i]? = some c ∧ y.cps[i]? = some d, fun i _ => i = min x.cps.size y.cps.size⟩
structure ZipTx (x y : Str) (t u : Tok) (z TI TO i1 i2 : Addr) (i : Nat) (h : Heap) : Prop where
  zip : IsZip h z TI TO .none
  inn : IsTupOf2 h TI (.ref i1) (.ref i2)
  out : ∃ a1 a2, IsTupOf2 h TO a1 a2
  one : h.IsStrIter i1 (strIterType x) x t i
  two : h.IsStrIter i2 (strIterType y) y u i
theorem ZipTx.cells {x y : Str} {t u : Tok} {z TI TO i1 i2 : Addr} {i : Nat} {h : Heap} (st : ZipTx x y t u z TI TO i1 i2 i h) : ∀ b ∈ [z, TI, TO, i1, i2], ∃ o, h.get? b = some o ∧ ∀ v, o.data ≠ .cell v := by
  obtain ⟨hz, hi, ⟨a1, a2, ho⟩, ⟨o1, p1, _, d1⟩, ⟨o2, p2, _, d2⟩⟩ := st
  intro b hb
  simp only [List.mem_cons, List.not_mem_nil, or_false] at hb
  rcases hb with rfl | rfl | rfl | rfl | rfl
  · exact ⟨_, hz, fun v => nofun⟩
  · exact ⟨_, hi, fun v => nofun⟩
  · exact ⟨_, ho, fun v => nofun⟩
  · exact ⟨o1, p1, fun v q => by rw [d1] at q; cases q⟩
  · exact ⟨o2, p2, fun v q => by rw [d2] at q; cases q⟩
theorem ZipTx.kept {x y : Str} {t u : Tok} {z TI TO i1 i2 : Addr} {i : Nat} {h h' : Heap} (st : ZipTx x y t u z TI TO i1 i2 i h) (k : ∀ b ∈ [z, TI, TO, i1, i2], ∀ o, h.get? b = some o → h'.get? b = some o) : ZipTx x y t u z TI TO i1 i2 i h' where
  zip := k z (by simp) _ st.zip
  inn := k TI (by simp) _ st.inn
  out := let ⟨a1, a2, ho⟩ := st.out; ⟨a1, a2, k TO (by simp) _ ho⟩
  one := let ⟨o, e, c, d⟩ := st.one; ⟨o, k i1 (by simp) o e, c, d⟩
  two := let ⟨o, e, c, d⟩ := st.two; ⟨o, k i2 (by simp) o e, c, d⟩
theorem turn_zipS {P : Program} {w : World} {K : PySem.W.Frag} {elts : List Expr} {kk : Nat} {tpos : Pos} {x y : Str} {t u : Tok} {z TI TO i1 i2 : Addr} (S : ZipSep2 z TI TO i1 i2 [i1] [i2]) :
    Turn P w K (.Tuple elts kk tpos) (ItzS x y) [z, TI, TO, i1, i2] z (ZipTx x y t u z TI TO i1 i2) where
  mem := List.mem_cons_self
  obj := fun i h st => st.cells
  keep := fun i h h' st k => st.kept k
  item := by
    rintro X rfl rfl rfl hc i pins s σ H E I hf st ⟨c, d, hx, hy⟩
    have hh : X.A.in1.handled = none := I.ok.hd hc
    have G := GoesN.zip2 (prog := X.prog) (w := X.w) (A := X.A) (elts := elts) (x1 := kk) (pos := tpos) S (Draws.text (A := X.A.in1) hh i1 x t) (Draws.text (A := X.A.in1) hh i2 y u)
    have lt : ∀ b ∈ [z, TI, TO, i1, i2], b < s.heap.objs.size := fun b hb => let ⟨o, e, _⟩ := st.cells b hb; Heap.lt_size e
    have l1 := (Array.getElem?_eq_some_iff.mp hx).1
    have l2 := (Array.getElem?_eq_some_iff.mp hy).1
    refine G.goes i s _ E (by omega) ⟨st.zip, st.inn, st.out, st.one, st.two⟩ ?_
    rintro v h' tk ⟨T, a1, a2, rfl, hT, ⟨c', t1, q1, rfl⟩, ⟨d', t2, q2, rfl⟩, pT⟩ ⟨s1, s2, s3, s4, s5⟩ hk _
    cases hx.symm.trans q1
    cases hy.symm.trans q2
    exact ⟨.ref T, _, pair_new I hf (fun b o hb e => hk b o (fun q => hb (by revert q; simp; intro q; rcases q with rfl | rfl | rfl | rfl <;> simp)) e) hT pT (show RelV (.str ⟨#[c]⟩) _ from ⟨_, rfl⟩) (show RelV (.str ⟨#[d]⟩) _ from ⟨_, rfl⟩), rfl, ⟨T, c, d, rfl, I.hok.fresh hT, rfl, hx, hy⟩, ⟨s1, s2, s3, s4, s5⟩, own_stays (fun b hb => (hf b hb).1) lt hT⟩
  done := by
    rintro X rfl rfl rfl hc i pins s σ H E I hf st rfl
    have hh : X.A.in1.handled = none := I.ok.hd hc
    have G := GoesN.zip2 (prog := X.prog) (w := X.w) (A := X.A) (elts := elts) (x1 := kk) (pos := tpos) S (Draws.text (A := X.A.in1) hh i1 x t) (Draws.text (A := X.A.in1) hh i2 y u)
    exact G.stops s _ E ⟨st.zip, st.inn, st.out, st.one, st.two⟩ fun h' tk hk _ => I.turnedL (fun b o hb e => hk b o (fun q => hb (by revert q; simp; intro q; rcases q with rfl | rfl | rfl | rfl <;> simp)) e) hf
  self := fun A i s Q E st q => wpAny_pyIter_zip st.zip q
def iZipS (ta : TA) : TI := fun σ H R => ta σ H fun vs H1 => ∃ x y : Str, vs = [.str x, .str y] ∧ R (ItzS x y) H1
/-- for a, b in zip(a text, a text) -/
theorem pi_zipS {X : Cx} {e e2 : Expr} {ta : TA} {p pos tpos : Pos} {elts : List Expr} {kk : Nat} (hg : Gl X "zip") (hm : X.mg "zip" = none) (ha : PA X [e, e2] ta)
    (hs : starEach [e, e2] X.env = (false, eval e X.env) :: starEach [e2] X.env := by rfl) (hp : (backTo pos (starEach [e2] X.env)).any (·.1) = false := by rfl) : PI X (.Tuple elts kk tpos) (.Call (.Name "zip" p) [e, e2] [] pos) (iZipS ta) where
  run := fun pins s σ H R I h => by
    refine Call_ (ld_blt I hg hm boot_zip (callWith_type1 (thn (ha.run pos pins s σ H _ I h) ?_) hs hp))
    rintro us q ⟨_, H1, J, rv, x, y, rfl, r⟩
    cases rv with
    | cons r1 rv =>
    cases rv with
    | cons r2 rv =>
    cases rv
    obtain ⟨t, rfl⟩ := r1
    obtain ⟨u, rfl⟩ := r2
    refine zip_begins2 (begins_text x t) (begins_text y u) trivial trivial fun h' z1 z2 z3 z4 z5 z6 hk => wpAny_pyIter_zip z1 ?_
    refine ⟨_, _, _, _, H1, rfl, J.kept (t' := q.toks) hk, turn_zipS (x := x) (y := y) (t := t) (u := u) (zip_sep2 (N := q.heap.objs.size) (fp1 := []) (fp2 := []) (by simp) (by simp)), ⟨z1, z2, ⟨_, _, z3⟩, ⟨_, z4, rfl, rfl⟩, ⟨_, z5, rfl, rfl⟩⟩, fun b hb => ?_, r⟩
    have le : q.heap.objs.size ≤ b := by
      simp only [List.mem_cons, List.not_mem_nil, or_false] at hb
      rcases hb with rfl | rfl | rfl | rfl | rfl <;> omega
    exact J.fpOk le (J.hok.fresh le)
/-- list(a text) -/
def rListS : List V → Hp → VK → Prop := fun xs H Q => ∃ x : Str, xs = [.str x] ∧ x.cps.size ≤ 1000 ∧ ∀ l, H l = none → Q (.ref l) (upd H l (.lst (x.cps.toList.map fun c => V.str ⟨#[c]⟩)))
theorem vals_signs {x : Str} {acc : Array Value} (h : ItemsOf (SignAt x) acc x.cps.size) : Vals (x.cps.toList.map fun c => V.str ⟨#[c]⟩) acc.toList := by
  have key : ∀ (cs : List Nat) (us : List Value), us.length = cs.length → (∀ (j : Nat) (v : Value), us[j]? = some v → ∃ c u, cs[j]? = some c ∧ v = .str ⟨#[c]⟩ u) → Vals (cs.map fun c => V.str ⟨#[c]⟩) us := fun cs => by
    induction cs with
    | nil =>
      intro us hl _
      cases us with
      | nil => exact .nil
      | cons _ _ => cases hl
    | cons c cs ih =>
      intro us hl hv
      cases us with
      | nil => cases hl
      | cons u us =>
        obtain ⟨c', tk, e1, e2⟩ := hv 0 u rfl
        cases e1
        exact .cons ⟨tk, e2⟩ (ih us (by simpa using hl) fun j v e => hv (j + 1) v e)
  refine key _ _ (by rw [Array.length_toList, Array.length_toList, h.1]) fun j v hv => ?_
  obtain ⟨c, u, hc, rfl⟩ := h.2 j v (by simpa using hv)
  exact ⟨c, u, by simpa using hc, rfl⟩
theorem cr_listS {X : Cx} (hc : X.calm = true) : CallR X (.type "list") rListS := by
  rintro pins s σ H xs us Q I r ⟨x, rfl, hx, q⟩
  obtain ⟨_, rfl, t, rfl⟩ := vals1 r
  refine call_list_str (I.ok.hd hc) x t (fun h' tk acc n hk hS hi => ?_) (Nat.le_trans hx (by decide))
  have new : ObjOk X.prog X.w (upd H s.heap.objs.size (.lst (x.cps.toList.map fun c => V.str ⟨#[c]⟩))) h' s.heap.objs.size (.lst (x.cps.toList.map fun c => V.str ⟨#[c]⟩)) := by
    refine ⟨?_, acc.toList, n, vals_signs hi, by simpa using hS⟩
    rw [List.length_map, Array.length_toList]
    exact Nat.le_trans hx (by decide)
  exact ⟨.ref _, _, I.laid (t' := tk) hk (Nat.le_refl _) new, rfl, q _ (I.hok.fresh (Nat.le_refl _))⟩
end RK

/-! x in a tuple of data; a dict by a comprehension, its keys of any kind that DPut knows (texts, ints, tuples of these) -/
namespace RK
open PySem PySem.Spec PyProof.Rows L2
section
variable {X : Cx}
def rInT (K : PySem.W.Frag) : R2 := fun x y H Q => ∃ d ds, Dp K H x d ∧ Dp K H y (.tuple ds) ∧ SeqAt.shaped d = true ∧ SeqAt.shaped (.tuple ds) = true ∧ Q (.bl (ds.any fun z => PyData.eqv z d)) H
theorem op_inT (hu : X.A.units + 65 < cLine) : OpR X (compareOp .In) (rInT X.K) := by
  rintro pins s σ H x y v u Q I rx ry ⟨d, ds, hd, hs, sd, ss, q⟩
  obtain ⟨_, r1⟩ := Dp.reads I d x v hd rx
  obtain ⟨_, r2⟩ := Dp.reads I (.tuple ds) y u hs ry
  exact SeqAt.in_tuple_reads r2 r1 (SeqAt.canLay_of_shaped (d := .tuple ds) ss) (SeqAt.canLay_of_shaped sd) (room_in_shaped sd hu) ⟨.bl _, H, I, rfl, q⟩
/-- one put of a comprehension -/
theorem put_dict {pins : List (Addr × Obj)} {σ : L2.St} {H H' : Hp} {s : Shared} {E : Value → Shared → Prop} {D : Addr} {y v : V} {u r : Value} {Q : Unit → Shared → Prop} (hu : X.A.units + 1 < cLine) (I : Inv X pins σ H s) (p : DPut H D y v H') (ry : RelV y u) (rv : RelV v r)
    (h : ∀ s', Inv X pins σ H' s' → Q () s') : wpAny (model X.prog X.w) X.A (dictSet D u r) Q E s := by
  rcases p with ⟨kvs, k, e, rfl, l, rfl⟩ | ⟨kvs, k, b, e, rfl, eb, l, rfl⟩
  · exact d_dictSet I e l ry rv h
  · cases ry
    obtain ⟨_, nd, xs, kt, dd⟩ := dt_of I.hok e
    have few : xs.length ≤ sizeLine := by rw [← Paired.length kt]; exact Nat.le_of_lt l
    refine wpAny_dictSet_heap (knd := tupleKind (mixKind X.prog X.w)) (hsz := few) (Nat.lt_of_succ_lt hu) (key_of I.hok eb) dd ?_
    rintro h' ⟨o, es, ep, g1, g2, g3, g4, _, g6⟩ same
    refine h _ (d_write I (by rw [e]; exact True.intro) same ⟨o, g1⟩ ⟨Nat.le_trans (length_putK kvs k v) l, nd, _, (kt.put k eb rv).keeps fun c ys hc => ?_, o, es, ep, g1, g2, g3, g4, g6⟩)
    have apart : c ≠ D := ne_of hc e nofun
    rw [upd_ne apart]
    exact hc
def tDcP (o0 : HO) (wi : TI) (g : TG) (tt : TT) (tk tv : TE) (vs : List Nat) : TE := fun σ H Q => wi σ H fun J H1 => ∀ D, H1 D = none → ∃ W : Nat → Nat → Hp → Prop, (∃ m, W 0 m (upd H1 D o0)) ∧ ∀ i m G, W i m G →
  (J.stop i G ∧ Q (.ref D) G) ∨ (J.go i G ∧ ∃ Nx : Hp → Prop, (∀ G', Nx G' → ∃ m', m' < m ∧ W (i + 1) m' G') ∧ ∀ x G', J.yld i G x G' → g x (wipe σ vs) G' fun σ2 H2 => wipe σ2 vs = wipe σ vs ∧ tt σ2 H2 fun b H3 =>
    if b = true then tk σ2 H3 fun y H4 => tv σ2 H4 fun z H5 => ∃ H6, DPut H5 D y z H6 ∧ Nx H6 else Nx H3)
/-- where a comprehension stands between two turns -/
def CmpSt (Y : Cx) (σ0 : L2.St) (fp : List Addr) (tn : Nat → Heap → Prop) (W : Nat → Nat → Hp → Prop) (n : Nat) (s : Shared) : Prop := ∃ i G, Inv Y [] σ0 G s ∧ tn i s.heap ∧ (∀ b ∈ fp, G b = none) ∧ W i n G
/-- the iterator's cells, pinned while a turn's body runs, are as they were -/
theorem turn_ends {Y : Cx} {σ0 σ8 : L2.St} {fp : List Addr} {ws : List Nat} {σ : L2.St} {tn : Nat → Heap → Prop} {W : Nat → Nat → Hp → Prop} {Nx : Hp → Prop} {i n : Nat} {h7 : Heap} {s' : Shared} {G : Hp} (hσ : σ0 = wipe σ ws) (hw : wipe σ8 ws = wipe σ ws)
    (cells : ∀ b ∈ fp, ∃ o, h7.get? b = some o) (keep : ∀ h', (∀ b ∈ fp, ∀ o, h7.get? b = some o → h'.get? b = some o) → tn (i + 1) h') (I : Inv Y ([] ++ pinsAt fp h7) σ8 G s') (nx : Nx G) (next : ∀ G', Nx G' → ∃ m', m' < n ∧ W (i + 1) m' G') :
    ∃ m, m < n ∧ CmpSt Y σ0 fp tn W m s' := by
  obtain ⟨m, lt, wm⟩ := next G nx
  have pin : ∀ b ∈ fp, ∀ o, h7.get? b = some o → s'.heap.get? b = some o ∧ G b = none := fun b hb o e => by
    have := I.pin (b, o) (List.mem_append_right _ (mem_pinsAt hb e))
    exact ⟨this.1, this.2.1⟩
  refine ⟨m, lt, i + 1, G, (Inv.unpinned (pins := []) I).weak ?_ (fun j v e => ?_), keep _ fun b hb o e => (pin b hb o e).1, fun b hb => ?_, wm⟩
  · rw [hσ, ← hw, wipe_length]
  · rw [hσ, ← hw] at e
    exact (wipe_some e).1
  · obtain ⟨o, e⟩ := cells b hb
    exact (pin b hb o e).2
theorem blk_fp {Y : Cx} {fp : List Addr} {σ' : L2.St} {G : Hp} {s' : Shared} (hx : Y.ex = fp) (hp : Y.pn = []) (I : Inv Y [] σ' G s') (hn : ∀ b ∈ fp, G b = none) : ∀ b ∈ fp, FpOk Y [] G b := fun b hb =>
  ⟨hn b hb, (I.ok.exf b (hx ▸ hb)).1, I.ok.exfs b (hx ▸ hb), .inl (hx ▸ hb), fun x c e => (I.ok.exf b (hx ▸ hb)).2 x c e, fun q hq => absurd (show q ∈ ([] : List (Addr × Obj)) ++ [] from hp ▸ hq) (by simp)⟩
theorem empty_dict {P : Program} {w : World} {o0 : HO} (ho : o0 = .dK [] ∨ o0 = .dT []) {H : Hp} (h : Heap) (hb : sysModules < h.objs.size) : ObjOk P w H (h.push { cls := .type "dict", data := .dict #[] }) h.objs.size o0 := by
  rcases ho with rfl | rfl
  · exact dk_empty h hb
  · exact dt_empty h hb
theorem dcp_core {pins : List (Addr × Obj)} {s : Shared} {σ : L2.St} {H : Hp} {Q : VK} {use : Option (Value → Sem Unit)} {Qf : Value → Shared → Prop} {pos' : Pos} {o0 : HO} (ho : o0 = .dK [] ∨ o0 = .dT []) (hu : X.A.units + 1 < cLine) {kx vx tg iter : Expr} {ifs : List Expr} {scope : Scope} {own : List (Str × Nat)} {pos : Pos} {wi : TI} {g : TG} {tt : TT} {tk tv : TE} (hc : X.calm = true) (hN : X.N.Nodup) (hi : PI X tg iter wi) (ok : BlkOk X.N X.env.scope scope own)
    (hg : ∀ (z : Shared) (G : Hp) (C : Addr) (cl : List (Str × Addr)) (fp : List Addr), PG (X.blk z G scope (compEnvC scope cl C X.env) fp) tg g) (ht : ∀ (z : Shared) (G : Hp) (C : Addr) (cl : List (Str × Addr)) (fp : List Addr), PTs (X.blk z G scope (compEnvC scope cl C X.env) fp) ifs tt)
    (hk : ∀ (z : Shared) (G : Hp) (C : Addr) (cl : List (Str × Addr)) (fp : List Addr), PE (X.blk z G scope (compEnvC scope cl C X.env) fp) kx tk) (he : ∀ (z : Shared) (G : Hp) (C : Addr) (cl : List (Str × Addr)) (fp : List Addr), PE (X.blk z G scope (compEnvC scope cl C X.env) fp) vx tv)
    (hs : ∀ x, foldedSetIterable iter X.env x = pure x) (I : Inv X pins σ H s) (h : tDcP o0 wi g tt tk tv (own.map (·.2)) σ H Q)
    (last : ∀ D C s' m G, Inv X pins σ G s' → Q (.ref D) G → s'.heap.Ns C m → FpOk X pins G C → compPost (model X.prog X.w) X.A X.xe use Qf (.ref D) C (.ok .next) s') :
    wpAny (model X.prog X.w) X.A (comprehension (.DictComp kx vx [⟨tg, iter, ifs, 0⟩] scope pos) scope X.env pos' newDict false (eval iter X.env) use) Qf X.xe s := by
    refine wpAny_comprehension_free (use := use) rfl hs (closure_ok fun y hy e => (ok.free y hy e).elim (fun k => I.ok.has _ (.inl k)) fun k => I.ok.has _ (.inr k)) ok.kind (fun y hy e => by rw [ok.uniq y hy, e]) (thn (hi.run pins s σ H _ I h) fun _ _ hx => thn hx ?_)
    rintro _ s2 ⟨it, fp, tn, J, H2, rfl, I2, T, st2, f2, q⟩
    obtain ⟨W, ⟨m0, w0⟩, turn⟩ := q _ (I2.hok.fresh (Nat.le_refl s2.heap.objs.size))
    refine wpAny_newObj_type (newEnv_comp ?_)
    have lt2 : ∀ b ∈ fp, b < s2.heap.objs.size := fun b hb => let ⟨o, e, _⟩ := T.obj _ _ st2 b hb; Heap.lt_size e
    have grow : ∀ b o, s2.heap.get? b = some o → (s2.heap.push { cls := .type "dict", data := .dict #[] }).get? b = some o := fun b o e => Heap.get?_push_of_some _ e
    have I3 : Inv X pins σ (upd H2 s2.heap.objs.size o0) { s2 with heap := s2.heap.push { cls := .type "dict", data := .dict #[] } } := I2.laid (t' := s2.toks) grow (Nat.le_refl _) (empty_dict ho s2.heap I2.big)
    have st3 := T.keep _ _ _ st2 fun b _ o e => grow b o e
    generalize hD : s2.heap.objs.size = D at I3 w0 turn lt2 ⊢
    have hsz : D < (s2.heap.push { cls := .type "dict", data := .dict #[] }).objs.size := by rw [Heap.size_push, hD]; exact Nat.lt_succ_self _
    generalize s2.heap.push { cls := .type "dict", data := .dict #[] } = h3 at I3 st3 hsz ⊢
    generalize hs3 : ({ s2 with heap := h3 } : Shared) = s3 at I3 ⊢
    have e3 : s3.heap = h3 := by rw [← hs3]
    rw [← e3] at st3 hsz
    have f3 : ∀ b ∈ fp, FpOk X pins (upd H2 D o0) b ∧ b < s3.heap.objs.size := fun b hb => by
      refine ⟨⟨?_, (f2 b hb).2⟩, Nat.lt_trans (lt2 b hb) hsz⟩
      rw [upd_ne (Nat.ne_of_lt (lt2 b hb))]
      exact (f2 b hb).1
    have I4 := block_start I3 ok hN f3
    show codeAny _ _ (.compStart _ 0 _ _ (compEnvC scope (cellsFrom (s3.heap.objs.size + 1) scope.names (cloFrom X.env.cells scope.names [])) s3.heap.objs.size X.env)) _ _
    generalize cellsFrom (s3.heap.objs.size + 1) scope.names (cloFrom X.env.cells scope.names []) = cl at I4 ⊢
    generalize hG : upd H2 D o0 = G3 at I3 I4 w0 f3
    have pg := hg s3 G3 s3.heap.objs.size cl fp
    have pt := ht s3 G3 s3.heap.objs.size cl fp
    have pk := hk s3 G3 s3.heap.objs.size cl fp
    have pv := he s3 G3 s3.heap.objs.size cl fp
    have cL : (compEnvC scope cl s3.heap.objs.size X.env).locals = s3.heap.objs.size := rfl
    generalize compEnvC scope cl s3.heap.objs.size X.env = ce at I4 pg pt pk pv cL ⊢
    have st4 : tn 0 (pushCells (s3.heap.push { cls := .type "dict", data := .dict #[] }) scope.names) := T.keep _ _ _ st3 fun b _ o e => pushCells_keeps _ _ _ _ (Heap.get?_push_of_some _ e)
    generalize hs4 : ({ s3 with heap := pushCells (s3.heap.push { cls := .type "dict", data := .dict #[] }) scope.names } : Shared) = s4 at I4 ⊢
    have st5 : tn 0 s4.heap := by rw [← hs4]; exact st4
    have loop : codeAny (model X.prog X.w) X.A (.compLoop (.DictComp kx vx [⟨tg, iter, ifs, 0⟩] scope pos) 0 (.ref it) (.ref D) ce) (compPost (model X.prog X.w) X.A X.xe use Qf (.ref D) s3.heap.objs.size) s4 := by
      refine compLoop_anyD (CmpSt (X.blk s3 G3 scope ce fp) (wipe σ (own.map (·.2))) fp tn W) ?_ m0 ⟨0, G3, I4, st5, fun b hb => (f3 b hb).1.1, w0⟩
      rintro n s5 ⟨i, G5, I5, t5, n5, w5⟩
      have own5 := blk_fp (Y := X.blk s3 G3 scope ce fp) rfl rfl I5 n5
      rcases turn i n G5 w5 with ⟨stop, fin⟩ | ⟨go, Nx, next, body⟩
      · refine wpAny_mono (T.done (X.blk s3 G3 scope ce fp) rfl rfl rfl hc i [] s5 _ G5 (fun _ _ => False) I5 own5 t5 stop) ?_ (fun _ _ z => z.elim)
        rintro _ s6 ⟨rfl, I6⟩
        have free6 : G5 ce.locals = none := I6.free
        obtain ⟨m, hm, _⟩ := I6.loc
        rw [cL] at free6
        have hm2 : s6.heap.Ns ce.locals m := hm
        rw [cL] at hm2
        have I7 : Inv X pins σ G5 s6 := I3.call' (ch := fp) I6.os I6.base I6.hok I6.bare fun b hb => let f := (f3 b hb).1; ⟨f.2.2.2.1, f.2.1, f.2.2.2.2.1, f.2.2.2.2.2⟩
        exact last D _ s6 m G5 I7 fin hm2 (I3.fpOk (Nat.le_refl _) free6)
      · refine wpAny_mono (T.item (X.blk s3 G3 scope ce fp) rfl rfl rfl hc i [] s5 _ G5 (fun _ _ => False) I5 own5 t5 go) ?_ (fun _ _ z => z.elim)
        rintro _ s6 ⟨u, rfl, h6⟩
        refine wpAny_mono h6 ?_ (fun _ _ z => z.elim)
        rintro _ s7 ⟨x, G7, I7, r7, y7, t7, n7⟩
        have ends := fun {s' : Shared} {G : Hp} {σ8 : L2.St} (hw : wipe σ8 (own.map (·.2)) = wipe σ (own.map (·.2))) (I' : Inv (X.blk s3 G3 scope ce fp) ([] ++ pinsAt fp s7.heap) σ8 G s') (nx : Nx G) =>
          turn_ends rfl hw (fun b hb => let ⟨o, e, _⟩ := T.obj _ _ t7 b hb; ⟨o, e⟩) (fun h' k => T.keep _ _ _ t7 k) I' nx next
        have I8 := I7.pinned (blk_fp (Y := X.blk s3 G3 scope ce fp) rfl rfl I7 n7) (T.obj _ _ t7)
        refine wpAny_mono (pg.run _ s7 _ G7 x u _ I8 r7 (body x G7 y7)) ?_ (fun _ _ z => (show False from z).elim)
        rintro _ s8 ⟨σ8, G8, J8, hw8, q8⟩
        refine wpAny_mono (pt.run _ s8 σ8 G8 _ J8 q8) ?_ (fun _ _ z => (show False from z).elim)
        rintro b s9 ⟨G9, J9, q9⟩
        cases b with
        | false =>
          rw [if_neg (by decide)] at q9 ⊢
          exact ends hw8 J9 q9
        | true =>
          rw [if_pos rfl] at q9 ⊢
          refine wpAny_mono (pk.run _ s9 σ8 G9 _ J9 q9) ?_ (fun _ _ z => (show False from z).elim)
          rintro a1 s10 ⟨yk, G10, J10, r10, q10⟩
          refine wpAny_mono (pv.run _ s10 σ8 G10 _ J10 q10) ?_ (fun _ _ z => (show False from z).elim)
          rintro a2 s11 ⟨yv, G11, J11, r11, G12, put, nx⟩
          exact put_dict (X := X.blk s3 G3 scope ce fp) hu J11 put r10 r11 fun s12 J12 => ends hw8 J12 nx
    exact codeAny_compStart_dict loop (T.self X.A 0 _ _ _ st5 loop)
/-- {k: v for ..}, as a value -/
theorem pe_dcP {o0 : HO} (ho : o0 = .dK [] ∨ o0 = .dT []) (hu : X.A.units + 1 < cLine) {kx vx tg iter : Expr} {ifs : List Expr} {scope : Scope} {own : List (Str × Nat)} {pos : Pos} {wi : TI} {g : TG} {tt : TT} {tk tv : TE} (hc : X.calm = true) (hN : X.N.Nodup) (hi : PI X tg iter wi) (ok : BlkOk X.N X.env.scope scope own)
    (hg : ∀ (z : Shared) (G : Hp) (C : Addr) (cl : List (Str × Addr)) (fp : List Addr), PG (X.blk z G scope (compEnvC scope cl C X.env) fp) tg g) (ht : ∀ (z : Shared) (G : Hp) (C : Addr) (cl : List (Str × Addr)) (fp : List Addr), PTs (X.blk z G scope (compEnvC scope cl C X.env) fp) ifs tt)
    (hk : ∀ (z : Shared) (G : Hp) (C : Addr) (cl : List (Str × Addr)) (fp : List Addr), PE (X.blk z G scope (compEnvC scope cl C X.env) fp) kx tk) (he : ∀ (z : Shared) (G : Hp) (C : Addr) (cl : List (Str × Addr)) (fp : List Addr), PE (X.blk z G scope (compEnvC scope cl C X.env) fp) vx tv)
    (hs : ∀ x, foldedSetIterable iter X.env x = pure x := by intro _; rfl) : PE X (.DictComp kx vx [⟨tg, iter, ifs, 0⟩] scope pos) (tDcP o0 wi g tt tk tv (own.map (·.2))) where
  run := fun pins s σ H Q I h => by
    rw [arm_eval_DictComp]
    refine dcp_core ho hu hc hN hi ok hg ht hk he hs I h fun D C s' m G J q hm f => ⟨m, hm, fun h'' sb => ?_⟩
    obtain ⟨g0, g1, _, g3, g4, g5⟩ := f
    exact ⟨.ref D, G, J.turned (t' := s'.toks) (fun b o hb e => (sb.2 b hb).trans e) g0 g1 g3 g4 g5, rfl, q⟩
/-- y = {k: v for ..} -/
theorem ps_setDc {i : Nat} {y : Str} {py spos : Pos} {o0 : HO} (ho : o0 = .dK [] ∨ o0 = .dT []) (hu : X.A.units + 1 < cLine) {kx vx tg iter : Expr} {ifs : List Expr} {scope : Scope} {own : List (Str × Nat)} {pos : Pos} {wi : TI} {g : TG} {tt : TT} {tk tv : TE} (hc : X.calm = true) (hN : X.N.Nodup) (hy : X.N[i]? = some y) (hyl : X.env.scope.names.lookup y = some .local)
    (hsw : swapsWith (.DictComp kx vx [⟨tg, iter, ifs, 0⟩] scope pos) (some (.Name y py)) spos.line X.env = pure true) (hi : PI X tg iter wi) (ok : BlkOk X.N X.env.scope scope own)
    (hg : ∀ (z : Shared) (G : Hp) (C : Addr) (cl : List (Str × Addr)) (fp : List Addr), PG (X.blk z G scope (compEnvC scope cl C X.env) fp) tg g) (ht : ∀ (z : Shared) (G : Hp) (C : Addr) (cl : List (Str × Addr)) (fp : List Addr), PTs (X.blk z G scope (compEnvC scope cl C X.env) fp) ifs tt)
    (hk : ∀ (z : Shared) (G : Hp) (C : Addr) (cl : List (Str × Addr)) (fp : List Addr), PE (X.blk z G scope (compEnvC scope cl C X.env) fp) kx tk) (he : ∀ (z : Shared) (G : Hp) (C : Addr) (cl : List (Str × Addr)) (fp : List Addr), PE (X.blk z G scope (compEnvC scope cl C X.env) fp) vx tv)
    (hs : ∀ x, foldedSetIterable iter X.env x = pure x := by intro _; rfl) : PS X (.Assign [.Name y py] (.DictComp kx vx [⟨tg, iter, ifs, 0⟩] scope pos) spos) (tAsg (tDcP o0 wi g tt tk tv (own.map (·.2))) (gName i)) where
  run := fun pins s σ H D I h => by
    have h2 : tDcP o0 wi g tt tk tv (own.map (·.2)) σ H (fun x H1 => gName i x σ H1 D.nx) := h
    rw [exec_Assign_Name_used _ _ _ _ hsw]
    refine wpAny_bind (wpAny_standAt (wpAny_bind ?_))
    show wpAny _ X.A (do let _ ← comprehension (.DictComp kx vx [⟨tg, iter, ifs, 0⟩] scope pos) scope X.env (firstIterPos [⟨tg, iter, ifs, 0⟩] pos) newDict false (eval iter X.env) (some (assign (.Name y py) X.env))) _ _ s
    refine wpAny_bind (thn (dcp_core (Qf := fun _ s' => SP X pins D .next s') ho hu hc hN hi ok hg ht hk he hs I h2 fun L C s' m G J q hm f => ?_) fun _ s' hq => wpAny_pure (wpAny_pure hq))
    obtain ⟨g0, g1, _, g3, g4, g5⟩ := f
    show wpAny _ _ (assign (.Name y py) X.env (.ref L)) _ _ _
    refine wpAny_assign_Name (store_ok2 (v := V.ref L) J hN hy (.inl hyl) rfl (fun s2 J2 ⟨c, sb, hc⟩ => ?_) (.inr hyl))
    have far : C ≠ c := hc.elim (fun z => z ▸ g1) fun z e => g4 y c z e.symm
    exact ⟨m, hm.sameBut sb far, fun h3 sb3 => ⟨_, G, J2.turned (t' := s2.toks) (fun b o hb e => (sb3.2 b hb).trans e) g0 g1 g3 g4 g5, q⟩⟩
theorem sw_trueD {kx vx : Expr} {gs : List Comprehension} {scope : Scope} {pos py : Pos} {y : Str} {l : Nat} {env : Env} (hk : env.scope.kind = .function) (hy : env.scope.names.lookup y = some .local) (hl : (py.line == pos.line) = true)
    (ha : (scope.names.any fun (n, k) => n == y && (k == .local || k == .cell)) = false) : swapsWith (.DictComp kx vx gs scope pos) (some (.Name y py)) l env = pure true := by
  have k1 : env.kindOf y = some .local := hy
  have k2 : env.blockKind = .function := by
    unfold Env.blockKind
    rw [hk]
    rfl
  unfold swapsWith
  simp only [k2, k1, ha, Expr.pos, hl]
  rfl
end
end RK

/-! t[lo:hi:step] of a tuple, the step not 1 -/
namespace RK
open PySem PySem.Spec PyProof.Rows L2
/-- the places that a slice with a step takes -/
def stepAt {α : Type} (xs : List α) (lo hi : Option Int) (st : Int) : List α :=
  (List.range (Builtin.Slice.slicePlaces (Builtin.Slice.sliceAdjust lo hi st (xs.length : Int)).1 (Builtin.Slice.sliceAdjust lo hi st (xs.length : Int)).2 st)).filterMap fun (k : Nat) => xs[((Builtin.Slice.sliceAdjust lo hi st (xs.length : Int)).1 + (k : Int) * st).toNat]?
theorem vals_pick {xs : List V} {us : List Value} (r : Vals xs us) (f : Nat → Nat) : ∀ ks : List Nat, Vals (ks.filterMap fun k => xs[f k]?) (ks.filterMap fun k => us[f k]?)
  | [] => .nil
  | k :: ks => by
    have ih := vals_pick r f ks
    cases e : xs[f k]? with
    | none =>
      have e2 : us[f k]? = none := by rw [List.getElem?_eq_none_iff] at e ⊢; rw [← r.length]; exact e
      rw [List.filterMap_cons, List.filterMap_cons, e, e2]
      exact ih
    | some x =>
      obtain ⟨u, hu, ru⟩ := r.get e
      rw [List.filterMap_cons, List.filterMap_cons, e, hu]
      exact .cons ru ih
section
variable {P : Program} {w : World} {A : Around} {E : Value → Shared → Prop} {s : Shared}
theorem applied_step {sl : Addr} {vl vu vs : Value} {lo hi : Option Int} {st : Int} {n : Nat} {Q : Int × Int × Nat → Shared → Prop} (hs : s.heap.IsSliceOf sl vl vu vs) (pl : IsPart vl lo) (pu : IsPart vu hi) (ps : IsPart vs (some st)) (h0 : st ≠ 0)
    (q : Q ((Builtin.Slice.sliceAdjust lo hi st (n : Int)).1, st, Builtin.Slice.slicePlaces (Builtin.Slice.sliceAdjust lo hi st (n : Int)).1 (Builtin.Slice.sliceAdjust lo hi st (n : Int)).2 st) s) :
    wpAny (model P w) A (Builtin.Slice.sliceApplied (.ref sl) (pure (n : Int))) Q E s := by
  obtain ⟨os, g1, g2, g3⟩ := id hs
  unfold Builtin.Slice.sliceApplied Builtin.Slice.sliceFields
  refine wpAny_bind (wpAny_bind (wpAny_field g1 g3 (x := vl) rfl (wpAny_bind (wpAny_field g1 g3 (x := vu) rfl (wpAny_bind (wpAny_field g1 g3 (x := vs) rfl (wpAny_pure ?_)))))))
  refine wpAny_bind (HT.slicePart_ ps ?_)
  show wpAny _ _ (if (st == 0) = true then _ else _) _ _ s
  rw [if_neg (by simpa using h0)]
  refine wpAny_bind (HT.slicePart_ pl (wpAny_bind (HT.slicePart_ pu (wpAny_bind (wpAny_pure ?_)))))
  exact wpAny_pure q
theorem getItem_tup_step {t sl : Addr} {us : List Value} {vl vu vs : Value} {lo hi : Option Int} {st : Int} {Q : Value → Shared → Prop} (ht : IsTup s.heap t us.toArray) (hs : s.heap.IsSliceOf sl vl vu vs) (pl : IsPart vl lo) (pu : IsPart vu hi) (ps : IsPart vs (some st)) (h0 : st ≠ 0) (h1 : st ≠ 1)
    (hz : (stepAt us lo hi st).length ≤ sizeLine) (q : Q (.ref s.heap.objs.size) { s with heap := s.heap.push { cls := .type "tuple", data := .seq (stepAt us lo hi st).toArray } }) : wpAny (model P w) A (getItem (.ref t) (.ref sl)) Q E s := by
  have isSlice : s.TypeIs (.ref sl) "slice" := let ⟨os, a, b, _⟩ := hs; ⟨os, a, b⟩
  have fits : sizeOk (.seq (stepAt us lo hi st).toArray) := by
    show (stepAt us lo hi st).toArray.size ≤ sizeLine
    rw [List.size_toArray]
    exact hz
  unfold getItem
  try with_reducible refine wpAny_holding ?_
  first | refine wpAny_bind (wpAny_pure ?_) | skip
  refine wpAny_bind (wpAny_sequenceKey ht.typeIs (by decide) (wpAny_bind (wpAny_callSpecial?_slot (name := Str.ofString "__getitem__") ht.typeIs slot_tuple_getitem (wpAny_call_entry slot_tuple_getitem ht.typeIs entry_tuple_getitem ?_ (args_tuple_getitem _ _)))))
  show wpAny _ _ (Builtin.Tuple.tupleItemsOf (.ref t) >>= _) _ _ s
  refine wpAny_bind (tupleItemsOf_ ht (wpAny_bind (wpAny_typeOf isSlice ?_)))
  rw [if_pos (by decide), List.size_toArray]
  refine wpAny_bind (applied_step hs pl pu ps h0 ?_)
  have other : ¬ (((Builtin.Slice.sliceAdjust lo hi st (us.length : Int)).1 == 0 && st == 1 && Builtin.Slice.slicePlaces (Builtin.Slice.sliceAdjust lo hi st (us.length : Int)).1 (Builtin.Slice.sliceAdjust lo hi st (us.length : Int)).2 st == us.length) = true) := by
    rw [show (st == 1) = false from by simpa using h1, Bool.and_false, Bool.false_and]
    decide
  show wpAny _ _ (if ((Builtin.Slice.sliceAdjust lo hi st (us.length : Int)).1 == 0 && st == 1 && Builtin.Slice.slicePlaces (Builtin.Slice.sliceAdjust lo hi st (us.length : Int)).1 (Builtin.Slice.sliceAdjust lo hi st (us.length : Int)).2 st == us.length) = true then _ else _) _ _ s
  rw [if_neg other]
  have same : ((List.range (Builtin.Slice.slicePlaces (Builtin.Slice.sliceAdjust lo hi st (us.length : Int)).1 (Builtin.Slice.sliceAdjust lo hi st (us.length : Int)).2 st)).filterMap fun (k : Nat) => us.toArray[((Builtin.Slice.sliceAdjust lo hi st (us.length : Int)).1 + (k : Int) * st).toNat]?) = stepAt us lo hi st := by
    unfold stepAt
    refine congrArg (List.filterMap · _) (funext fun k => ?_)
    simp
  rw [same]
  first
    | exact wpAny_bind (m := Builtin.Tuple.tupleExact _) (wpAny_newObj_type (wpAny_pure ⟨_, rfl, wpAny_pure q⟩) fits)
    | exact wpAny_bind (wpAny_bind (m := Builtin.Tuple.tupleExact _) (wpAny_newObj_type (wpAny_pure ⟨_, rfl, wpAny_pure q⟩) fits))
    | exact wpAny_bind (m := Builtin.Tuple.tupleExact _) (wpAny_newObj_type (wpAny_bind (wpAny_pure (wpAny_pure ⟨_, rfl, wpAny_pure q⟩))) fits)
    | exact wpAny_bind (wpAny_bind (m := Builtin.Tuple.tupleExact _) (wpAny_newObj_type (wpAny_pure (wpAny_pure ⟨_, rfl, wpAny_pure q⟩)) fits))
end
section
variable {X : Cx}
def tSlStep (K : PySem.W.Frag) (te : TE) (tl th ts : TO) : TE := fun σ H Q => te σ H fun x H1 => tl σ H1 fun l H2 => th σ H2 fun u H3 => ts σ H3 fun o H4 => ∃ a xs st, x = .ref a ∧ o = some st ∧ st ≠ 0 ∧ st ≠ 1 ∧ SqT K H4 a xs ∧ (stepAt xs l u st).length ≤ sizeLine ∧
  ∀ p, H4 p = none → Q (.ref p) (upd H4 p (.tup (stepAt xs l u st)))
theorem pe_sliceStep {e c : Expr} {lo hi : Option Expr} {te : TE} {tl th ts : TO} {p3 pos : Pos} (he : PE X e te) (hl : PO X lo tl) (hh : PO X hi th) (hs : PO X (some c) ts) (hw : ∀ a b, subscripted (.Slice lo hi (some c) p3) false (.ref a) (.ref b) = operate [.ref a, .ref b] (getItem (.ref a) (.ref b)) := by intro _ _; with_unfolding_all rfl) :
    PE X (.Subscript e (.Slice lo hi (some c) p3) pos) (tSlStep X.K te tl th ts) where
  run := fun pins s σ H Q I h => by
    refine Subscript_ (thn (he.run pins s σ H _ I h) ?_)
    rintro v s1 ⟨x, H1, I1, r1, q1⟩
    refine wpAny_Slice (thn (hl.run pins s1 σ H1 _ I1 q1) ?_)
    rintro vl s2 ⟨l, H2, I2, pl, q2⟩
    refine thn (hh.run pins s2 σ H2 _ I2 q2) ?_
    rintro vu s3 ⟨u, H3, I3, pu, q3⟩
    refine thn (hs.run pins s3 σ H3 _ I3 q3) ?_
    rintro vs s4 ⟨o, H4, I4, ps, a, xs, st, rfl, rfl, n0, n1, hx, hz, q⟩
    cases r1
    have I5 : Inv X pins σ H4 { s4 with heap := s4.heap.push { cls := .type "slice", data := .fields #[vl, vu, vs] } } := I4.kept (t' := s4.toks) fun b ob z => Heap.get?_push_of_some _ z
    obtain ⟨us, rv, it, _⟩ := I5.tuple hx
    have r2 : Vals (stepAt xs l u st) (stepAt us l u st) := by
      unfold stepAt
      rw [rv.length]
      exact vals_pick rv _ _
    have hz2 : (stepAt us l u st).length ≤ sizeLine := by rw [← r2.length]; exact hz
    show wpAny (model X.prog X.w) X.A (subscriptTail e (.Slice lo hi (some c) p3) (.ref a) (.ref s4.heap.objs.size)) (EP X pins σ Q) X.xe { s4 with heap := s4.heap.push { cls := .type "slice", data := .fields #[vl, vu, vs] } }
    refine tail_any (ops := [.ref a, .ref s4.heap.objs.size]) it.typeIs slot_tuple_getitem.lookup ?_ (hw _ _)
    refine getItem_tup_step it (Heap.IsSliceOf.new _ vl vu vs) pl pu ps n0 n1 hz2 ?_
    exact ⟨.ref _, _, I5.laid (t' := s4.toks) (o := .tup (stepAt xs l u st)) (fun b ob z => Heap.get?_push_of_some _ z) (Nat.le_refl _) ⟨hz, _, r2, _, Heap.get?_push_size _ rfl, rfl, _, rfl⟩, rfl, q _ (I5.hok.fresh (Nat.le_refl _))⟩
end
end RK

/-! shortest rows of ties: by middles (Floyd, Warshall), and by turns (Bellman, Ford); both are the least sums -/
namespace RPath
variable {α : Type} [DecidableEq α]
abbrev Tab (α : Type) := α → α → Option Int
abbrev Tie (α : Type) := α × α × Int
def put (d : Tab α) (p q : α) (x : Int) : Tab α := fun a b => if a = p ∧ b = q then some x else d a b
theorem put_same (d : Tab α) (p q : α) (x : Int) : put d p q x p q = some x := by unfold put; rw [if_pos ⟨rfl, rfl⟩]
theorem put_ne (d : Tab α) {p q a b : α} (x : Int) (h : ¬ (a = p ∧ b = q)) : put d p q x a b = d a b := by unfold put; rw [if_neg h]
/-- a walk over the ties, in either direction -/
inductive Wk (E : List (Tie α)) : α → α → Int → Prop
  | nil (p : α) : Wk E p p 0
  | fwd {p u v : α} {n w : Int} : Wk E p u n → (u, v, w) ∈ E → Wk E p v (n + w)
  | bwd {p u v : α} {n w : Int} : Wk E p u n → (v, u, w) ∈ E → Wk E p v (n + w)
def Pos (E : List (Tie α)) : Prop := ∀ t ∈ E, 0 ≤ t.2.2
def In (E : List (Tie α)) (ps : List α) : Prop := ∀ t ∈ E, t.1 ∈ ps ∧ t.2.1 ∈ ps
theorem Wk.nonneg {E : List (Tie α)} (hE : Pos E) {p q : α} {n : Int} (h : Wk E p q n) : 0 ≤ n := by
  induction h with
  | nil => exact Int.le_refl 0
  | fwd _ m ih => have := hE _ m; simp only at this; omega
  | bwd _ m ih => have := hE _ m; simp only at this; omega
theorem Wk.cat {E : List (Tie α)} {p m q : α} {a b : Int} (h1 : Wk E p m a) (h2 : Wk E m q b) : Wk E p q (a + b) := by
  induction h2 with
  | nil => rw [Int.add_zero]; exact h1
  | fwd _ mem ih => rw [← Int.add_assoc]; exact .fwd ih mem
  | bwd _ mem ih => rw [← Int.add_assoc]; exact .bwd ih mem
def Sound (E : List (Tie α)) (d : Tab α) : Prop := ∀ p q x, d p q = some x → Wk E p q x
/-- one table is nowhere above another one -/
def Le (d e : Tab α) : Prop := ∀ p q y, e p q = some y → ∃ x, d p q = some x ∧ x ≤ y
theorem Le.refl (d : Tab α) : Le d d := fun _ _ y h => ⟨y, h, Int.le_refl _⟩
theorem Le.trans {d e f : Tab α} (h : Le d e) (k : Le e f) : Le d f := fun p q y hy => by
  obtain ⟨x, hx, l⟩ := k p q y hy
  obtain ⟨z, hz, l2⟩ := h p q x hx
  exact ⟨z, hz, Int.le_trans l2 l⟩
/-- put x at (p, q) if there is nothing or more -/
def low (d : Tab α) (p q : α) (x : Int) : Tab α := match d p q with | none => put d p q x | some c => if x < c then put d p q x else d
theorem low_le (d : Tab α) (p q : α) (x : Int) : Le (low d p q x) d := fun a b y hy => by
  unfold low
  cases e : d p q with
  | none =>
    show ∃ z, put d p q x a b = Option.some z ∧ z ≤ y
    rw [put_ne d x (fun h => by rw [h.1, h.2, e] at hy; cases hy)]
    exact ⟨y, hy, Int.le_refl _⟩
  | some c =>
    show ∃ z, (if x < c then put d p q x else d) a b = Option.some z ∧ z ≤ y
    split
    · by_cases h : a = p ∧ b = q
      · rw [h.1, h.2, e] at hy
        cases hy
        rw [h.1, h.2, put_same]
        exact ⟨x, rfl, by omega⟩
      · rw [put_ne d x h]
        exact ⟨y, hy, Int.le_refl _⟩
    · exact ⟨y, hy, Int.le_refl _⟩
theorem low_at (d : Tab α) (p q : α) (x : Int) : ∃ z, low d p q x p q = some z ∧ z ≤ x := by
  unfold low
  cases e : d p q with
  | none => exact ⟨x, put_same d p q x, Int.le_refl _⟩
  | some c =>
    show ∃ z, (if x < c then put d p q x else d) p q = Option.some z ∧ z ≤ x
    split
    · exact ⟨x, put_same d p q x, Int.le_refl _⟩
    · exact ⟨c, e, by omega⟩
theorem low_sound {E : List (Tie α)} {d : Tab α} {p q : α} {x : Int} (h : Sound E d) (w : Wk E p q x) : Sound E (low d p q x) := fun a b y hy => by
  have hp : ∀ a b y, put d p q x a b = some y → Wk E a b y := fun a b y hy => by
    by_cases e : a = p ∧ b = q
    · rw [e.1, e.2, put_same] at hy
      cases hy
      rw [e.1, e.2]
      exact w
    · rw [put_ne d x e] at hy
      exact h a b y hy
  unfold low at hy
  cases e : d p q with
  | none => rw [e] at hy; exact hp a b y hy
  | some c =>
    rw [e] at hy
    have hy : (if x < c then put d p q x else d) a b = Option.some y := hy
    split at hy
    · exact hp a b y hy
    · exact h a b y hy
/-! ### by middles -/
def short (d : Tab α) (p m q : α) : Tab α := match d p m, d m q with | some a, some b => low d p q (a + b) | _, _ => d
theorem short_le (d : Tab α) (p m q : α) : Le (short d p m q) d := by
  unfold short
  split
  · exact low_le d p q _
  · exact .refl d
theorem short_sound {E : List (Tie α)} {d : Tab α} {p m q : α} (h : Sound E d) : Sound E (short d p m q) := by
  unfold short
  split
  · rename_i a b e1 e2
    exact low_sound h ((h _ _ _ e1).cat (h _ _ _ e2))
  · exact h
theorem short_at (d : Tab α) {p m q : α} {a b : Int} (h1 : d p m = some a) (h2 : d m q = some b) : ∃ x, short d p m q p q = some x ∧ x ≤ a + b := by
  unfold short
  rw [h1, h2]
  exact low_at d p q _
def pass1 (ps : List α) (d : Tab α) (p m : α) : Tab α := ps.foldl (fun d q => short d p m q) d
def pass2 (qs ps : List α) (d : Tab α) (m : α) : Tab α := qs.foldl (fun d p => pass1 ps d p m) d
def passes (ms ps : List α) (d : Tab α) : Tab α := ms.foldl (fun d m => pass2 ps ps d m) d
theorem foldl_le {β : Type} (f : Tab α → β → Tab α) (h : ∀ d b, Le (f d b) d) : ∀ (l : List β) (d : Tab α), Le (l.foldl f d) d
  | [], d => .refl d
  | b :: l, d => (foldl_le f h l (f d b)).trans (h d b)
theorem foldl_sound {β : Type} {E : List (Tie α)} (f : Tab α → β → Tab α) : ∀ (l : List β) (d : Tab α), (∀ d, ∀ b ∈ l, Sound E d → Sound E (f d b)) → Sound E d → Sound E (l.foldl f d)
  | [], d, _, hd => hd
  | b :: l, d, h, hd => foldl_sound f l (f d b) (fun d c hc => h d c (List.mem_cons_of_mem _ hc)) (h d b List.mem_cons_self hd)
theorem pass1_le (ps : List α) (d : Tab α) (p m : α) : Le (pass1 ps d p m) d := foldl_le _ (fun d q => short_le d p m q) ps d
theorem pass2_le (qs ps : List α) (d : Tab α) (m : α) : Le (pass2 qs ps d m) d := foldl_le _ (fun d p => pass1_le ps d p m) qs d
theorem Le.some {d e : Tab α} (h : Le d e) {p q : α} {y : Int} (hy : e p q = some y) : ∃ x, d p q = some x ∧ x ≤ y := h p q y hy
theorem pass1_at {p m q : α} {a b : Int} : ∀ (ps : List α) (d : Tab α), q ∈ ps → d p m = some a → d m q = some b → ∃ x, pass1 ps d p m p q = some x ∧ x ≤ a + b
  | [], _, h, _, _ => by cases h
  | r :: ps, d, h, h1, h2 => by
    have st : Le (pass1 ps (short d p m r) p m) (short d p m r) := pass1_le ps _ p m
    show ∃ x, pass1 ps (short d p m r) p m p q = Option.some x ∧ x ≤ a + b
    by_cases e : q = r
    · subst e
      obtain ⟨x, hx, l⟩ := short_at d h1 h2
      obtain ⟨y, hy, l2⟩ := st.some hx
      exact ⟨y, hy, Int.le_trans l2 l⟩
    · obtain ⟨a', h1', la⟩ := (short_le d p m r).some h1
      obtain ⟨b', h2', lb⟩ := (short_le d p m r).some h2
      obtain ⟨x, hx, l⟩ := pass1_at ps _ ((List.mem_cons.mp h).resolve_left e) h1' h2'
      exact ⟨x, hx, by omega⟩
theorem pass2_at {ps : List α} {p m q : α} {a b : Int} (hq : q ∈ ps) : ∀ (qs : List α) (d : Tab α), p ∈ qs → d p m = some a → d m q = some b → ∃ x, pass2 qs ps d m p q = some x ∧ x ≤ a + b
  | [], _, h, _, _ => by cases h
  | r :: qs, d, h, h1, h2 => by
    have st : Le (pass2 qs ps (pass1 ps d r m) m) (pass1 ps d r m) := pass2_le qs ps _ m
    show ∃ x, pass2 qs ps (pass1 ps d r m) m p q = Option.some x ∧ x ≤ a + b
    by_cases e : p = r
    · subst e
      obtain ⟨x, hx, l⟩ := pass1_at ps d hq h1 h2
      obtain ⟨y, hy, l2⟩ := st.some hx
      exact ⟨y, hy, Int.le_trans l2 l⟩
    · obtain ⟨a', h1', la⟩ := (pass1_le ps d r m).some h1
      obtain ⟨b', h2', lb⟩ := (pass1_le ps d r m).some h2
      obtain ⟨x, hx, l⟩ := pass2_at hq qs _ ((List.mem_cons.mp h).resolve_left e) h1' h2'
      exact ⟨x, hx, by omega⟩
/-- a walk of one tie at least, all of whose inner places lie in S -/
inductive Wi (E : List (Tie α)) (S : List α) : α → α → Int → Prop
  | one {p q : α} {w : Int} : (p, q, w) ∈ E ∨ (q, p, w) ∈ E → Wi E S p q w
  | more {p u q : α} {n w : Int} : Wi E S p u n → u ∈ S → (u, q, w) ∈ E ∨ (q, u, w) ∈ E → Wi E S p q (n + w)
theorem Wi.nonneg {E : List (Tie α)} {S : List α} (hE : Pos E) {p q : α} {n : Int} (h : Wi E S p q n) : 0 ≤ n := by
  have e : ∀ {u q : α} {w : Int}, (u, q, w) ∈ E ∨ (q, u, w) ∈ E → 0 ≤ w := fun m => m.elim (fun m => hE _ m) fun m => hE _ m
  induction h with
  | one m => exact e m
  | more _ _ m ih => have := e m; omega
theorem Wi.split {E : List (Tie α)} {S : List α} {m : α} (hE : Pos E) {p q : α} {n : Int} (h : Wi E (S ++ [m]) p q n) : (∃ k, Wi E S p q k ∧ k ≤ n) ∨ ∃ a b, Wi E S p m a ∧ Wi E S m q b ∧ a + b ≤ n := by
  induction h with
  | one mem => exact .inl ⟨_, .one mem, Int.le_refl _⟩
  | @more u q n w _ hu mem ih =>
    by_cases e : u = m
    · subst e
      rcases ih with ⟨k, hk, l⟩ | ⟨a, b, ha, hb, l⟩
      · exact .inr ⟨k, w, hk, .one mem, by omega⟩
      · have := hb.nonneg hE
        exact .inr ⟨a, w, ha, .one mem, by omega⟩
    · have hS : u ∈ S := (List.mem_append.mp hu).resolve_right fun z => e (List.mem_singleton.mp z)
      rcases ih with ⟨k, hk, l⟩ | ⟨a, b, ha, hb, l⟩
      · exact .inl ⟨_, .more hk hS mem, by omega⟩
      · exact .inr ⟨a, _, ha, .more hb hS mem, by omega⟩
/-- the table knows all walks through S -/
def Knows (E : List (Tie α)) (ps S : List α) (d : Tab α) : Prop := ∀ p q n, p ∈ ps → q ∈ ps → Wi E S p q n → ∃ x, d p q = some x ∧ x ≤ n
theorem knows_pass {E : List (Tie α)} {ps S : List α} {m : α} {d : Tab α} (hE : Pos E) (hm : m ∈ ps) (h : Knows E ps S d) : Knows E ps (S ++ [m]) (pass2 ps ps d m) := fun p q n hp hq w => by
  rcases w.split hE with ⟨k, hk, l⟩ | ⟨a, b, ha, hb, l⟩
  · obtain ⟨x, hx, lx⟩ := h p q k hp hq hk
    obtain ⟨y, hy, ly⟩ := (pass2_le ps ps d m).some hx
    exact ⟨y, hy, by omega⟩
  · obtain ⟨x, hx, lx⟩ := h p m a hp hm ha
    obtain ⟨y, hy, ly⟩ := h m q b hm hq hb
    obtain ⟨z, hz, lz⟩ := pass2_at hq ps d hp hx hy
    exact ⟨z, hz, by omega⟩
theorem knows_passes {E : List (Tie α)} {ps : List α} (hE : Pos E) : ∀ (ms S : List α) (d : Tab α), (∀ m ∈ ms, m ∈ ps) → Knows E ps S d → Knows E ps (S ++ ms) (passes ms ps d)
  | [], S, d, _, h => by rw [List.append_nil]; exact h
  | m :: ms, S, d, hm, h => by
    have := knows_passes hE ms (S ++ [m]) _ (fun x hx => hm x (List.mem_cons_of_mem _ hx)) (knows_pass hE (hm m List.mem_cons_self) h)
    rw [List.append_assoc] at this
    exact this
/-- what is asked: each entry is a walk's length, and no walk is shorter -/
structure Exact (E : List (Tie α)) (ps : List α) (d : Tab α) : Prop where
  sound : Sound E d
  least : ∀ p q n, p ∈ ps → q ∈ ps → Wk E p q n → ∃ x, d p q = some x ∧ x ≤ n
theorem wk_wi {E : List (Tie α)} {ps : List α} (hI : In E ps) {p q : α} {n : Int} (h : Wk E p q n) : (p = q ∧ n = 0) ∨ Wi E ps p q n := by
  induction h with
  | nil => exact .inl ⟨rfl, rfl⟩
  | fwd _ m ih =>
    rcases ih with ⟨e, z⟩ | w
    · subst e z; rw [Int.zero_add]; exact .inr (.one (.inl m))
    · exact .inr (.more w (hI _ m).1 (.inl m))
  | bwd _ m ih =>
    rcases ih with ⟨e, z⟩ | w
    · subst e z; rw [Int.zero_add]; exact .inr (.one (.inr m))
    · exact .inr (.more w (hI _ m).2 (.inr m))
theorem passes_sound {E : List (Tie α)} (ms ps : List α) (d : Tab α) (h : Sound E d) : Sound E (passes ms ps d) :=
  foldl_sound _ _ _ (fun d m _ hd => foldl_sound _ _ _ (fun d p _ hd => foldl_sound _ _ _ (fun d q _ hd => short_sound hd) hd) hd) h
theorem passes_le (ms ps : List α) (d : Tab α) : Le (passes ms ps d) d := foldl_le _ (fun d m => pass2_le ps ps d m) ms d
/-- the table of the ties themselves -/
structure Start (E : List (Tie α)) (ps : List α) (d : Tab α) : Prop where
  sound : Sound E d
  diag : ∀ p ∈ ps, d p p = some 0
  ties : ∀ t ∈ E, (∃ x, d t.1 t.2.1 = some x ∧ x ≤ t.2.2) ∧ ∃ x, d t.2.1 t.1 = some x ∧ x ≤ t.2.2
theorem passes_exact {E : List (Tie α)} {ps : List α} (hE : Pos E) (hI : In E ps) {d : Tab α} (h : Start E ps d) : Exact E ps (passes ps ps d) where
  sound := passes_sound ps ps d h.sound
  least := fun p q n hp hq w => by
    have k0 : Knows E ps [] d := fun p q n _ _ w => by
      cases w with
      | one m => exact m.elim (fun m => (h.ties _ m).1) fun m => (h.ties _ m).2
      | more _ hu _ => cases hu
    have k := knows_passes hE ps [] d (fun m hm => hm) k0
    rw [List.nil_append] at k
    rcases wk_wi hI w with ⟨rfl, rfl⟩ | wi
    · exact (passes_le ps ps d).some (h.diag p hp)
    · exact k p q n hp hq wi
theorem Exact.uniq {E : List (Tie α)} {ps : List α} {d e : Tab α} (h : Exact E ps d) (k : Exact E ps e) {p q : α} (hp : p ∈ ps) (hq : q ∈ ps) : d p q = e p q := by
  cases h1 : d p q with
  | none =>
    cases h2 : e p q with
    | none => rfl
    | some y =>
      obtain ⟨x, hx, _⟩ := h.least p q y hp hq (k.sound _ _ _ h2)
      rw [h1] at hx
      cases hx
  | some x =>
    obtain ⟨y, hy, l⟩ := k.least p q x hp hq (h.sound _ _ _ h1)
    obtain ⟨x', hx', l'⟩ := h.least p q y hp hq (k.sound _ _ _ hy)
    rw [h1] at hx'
    cases hx'
    rw [hy, show x = y by omega]
theorem Exact.nonneg {E : List (Tie α)} {ps : List α} (hE : Pos E) {d : Tab α} (h : Exact E ps d) {p q : α} {x : Int} (e : d p q = some x) : 0 ≤ x := (h.sound _ _ _ e).nonneg hE
theorem Exact.diag {E : List (Tie α)} {ps : List α} (hE : Pos E) {d : Tab α} (h : Exact E ps d) {p : α} (hp : p ∈ ps) : d p p = some 0 := by
  obtain ⟨x, hx, l⟩ := h.least p p 0 hp hp (.nil p)
  have := h.nonneg hE hx
  rw [hx, show x = 0 by omega]
/-! ### the table of the ties themselves -/
def Meet (t u : Tie α) : Prop := (t.1 = u.1 ∧ t.2.1 = u.2.1) ∨ (t.1 = u.2.1 ∧ t.2.1 = u.1)
def dia (ps : List α) : Tab α := ps.foldl (fun d p => put d p p 0) fun _ _ => none
def tie2 (d : Tab α) (t : Tie α) : Tab α := put (put d t.1 t.2.1 t.2.2) t.2.1 t.1 t.2.2
def ini (ps : List α) (es : List (Tie α)) : Tab α := es.foldl tie2 (dia ps)
theorem dia_at (ps : List α) (a b : α) : dia ps a b = if a = b ∧ a ∈ ps then some 0 else none := by
  have : ∀ (l : List α) (d : Tab α), l.foldl (fun d p => put d p p 0) d a b = if a = b ∧ a ∈ l then some 0 else d a b := fun l => by
    induction l with
    | nil => intro d; rw [if_neg (by simp)]; rfl
    | cons p l ih =>
      intro d
      show l.foldl _ (put d p p 0) a b = _
      rw [ih]
      by_cases e : a = b
      · subst e
        by_cases m : a ∈ l
        · rw [if_pos ⟨rfl, m⟩, if_pos ⟨rfl, List.mem_cons_of_mem _ m⟩]
        · rw [if_neg (fun z => m z.2)]
          by_cases q : a = p
          · subst q
            rw [put_same, if_pos ⟨rfl, List.mem_cons_self⟩]
          · rw [put_ne d 0 (fun z => q z.1), if_neg (fun z => (List.mem_cons.mp z.2).elim q m)]
      · rw [if_neg (fun z => e z.1), if_neg (fun z => e z.1), put_ne d 0 (fun z => e (z.1.trans z.2.symm))]
  exact this ps _
theorem tie2_at (d : Tab α) (t : Tie α) {a b : α} (h : ¬ (a = t.1 ∧ b = t.2.1)) (k : ¬ (a = t.2.1 ∧ b = t.1)) : tie2 d t a b = d a b := by
  unfold tie2
  rw [put_ne _ _ k, put_ne _ _ h]
theorem tie2_fwd (d : Tab α) (t : Tie α) : tie2 d t t.1 t.2.1 = some t.2.2 := by
  unfold tie2
  by_cases e : t.1 = t.2.1 ∧ t.2.1 = t.1
  · rw [e.1]
    exact put_same ..
  · rw [put_ne _ _ e]
    exact put_same ..
theorem tie2_bwd (d : Tab α) (t : Tie α) : tie2 d t t.2.1 t.1 = some t.2.2 := put_same ..
theorem ini_start {ps : List α} {es : List (Tie α)} (ne : ∀ t ∈ es, t.1 ≠ t.2.1) (apart : es.Pairwise fun t u => ¬ Meet t u) : Start es ps (ini ps es) := by
  have step : ∀ (done rest : List (Tie α)) (d : Tab α), done ++ rest = es → Sound es d → (∀ p ∈ ps, d p p = some 0) → (∀ t ∈ done, d t.1 t.2.1 = some t.2.2 ∧ d t.2.1 t.1 = some t.2.2) →
      Sound es (rest.foldl tie2 d) ∧ (∀ p ∈ ps, rest.foldl tie2 d p p = some 0) ∧ ∀ t ∈ es, rest.foldl tie2 d t.1 t.2.1 = some t.2.2 ∧ rest.foldl tie2 d t.2.1 t.1 = some t.2.2 := fun done rest => by
    induction rest generalizing done with
    | nil =>
      intro d e h1 h2 h3
      rw [List.append_nil] at e
      subst e
      exact ⟨h1, h2, h3⟩
    | cons t rest ih =>
      intro d e h1 h2 h3
      have mt : t ∈ es := by rw [← e]; exact List.mem_append_right _ List.mem_cons_self
      refine ih (done ++ [t]) (tie2 d t) (by rw [List.append_assoc]; exact e) (fun a b x hx => ?_) (fun p hp => ?_) (fun u hu => ?_)
      · by_cases c : a = t.2.1 ∧ b = t.1
        · rw [c.1, c.2, tie2_bwd] at hx
          cases hx
          rw [c.1, c.2, show t.2.2 = 0 + t.2.2 by omega]
          exact .bwd (.nil _) mt
        · by_cases c2 : a = t.1 ∧ b = t.2.1
          · rw [c2.1, c2.2, tie2_fwd] at hx
            cases hx
            rw [c2.1, c2.2, show t.2.2 = 0 + t.2.2 by omega]
            exact .fwd (.nil _) mt
          · rw [tie2_at d t c2 c] at hx
            exact h1 a b x hx
      · rw [tie2_at d t (fun z => ne t mt (z.1.symm.trans z.2)) (fun z => ne t mt (z.2.symm.trans z.1))]
        exact h2 p hp
      · rcases List.mem_append.mp hu with hu | hu
        · have nm : ¬ Meet u t := by
            rw [← e] at apart
            exact (List.pairwise_append.mp apart).2.2 u hu t List.mem_cons_self
          rw [tie2_at d t (fun z => nm (.inl z)) (fun z => nm (.inr z)), tie2_at d t (fun z => nm (.inr ⟨z.2, z.1⟩)) (fun z => nm (.inl ⟨z.2, z.1⟩))]
          exact h3 u hu
        · obtain rfl := List.mem_singleton.mp hu
          exact ⟨tie2_fwd d _, tie2_bwd d _⟩
  obtain ⟨a, b, c⟩ := step [] es (dia ps) rfl (fun p q x h => by
    rw [dia_at] at h
    split at h
    · rename_i z
      cases h
      rw [z.1]
      exact .nil _
    · cases h) (fun p hp => by rw [dia_at, if_pos ⟨rfl, hp⟩]) (fun _ h => nomatch h)
  exact ⟨a, b, fun t ht => ⟨⟨_, (c t ht).1, Int.le_refl _⟩, ⟨_, (c t ht).2, Int.le_refl _⟩⟩⟩
/-! ### by turns -/
def relax (d : Tab α) (l u v : α) (w : Int) : Tab α := match d l u with | none => d | some y => low d l v (y + w)
theorem relax_le (d : Tab α) (l u v : α) (w : Int) : Le (relax d l u v w) d := by
  unfold relax
  split
  · exact .refl d
  · exact low_le d l v _
theorem relax_at (d : Tab α) {l u v : α} {w y : Int} (h : d l u = some y) : ∃ x, relax d l u v w l v = some x ∧ x ≤ y + w := by
  unfold relax
  rw [h]
  exact low_at d l v _
def both (d : Tab α) (l : α) (t : Tie α) : Tab α := relax (relax d l t.1 t.2.1 t.2.2) l t.2.1 t.1 t.2.2
theorem both_le (d : Tab α) (l : α) (t : Tie α) : Le (both d l t) d := (relax_le _ l t.2.1 t.1 t.2.2).trans (relax_le d l t.1 t.2.1 t.2.2)
theorem both_sound {E : List (Tie α)} {d : Tab α} {l : α} {t : Tie α} (ht : t ∈ E) (h : Sound E d) : Sound E (both d l t) := by
  have one : ∀ {d : Tab α}, Sound E d → Sound E (relax d l t.1 t.2.1 t.2.2) := fun {d} h => by
    unfold relax
    split
    · exact h
    · rename_i y e
      exact low_sound h (.fwd (h _ _ _ e) ht)
  have two : ∀ {d : Tab α}, Sound E d → Sound E (relax d l t.2.1 t.1 t.2.2) := fun {d} h => by
    unfold relax
    split
    · exact h
    · rename_i y e
      exact low_sound h (.bwd (h _ _ _ e) ht)
  exact two (one h)
def tour1 (ls : List α) (d : Tab α) (t : Tie α) : Tab α := ls.foldl (fun d l => both d l t) d
def tour (E : List (Tie α)) (ls : List α) (d : Tab α) : Tab α := E.foldl (fun d t => tour1 ls d t) d
theorem tour1_le (ls : List α) (d : Tab α) (t : Tie α) : Le (tour1 ls d t) d := foldl_le _ (fun d l => both_le d l t) ls d
theorem tour_le (E : List (Tie α)) (ls : List α) (d : Tab α) : Le (tour E ls d) d := foldl_le _ (fun d t => tour1_le ls d t) E d
theorem tour_sound {E F : List (Tie α)} (hF : ∀ t ∈ F, t ∈ E) (ls : List α) (d : Tab α) (h : Sound E d) : Sound E (tour F ls d) :=
  foldl_sound _ _ _ (fun d t ht hd => foldl_sound _ _ _ (fun d l _ hd => both_sound (hF t ht) hd) hd) h
theorem both_at (d : Tab α) {l : α} {t : Tie α} {y : Int} : (d l t.1 = some y → ∃ x, both d l t l t.2.1 = some x ∧ x ≤ y + t.2.2) ∧ (d l t.2.1 = some y → ∃ x, both d l t l t.1 = some x ∧ x ≤ y + t.2.2) := by
  refine ⟨fun h => ?_, fun h => ?_⟩
  · obtain ⟨x, hx, l1⟩ := relax_at d (v := t.2.1) (w := t.2.2) h
    obtain ⟨z, hz, l2⟩ := (relax_le _ l t.2.1 t.1 t.2.2).some hx
    exact ⟨z, hz, by omega⟩
  · obtain ⟨y', h', l1⟩ := (relax_le d l t.1 t.2.1 t.2.2).some h
    obtain ⟨x, hx, l2⟩ := relax_at _ (v := t.1) (w := t.2.2) h'
    exact ⟨x, hx, by omega⟩
theorem tour1_at {l : α} {t : Tie α} {y : Int} : ∀ (ls : List α) (d : Tab α), l ∈ ls → (d l t.1 = some y → ∃ x, tour1 ls d t l t.2.1 = some x ∧ x ≤ y + t.2.2) ∧ (d l t.2.1 = some y → ∃ x, tour1 ls d t l t.1 = some x ∧ x ≤ y + t.2.2)
  | [], _, h => by cases h
  | r :: ls, d, h => by
    have st : Le (tour1 ls (both d r t) t) (both d r t) := tour1_le ls _ t
    by_cases e : l = r
    · subst e
      refine ⟨fun h => ?_, fun h => ?_⟩
      · obtain ⟨x, hx, l1⟩ := (both_at d).1 h
        obtain ⟨z, hz, l2⟩ := st.some hx
        exact ⟨z, hz, by omega⟩
      · obtain ⟨x, hx, l1⟩ := (both_at d).2 h
        obtain ⟨z, hz, l2⟩ := st.some hx
        exact ⟨z, hz, by omega⟩
    · have ih := fun y => tour1_at (l := l) (t := t) (y := y) ls (both d r t) ((List.mem_cons.mp h).resolve_left e)
      refine ⟨fun h => ?_, fun h => ?_⟩
      · obtain ⟨y', h', l1⟩ := (both_le d r t).some h
        obtain ⟨x, hx, l2⟩ := (ih y').1 h'
        exact ⟨x, hx, by omega⟩
      · obtain ⟨y', h', l1⟩ := (both_le d r t).some h
        obtain ⟨x, hx, l2⟩ := (ih y').2 h'
        exact ⟨x, hx, by omega⟩
theorem tour_at {ls : List α} {l : α} {t : Tie α} {y : Int} (hl : l ∈ ls) : ∀ (E : List (Tie α)) (d : Tab α), t ∈ E → (d l t.1 = some y → ∃ x, tour E ls d l t.2.1 = some x ∧ x ≤ y + t.2.2) ∧ (d l t.2.1 = some y → ∃ x, tour E ls d l t.1 = some x ∧ x ≤ y + t.2.2)
  | [], _, h => by cases h
  | r :: E, d, h => by
    have st : Le (tour E ls (tour1 ls d r)) (tour1 ls d r) := tour_le E ls _
    by_cases e : t = r
    · subst e
      refine ⟨fun h => ?_, fun h => ?_⟩
      · obtain ⟨x, hx, l1⟩ := (tour1_at ls d hl).1 h
        obtain ⟨z, hz, l2⟩ := st.some hx
        exact ⟨z, hz, by omega⟩
      · obtain ⟨x, hx, l1⟩ := (tour1_at ls d hl).2 h
        obtain ⟨z, hz, l2⟩ := st.some hx
        exact ⟨z, hz, by omega⟩
    · have hm : t ∈ E := (List.mem_cons.mp h).resolve_left e
      refine ⟨fun h => ?_, fun h => ?_⟩
      · obtain ⟨y', h', l1⟩ := (tour1_le ls d r).some h
        obtain ⟨x, hx, l2⟩ := (tour_at hl E _ hm).1 h'
        exact ⟨x, hx, by omega⟩
      · obtain ⟨y', h', l1⟩ := (tour1_le ls d r).some h
        obtain ⟨x, hx, l2⟩ := (tour_at hl E _ hm).2 h'
        exact ⟨x, hx, by omega⟩
def tours (E : List (Tie α)) (ls : List α) (d : Tab α) : Nat → Tab α
  | 0 => d
  | n + 1 => tour E ls (tours E ls d n)
/-- what is not settled yet for l -/
def open_ (δ d : Tab α) (l : α) (v : α) : Bool := (δ l v).isSome && decide (d l v ≠ δ l v)
theorem open_step {E : List (Tie α)} {ps : List α} (hE : Pos E) (hI : In E ps) {δ d : Tab α} (hδ : Exact E ps δ) (hs : Sound E d) {l : α} (hl : l ∈ ps) (h0 : d l l = some 0) (v : α) (hv : v ∈ ps) (ho : open_ δ (tour E ps d) l v = true) : open_ δ d l v = true := by
  unfold open_ at *
  rw [Bool.and_eq_true] at *
  refine ⟨ho.1, ?_⟩
  have := ho.2
  simp only [decide_eq_true_eq] at *
  intro e
  apply this
  obtain ⟨x, hx⟩ := Option.isSome_iff_exists.mp ho.1
  rw [hx] at e ⊢
  obtain ⟨y, hy, l1⟩ := (tour_le E ps d).some e
  obtain ⟨z, hz, l2⟩ := hδ.least l v y hl hv (tour_sound (fun t h => h) ps d hs _ _ _ hy)
  rw [hx] at hz
  cases hz
  rw [hy, show y = x by omega]
theorem open_less {E : List (Tie α)} {ps : List α} (hE : Pos E) (hI : In E ps) {δ d : Tab α} (hδ : Exact E ps δ) (hs : Sound E d) {l : α} (hl : l ∈ ps) (h0 : d l l = some 0) (hn : ∀ v ∈ ps, open_ δ d l v = true → open_ δ (tour E ps d) l v = true) :
    ∀ v ∈ ps, open_ δ d l v = false := by
  have shut : ∀ v, open_ δ d l v = false → (δ l v).isSome = true → d l v = δ l v := fun v h hi => by
    unfold open_ at h
    rw [hi, Bool.true_and] at h
    simpa using h
  have step : ∀ u v w, (u, v, w) ∈ E ∨ (v, u, w) ∈ E → u ∈ ps → v ∈ ps → open_ δ d l u = false → open_ δ d l v = true → ∀ y, δ l u = some y → ∀ x, δ l v = some x → x < y + w := fun u v w m hu hv ou ov y hy x hx => by
    have eu := shut u ou (by rw [hy]; rfl)
    rw [hy] at eu
    have := m.elim (fun m => (tour_at hl E d m).1 eu) fun m => (tour_at hl E d m).2 eu
    obtain ⟨z, hz, lz⟩ := this
    have wz := tour_sound (fun t h => h) ps d hs _ _ _ hz
    obtain ⟨x', hx', lx⟩ := hδ.least l v z hl hv wz
    simp only at hx' lz hz
    rw [hx] at hx'
    cases hx'
    have ov' := hn v hv ov
    unfold open_ at ov'
    rw [Bool.and_eq_true] at ov'
    have ne : tour E ps d l v ≠ δ l v := by simpa using ov'.2
    rw [hz, hx] at ne
    have : z ≠ x := fun e => ne (by rw [e])
    omega
  have key : ∀ v n, Wk E l v n → v ∈ ps → open_ δ d l v = true → ∀ x, δ l v = some x → x < n := fun v n w => by
    have one : ∀ {u v : α} {n w : Int}, Wk E l u n → ((u, v, w) ∈ E ∨ (v, u, w) ∈ E) → u ∈ ps → (u ∈ ps → open_ δ d l u = true → ∀ x, δ l u = some x → x < n) → v ∈ ps → open_ δ d l v = true → ∀ x, δ l v = some x → x < n + w := fun {u v n w} hw m hu ih hv ov x hx => by
      obtain ⟨y, hy, ly⟩ := hδ.least l u n hl hu hw
      have wv : Wk E l v (y + w) := m.elim (fun m => .fwd (hδ.sound _ _ _ hy) m) fun m => .bwd (hδ.sound _ _ _ hy) m
      obtain ⟨x', hx', lx⟩ := hδ.least l v _ hl hv wv
      rw [hx] at hx'
      cases hx'
      cases ou : open_ δ d l u with
      | true => have := ih hu ou y hy; omega
      | false => have := step u v w m hu hv ou ov y hy x hx; omega
    induction w with
    | nil =>
      intro _ o x hx
      have e : d l l = δ l l := by rw [h0, hδ.diag hE hl]
      unfold open_ at o
      rw [Bool.and_eq_true] at o
      exact absurd e (by simpa using o.2)
    | fwd hw m ih => exact one hw (.inl m) (hI _ m).1 ih
    | bwd hw m ih => exact one hw (.inr m) (hI _ m).2 ih
  intro v hv
  cases o : open_ δ d l v with
  | false => rfl
  | true =>
    have o' := o
    unfold open_ at o'
    rw [Bool.and_eq_true] at o'
    obtain ⟨x, hx⟩ := Option.isSome_iff_exists.mp o'.1
    exact absurd (key v x (hδ.sound _ _ _ hx) hv o x hx) (by omega)
theorem filter_lt {p q : α → Bool} : ∀ (l : List α), (∀ v ∈ l, q v = true → p v = true) → (∃ v ∈ l, p v = true ∧ q v = false) → (l.filter q).length < (l.filter p).length
  | [], _, ⟨_, h, _⟩ => by cases h
  | a :: l, h, ⟨v, hv, pv, qv⟩ => by
    have le : ∀ (l : List α), (∀ v ∈ l, q v = true → p v = true) → (l.filter q).length ≤ (l.filter p).length := fun l h => by
      induction l with
      | nil => exact Nat.le_refl _
      | cons b l ih =>
        have := ih fun v hv => h v (List.mem_cons_of_mem _ hv)
        rw [List.filter_cons, List.filter_cons]
        cases hq : q b with
        | true => rw [h b List.mem_cons_self hq]; simpa using this
        | false => cases hp : p b <;> simp <;> omega
    have ht : ∀ v ∈ l, q v = true → p v = true := fun v hv => h v (List.mem_cons_of_mem _ hv)
    rw [List.filter_cons, List.filter_cons]
    rcases List.mem_cons.mp hv with rfl | hv
    · rw [pv, qv]
      have := le l ht
      simp
      omega
    · have := filter_lt l ht ⟨v, hv, pv, qv⟩
      cases hq : q a with
      | true => rw [h a List.mem_cons_self hq]; simpa using this
      | false => cases hp : p a <;> simp <;> omega
theorem tours_sound {E : List (Tie α)} {ps : List α} {d : Tab α} (h : Sound E d) : ∀ n, Sound E (tours E ps d n)
  | 0 => h
  | n + 1 => tour_sound (fun t h => h) ps _ (tours_sound h n)
theorem tours_diag {E : List (Tie α)} {ps : List α} (hE : Pos E) {d : Tab α} (h : Sound E d) {l : α} (h0 : d l l = some 0) : ∀ n, tours E ps d n l l = some 0
  | 0 => h0
  | n + 1 => by
    obtain ⟨x, hx, l1⟩ := (tour_le E ps (tours E ps d n)).some (tours_diag hE h h0 n)
    have := (tours_sound (ps := ps) h (n + 1) _ _ _ hx).nonneg hE
    show tour E ps (tours E ps d n) l l = some 0
    rw [hx, show x = 0 by omega]
theorem tours_count {E : List (Tie α)} {ps : List α} (hE : Pos E) (hI : In E ps) {δ d : Tab α} (hδ : Exact E ps δ) (hs : Sound E d) {l : α} (hl : l ∈ ps) (h0 : d l l = some 0) : ∀ n, (ps.filter (open_ δ (tours E ps d n) l)).length ≤ ps.length - n
  | 0 => List.length_filter_le _ _
  | n + 1 => by
    have ih := tours_count hE hI hδ hs hl h0 n
    have s := tours_sound (ps := ps) hs n
    have z := tours_diag (ps := ps) hE hs h0 n
    have sub := open_step hE hI hδ s hl z
    by_cases ex : ∃ v ∈ ps, open_ δ (tours E ps d n) l v = true ∧ open_ δ (tour E ps (tours E ps d n)) l v = false
    · have := filter_lt ps sub ex
      show (ps.filter (open_ δ (tour E ps (tours E ps d n)) l)).length ≤ _
      omega
    · have all := open_less hE hI hδ s hl z fun v hv o => by
        cases q : open_ δ (tour E ps (tours E ps d n)) l v with
        | true => rfl
        | false => exact absurd ⟨v, hv, o, q⟩ ex
      have e : ps.filter (open_ δ (tour E ps (tours E ps d n)) l) = [] := by
        rw [List.filter_eq_nil_iff]
        intro v hv o
        have := sub v hv o
        rw [all v hv] at this
        cases this
      show (ps.filter (open_ δ (tour E ps (tours E ps d n)) l)).length ≤ _
      rw [e]
      exact Nat.zero_le _
theorem tours_exact {E : List (Tie α)} {ps : List α} (hE : Pos E) (hI : In E ps) {δ d : Tab α} (hδ : Exact E ps δ) (hs : Sound E d) (h0 : ∀ l ∈ ps, d l l = some 0) {p q : α} (hp : p ∈ ps) (hq : q ∈ ps) : tours E ps d ps.length p q = δ p q := by
  have c := tours_count hE hI hδ hs hp (h0 p hp) ps.length
  rw [Nat.sub_self] at c
  have e : open_ δ (tours E ps d ps.length) p q = false := by
    cases o : open_ δ (tours E ps d ps.length) p q with
    | false => rfl
    | true =>
      have : q ∈ ps.filter (open_ δ (tours E ps d ps.length) p) := List.mem_filter.mpr ⟨hq, o⟩
      have := List.length_pos_of_mem this
      omega
  cases h : δ p q with
  | none =>
    cases k : tours E ps d ps.length p q with
    | none => rfl
    | some x =>
      obtain ⟨y, hy, _⟩ := hδ.least p q x hp hq (tours_sound (ps := ps) hs _ _ _ _ k)
      rw [h] at hy
      cases hy
  | some x =>
    unfold open_ at e
    rw [h] at e
    simpa using e
end RPath

/-! what the laws over puppets share: loops and comprehensions over any walk, tuples of rows, bags -/
namespace RK
open PySem PySem.Spec PyProof.Rows L2 RZ
theorem none_of {H H' : Hp} {q : Addr} (e : Same H H') (h : H' q = none) : H q = none := by
  cases z : H q with
  | none => rfl
  | some o => rw [e _ _ z] at h; cases h
theorem seqL_same {K : PySem.W.Frag} {H H' : Hp} {p : Addr} {xs : List V} (e : Same H H') (h : SqL K H p xs) : SqL K H' p xs := by
  rcases h with (h | ⟨o, h⟩) | h
  · exact .inl (.inl (e _ _ h))
  · exact .inl (.inr ⟨o, e _ _ h⟩)
  · exact .inr h
theorem Kp.sameT {H H' : Hp} {b : Addr} (k : Kp b H H') : SameT H H' := fun c o h n => by
  obtain ⟨f, s, m, hb⟩ := k.bag
  exact k.keep c o (fun z => by rw [z, hb] at h; cases h; exact n _ rfl) h
theorem SameT.sqt {K : PySem.W.Frag} {H H' : Hp} {p : Addr} {xs : List V} (e : SameT H H') (h : SqT K H p xs) : SqT K H' p xs := by
  rcases h with (h | ⟨o, h⟩) | h
  · exact .inl (.inl (e.tup h))
  · exact .inl (.inr ⟨o, e _ _ h nofun⟩)
  · exact .inr h
theorem Kp.sqt {K : PySem.W.Frag} {H H' : Hp} {b p : Addr} {xs : List V} (k : Kp b H H') (h : SqT K H p xs) : SqT K H' p xs := k.sameT.sqt h
theorem bag_ne {H : Hp} {b l : Addr} (hb : Bag H b) (n : H l = none) : l ≠ b := fun z => by
  obtain ⟨f, s, m, h⟩ := hb
  rw [z, h] at n
  cases n
theorem kp_upd {H : Hp} {b : Addr} {f s n : Int} (h : Bag H b) : Kp b H (upd H b (.lst [.int f, .int s, .int n])) := ⟨h, ⟨f, s, n, upd_same⟩, fun c o hc e => by rw [upd_ne hc]; exact e⟩
theorem Kp.putNew {b D : Addr} {H G : Hp} {o : HO} (k : Kp b H G) (hD : H D = none) (n : D ≠ b) : Kp b H (upd G D o) := by
  obtain ⟨f, s, m, hb⟩ := k.bag'
  refine ⟨k.bag, ⟨f, s, m, by rw [upd_ne fun z => n z.symm]; exact hb⟩, fun c u hc h => ?_⟩
  rw [upd_ne (ne_of_none h hD)]
  exact k.keep c u hc h
theorem SameT.trans {H H1 H2 : Hp} (a : SameT H H1) (b : SameT H1 H2) : SameT H H2 := fun c o h n => b c o (a c o h n) n
theorem key {G : Prop} {R : Addr → Hp → Prop} (Inv : Addr → Hp → Prop) (h2 : (∀ D' H', Inv D' H' → R D' H') → G) (h1 : ∀ D' H', Inv D' H' → R D' H') : G := h2 h1
theorem keyV {G : Prop} {R : V → Hp → Prop} (Inv : V → Hp → Prop) (h2 : (∀ v H', Inv v H' → R v H') → G) (h1 : ∀ v H', Inv v H' → R v H') : G := h2 h1
theorem goGen {G : Hp → Prop} {H : Hp} (Pv : Hp → Prop) (h : Pv H) (k : ∀ H', Pv H' → G H') : G H := k H h
theorem room65 {k : Nat} {A : Around} (r : Room k A) : A.units + 65 < cLine := by have := r.un; omega
/-! ### walks -/
theorem walk_enumT {K : PySem.W.Frag} {a : Addr} {xs : List V} : Walk (IteT K a) xs.length (fun H => SqT K H a xs) (YPair (fun i => some (.int (i : Nat))) (fun i => xs[i]?)) where
  goes := fun i _ hi q => ⟨xs, xs[i], q, List.getElem?_eq_getElem hi⟩
  stops := fun _ q => ⟨xs, q, rfl⟩
  yields := fun i H v H' _ q ⟨T, x, h1, h2, h3, h4⟩ => ⟨T, _, x, h1, h2, h3, rfl, h4 xs q⟩
theorem walk_zipS {x y : Str} : Walk (ItzS x y) (min x.cps.size y.cps.size) (fun _ => True) (YPair (fun i => (x.cps[i]?).map fun c => V.str ⟨#[c]⟩) (fun i => (y.cps[i]?).map fun c => V.str ⟨#[c]⟩)) where
  goes := fun i _ hi _ => ⟨x.cps[i]'(by omega), y.cps[i]'(by omega), Array.getElem?_eq_getElem _, Array.getElem?_eq_getElem _⟩
  stops := fun _ _ => rfl
  yields := fun i H v H' _ _ ⟨T, c, d, h1, h2, h3, h4, h5⟩ => ⟨T, _, _, h1, h2, h3, by show (x.cps[i]?).map _ = _; rw [h4]; rfl, by show (y.cps[i]?).map _ = _; rw [h5]; rfl⟩
section
variable {K : PySem.W.Frag} {σ : L2.St} {H : Hp} {Q : VK} {g : TG} {te : TE} {vs : List Nat} {tb : TS} {D : Ends} {J : It} {n : Nat} {Gd : Hp → Prop} {Y : Nat → Hp → V → Hp → Prop}
def ForJ (g : TG) (tb : TS) (D : Ends) (σ : L2.St) (J : It) (H : Hp) : Prop := ∃ W : Nat → Nat → L2.St → Hp → Prop, (∃ m, W 0 m σ H) ∧ ∀ i m σ H, W i m σ H →
  (J.stop i H ∧ D.nx σ H) ∨ (J.go i H ∧ ∃ N : L2.St → Hp → Prop, (∀ σ' H', N σ' H' → ∃ m', m' < m ∧ W (i + 1) m' σ' H') ∧ ∀ x H', J.yld i H x H' → g x σ H' fun σ2 H2 => tb { D with nx := N, ct := N, bk := D.nx } σ2 H2)
theorem w_forJ {wi : TI} (h : wi σ H fun J H1 => ForJ g tb D σ J H1) : tFor wi g tb D σ H := h
theorem w_cm {wi : TI} {tt : TT} (h : wi σ H fun J H1 => CmpAt g tt te vs σ Q J H1) : tLc wi g tt te vs σ H Q := h
theorem w_iStr {td : TE} {R : It → Hp → Prop} (h : td σ H fun v H1 => ∃ x, v = .str x ∧ R (Its x) H1) : iStr td σ H R := h
theorem w_iTup {td : TE} {R : It → Hp → Prop} (h : td σ H fun v H1 => ∃ a, v = .ref a ∧ (∃ xs, SqT K H1 a xs) ∧ R (Itt K a) H1) : iTup K td σ H R := h
theorem w_iList {td : TE} {R : It → Hp → Prop} (h : td σ H fun v H1 => ∃ a, v = .ref a ∧ (∃ xs, SqL K H1 a xs) ∧ R (Itl K a) H1) : iList K td σ H R := h
theorem w_iEnumT {ta : TA} {R : It → Hp → Prop} (h : ta σ H fun vs H1 => ∃ a xs, vs = [.ref a] ∧ SqT K H1 a xs ∧ R (IteT K a) H1) : iEnumT K ta σ H R := h
theorem w_iZipS {ta : TA} {R : It → Hp → Prop} (h : ta σ H fun vs H1 => ∃ x y : Str, vs = [.str x, .str y] ∧ R (ItzS x y) H1) : iZipS ta σ H R := h
theorem w_iRng1 {ta : TA} {R : It → Hp → Prop} (h : ta σ H fun vs H1 => ∃ n : Int, vs = [.int n] ∧ -(2 ^ 62) ≤ n ∧ n < 2 ^ 62 ∧ R (Itr 0 n.toNat) H1) : iRng1 ta σ H R := h
/-- a loop, what stands told by Pv -/
theorem for_leaf (w : Walk J n Gd Y) (Pv : Nat → L2.St → Hp → Prop) (h0 : Pv 0 σ H) (hG : ∀ i σ H, i ≤ n → Pv i σ H → Gd H)
    (hs : ∀ i x σ H H', i < n → Pv i σ H → Y i H x H' → g x σ H' fun σ2 H2 => tb { D with nx := Pv (i + 1), ct := Pv (i + 1), bk := D.nx } σ2 H2) (hd : ∀ σ H, Pv n σ H → D.nx σ H) : ForJ g tb D σ J H := for_it w Pv h0 hG hs hd
theorem snoc_get {acc : List V} {i : Nat} {y : V} (hl : acc.length = i) {R : Nat → V → Prop} (ho : ∀ m v, acc[m]? = some v → R m v) (hy : R i y) : ∀ m v, (acc ++ [y])[m]? = some v → R m v := fun m v hv => by
  by_cases c : m < acc.length
  · rw [List.getElem?_append_left c] at hv
    exact ho m v hv
  · rw [List.getElem?_append_right (Nat.le_of_not_lt c)] at hv
    have e : m = acc.length := by
      have := (List.getElem?_eq_some_iff.mp hv).1
      simp at this
      omega
    subst e
    simp at hv
    subst hv
    rw [hl]
    exact hy
/-- [f(x) for x in ..]: each element leaves what stood, and gives what P says -/
theorem cmS (w : Walk J n Gd Y) (hn : n ≤ 1000) (hGd : ∀ H', Same H H' → Gd H') (P : Nat → V → Hp → Prop) (mono : ∀ i v G G', SameT G G' → P i v G → P i v G')
    (he : ∀ i x H1 H2, i < n → Same H H1 → Y i H1 x H2 → ∀ Q' : VK, (∀ v H3, Same H1 H3 → P i v H3 → Q' v H3) → g x (wipe σ vs) H2 fun σ2 H3 => wipe σ2 vs = wipe σ vs ∧ te σ2 H3 Q')
    (k : ∀ D ys H', H D = none → Same H H' → H' D = some (.lst ys) → ys.length = n → (∀ i v, ys[i]? = some v → P i v H') → Q (.ref D) H') : CmpAt g tYes te vs σ Q J H := fun D hD => by
  refine lc_it w (fun i G => ∃ acc, G D = some (.lst acc) ∧ acc.length = i ∧ Same H G ∧ ∀ m v, acc[m]? = some v → P m v G) ⟨[], upd_same, rfl, w_new hD, fun m v e => by simp at e⟩ (fun i G _ ⟨_, _, _, e, _⟩ => hGd G e) ?_ ?_
  · rintro i x G G' hi ⟨acc, h1, h2, e, hp⟩ hy
    refine he i x G G' hi e hy (fun y H4 => ∃ acc, H4 D = some (.lst acc) ∧ acc.length < sizeLine ∧ ∃ acc', upd H4 D (.lst (acc ++ [y])) D = some (.lst acc') ∧ acc'.length = i + 1 ∧ Same H (upd H4 D (.lst (acc ++ [y]))) ∧ ∀ m v, acc'[m]? = some v → P m v (upd H4 D (.lst (acc ++ [y])))) fun v H4 e4 pv => ?_
    have h3 := e4 _ _ h1
    refine ⟨acc, h3, Nat.lt_of_lt_of_le (show acc.length < 1001 by omega) (by decide), _, upd_same, by rw [List.length_append, h2]; rfl, RK.Same.updL (e.trans e4) hD, ?_⟩
    exact snoc_get h2 (R := fun m u => P m u (upd H4 D (.lst (acc ++ [v])))) (fun m u hu => mono m u H4 _ (SameT.upd h3) (mono m u G H4 (.of e4) (hp m u hu))) (mono _ _ H4 _ (SameT.upd h3) pv)
  · rintro G ⟨acc, h1, h2, e, hp⟩
    exact k D acc G hD e h1 h2 hp
/-- the same, where each element draws from the bag at b -/
theorem cmK {b : Addr} (hb : Bag H b) (w : Walk J n Gd Y) (hn : n ≤ 1000) (hGd : ∀ H', Kp b H H' → Gd H') (P : Nat → V → Hp → Prop) (mono : ∀ i v G G', SameT G G' → P i v G → P i v G')
    (he : ∀ i x H1 H2, i < n → Kp b H H1 → Y i H1 x H2 → ∀ Q' : VK, (∀ v H3, Kp b H1 H3 → P i v H3 → Q' v H3) → g x (wipe σ vs) H2 fun σ2 H3 => wipe σ2 vs = wipe σ vs ∧ te σ2 H3 Q')
    (k : ∀ D ys H', H D = none → Kp b H H' → H' D = some (.lst ys) → ys.length = n → (∀ i v, ys[i]? = some v → P i v H') → Q (.ref D) H') : CmpAt g tYes te vs σ Q J H := fun D hD => by
  have nD := bag_ne hb hD
  refine lc_it w (fun i G => ∃ acc, G D = some (.lst acc) ∧ acc.length = i ∧ Kp b H G ∧ ∀ m v, acc[m]? = some v → P m v G) ⟨[], upd_same, rfl, .of hb (w_new hD), fun m v e => by simp at e⟩ (fun i G _ ⟨_, _, _, e, _⟩ => hGd G e) ?_ ?_
  · rintro i x G G' hi ⟨acc, h1, h2, e, hp⟩ hy
    refine he i x G G' hi e hy (fun y H4 => ∃ acc, H4 D = some (.lst acc) ∧ acc.length < sizeLine ∧ ∃ acc', upd H4 D (.lst (acc ++ [y])) D = some (.lst acc') ∧ acc'.length = i + 1 ∧ Kp b H (upd H4 D (.lst (acc ++ [y]))) ∧ ∀ m v, acc'[m]? = some v → P m v (upd H4 D (.lst (acc ++ [y])))) fun v H4 e4 pv => ?_
    have h3 := e4.keep _ _ nD h1
    refine ⟨acc, h3, Nat.lt_of_lt_of_le (show acc.length < 1001 by omega) (by decide), _, upd_same, by rw [List.length_append, h2]; rfl, (e.trans e4).putNew hD nD, ?_⟩
    exact snoc_get h2 (R := fun m u => P m u (upd H4 D (.lst (acc ++ [v])))) (fun m u hu => mono m u H4 _ (SameT.upd h3) (mono m u G H4 e4.sameT (hp m u hu))) (mono _ _ H4 _ (SameT.upd h3) pv)
  · rintro G ⟨acc, h1, h2, e, hp⟩
    exact k D acc G hD e h1 h2 hp
theorem snoc_get2 {β : Type} {acc : List V} {us : List β} {y : V} {u : β} (hl : acc.length = us.length) {R : V → β → Prop} (ho : ∀ (m : Nat) (v : V) (w : β), acc[m]? = some v → us[m]? = some w → R v w) (hy : R y u) : ∀ (m : Nat) (v : V) (w : β), (acc ++ [y])[m]? = some v → (us ++ [u])[m]? = some w → R v w := fun m v w hv hw => by
  by_cases c : m < acc.length
  · rw [List.getElem?_append_left c] at hv
    rw [List.getElem?_append_left (by rw [← hl]; exact c)] at hw
    exact ho m v w hv hw
  · rw [List.getElem?_append_right (Nat.le_of_not_lt c)] at hv
    rw [List.getElem?_append_right (by rw [← hl]; exact Nat.le_of_not_lt c), ← hl] at hw
    generalize m - acc.length = j at hv hw
    cases j with
    | zero => cases hv; cases hw; exact hy
    | succ j => cases hv
/-- [f(x) for x in .. if ..]: of each z of zs what h tells, if it tells anything -/
theorem cmF {α β : Type} {tt : TT} (w : Walk J n Gd Y) (hn : n ≤ 1000) (hGd : ∀ H', Same H H' → Gd H') (zs : List α) (hz : zs.length = n) (h : α → Option β) (R : V → β → Hp → Prop) (mono : ∀ v u G G', SameT G G' → R v u G → R v u G')
    (he : ∀ i x z H1 H2, zs[i]? = some z → Same H H1 → Y i H1 x H2 → ∀ (Q' : VK) (N : Hp → Prop), (∀ v u H3, h z = some u → Same H1 H3 → R v u H3 → Q' v H3) → (h z = none → ∀ H3, Same H1 H3 → N H3) →
      g x (wipe σ vs) H2 fun σ2 H3 => wipe σ2 vs = wipe σ vs ∧ tt σ2 H3 fun b H4 => if b = true then te σ2 H4 Q' else N H4)
    (k : ∀ D ys H', H D = none → Same H H' → H' D = some (.lst ys) → ys.length = (zs.filterMap h).length → (∀ (i : Nat) (v : V) (u : β), ys[i]? = some v → (zs.filterMap h)[i]? = some u → R v u H') → Q (.ref D) H') : CmpAt g tt te vs σ Q J H := fun D hD => by
  refine lc_it w (fun i G => ∃ acc, G D = some (.lst acc) ∧ Same H G ∧ acc.length = ((zs.take i).filterMap h).length ∧ ∀ (m : Nat) (v : V) (u : β), acc[m]? = some v → ((zs.take i).filterMap h)[m]? = some u → R v u G) ⟨[], upd_same, w_new hD, rfl, fun m v u a => by simp at a⟩ (fun i G _ ⟨_, _, e, _⟩ => hGd G e) ?_ ?_
  · rintro i x G G' hi ⟨acc, h1, e, hl, hp⟩ hy
    have hzi : zs[i]? = some zs[i] := List.getElem?_eq_getElem (by omega)
    have tk : (zs.take (i + 1)).filterMap h = (zs.take i).filterMap h ++ [zs[i]].filterMap h := by rw [List.take_succ, hzi, List.filterMap_append]; rfl
    have len : acc.length ≤ i := by
      rw [hl]
      refine Nat.le_trans (List.length_filterMap_le _ _) ?_
      rw [List.length_take]
      omega
    refine he i x zs[i] G G' hzi e hy (fun y H4 => ∃ acc, H4 D = some (.lst acc) ∧ acc.length < sizeLine ∧ ∃ acc', upd H4 D (.lst (acc ++ [y])) D = some (.lst acc') ∧ Same H (upd H4 D (.lst (acc ++ [y]))) ∧ acc'.length = ((zs.take (i + 1)).filterMap h).length ∧ ∀ (m : Nat) (v : V) (u : β), acc'[m]? = some v → ((zs.take (i + 1)).filterMap h)[m]? = some u → R v u (upd H4 D (.lst (acc ++ [y]))))
      (fun H4 => ∃ acc, H4 D = some (.lst acc) ∧ Same H H4 ∧ acc.length = ((zs.take (i + 1)).filterMap h).length ∧ ∀ (m : Nat) (v : V) (u : β), acc[m]? = some v → ((zs.take (i + 1)).filterMap h)[m]? = some u → R v u H4) (fun v u H4 hu e4 r => ?_) (fun hu H4 e4 => ?_)
    · have h3 := e4 _ _ h1
      have tk2 : (zs.take (i + 1)).filterMap h = (zs.take i).filterMap h ++ [u] := by rw [tk, List.filterMap_cons, hu]; rfl
      refine ⟨acc, h3, Nat.lt_of_lt_of_le (show acc.length < 1001 by omega) (by decide), _, upd_same, RK.Same.updL (e.trans e4) hD, by rw [tk2, List.length_append, List.length_append, hl]; rfl, ?_⟩
      rw [tk2]
      exact snoc_get2 hl (R := fun v' u => R v' u (upd H4 D (.lst (acc ++ [v])))) (fun m v' u' a b => mono _ _ H4 _ (SameT.upd h3) (mono _ _ G H4 (.of e4) (hp m v' u' a b))) (mono _ _ H4 _ (SameT.upd h3) r)
    · have tk2 : (zs.take (i + 1)).filterMap h = (zs.take i).filterMap h := by rw [tk, List.filterMap_cons, hu]; exact List.append_nil _
      refine ⟨acc, e4 _ _ h1, e.trans e4, by rw [tk2]; exact hl, fun m v u a b => ?_⟩
      rw [tk2] at b
      exact mono _ _ G H4 (.of e4) (hp m v u a b)
  · rintro G ⟨acc, h1, e, hl, hp⟩
    rw [← hz, List.take_length] at hl hp
    exact k D acc G hD e h1 hl hp
/-- a dict by a comprehension -/
def DcAt (o0 : HO) (g : TG) (tt : TT) (tk tv : TE) (vs : List Nat) (σ : L2.St) (Q : VK) (J : It) (H1 : Hp) : Prop := ∀ D, H1 D = none → ∃ W : Nat → Nat → Hp → Prop, (∃ m, W 0 m (upd H1 D o0)) ∧ ∀ i m G, W i m G →
  (J.stop i G ∧ Q (.ref D) G) ∨ (J.go i G ∧ ∃ Nx : Hp → Prop, (∀ G', Nx G' → ∃ m', m' < m ∧ W (i + 1) m' G') ∧ ∀ x G', J.yld i G x G' → g x (wipe σ vs) G' fun σ2 H2 => wipe σ2 vs = wipe σ vs ∧ tt σ2 H2 fun b H3 =>
    if b = true then tk σ2 H3 fun y H4 => tv σ2 H4 fun z H5 => ∃ H6, DPut H5 D y z H6 ∧ Nx H6 else Nx H3)
theorem w_dc {o0 : HO} {wi : TI} {tt : TT} {tk tv : TE} (h : wi σ H fun J H1 => DcAt o0 g tt tk tv vs σ Q J H1) : tDcP o0 wi g tt tk tv vs σ H Q := h
theorem dc_leaf {o0 : HO} {tk tv : TE} (w : Walk J n Gd Y) (Pv : Addr → Nat → Hp → Prop) (h0 : ∀ D, H D = none → Pv D 0 (upd H D o0)) (hG : ∀ D i G, i ≤ n → Pv D i G → Gd G)
    (hs : ∀ D i x G G', i < n → Pv D i G → Y i G x G' → g x (wipe σ vs) G' fun σ2 H2 => wipe σ2 vs = wipe σ vs ∧ tk σ2 H2 fun y H4 => tv σ2 H4 fun z H5 => ∃ H6, DPut H5 D y z H6 ∧ Pv D (i + 1) H6) (hd : ∀ D G, H D = none → Pv D n G → Q (.ref D) G) :
    DcAt o0 g tYes tk tv vs σ Q J H := fun D hD => by
  refine ⟨fun i m G => m = n - i ∧ i ≤ n ∧ Pv D i G, ⟨n, by simp, Nat.zero_le _, h0 D hD⟩, ?_⟩
  rintro i m G ⟨rfl, hi, p⟩
  have q := hG D i G hi p
  by_cases lt : i < n
  · exact .inr ⟨w.goes i G lt q, Pv D (i + 1), fun G' p' => ⟨n - (i + 1), by omega, rfl, lt, p'⟩, fun x G' y => hs D i x G G' lt p (w.yields i G x G' lt q y)⟩
  · obtain rfl : i = n := by omega
    exact .inl ⟨w.stops G q, hd D G hD p⟩
/-- three, taken apart -/
theorem g_three {i j l : Nat} {q : Addr} {x y z : V} {Q : L2.St → Hp → Prop} (h : SqT K H q [x, y, z]) (k : Q (((σ.set i (some x)).set j (some y)).set l (some z)) H) : gTup K 3 (gCons (gName i) (gCons (gName j) (gCons (gName l) gNil))) (.ref q) σ H Q :=
  ⟨q, _, rfl, h, rfl, x, [y, z], rfl, y, [z], rfl, z, [], rfl, rfl, k⟩
theorem g_twoT {i j : Nat} {q : Addr} {x y : V} {Q : L2.St → Hp → Prop} (h : SqT K H q [x, y]) (k : Q ((σ.set i (some x)).set j (some y)) H) : gTup K 2 (gCons (gName i) (gCons (gName j) gNil)) (.ref q) σ H Q :=
  ⟨q, _, rfl, h, rfl, x, [y], rfl, y, [], rfl, rfl, k⟩
end
/-! ### all but one object stand -/
def But (D : Addr) (H H' : Hp) : Prop := ∀ c o, c ≠ D → H c = some o → H' c = some o
theorem But.refl (D : Addr) (H : Hp) : But D H H := fun _ _ _ h => h
theorem But.of {D : Addr} {H H' : Hp} (e : Same H H') : But D H H' := fun c o _ h => e c o h
theorem But.trans {D : Addr} {H H1 H2 : Hp} (a : But D H H1) (b : But D H1 H2) : But D H H2 := fun c o n h => b c o n (a c o n h)
theorem But.upd {D : Addr} {H H' : Hp} {o : HO} (a : But D H H') : But D H (upd H' D o) := fun c u n h => by rw [upd_ne n]; exact a c u n h
theorem But.same {D : Addr} {H H' : Hp} (a : But D H H') (h : H D = none) : Same H H' := fun c o q => a c o (ne_of_none q h) q
theorem But.sqt {K : PySem.W.Frag} {H H' : Hp} {D p : Addr} {xs : List V} {u : HO} (e : But D H H') (hD : H D = some u) (hu : ∀ ys, u ≠ .tup ys) (hf : ∀ o v, u ≠ .frz o v) (h : SqT K H p xs) : SqT K H' p xs := by
  rcases h with (h | ⟨o, h⟩) | h
  · exact .inl (.inl (e _ _ (fun z => by rw [z, hD] at h; cases h; exact hu _ rfl) h))
  · exact .inl (.inr ⟨o, e _ _ (fun z => by rw [z, hD] at h; cases h; exact hf _ _ rfl) h⟩)
  · exact .inr h
/-! ### a tuple of rows -/
/-- at t a tuple of tuples, whose values are L's -/
def Rws (K : PySem.W.Frag) (H : Hp) (t : Addr) (L : List (List V)) : Prop := ∃ as : List Addr, SqT K H t (as.map V.ref) ∧ as.length = L.length ∧ ∀ (i : Nat) (q : Addr) (u : List V), as[i]? = some q → L[i]? = some u → SqT K H q u
theorem Rws.sameT {K : PySem.W.Frag} {H H' : Hp} {t : Addr} {L : List (List V)} (r : Rws K H t L) (e : SameT H H') : Rws K H' t L := let ⟨as, h1, h2, h3⟩ := r; ⟨as, e.sqt h1, h2, fun i q u a b => e.sqt (h3 i q u a b)⟩
theorem Rws.same {K : PySem.W.Frag} {H H' : Hp} {t : Addr} {L : List (List V)} (r : Rws K H t L) (e : Same H H') : Rws K H' t L := r.sameT (.of e)
theorem Rws.kp {K : PySem.W.Frag} {H H' : Hp} {b t : Addr} {L : List (List V)} (r : Rws K H t L) (e : Kp b H H') : Rws K H' t L := r.sameT e.sameT
theorem rows_at {K : PySem.W.Frag} {H : Hp} {as : List Addr} {L : List (List V)} (hl : as.length = L.length) (h : ∀ (i : Nat) (q : Addr) (u : List V), as[i]? = some q → L[i]? = some u → SqT K H q u) {i : Nat} {x : V} (e : (as.map V.ref)[i]? = some x) : ∃ q u, x = .ref q ∧ L[i]? = some u ∧ SqT K H q u := by
  rw [List.getElem?_map] at e
  cases a : as[i]? with
  | none => rw [a] at e; cases e
  | some q =>
    rw [a] at e
    cases e
    have hi : i < L.length := by rw [← hl]; exact (List.getElem?_eq_some_iff.mp a).1
    exact ⟨q, L[i], rfl, List.getElem?_eq_getElem hi, h i q _ a (List.getElem?_eq_getElem hi)⟩
section
variable {K : PySem.W.Frag} {σ : L2.St} {H : Hp} {Q : VK} {ta tb tc : TE} {r r' : R2}
def GetL (a : Addr) (y : V) (H : Hp) (Q : VK) : Prop := ∃ o, DGet H a y o ∧ Q (o.getD .non) H
theorem w_dget1 {td ty : TE} (h : td σ H fun x H1 => ∃ a, x = .ref a ∧ IsD H1 a ∧ ty σ H1 fun y H2 => GetL a y H2 Q) : tDGet1 td ty σ H Q := h
theorem w_dget {td ty : TE} (h : td σ H fun x H1 => ty σ H1 fun y H2 => ∃ a v, x = .ref a ∧ DGet H2 a y (some v) ∧ Q v H2) : tDGet td ty σ H Q := h
theorem w_chain (h : ta σ H fun x H1 => tb σ H1 fun y H2 => r x y H2 fun z H3 => ∃ k, z = .bl k ∧ if k = true then tc σ H3 fun w' H4 => r' y w' H4 Q else Q (.bl false) H3) : tChain r r' ta tb tc σ H Q := h
theorem w_lenS {s : Str} (hs : s.cps.size ≤ 1000) (q : Q (.int (s.cps.size : Nat)) H) : rLen K [.str s] H Q := ⟨.str s, _, rfl, ⟨Nat.le_trans hs (by decide), rfl⟩, q⟩
/-- x is in a list of texts -/
theorem inV_strs (s : Str) (xs : List Str) : inV (.str s) (xs.map V.str) = decide (s ∈ xs) := by
  unfold inV
  rw [List.any_map, Bool.eq_iff_iff, List.any_eq_true, decide_eq_true_eq]
  refine ⟨fun ⟨y, hy, e⟩ => ?_, fun h => ⟨s, h, ?_⟩⟩
  · have e : (y == s) = true := e
    rw [← eq_of_beq e]
    exact hy
  · show (s == s) = true
    exact beq_self_eq_true s
theorem flat_strs (xs : List Str) : (xs.map V.str).all flatV = true := by
  rw [List.all_map, List.all_eq_true]
  intro x _
  rfl
theorem in_leaf {p : Addr} {s : Str} {xs : List Str} (h : SqL K H p (xs.map V.str) ∨ SqT K H p (xs.map V.str)) (q : Q (.bl (decide (s ∈ xs))) H) : rIn K false (.str s) (.ref p) H Q := ⟨p, _, rfl, h, rfl, flat_strs xs, by
  rw [inV_strs]
  exact q⟩
end
/-! ### letters and words -/
/-- one sign between two -/
def Sgn (lo hi : Nat) (s : Str) (c : Nat) : Prop := s = ⟨#[c]⟩ ∧ lo ≤ c ∧ c ≤ hi
theorem lt1 (x y : Nat) : decide (([x] : List Nat) < [y]) = decide (x < y) := by rw [StrLaws.lt_cons_cons, StrLaws.lt_nil_nil, Bool.and_false, Bool.or_false]
theorem cutS1 (s : Str) : (cutS s (some 1) none).cps.toList = s.cps.toList.drop 1 := by
  have hl : s.length = s.cps.toList.length := (Array.length_toList).symm
  show (((s.cps.toList.drop (HT.sIx s.length 0 (some 1))).take (HT.sIx s.length s.length none - HT.sIx s.length 0 (some 1))).toArray).toList = _
  rw [hl, show (some (1 : Int)) = some ((1 : Nat) : Int) from rfl, HT.sIx_nat, HT.sIx_none]
  generalize s.cps.toList = l
  cases l with
  | nil => rfl
  | cons x r =>
    rw [show min 1 (x :: r).length = 1 from by rw [List.length_cons]; omega]
    simp
theorem cutS1_at (s : Str) (i : Nat) : (cutS s (some 1) none).cps[i]? = s.cps[i + 1]? := by
  rw [← Array.getElem?_toList, cutS1, List.getElem?_drop, ← Array.getElem?_toList, Nat.add_comm]
/-- two to eight small letters -/
def Word (s : Str) : Prop := 2 ≤ s.cps.size ∧ s.cps.size ≤ 8 ∧ ∀ c ∈ s.cps.toList, 97 ≤ c ∧ c ≤ 122
end RK

namespace RK8
open PySem PySem.Spec L2 RK RZ StX
def top (i : Nat) : Stmt := PySem.Challenge.pw_slackstrings_k08_whole_heights_are_least.main.body.getD i (.Pass ⟨0, 0, 0, 0⟩)
abbrev s_is_whole : Stmt := top 15
theorem sc_is_whole : FnScope ["value"] ["value"] (defScope s_is_whole) := ⟨rfl, rfl, rfl, by decide +kernel, rfl, by decide +kernel, by decide +kernel⟩
abbrev s_is_number : Stmt := top 16
theorem sc_is_number : FnScope ["value"] ["value"] (defScope s_is_number) := ⟨rfl, rfl, rfl, by decide +kernel, rfl, by decide +kernel, by decide +kernel⟩
abbrev s_is_small_letter : Stmt := top 17
theorem sc_is_small_letter : FnScope ["value"] ["value"] (defScope s_is_small_letter) := ⟨rfl, rfl, rfl, by decide +kernel, rfl, by decide +kernel, by decide +kernel⟩
abbrev s_is_capital : Stmt := top 18
theorem sc_is_capital : FnScope ["value"] ["value"] (defScope s_is_capital) := ⟨rfl, rfl, rfl, by decide +kernel, rfl, by decide +kernel, by decide +kernel⟩
abbrev s_is_word : Stmt := top 19
theorem sc_is_word : FnScope ["value", "sign"] ["value"] (defScope s_is_word) := ⟨rfl, rfl, rfl, by decide +kernel, rfl, by decide +kernel, by decide +kernel⟩
abbrev s_is_row : Stmt := top 20
theorem sc_is_row : FnScope ["value", "least", "most"] ["value", "least", "most"] (defScope s_is_row) := ⟨rfl, rfl, rfl, by decide +kernel, rfl, by decide +kernel, by decide +kernel⟩
abbrev s_is_rising : Stmt := top 21
theorem sc_is_rising : FnScope ["signs", "one", "other"] ["signs"] (defScope s_is_rising) := ⟨rfl, rfl, rfl, by decide +kernel, rfl, by decide +kernel, by decide +kernel⟩
abbrev s_are_capitals : Stmt := top 22
theorem sc_are_capitals : FnScope ["value", "most", "sign"] ["value", "most"] (defScope s_are_capitals) := ⟨rfl, rfl, rfl, by decide +kernel, rfl, by decide +kernel, by decide +kernel⟩
abbrev s_is_one_of : Stmt := top 23
theorem sc_is_one_of : FnScope ["value", "strings"] ["value", "strings"] (defScope s_is_one_of) := ⟨rfl, rfl, rfl, by decide +kernel, rfl, by decide +kernel, by decide +kernel⟩
abbrev s_has_just : Stmt := top 24
theorem sc_has_just : FnScope ["value", "names", "name"] ["value", "names"] (defScope s_has_just) := ⟨rfl, rfl, rfl, by decide +kernel, rfl, by decide +kernel, by decide +kernel⟩
abbrev s_Ratio_init : Stmt := inClass (top 26) 0
theorem sc_Ratio_init : FnScope ["self", "top", "bottom", "shared"] ["self", "top", "bottom"] (defScope s_Ratio_init) := ⟨rfl, rfl, rfl, by decide +kernel, rfl, by decide +kernel, by decide +kernel⟩
abbrev s_Ratio_eq : Stmt := inClass (top 26) 1
theorem sc_Ratio_eq : FnScope ["self", "other", "beside"] ["self", "other"] (defScope s_Ratio_eq) := ⟨rfl, rfl, rfl, by decide +kernel, rfl, by decide +kernel, by decide +kernel⟩
abbrev s_Ratio_neg : Stmt := inClass (top 26) 3
theorem sc_Ratio_neg : FnScope ["self"] ["self"] (defScope s_Ratio_neg) := ⟨rfl, rfl, rfl, by decide +kernel, rfl, by decide +kernel, by decide +kernel⟩
abbrev s_Ratio_add : Stmt := inClass (top 26) 4
theorem sc_Ratio_add : FnScope ["self", "other", "beside"] ["self", "other"] (defScope s_Ratio_add) := ⟨rfl, rfl, rfl, by decide +kernel, rfl, by decide +kernel, by decide +kernel⟩
abbrev s_Ratio_radd : Stmt := inClass (top 26) 5
theorem sc_Ratio_radd : FnScope ["self", "other"] ["self", "other"] (defScope s_Ratio_radd) := ⟨rfl, rfl, rfl, by decide +kernel, rfl, by decide +kernel, by decide +kernel⟩
abbrev s_Ratio_sub : Stmt := inClass (top 26) 6
theorem sc_Ratio_sub : FnScope ["self", "other"] ["self", "other"] (defScope s_Ratio_sub) := ⟨rfl, rfl, rfl, by decide +kernel, rfl, by decide +kernel, by decide +kernel⟩
abbrev s_Ratio_rsub : Stmt := inClass (top 26) 7
theorem sc_Ratio_rsub : FnScope ["self", "other"] ["self", "other"] (defScope s_Ratio_rsub) := ⟨rfl, rfl, rfl, by decide +kernel, rfl, by decide +kernel, by decide +kernel⟩
abbrev s_Ratio_mul : Stmt := inClass (top 26) 8
theorem sc_Ratio_mul : FnScope ["self", "other", "beside"] ["self", "other"] (defScope s_Ratio_mul) := ⟨rfl, rfl, rfl, by decide +kernel, rfl, by decide +kernel, by decide +kernel⟩
abbrev s_Ratio_rmul : Stmt := inClass (top 26) 9
theorem sc_Ratio_rmul : FnScope ["self", "other"] ["self", "other"] (defScope s_Ratio_rmul) := ⟨rfl, rfl, rfl, by decide +kernel, rfl, by decide +kernel, by decide +kernel⟩
abbrev s_Ratio_compared : Stmt := inClass (top 26) 10
theorem sc_Ratio_compared : FnScope ["self", "other", "beside", "here", "there"] ["self", "other"] (defScope s_Ratio_compared) := ⟨rfl, rfl, rfl, by decide +kernel, rfl, by decide +kernel, by decide +kernel⟩
abbrev s_is_fraction : Stmt := top 27
theorem sc_is_fraction : FnScope ["value"] ["value"] (defScope s_is_fraction) := ⟨rfl, rfl, rfl, by decide +kernel, rfl, by decide +kernel, by decide +kernel⟩
abbrev s_as_ratio : Stmt := top 28
theorem sc_as_ratio : FnScope ["fraction"] ["fraction"] (defScope s_as_ratio) := ⟨rfl, rfl, rfl, by decide +kernel, rfl, by decide +kernel, by decide +kernel⟩
abbrev s_is_length : Stmt := top 32
theorem sc_is_length : FnScope ["value"] ["value"] (defScope s_is_length) := ⟨rfl, rfl, rfl, by decide +kernel, rfl, by decide +kernel, by decide +kernel⟩
abbrev s_are_lengths : Stmt := top 33
theorem sc_are_lengths : FnScope ["value", "names", "name"] ["value", "names"] (defScope s_are_lengths) := ⟨rfl, rfl, rfl, by decide +kernel, rfl, by decide +kernel, by decide +kernel⟩
abbrev s_are_heights : Stmt := top 34
theorem sc_are_heights : FnScope ["value", "hooks", "hook"] ["value", "hooks"] (defScope s_are_heights) := ⟨rfl, rfl, rfl, by decide +kernel, rfl, by decide +kernel, by decide +kernel⟩
abbrev s_greatest_of : Stmt := top 35
theorem sc_greatest_of : FnScope ["ratios", "found", "ratio"] ["ratios"] (defScope s_greatest_of) := ⟨rfl, rfl, rfl, by decide +kernel, rfl, by decide +kernel, by decide +kernel⟩
abbrev s_Puppet_init : Stmt := inClass (top 42) 0
theorem sc_Puppet_init : FnScope ["self", "parts", "ties", "hooks", "strings", "name", "_"] ["self", "parts", "ties", "hooks", "strings"] (defScope s_Puppet_init) := ⟨rfl, rfl, rfl, by decide +kernel, rfl, by decide +kernel, by decide +kernel⟩
abbrev s_check_parts : Stmt := top 43
theorem sc_check_parts : FnScope ["parts", "index", "part"] ["parts"] (defScope s_check_parts) := ⟨rfl, rfl, rfl, by decide +kernel, rfl, by decide +kernel, by decide +kernel⟩
abbrev s_check_ties : Stmt := top 44
theorem sc_check_ties : FnScope ["ties", "parts", "index", "tie"] ["ties", "parts"] (defScope s_check_ties) := ⟨rfl, rfl, rfl, by decide +kernel, rfl, by decide +kernel, by decide +kernel⟩
abbrev s_is_tie : Stmt := top 45
theorem sc_is_tie : FnScope ["value", "parts"] ["value", "parts"] (defScope s_is_tie) := ⟨rfl, rfl, rfl, by decide +kernel, rfl, by decide +kernel, by decide +kernel⟩
abbrev s_is_tied : Stmt := top 46
theorem sc_is_tied : FnScope ["part", "other", "ties", "one", "two", "_"] ["part", "other", "ties"] (defScope s_is_tied) := ⟨rfl, rfl, rfl, by decide +kernel, rfl, by decide +kernel, by decide +kernel⟩
abbrev s_check_strings : Stmt := top 47
theorem sc_check_strings : FnScope ["strings", "hooks", "parts", "index", "string"] ["strings", "hooks", "parts"] (defScope s_check_strings) := ⟨rfl, rfl, rfl, by decide +kernel, rfl, by decide +kernel, by decide +kernel⟩
abbrev s_is_string : Stmt := top 48
theorem sc_is_string : FnScope ["value", "hooks", "parts"] ["value", "hooks", "parts"] (defScope s_is_string) := ⟨rfl, rfl, rfl, by decide +kernel, rfl, by decide +kernel, by decide +kernel⟩
abbrev s_distances_of : Stmt := top 49
theorem sc_distances_of : FnScope ["parts", "ties", "found", "part", "other", "reach", "middle"] ["parts", "ties"] (defScope s_distances_of) := ⟨rfl, rfl, rfl, by decide +kernel, rfl, by decide +kernel, by decide +kernel⟩
abbrev s_shorten : Stmt := top 50
theorem sc_shorten : FnScope ["distances", "part", "middle", "other", "first", "second", "known"] ["distances", "part", "middle", "other"] (defScope s_shorten) := ⟨rfl, rfl, rfl, by decide +kernel, rfl, by decide +kernel, by decide +kernel⟩
abbrev s_Puppet_pulls : Stmt := inClass (top 42) 8
theorem sc_Puppet_pulls : FnScope ["self", "part", "ways", "name", "hook", "end", "way"] ["self", "part"] (defScope s_Puppet_pulls) := ⟨rfl, rfl, rfl, by decide +kernel, rfl, by decide +kernel, by decide +kernel⟩
abbrev s_Puppet_heights : Stmt := inClass (top 42) 4
theorem sc_Puppet_heights : FnScope ["self", "hooks", "lengths", "part"] ["self", "hooks", "lengths"] (defScope s_Puppet_heights) := ⟨rfl, rfl, rfl, by decide +kernel, rfl, by decide +kernel, by decide +kernel⟩
abbrev s_Puppet_check_told : Stmt := inClass (top 42) 7
theorem sc_Puppet_check_told : FnScope ["self", "hooks", "lengths"] ["self", "hooks", "lengths"] (defScope s_Puppet_check_told) := ⟨rfl, rfl, rfl, by decide +kernel, rfl, by decide +kernel, by decide +kernel⟩
abbrev s_Puppet_holding : Stmt := inClass (top 42) 10
theorem sc_Puppet_holding : FnScope ["self", "part", "hooks", "lengths", "found", "name", "hook", "distance", "height"] ["self", "part", "hooks", "lengths"] (defScope s_Puppet_holding) := ⟨rfl, rfl, rfl, by decide +kernel, rfl, by decide +kernel, by decide +kernel⟩
abbrev s_bag : Stmt := top 52
theorem sc_bag : FnScope ["_law_cells", "_law_k", "_law_cell", "_law_seed", "_law_this", "_law_figures"] ["_law_cells", "_law_k"] (defScope s_bag) := ⟨rfl, rfl, rfl, by decide +kernel, rfl, by decide +kernel, by decide +kernel⟩
abbrev s_draw : Stmt := top 53
theorem sc_draw : FnScope ["_law_bag_here", "_law_wide", "_law_figure", "_law_held", "_law_times"] ["_law_bag_here", "_law_wide"] (defScope s_draw) := ⟨rfl, rfl, rfl, by decide +kernel, rfl, by decide +kernel, by decide +kernel⟩
abbrev s_one : Stmt := top 54
theorem sc_one : FnScope ["_law_bag_here", "_law_some"] ["_law_bag_here", "_law_some"] (defScope s_one) := ⟨rfl, rfl, rfl, by decide +kernel, rfl, by decide +kernel, by decide +kernel⟩
abbrev s_words : Stmt := top 55
theorem sc_words : FnScope ["_law_bag_here", "_law_many", "_law_found", "_law_turn", "_law_made", "_law_k"] ["_law_bag_here", "_law_many"] (defScope s_words) := ⟨rfl, rfl, rfl, by decide +kernel, rfl, by decide +kernel, by decide +kernel⟩
abbrev s_letters : Stmt := top 56
theorem sc_letters : FnScope ["_law_bag_here", "_law_pool", "_law_many", "_law_left", "_law_found", "_law_turn"] ["_law_bag_here", "_law_pool", "_law_many"] (defScope s_letters) := ⟨rfl, rfl, rfl, by decide +kernel, rfl, by decide +kernel, by decide +kernel⟩
abbrev s_cords : Stmt := top 57
theorem sc_cords : FnScope ["_law_bag_here", "_law_limbs", "_law_pairs", "_law_k", "_law_j", "_law_pair"] ["_law_bag_here", "_law_limbs"] (defScope s_cords) := ⟨rfl, rfl, rfl, by decide +kernel, rfl, by decide +kernel, by decide +kernel⟩
abbrev s_shape : Stmt := top 58
theorem sc_shape : FnScope ["_law_bag_here", "_law_limbs", "_law_pegs", "_law_called", "_law_lines", "_law_each"] ["_law_bag_here"] (defScope s_shape) := ⟨rfl, rfl, rfl, by decide +kernel, rfl, by decide +kernel, by decide +kernel⟩
abbrev s_longs : Stmt := top 61
theorem sc_longs : FnScope ["_law_bag_here", "_law_shape_here", "_law_found", "_law_line"] ["_law_bag_here", "_law_shape_here"] (defScope s_longs) := ⟨rfl, rfl, rfl, by decide +kernel, rfl, by decide +kernel, by decide +kernel⟩
abbrev s_passed : Stmt := top 62
theorem sc_passed : FnScope ["_law_longs_here", "_law_found", "_law_called", "_law_whole"] ["_law_longs_here"] (defScope s_passed) := ⟨rfl, rfl, rfl, by decide +kernel, rfl, by decide +kernel, by decide +kernel⟩
abbrev s_turned : Stmt := top 63
theorem sc_turned : FnScope ["_law_some", "_law_found", "_law_each"] ["_law_some"] (defScope s_turned) := ⟨rfl, rfl, rfl, by decide +kernel, rfl, by decide +kernel, by decide +kernel⟩
abbrev s_rest : Stmt := top 59
theorem sc_rest : FnScope ["_law_shape_here", "_law_pegs_at", "_law_longs_here", "_law_found", "_law_limb", "_law_called", "_law_peg", "_law_turn", "_law_one_here", "_law_two", "_law_reach"] ["_law_shape_here", "_law_pegs_at", "_law_longs_here"] (defScope s_rest) := ⟨rfl, rfl, rfl, by decide +kernel, rfl, by decide +kernel, by decide +kernel⟩
abbrev s_is_least : Stmt := top 64
theorem sc_is_least : FnScope ["_law_shape_here", "_law_pegs_at", "_law_longs_here", "_law_found", "_law_firm", "_law_turn", "_law_one_here", "_law_two", "_law_reach", "_law_limb", "_law_line"] ["_law_shape_here", "_law_pegs_at", "_law_longs_here", "_law_found"] (defScope s_is_least) := ⟨rfl, rfl, rfl, by decide +kernel, rfl, by decide +kernel, by decide +kernel⟩
abbrev s_right : Stmt := top 65
theorem sc_right : FnScope ["_law_bag_here", "_law_turn", "_law_shape_here", "_law_mine", "_law_longs_here", "_law_pegs_at", "_law_told_at", "_law_peg", "_law_due", "_law_told", "_law_again", "_law_limb"] ["_law_bag_here"] (defScope s_right) := ⟨rfl, rfl, rfl, by decide +kernel, rfl, by decide +kernel, by decide +kernel⟩
abbrev s_law : Stmt := top 66
theorem sc_law : FnScope ["_law_cells", "_law_k"] ["_law_cells"] (defScope s_law) := ⟨rfl, rfl, rfl, by decide +kernel, rfl, by decide +kernel, by decide +kernel⟩
structure Ad where
  C_Puppet : Addr
  C_Ratio : Addr
  f_is_whole : Addr
  d_is_whole : FuncData
  f_is_number : Addr
  d_is_number : FuncData
  f_is_small_letter : Addr
  d_is_small_letter : FuncData
  f_is_capital : Addr
  d_is_capital : FuncData
  f_is_word : Addr
  d_is_word : FuncData
  f_is_row : Addr
  d_is_row : FuncData
  f_is_rising : Addr
  d_is_rising : FuncData
  f_are_capitals : Addr
  d_are_capitals : FuncData
  f_is_one_of : Addr
  d_is_one_of : FuncData
  f_has_just : Addr
  d_has_just : FuncData
  f_Ratio_init : Addr
  d_Ratio_init : FuncData
  f_Ratio_eq : Addr
  d_Ratio_eq : FuncData
  f_Ratio_neg : Addr
  d_Ratio_neg : FuncData
  f_Ratio_add : Addr
  d_Ratio_add : FuncData
  f_Ratio_radd : Addr
  d_Ratio_radd : FuncData
  f_Ratio_sub : Addr
  d_Ratio_sub : FuncData
  f_Ratio_rsub : Addr
  d_Ratio_rsub : FuncData
  f_Ratio_mul : Addr
  d_Ratio_mul : FuncData
  f_Ratio_rmul : Addr
  d_Ratio_rmul : FuncData
  f_Ratio_compared : Addr
  d_Ratio_compared : FuncData
  f_is_fraction : Addr
  d_is_fraction : FuncData
  f_as_ratio : Addr
  d_as_ratio : FuncData
  f_is_length : Addr
  d_is_length : FuncData
  f_are_lengths : Addr
  d_are_lengths : FuncData
  f_are_heights : Addr
  d_are_heights : FuncData
  f_greatest_of : Addr
  d_greatest_of : FuncData
  f_Puppet_init : Addr
  d_Puppet_init : FuncData
  f_check_parts : Addr
  d_check_parts : FuncData
  f_check_ties : Addr
  d_check_ties : FuncData
  f_is_tie : Addr
  d_is_tie : FuncData
  f_is_tied : Addr
  d_is_tied : FuncData
  f_check_strings : Addr
  d_check_strings : FuncData
  f_is_string : Addr
  d_is_string : FuncData
  f_distances_of : Addr
  d_distances_of : FuncData
  f_shorten : Addr
  d_shorten : FuncData
  f_Puppet_pulls : Addr
  d_Puppet_pulls : FuncData
  f_Puppet_heights : Addr
  d_Puppet_heights : FuncData
  f_Puppet_check_told : Addr
  d_Puppet_check_told : FuncData
  f_Puppet_holding : Addr
  d_Puppet_holding : FuncData
  f_bag : Addr
  d_bag : FuncData
  f_draw : Addr
  d_draw : FuncData
  f_one : Addr
  d_one : FuncData
  f_words : Addr
  d_words : FuncData
  f_letters : Addr
  d_letters : FuncData
  f_cords : Addr
  d_cords : FuncData
  f_shape : Addr
  d_shape : FuncData
  f_longs : Addr
  d_longs : FuncData
  f_passed : Addr
  d_passed : FuncData
  f_turned : Addr
  d_turned : FuncData
  f_rest : Addr
  d_rest : FuncData
  f_is_least : Addr
  d_is_least : FuncData
  f_right : Addr
  d_right : FuncData
  f_law : Addr
  d_law : FuncData
  k_MOST_PARTS : Tok
  k_MOST_TIES : Tok
  k_MOST_HOOKS : Tok
  k_MOST_STRINGS : Tok
  k_MOST_AMOUNT : Tok

structure Txt (K : PySem.W.Frag) (mg : Str → Option Value) (a : Ad) : Prop where
  F_is_whole : Fun K "is_whole" "is_whole" s_is_whole a.f_is_whole a.d_is_whole
  b_is_whole : L2.Binds K a.d_is_whole ["value"] []
  m_is_whole : mg "is_whole" = some (.ref a.f_is_whole)
  F_is_number : Fun K "is_number" "is_number" s_is_number a.f_is_number a.d_is_number
  b_is_number : L2.Binds K a.d_is_number ["value"] []
  m_is_number : mg "is_number" = some (.ref a.f_is_number)
  F_is_small_letter : Fun K "is_small_letter" "is_small_letter" s_is_small_letter a.f_is_small_letter a.d_is_small_letter
  b_is_small_letter : L2.Binds K a.d_is_small_letter ["value"] []
  m_is_small_letter : mg "is_small_letter" = some (.ref a.f_is_small_letter)
  F_is_capital : Fun K "is_capital" "is_capital" s_is_capital a.f_is_capital a.d_is_capital
  b_is_capital : L2.Binds K a.d_is_capital ["value"] []
  m_is_capital : mg "is_capital" = some (.ref a.f_is_capital)
  F_is_word : Fun K "is_word" "is_word" s_is_word a.f_is_word a.d_is_word
  b_is_word : L2.Binds K a.d_is_word ["value"] []
  m_is_word : mg "is_word" = some (.ref a.f_is_word)
  F_is_row : Fun K "is_row" "is_row" s_is_row a.f_is_row a.d_is_row
  b_is_row : L2.Binds K a.d_is_row ["value", "least", "most"] []
  m_is_row : mg "is_row" = some (.ref a.f_is_row)
  F_is_rising : Fun K "is_rising" "is_rising" s_is_rising a.f_is_rising a.d_is_rising
  b_is_rising : L2.Binds K a.d_is_rising ["signs"] []
  m_is_rising : mg "is_rising" = some (.ref a.f_is_rising)
  F_are_capitals : Fun K "are_capitals" "are_capitals" s_are_capitals a.f_are_capitals a.d_are_capitals
  b_are_capitals : L2.Binds K a.d_are_capitals ["value", "most"] []
  m_are_capitals : mg "are_capitals" = some (.ref a.f_are_capitals)
  F_is_one_of : Fun K "is_one_of" "is_one_of" s_is_one_of a.f_is_one_of a.d_is_one_of
  b_is_one_of : L2.Binds K a.d_is_one_of ["value", "strings"] []
  m_is_one_of : mg "is_one_of" = some (.ref a.f_is_one_of)
  F_has_just : Fun K "has_just" "has_just" s_has_just a.f_has_just a.d_has_just
  b_has_just : L2.Binds K a.d_has_just ["value", "names"] []
  m_has_just : mg "has_just" = some (.ref a.f_has_just)
  F_Ratio_init : FunD K "__init__" "Ratio.__init__" (defArgs s_Ratio_init) (defBody s_Ratio_init) (defScope s_Ratio_init) [.int 1] [] a.f_Ratio_init a.d_Ratio_init
  me_Ratio_init : Meth K a.C_Ratio "__init__" a.f_Ratio_init
  F_Ratio_eq : Fun K "__eq__" "Ratio.__eq__" s_Ratio_eq a.f_Ratio_eq a.d_Ratio_eq
  b_Ratio_eq : L2.Binds K a.d_Ratio_eq ["self", "other"] []
  me_Ratio_eq : Meth K a.C_Ratio "__eq__" a.f_Ratio_eq
  F_Ratio_neg : Fun K "__neg__" "Ratio.__neg__" s_Ratio_neg a.f_Ratio_neg a.d_Ratio_neg
  b_Ratio_neg : L2.Binds K a.d_Ratio_neg ["self"] []
  me_Ratio_neg : Meth K a.C_Ratio "__neg__" a.f_Ratio_neg
  F_Ratio_add : Fun K "__add__" "Ratio.__add__" s_Ratio_add a.f_Ratio_add a.d_Ratio_add
  b_Ratio_add : L2.Binds K a.d_Ratio_add ["self", "other"] []
  me_Ratio_add : Meth K a.C_Ratio "__add__" a.f_Ratio_add
  F_Ratio_radd : Fun K "__radd__" "Ratio.__radd__" s_Ratio_radd a.f_Ratio_radd a.d_Ratio_radd
  b_Ratio_radd : L2.Binds K a.d_Ratio_radd ["self", "other"] []
  me_Ratio_radd : Meth K a.C_Ratio "__radd__" a.f_Ratio_radd
  F_Ratio_sub : Fun K "__sub__" "Ratio.__sub__" s_Ratio_sub a.f_Ratio_sub a.d_Ratio_sub
  b_Ratio_sub : L2.Binds K a.d_Ratio_sub ["self", "other"] []
  me_Ratio_sub : Meth K a.C_Ratio "__sub__" a.f_Ratio_sub
  F_Ratio_rsub : Fun K "__rsub__" "Ratio.__rsub__" s_Ratio_rsub a.f_Ratio_rsub a.d_Ratio_rsub
  b_Ratio_rsub : L2.Binds K a.d_Ratio_rsub ["self", "other"] []
  me_Ratio_rsub : Meth K a.C_Ratio "__rsub__" a.f_Ratio_rsub
  F_Ratio_mul : Fun K "__mul__" "Ratio.__mul__" s_Ratio_mul a.f_Ratio_mul a.d_Ratio_mul
  b_Ratio_mul : L2.Binds K a.d_Ratio_mul ["self", "other"] []
  me_Ratio_mul : Meth K a.C_Ratio "__mul__" a.f_Ratio_mul
  F_Ratio_rmul : Fun K "__rmul__" "Ratio.__rmul__" s_Ratio_rmul a.f_Ratio_rmul a.d_Ratio_rmul
  b_Ratio_rmul : L2.Binds K a.d_Ratio_rmul ["self", "other"] []
  me_Ratio_rmul : Meth K a.C_Ratio "__rmul__" a.f_Ratio_rmul
  F_Ratio_compared : Fun K "compared" "Ratio.compared" s_Ratio_compared a.f_Ratio_compared a.d_Ratio_compared
  b_Ratio_compared : L2.Binds K a.d_Ratio_compared ["self", "other"] []
  me_Ratio_compared : Meth K a.C_Ratio "compared" a.f_Ratio_compared
  F_is_fraction : Fun K "is_fraction" "is_fraction" s_is_fraction a.f_is_fraction a.d_is_fraction
  b_is_fraction : L2.Binds K a.d_is_fraction ["value"] []
  m_is_fraction : mg "is_fraction" = some (.ref a.f_is_fraction)
  F_as_ratio : Fun K "as_ratio" "as_ratio" s_as_ratio a.f_as_ratio a.d_as_ratio
  b_as_ratio : L2.Binds K a.d_as_ratio ["fraction"] []
  m_as_ratio : mg "as_ratio" = some (.ref a.f_as_ratio)
  F_is_length : Fun K "is_length" "is_length" s_is_length a.f_is_length a.d_is_length
  b_is_length : L2.Binds K a.d_is_length ["value"] []
  m_is_length : mg "is_length" = some (.ref a.f_is_length)
  F_are_lengths : Fun K "are_lengths" "are_lengths" s_are_lengths a.f_are_lengths a.d_are_lengths
  b_are_lengths : L2.Binds K a.d_are_lengths ["value", "names"] []
  m_are_lengths : mg "are_lengths" = some (.ref a.f_are_lengths)
  F_are_heights : Fun K "are_heights" "are_heights" s_are_heights a.f_are_heights a.d_are_heights
  b_are_heights : L2.Binds K a.d_are_heights ["value", "hooks"] []
  m_are_heights : mg "are_heights" = some (.ref a.f_are_heights)
  F_greatest_of : Fun K "greatest_of" "greatest_of" s_greatest_of a.f_greatest_of a.d_greatest_of
  b_greatest_of : L2.Binds K a.d_greatest_of ["ratios"] []
  m_greatest_of : mg "greatest_of" = some (.ref a.f_greatest_of)
  F_Puppet_init : Fun K "__init__" "Puppet.__init__" s_Puppet_init a.f_Puppet_init a.d_Puppet_init
  b_Puppet_init : L2.Binds K a.d_Puppet_init ["self", "parts", "ties", "hooks", "strings"] []
  me_Puppet_init : Meth K a.C_Puppet "__init__" a.f_Puppet_init
  F_check_parts : Fun K "check_parts" "check_parts" s_check_parts a.f_check_parts a.d_check_parts
  b_check_parts : L2.Binds K a.d_check_parts ["parts"] []
  m_check_parts : mg "check_parts" = some (.ref a.f_check_parts)
  F_check_ties : Fun K "check_ties" "check_ties" s_check_ties a.f_check_ties a.d_check_ties
  b_check_ties : L2.Binds K a.d_check_ties ["ties", "parts"] []
  m_check_ties : mg "check_ties" = some (.ref a.f_check_ties)
  F_is_tie : Fun K "is_tie" "is_tie" s_is_tie a.f_is_tie a.d_is_tie
  b_is_tie : L2.Binds K a.d_is_tie ["value", "parts"] []
  m_is_tie : mg "is_tie" = some (.ref a.f_is_tie)
  F_is_tied : Fun K "is_tied" "is_tied" s_is_tied a.f_is_tied a.d_is_tied
  b_is_tied : L2.Binds K a.d_is_tied ["part", "other", "ties"] []
  m_is_tied : mg "is_tied" = some (.ref a.f_is_tied)
  F_check_strings : Fun K "check_strings" "check_strings" s_check_strings a.f_check_strings a.d_check_strings
  b_check_strings : L2.Binds K a.d_check_strings ["strings", "hooks", "parts"] []
  m_check_strings : mg "check_strings" = some (.ref a.f_check_strings)
  F_is_string : Fun K "is_string" "is_string" s_is_string a.f_is_string a.d_is_string
  b_is_string : L2.Binds K a.d_is_string ["value", "hooks", "parts"] []
  m_is_string : mg "is_string" = some (.ref a.f_is_string)
  F_distances_of : Fun K "distances_of" "distances_of" s_distances_of a.f_distances_of a.d_distances_of
  b_distances_of : L2.Binds K a.d_distances_of ["parts", "ties"] []
  m_distances_of : mg "distances_of" = some (.ref a.f_distances_of)
  F_shorten : Fun K "shorten" "shorten" s_shorten a.f_shorten a.d_shorten
  b_shorten : L2.Binds K a.d_shorten ["distances", "part", "middle", "other"] []
  m_shorten : mg "shorten" = some (.ref a.f_shorten)
  F_Puppet_pulls : Fun K "pulls" "Puppet.pulls" s_Puppet_pulls a.f_Puppet_pulls a.d_Puppet_pulls
  b_Puppet_pulls : L2.Binds K a.d_Puppet_pulls ["self", "part"] []
  me_Puppet_pulls : Meth K a.C_Puppet "pulls" a.f_Puppet_pulls
  F_Puppet_heights : Fun K "heights" "Puppet.heights" s_Puppet_heights a.f_Puppet_heights a.d_Puppet_heights
  b_Puppet_heights : L2.Binds K a.d_Puppet_heights ["self", "hooks", "lengths"] []
  me_Puppet_heights : Meth K a.C_Puppet "heights" a.f_Puppet_heights
  F_Puppet_check_told : Fun K "check_told" "Puppet.check_told" s_Puppet_check_told a.f_Puppet_check_told a.d_Puppet_check_told
  b_Puppet_check_told : L2.Binds K a.d_Puppet_check_told ["self", "hooks", "lengths"] []
  me_Puppet_check_told : Meth K a.C_Puppet "check_told" a.f_Puppet_check_told
  F_Puppet_holding : Fun K "holding" "Puppet.holding" s_Puppet_holding a.f_Puppet_holding a.d_Puppet_holding
  b_Puppet_holding : L2.Binds K a.d_Puppet_holding ["self", "part", "hooks", "lengths"] []
  me_Puppet_holding : Meth K a.C_Puppet "holding" a.f_Puppet_holding
  F_bag : Fun K "_law_bag" "_law_bag" s_bag a.f_bag a.d_bag
  b_bag : L2.Binds K a.d_bag ["_law_cells", "_law_k"] []
  m_bag : mg "_law_bag" = some (.ref a.f_bag)
  F_draw : Fun K "_law_draw" "_law_draw" s_draw a.f_draw a.d_draw
  b_draw : L2.Binds K a.d_draw ["_law_bag_here", "_law_wide"] []
  m_draw : mg "_law_draw" = some (.ref a.f_draw)
  F_one : Fun K "_law_one" "_law_one" s_one a.f_one a.d_one
  b_one : L2.Binds K a.d_one ["_law_bag_here", "_law_some"] []
  m_one : mg "_law_one" = some (.ref a.f_one)
  F_words : Fun K "_law_words" "_law_words" s_words a.f_words a.d_words
  b_words : L2.Binds K a.d_words ["_law_bag_here", "_law_many"] []
  m_words : mg "_law_words" = some (.ref a.f_words)
  F_letters : Fun K "_law_letters" "_law_letters" s_letters a.f_letters a.d_letters
  b_letters : L2.Binds K a.d_letters ["_law_bag_here", "_law_pool", "_law_many"] []
  m_letters : mg "_law_letters" = some (.ref a.f_letters)
  F_cords : Fun K "_law_cords" "_law_cords" s_cords a.f_cords a.d_cords
  b_cords : L2.Binds K a.d_cords ["_law_bag_here", "_law_limbs"] []
  m_cords : mg "_law_cords" = some (.ref a.f_cords)
  F_shape : Fun K "_law_shape" "_law_shape" s_shape a.f_shape a.d_shape
  b_shape : L2.Binds K a.d_shape ["_law_bag_here"] []
  m_shape : mg "_law_shape" = some (.ref a.f_shape)
  F_longs : Fun K "_law_longs" "_law_longs" s_longs a.f_longs a.d_longs
  b_longs : L2.Binds K a.d_longs ["_law_bag_here", "_law_shape_here"] []
  m_longs : mg "_law_longs" = some (.ref a.f_longs)
  F_passed : Fun K "_law_passed" "_law_passed" s_passed a.f_passed a.d_passed
  b_passed : L2.Binds K a.d_passed ["_law_longs_here"] []
  m_passed : mg "_law_passed" = some (.ref a.f_passed)
  F_turned : Fun K "_law_turned" "_law_turned" s_turned a.f_turned a.d_turned
  b_turned : L2.Binds K a.d_turned ["_law_some"] []
  m_turned : mg "_law_turned" = some (.ref a.f_turned)
  F_rest : Fun K "_law_rest" "_law_rest" s_rest a.f_rest a.d_rest
  b_rest : L2.Binds K a.d_rest ["_law_shape_here", "_law_pegs_at", "_law_longs_here"] []
  m_rest : mg "_law_rest" = some (.ref a.f_rest)
  F_is_least : Fun K "_law_is_least" "_law_is_least" s_is_least a.f_is_least a.d_is_least
  b_is_least : L2.Binds K a.d_is_least ["_law_shape_here", "_law_pegs_at", "_law_longs_here", "_law_found"] []
  m_is_least : mg "_law_is_least" = some (.ref a.f_is_least)
  F_right : Fun K "_law_right" "_law_right" s_right a.f_right a.d_right
  b_right : L2.Binds K a.d_right ["_law_bag_here"] []
  m_right : mg "_law_right" = some (.ref a.f_right)
  F_law : Fun K "law" "law" s_law a.f_law a.d_law
  b_law : L2.Binds K a.d_law ["_law_cells"] []
  m_law : mg "law" = some (.ref a.f_law)
  cl_Puppet : Cls K a.C_Puppet
  m_Puppet : mg "Puppet" = some (.ref a.C_Puppet)
  mk_Puppet : Mk K a.C_Puppet a.f_Puppet_init
  cl_Ratio : Cls K a.C_Ratio
  m_Ratio : mg "Ratio" = some (.ref a.C_Ratio)
  mk_Ratio : Mk K a.C_Ratio a.f_Ratio_init
  z_isinstance : mg "isinstance" = none
  z_int : mg "int" = none
  z_bool : mg "bool" = none
  z_len : mg "len" = none
  z_abs : mg "abs" = none
  z_range : mg "range" = none
  z_all : mg "all" = none
  z_any : mg "any" = none
  z_max : mg "max" = none
  z_min : mg "min" = none
  z_str : mg "str" = none
  z_tuple : mg "tuple" = none
  z_zip : mg "zip" = none
  z_list : mg "list" = none
  z_sorted : mg "sorted" = none
  z_enumerate : mg "enumerate" = none
  z_dict : mg "dict" = none
  m_gcd : mg "gcd" = some (.builtin "math.gcd")
  m_MOST_PARTS : mg "MOST_PARTS" = some (.int 6 a.k_MOST_PARTS)
  m_MOST_TIES : mg "MOST_TIES" = some (.int 10 a.k_MOST_TIES)
  m_MOST_HOOKS : mg "MOST_HOOKS" = some (.int 4 a.k_MOST_HOOKS)
  m_MOST_STRINGS : mg "MOST_STRINGS" = some (.int 6 a.k_MOST_STRINGS)
  m_MOST_AMOUNT : mg "MOST_AMOUNT" = some (.int 1000000 a.k_MOST_AMOUNT)
  n_parts : NoAttr K a.C_Puppet "parts"
  n_ties : NoAttr K a.C_Puppet "ties"
  n_hooks : NoAttr K a.C_Puppet "hooks"
  n_strings : NoAttr K a.C_Puppet "strings"
  n_names : NoAttr K a.C_Puppet "names"
  n_distances : NoAttr K a.C_Puppet "distances"
  nT : NoAttr K a.C_Ratio "top"
  nB : NoAttr K a.C_Ratio "bottom"
  iA : PySem.W.findIn K (.ref a.C_Ratio) "__class__" = some (some (.builtin "object.__class__"))
  iN : PySem.W.specialIn K (.builtin "object.__class__") "__get__" = some (some (.builtin "getset_descriptor.__get__"))
  iT : PySem.W.takesIn K (.builtin "object.__class__") = some true
  iM : PySem.W.mroIn K a.C_Ratio (.type "object") = some true
  kRI : PySem.W.kitOne K (.ref a.C_Ratio) (.type "int") = some false
  kRR : PySem.W.kitOne K (.ref a.C_Ratio) (.ref a.C_Ratio) = some true
  kIR : PySem.W.kitOne K (.type "int") (.ref a.C_Ratio) = some false
  kBR : PySem.W.kitOne K (.type "bool") (.ref a.C_Ratio) = some false
  kTR : PySem.W.kitOne K (.type "tuple") (.ref a.C_Ratio) = some false
  sf : PySem.W.selfFirst K a.C_Ratio = true
  ne : PySem.W.findIn K (.ref a.C_Ratio) "__ne__" = some (some (.builtin "object.__ne__"))
  ob : PySem.W.subIn K (.ref a.C_Ratio) (.type "object") = some true
  sRI : PySem.W.subIn K (.ref a.C_Ratio) (.type "int") = some false
  sIR : PySem.W.subIn K (.type "int") (.ref a.C_Ratio) = some false
  nfI : PySem.W.notFirst K a.C_Ratio (.type "int") = true
  nfB : PySem.W.notFirst K a.C_Ratio (.type "bool") = true
  nfT : PySem.W.notFirst K a.C_Ratio (.type "tuple") = true
  nfR : PySem.W.notFirst K a.C_Ratio (.ref a.C_Ratio) = true
  iAdd : ∃ x, PySem.W.findIn K (.type "int") "__add__" = some x
  iRadd : ∃ x, PySem.W.findIn K (.type "int") "__radd__" = some x
  iSub : ∃ x, PySem.W.findIn K (.type "int") "__sub__" = some x
  iRsub : ∃ x, PySem.W.findIn K (.type "int") "__rsub__" = some x
  iMul : ∃ x, PySem.W.findIn K (.type "int") "__mul__" = some x
  iRmul : ∃ x, PySem.W.findIn K (.type "int") "__rmul__" = some x

theorem all_mk {K : PySem.W.Frag} {h : Heap} {mg : Str → Option Value} (X : K.In h) (G : h.Ns mainGlobals mg)
    {C_Puppet C_Ratio f_is_whole f_is_number f_is_small_letter f_is_capital f_is_word f_is_row f_is_rising f_are_capitals f_is_one_of f_has_just f_Ratio_init T_Ratio_init f_Ratio_eq f_Ratio_neg f_Ratio_add f_Ratio_radd f_Ratio_sub f_Ratio_rsub f_Ratio_mul f_Ratio_rmul f_Ratio_compared f_is_fraction f_as_ratio f_is_length f_are_lengths f_are_heights f_greatest_of f_Puppet_init f_check_parts f_check_ties f_is_tie f_is_tied f_check_strings f_is_string f_distances_of f_shorten f_Puppet_pulls f_Puppet_heights f_Puppet_check_told f_Puppet_holding f_bag f_draw f_one f_words f_letters f_cords f_shape f_longs f_passed f_turned f_rest f_is_least f_right f_law : Addr} {oc_is_whole kV_is_whole dc_is_whole pm_is_whole cd_is_whole ct_is_whole oc_is_number kV_is_number dc_is_number pm_is_number cd_is_number ct_is_number oc_is_small_letter kV_is_small_letter dc_is_small_letter pm_is_small_letter cd_is_small_letter ct_is_small_letter oc_is_capital kV_is_capital dc_is_capital pm_is_capital cd_is_capital ct_is_capital oc_is_word kV_is_word dc_is_word pm_is_word cd_is_word ct_is_word oc_is_row kV_is_row dc_is_row pm_is_row cd_is_row ct_is_row oc_is_rising kV_is_rising dc_is_rising pm_is_rising cd_is_rising ct_is_rising oc_are_capitals kV_are_capitals dc_are_capitals pm_are_capitals cd_are_capitals ct_are_capitals oc_is_one_of kV_is_one_of dc_is_one_of pm_is_one_of cd_is_one_of ct_is_one_of oc_has_just kV_has_just dc_has_just pm_has_just cd_has_just ct_has_just oc_Ratio_init kV_Ratio_init dc_Ratio_init pm_Ratio_init cd_Ratio_init ct_Ratio_init tc_Ratio_init oc_Ratio_eq kV_Ratio_eq dc_Ratio_eq pm_Ratio_eq cd_Ratio_eq ct_Ratio_eq oc_Ratio_neg kV_Ratio_neg dc_Ratio_neg pm_Ratio_neg cd_Ratio_neg ct_Ratio_neg oc_Ratio_add kV_Ratio_add dc_Ratio_add pm_Ratio_add cd_Ratio_add ct_Ratio_add oc_Ratio_radd kV_Ratio_radd dc_Ratio_radd pm_Ratio_radd cd_Ratio_radd ct_Ratio_radd oc_Ratio_sub kV_Ratio_sub dc_Ratio_sub pm_Ratio_sub cd_Ratio_sub ct_Ratio_sub oc_Ratio_rsub kV_Ratio_rsub dc_Ratio_rsub pm_Ratio_rsub cd_Ratio_rsub ct_Ratio_rsub oc_Ratio_mul kV_Ratio_mul dc_Ratio_mul pm_Ratio_mul cd_Ratio_mul ct_Ratio_mul oc_Ratio_rmul kV_Ratio_rmul dc_Ratio_rmul pm_Ratio_rmul cd_Ratio_rmul ct_Ratio_rmul oc_Ratio_compared kV_Ratio_compared dc_Ratio_compared pm_Ratio_compared cd_Ratio_compared ct_Ratio_compared oc_is_fraction kV_is_fraction dc_is_fraction pm_is_fraction cd_is_fraction ct_is_fraction oc_as_ratio kV_as_ratio dc_as_ratio pm_as_ratio cd_as_ratio ct_as_ratio oc_is_length kV_is_length dc_is_length pm_is_length cd_is_length ct_is_length oc_are_lengths kV_are_lengths dc_are_lengths pm_are_lengths cd_are_lengths ct_are_lengths oc_are_heights kV_are_heights dc_are_heights pm_are_heights cd_are_heights ct_are_heights oc_greatest_of kV_greatest_of dc_greatest_of pm_greatest_of cd_greatest_of ct_greatest_of oc_Puppet_init kV_Puppet_init dc_Puppet_init pm_Puppet_init cd_Puppet_init ct_Puppet_init oc_check_parts kV_check_parts dc_check_parts pm_check_parts cd_check_parts ct_check_parts oc_check_ties kV_check_ties dc_check_ties pm_check_ties cd_check_ties ct_check_ties oc_is_tie kV_is_tie dc_is_tie pm_is_tie cd_is_tie ct_is_tie oc_is_tied kV_is_tied dc_is_tied pm_is_tied cd_is_tied ct_is_tied oc_check_strings kV_check_strings dc_check_strings pm_check_strings cd_check_strings ct_check_strings oc_is_string kV_is_string dc_is_string pm_is_string cd_is_string ct_is_string oc_distances_of kV_distances_of dc_distances_of pm_distances_of cd_distances_of ct_distances_of oc_shorten kV_shorten dc_shorten pm_shorten cd_shorten ct_shorten oc_Puppet_pulls kV_Puppet_pulls dc_Puppet_pulls pm_Puppet_pulls cd_Puppet_pulls ct_Puppet_pulls oc_Puppet_heights kV_Puppet_heights dc_Puppet_heights pm_Puppet_heights cd_Puppet_heights ct_Puppet_heights oc_Puppet_check_told kV_Puppet_check_told dc_Puppet_check_told pm_Puppet_check_told cd_Puppet_check_told ct_Puppet_check_told oc_Puppet_holding kV_Puppet_holding dc_Puppet_holding pm_Puppet_holding cd_Puppet_holding ct_Puppet_holding oc_bag kV_bag dc_bag pm_bag cd_bag ct_bag oc_draw kV_draw dc_draw pm_draw cd_draw ct_draw oc_one kV_one dc_one pm_one cd_one ct_one oc_words kV_words dc_words pm_words cd_words ct_words oc_letters kV_letters dc_letters pm_letters cd_letters ct_letters oc_cords kV_cords dc_cords pm_cords cd_cords ct_cords oc_shape kV_shape dc_shape pm_shape cd_shape ct_shape oc_longs kV_longs dc_longs pm_longs cd_longs ct_longs oc_passed kV_passed dc_passed pm_passed cd_passed ct_passed oc_turned kV_turned dc_turned pm_turned cd_turned ct_turned oc_rest kV_rest dc_rest pm_rest cd_rest ct_rest oc_is_least kV_is_least dc_is_least pm_is_least cd_is_least ct_is_least oc_right kV_right dc_right pm_right cd_right ct_right oc_law kV_law dc_law pm_law cd_law ct_law : Value} {od_is_whole an_is_whole od_is_number an_is_number od_is_small_letter an_is_small_letter od_is_capital an_is_capital od_is_word an_is_word od_is_row an_is_row od_is_rising an_is_rising od_are_capitals an_are_capitals od_is_one_of an_is_one_of od_has_just an_has_just od_Ratio_init an_Ratio_init td_Ratio_init od_Ratio_eq an_Ratio_eq od_Ratio_neg an_Ratio_neg od_Ratio_add an_Ratio_add od_Ratio_radd an_Ratio_radd od_Ratio_sub an_Ratio_sub od_Ratio_rsub an_Ratio_rsub od_Ratio_mul an_Ratio_mul od_Ratio_rmul an_Ratio_rmul od_Ratio_compared an_Ratio_compared od_is_fraction an_is_fraction od_as_ratio an_as_ratio od_is_length an_is_length od_are_lengths an_are_lengths od_are_heights an_are_heights od_greatest_of an_greatest_of od_Puppet_init an_Puppet_init od_check_parts an_check_parts od_check_ties an_check_ties od_is_tie an_is_tie od_is_tied an_is_tied od_check_strings an_check_strings od_is_string an_is_string od_distances_of an_distances_of od_shorten an_shorten od_Puppet_pulls an_Puppet_pulls od_Puppet_heights an_Puppet_heights od_Puppet_check_told an_Puppet_check_told od_Puppet_holding an_Puppet_holding od_bag an_bag od_draw an_draw od_one an_one od_words an_words od_letters an_letters od_cords an_cords od_shape an_shape od_longs an_longs od_passed an_passed od_turned an_turned od_rest an_rest od_is_least an_is_least od_right an_right od_law an_law : Option Addr} {sl_is_whole sl_is_number sl_is_small_letter sl_is_capital sl_is_word sl_is_row sl_is_rising sl_are_capitals sl_is_one_of sl_has_just sl_Ratio_init ts_Ratio_init sl_Ratio_eq sl_Ratio_neg sl_Ratio_add sl_Ratio_radd sl_Ratio_sub sl_Ratio_rsub sl_Ratio_mul sl_Ratio_rmul sl_Ratio_compared sl_is_fraction sl_as_ratio sl_is_length sl_are_lengths sl_are_heights sl_greatest_of sl_Puppet_init sl_check_parts sl_check_ties sl_is_tie sl_is_tied sl_check_strings sl_is_string sl_distances_of sl_shorten sl_Puppet_pulls sl_Puppet_heights sl_Puppet_check_told sl_Puppet_holding sl_bag sl_draw sl_one sl_words sl_letters sl_cords sl_shape sl_longs sl_passed sl_turned sl_rest sl_is_least sl_right sl_law : Array (Option Value)} {tg_MOST_PARTS tg_MOST_TIES tg_MOST_HOOKS tg_MOST_STRINGS tg_MOST_AMOUNT : Tok} {tk0 : Tok} {tn_Ratio_init : Nat} {xiAdd xiRadd xiSub xiRsub xiMul xiRmul : Option Value}
    (aC_Puppet : PySem.W.nsIn K mainGlobals "Puppet" = some (some (.ref C_Puppet)))
    (pg_Puppet : PySem.W.plainGet K C_Puppet Str.empty = true)
    (hd_Puppet : PySem.W.hasDictIn K C_Puppet = true)
    (po_Puppet : PySem.W.plainOver K C_Puppet = true)
    (sa_Puppet : PySem.W.findIn K (.ref C_Puppet) "__setattr__" = some (some (.builtin "object.__setattr__")))
    (mk_Puppet : PySem.W.makesIn K C_Puppet = true)
    (kc_Puppet : PySem.W.keepIn K (.ref C_Puppet) = true)
    (aC_Ratio : PySem.W.nsIn K mainGlobals "Ratio" = some (some (.ref C_Ratio)))
    (pg_Ratio : PySem.W.plainGet K C_Ratio Str.empty = true)
    (hd_Ratio : PySem.W.hasDictIn K C_Ratio = true)
    (po_Ratio : PySem.W.plainOver K C_Ratio = true)
    (sa_Ratio : PySem.W.findIn K (.ref C_Ratio) "__setattr__" = some (some (.builtin "object.__setattr__")))
    (mk_Ratio : PySem.W.makesIn K C_Ratio = true)
    (kc_Ratio : PySem.W.keepIn K (.ref C_Ratio) = true)
    (a_is_whole : PySem.W.nsIn K mainGlobals "is_whole" = some (some (.ref f_is_whole)))
    (l_is_whole : K.lookup f_is_whole = some ⟨oc_is_whole, od_is_whole, .func (PySem.W.fnOf "is_whole" "is_whole" (defArgs s_is_whole) (defBody s_is_whole) (defScope s_is_whole) .none kV_is_whole dc_is_whole pm_is_whole an_is_whole cd_is_whole ct_is_whole), sl_is_whole⟩) (c_is_whole : PySem.W.codeIn K cd_is_whole "is_whole" = true) (k_is_whole : PySem.W.keepIn K (.ref f_is_whole) = true)
    (a_is_number : PySem.W.nsIn K mainGlobals "is_number" = some (some (.ref f_is_number)))
    (l_is_number : K.lookup f_is_number = some ⟨oc_is_number, od_is_number, .func (PySem.W.fnOf "is_number" "is_number" (defArgs s_is_number) (defBody s_is_number) (defScope s_is_number) .none kV_is_number dc_is_number pm_is_number an_is_number cd_is_number ct_is_number), sl_is_number⟩) (c_is_number : PySem.W.codeIn K cd_is_number "is_number" = true) (k_is_number : PySem.W.keepIn K (.ref f_is_number) = true)
    (a_is_small_letter : PySem.W.nsIn K mainGlobals "is_small_letter" = some (some (.ref f_is_small_letter)))
    (l_is_small_letter : K.lookup f_is_small_letter = some ⟨oc_is_small_letter, od_is_small_letter, .func (PySem.W.fnOf "is_small_letter" "is_small_letter" (defArgs s_is_small_letter) (defBody s_is_small_letter) (defScope s_is_small_letter) .none kV_is_small_letter dc_is_small_letter pm_is_small_letter an_is_small_letter cd_is_small_letter ct_is_small_letter), sl_is_small_letter⟩) (c_is_small_letter : PySem.W.codeIn K cd_is_small_letter "is_small_letter" = true) (k_is_small_letter : PySem.W.keepIn K (.ref f_is_small_letter) = true)
    (a_is_capital : PySem.W.nsIn K mainGlobals "is_capital" = some (some (.ref f_is_capital)))
    (l_is_capital : K.lookup f_is_capital = some ⟨oc_is_capital, od_is_capital, .func (PySem.W.fnOf "is_capital" "is_capital" (defArgs s_is_capital) (defBody s_is_capital) (defScope s_is_capital) .none kV_is_capital dc_is_capital pm_is_capital an_is_capital cd_is_capital ct_is_capital), sl_is_capital⟩) (c_is_capital : PySem.W.codeIn K cd_is_capital "is_capital" = true) (k_is_capital : PySem.W.keepIn K (.ref f_is_capital) = true)
    (a_is_word : PySem.W.nsIn K mainGlobals "is_word" = some (some (.ref f_is_word)))
    (l_is_word : K.lookup f_is_word = some ⟨oc_is_word, od_is_word, .func (PySem.W.fnOf "is_word" "is_word" (defArgs s_is_word) (defBody s_is_word) (defScope s_is_word) .none kV_is_word dc_is_word pm_is_word an_is_word cd_is_word ct_is_word), sl_is_word⟩) (c_is_word : PySem.W.codeIn K cd_is_word "is_word" = true) (k_is_word : PySem.W.keepIn K (.ref f_is_word) = true)
    (a_is_row : PySem.W.nsIn K mainGlobals "is_row" = some (some (.ref f_is_row)))
    (l_is_row : K.lookup f_is_row = some ⟨oc_is_row, od_is_row, .func (PySem.W.fnOf "is_row" "is_row" (defArgs s_is_row) (defBody s_is_row) (defScope s_is_row) .none kV_is_row dc_is_row pm_is_row an_is_row cd_is_row ct_is_row), sl_is_row⟩) (c_is_row : PySem.W.codeIn K cd_is_row "is_row" = true) (k_is_row : PySem.W.keepIn K (.ref f_is_row) = true)
    (a_is_rising : PySem.W.nsIn K mainGlobals "is_rising" = some (some (.ref f_is_rising)))
    (l_is_rising : K.lookup f_is_rising = some ⟨oc_is_rising, od_is_rising, .func (PySem.W.fnOf "is_rising" "is_rising" (defArgs s_is_rising) (defBody s_is_rising) (defScope s_is_rising) .none kV_is_rising dc_is_rising pm_is_rising an_is_rising cd_is_rising ct_is_rising), sl_is_rising⟩) (c_is_rising : PySem.W.codeIn K cd_is_rising "is_rising" = true) (k_is_rising : PySem.W.keepIn K (.ref f_is_rising) = true)
    (a_are_capitals : PySem.W.nsIn K mainGlobals "are_capitals" = some (some (.ref f_are_capitals)))
    (l_are_capitals : K.lookup f_are_capitals = some ⟨oc_are_capitals, od_are_capitals, .func (PySem.W.fnOf "are_capitals" "are_capitals" (defArgs s_are_capitals) (defBody s_are_capitals) (defScope s_are_capitals) .none kV_are_capitals dc_are_capitals pm_are_capitals an_are_capitals cd_are_capitals ct_are_capitals), sl_are_capitals⟩) (c_are_capitals : PySem.W.codeIn K cd_are_capitals "are_capitals" = true) (k_are_capitals : PySem.W.keepIn K (.ref f_are_capitals) = true)
    (a_is_one_of : PySem.W.nsIn K mainGlobals "is_one_of" = some (some (.ref f_is_one_of)))
    (l_is_one_of : K.lookup f_is_one_of = some ⟨oc_is_one_of, od_is_one_of, .func (PySem.W.fnOf "is_one_of" "is_one_of" (defArgs s_is_one_of) (defBody s_is_one_of) (defScope s_is_one_of) .none kV_is_one_of dc_is_one_of pm_is_one_of an_is_one_of cd_is_one_of ct_is_one_of), sl_is_one_of⟩) (c_is_one_of : PySem.W.codeIn K cd_is_one_of "is_one_of" = true) (k_is_one_of : PySem.W.keepIn K (.ref f_is_one_of) = true)
    (a_has_just : PySem.W.nsIn K mainGlobals "has_just" = some (some (.ref f_has_just)))
    (l_has_just : K.lookup f_has_just = some ⟨oc_has_just, od_has_just, .func (PySem.W.fnOf "has_just" "has_just" (defArgs s_has_just) (defBody s_has_just) (defScope s_has_just) .none kV_has_just dc_has_just pm_has_just an_has_just cd_has_just ct_has_just), sl_has_just⟩) (c_has_just : PySem.W.codeIn K cd_has_just "has_just" = true) (k_has_just : PySem.W.keepIn K (.ref f_has_just) = true)
    (a_Ratio_init : PySem.W.findIn K (.ref C_Ratio) "__init__" = some (some (.ref f_Ratio_init))) (i_Ratio_init : PySem.W.isFn K (.ref f_Ratio_init) = true)
    (l_Ratio_init : K.lookup f_Ratio_init = some ⟨oc_Ratio_init, od_Ratio_init, .func (PySem.W.fnOf "__init__" "Ratio.__init__" (defArgs s_Ratio_init) (defBody s_Ratio_init) (defScope s_Ratio_init) (.ref T_Ratio_init) kV_Ratio_init dc_Ratio_init pm_Ratio_init an_Ratio_init cd_Ratio_init ct_Ratio_init), sl_Ratio_init⟩) (c_Ratio_init : PySem.W.codeIn K cd_Ratio_init "Ratio.__init__" = true) (k_Ratio_init : PySem.W.keepIn K (.ref f_Ratio_init) = true)
    (t_Ratio_init : K.lookup T_Ratio_init = some ⟨tc_Ratio_init, td_Ratio_init, .seq #[.int 1 tk0] tn_Ratio_init, ts_Ratio_init⟩)
    (a_Ratio_eq : PySem.W.findIn K (.ref C_Ratio) "__eq__" = some (some (.ref f_Ratio_eq))) (i_Ratio_eq : PySem.W.isFn K (.ref f_Ratio_eq) = true)
    (l_Ratio_eq : K.lookup f_Ratio_eq = some ⟨oc_Ratio_eq, od_Ratio_eq, .func (PySem.W.fnOf "__eq__" "Ratio.__eq__" (defArgs s_Ratio_eq) (defBody s_Ratio_eq) (defScope s_Ratio_eq) .none kV_Ratio_eq dc_Ratio_eq pm_Ratio_eq an_Ratio_eq cd_Ratio_eq ct_Ratio_eq), sl_Ratio_eq⟩) (c_Ratio_eq : PySem.W.codeIn K cd_Ratio_eq "Ratio.__eq__" = true) (k_Ratio_eq : PySem.W.keepIn K (.ref f_Ratio_eq) = true)
    (a_Ratio_neg : PySem.W.findIn K (.ref C_Ratio) "__neg__" = some (some (.ref f_Ratio_neg))) (i_Ratio_neg : PySem.W.isFn K (.ref f_Ratio_neg) = true)
    (l_Ratio_neg : K.lookup f_Ratio_neg = some ⟨oc_Ratio_neg, od_Ratio_neg, .func (PySem.W.fnOf "__neg__" "Ratio.__neg__" (defArgs s_Ratio_neg) (defBody s_Ratio_neg) (defScope s_Ratio_neg) .none kV_Ratio_neg dc_Ratio_neg pm_Ratio_neg an_Ratio_neg cd_Ratio_neg ct_Ratio_neg), sl_Ratio_neg⟩) (c_Ratio_neg : PySem.W.codeIn K cd_Ratio_neg "Ratio.__neg__" = true) (k_Ratio_neg : PySem.W.keepIn K (.ref f_Ratio_neg) = true)
    (a_Ratio_add : PySem.W.findIn K (.ref C_Ratio) "__add__" = some (some (.ref f_Ratio_add))) (i_Ratio_add : PySem.W.isFn K (.ref f_Ratio_add) = true)
    (l_Ratio_add : K.lookup f_Ratio_add = some ⟨oc_Ratio_add, od_Ratio_add, .func (PySem.W.fnOf "__add__" "Ratio.__add__" (defArgs s_Ratio_add) (defBody s_Ratio_add) (defScope s_Ratio_add) .none kV_Ratio_add dc_Ratio_add pm_Ratio_add an_Ratio_add cd_Ratio_add ct_Ratio_add), sl_Ratio_add⟩) (c_Ratio_add : PySem.W.codeIn K cd_Ratio_add "Ratio.__add__" = true) (k_Ratio_add : PySem.W.keepIn K (.ref f_Ratio_add) = true)
    (a_Ratio_radd : PySem.W.findIn K (.ref C_Ratio) "__radd__" = some (some (.ref f_Ratio_radd))) (i_Ratio_radd : PySem.W.isFn K (.ref f_Ratio_radd) = true)
    (l_Ratio_radd : K.lookup f_Ratio_radd = some ⟨oc_Ratio_radd, od_Ratio_radd, .func (PySem.W.fnOf "__radd__" "Ratio.__radd__" (defArgs s_Ratio_radd) (defBody s_Ratio_radd) (defScope s_Ratio_radd) .none kV_Ratio_radd dc_Ratio_radd pm_Ratio_radd an_Ratio_radd cd_Ratio_radd ct_Ratio_radd), sl_Ratio_radd⟩) (c_Ratio_radd : PySem.W.codeIn K cd_Ratio_radd "Ratio.__radd__" = true) (k_Ratio_radd : PySem.W.keepIn K (.ref f_Ratio_radd) = true)
    (a_Ratio_sub : PySem.W.findIn K (.ref C_Ratio) "__sub__" = some (some (.ref f_Ratio_sub))) (i_Ratio_sub : PySem.W.isFn K (.ref f_Ratio_sub) = true)
    (l_Ratio_sub : K.lookup f_Ratio_sub = some ⟨oc_Ratio_sub, od_Ratio_sub, .func (PySem.W.fnOf "__sub__" "Ratio.__sub__" (defArgs s_Ratio_sub) (defBody s_Ratio_sub) (defScope s_Ratio_sub) .none kV_Ratio_sub dc_Ratio_sub pm_Ratio_sub an_Ratio_sub cd_Ratio_sub ct_Ratio_sub), sl_Ratio_sub⟩) (c_Ratio_sub : PySem.W.codeIn K cd_Ratio_sub "Ratio.__sub__" = true) (k_Ratio_sub : PySem.W.keepIn K (.ref f_Ratio_sub) = true)
    (a_Ratio_rsub : PySem.W.findIn K (.ref C_Ratio) "__rsub__" = some (some (.ref f_Ratio_rsub))) (i_Ratio_rsub : PySem.W.isFn K (.ref f_Ratio_rsub) = true)
    (l_Ratio_rsub : K.lookup f_Ratio_rsub = some ⟨oc_Ratio_rsub, od_Ratio_rsub, .func (PySem.W.fnOf "__rsub__" "Ratio.__rsub__" (defArgs s_Ratio_rsub) (defBody s_Ratio_rsub) (defScope s_Ratio_rsub) .none kV_Ratio_rsub dc_Ratio_rsub pm_Ratio_rsub an_Ratio_rsub cd_Ratio_rsub ct_Ratio_rsub), sl_Ratio_rsub⟩) (c_Ratio_rsub : PySem.W.codeIn K cd_Ratio_rsub "Ratio.__rsub__" = true) (k_Ratio_rsub : PySem.W.keepIn K (.ref f_Ratio_rsub) = true)
    (a_Ratio_mul : PySem.W.findIn K (.ref C_Ratio) "__mul__" = some (some (.ref f_Ratio_mul))) (i_Ratio_mul : PySem.W.isFn K (.ref f_Ratio_mul) = true)
    (l_Ratio_mul : K.lookup f_Ratio_mul = some ⟨oc_Ratio_mul, od_Ratio_mul, .func (PySem.W.fnOf "__mul__" "Ratio.__mul__" (defArgs s_Ratio_mul) (defBody s_Ratio_mul) (defScope s_Ratio_mul) .none kV_Ratio_mul dc_Ratio_mul pm_Ratio_mul an_Ratio_mul cd_Ratio_mul ct_Ratio_mul), sl_Ratio_mul⟩) (c_Ratio_mul : PySem.W.codeIn K cd_Ratio_mul "Ratio.__mul__" = true) (k_Ratio_mul : PySem.W.keepIn K (.ref f_Ratio_mul) = true)
    (a_Ratio_rmul : PySem.W.findIn K (.ref C_Ratio) "__rmul__" = some (some (.ref f_Ratio_rmul))) (i_Ratio_rmul : PySem.W.isFn K (.ref f_Ratio_rmul) = true)
    (l_Ratio_rmul : K.lookup f_Ratio_rmul = some ⟨oc_Ratio_rmul, od_Ratio_rmul, .func (PySem.W.fnOf "__rmul__" "Ratio.__rmul__" (defArgs s_Ratio_rmul) (defBody s_Ratio_rmul) (defScope s_Ratio_rmul) .none kV_Ratio_rmul dc_Ratio_rmul pm_Ratio_rmul an_Ratio_rmul cd_Ratio_rmul ct_Ratio_rmul), sl_Ratio_rmul⟩) (c_Ratio_rmul : PySem.W.codeIn K cd_Ratio_rmul "Ratio.__rmul__" = true) (k_Ratio_rmul : PySem.W.keepIn K (.ref f_Ratio_rmul) = true)
    (a_Ratio_compared : PySem.W.findIn K (.ref C_Ratio) "compared" = some (some (.ref f_Ratio_compared))) (i_Ratio_compared : PySem.W.isFn K (.ref f_Ratio_compared) = true)
    (l_Ratio_compared : K.lookup f_Ratio_compared = some ⟨oc_Ratio_compared, od_Ratio_compared, .func (PySem.W.fnOf "compared" "Ratio.compared" (defArgs s_Ratio_compared) (defBody s_Ratio_compared) (defScope s_Ratio_compared) .none kV_Ratio_compared dc_Ratio_compared pm_Ratio_compared an_Ratio_compared cd_Ratio_compared ct_Ratio_compared), sl_Ratio_compared⟩) (c_Ratio_compared : PySem.W.codeIn K cd_Ratio_compared "Ratio.compared" = true) (k_Ratio_compared : PySem.W.keepIn K (.ref f_Ratio_compared) = true)
    (a_is_fraction : PySem.W.nsIn K mainGlobals "is_fraction" = some (some (.ref f_is_fraction)))
    (l_is_fraction : K.lookup f_is_fraction = some ⟨oc_is_fraction, od_is_fraction, .func (PySem.W.fnOf "is_fraction" "is_fraction" (defArgs s_is_fraction) (defBody s_is_fraction) (defScope s_is_fraction) .none kV_is_fraction dc_is_fraction pm_is_fraction an_is_fraction cd_is_fraction ct_is_fraction), sl_is_fraction⟩) (c_is_fraction : PySem.W.codeIn K cd_is_fraction "is_fraction" = true) (k_is_fraction : PySem.W.keepIn K (.ref f_is_fraction) = true)
    (a_as_ratio : PySem.W.nsIn K mainGlobals "as_ratio" = some (some (.ref f_as_ratio)))
    (l_as_ratio : K.lookup f_as_ratio = some ⟨oc_as_ratio, od_as_ratio, .func (PySem.W.fnOf "as_ratio" "as_ratio" (defArgs s_as_ratio) (defBody s_as_ratio) (defScope s_as_ratio) .none kV_as_ratio dc_as_ratio pm_as_ratio an_as_ratio cd_as_ratio ct_as_ratio), sl_as_ratio⟩) (c_as_ratio : PySem.W.codeIn K cd_as_ratio "as_ratio" = true) (k_as_ratio : PySem.W.keepIn K (.ref f_as_ratio) = true)
    (a_is_length : PySem.W.nsIn K mainGlobals "is_length" = some (some (.ref f_is_length)))
    (l_is_length : K.lookup f_is_length = some ⟨oc_is_length, od_is_length, .func (PySem.W.fnOf "is_length" "is_length" (defArgs s_is_length) (defBody s_is_length) (defScope s_is_length) .none kV_is_length dc_is_length pm_is_length an_is_length cd_is_length ct_is_length), sl_is_length⟩) (c_is_length : PySem.W.codeIn K cd_is_length "is_length" = true) (k_is_length : PySem.W.keepIn K (.ref f_is_length) = true)
    (a_are_lengths : PySem.W.nsIn K mainGlobals "are_lengths" = some (some (.ref f_are_lengths)))
    (l_are_lengths : K.lookup f_are_lengths = some ⟨oc_are_lengths, od_are_lengths, .func (PySem.W.fnOf "are_lengths" "are_lengths" (defArgs s_are_lengths) (defBody s_are_lengths) (defScope s_are_lengths) .none kV_are_lengths dc_are_lengths pm_are_lengths an_are_lengths cd_are_lengths ct_are_lengths), sl_are_lengths⟩) (c_are_lengths : PySem.W.codeIn K cd_are_lengths "are_lengths" = true) (k_are_lengths : PySem.W.keepIn K (.ref f_are_lengths) = true)
    (a_are_heights : PySem.W.nsIn K mainGlobals "are_heights" = some (some (.ref f_are_heights)))
    (l_are_heights : K.lookup f_are_heights = some ⟨oc_are_heights, od_are_heights, .func (PySem.W.fnOf "are_heights" "are_heights" (defArgs s_are_heights) (defBody s_are_heights) (defScope s_are_heights) .none kV_are_heights dc_are_heights pm_are_heights an_are_heights cd_are_heights ct_are_heights), sl_are_heights⟩) (c_are_heights : PySem.W.codeIn K cd_are_heights "are_heights" = true) (k_are_heights : PySem.W.keepIn K (.ref f_are_heights) = true)
    (a_greatest_of : PySem.W.nsIn K mainGlobals "greatest_of" = some (some (.ref f_greatest_of)))
    (l_greatest_of : K.lookup f_greatest_of = some ⟨oc_greatest_of, od_greatest_of, .func (PySem.W.fnOf "greatest_of" "greatest_of" (defArgs s_greatest_of) (defBody s_greatest_of) (defScope s_greatest_of) .none kV_greatest_of dc_greatest_of pm_greatest_of an_greatest_of cd_greatest_of ct_greatest_of), sl_greatest_of⟩) (c_greatest_of : PySem.W.codeIn K cd_greatest_of "greatest_of" = true) (k_greatest_of : PySem.W.keepIn K (.ref f_greatest_of) = true)
    (a_Puppet_init : PySem.W.findIn K (.ref C_Puppet) "__init__" = some (some (.ref f_Puppet_init))) (i_Puppet_init : PySem.W.isFn K (.ref f_Puppet_init) = true)
    (l_Puppet_init : K.lookup f_Puppet_init = some ⟨oc_Puppet_init, od_Puppet_init, .func (PySem.W.fnOf "__init__" "Puppet.__init__" (defArgs s_Puppet_init) (defBody s_Puppet_init) (defScope s_Puppet_init) .none kV_Puppet_init dc_Puppet_init pm_Puppet_init an_Puppet_init cd_Puppet_init ct_Puppet_init), sl_Puppet_init⟩) (c_Puppet_init : PySem.W.codeIn K cd_Puppet_init "Puppet.__init__" = true) (k_Puppet_init : PySem.W.keepIn K (.ref f_Puppet_init) = true)
    (a_check_parts : PySem.W.nsIn K mainGlobals "check_parts" = some (some (.ref f_check_parts)))
    (l_check_parts : K.lookup f_check_parts = some ⟨oc_check_parts, od_check_parts, .func (PySem.W.fnOf "check_parts" "check_parts" (defArgs s_check_parts) (defBody s_check_parts) (defScope s_check_parts) .none kV_check_parts dc_check_parts pm_check_parts an_check_parts cd_check_parts ct_check_parts), sl_check_parts⟩) (c_check_parts : PySem.W.codeIn K cd_check_parts "check_parts" = true) (k_check_parts : PySem.W.keepIn K (.ref f_check_parts) = true)
    (a_check_ties : PySem.W.nsIn K mainGlobals "check_ties" = some (some (.ref f_check_ties)))
    (l_check_ties : K.lookup f_check_ties = some ⟨oc_check_ties, od_check_ties, .func (PySem.W.fnOf "check_ties" "check_ties" (defArgs s_check_ties) (defBody s_check_ties) (defScope s_check_ties) .none kV_check_ties dc_check_ties pm_check_ties an_check_ties cd_check_ties ct_check_ties), sl_check_ties⟩) (c_check_ties : PySem.W.codeIn K cd_check_ties "check_ties" = true) (k_check_ties : PySem.W.keepIn K (.ref f_check_ties) = true)
    (a_is_tie : PySem.W.nsIn K mainGlobals "is_tie" = some (some (.ref f_is_tie)))
    (l_is_tie : K.lookup f_is_tie = some ⟨oc_is_tie, od_is_tie, .func (PySem.W.fnOf "is_tie" "is_tie" (defArgs s_is_tie) (defBody s_is_tie) (defScope s_is_tie) .none kV_is_tie dc_is_tie pm_is_tie an_is_tie cd_is_tie ct_is_tie), sl_is_tie⟩) (c_is_tie : PySem.W.codeIn K cd_is_tie "is_tie" = true) (k_is_tie : PySem.W.keepIn K (.ref f_is_tie) = true)
    (a_is_tied : PySem.W.nsIn K mainGlobals "is_tied" = some (some (.ref f_is_tied)))
    (l_is_tied : K.lookup f_is_tied = some ⟨oc_is_tied, od_is_tied, .func (PySem.W.fnOf "is_tied" "is_tied" (defArgs s_is_tied) (defBody s_is_tied) (defScope s_is_tied) .none kV_is_tied dc_is_tied pm_is_tied an_is_tied cd_is_tied ct_is_tied), sl_is_tied⟩) (c_is_tied : PySem.W.codeIn K cd_is_tied "is_tied" = true) (k_is_tied : PySem.W.keepIn K (.ref f_is_tied) = true)
    (a_check_strings : PySem.W.nsIn K mainGlobals "check_strings" = some (some (.ref f_check_strings)))
    (l_check_strings : K.lookup f_check_strings = some ⟨oc_check_strings, od_check_strings, .func (PySem.W.fnOf "check_strings" "check_strings" (defArgs s_check_strings) (defBody s_check_strings) (defScope s_check_strings) .none kV_check_strings dc_check_strings pm_check_strings an_check_strings cd_check_strings ct_check_strings), sl_check_strings⟩) (c_check_strings : PySem.W.codeIn K cd_check_strings "check_strings" = true) (k_check_strings : PySem.W.keepIn K (.ref f_check_strings) = true)
    (a_is_string : PySem.W.nsIn K mainGlobals "is_string" = some (some (.ref f_is_string)))
    (l_is_string : K.lookup f_is_string = some ⟨oc_is_string, od_is_string, .func (PySem.W.fnOf "is_string" "is_string" (defArgs s_is_string) (defBody s_is_string) (defScope s_is_string) .none kV_is_string dc_is_string pm_is_string an_is_string cd_is_string ct_is_string), sl_is_string⟩) (c_is_string : PySem.W.codeIn K cd_is_string "is_string" = true) (k_is_string : PySem.W.keepIn K (.ref f_is_string) = true)
    (a_distances_of : PySem.W.nsIn K mainGlobals "distances_of" = some (some (.ref f_distances_of)))
    (l_distances_of : K.lookup f_distances_of = some ⟨oc_distances_of, od_distances_of, .func (PySem.W.fnOf "distances_of" "distances_of" (defArgs s_distances_of) (defBody s_distances_of) (defScope s_distances_of) .none kV_distances_of dc_distances_of pm_distances_of an_distances_of cd_distances_of ct_distances_of), sl_distances_of⟩) (c_distances_of : PySem.W.codeIn K cd_distances_of "distances_of" = true) (k_distances_of : PySem.W.keepIn K (.ref f_distances_of) = true)
    (a_shorten : PySem.W.nsIn K mainGlobals "shorten" = some (some (.ref f_shorten)))
    (l_shorten : K.lookup f_shorten = some ⟨oc_shorten, od_shorten, .func (PySem.W.fnOf "shorten" "shorten" (defArgs s_shorten) (defBody s_shorten) (defScope s_shorten) .none kV_shorten dc_shorten pm_shorten an_shorten cd_shorten ct_shorten), sl_shorten⟩) (c_shorten : PySem.W.codeIn K cd_shorten "shorten" = true) (k_shorten : PySem.W.keepIn K (.ref f_shorten) = true)
    (a_Puppet_pulls : PySem.W.findIn K (.ref C_Puppet) "pulls" = some (some (.ref f_Puppet_pulls))) (i_Puppet_pulls : PySem.W.isFn K (.ref f_Puppet_pulls) = true)
    (l_Puppet_pulls : K.lookup f_Puppet_pulls = some ⟨oc_Puppet_pulls, od_Puppet_pulls, .func (PySem.W.fnOf "pulls" "Puppet.pulls" (defArgs s_Puppet_pulls) (defBody s_Puppet_pulls) (defScope s_Puppet_pulls) .none kV_Puppet_pulls dc_Puppet_pulls pm_Puppet_pulls an_Puppet_pulls cd_Puppet_pulls ct_Puppet_pulls), sl_Puppet_pulls⟩) (c_Puppet_pulls : PySem.W.codeIn K cd_Puppet_pulls "Puppet.pulls" = true) (k_Puppet_pulls : PySem.W.keepIn K (.ref f_Puppet_pulls) = true)
    (a_Puppet_heights : PySem.W.findIn K (.ref C_Puppet) "heights" = some (some (.ref f_Puppet_heights))) (i_Puppet_heights : PySem.W.isFn K (.ref f_Puppet_heights) = true)
    (l_Puppet_heights : K.lookup f_Puppet_heights = some ⟨oc_Puppet_heights, od_Puppet_heights, .func (PySem.W.fnOf "heights" "Puppet.heights" (defArgs s_Puppet_heights) (defBody s_Puppet_heights) (defScope s_Puppet_heights) .none kV_Puppet_heights dc_Puppet_heights pm_Puppet_heights an_Puppet_heights cd_Puppet_heights ct_Puppet_heights), sl_Puppet_heights⟩) (c_Puppet_heights : PySem.W.codeIn K cd_Puppet_heights "Puppet.heights" = true) (k_Puppet_heights : PySem.W.keepIn K (.ref f_Puppet_heights) = true)
    (a_Puppet_check_told : PySem.W.findIn K (.ref C_Puppet) "check_told" = some (some (.ref f_Puppet_check_told))) (i_Puppet_check_told : PySem.W.isFn K (.ref f_Puppet_check_told) = true)
    (l_Puppet_check_told : K.lookup f_Puppet_check_told = some ⟨oc_Puppet_check_told, od_Puppet_check_told, .func (PySem.W.fnOf "check_told" "Puppet.check_told" (defArgs s_Puppet_check_told) (defBody s_Puppet_check_told) (defScope s_Puppet_check_told) .none kV_Puppet_check_told dc_Puppet_check_told pm_Puppet_check_told an_Puppet_check_told cd_Puppet_check_told ct_Puppet_check_told), sl_Puppet_check_told⟩) (c_Puppet_check_told : PySem.W.codeIn K cd_Puppet_check_told "Puppet.check_told" = true) (k_Puppet_check_told : PySem.W.keepIn K (.ref f_Puppet_check_told) = true)
    (a_Puppet_holding : PySem.W.findIn K (.ref C_Puppet) "holding" = some (some (.ref f_Puppet_holding))) (i_Puppet_holding : PySem.W.isFn K (.ref f_Puppet_holding) = true)
    (l_Puppet_holding : K.lookup f_Puppet_holding = some ⟨oc_Puppet_holding, od_Puppet_holding, .func (PySem.W.fnOf "holding" "Puppet.holding" (defArgs s_Puppet_holding) (defBody s_Puppet_holding) (defScope s_Puppet_holding) .none kV_Puppet_holding dc_Puppet_holding pm_Puppet_holding an_Puppet_holding cd_Puppet_holding ct_Puppet_holding), sl_Puppet_holding⟩) (c_Puppet_holding : PySem.W.codeIn K cd_Puppet_holding "Puppet.holding" = true) (k_Puppet_holding : PySem.W.keepIn K (.ref f_Puppet_holding) = true)
    (a_bag : PySem.W.nsIn K mainGlobals "_law_bag" = some (some (.ref f_bag)))
    (l_bag : K.lookup f_bag = some ⟨oc_bag, od_bag, .func (PySem.W.fnOf "_law_bag" "_law_bag" (defArgs s_bag) (defBody s_bag) (defScope s_bag) .none kV_bag dc_bag pm_bag an_bag cd_bag ct_bag), sl_bag⟩) (c_bag : PySem.W.codeIn K cd_bag "_law_bag" = true) (k_bag : PySem.W.keepIn K (.ref f_bag) = true)
    (a_draw : PySem.W.nsIn K mainGlobals "_law_draw" = some (some (.ref f_draw)))
    (l_draw : K.lookup f_draw = some ⟨oc_draw, od_draw, .func (PySem.W.fnOf "_law_draw" "_law_draw" (defArgs s_draw) (defBody s_draw) (defScope s_draw) .none kV_draw dc_draw pm_draw an_draw cd_draw ct_draw), sl_draw⟩) (c_draw : PySem.W.codeIn K cd_draw "_law_draw" = true) (k_draw : PySem.W.keepIn K (.ref f_draw) = true)
    (a_one : PySem.W.nsIn K mainGlobals "_law_one" = some (some (.ref f_one)))
    (l_one : K.lookup f_one = some ⟨oc_one, od_one, .func (PySem.W.fnOf "_law_one" "_law_one" (defArgs s_one) (defBody s_one) (defScope s_one) .none kV_one dc_one pm_one an_one cd_one ct_one), sl_one⟩) (c_one : PySem.W.codeIn K cd_one "_law_one" = true) (k_one : PySem.W.keepIn K (.ref f_one) = true)
    (a_words : PySem.W.nsIn K mainGlobals "_law_words" = some (some (.ref f_words)))
    (l_words : K.lookup f_words = some ⟨oc_words, od_words, .func (PySem.W.fnOf "_law_words" "_law_words" (defArgs s_words) (defBody s_words) (defScope s_words) .none kV_words dc_words pm_words an_words cd_words ct_words), sl_words⟩) (c_words : PySem.W.codeIn K cd_words "_law_words" = true) (k_words : PySem.W.keepIn K (.ref f_words) = true)
    (a_letters : PySem.W.nsIn K mainGlobals "_law_letters" = some (some (.ref f_letters)))
    (l_letters : K.lookup f_letters = some ⟨oc_letters, od_letters, .func (PySem.W.fnOf "_law_letters" "_law_letters" (defArgs s_letters) (defBody s_letters) (defScope s_letters) .none kV_letters dc_letters pm_letters an_letters cd_letters ct_letters), sl_letters⟩) (c_letters : PySem.W.codeIn K cd_letters "_law_letters" = true) (k_letters : PySem.W.keepIn K (.ref f_letters) = true)
    (a_cords : PySem.W.nsIn K mainGlobals "_law_cords" = some (some (.ref f_cords)))
    (l_cords : K.lookup f_cords = some ⟨oc_cords, od_cords, .func (PySem.W.fnOf "_law_cords" "_law_cords" (defArgs s_cords) (defBody s_cords) (defScope s_cords) .none kV_cords dc_cords pm_cords an_cords cd_cords ct_cords), sl_cords⟩) (c_cords : PySem.W.codeIn K cd_cords "_law_cords" = true) (k_cords : PySem.W.keepIn K (.ref f_cords) = true)
    (a_shape : PySem.W.nsIn K mainGlobals "_law_shape" = some (some (.ref f_shape)))
    (l_shape : K.lookup f_shape = some ⟨oc_shape, od_shape, .func (PySem.W.fnOf "_law_shape" "_law_shape" (defArgs s_shape) (defBody s_shape) (defScope s_shape) .none kV_shape dc_shape pm_shape an_shape cd_shape ct_shape), sl_shape⟩) (c_shape : PySem.W.codeIn K cd_shape "_law_shape" = true) (k_shape : PySem.W.keepIn K (.ref f_shape) = true)
    (a_longs : PySem.W.nsIn K mainGlobals "_law_longs" = some (some (.ref f_longs)))
    (l_longs : K.lookup f_longs = some ⟨oc_longs, od_longs, .func (PySem.W.fnOf "_law_longs" "_law_longs" (defArgs s_longs) (defBody s_longs) (defScope s_longs) .none kV_longs dc_longs pm_longs an_longs cd_longs ct_longs), sl_longs⟩) (c_longs : PySem.W.codeIn K cd_longs "_law_longs" = true) (k_longs : PySem.W.keepIn K (.ref f_longs) = true)
    (a_passed : PySem.W.nsIn K mainGlobals "_law_passed" = some (some (.ref f_passed)))
    (l_passed : K.lookup f_passed = some ⟨oc_passed, od_passed, .func (PySem.W.fnOf "_law_passed" "_law_passed" (defArgs s_passed) (defBody s_passed) (defScope s_passed) .none kV_passed dc_passed pm_passed an_passed cd_passed ct_passed), sl_passed⟩) (c_passed : PySem.W.codeIn K cd_passed "_law_passed" = true) (k_passed : PySem.W.keepIn K (.ref f_passed) = true)
    (a_turned : PySem.W.nsIn K mainGlobals "_law_turned" = some (some (.ref f_turned)))
    (l_turned : K.lookup f_turned = some ⟨oc_turned, od_turned, .func (PySem.W.fnOf "_law_turned" "_law_turned" (defArgs s_turned) (defBody s_turned) (defScope s_turned) .none kV_turned dc_turned pm_turned an_turned cd_turned ct_turned), sl_turned⟩) (c_turned : PySem.W.codeIn K cd_turned "_law_turned" = true) (k_turned : PySem.W.keepIn K (.ref f_turned) = true)
    (a_rest : PySem.W.nsIn K mainGlobals "_law_rest" = some (some (.ref f_rest)))
    (l_rest : K.lookup f_rest = some ⟨oc_rest, od_rest, .func (PySem.W.fnOf "_law_rest" "_law_rest" (defArgs s_rest) (defBody s_rest) (defScope s_rest) .none kV_rest dc_rest pm_rest an_rest cd_rest ct_rest), sl_rest⟩) (c_rest : PySem.W.codeIn K cd_rest "_law_rest" = true) (k_rest : PySem.W.keepIn K (.ref f_rest) = true)
    (a_is_least : PySem.W.nsIn K mainGlobals "_law_is_least" = some (some (.ref f_is_least)))
    (l_is_least : K.lookup f_is_least = some ⟨oc_is_least, od_is_least, .func (PySem.W.fnOf "_law_is_least" "_law_is_least" (defArgs s_is_least) (defBody s_is_least) (defScope s_is_least) .none kV_is_least dc_is_least pm_is_least an_is_least cd_is_least ct_is_least), sl_is_least⟩) (c_is_least : PySem.W.codeIn K cd_is_least "_law_is_least" = true) (k_is_least : PySem.W.keepIn K (.ref f_is_least) = true)
    (a_right : PySem.W.nsIn K mainGlobals "_law_right" = some (some (.ref f_right)))
    (l_right : K.lookup f_right = some ⟨oc_right, od_right, .func (PySem.W.fnOf "_law_right" "_law_right" (defArgs s_right) (defBody s_right) (defScope s_right) .none kV_right dc_right pm_right an_right cd_right ct_right), sl_right⟩) (c_right : PySem.W.codeIn K cd_right "_law_right" = true) (k_right : PySem.W.keepIn K (.ref f_right) = true)
    (a_law : PySem.W.nsIn K mainGlobals "law" = some (some (.ref f_law)))
    (l_law : K.lookup f_law = some ⟨oc_law, od_law, .func (PySem.W.fnOf "law" "law" (defArgs s_law) (defBody s_law) (defScope s_law) .none kV_law dc_law pm_law an_law cd_law ct_law), sl_law⟩) (c_law : PySem.W.codeIn K cd_law "law" = true) (k_law : PySem.W.keepIn K (.ref f_law) = true)
    (z_isinstance : PySem.W.nsIn K mainGlobals "isinstance" = some none)
    (z_int : PySem.W.nsIn K mainGlobals "int" = some none)
    (z_bool : PySem.W.nsIn K mainGlobals "bool" = some none)
    (z_len : PySem.W.nsIn K mainGlobals "len" = some none)
    (z_abs : PySem.W.nsIn K mainGlobals "abs" = some none)
    (z_range : PySem.W.nsIn K mainGlobals "range" = some none)
    (z_all : PySem.W.nsIn K mainGlobals "all" = some none)
    (z_any : PySem.W.nsIn K mainGlobals "any" = some none)
    (z_max : PySem.W.nsIn K mainGlobals "max" = some none)
    (z_min : PySem.W.nsIn K mainGlobals "min" = some none)
    (z_str : PySem.W.nsIn K mainGlobals "str" = some none)
    (z_tuple : PySem.W.nsIn K mainGlobals "tuple" = some none)
    (z_zip : PySem.W.nsIn K mainGlobals "zip" = some none)
    (z_list : PySem.W.nsIn K mainGlobals "list" = some none)
    (z_sorted : PySem.W.nsIn K mainGlobals "sorted" = some none)
    (z_enumerate : PySem.W.nsIn K mainGlobals "enumerate" = some none)
    (z_dict : PySem.W.nsIn K mainGlobals "dict" = some none)
    (g_gcd : PySem.W.nsIn K mainGlobals "gcd" = some (some (.builtin "math.gcd")))
    (g_MOST_PARTS : PySem.W.nsIn K mainGlobals "MOST_PARTS" = some (some (.int 6 tg_MOST_PARTS)))
    (g_MOST_TIES : PySem.W.nsIn K mainGlobals "MOST_TIES" = some (some (.int 10 tg_MOST_TIES)))
    (g_MOST_HOOKS : PySem.W.nsIn K mainGlobals "MOST_HOOKS" = some (some (.int 4 tg_MOST_HOOKS)))
    (g_MOST_STRINGS : PySem.W.nsIn K mainGlobals "MOST_STRINGS" = some (some (.int 6 tg_MOST_STRINGS)))
    (g_MOST_AMOUNT : PySem.W.nsIn K mainGlobals "MOST_AMOUNT" = some (some (.int 1000000 tg_MOST_AMOUNT)))
    (h_n_parts : PySem.W.findIn K (.ref C_Puppet) "parts" = some none)
    (h_n_ties : PySem.W.findIn K (.ref C_Puppet) "ties" = some none)
    (h_n_hooks : PySem.W.findIn K (.ref C_Puppet) "hooks" = some none)
    (h_n_strings : PySem.W.findIn K (.ref C_Puppet) "strings" = some none)
    (h_n_names : PySem.W.findIn K (.ref C_Puppet) "names" = some none)
    (h_n_distances : PySem.W.findIn K (.ref C_Puppet) "distances" = some none)
    (h_nT : PySem.W.findIn K (.ref C_Ratio) "top" = some none)
    (h_nB : PySem.W.findIn K (.ref C_Ratio) "bottom" = some none)
    (h_iA : PySem.W.findIn K (.ref C_Ratio) "__class__" = some (some (.builtin "object.__class__")))
    (h_iN : PySem.W.specialIn K (.builtin "object.__class__") "__get__" = some (some (.builtin "getset_descriptor.__get__")))
    (h_iT : PySem.W.takesIn K (.builtin "object.__class__") = some true)
    (h_iM : PySem.W.mroIn K C_Ratio (.type "object") = some true)
    (h_kRI : PySem.W.kitOne K (.ref C_Ratio) (.type "int") = some false)
    (h_kRR : PySem.W.kitOne K (.ref C_Ratio) (.ref C_Ratio) = some true)
    (h_kIR : PySem.W.kitOne K (.type "int") (.ref C_Ratio) = some false)
    (h_kBR : PySem.W.kitOne K (.type "bool") (.ref C_Ratio) = some false)
    (h_kTR : PySem.W.kitOne K (.type "tuple") (.ref C_Ratio) = some false)
    (h_sf : PySem.W.selfFirst K C_Ratio = true)
    (h_ne : PySem.W.findIn K (.ref C_Ratio) "__ne__" = some (some (.builtin "object.__ne__")))
    (h_ob : PySem.W.subIn K (.ref C_Ratio) (.type "object") = some true)
    (h_sRI : PySem.W.subIn K (.ref C_Ratio) (.type "int") = some false)
    (h_sIR : PySem.W.subIn K (.type "int") (.ref C_Ratio) = some false)
    (h_nfI : PySem.W.notFirst K C_Ratio (.type "int") = true)
    (h_nfB : PySem.W.notFirst K C_Ratio (.type "bool") = true)
    (h_nfT : PySem.W.notFirst K C_Ratio (.type "tuple") = true)
    (h_nfR : PySem.W.notFirst K C_Ratio (.ref C_Ratio) = true)
    (h_iAdd : PySem.W.findIn K (.type "int") "__add__" = some xiAdd)
    (h_iRadd : PySem.W.findIn K (.type "int") "__radd__" = some xiRadd)
    (h_iSub : PySem.W.findIn K (.type "int") "__sub__" = some xiSub)
    (h_iRsub : PySem.W.findIn K (.type "int") "__rsub__" = some xiRsub)
    (h_iMul : PySem.W.findIn K (.type "int") "__mul__" = some xiMul)
    (h_iRmul : PySem.W.findIn K (.type "int") "__rmul__" = some xiRmul) :
    ∃ a : Ad, Txt K mg a :=
  ⟨{ k_MOST_PARTS := tg_MOST_PARTS, k_MOST_TIES := tg_MOST_TIES, k_MOST_HOOKS := tg_MOST_HOOKS, k_MOST_STRINGS := tg_MOST_STRINGS, k_MOST_AMOUNT := tg_MOST_AMOUNT, C_Puppet := C_Puppet, C_Ratio := C_Ratio, f_is_whole := f_is_whole, d_is_whole := PySem.W.fnOf "is_whole" "is_whole" (defArgs s_is_whole) (defBody s_is_whole) (defScope s_is_whole) .none kV_is_whole dc_is_whole pm_is_whole an_is_whole cd_is_whole ct_is_whole, f_is_number := f_is_number, d_is_number := PySem.W.fnOf "is_number" "is_number" (defArgs s_is_number) (defBody s_is_number) (defScope s_is_number) .none kV_is_number dc_is_number pm_is_number an_is_number cd_is_number ct_is_number, f_is_small_letter := f_is_small_letter, d_is_small_letter := PySem.W.fnOf "is_small_letter" "is_small_letter" (defArgs s_is_small_letter) (defBody s_is_small_letter) (defScope s_is_small_letter) .none kV_is_small_letter dc_is_small_letter pm_is_small_letter an_is_small_letter cd_is_small_letter ct_is_small_letter, f_is_capital := f_is_capital, d_is_capital := PySem.W.fnOf "is_capital" "is_capital" (defArgs s_is_capital) (defBody s_is_capital) (defScope s_is_capital) .none kV_is_capital dc_is_capital pm_is_capital an_is_capital cd_is_capital ct_is_capital, f_is_word := f_is_word, d_is_word := PySem.W.fnOf "is_word" "is_word" (defArgs s_is_word) (defBody s_is_word) (defScope s_is_word) .none kV_is_word dc_is_word pm_is_word an_is_word cd_is_word ct_is_word, f_is_row := f_is_row, d_is_row := PySem.W.fnOf "is_row" "is_row" (defArgs s_is_row) (defBody s_is_row) (defScope s_is_row) .none kV_is_row dc_is_row pm_is_row an_is_row cd_is_row ct_is_row, f_is_rising := f_is_rising, d_is_rising := PySem.W.fnOf "is_rising" "is_rising" (defArgs s_is_rising) (defBody s_is_rising) (defScope s_is_rising) .none kV_is_rising dc_is_rising pm_is_rising an_is_rising cd_is_rising ct_is_rising, f_are_capitals := f_are_capitals, d_are_capitals := PySem.W.fnOf "are_capitals" "are_capitals" (defArgs s_are_capitals) (defBody s_are_capitals) (defScope s_are_capitals) .none kV_are_capitals dc_are_capitals pm_are_capitals an_are_capitals cd_are_capitals ct_are_capitals, f_is_one_of := f_is_one_of, d_is_one_of := PySem.W.fnOf "is_one_of" "is_one_of" (defArgs s_is_one_of) (defBody s_is_one_of) (defScope s_is_one_of) .none kV_is_one_of dc_is_one_of pm_is_one_of an_is_one_of cd_is_one_of ct_is_one_of, f_has_just := f_has_just, d_has_just := PySem.W.fnOf "has_just" "has_just" (defArgs s_has_just) (defBody s_has_just) (defScope s_has_just) .none kV_has_just dc_has_just pm_has_just an_has_just cd_has_just ct_has_just, f_Ratio_init := f_Ratio_init, d_Ratio_init := PySem.W.fnOf "__init__" "Ratio.__init__" (defArgs s_Ratio_init) (defBody s_Ratio_init) (defScope s_Ratio_init) (.ref T_Ratio_init) kV_Ratio_init dc_Ratio_init pm_Ratio_init an_Ratio_init cd_Ratio_init ct_Ratio_init, f_Ratio_eq := f_Ratio_eq, d_Ratio_eq := PySem.W.fnOf "__eq__" "Ratio.__eq__" (defArgs s_Ratio_eq) (defBody s_Ratio_eq) (defScope s_Ratio_eq) .none kV_Ratio_eq dc_Ratio_eq pm_Ratio_eq an_Ratio_eq cd_Ratio_eq ct_Ratio_eq, f_Ratio_neg := f_Ratio_neg, d_Ratio_neg := PySem.W.fnOf "__neg__" "Ratio.__neg__" (defArgs s_Ratio_neg) (defBody s_Ratio_neg) (defScope s_Ratio_neg) .none kV_Ratio_neg dc_Ratio_neg pm_Ratio_neg an_Ratio_neg cd_Ratio_neg ct_Ratio_neg, f_Ratio_add := f_Ratio_add, d_Ratio_add := PySem.W.fnOf "__add__" "Ratio.__add__" (defArgs s_Ratio_add) (defBody s_Ratio_add) (defScope s_Ratio_add) .none kV_Ratio_add dc_Ratio_add pm_Ratio_add an_Ratio_add cd_Ratio_add ct_Ratio_add, f_Ratio_radd := f_Ratio_radd, d_Ratio_radd := PySem.W.fnOf "__radd__" "Ratio.__radd__" (defArgs s_Ratio_radd) (defBody s_Ratio_radd) (defScope s_Ratio_radd) .none kV_Ratio_radd dc_Ratio_radd pm_Ratio_radd an_Ratio_radd cd_Ratio_radd ct_Ratio_radd, f_Ratio_sub := f_Ratio_sub, d_Ratio_sub := PySem.W.fnOf "__sub__" "Ratio.__sub__" (defArgs s_Ratio_sub) (defBody s_Ratio_sub) (defScope s_Ratio_sub) .none kV_Ratio_sub dc_Ratio_sub pm_Ratio_sub an_Ratio_sub cd_Ratio_sub ct_Ratio_sub, f_Ratio_rsub := f_Ratio_rsub, d_Ratio_rsub := PySem.W.fnOf "__rsub__" "Ratio.__rsub__" (defArgs s_Ratio_rsub) (defBody s_Ratio_rsub) (defScope s_Ratio_rsub) .none kV_Ratio_rsub dc_Ratio_rsub pm_Ratio_rsub an_Ratio_rsub cd_Ratio_rsub ct_Ratio_rsub, f_Ratio_mul := f_Ratio_mul, d_Ratio_mul := PySem.W.fnOf "__mul__" "Ratio.__mul__" (defArgs s_Ratio_mul) (defBody s_Ratio_mul) (defScope s_Ratio_mul) .none kV_Ratio_mul dc_Ratio_mul pm_Ratio_mul an_Ratio_mul cd_Ratio_mul ct_Ratio_mul, f_Ratio_rmul := f_Ratio_rmul, d_Ratio_rmul := PySem.W.fnOf "__rmul__" "Ratio.__rmul__" (defArgs s_Ratio_rmul) (defBody s_Ratio_rmul) (defScope s_Ratio_rmul) .none kV_Ratio_rmul dc_Ratio_rmul pm_Ratio_rmul an_Ratio_rmul cd_Ratio_rmul ct_Ratio_rmul, f_Ratio_compared := f_Ratio_compared, d_Ratio_compared := PySem.W.fnOf "compared" "Ratio.compared" (defArgs s_Ratio_compared) (defBody s_Ratio_compared) (defScope s_Ratio_compared) .none kV_Ratio_compared dc_Ratio_compared pm_Ratio_compared an_Ratio_compared cd_Ratio_compared ct_Ratio_compared, f_is_fraction := f_is_fraction, d_is_fraction := PySem.W.fnOf "is_fraction" "is_fraction" (defArgs s_is_fraction) (defBody s_is_fraction) (defScope s_is_fraction) .none kV_is_fraction dc_is_fraction pm_is_fraction an_is_fraction cd_is_fraction ct_is_fraction, f_as_ratio := f_as_ratio, d_as_ratio := PySem.W.fnOf "as_ratio" "as_ratio" (defArgs s_as_ratio) (defBody s_as_ratio) (defScope s_as_ratio) .none kV_as_ratio dc_as_ratio pm_as_ratio an_as_ratio cd_as_ratio ct_as_ratio, f_is_length := f_is_length, d_is_length := PySem.W.fnOf "is_length" "is_length" (defArgs s_is_length) (defBody s_is_length) (defScope s_is_length) .none kV_is_length dc_is_length pm_is_length an_is_length cd_is_length ct_is_length, f_are_lengths := f_are_lengths, d_are_lengths := PySem.W.fnOf "are_lengths" "are_lengths" (defArgs s_are_lengths) (defBody s_are_lengths) (defScope s_are_lengths) .none kV_are_lengths dc_are_lengths pm_are_lengths an_are_lengths cd_are_lengths ct_are_lengths, f_are_heights := f_are_heights, d_are_heights := PySem.W.fnOf "are_heights" "are_heights" (defArgs s_are_heights) (defBody s_are_heights) (defScope s_are_heights) .none kV_are_heights dc_are_heights pm_are_heights an_are_heights cd_are_heights ct_are_heights, f_greatest_of := f_greatest_of, d_greatest_of := PySem.W.fnOf "greatest_of" "greatest_of" (defArgs s_greatest_of) (defBody s_greatest_of) (defScope s_greatest_of) .none kV_greatest_of dc_greatest_of pm_greatest_of an_greatest_of cd_greatest_of ct_greatest_of, f_Puppet_init := f_Puppet_init, d_Puppet_init := PySem.W.fnOf "__init__" "Puppet.__init__" (defArgs s_Puppet_init) (defBody s_Puppet_init) (defScope s_Puppet_init) .none kV_Puppet_init dc_Puppet_init pm_Puppet_init an_Puppet_init cd_Puppet_init ct_Puppet_init, f_check_parts := f_check_parts, d_check_parts := PySem.W.fnOf "check_parts" "check_parts" (defArgs s_check_parts) (defBody s_check_parts) (defScope s_check_parts) .none kV_check_parts dc_check_parts pm_check_parts an_check_parts cd_check_parts ct_check_parts, f_check_ties := f_check_ties, d_check_ties := PySem.W.fnOf "check_ties" "check_ties" (defArgs s_check_ties) (defBody s_check_ties) (defScope s_check_ties) .none kV_check_ties dc_check_ties pm_check_ties an_check_ties cd_check_ties ct_check_ties, f_is_tie := f_is_tie, d_is_tie := PySem.W.fnOf "is_tie" "is_tie" (defArgs s_is_tie) (defBody s_is_tie) (defScope s_is_tie) .none kV_is_tie dc_is_tie pm_is_tie an_is_tie cd_is_tie ct_is_tie, f_is_tied := f_is_tied, d_is_tied := PySem.W.fnOf "is_tied" "is_tied" (defArgs s_is_tied) (defBody s_is_tied) (defScope s_is_tied) .none kV_is_tied dc_is_tied pm_is_tied an_is_tied cd_is_tied ct_is_tied, f_check_strings := f_check_strings, d_check_strings := PySem.W.fnOf "check_strings" "check_strings" (defArgs s_check_strings) (defBody s_check_strings) (defScope s_check_strings) .none kV_check_strings dc_check_strings pm_check_strings an_check_strings cd_check_strings ct_check_strings, f_is_string := f_is_string, d_is_string := PySem.W.fnOf "is_string" "is_string" (defArgs s_is_string) (defBody s_is_string) (defScope s_is_string) .none kV_is_string dc_is_string pm_is_string an_is_string cd_is_string ct_is_string, f_distances_of := f_distances_of, d_distances_of := PySem.W.fnOf "distances_of" "distances_of" (defArgs s_distances_of) (defBody s_distances_of) (defScope s_distances_of) .none kV_distances_of dc_distances_of pm_distances_of an_distances_of cd_distances_of ct_distances_of, f_shorten := f_shorten, d_shorten := PySem.W.fnOf "shorten" "shorten" (defArgs s_shorten) (defBody s_shorten) (defScope s_shorten) .none kV_shorten dc_shorten pm_shorten an_shorten cd_shorten ct_shorten, f_Puppet_pulls := f_Puppet_pulls, d_Puppet_pulls := PySem.W.fnOf "pulls" "Puppet.pulls" (defArgs s_Puppet_pulls) (defBody s_Puppet_pulls) (defScope s_Puppet_pulls) .none kV_Puppet_pulls dc_Puppet_pulls pm_Puppet_pulls an_Puppet_pulls cd_Puppet_pulls ct_Puppet_pulls, f_Puppet_heights := f_Puppet_heights, d_Puppet_heights := PySem.W.fnOf "heights" "Puppet.heights" (defArgs s_Puppet_heights) (defBody s_Puppet_heights) (defScope s_Puppet_heights) .none kV_Puppet_heights dc_Puppet_heights pm_Puppet_heights an_Puppet_heights cd_Puppet_heights ct_Puppet_heights, f_Puppet_check_told := f_Puppet_check_told, d_Puppet_check_told := PySem.W.fnOf "check_told" "Puppet.check_told" (defArgs s_Puppet_check_told) (defBody s_Puppet_check_told) (defScope s_Puppet_check_told) .none kV_Puppet_check_told dc_Puppet_check_told pm_Puppet_check_told an_Puppet_check_told cd_Puppet_check_told ct_Puppet_check_told, f_Puppet_holding := f_Puppet_holding, d_Puppet_holding := PySem.W.fnOf "holding" "Puppet.holding" (defArgs s_Puppet_holding) (defBody s_Puppet_holding) (defScope s_Puppet_holding) .none kV_Puppet_holding dc_Puppet_holding pm_Puppet_holding an_Puppet_holding cd_Puppet_holding ct_Puppet_holding, f_bag := f_bag, d_bag := PySem.W.fnOf "_law_bag" "_law_bag" (defArgs s_bag) (defBody s_bag) (defScope s_bag) .none kV_bag dc_bag pm_bag an_bag cd_bag ct_bag, f_draw := f_draw, d_draw := PySem.W.fnOf "_law_draw" "_law_draw" (defArgs s_draw) (defBody s_draw) (defScope s_draw) .none kV_draw dc_draw pm_draw an_draw cd_draw ct_draw, f_one := f_one, d_one := PySem.W.fnOf "_law_one" "_law_one" (defArgs s_one) (defBody s_one) (defScope s_one) .none kV_one dc_one pm_one an_one cd_one ct_one, f_words := f_words, d_words := PySem.W.fnOf "_law_words" "_law_words" (defArgs s_words) (defBody s_words) (defScope s_words) .none kV_words dc_words pm_words an_words cd_words ct_words, f_letters := f_letters, d_letters := PySem.W.fnOf "_law_letters" "_law_letters" (defArgs s_letters) (defBody s_letters) (defScope s_letters) .none kV_letters dc_letters pm_letters an_letters cd_letters ct_letters, f_cords := f_cords, d_cords := PySem.W.fnOf "_law_cords" "_law_cords" (defArgs s_cords) (defBody s_cords) (defScope s_cords) .none kV_cords dc_cords pm_cords an_cords cd_cords ct_cords, f_shape := f_shape, d_shape := PySem.W.fnOf "_law_shape" "_law_shape" (defArgs s_shape) (defBody s_shape) (defScope s_shape) .none kV_shape dc_shape pm_shape an_shape cd_shape ct_shape, f_longs := f_longs, d_longs := PySem.W.fnOf "_law_longs" "_law_longs" (defArgs s_longs) (defBody s_longs) (defScope s_longs) .none kV_longs dc_longs pm_longs an_longs cd_longs ct_longs, f_passed := f_passed, d_passed := PySem.W.fnOf "_law_passed" "_law_passed" (defArgs s_passed) (defBody s_passed) (defScope s_passed) .none kV_passed dc_passed pm_passed an_passed cd_passed ct_passed, f_turned := f_turned, d_turned := PySem.W.fnOf "_law_turned" "_law_turned" (defArgs s_turned) (defBody s_turned) (defScope s_turned) .none kV_turned dc_turned pm_turned an_turned cd_turned ct_turned, f_rest := f_rest, d_rest := PySem.W.fnOf "_law_rest" "_law_rest" (defArgs s_rest) (defBody s_rest) (defScope s_rest) .none kV_rest dc_rest pm_rest an_rest cd_rest ct_rest, f_is_least := f_is_least, d_is_least := PySem.W.fnOf "_law_is_least" "_law_is_least" (defArgs s_is_least) (defBody s_is_least) (defScope s_is_least) .none kV_is_least dc_is_least pm_is_least an_is_least cd_is_least ct_is_least, f_right := f_right, d_right := PySem.W.fnOf "_law_right" "_law_right" (defArgs s_right) (defBody s_right) (defScope s_right) .none kV_right dc_right pm_right an_right cd_right ct_right, f_law := f_law, d_law := PySem.W.fnOf "law" "law" (defArgs s_law) (defBody s_law) (defScope s_law) .none kV_law dc_law pm_law an_law cd_law ct_law : Ad }, {
    F_is_whole := fun_mk (st := s_is_whole) l_is_whole c_is_whole k_is_whole,
    b_is_whole := (fun_mk (st := s_is_whole) l_is_whole c_is_whole k_is_whole).binds (ps := ["value"]) fun _ _ _ _ _ _ us hl => match us, hl with | [_], _ => rfl,
    m_is_whole := PySem.W.mg_of X G a_is_whole,
    F_is_number := fun_mk (st := s_is_number) l_is_number c_is_number k_is_number,
    b_is_number := (fun_mk (st := s_is_number) l_is_number c_is_number k_is_number).binds (ps := ["value"]) fun _ _ _ _ _ _ us hl => match us, hl with | [_], _ => rfl,
    m_is_number := PySem.W.mg_of X G a_is_number,
    F_is_small_letter := fun_mk (st := s_is_small_letter) l_is_small_letter c_is_small_letter k_is_small_letter,
    b_is_small_letter := (fun_mk (st := s_is_small_letter) l_is_small_letter c_is_small_letter k_is_small_letter).binds (ps := ["value"]) fun _ _ _ _ _ _ us hl => match us, hl with | [_], _ => rfl,
    m_is_small_letter := PySem.W.mg_of X G a_is_small_letter,
    F_is_capital := fun_mk (st := s_is_capital) l_is_capital c_is_capital k_is_capital,
    b_is_capital := (fun_mk (st := s_is_capital) l_is_capital c_is_capital k_is_capital).binds (ps := ["value"]) fun _ _ _ _ _ _ us hl => match us, hl with | [_], _ => rfl,
    m_is_capital := PySem.W.mg_of X G a_is_capital,
    F_is_word := fun_mk (st := s_is_word) l_is_word c_is_word k_is_word,
    b_is_word := (fun_mk (st := s_is_word) l_is_word c_is_word k_is_word).binds (ps := ["value"]) fun _ _ _ _ _ _ us hl => match us, hl with | [_], _ => rfl,
    m_is_word := PySem.W.mg_of X G a_is_word,
    F_is_row := fun_mk (st := s_is_row) l_is_row c_is_row k_is_row,
    b_is_row := (fun_mk (st := s_is_row) l_is_row c_is_row k_is_row).binds (ps := ["value", "least", "most"]) fun _ _ _ _ _ _ us hl => match us, hl with | [_, _, _], _ => rfl,
    m_is_row := PySem.W.mg_of X G a_is_row,
    F_is_rising := fun_mk (st := s_is_rising) l_is_rising c_is_rising k_is_rising,
    b_is_rising := (fun_mk (st := s_is_rising) l_is_rising c_is_rising k_is_rising).binds (ps := ["signs"]) fun _ _ _ _ _ _ us hl => match us, hl with | [_], _ => rfl,
    m_is_rising := PySem.W.mg_of X G a_is_rising,
    F_are_capitals := fun_mk (st := s_are_capitals) l_are_capitals c_are_capitals k_are_capitals,
    b_are_capitals := (fun_mk (st := s_are_capitals) l_are_capitals c_are_capitals k_are_capitals).binds (ps := ["value", "most"]) fun _ _ _ _ _ _ us hl => match us, hl with | [_, _], _ => rfl,
    m_are_capitals := PySem.W.mg_of X G a_are_capitals,
    F_is_one_of := fun_mk (st := s_is_one_of) l_is_one_of c_is_one_of k_is_one_of,
    b_is_one_of := (fun_mk (st := s_is_one_of) l_is_one_of c_is_one_of k_is_one_of).binds (ps := ["value", "strings"]) fun _ _ _ _ _ _ us hl => match us, hl with | [_, _], _ => rfl,
    m_is_one_of := PySem.W.mg_of X G a_is_one_of,
    F_has_just := fun_mk (st := s_has_just) l_has_just c_has_just k_has_just,
    b_has_just := (fun_mk (st := s_has_just) l_has_just c_has_just k_has_just).binds (ps := ["value", "names"]) fun _ _ _ _ _ _ us hl => match us, hl with | [_, _], _ => rfl,
    m_has_just := PySem.W.mg_of X G a_has_just,
    F_Ratio_init := ⟨⟨_, _, _, _, _, _, _, _, _, _, rfl, l_Ratio_init, c_Ratio_init, .inr ⟨(fun h => nomatch h), _, _, [.int 1 tk0], _, rfl, t_Ratio_init, rfl, .cons ⟨_, rfl⟩ (.nil)⟩, .inl rfl⟩, k_Ratio_init⟩,
    me_Ratio_init := ⟨a_Ratio_init, i_Ratio_init, k_Ratio_init⟩,
    F_Ratio_eq := fun_mk (st := s_Ratio_eq) l_Ratio_eq c_Ratio_eq k_Ratio_eq,
    b_Ratio_eq := (fun_mk (st := s_Ratio_eq) l_Ratio_eq c_Ratio_eq k_Ratio_eq).binds (ps := ["self", "other"]) fun _ _ _ _ _ _ us hl => match us, hl with | [_, _], _ => rfl,
    me_Ratio_eq := ⟨a_Ratio_eq, i_Ratio_eq, k_Ratio_eq⟩,
    F_Ratio_neg := fun_mk (st := s_Ratio_neg) l_Ratio_neg c_Ratio_neg k_Ratio_neg,
    b_Ratio_neg := (fun_mk (st := s_Ratio_neg) l_Ratio_neg c_Ratio_neg k_Ratio_neg).binds (ps := ["self"]) fun _ _ _ _ _ _ us hl => match us, hl with | [_], _ => rfl,
    me_Ratio_neg := ⟨a_Ratio_neg, i_Ratio_neg, k_Ratio_neg⟩,
    F_Ratio_add := fun_mk (st := s_Ratio_add) l_Ratio_add c_Ratio_add k_Ratio_add,
    b_Ratio_add := (fun_mk (st := s_Ratio_add) l_Ratio_add c_Ratio_add k_Ratio_add).binds (ps := ["self", "other"]) fun _ _ _ _ _ _ us hl => match us, hl with | [_, _], _ => rfl,
    me_Ratio_add := ⟨a_Ratio_add, i_Ratio_add, k_Ratio_add⟩,
    F_Ratio_radd := fun_mk (st := s_Ratio_radd) l_Ratio_radd c_Ratio_radd k_Ratio_radd,
    b_Ratio_radd := (fun_mk (st := s_Ratio_radd) l_Ratio_radd c_Ratio_radd k_Ratio_radd).binds (ps := ["self", "other"]) fun _ _ _ _ _ _ us hl => match us, hl with | [_, _], _ => rfl,
    me_Ratio_radd := ⟨a_Ratio_radd, i_Ratio_radd, k_Ratio_radd⟩,
    F_Ratio_sub := fun_mk (st := s_Ratio_sub) l_Ratio_sub c_Ratio_sub k_Ratio_sub,
    b_Ratio_sub := (fun_mk (st := s_Ratio_sub) l_Ratio_sub c_Ratio_sub k_Ratio_sub).binds (ps := ["self", "other"]) fun _ _ _ _ _ _ us hl => match us, hl with | [_, _], _ => rfl,
    me_Ratio_sub := ⟨a_Ratio_sub, i_Ratio_sub, k_Ratio_sub⟩,
    F_Ratio_rsub := fun_mk (st := s_Ratio_rsub) l_Ratio_rsub c_Ratio_rsub k_Ratio_rsub,
    b_Ratio_rsub := (fun_mk (st := s_Ratio_rsub) l_Ratio_rsub c_Ratio_rsub k_Ratio_rsub).binds (ps := ["self", "other"]) fun _ _ _ _ _ _ us hl => match us, hl with | [_, _], _ => rfl,
    me_Ratio_rsub := ⟨a_Ratio_rsub, i_Ratio_rsub, k_Ratio_rsub⟩,
    F_Ratio_mul := fun_mk (st := s_Ratio_mul) l_Ratio_mul c_Ratio_mul k_Ratio_mul,
    b_Ratio_mul := (fun_mk (st := s_Ratio_mul) l_Ratio_mul c_Ratio_mul k_Ratio_mul).binds (ps := ["self", "other"]) fun _ _ _ _ _ _ us hl => match us, hl with | [_, _], _ => rfl,
    me_Ratio_mul := ⟨a_Ratio_mul, i_Ratio_mul, k_Ratio_mul⟩,
    F_Ratio_rmul := fun_mk (st := s_Ratio_rmul) l_Ratio_rmul c_Ratio_rmul k_Ratio_rmul,
    b_Ratio_rmul := (fun_mk (st := s_Ratio_rmul) l_Ratio_rmul c_Ratio_rmul k_Ratio_rmul).binds (ps := ["self", "other"]) fun _ _ _ _ _ _ us hl => match us, hl with | [_, _], _ => rfl,
    me_Ratio_rmul := ⟨a_Ratio_rmul, i_Ratio_rmul, k_Ratio_rmul⟩,
    F_Ratio_compared := fun_mk (st := s_Ratio_compared) l_Ratio_compared c_Ratio_compared k_Ratio_compared,
    b_Ratio_compared := (fun_mk (st := s_Ratio_compared) l_Ratio_compared c_Ratio_compared k_Ratio_compared).binds (ps := ["self", "other"]) fun _ _ _ _ _ _ us hl => match us, hl with | [_, _], _ => rfl,
    me_Ratio_compared := ⟨a_Ratio_compared, i_Ratio_compared, k_Ratio_compared⟩,
    F_is_fraction := fun_mk (st := s_is_fraction) l_is_fraction c_is_fraction k_is_fraction,
    b_is_fraction := (fun_mk (st := s_is_fraction) l_is_fraction c_is_fraction k_is_fraction).binds (ps := ["value"]) fun _ _ _ _ _ _ us hl => match us, hl with | [_], _ => rfl,
    m_is_fraction := PySem.W.mg_of X G a_is_fraction,
    F_as_ratio := fun_mk (st := s_as_ratio) l_as_ratio c_as_ratio k_as_ratio,
    b_as_ratio := (fun_mk (st := s_as_ratio) l_as_ratio c_as_ratio k_as_ratio).binds (ps := ["fraction"]) fun _ _ _ _ _ _ us hl => match us, hl with | [_], _ => rfl,
    m_as_ratio := PySem.W.mg_of X G a_as_ratio,
    F_is_length := fun_mk (st := s_is_length) l_is_length c_is_length k_is_length,
    b_is_length := (fun_mk (st := s_is_length) l_is_length c_is_length k_is_length).binds (ps := ["value"]) fun _ _ _ _ _ _ us hl => match us, hl with | [_], _ => rfl,
    m_is_length := PySem.W.mg_of X G a_is_length,
    F_are_lengths := fun_mk (st := s_are_lengths) l_are_lengths c_are_lengths k_are_lengths,
    b_are_lengths := (fun_mk (st := s_are_lengths) l_are_lengths c_are_lengths k_are_lengths).binds (ps := ["value", "names"]) fun _ _ _ _ _ _ us hl => match us, hl with | [_, _], _ => rfl,
    m_are_lengths := PySem.W.mg_of X G a_are_lengths,
    F_are_heights := fun_mk (st := s_are_heights) l_are_heights c_are_heights k_are_heights,
    b_are_heights := (fun_mk (st := s_are_heights) l_are_heights c_are_heights k_are_heights).binds (ps := ["value", "hooks"]) fun _ _ _ _ _ _ us hl => match us, hl with | [_, _], _ => rfl,
    m_are_heights := PySem.W.mg_of X G a_are_heights,
    F_greatest_of := fun_mk (st := s_greatest_of) l_greatest_of c_greatest_of k_greatest_of,
    b_greatest_of := (fun_mk (st := s_greatest_of) l_greatest_of c_greatest_of k_greatest_of).binds (ps := ["ratios"]) fun _ _ _ _ _ _ us hl => match us, hl with | [_], _ => rfl,
    m_greatest_of := PySem.W.mg_of X G a_greatest_of,
    F_Puppet_init := fun_mk (st := s_Puppet_init) l_Puppet_init c_Puppet_init k_Puppet_init,
    b_Puppet_init := (fun_mk (st := s_Puppet_init) l_Puppet_init c_Puppet_init k_Puppet_init).binds (ps := ["self", "parts", "ties", "hooks", "strings"]) fun _ _ _ _ _ _ us hl => match us, hl with | [_, _, _, _, _], _ => rfl,
    me_Puppet_init := ⟨a_Puppet_init, i_Puppet_init, k_Puppet_init⟩,
    F_check_parts := fun_mk (st := s_check_parts) l_check_parts c_check_parts k_check_parts,
    b_check_parts := (fun_mk (st := s_check_parts) l_check_parts c_check_parts k_check_parts).binds (ps := ["parts"]) fun _ _ _ _ _ _ us hl => match us, hl with | [_], _ => rfl,
    m_check_parts := PySem.W.mg_of X G a_check_parts,
    F_check_ties := fun_mk (st := s_check_ties) l_check_ties c_check_ties k_check_ties,
    b_check_ties := (fun_mk (st := s_check_ties) l_check_ties c_check_ties k_check_ties).binds (ps := ["ties", "parts"]) fun _ _ _ _ _ _ us hl => match us, hl with | [_, _], _ => rfl,
    m_check_ties := PySem.W.mg_of X G a_check_ties,
    F_is_tie := fun_mk (st := s_is_tie) l_is_tie c_is_tie k_is_tie,
    b_is_tie := (fun_mk (st := s_is_tie) l_is_tie c_is_tie k_is_tie).binds (ps := ["value", "parts"]) fun _ _ _ _ _ _ us hl => match us, hl with | [_, _], _ => rfl,
    m_is_tie := PySem.W.mg_of X G a_is_tie,
    F_is_tied := fun_mk (st := s_is_tied) l_is_tied c_is_tied k_is_tied,
    b_is_tied := (fun_mk (st := s_is_tied) l_is_tied c_is_tied k_is_tied).binds (ps := ["part", "other", "ties"]) fun _ _ _ _ _ _ us hl => match us, hl with | [_, _, _], _ => rfl,
    m_is_tied := PySem.W.mg_of X G a_is_tied,
    F_check_strings := fun_mk (st := s_check_strings) l_check_strings c_check_strings k_check_strings,
    b_check_strings := (fun_mk (st := s_check_strings) l_check_strings c_check_strings k_check_strings).binds (ps := ["strings", "hooks", "parts"]) fun _ _ _ _ _ _ us hl => match us, hl with | [_, _, _], _ => rfl,
    m_check_strings := PySem.W.mg_of X G a_check_strings,
    F_is_string := fun_mk (st := s_is_string) l_is_string c_is_string k_is_string,
    b_is_string := (fun_mk (st := s_is_string) l_is_string c_is_string k_is_string).binds (ps := ["value", "hooks", "parts"]) fun _ _ _ _ _ _ us hl => match us, hl with | [_, _, _], _ => rfl,
    m_is_string := PySem.W.mg_of X G a_is_string,
    F_distances_of := fun_mk (st := s_distances_of) l_distances_of c_distances_of k_distances_of,
    b_distances_of := (fun_mk (st := s_distances_of) l_distances_of c_distances_of k_distances_of).binds (ps := ["parts", "ties"]) fun _ _ _ _ _ _ us hl => match us, hl with | [_, _], _ => rfl,
    m_distances_of := PySem.W.mg_of X G a_distances_of,
    F_shorten := fun_mk (st := s_shorten) l_shorten c_shorten k_shorten,
    b_shorten := (fun_mk (st := s_shorten) l_shorten c_shorten k_shorten).binds (ps := ["distances", "part", "middle", "other"]) fun _ _ _ _ _ _ us hl => match us, hl with | [_, _, _, _], _ => rfl,
    m_shorten := PySem.W.mg_of X G a_shorten,
    F_Puppet_pulls := fun_mk (st := s_Puppet_pulls) l_Puppet_pulls c_Puppet_pulls k_Puppet_pulls,
    b_Puppet_pulls := (fun_mk (st := s_Puppet_pulls) l_Puppet_pulls c_Puppet_pulls k_Puppet_pulls).binds (ps := ["self", "part"]) fun _ _ _ _ _ _ us hl => match us, hl with | [_, _], _ => rfl,
    me_Puppet_pulls := ⟨a_Puppet_pulls, i_Puppet_pulls, k_Puppet_pulls⟩,
    F_Puppet_heights := fun_mk (st := s_Puppet_heights) l_Puppet_heights c_Puppet_heights k_Puppet_heights,
    b_Puppet_heights := (fun_mk (st := s_Puppet_heights) l_Puppet_heights c_Puppet_heights k_Puppet_heights).binds (ps := ["self", "hooks", "lengths"]) fun _ _ _ _ _ _ us hl => match us, hl with | [_, _, _], _ => rfl,
    me_Puppet_heights := ⟨a_Puppet_heights, i_Puppet_heights, k_Puppet_heights⟩,
    F_Puppet_check_told := fun_mk (st := s_Puppet_check_told) l_Puppet_check_told c_Puppet_check_told k_Puppet_check_told,
    b_Puppet_check_told := (fun_mk (st := s_Puppet_check_told) l_Puppet_check_told c_Puppet_check_told k_Puppet_check_told).binds (ps := ["self", "hooks", "lengths"]) fun _ _ _ _ _ _ us hl => match us, hl with | [_, _, _], _ => rfl,
    me_Puppet_check_told := ⟨a_Puppet_check_told, i_Puppet_check_told, k_Puppet_check_told⟩,
    F_Puppet_holding := fun_mk (st := s_Puppet_holding) l_Puppet_holding c_Puppet_holding k_Puppet_holding,
    b_Puppet_holding := (fun_mk (st := s_Puppet_holding) l_Puppet_holding c_Puppet_holding k_Puppet_holding).binds (ps := ["self", "part", "hooks", "lengths"]) fun _ _ _ _ _ _ us hl => match us, hl with | [_, _, _, _], _ => rfl,
    me_Puppet_holding := ⟨a_Puppet_holding, i_Puppet_holding, k_Puppet_holding⟩,
    F_bag := fun_mk (st := s_bag) l_bag c_bag k_bag,
    b_bag := (fun_mk (st := s_bag) l_bag c_bag k_bag).binds (ps := ["_law_cells", "_law_k"]) fun _ _ _ _ _ _ us hl => match us, hl with | [_, _], _ => rfl,
    m_bag := PySem.W.mg_of X G a_bag,
    F_draw := fun_mk (st := s_draw) l_draw c_draw k_draw,
    b_draw := (fun_mk (st := s_draw) l_draw c_draw k_draw).binds (ps := ["_law_bag_here", "_law_wide"]) fun _ _ _ _ _ _ us hl => match us, hl with | [_, _], _ => rfl,
    m_draw := PySem.W.mg_of X G a_draw,
    F_one := fun_mk (st := s_one) l_one c_one k_one,
    b_one := (fun_mk (st := s_one) l_one c_one k_one).binds (ps := ["_law_bag_here", "_law_some"]) fun _ _ _ _ _ _ us hl => match us, hl with | [_, _], _ => rfl,
    m_one := PySem.W.mg_of X G a_one,
    F_words := fun_mk (st := s_words) l_words c_words k_words,
    b_words := (fun_mk (st := s_words) l_words c_words k_words).binds (ps := ["_law_bag_here", "_law_many"]) fun _ _ _ _ _ _ us hl => match us, hl with | [_, _], _ => rfl,
    m_words := PySem.W.mg_of X G a_words,
    F_letters := fun_mk (st := s_letters) l_letters c_letters k_letters,
    b_letters := (fun_mk (st := s_letters) l_letters c_letters k_letters).binds (ps := ["_law_bag_here", "_law_pool", "_law_many"]) fun _ _ _ _ _ _ us hl => match us, hl with | [_, _, _], _ => rfl,
    m_letters := PySem.W.mg_of X G a_letters,
    F_cords := fun_mk (st := s_cords) l_cords c_cords k_cords,
    b_cords := (fun_mk (st := s_cords) l_cords c_cords k_cords).binds (ps := ["_law_bag_here", "_law_limbs"]) fun _ _ _ _ _ _ us hl => match us, hl with | [_, _], _ => rfl,
    m_cords := PySem.W.mg_of X G a_cords,
    F_shape := fun_mk (st := s_shape) l_shape c_shape k_shape,
    b_shape := (fun_mk (st := s_shape) l_shape c_shape k_shape).binds (ps := ["_law_bag_here"]) fun _ _ _ _ _ _ us hl => match us, hl with | [_], _ => rfl,
    m_shape := PySem.W.mg_of X G a_shape,
    F_longs := fun_mk (st := s_longs) l_longs c_longs k_longs,
    b_longs := (fun_mk (st := s_longs) l_longs c_longs k_longs).binds (ps := ["_law_bag_here", "_law_shape_here"]) fun _ _ _ _ _ _ us hl => match us, hl with | [_, _], _ => rfl,
    m_longs := PySem.W.mg_of X G a_longs,
    F_passed := fun_mk (st := s_passed) l_passed c_passed k_passed,
    b_passed := (fun_mk (st := s_passed) l_passed c_passed k_passed).binds (ps := ["_law_longs_here"]) fun _ _ _ _ _ _ us hl => match us, hl with | [_], _ => rfl,
    m_passed := PySem.W.mg_of X G a_passed,
    F_turned := fun_mk (st := s_turned) l_turned c_turned k_turned,
    b_turned := (fun_mk (st := s_turned) l_turned c_turned k_turned).binds (ps := ["_law_some"]) fun _ _ _ _ _ _ us hl => match us, hl with | [_], _ => rfl,
    m_turned := PySem.W.mg_of X G a_turned,
    F_rest := fun_mk (st := s_rest) l_rest c_rest k_rest,
    b_rest := (fun_mk (st := s_rest) l_rest c_rest k_rest).binds (ps := ["_law_shape_here", "_law_pegs_at", "_law_longs_here"]) fun _ _ _ _ _ _ us hl => match us, hl with | [_, _, _], _ => rfl,
    m_rest := PySem.W.mg_of X G a_rest,
    F_is_least := fun_mk (st := s_is_least) l_is_least c_is_least k_is_least,
    b_is_least := (fun_mk (st := s_is_least) l_is_least c_is_least k_is_least).binds (ps := ["_law_shape_here", "_law_pegs_at", "_law_longs_here", "_law_found"]) fun _ _ _ _ _ _ us hl => match us, hl with | [_, _, _, _], _ => rfl,
    m_is_least := PySem.W.mg_of X G a_is_least,
    F_right := fun_mk (st := s_right) l_right c_right k_right,
    b_right := (fun_mk (st := s_right) l_right c_right k_right).binds (ps := ["_law_bag_here"]) fun _ _ _ _ _ _ us hl => match us, hl with | [_], _ => rfl,
    m_right := PySem.W.mg_of X G a_right,
    F_law := fun_mk (st := s_law) l_law c_law k_law,
    b_law := (fun_mk (st := s_law) l_law c_law k_law).binds (ps := ["_law_cells"]) fun _ _ _ _ _ _ us hl => match us, hl with | [_], _ => rfl,
    m_law := PySem.W.mg_of X G a_law,
    cl_Puppet := ⟨pg_Puppet, hd_Puppet, po_Puppet, sa_Puppet⟩,
    m_Puppet := PySem.W.mg_of X G aC_Puppet,
    mk_Puppet := ⟨mk_Puppet, a_Puppet_init, i_Puppet_init, kc_Puppet⟩,
    cl_Ratio := ⟨pg_Ratio, hd_Ratio, po_Ratio, sa_Ratio⟩,
    m_Ratio := PySem.W.mg_of X G aC_Ratio,
    mk_Ratio := ⟨mk_Ratio, a_Ratio_init, i_Ratio_init, kc_Ratio⟩,
    z_isinstance := PySem.W.mg_none_of X G z_isinstance,
    z_int := PySem.W.mg_none_of X G z_int,
    z_bool := PySem.W.mg_none_of X G z_bool,
    z_len := PySem.W.mg_none_of X G z_len,
    z_abs := PySem.W.mg_none_of X G z_abs,
    z_range := PySem.W.mg_none_of X G z_range,
    z_all := PySem.W.mg_none_of X G z_all,
    z_any := PySem.W.mg_none_of X G z_any,
    z_max := PySem.W.mg_none_of X G z_max,
    z_min := PySem.W.mg_none_of X G z_min,
    z_str := PySem.W.mg_none_of X G z_str,
    z_tuple := PySem.W.mg_none_of X G z_tuple,
    z_zip := PySem.W.mg_none_of X G z_zip,
    z_list := PySem.W.mg_none_of X G z_list,
    z_sorted := PySem.W.mg_none_of X G z_sorted,
    z_enumerate := PySem.W.mg_none_of X G z_enumerate,
    z_dict := PySem.W.mg_none_of X G z_dict,
    m_gcd := PySem.W.mg_of X G g_gcd,
    m_MOST_PARTS := PySem.W.mg_of X G g_MOST_PARTS,
    m_MOST_TIES := PySem.W.mg_of X G g_MOST_TIES,
    m_MOST_HOOKS := PySem.W.mg_of X G g_MOST_HOOKS,
    m_MOST_STRINGS := PySem.W.mg_of X G g_MOST_STRINGS,
    m_MOST_AMOUNT := PySem.W.mg_of X G g_MOST_AMOUNT,
    n_parts := h_n_parts,
    n_ties := h_n_ties,
    n_hooks := h_n_hooks,
    n_strings := h_n_strings,
    n_names := h_n_names,
    n_distances := h_n_distances,
    nT := h_nT,
    nB := h_nB,
    iA := h_iA,
    iN := h_iN,
    iT := h_iT,
    iM := h_iM,
    kRI := h_kRI,
    kRR := h_kRR,
    kIR := h_kIR,
    kBR := h_kBR,
    kTR := h_kTR,
    sf := h_sf,
    ne := h_ne,
    ob := h_ob,
    sRI := h_sRI,
    sIR := h_sIR,
    nfI := h_nfI,
    nfB := h_nfB,
    nfT := h_nfT,
    nfR := h_nfR,
    iAdd := ⟨_, h_iAdd⟩,
    iRadd := ⟨_, h_iRadd⟩,
    iSub := ⟨_, h_iSub⟩,
    iRsub := ⟨_, h_iRsub⟩,
    iMul := ⟨_, h_iMul⟩,
    iRmul := ⟨_, h_iRmul⟩ }⟩

end RK8

local macro_rules | `(tactic| walk_at "at") => `(tactic| first | assumption | exact L2.upd_same | ((refine RK.Same.at (by assumption) ?_); walk_at "at") | ((refine RK.SameT.tup (RK.Grown.same (by assumption)) ?_); walk_at "at"))
local macro_rules | `(tactic| walk_at "s") => `(tactic| first
  | with_reducible refine RK.w_seq ?_
  | with_reducible refine RK.w_asg ?_
  | with_reducible refine RK.w_gn ?_
  | with_reducible refine RK.w_if ?_
  | with_reducible refine RK.w_ret ?_
  | with_reducible refine RK.w_next ?_
  | with_reducible refine RK.w_drop ?_
  | with_reducible refine RK.w_par ?_
  | with_reducible refine RK.w_two ?_
  | with_reducible refine RK.w_test ?_
  | with_reducible refine RK.w_tB ?_
  | with_reducible refine RK.w_bl ?_
  | with_reducible refine RK.w_not ?_
  | with_reducible refine RK.w_and ?_
  | with_reducible refine RK.w_or ?_
  | ((with_reducible refine' RK.w_var ?hv ?_); (case hv => exact rfl))
  | with_reducible refine RK.w_c ?_
  | with_reducible refine RK.w_op ?_
  | with_reducible refine RK.w_un ?_
  | with_reducible refine RK.w_I0 ?_
  | with_reducible refine RK.w_U ?_
  | with_reducible refine RK.w_nil ?_
  | with_reducible refine RK.w_cons ?_
  | with_reducible refine RK.w_andV ?_
  | with_reducible refine RK.w_orV ?_
  | with_reducible refine RK.w_notV ?_
  | with_reducible refine RK.w_CB ?_
  | with_reducible refine RK.w_call ?_
  | with_reducible refine RK.w_tup ?_
  | with_reducible refine RK.w_lst ?_
  | with_reducible refine RK.w_sub ?_
  | with_reducible refine RK.w_sfld ?_
  | with_reducible refine RK.w_meth ?_
  | with_reducible refine RK.w_methK ?_
  | with_reducible refine RK.w_make ?_
  | with_reducible refine RK.w_makeK ?_
  | with_reducible refine RK.w_BM ?_
  | with_reducible refine RK.w_sl ?_
  | with_reducible refine RK.w_po ?_
  | with_reducible refine RK.w_pt ?_
  | with_reducible refine RK.w_in ?_
  | with_reducible refine RK.w_fld ?_
  | with_reducible refine RK.w_forJ ?_
  | with_reducible refine RK.w_cm ?_
  | with_reducible refine RK.w_dget1 ?_
  | with_reducible refine RK.w_dget ?_
  | with_reducible refine RK.w_dc ?_
  | with_reducible refine RK.w_iStr ?_
  | with_reducible refine RK.w_iTup ?_
  | with_reducible refine RK.w_iList ?_
  | with_reducible refine RK.w_iEnumT ?_
  | with_reducible refine RK.w_iZipS ?_
  | with_reducible refine RK.w_iRng1 ?_
  | with_reducible refine RK.w_chain ?_
  | with_reducible refine RK.w_retN ?_
  | with_reducible refine RK.w_yes ?_
  | with_reducible refine RK.w_int ?_
  | with_reducible refine RK.w_intB ?_
  | with_reducible refine RK.w_abs ?_
  | with_reducible refine RK.w_max ?_
  | with_reducible refine RK.w_min ?_
  | with_reducible refine RK.w_gcd ?_
  | ((with_reducible refine RK.w_I ?hc ?_); (case hc => first | assumption | (show _ < _; omega) | exact RK.Sz.ok (by assumption) (by assumption) | exact RK.Sz.div (by assumption) (by assumption) | (show _ ∧ _; omega) | (show _ ∨ _; omega) | exact ⟨by decide, by decide, by decide⟩))
  | ((with_reducible refine' RK.w_ixL ?hh ?hi ?_); (case hh => walk_at "at"); (case hi => exact rfl))
  | ((with_reducible refine' RK.w_ixT ?hh ?hi ?_); (case hh => walk_at "at"); (case hi => exact rfl))
  | ((with_reducible refine' RK.w_setL ?hh ?hi ?_); (case hh => walk_at "at"); (case hi => exact rfl))
  | ((with_reducible refine RK.w_eq ?hh ?_); (case hh => exact rfl))
  | ((with_reducible refine RK.w_ne ?hh ?_); (case hh => exact rfl)))
local macro_rules | `(tactic| walk_at "r") => `(tactic| repeat walk_at "s")

namespace RK8
open PySem PySem.Spec L2 RK RZ StX PyProof.Rows
/-! ### kinds of values, of right ones -/
section
variable {P : Program} {w : World} {K : PySem.W.Frag} {mg : Str → Option Value} {base : Heap} {a : Ad}
def spWhole : Sp := fun vs H Q _ => ∃ i, vs = [.int i] ∧ Q (.bl true) H
theorem ok_is_whole (T : Txt K mg a) : FnOk P w K mg base CX0 1 a.f_is_whole a.d_is_whole ["value"] spWhole := by
  refine T.F_is_whole.ok sc_is_whole (fun vs H Q E h => ?_) (fun cdv A outer s H vs Q E hr h => ?_)
  · obtain ⟨i, rfl, _⟩ := h
    rfl
  · obtain ⟨i, rfl, k⟩ := h
    refine ⟨_, (pss_one (ps_ret (pe_and (pe_callB call_isi (by rfl) T.z_isinstance (by decide +kernel) (pa_cons (pv 0) (pa_cons (pe_bltn (v := .ty "int") (by rfl) T.z_int (by decide +kernel) rfl) pa_nil))) (pe_one (pe_not (pe_callB call_isi (by rfl) T.z_isinstance (by decide +kernel) (pa_cons (pv 0) (pa_cons (pe_bltn (v := .ty "bool") (by rfl) T.z_bool (by decide +kernel) rfl) pa_nil)))))))), ?_⟩
    walk_at "r"
    refine ⟨.int i, .ty "int", .type "int", .type "int", true, rfl, .ty _, .base (.int _), kit_ty (by decide +kernel), true, rfl, iteT ?_⟩
    walk_at "r"
    refine ⟨.int i, .ty "bool", .type "int", .type "bool", false, rfl, .ty _, .base (.int _), kit_ty (by decide +kernel), ?_⟩
    walk_at "r"
    exact k
def spNumber : Sp := fun vs H Q _ => ∃ i : Int, vs = [.int i] ∧ 0 ≤ i ∧ Q (.bl true) H
theorem ok_is_number (T : Txt K mg a) : FnOk P w K mg base CX0 2 a.f_is_number a.d_is_number ["value"] spNumber := by
  refine T.F_is_number.ok sc_is_number (fun vs H Q E h => ?_) (fun cdv A outer s H vs Q E hr h => ?_)
  · obtain ⟨i, rfl, _⟩ := h
    rfl
  · obtain ⟨i, rfl, h0, k⟩ := h
    refine ⟨_, (pss_one (ps_ret (pe_and (pe_call (ok_is_whole T) (hr.mono (by decide)) (by rfl) T.m_is_whole T.F_is_whole.kp T.b_is_whole .nil pass0 (pa_cons (pv 0) pa_nil)) (pe_one (pe_cmpR op_ge (pv 0) pe_int (nomark _)))))), ?_⟩
    walk_at "r"
    refine ⟨i, rfl, true, rfl, iteT ?_⟩
    walk_at "r"
    show Q (.bl (decide (0 ≤ i))) H
    rw [decide_eq_true h0]
    exact k
def spLetter : Sp := fun vs H Q _ => ∃ s c, vs = [.str s] ∧ Sgn 97 122 s c ∧ Q (.bl true) H
theorem ok_is_small_letter (T : Txt K mg a) : FnOk P w K mg base CX0 1 a.f_is_small_letter a.d_is_small_letter ["value"] spLetter := by
  refine T.F_is_small_letter.ok sc_is_small_letter (fun vs H Q E h => ?_) (fun cdv A outer s H vs Q E hr h => ?_)
  · obtain ⟨s, c, rfl, _⟩ := h
    rfl
  · obtain ⟨s, c, rfl, ⟨rfl, h1, h2⟩, k⟩ := h
    refine ⟨_, (pss_one (ps_ret (pe_and (pe_callB call_isi (by rfl) T.z_isinstance (by decide +kernel) (pa_cons (pv 0) (pa_cons (pe_bltn (v := .ty "str") (by rfl) T.z_str (by decide +kernel) rfl) pa_nil))) (pe_and (pe_cmpR op_eq (pe_callB cr_len (by rfl) T.z_len PySem.boot_len (pa_cons (pv 0) pa_nil)) pe_int (nomark _)) (pe_one (pe_chain op_le_str op_le_str pe_str (pv 0) pe_str)))))), ?_⟩
    walk_at "r"
    refine ⟨.str ⟨#[c]⟩, .ty "str", .type "str", .type "str", true, rfl, .ty _, .base (.str _), kit_ty (by decide +kernel), true, rfl, iteT ?_⟩
    walk_at "r"
    refine ⟨.str ⟨#[c]⟩, _, rfl, ⟨by show 1 ≤ sizeLine; decide, rfl⟩, ?_⟩
    walk_at "r"
    rw [if_pos (by rfl)]
    refine w_c ?_
    walk_at "r"
    refine ⟨"a", ⟨#[c]⟩, rfl, rfl, ?_⟩
    rw [show (("a" : Str)).cps.toList = [97] from by decide +kernel]
    show ∃ k, V.bl (!decide (([c] : List Nat) < [97])) = .bl k ∧ _
    rw [lt1, decide_eq_false (by omega)]
    refine ⟨true, rfl, iteT ?_⟩
    walk_at "r"
    refine ⟨⟨#[c]⟩, "z", rfl, rfl, ?_⟩
    rw [show (("z" : Str)).cps.toList = [122] from by decide +kernel]
    show Q (.bl (!decide (([122] : List Nat) < [c]))) H
    rw [lt1, decide_eq_false (by omega)]
    exact k
def spCapital : Sp := fun vs H Q _ => ∃ s c, vs = [.str s] ∧ Sgn 65 90 s c ∧ Q (.bl true) H
theorem ok_is_capital (T : Txt K mg a) : FnOk P w K mg base CX0 1 a.f_is_capital a.d_is_capital ["value"] spCapital := by
  refine T.F_is_capital.ok sc_is_capital (fun vs H Q E h => ?_) (fun cdv A outer s H vs Q E hr h => ?_)
  · obtain ⟨s, c, rfl, _⟩ := h
    rfl
  · obtain ⟨s, c, rfl, ⟨rfl, h1, h2⟩, k⟩ := h
    refine ⟨_, (pss_one (ps_ret (pe_and (pe_callB call_isi (by rfl) T.z_isinstance (by decide +kernel) (pa_cons (pv 0) (pa_cons (pe_bltn (v := .ty "str") (by rfl) T.z_str (by decide +kernel) rfl) pa_nil))) (pe_and (pe_cmpR op_eq (pe_callB cr_len (by rfl) T.z_len PySem.boot_len (pa_cons (pv 0) pa_nil)) pe_int (nomark _)) (pe_one (pe_chain op_le_str op_le_str pe_str (pv 0) pe_str)))))), ?_⟩
    walk_at "r"
    refine ⟨.str ⟨#[c]⟩, .ty "str", .type "str", .type "str", true, rfl, .ty _, .base (.str _), kit_ty (by decide +kernel), true, rfl, iteT ?_⟩
    walk_at "r"
    refine ⟨.str ⟨#[c]⟩, _, rfl, ⟨by show 1 ≤ sizeLine; decide, rfl⟩, ?_⟩
    walk_at "r"
    rw [if_pos (by rfl)]
    refine w_c ?_
    walk_at "r"
    refine ⟨"A", ⟨#[c]⟩, rfl, rfl, ?_⟩
    rw [show (("A" : Str)).cps.toList = [65] from by decide +kernel]
    show ∃ k, V.bl (!decide (([c] : List Nat) < [65])) = .bl k ∧ _
    rw [lt1, decide_eq_false (by omega)]
    refine ⟨true, rfl, iteT ?_⟩
    walk_at "r"
    refine ⟨⟨#[c]⟩, "Z", rfl, rfl, ?_⟩
    rw [show (("Z" : Str)).cps.toList = [90] from by decide +kernel]
    show Q (.bl (!decide (([90] : List Nat) < [c]))) H
    rw [lt1, decide_eq_false (by omega)]
    exact k
def spWord : Sp := fun vs H Q _ => ∃ s, vs = [.str s] ∧ Word s ∧ ∀ H', Same H H' → Q (.bl true) H'
theorem ok_is_word (T : Txt K mg a) : FnOk P w K mg base CX0 2 a.f_is_word a.d_is_word ["value"] spWord := by
  refine T.F_is_word.ok sc_is_word (fun vs H Q E h => ?_) (fun cdv A outer s H vs Q E hr h => ?_)
  · obtain ⟨s, rfl, _⟩ := h
    rfl
  · obtain ⟨s, rfl, ⟨h2, h8, hl⟩, k⟩ := h
    refine ⟨_, (pss_one (ps_ret (pe_and (pe_callB call_isi (by rfl) T.z_isinstance (by decide +kernel) (pa_cons (pv 0) (pa_cons (pe_bltn (v := .ty "str") (by rfl) T.z_str (by decide +kernel) rfl) pa_nil))) (pe_and (pe_chain op_le op_le pe_int (pe_callB cr_len (by rfl) T.z_len PySem.boot_len (pa_cons (pv 0) pa_nil)) pe_int) (pe_one (pe_callB (cr_all rfl) (by rfl) T.z_all (by decide +kernel) (pa_cons (pe_lc (own := [("sign", 1)]) (g := gName 1) (tt := tYes) rfl sc_is_word.nd (pi_str (pv 0)) (blkOk_by (own := [("sign", 1)]) (N := ["value", "sign"]) (sc := defScope s_is_word) (by decide +kernel)) (fun _ _ _ _ _ => pg_name (i := 1) sc_is_word.nd rfl (Or.inl rfl)) (fun _ _ _ _ _ => pts_nil) (fun _ _ _ _ _ => by exact (pe_call (ok_is_small_letter T) (hr.mono (by decide)) (by rfl) T.m_is_small_letter T.F_is_small_letter.kp T.b_is_small_letter .nil pass0 (pa_cons (pv 1) pa_nil)))) pa_nil))))))), ?_⟩
    walk_at "r"
    refine ⟨.str s, .ty "str", .type "str", .type "str", true, rfl, .ty _, .base (.str _), kit_ty (by decide +kernel), true, rfl, iteT ?_⟩
    walk_at "r"
    refine w_lenS (by omega) ?_
    walk_at "r"
    rw [decide_eq_true (show (2 : Int) ≤ (s.cps.size : Nat) by omega)]
    refine iteT ?_
    walk_at "r"
    rw [decide_eq_true (show ((s.cps.size : Nat) : Int) ≤ 8 by omega)]
    refine iteT ?_
    walk_at "r"
    refine ⟨s, rfl, cmS walk_str (by omega) (fun _ _ => trivial) (fun _ v _ => v = .bl true) (fun _ _ _ _ _ h => h) (fun i x H1 H2 hi e hy Q' kq => ?_) (fun D zs H1 n1 e1 h1 _ hP => ?_)⟩
    · obtain ⟨rfl, c, hc, rfl⟩ := hy
      refine ⟨rfl, ?_⟩
      walk_at "r"
      obtain ⟨l1, l2⟩ := hl c (Array.mem_toList_iff.mpr (Array.mem_of_getElem? hc))
      exact ⟨_, c, rfl, ⟨rfl, l1, l2⟩, kq _ _ (w_same _) rfl⟩
    walk_at "r"
    exact all_P h1 hP (k _ e1)
/-- so many items -/
def spRow (K : PySem.W.Frag) : Sp := fun vs H Q _ => ∃ t xs lo hi, vs = [.ref t, .int lo, .int hi] ∧ SqT K H t xs ∧ lo ≤ (xs.length : Int) ∧ (xs.length : Int) ≤ hi ∧ Q (.bl true) H
theorem ok_is_row (T : Txt K mg a) : FnOk P w K mg base CX0 1 a.f_is_row a.d_is_row ["value", "least", "most"] (spRow K) := by
  refine T.F_is_row.ok sc_is_row (fun vs H Q E h => ?_) (fun cdv A outer s H vs Q E hr h => ?_)
  · obtain ⟨t, xs, lo, hi, rfl, _⟩ := h
    rfl
  · obtain ⟨t, xs, lo, hi, rfl, ht, h1, h2, k⟩ := h
    refine ⟨_, (pss_one (ps_ret (pe_and (pe_callB call_isi (by rfl) T.z_isinstance (by decide +kernel) (pa_cons (pv 0) (pa_cons (pe_bltn (v := .ty "tuple") (by rfl) T.z_tuple (by decide +kernel) rfl) pa_nil))) (pe_one (pe_chain op_le op_le (pv 1) (pe_callB cr_len (by rfl) T.z_len PySem.boot_len (pa_cons (pv 0) pa_nil)) (pv 2)))))), ?_⟩
    walk_at "r"
    refine ⟨.ref t, .ty "tuple", .type "tuple", .type "tuple", true, rfl, .ty _, tyT ht, kit_ty (by decide +kernel), true, rfl, iteT ?_⟩
    walk_at "r"
    refine w_lenT ht ?_
    walk_at "r"
    rw [decide_eq_true h1]
    refine iteT ?_
    walk_at "r"
    show Q (.bl (decide ((xs.length : Int) ≤ hi))) H
    rw [decide_eq_true h2]
    exact k
theorem row_leaf {H : Hp} {Q : VK} {E : XK} {t : Addr} {xs : List V} {lo hi : Int} (ht : SqT K H t xs) (h1 : lo ≤ (xs.length : Int)) (h2 : (xs.length : Int) ≤ hi) (k : Q (.bl true) H) : spRow K [.ref t, .int lo, .int hi] H Q E := ⟨t, xs, lo, hi, rfl, ht, h1, h2, k⟩
/-- the signs rise -/
def Rise (s : Str) : Prop := ∀ (i c d : Nat), s.cps[i]? = some c → s.cps[i + 1]? = some d → c < d
def spRising : Sp := fun vs H Q _ => ∃ s, vs = [.str s] ∧ s.cps.size ≤ 100 ∧ Rise s ∧ ∀ H', Same H H' → Q (.bl true) H'
theorem ok_is_rising (T : Txt K mg a) : FnOk P w K mg base CX0 1 a.f_is_rising a.d_is_rising ["signs"] spRising := by
  refine T.F_is_rising.ok sc_is_rising (fun vs H Q E h => ?_) (fun cdv A outer s H vs Q E hr h => ?_)
  · obtain ⟨s, rfl, _⟩ := h
    rfl
  · obtain ⟨s, rfl, hs, up, k⟩ := h
    refine ⟨_, (pss_one (ps_ret (pe_callB (cr_all rfl) (by rfl) T.z_all (by decide +kernel) (pa_cons (pe_lc (own := [("one", 1), ("other", 2)]) (g := gTup K 2 (gCons (gName 1) (gCons (gName 2) (gNil)))) (tt := tYes) rfl sc_is_rising.nd (pi_zipS (by rfl) T.z_zip (pa_cons (pv 0) (pa_cons (pe_slice sl_str (pv 0) (po_some pe_int) po_none) pa_nil))) (blkOk_by (own := [("one", 1), ("other", 2)]) (N := ["signs", "one", "other"]) (sc := defScope s_is_rising) (by decide +kernel)) (fun _ _ _ _ _ => by exact pg_tup (n := 2) rfl (pgs_cons (pg_name (i := 1) sc_is_rising.nd rfl (Or.inl rfl)) (pgs_cons (pg_name (i := 2) sc_is_rising.nd rfl (Or.inl rfl)) pgs_nil))) (fun _ _ _ _ _ => pts_nil) (fun _ _ _ _ _ => by exact (pe_cmpR op_lt_str (pv 1) (pv 2) (nomark _)))) pa_nil)))), ?_⟩
    walk_at "r"
    refine ⟨s, rfl, Nat.le_trans hs (by decide), s, _, rfl, cmS walk_zipS (by omega) (fun _ _ => trivial) (fun _ v _ => v = .bl true) (fun _ _ _ _ _ h => h) (fun i x H1 H2 hi e hy Q' kq => ?_) (fun D zs H1 n1 e1 h1 _ hP => ?_)⟩
    · obtain ⟨p, x, y, rfl, np, rfl, hx, hy⟩ := hy
      obtain ⟨c, hc, rfl⟩ := Option.map_eq_some_iff.mp hx
      obtain ⟨d, hd, rfl⟩ := Option.map_eq_some_iff.mp hy
      rw [cutS1_at] at hd
      refine g_two upd_same ⟨rfl, ?_⟩
      walk_at "r"
      refine ⟨_, _, rfl, rfl, ?_⟩
      show Q' (.bl (decide (([c] : List Nat) < [d]))) _
      rw [lt1, decide_eq_true (up i c d hc hd)]
      exact kq _ _ (w_new np) rfl
    walk_at "r"
    exact all_P h1 hP (k _ e1)
/-- one to m capital letters, each above the one before -/
structure Caps (s : Str) : Prop where
  one : 1 ≤ s.cps.size
  few : s.cps.size ≤ 4
  cap : ∀ c ∈ s.cps.toList, 65 ≤ c ∧ c ≤ 90
  up : Rise s
def spCaps : Sp := fun vs H Q _ => ∃ s, vs = [.str s, .int 4] ∧ Caps s ∧ ∀ H', Same H H' → Q (.bl true) H'
theorem ok_are_capitals (T : Txt K mg a) : FnOk P w K mg base CX0 2 a.f_are_capitals a.d_are_capitals ["value", "most"] spCaps := by
  refine T.F_are_capitals.ok sc_are_capitals (fun vs H Q E h => ?_) (fun cdv A outer s H vs Q E hr h => ?_)
  · obtain ⟨s, rfl, _⟩ := h
    rfl
  · obtain ⟨s, rfl, hs, k⟩ := h
    have h1 := hs.one
    have h4 := hs.few
    refine ⟨_, (pss_cons (ps_if (PW.pt (pw_or (pt_not (pt_val (pe_callB call_isi (by rfl) T.z_isinstance (by decide +kernel) (pa_cons (pv 0) (pa_cons (pe_bltn (v := .ty "str") (by rfl) T.z_str (by decide +kernel) rfl) pa_nil))))) (pw_or1 (pt_not (pt_chain op_le op_le pe_int (pe_callB cr_len (by rfl) T.z_len PySem.boot_len (pa_cons (pv 0) pa_nil)) (pv 1)))))) (pss_one (ps_ret pe_bl)) pss_nil)
      (pss_one (ps_ret (pe_and (pe_callB (cr_all rfl) (by rfl) T.z_all (by decide +kernel) (pa_cons (pe_lc (own := [("sign", 2)]) (g := gName 2) (tt := tYes) rfl sc_are_capitals.nd (pi_str (pv 0)) (blkOk_by (own := [("sign", 2)]) (N := ["value", "most", "sign"]) (sc := defScope s_are_capitals) (by decide +kernel)) (fun _ _ _ _ _ => pg_name (i := 2) sc_are_capitals.nd rfl (Or.inl rfl)) (fun _ _ _ _ _ => pts_nil) (fun _ _ _ _ _ => by exact (pe_call (ok_is_capital T) (hr.mono (by decide)) (by rfl) T.m_is_capital T.F_is_capital.kp T.b_is_capital .nil pass0 (pa_cons (pv 2) pa_nil)))) pa_nil)) (pe_one (pe_call (ok_is_rising T) (hr.mono (by decide)) (by rfl) T.m_is_rising T.F_is_rising.kp T.b_is_rising .nil pass0 (pa_cons (pv 0) pa_nil))))))), ?_⟩
    walk_at "r"
    refine ⟨.str s, .ty "str", .type "str", .type "str", true, rfl, .ty _, .base (.str _), kit_ty (by decide +kernel), true, rfl, iteF ?_⟩
    walk_at "r"
    refine w_lenS (by omega) ?_
    walk_at "r"
    rw [decide_eq_true (show (1 : Int) ≤ (s.cps.size : Nat) by omega)]
    refine iteT ?_
    walk_at "r"
    rw [decide_eq_true (show ((s.cps.size : Nat) : Int) ≤ 4 by omega)]
    refine iteF ?_
    walk_at "r"
    refine ⟨s, rfl, cmS walk_str (by omega) (fun _ _ => trivial) (fun _ v _ => v = .bl true) (fun _ _ _ _ _ h => h) (fun i x H1 H2 hi e hy Q' kq => ?_) (fun D zs H1 n1 e1 h1 _ hP => ?_)⟩
    · obtain ⟨rfl, c, hc, rfl⟩ := hy
      refine ⟨rfl, ?_⟩
      walk_at "r"
      obtain ⟨l1, l2⟩ := hs.cap c (Array.mem_toList_iff.mpr (Array.mem_of_getElem? hc))
      exact ⟨_, c, rfl, ⟨rfl, l1, l2⟩, kq _ _ (w_same _) rfl⟩
    walk_at "r"
    refine all_P h1 hP ⟨true, rfl, iteT ?_⟩
    walk_at "r"
    exact ⟨s, rfl, by omega, hs.up, fun H2 e2 => k _ (e1.trans e2)⟩
/-- one of some texts in a tuple -/
def spOneOf (K : PySem.W.Frag) : Sp := fun vs H Q _ => ∃ (s : Str) (t : Addr) (xs : List Str), vs = [.str s, .ref t] ∧ SqT K H t (xs.map V.str) ∧ ∀ H', Same H H' → Q (.bl (decide (s ∈ xs))) H'
theorem ok_is_one_of (T : Txt K mg a) : FnOk P w K mg base CX0 1 a.f_is_one_of a.d_is_one_of ["value", "strings"] (spOneOf K) := by
  refine T.F_is_one_of.ok sc_is_one_of (fun vs H Q E h => ?_) (fun cdv A outer s H vs Q E hr h => ?_)
  · obtain ⟨s, t, xs, rfl, _⟩ := h
    rfl
  · obtain ⟨s, t, xs, rfl, ht, k⟩ := h
    refine ⟨_, (pss_one (ps_ret (pe_and (pe_callB call_isi (by rfl) T.z_isinstance (by decide +kernel) (pa_cons (pv 0) (pa_cons (pe_bltn (v := .ty "str") (by rfl) T.z_str (by decide +kernel) rfl) pa_nil))) (pe_one (pe_cmpR op_in_seq (pv 0) (pe_callTy call_list_of (by rfl) T.z_list (by decide +kernel) (pa_cons (pv 1) pa_nil)) (by rfl)))))), ?_⟩
    walk_at "r"
    refine ⟨.str s, .ty "str", .type "str", .type "str", true, rfl, .ty _, .base (.str _), kit_ty (by decide +kernel), true, rfl, iteT ?_⟩
    walk_at "r"
    refine ⟨t, _, rfl, .inr ht, fun l nl => ?_⟩
    walk_at "r"
    exact in_leaf (.inl (SqL.of upd_same)) (k _ (w_new nl))
theorem oneOf_leaf {H : Hp} {Q : VK} {E : XK} {s : Str} {t : Addr} {xs : List Str} (ht : SqT K H t (xs.map V.str)) (k : ∀ H', Same H H' → Q (.bl (decide (s ∈ xs))) H') : spOneOf K [.str s, .ref t] H Q E := ⟨s, t, xs, rfl, ht, k⟩
/-- one of a text's signs -/
def spOneOfS : Sp := fun vs H Q _ => ∃ (c : Nat) (s : Str), vs = [.str ⟨#[c]⟩, .str s] ∧ s.cps.size ≤ 100 ∧ ∀ H', Same H H' → Q (.bl (decide (c ∈ s.cps.toList))) H'
theorem ok_is_one_ofS (T : Txt K mg a) : FnOk P w K mg base CX0 1 a.f_is_one_of a.d_is_one_of ["value", "strings"] spOneOfS := by
  refine T.F_is_one_of.ok sc_is_one_of (fun vs H Q E h => ?_) (fun cdv A outer s H vs Q E hr h => ?_)
  · obtain ⟨c, s, rfl, _⟩ := h
    rfl
  · obtain ⟨c, s, rfl, hs, k⟩ := h
    refine ⟨_, (pss_one (ps_ret (pe_and (pe_callB call_isi (by rfl) T.z_isinstance (by decide +kernel) (pa_cons (pv 0) (pa_cons (pe_bltn (v := .ty "str") (by rfl) T.z_str (by decide +kernel) rfl) pa_nil))) (pe_one (pe_cmpR op_in_seq (pv 0) (pe_callTy (cr_listS rfl) (by rfl) T.z_list (by decide +kernel) (pa_cons (pv 1) pa_nil)) (by rfl)))))), ?_⟩
    walk_at "r"
    refine ⟨.str ⟨#[c]⟩, .ty "str", .type "str", .type "str", true, rfl, .ty _, .base (.str _), kit_ty (by decide +kernel), true, rfl, iteT ?_⟩
    walk_at "r"
    refine ⟨s, rfl, by omega, fun l nl => ?_⟩
    walk_at "r"
    have e : (s.cps.toList.map fun c => V.str ⟨#[c]⟩) = (s.cps.toList.map fun c => (⟨#[c]⟩ : Str)).map V.str := by rw [List.map_map]; rfl
    refine in_leaf (xs := s.cps.toList.map fun c => (⟨#[c]⟩ : Str)) (.inl (SqL.of (by rw [upd_same, e]))) ?_
    have q : decide ((⟨#[c]⟩ : Str) ∈ s.cps.toList.map fun c => (⟨#[c]⟩ : Str)) = decide (c ∈ s.cps.toList) := by
      rw [Bool.eq_iff_iff, decide_eq_true_eq, decide_eq_true_eq, List.mem_map]
      refine ⟨fun ⟨d, hd, z⟩ => ?_, fun h => ⟨c, h, rfl⟩⟩
      have z : d = c := by simpa using z
      rw [← z]
      exact hd
    rw [q]
    exact k _ (w_new nl)
theorem oneOfS_leaf {H : Hp} {Q : VK} {E : XK} {c : Nat} {s : Str} (hs : s.cps.size ≤ 100) (k : ∀ H', Same H H' → Q (.bl (decide (c ∈ s.cps.toList))) H') : spOneOfS [.str ⟨#[c]⟩, .str s] H Q E := ⟨c, s, rfl, hs, k⟩
end
end RK8


namespace RK8
open PySem PySem.Spec L2 RK
/-! ### values -/
def rfs (t b : Int) : List (Str × V) := [(("top" : Str), .int t), (("bottom" : Str), .int b)]
theorem rfs_top (t b : Int) : (rfs t b).lookup ("top" : Str) = some (.int t) := by simp [rfs, List.lookup]
theorem rfs_bot (t b : Int) : (rfs t b).lookup ("bottom" : Str) = some (.int b) := by
  have h : (("bottom" : Str) == ("top" : Str)) = false := by decide +kernel
  simp [rfs, List.lookup, h]
theorem rfs_no (t b : Int) {m : Str} (h1 : (m == ("top" : Str)) = false) (h2 : (m == ("bottom" : Str)) = false) : (rfs t b).lookup m = none := by simp [rfs, List.lookup, h1, h2]
theorem rfs_put (t b : Int) : putF "bottom" (.int b) (putF "top" (.int t) []) = rfs t b := by
  have k : ¬ (("top" : Str) = "bottom") := by decide +kernel
  show (if ("top" : Str) = "bottom" then [(("top" : Str), V.int b)] else (("top" : Str), V.int t) :: putF "bottom" (V.int b) []) = rfs t b
  rw [if_neg k]
  all_goals rfl
/-- a Ratio stands at p: t / b in lowest terms -/
structure Rat (C : Addr) (H : Hp) (p : Addr) (t b : Int) : Prop where
  ob : ∃ dx, H p = some (.ins C dx (rfs t b))
  pos : 0 < b
  cop : Int.gcd t b = 1
theorem Rat.same {C : Addr} {H H' : Hp} {p : Addr} {t b : Int} (r : Rat C H p t b) (e : Same H H') : Rat C H' p t b := let ⟨dx, h⟩ := r.ob; ⟨⟨dx, e _ _ h⟩, r.pos, r.cop⟩
theorem Rat.sameT {C : Addr} {H H' : Hp} {p : Addr} {t b : Int} (r : Rat C H p t b) (e : SameT H H') : Rat C H' p t b := let ⟨dx, h⟩ := r.ob; ⟨⟨dx, e.ins h⟩, r.pos, r.cop⟩
theorem Rat.kp {C : Addr} {H H' : Hp} {p bg : Addr} {t b : Int} (r : Rat C H p t b) (e : Kp bg H H') : Rat C H' p t b := let ⟨dx, h⟩ := r.ob; ⟨⟨dx, e.ins h⟩, r.pos, r.cop⟩
/-- a fraction: an int, or a Ratio -/
def Frn (C : Addr) (H : Hp) (x : V) (t b : Int) : Prop := (x = .int t ∧ b = 1) ∨ ∃ p, x = .ref p ∧ Rat C H p t b
theorem Frn.pos {C : Addr} {H : Hp} {x : V} {t b : Int} (f : Frn C H x t b) : 0 < b := by
  rcases f with ⟨_, e⟩ | ⟨p, _, r⟩
  · omega
  · exact r.pos
theorem Frn.cop {C : Addr} {H : Hp} {x : V} {t b : Int} (f : Frn C H x t b) : Int.gcd t b = 1 := by
  rcases f with ⟨_, e⟩ | ⟨p, _, r⟩
  · rw [e]; exact Int.gcd_one_right ..
  · exact r.cop
section
variable {P : Program} {w : World} {K : PySem.W.Frag} {mg : Str → Option Value} {base : Heap} {a : Ad}
theorem ins_ty (T : Txt K mg a) {H : Hp} {p : Addr} {t b : Int} (r : Rat a.C_Ratio H p t b) : TyX K H (.ref p) (.ref a.C_Ratio) := by
  obtain ⟨dx, h⟩ := r.ob
  exact .base (.ins h T.cl_Ratio T.iA T.iN T.iT T.iM)
/-- what is neither an int nor a Ratio -/
def NotFr (K : PySem.W.Frag) (C : Addr) (H : Hp) (x : V) : Prop := ∃ t b1 b2, TyX K H x t ∧ PySem.W.kitOne K t (.ref C) = some false ∧ PySem.W.kitOne K t (.type "int") = some b1 ∧ PySem.W.kitOne K t (.type "bool") = some b2 ∧ (b1 && !b2) = false
def spWholeR (K : PySem.W.Frag) : Sp := fun vs H Q _ => ∃ x t b1 b2, vs = [x] ∧ TyX K H x t ∧ PySem.W.kitOne K t (.type "int") = some b1 ∧ PySem.W.kitOne K t (.type "bool") = some b2 ∧ Q (.bl (b1 && !b2)) H
theorem ok_is_wholeR (T : Txt K mg a) : FnOk P w K mg base CX0 1 a.f_is_whole a.d_is_whole ["value"] (spWholeR K) := by
  refine T.F_is_whole.ok sc_is_whole (fun vs H Q E h => ?_) (fun cdv A outer s H vs Q E hr h => ?_)
  · obtain ⟨x, t, b1, b2, rfl, _⟩ := h
    rfl
  · obtain ⟨x, t, b1, b2, rfl, ty, h1, h2, k⟩ := h
    refine ⟨_, (pss_one (ps_ret (pe_and (pe_callB call_isi (by rfl) T.z_isinstance (by decide +kernel) (pa_cons (pv 0) (pa_cons (pe_bltn (v := .ty "int") (by rfl) T.z_int (by decide +kernel) rfl) pa_nil))) (pe_one (pe_not (pe_callB call_isi (by rfl) T.z_isinstance (by decide +kernel) (pa_cons (pv 0) (pa_cons (pe_bltn (v := .ty "bool") (by rfl) T.z_bool (by decide +kernel) rfl) pa_nil)))))))), ?_⟩
    walk_at "r"
    refine ⟨x, .ty "int", t, .type "int", b1, rfl, .ty _, ty, h1, b1, rfl, ?_⟩
    cases b1 with
    | false => exact iteF k
    | true =>
      refine iteT ?_
      walk_at "r"
      exact ⟨x, .ty "bool", t, .type "bool", b2, rfl, .ty _, ty, h2, b2, rfl, by simpa using k⟩
theorem wholeR_int {K : PySem.W.Frag} {H : Hp} {Q : VK} {E : XK} {i : Int} (q : Q (.bl true) H) : spWholeR K [.int i] H Q E :=
  ⟨.int i, .type "int", true, false, rfl, .base (.int i), kit_ty (by decide +kernel), kit_ty (by decide +kernel), q⟩
/-! ### making -/
def spInit (C : Addr) : Sp := fun vs H Q _ => ∃ (p dx : Addr) (t b : Int), vs = [.ref p, .int t, .int b] ∧ H p = some (.ins C dx []) ∧ 0 < b ∧ Sz 8000 b ∧
  ∀ H' x y, H' p = some (.ins C dx (rfs x y)) → (∀ c o, c ≠ p → H c = some o → H' c = some o) → Nrm t b x y → Q .non H'
theorem ok_Ratio_init (T : Txt K mg a) : FnOk P w K mg base CX0 2 a.f_Ratio_init a.d_Ratio_init ["self", "top", "bottom"] (spInit a.C_Ratio) := by
  refine T.F_Ratio_init.ok sc_Ratio_init (fun vs H Q E h => ?_) (fun cdv A outer s H vs Q E hr h => ?_)
  · obtain ⟨p, dx, t, b, rfl, _⟩ := h
    rfl
  · obtain ⟨p, dx, t, b, rfl, hp, h0, hz, k⟩ := h
    refine ⟨_, PSs.nox ((pss_cons (ps_if (pt_not (pt_val (pe_call (ok_is_wholeR T) (hr.mono (by decide)) (by rfl) T.m_is_whole T.F_is_whole.kp T.b_is_whole .nil pass0 (pa_cons (pv 1) pa_nil)))) (pss_one ps_never) pss_nil)
      (pss_cons (ps_if (PW.pt (pw_or (pt_not (pt_val (pe_call (ok_is_wholeR T) (hr.mono (by decide)) (by rfl) T.m_is_whole T.F_is_whole.kp T.b_is_whole .nil pass0 (pa_cons (pv 2) pa_nil)))) (pw_or1 (pt_cmpR op_lt (pv 2) pe_int (nomark _))))) (pss_one ps_never) pss_nil)
      (pss_cons (ps_set (i := 3) sc_Ratio_init.nd rfl (Or.inl rfl) (pe_callBfun cr_gcd rfl T.m_gcd (pa_cons (pv 1) (pa_cons (pv 2) pa_nil))))
      (pss_cons (ps_fld (pv 0) (pe_op op_fdivW (pv 1) (pv 3)) rfl)
      (pss_one (ps_fld (pv 0) (pe_op op_fdivW (pv 2) (pv 3)) rfl))))))), ?_⟩
    have hN := nrm_div (u := t) h0
    have g0 : 0 < Int.gcd t b := Int.gcd_pos_of_ne_zero_right t (by omega)
    have gle : (Int.gcd t b : Int) ≤ b := Int.le_of_dvd h0 (Int.gcd_dvd_right ..)
    have gz : CDivW 0 (Int.gcd t b : Int) := wide_div (by omega) (wide_le (by omega) gle hz) (by decide) (by decide)
    walk_at "r"
    refine wholeR_int ?_
    walk_at "r"
    refine iteF ?_
    walk_at "r"
    refine wholeR_int ?_
    walk_at "r"
    refine iteF ?_
    walk_at "r"
    rw [decide_eq_false (by omega)]
    refine iteF ?_
    walk_at "r"
    refine ⟨p, _, dx, _, rfl, hp, T.cl_Ratio, T.nT, by decide, ?_⟩
    walk_at "r"
    refine ⟨p, _, dx, _, rfl, upd_same, T.cl_Ratio, T.nB, by show 1 < 1000; decide, ?_⟩
    rw [upd_upd]
    exact k _ (t / (Int.gcd t b : Int)) (b / (Int.gcd t b : Int)) (Eq.trans upd_same (congrArg (fun l => some (HO.ins a.C_Ratio dx l)) (rfs_put _ _))) (fun c o hc e => by rw [upd_ne hc]; exact e) hN
theorem bd_Ratio (T : Txt K mg a) : L2.Binds K a.d_Ratio_init ["self", "top", "bottom"] [] := by
  obtain ⟨ds, v, b⟩ := T.F_Ratio_init.binds1 (ps := ["self", "top", "bottom"]) 3 1 (by simp) rfl (fun _ _ _ _ _ _ _ us its h1 h2 => match us, its, h1, h2 with | [_, _, _], [_], _, _ => ⟨_, rfl, rfl⟩)
  cases v
  exact b
theorem bd1_Ratio (T : Txt K mg a) : ∃ ds, L2.Vals [.int 1] ds ∧ L2.Binds K a.d_Ratio_init ["self", "top", "bottom"] ds :=
  T.F_Ratio_init.binds1 (ps := ["self", "top", "bottom"]) 2 0 (by simp) rfl (fun _ _ _ _ _ _ _ us its h1 h2 => match us, its, h1, h2 with | [_, _], [_], _, _ => ⟨_, rfl, rfl⟩)
theorem mkq_leaf {C : Addr} {H : Hp} {Q : VK} {t b : Int} (h0 : 0 < b) (hz : Sz 8000 b) (k : ∀ p H' x y, H p = none → Same H H' → Rat C H' p x y → Nrm t b x y → Q (.ref p) H') : MkL C (spInit C) E0 [.int t, .int b] H Q := by
  intro p dx hp hdx hne
  refine ⟨p, dx, t, b, rfl, upd_same, h0, hz, fun H' x y e kp n => ⟨rfl, ?_⟩⟩
  refine k p H' x y hp (fun c o q => kp c o (ne_of_none q hp) ?_) ⟨⟨dx, e⟩, n.pos, n.cop⟩ n
  rw [upd_ne (ne_of_none q hp), upd_ne (ne_of_none q hdx)]
  exact q
theorem mkq1_leaf {C : Addr} {H : Hp} {Q : VK} {t : Int} (k : ∀ p H', H p = none → Same H H' → Rat C H' p t 1 → Q (.ref p) H') : MkL C (spInit C) E0 [.int t, .int 1] H Q :=
  mkq_leaf (by decide) Sz.one fun p H' x y hp e r n => by
    have z := n.uniq (u' := t) (l' := 1) (x' := t) (y' := 1) ⟨by decide, Int.gcd_one_right .., rfl⟩ (by decide) (by decide) rfl
    obtain ⟨rfl, rfl⟩ := z
    exact k p H' hp e r
/-! ### what is a fraction -/
def spFrac (K : PySem.W.Frag) (C : Addr) : Sp := fun vs H Q _ => ∃ x, vs = [x] ∧ ((∃ t b, Frn C H x t b ∧ Q (.bl true) H) ∨ (NotFr K C H x ∧ Q (.bl false) H))
theorem ok_is_fraction (T : Txt K mg a) : FnOk P w K mg base CX0 3 a.f_is_fraction a.d_is_fraction ["value"] (spFrac K a.C_Ratio) := by
  refine T.F_is_fraction.ok sc_is_fraction (fun vs H Q E h => ?_) (fun cdv A outer s H vs Q E hr h => ?_)
  · obtain ⟨x, rfl, _⟩ := h
    rfl
  · obtain ⟨x, rfl, h⟩ := h
    refine ⟨_, (pss_one (ps_ret (pe_or (pe_callB call_isi (by rfl) T.z_isinstance (by decide +kernel) (pa_cons (pv 0) (pa_cons (pe_glob (v := .ref a.C_Ratio) rfl T.m_Ratio rfl) pa_nil))) (pe_one (pe_call (ok_is_wholeR T) (hr.mono (by decide)) (by rfl) T.m_is_whole T.F_is_whole.kp T.b_is_whole .nil pass0 (pa_cons (pv 0) pa_nil)))))), ?_⟩
    walk_at "r"
    rcases h with ⟨t, b, f, k⟩ | ⟨⟨t, b1, b2, ty, h1, h2, h3, h4⟩, k⟩
    · rcases f with ⟨rfl, _⟩ | ⟨p, rfl, r⟩
      · refine ⟨_, .ref a.C_Ratio, .type "int", .ref a.C_Ratio, false, rfl, .own _, .base (.int t), T.kIR, false, rfl, ?_⟩
        refine iteF ?_
        walk_at "r"
        exact wholeR_int k
      · exact ⟨_, .ref a.C_Ratio, .ref a.C_Ratio, .ref a.C_Ratio, true, rfl, .own _, ins_ty T r, T.kRR, true, rfl, iteT k⟩
    · refine ⟨_, .ref a.C_Ratio, t, .ref a.C_Ratio, false, rfl, .own _, ty, h1, false, rfl, ?_⟩
      refine iteF ?_
      walk_at "r"
      exact ⟨x, t, b1, b2, rfl, ty, h2, h3, by rw [h4]; exact k⟩
/-- the Ratio of a fraction -/
def spAs (C : Addr) : Sp := fun vs H Q _ => ∃ x t b, vs = [x] ∧ Frn C H x t b ∧ ∀ p H', Same H H' → Rat C H' p t b → Q (.ref p) H'
theorem ok_as_ratio (T : Txt K mg a) : FnOk P w K mg base CX0 4 a.f_as_ratio a.d_as_ratio ["fraction"] (spAs a.C_Ratio) := by
  refine T.F_as_ratio.ok sc_as_ratio (fun vs H Q E h => ?_) (fun cdv A outer s H vs Q E hr h => ?_)
  · obtain ⟨x, t, b, rfl, _⟩ := h
    rfl
  · obtain ⟨x, t, b, rfl, f, k⟩ := h
    obtain ⟨ds, vd1, bd1⟩ := bd1_Ratio T
    refine ⟨_, (pss_cons (ps_if (pt_val (pe_callB call_isi (by rfl) T.z_isinstance (by decide +kernel) (pa_cons (pv 0) (pa_cons (pe_glob (v := .ref a.C_Ratio) rfl T.m_Ratio rfl) pa_nil)))) (pss_one (ps_ret (pv 0))) pss_nil)
      (pss_one (ps_ret (pe_make T.mk_Ratio (ok_Ratio_init T) (hr.mono (by decide)) (by rfl) T.m_Ratio bd1 vd1 pass0 (pa_cons (pv 0) pa_nil))))), ?_⟩
    walk_at "r"
    rcases f with ⟨rfl, rfl⟩ | ⟨p, rfl, r⟩
    · refine ⟨_, .ref a.C_Ratio, .type "int", .ref a.C_Ratio, false, rfl, .own _, .base (.int t), T.kIR, false, rfl, ?_⟩
      refine iteF ?_
      walk_at "r"
      exact mkq1_leaf fun p H' _ e r => k p H' e r
    · refine ⟨_, .ref a.C_Ratio, .ref a.C_Ratio, .ref a.C_Ratio, true, rfl, .own _, ins_ty T r, T.kRR, true, rfl, iteT ?_⟩
      walk_at "r"
      exact k p H (w_same H) r
/-! ### the fields -/
theorem top_leaf (T : Txt K mg a) {H : Hp} {Q : VK} {p : Addr} {t b : Int} (r : Rat a.C_Ratio H p t b) (q : Q (.int t) H) : Fl K "top" (.ref p) H Q := by
  obtain ⟨dx, h⟩ := r.ob
  exact ⟨p, _, dx, _, _, rfl, h, T.cl_Ratio, T.nT, rfs_top _ _, q⟩
theorem bot_leaf (T : Txt K mg a) {H : Hp} {Q : VK} {p : Addr} {t b : Int} (r : Rat a.C_Ratio H p t b) (q : Q (.int b) H) : Fl K "bottom" (.ref p) H Q := by
  obtain ⟨dx, h⟩ := r.ob
  exact ⟨p, _, dx, _, _, rfl, h, T.cl_Ratio, T.nB, rfs_bot _ _, q⟩
theorem frac_leaf {K : PySem.W.Frag} {C : Addr} {H : Hp} {Q : VK} {E : XK} {x : V} {t b : Int} (f : Frn C H x t b) (q : Q (.bl true) H) : spFrac K C [x] H Q E := ⟨x, rfl, .inl ⟨t, b, f, q⟩⟩
theorem as_leaf {C : Addr} {H : Hp} {Q : VK} {E : XK} {x : V} {t b : Int} (f : Frn C H x t b) (q : ∀ p H', Same H H' → Rat C H' p t b → Q (.ref p) H') : spAs C [x] H Q E := ⟨x, t, b, rfl, f, q⟩
local macro_rules | `(tactic| walk_at "f") => `(tactic| first
  | ((refine' top_leaf (by assumption) ?hr ?_); (case hr => first | assumption | exact Rat.same (by assumption) (by assumption)); walk_at "r")
  | ((refine' bot_leaf (by assumption) ?hr ?_); (case hr => first | assumption | exact Rat.same (by assumption) (by assumption)); walk_at "r"))
/-! ### the operators -/
def spBin (C : Addr) (f g : Int → Int → Int → Int → Int) : Sp := fun vs H Q _ => ∃ p x t b t2 b2, vs = [.ref p, x] ∧ Rat C H p t b ∧ Frn C H x t2 b2 ∧ Sz 1000 t ∧ Sz 1000 b ∧ Sz 1000 t2 ∧ Sz 1000 b2 ∧
  ∀ q H' u l, Same H H' → Rat C H' q u l → Nrm (f t b t2 b2) (g t b t2 b2) u l → Q (.ref q) H'
abbrev spAdd (C : Addr) : Sp := spBin C (fun t b t2 b2 => t * b2 + t2 * b) fun _ b _ b2 => b * b2
theorem ok_Ratio_add (T : Txt K mg a) : FnOk P w K mg base CX0 5 a.f_Ratio_add a.d_Ratio_add ["self", "other"] (spAdd a.C_Ratio) := by
  refine T.F_Ratio_add.ok sc_Ratio_add (fun vs H Q E h => ?_) (fun cdv A outer s H vs Q E hr h => ?_)
  · obtain ⟨p, x, t, b, t2, b2, rfl, _⟩ := h
    rfl
  · obtain ⟨p, x, t, b, t2, b2, rfl, r, f, z1, z2, z3, z4, k⟩ := h
    refine ⟨_, (pss_cons (ps_if (pt_not (pt_val (pe_call (ok_is_fraction T) (hr.mono (by decide)) (by rfl) T.m_is_fraction T.F_is_fraction.kp T.b_is_fraction .nil pass0 (pa_cons (pv 1) pa_nil)))) (pss_one ps_never) pss_nil)
      (pss_cons (ps_set (i := 2) sc_Ratio_add.nd rfl (Or.inl rfl) (pe_call (ok_as_ratio T) (hr.mono (by decide)) (by rfl) T.m_as_ratio T.F_as_ratio.kp T.b_as_ratio .nil pass0 (pa_cons (pv 1) pa_nil)))
      (pss_one (ps_ret (pe_make T.mk_Ratio (ok_Ratio_init T) (hr.mono (by decide)) (by rfl) T.m_Ratio (bd_Ratio T) .nil pass0 (pa_cons (pe_op op_add (pe_op op_mulW (pe_fld (pv 0) rfl) (pe_fld (pv 2) rfl)) (pe_op op_mulW (pe_fld (pv 2) rfl) (pe_fld (pv 0) rfl))) (pa_cons (pe_op op_mulW (pe_fld (pv 0) rfl) (pe_fld (pv 2) rfl)) pa_nil))))))), ?_⟩
    walk_at "r"
    refine frac_leaf f ?_
    walk_at "r"
    refine iteF ?_
    walk_at "r"
    refine as_leaf f fun p2 H1 e1 r2 => ?_
    have r1 := r.same e1
    walk_at "r"
    repeat walk_at "f"
    exact mkq_leaf (Int.mul_pos r.pos r2.pos) ((z2.mul z4).mono (by decide)) fun q H2 u l _ e2 r3 n => k q H2 u l (e1.trans e2) r3 n
section
variable {X : Cx}
theorem oAddqq (T : Txt X.K X.mg a) (hr : Room 5 X.A) : OpR X (binaryOp .Add) (rOwn2 a.C_Ratio (spAdd a.C_Ratio) E0) := op_own2 T.sf T.me_Ratio_add.at_ T.me_Ratio_add.fn (ok_Ratio_add T) hr T.b_Ratio_add pass0
end
theorem own2_leaf {C : Addr} {H : Hp} {Q : VK} {p q : Addr} {t b t2 b2 : Int} {f g : Int → Int → Int → Int → Int} (r : Rat C H p t b) (r2 : Rat C H q t2 b2) (z1 : Sz 1000 t) (z2 : Sz 1000 b) (z3 : Sz 1000 t2) (z4 : Sz 1000 b2)
    (k : ∀ q H' u l, Same H H' → Rat C H' q u l → Nrm (f t b t2 b2) (g t b t2 b2) u l → Q (.ref q) H') : rOwn2 C (spBin C f g) E0 (.ref p) (.ref q) H Q := by
  obtain ⟨dx, h1⟩ := r.ob
  obtain ⟨dy, h2⟩ := r2.ob
  exact ⟨p, q, dx, _, dy, _, rfl, rfl, h1, h2, p, .ref q, t, b, t2, b2, rfl, r, .inr ⟨q, rfl, r2⟩, z1, z2, z3, z4, k⟩
def spNeg (C : Addr) : Sp := fun vs H Q _ => ∃ p t b, vs = [.ref p] ∧ Rat C H p t b ∧ Sz 1000 b ∧ ∀ q H', Same H H' → Rat C H' q (-t) b → Q (.ref q) H'
theorem ok_Ratio_neg (T : Txt K mg a) : FnOk P w K mg base CX0 4 a.f_Ratio_neg a.d_Ratio_neg ["self"] (spNeg a.C_Ratio) := by
  refine T.F_Ratio_neg.ok sc_Ratio_neg (fun vs H Q E h => ?_) (fun cdv A outer s H vs Q E hr h => ?_)
  · obtain ⟨p, t, b, rfl, _⟩ := h
    rfl
  · obtain ⟨p, t, b, rfl, r, z, k⟩ := h
    refine ⟨_, (pss_one (ps_ret (pe_make T.mk_Ratio (ok_Ratio_init T) (hr.mono (by decide)) (by rfl) T.m_Ratio (bd_Ratio T) .nil pass0 (pa_cons (pe_un un_neg (pe_fld (pv 0) rfl)) (pa_cons (pe_fld (pv 0) rfl) pa_nil))))), ?_⟩
    walk_at "r"
    repeat walk_at "f"
    refine mkq_leaf r.pos (z.mono (by decide)) fun q H2 u l _ e2 r3 n => ?_
    have m : Nrm (-t) b (-t) b := ⟨r.pos, by show Nat.gcd (-t).natAbs b.natAbs = 1; rw [Int.natAbs_neg]; exact r.cop, rfl⟩
    obtain ⟨rfl, rfl⟩ := n.uniq m (by have := r.pos; omega) (by have := r.pos; omega) rfl
    exact k q H2 e2 r3
theorem oNeg {X : Cx} (T : Txt X.K X.mg a) (hr : Room 4 X.A) : UnR X (unaryOp .USub) (rNegO a.C_Ratio (spNeg a.C_Ratio) E0) := un_negO T.me_Ratio_neg.at_ T.me_Ratio_neg.fn (ok_Ratio_neg T) hr T.b_Ratio_neg pass0
theorem neg_leaf {C : Addr} {H : Hp} {Q : VK} {p : Addr} {t b : Int} (r : Rat C H p t b) (z : Sz 1000 b) (k : ∀ q H', Same H H' → Rat C H' q (-t) b → Q (.ref q) H') : rNegO C (spNeg C) E0 (.ref p) H Q := by
  obtain ⟨dx, h1⟩ := r.ob
  exact ⟨p, dx, _, rfl, h1, p, t, b, rfl, r, z, k⟩
abbrev spMul (C : Addr) : Sp := spBin C (fun t b t2 b2 => t * t2) fun t b t2 b2 => b * b2
theorem ok_Ratio_mul (T : Txt K mg a) : FnOk P w K mg base CX0 5 a.f_Ratio_mul a.d_Ratio_mul ["self", "other"] (spMul a.C_Ratio) := by
  refine T.F_Ratio_mul.ok sc_Ratio_mul (fun vs H Q E h => ?_) (fun cdv A outer s H vs Q E hr h => ?_)
  · obtain ⟨p, x, t, b, t2, b2, rfl, _⟩ := h
    rfl
  · obtain ⟨p, x, t, b, t2, b2, rfl, r, f, z1, z2, z3, z4, k⟩ := h
    refine ⟨_, (pss_cons (ps_if (pt_not (pt_val (pe_call (ok_is_fraction T) (hr.mono (by decide)) (by rfl) T.m_is_fraction T.F_is_fraction.kp T.b_is_fraction .nil pass0 (pa_cons (pv 1) pa_nil)))) (pss_one ps_never) pss_nil)
      (pss_cons (ps_set (i := 2) sc_Ratio_mul.nd rfl (Or.inl rfl) (pe_call (ok_as_ratio T) (hr.mono (by decide)) (by rfl) T.m_as_ratio T.F_as_ratio.kp T.b_as_ratio .nil pass0 (pa_cons (pv 1) pa_nil)))
      (pss_one (ps_ret (pe_make T.mk_Ratio (ok_Ratio_init T) (hr.mono (by decide)) (by rfl) T.m_Ratio (bd_Ratio T) .nil pass0 (pa_cons (pe_op op_mulW (pe_fld (pv 0) rfl) (pe_fld (pv 2) rfl)) (pa_cons (pe_op op_mulW (pe_fld (pv 0) rfl) (pe_fld (pv 2) rfl)) pa_nil))))))), ?_⟩
    walk_at "r"
    refine frac_leaf f ?_
    walk_at "r"
    refine iteF ?_
    walk_at "r"
    refine as_leaf f fun p2 H1 e1 r2 => ?_
    have r1 := r.same e1
    walk_at "r"
    repeat walk_at "f"
    exact mkq_leaf (Int.mul_pos r.pos r2.pos) ((z2.mul z4).mono (by decide)) fun q H2 u l _ e2 r3 n => k q H2 u l (e1.trans e2) r3 n
theorem oMultqq {X : Cx} (T : Txt X.K X.mg a) (hr : Room 5 X.A) : OpR X (binaryOp .Mult) (rOwn2 a.C_Ratio (spMul a.C_Ratio) E0) := op_own2 T.sf T.me_Ratio_mul.at_ T.me_Ratio_mul.fn (ok_Ratio_mul T) hr T.b_Ratio_mul pass0
abbrev spRadd (C : Addr) : Sp := spBin C (fun t b t2 b2 => t2 * b + t * b2) fun t b t2 b2 => b2 * b
theorem ok_Ratio_radd (T : Txt K mg a) : FnOk P w K mg base CX0 6 a.f_Ratio_radd a.d_Ratio_radd ["self", "other"] (spRadd a.C_Ratio) := by
  refine T.F_Ratio_radd.ok sc_Ratio_radd (fun vs H Q E h => ?_) (fun cdv A outer s H vs Q E hr h => ?_)
  · obtain ⟨p, x, t, b, t2, b2, rfl, _⟩ := h
    rfl
  · obtain ⟨p, x, t, b, t2, b2, rfl, r, f, z1, z2, z3, z4, k⟩ := h
    refine ⟨_, (pss_cons (ps_if (pt_not (pt_val (pe_call (ok_is_fraction T) (hr.mono (by decide)) (by rfl) T.m_is_fraction T.F_is_fraction.kp T.b_is_fraction .nil pass0 (pa_cons (pv 1) pa_nil)))) (pss_one ps_never) pss_nil)
      (pss_one (ps_ret (pe_op (oAddqq T (hr.mono (by decide))) (pe_call (ok_as_ratio T) (hr.mono (by decide)) (by rfl) T.m_as_ratio T.F_as_ratio.kp T.b_as_ratio .nil pass0 (pa_cons (pv 1) pa_nil)) (pv 0))))), ?_⟩
    walk_at "r"
    refine frac_leaf f ?_
    walk_at "r"
    refine iteF ?_
    walk_at "r"
    refine as_leaf f fun p2 H1 e1 r2 => ?_
    have r1 := r.same e1
    walk_at "r"
    exact own2_leaf r2 r1 z3 z4 z1 z2 fun q H2 u l e2 r3 n => k q H2 u l (e1.trans e2) r3 n
abbrev spRmul (C : Addr) : Sp := spBin C (fun t b t2 b2 => t2 * t) fun t b t2 b2 => b2 * b
theorem ok_Ratio_rmul (T : Txt K mg a) : FnOk P w K mg base CX0 6 a.f_Ratio_rmul a.d_Ratio_rmul ["self", "other"] (spRmul a.C_Ratio) := by
  refine T.F_Ratio_rmul.ok sc_Ratio_rmul (fun vs H Q E h => ?_) (fun cdv A outer s H vs Q E hr h => ?_)
  · obtain ⟨p, x, t, b, t2, b2, rfl, _⟩ := h
    rfl
  · obtain ⟨p, x, t, b, t2, b2, rfl, r, f, z1, z2, z3, z4, k⟩ := h
    refine ⟨_, (pss_cons (ps_if (pt_not (pt_val (pe_call (ok_is_fraction T) (hr.mono (by decide)) (by rfl) T.m_is_fraction T.F_is_fraction.kp T.b_is_fraction .nil pass0 (pa_cons (pv 1) pa_nil)))) (pss_one ps_never) pss_nil)
      (pss_one (ps_ret (pe_op (oMultqq T (hr.mono (by decide))) (pe_call (ok_as_ratio T) (hr.mono (by decide)) (by rfl) T.m_as_ratio T.F_as_ratio.kp T.b_as_ratio .nil pass0 (pa_cons (pv 1) pa_nil)) (pv 0))))), ?_⟩
    walk_at "r"
    refine frac_leaf f ?_
    walk_at "r"
    refine iteF ?_
    walk_at "r"
    refine as_leaf f fun p2 H1 e1 r2 => ?_
    have r1 := r.same e1
    walk_at "r"
    exact own2_leaf r2 r1 z3 z4 z1 z2 fun q H2 u l e2 r3 n => k q H2 u l (e1.trans e2) r3 n
abbrev spSub (C : Addr) : Sp := spBin C (fun t b t2 b2 => t * b2 + -t2 * b) fun t b t2 b2 => b * b2
theorem ok_Ratio_sub (T : Txt K mg a) : FnOk P w K mg base CX0 6 a.f_Ratio_sub a.d_Ratio_sub ["self", "other"] (spSub a.C_Ratio) := by
  refine T.F_Ratio_sub.ok sc_Ratio_sub (fun vs H Q E h => ?_) (fun cdv A outer s H vs Q E hr h => ?_)
  · obtain ⟨p, x, t, b, t2, b2, rfl, _⟩ := h
    rfl
  · obtain ⟨p, x, t, b, t2, b2, rfl, r, f, z1, z2, z3, z4, k⟩ := h
    refine ⟨_, (pss_cons (ps_if (pt_not (pt_val (pe_call (ok_is_fraction T) (hr.mono (by decide)) (by rfl) T.m_is_fraction T.F_is_fraction.kp T.b_is_fraction .nil pass0 (pa_cons (pv 1) pa_nil)))) (pss_one ps_never) pss_nil)
      (pss_one (ps_ret (pe_op (oAddqq T (hr.mono (by decide))) (pv 0) (pe_un (oNeg T (hr.mono (by decide))) (pe_call (ok_as_ratio T) (hr.mono (by decide)) (by rfl) T.m_as_ratio T.F_as_ratio.kp T.b_as_ratio .nil pass0 (pa_cons (pv 1) pa_nil))))))), ?_⟩
    walk_at "r"
    refine frac_leaf f ?_
    walk_at "r"
    refine iteF ?_
    walk_at "r"
    refine as_leaf f fun p2 H1 e1 r2 => ?_
    have r1 := r.same e1
    walk_at "r"
    refine neg_leaf r2 z4 fun p3 H3 e3 r3 => ?_
    exact own2_leaf (r1.same e3) r3 z1 z2 z3.neg z4 fun q H2 u l e2 r3 n => k q H2 u l ((e1.trans e3).trans e2) r3 n
theorem oSubqq {X : Cx} (T : Txt X.K X.mg a) (hr : Room 6 X.A) : OpR X (binaryOp .Sub) (rOwn2 a.C_Ratio (spSub a.C_Ratio) E0) := op_own2 T.sf T.me_Ratio_sub.at_ T.me_Ratio_sub.fn (ok_Ratio_sub T) hr T.b_Ratio_sub pass0
abbrev spRsub (C : Addr) : Sp := spBin C (fun t b t2 b2 => t2 * b + -t * b2) fun t b t2 b2 => b2 * b
theorem ok_Ratio_rsub (T : Txt K mg a) : FnOk P w K mg base CX0 7 a.f_Ratio_rsub a.d_Ratio_rsub ["self", "other"] (spRsub a.C_Ratio) := by
  refine T.F_Ratio_rsub.ok sc_Ratio_rsub (fun vs H Q E h => ?_) (fun cdv A outer s H vs Q E hr h => ?_)
  · obtain ⟨p, x, t, b, t2, b2, rfl, _⟩ := h
    rfl
  · obtain ⟨p, x, t, b, t2, b2, rfl, r, f, z1, z2, z3, z4, k⟩ := h
    refine ⟨_, (pss_cons (ps_if (pt_not (pt_val (pe_call (ok_is_fraction T) (hr.mono (by decide)) (by rfl) T.m_is_fraction T.F_is_fraction.kp T.b_is_fraction .nil pass0 (pa_cons (pv 1) pa_nil)))) (pss_one ps_never) pss_nil)
      (pss_one (ps_ret (pe_op (oSubqq T (hr.mono (by decide))) (pe_call (ok_as_ratio T) (hr.mono (by decide)) (by rfl) T.m_as_ratio T.F_as_ratio.kp T.b_as_ratio .nil pass0 (pa_cons (pv 1) pa_nil)) (pv 0))))), ?_⟩
    walk_at "r"
    refine frac_leaf f ?_
    walk_at "r"
    refine iteF ?_
    walk_at "r"
    refine as_leaf f fun p2 H1 e1 r2 => ?_
    have r1 := r.same e1
    walk_at "r"
    exact own2_leaf r2 r1 z3 z4 z1 z2 fun q H2 u l e2 r3 n => k q H2 u l (e1.trans e2) r3 n
/-! ### comparisons -/
def spEq (K : PySem.W.Frag) (C : Addr) : Sp := fun vs H Q _ => ∃ p x t b, vs = [.ref p, x] ∧ Rat C H p t b ∧ ((∃ t2 b2, Frn C H x t2 b2 ∧ ∀ k H', Same H H' → (k = true ↔ t = t2 ∧ b = b2) → Q (.bl k) H') ∨ (NotFr K C H x ∧ Q (.bl false) H))
theorem ok_Ratio_eq (T : Txt K mg a) : FnOk P w K mg base CX0 5 a.f_Ratio_eq a.d_Ratio_eq ["self", "other"] (spEq K a.C_Ratio) := by
  refine T.F_Ratio_eq.ok sc_Ratio_eq (fun vs H Q E h => ?_) (fun cdv A outer s H vs Q E hr h => ?_)
  · obtain ⟨p, x, t, b, rfl, _⟩ := h
    rfl
  · obtain ⟨p, x, t, b, rfl, r, h⟩ := h
    refine ⟨_, (pss_cons (ps_if (pt_not (pt_val (pe_call (ok_is_fraction T) (hr.mono (by decide)) (by rfl) T.m_is_fraction T.F_is_fraction.kp T.b_is_fraction .nil pass0 (pa_cons (pv 1) pa_nil)))) (pss_one (ps_ret pe_bl)) pss_nil)
      (pss_cons (ps_set (i := 2) sc_Ratio_eq.nd rfl (Or.inl rfl) (pe_call (ok_as_ratio T) (hr.mono (by decide)) (by rfl) T.m_as_ratio T.F_as_ratio.kp T.b_as_ratio .nil pass0 (pa_cons (pv 1) pa_nil)))
      (pss_one (ps_ret (pe_and (pe_cmpR op_eq (pe_fld (pv 0) rfl) (pe_fld (pv 2) rfl) (nomark _)) (pe_one (pe_cmpR op_eq (pe_fld (pv 0) rfl) (pe_fld (pv 2) rfl) (nomark _)))))))), ?_⟩
    walk_at "r"
    rcases h with ⟨t2, b2, f, k⟩ | ⟨nf, k⟩
    · refine frac_leaf f ?_
      walk_at "r"
      refine iteF ?_
      walk_at "r"
      refine as_leaf f fun p2 H1 e1 r2 => ?_
      have r1 := r.same e1
      walk_at "r"
      repeat walk_at "f"
      refine w_iteD (fun c => ?_) (fun c => ?_)
      · walk_at "r"
        repeat walk_at "f"
        refine k _ H1 e1 ?_
        rw [decide_eq_true_iff]
        exact ⟨fun c2 => ⟨V.int.inj c, V.int.inj c2⟩, fun c2 => by rw [c2.2]⟩
      · exact k false H1 e1 ⟨fun z => Bool.noConfusion z, fun c2 => absurd (by rw [c2.1]) c⟩
    · refine ⟨x, rfl, .inr ⟨nf, ?_⟩⟩
      walk_at "r"
      exact iteT k
theorem oEqq {X : Cx} (T : Txt X.K X.mg a) (hr : Room 5 X.A) : OpR X (compareOp .Eq) (rEqO X.K a.C_Ratio (spEq X.K a.C_Ratio) E0) := op_eqO T.me_Ratio_eq.at_ T.me_Ratio_eq.fn (ok_Ratio_eq T) hr T.b_Ratio_eq pass0
abbrev oEqqq := @oEqq
abbrev oEqqi := @oEqq
abbrev oEqqb := @oEqq
abbrev oEqqT := @oEqq
def spCmp (C : Addr) : Sp := fun vs H Q _ => ∃ p x t b t2 b2, vs = [.ref p, x] ∧ Rat C H p t b ∧ Frn C H x t2 b2 ∧ Sz 1000 t ∧ Sz 1000 b ∧ Sz 1000 t2 ∧ Sz 1000 b2 ∧
  ∀ H', Same H H' → Q (.int (if t * b2 = t2 * b then 0 else if t2 * b < t * b2 then 1 else -1)) H'
theorem ok_Ratio_compared (T : Txt K mg a) : FnOk P w K mg base CX0 5 a.f_Ratio_compared a.d_Ratio_compared ["self", "other"] (spCmp a.C_Ratio) := by
  refine T.F_Ratio_compared.ok sc_Ratio_compared (fun vs H Q E h => ?_) (fun cdv A outer s H vs Q E hr h => ?_)
  · obtain ⟨p, x, t, b, t2, b2, rfl, _⟩ := h
    rfl
  · obtain ⟨p, x, t, b, t2, b2, rfl, r, f, z1, z2, z3, z4, k⟩ := h
    refine ⟨_, (pss_cons (ps_if (pt_not (pt_val (pe_call (ok_is_fraction T) (hr.mono (by decide)) (by rfl) T.m_is_fraction T.F_is_fraction.kp T.b_is_fraction .nil pass0 (pa_cons (pv 1) pa_nil)))) (pss_one ps_never) pss_nil)
      (pss_cons (ps_set (i := 2) sc_Ratio_compared.nd rfl (Or.inl rfl) (pe_call (ok_as_ratio T) (hr.mono (by decide)) (by rfl) T.m_as_ratio T.F_as_ratio.kp T.b_as_ratio .nil pass0 (pa_cons (pv 1) pa_nil)))
      (pss_cons (ps_set (i := 3) sc_Ratio_compared.nd rfl (Or.inl rfl) (pe_op op_mulW (pe_fld (pv 0) rfl) (pe_fld (pv 2) rfl)))
      (pss_cons (ps_set (i := 4) sc_Ratio_compared.nd rfl (Or.inl rfl) (pe_op op_mulW (pe_fld (pv 2) rfl) (pe_fld (pv 0) rfl)))
      (pss_cons (ps_if (pt_cmpR op_eq (pv 3) (pv 4) (nomark _)) (pss_one (ps_ret pe_int)) pss_nil)
      (pss_one (ps_ret (pe_ifExp (pt_cmpR op_gt (pv 3) (pv 4) (nomark _)) pe_int (pe_un un_neg pe_int))))))))), ?_⟩
    walk_at "r"
    refine frac_leaf f ?_
    walk_at "r"
    refine iteF ?_
    walk_at "r"
    refine as_leaf f fun p2 H1 e1 r2 => ?_
    have r1 := r.same e1
    have k1 := k H1 e1
    walk_at "r"
    repeat walk_at "f"
    refine w_iteD (fun c => ?_) (fun c => ?_)
    · walk_at "r"
      rw [if_pos (V.int.inj c)] at k1
      exact k1
    · rw [if_neg fun z => c (congrArg V.int z)] at k1
      walk_at "r"
      refine w_tIf ?_
      walk_at "r"
      refine w_iteD (fun c2 => ?_) (fun c2 => ?_)
      · walk_at "r"
        rw [if_pos c2] at k1
        exact k1
      · walk_at "r"
        rw [if_neg c2] at k1
        exact k1
end
end RK8


namespace RK8
open PySem PySem.Spec L2 RK RZ StX PyProof.Rows
/-! ### parts, ties, strings of right puppets -/
abbrev Tie3 := Str × Str × Int
def tieV (t : Tie3) : List V := [.str t.1, .str t.2.1, .int t.2.2]
abbrev Ln3 := Str × Str × Str
def lnV (s : Ln3) : List V := [.str s.1, .str s.2.1, .str s.2.2]
structure GoodParts (ps : List Str) : Prop where
  one : 1 ≤ ps.length
  few : ps.length ≤ 6
  word : ∀ p ∈ ps, Word p
  nd : ps.Nodup
def Meet (t u : Tie3) : Prop := (t.1 = u.1 ∧ t.2.1 = u.2.1) ∨ (t.1 = u.2.1 ∧ t.2.1 = u.1)
structure GoodTies (ps : List Str) (es : List Tie3) : Prop where
  few : es.length ≤ 10
  in1 : ∀ t ∈ es, t.1 ∈ ps
  in2 : ∀ t ∈ es, t.2.1 ∈ ps
  ne : ∀ t ∈ es, t.1 ≠ t.2.1
  pos : ∀ t ∈ es, 0 ≤ t.2.2
  most : ∀ t ∈ es, t.2.2 ≤ 1000000
  apart : es.Pairwise fun t u => ¬ Meet t u
structure GoodLns (ps : List Str) (hk : Str) (ls : List Ln3) : Prop where
  one : 1 ≤ ls.length
  few : ls.length ≤ 6
  let_ : ∀ s ∈ ls, ∃ c, Sgn 97 122 s.1 c
  hook : ∀ s ∈ ls, ∃ d, s.2.1 = ⟨#[d]⟩ ∧ d ∈ hk.cps.toList
  part : ∀ s ∈ ls, s.2.2 ∈ ps
  up : ∀ (i : Nat) (s u : Ln3), ls[i]? = some s → ls[i + 1]? = some u → s.1.cps.toList < u.1.cps.toList
section
variable {P : Program} {w : World} {K : PySem.W.Frag} {mg : Str → Option Value} {base : Heap} {a : Ad}
theorem cut_take (xs : List V) (i : Nat) (h : i ≤ xs.length) : cutV xs none (some ((i : Nat) : Int)) = xs.take i := by
  unfold cutV
  rw [HT.sIx_nat, HT.sIx_none, List.drop_zero, Nat.sub_zero, Nat.min_eq_left h]
theorem not_whole (xs : List V) (i : Nat) (h : i < xs.length) : ¬ (HT.sIx xs.length 0 none = 0 ∧ HT.sIx xs.length xs.length (some ((i : Nat) : Int)) = xs.length) := fun z => by
  have := z.2
  rw [HT.sIx_nat, Nat.min_eq_left (Nat.le_of_lt h)] at this
  omega
theorem nd_take {ps : List Str} (nd : ps.Nodup) {i : Nat} {p : Str} (h : ps[i]? = some p) : p ∉ ps.take i := fun hin => by
  have tk : ps.take (i + 1) = ps.take i ++ [p] := by rw [List.take_succ, h]; rfl
  have n2 : (ps.take (i + 1)).Nodup := nd.sublist (List.take_sublist _ _)
  rw [tk, List.nodup_append] at n2
  exact n2.2.2 p hin p List.mem_cons_self rfl
theorem map_at {α : Type} {f : α → V} {l : List α} {i : Nat} {x : V} (h : (l.map f)[i]? = some x) : ∃ p, l[i]? = some p ∧ x = f p := by
  rw [List.getElem?_map] at h
  cases e : l[i]? with
  | none => rw [e] at h; cases h
  | some p => rw [e] at h; exact ⟨p, rfl, (Option.some.inj h).symm⟩
theorem map_atL {α : Type} {f : α → List V} {l : List α} {i : Nat} {x : List V} (h : (l.map f)[i]? = some x) : ∃ p, l[i]? = some p ∧ f p = x := by
  rw [List.getElem?_map] at h
  cases e : l[i]? with
  | none => rw [e] at h; cases h
  | some p => rw [e] at h; exact ⟨p, rfl, Option.some.inj h⟩
def spCheckParts (K : PySem.W.Frag) : Sp := fun vs H Q _ => ∃ (t : Addr) (ps : List Str), vs = [.ref t] ∧ SqT K H t (ps.map V.str) ∧ GoodParts ps ∧ ∀ H', Same H H' → Q .non H'
theorem ok_check_parts (T : Txt K mg a) : FnOk P w K mg base CX0 3 a.f_check_parts a.d_check_parts ["parts"] (spCheckParts K) := by
  refine T.F_check_parts.ok sc_check_parts (fun vs H Q E h => ?_) (fun cdv A outer s H vs Q E hr h => ?_)
  · obtain ⟨t, ps, rfl, _⟩ := h
    rfl
  · obtain ⟨t, ps, rfl, ht, g, k⟩ := h
    have g1 := g.one
    have g6 := g.few
    refine ⟨_, (pss_cons (ps_if (pt_not (pt_val (pe_call (ok_is_row T) (hr.mono (by decide)) (by rfl) T.m_is_row T.F_is_row.kp T.b_is_row .nil pass0 (pa_cons (pv 0) (pa_cons pe_int (pa_cons (pe_glob (v := .int 6) rfl T.m_MOST_PARTS ⟨_, rfl⟩) pa_nil)))))) (pss_one ps_never) pss_nil)
      (pss_one (ps_for PassesOwn.never rfl (pi_enumT (by rfl) T.z_enumerate (pa_cons (pv 0) pa_nil)) (pg_tup rfl (pgs_cons (pg_name (i := 1) sc_check_parts.nd rfl (Or.inl rfl)) (pgs_cons (pg_name (i := 2) sc_check_parts.nd rfl (Or.inl rfl)) pgs_nil))) (pss_one (ps_if (PW.pt (pw_or (pt_not (pt_val (pe_call (ok_is_word T) (hr.mono (by decide)) (by rfl) T.m_is_word T.F_is_word.kp T.b_is_word .nil pass0 (pa_cons (pv 2) pa_nil)))) (pw_or1 (pt_cmpR op_in_seq (pv 2) (pe_slice sl_tup (pv 0) po_none (po_some (pv 1))) (by rfl))))) (pss_one ps_never) pss_nil))))), ?_⟩
    walk_at "r"
    refine row_leaf ht (by rw [List.length_map]; omega) (by rw [List.length_map]; omega) ?_
    refine ⟨true, rfl, iteF ?_⟩
    walk_at "r"
    refine ⟨t, _, rfl, ht, for_leaf walk_enumT (fun i σ' G => Same H G ∧ ∃ v1 v2 : Option V, σ' = [some (.ref t), v1, v2]) ⟨w_same _, _, _, rfl⟩ (fun i σ' G _ ⟨e, _⟩ => seqT_same e ht) ?_ ?_⟩
    · rintro i x σ' G G' hi ⟨e, v1, v2, rfl⟩ ⟨T', y, z, rfl, nT, rfl, hy, hz⟩
      cases hy
      obtain ⟨p, hp, rfl⟩ := map_at hz
      have mp := List.mem_of_getElem? hp
      refine g_two upd_same ?_
      have e1 := e.trans (w_new (o := .tup [.int (i : Nat), .str p]) nT)
      generalize upd G T' (.tup [.int (i : Nat), .str p]) = G1 at e1 ⊢
      walk_at "r"
      refine ⟨p, rfl, g.word p mp, fun G2 e2 => ?_⟩
      have ht2 := seqT_same (e1.trans e2) ht
      refine ⟨true, rfl, iteF ?_⟩
      walk_at "r"
      refine ⟨t, _, rfl, ht2, not_whole _ i (by rw [List.length_map] at hi ⊢; exact hi), fun q nq => ?_⟩
      rw [cut_take _ i (by rw [List.length_map] at hi ⊢; omega), ← List.map_take]
      refine in_leaf (.inr (SqT.of upd_same)) ?_
      rw [decide_eq_false (nd_take g.nd hp)]
      refine ⟨false, rfl, iteF ?_⟩
      walk_at "r"
      exact ⟨(e1.trans e2).trans (w_new nq), _, _, rfl⟩
    · rintro σ' G ⟨e, _⟩
      exact k G e
/-! ties -/
theorem any_F {Q : VK} {D : Addr} {ys : List V} {H : Hp} (h : H D = some (.lst ys)) (hP : ∀ (i : Nat) (v : V), ys[i]? = some v → v = .bl false) (q : Q (.bl false) H) : rAny K [.ref D] H Q := by
  have e : ys = (List.replicate ys.length false).map V.bl := by
    rw [List.map_replicate]
    exact List.eq_replicate_iff.mpr ⟨rfl, fun b hb => by obtain ⟨i, hi⟩ := List.mem_iff_getElem?.mp hb; exact hP i b hi⟩
  refine ⟨D, List.replicate ys.length false, rfl, by rw [← e]; exact SqL.of h, ?_⟩
  have : (List.replicate ys.length false).any id = false := by
    rw [List.any_eq_false]
    intro x hx
    rw [(List.mem_replicate.mp hx).2]
    decide
  rw [this]
  exact q
theorem dp_two {H : Hp} {p : Addr} {x y : Str} (h : SqT K H p [.str x, .str y]) : Dp K H (.ref p) (.tuple [.str x, .str y]) := .tup h (.cons (.str _) (.cons (.str _) .nil))
theorem word_ok {s : Str} (h : Word s) : PyData.strOk s = true := by
  unfold PyData.strOk
  rw [← Array.all_toList, List.all_eq_true]
  intro c hc
  have := h.2.2 c hc
  exact decide_eq_true (by omega)
def spTied (K : PySem.W.Frag) : Sp := fun vs H Q _ => ∃ (p q : Str) (t : Addr) (es : List Tie3), vs = [.str p, .str q, .ref t] ∧ Word p ∧ Word q ∧ Rws K H t (es.map tieV) ∧ es.length ≤ 10 ∧ (∀ e ∈ es, Word e.1 ∧ Word e.2.1) ∧ (∀ e ∈ es, ¬ Meet e (p, q, 0)) ∧ ∀ H', Same H H' → Q (.bl false) H'
theorem ok_is_tied (T : Txt K mg a) : FnOk P w K mg base CX0 1 a.f_is_tied a.d_is_tied ["part", "other", "ties"] (spTied K) := by
  refine T.F_is_tied.ok sc_is_tied (fun vs H Q E h => ?_) (fun cdv A outer s H vs Q E hr h => ?_)
  · obtain ⟨p, q, t, es, rfl, _⟩ := h
    rfl
  · obtain ⟨p, q, t, es, rfl, wp, wq, ⟨as, ht, hl, hrow⟩, few, we, no, k⟩ := h
    refine ⟨_, (pss_one (ps_ret (pe_callB (cr_any rfl) (by rfl) T.z_any (by decide +kernel) (pa_cons (pe_lc (own := [("one", 3), ("two", 4), ("_", 5)]) (g := gTup K 3 (gCons (gName 3) (gCons (gName 4) (gCons (gName 5) (gNil))))) (tt := tYes) rfl sc_is_tied.nd (pi_tup (pv 2)) (blkOk_by (own := [("one", 3), ("two", 4), ("_", 5)]) (N := ["part", "other", "ties", "one", "two", "_"]) (sc := defScope s_is_tied) (by decide +kernel)) (fun _ _ _ _ _ => by exact pg_tup (n := 3) rfl (pgs_cons (pg_name (i := 3) sc_is_tied.nd rfl (Or.inl rfl)) (pgs_cons (pg_name (i := 4) sc_is_tied.nd rfl (Or.inl rfl)) (pgs_cons (pg_name (i := 5) sc_is_tied.nd rfl (Or.inl rfl)) pgs_nil)))) (fun _ _ _ _ _ => pts_nil) (fun _ _ _ _ _ => by exact (pe_cmpR (show OpR _ _ (rInT K) from op_inT (room65 hr)) (pe_tup (pa_cons (pv 3) (pa_cons (pv 4) pa_nil))) (pe_tup (pa_cons (pe_tup (pa_cons (pv 0) (pa_cons (pv 1) pa_nil))) (pa_cons (pe_tup (pa_cons (pv 1) (pa_cons (pv 0) pa_nil))) pa_nil))) (by rfl)))) pa_nil)))), ?_⟩
    walk_at "r"
    refine ⟨t, rfl, ⟨_, ht⟩, cmS walk_tup (by rw [List.length_map, hl, List.length_map]; omega) (fun G e => seqT_same e ht) (fun _ v _ => v = .bl false) (fun _ _ _ _ _ h => h) (fun i x H1 H2 hi e hy Q' kq => ?_) (fun D zs H1 n1 e1 h1 _ hP => ?_)⟩
    · obtain ⟨rfl, hx⟩ := hy
      obtain ⟨r, u, rfl, hu, hr⟩ := rows_at hl hrow hx
      obtain ⟨e0, he, rfl⟩ : ∃ e0, es[i]? = some e0 ∧ tieV e0 = u := by
        rw [List.getElem?_map] at hu
        cases q : es[i]? with
        | none => rw [q] at hu; cases hu
        | some e0 => rw [q] at hu; exact ⟨e0, rfl, Option.some.inj hu⟩
      have me := List.mem_of_getElem? he
      obtain ⟨w1, w2⟩ := we e0 me
      refine g_three (seqT_same e hr) ⟨rfl, ?_⟩
      walk_at "r"
      refine w_newT (by show 2 ≤ 100000; decide) fun t3 H3 n3 e3 h3 => ?_
      walk_at "r"
      refine w_newT (by show 2 ≤ 100000; decide) fun t4 H4 n4 e4 h4 => ?_
      walk_at "r"
      refine w_newT (by show 2 ≤ 100000; decide) fun t5 H5 n5 e5 h5 => ?_
      walk_at "r"
      refine w_newT (by show 2 ≤ 100000; decide) fun t6 H6 n6 e6 h6 => ?_
      have lay : ∀ x y : Str, Word x → Word y → PyData.canLay0 (.tuple [.str x, .str y]) = true := fun x y hx hy => by
        show (PyData.strOk x && (PyData.strOk y && true)) = true
        rw [word_ok hx, word_ok hy]
        rfl
      refine ⟨.tuple [.str e0.1, .str e0.2.1], [.tuple [.str p, .str q], .tuple [.str q, .str p]], dp_two (SqT.of (e6 _ _ (e5 _ _ (e4 _ _ h3)))), .tup (SqT.of h6) (.cons (dp_two (SqT.of (e6 _ _ (e5 _ _ h4)))) (.cons (dp_two (SqT.of (e6 _ _ h5))) .nil)), ?_, ?_, ?_⟩
      · unfold SeqAt.shaped
        rw [lay _ _ w1 w2]
        rfl
      · unfold SeqAt.shaped
        rw [show PyData.canLay0 (.tuple [.tuple [.str p, .str q], .tuple [.str q, .str p]]) = (PyData.canLay0 (.tuple [.str p, .str q]) && (PyData.canLay0 (.tuple [.str q, .str p]) && true)) from rfl, lay _ _ wp wq, lay _ _ wq wp]
        rfl
      · have n := no e0 me
        have f : (([.tuple [.str p, .str q], .tuple [.str q, .str p]] : List PyData).any fun z => PyData.eqv z (.tuple [.str e0.1, .str e0.2.1])) = false := by
          show (((p == e0.1) && ((q == e0.2.1) && true)) || (((q == e0.1) && ((p == e0.2.1) && true)) || false)) = false
          rw [Bool.eq_false_iff]
          intro z
          simp only [Bool.or_eq_true, Bool.and_eq_true, beq_iff_eq, Bool.false_eq_true, or_false, and_true] at z
          exact n (z.elim (fun z => .inl ⟨z.1.symm, z.2.symm⟩) fun z => .inr ⟨z.1.symm, z.2.symm⟩)
        rw [f]
        exact kq _ _ (((e3.trans e4).trans e5).trans e6) rfl
    walk_at "r"
    exact any_F h1 hP (k _ e1)
def spTie (K : PySem.W.Frag) : Sp := fun vs H Q _ => ∃ (t u : Addr) (e : Tie3) (ps : List Str), vs = [.ref t, .ref u] ∧ SqT K H t (tieV e) ∧ SqT K H u (ps.map V.str) ∧ e.1 ∈ ps ∧ e.2.1 ∈ ps ∧ e.1 ≠ e.2.1 ∧ 0 ≤ e.2.2 ∧ e.2.2 ≤ 1000000 ∧ ∀ H', Same H H' → Q (.bl true) H'
theorem ok_is_tie (T : Txt K mg a) : FnOk P w K mg base CX0 3 a.f_is_tie a.d_is_tie ["value", "parts"] (spTie K) := by
  refine T.F_is_tie.ok sc_is_tie (fun vs H Q E h => ?_) (fun cdv A outer s H vs Q E hr h => ?_)
  · obtain ⟨t, u, e, ps, rfl, _⟩ := h
    rfl
  · obtain ⟨t, u, e, ps, rfl, ht, hu, m1, m2, ne, h0, h6, k⟩ := h
    refine ⟨_, (pss_cons (ps_if (PW.pt (pw_or (pt_not (pt_val (pe_call (ok_is_row T) (hr.mono (by decide)) (by rfl) T.m_is_row T.F_is_row.kp T.b_is_row .nil pass0 (pa_cons (pv 0) (pa_cons pe_int (pa_cons pe_int pa_nil)))))) (pw_or (pt_not (pt_val (pe_call (ok_is_one_of T) (hr.mono (by decide)) (by rfl) T.m_is_one_of T.F_is_one_of.kp T.b_is_one_of .nil pass0 (pa_cons (pe_ix ix_tup (pv 0) pe_int (fun _ _ => rfl)) (pa_cons (pv 1) pa_nil))))) (pw_or1 (pt_not (pt_val (pe_call (ok_is_one_of T) (hr.mono (by decide)) (by rfl) T.m_is_one_of T.F_is_one_of.kp T.b_is_one_of .nil pass0 (pa_cons (pe_ix ix_tup (pv 0) pe_int (fun _ _ => rfl)) (pa_cons (pv 1) pa_nil))))))))) (pss_one (ps_ret pe_bl)) pss_nil)
      (pss_one (ps_ret (pe_and (pe_cmpR op_ne (pe_ix ix_tup (pv 0) pe_int (fun _ _ => rfl)) (pe_ix ix_tup (pv 0) pe_int (fun _ _ => rfl)) (nomark _)) (pe_and (pe_call (ok_is_number T) (hr.mono (by decide)) (by rfl) T.m_is_number T.F_is_number.kp T.b_is_number .nil pass0 (pa_cons (pe_ix ix_tup (pv 0) pe_int (fun _ _ => rfl)) pa_nil)) (pe_one (pe_cmpR op_le (pe_ix ix_tup (pv 0) pe_int (fun _ _ => rfl)) (pe_glob (v := .int 1000000) rfl T.m_MOST_AMOUNT ⟨_, rfl⟩) (nomark _)))))))), ?_⟩
    walk_at "r"
    refine row_leaf ht (by show (3 : Int) ≤ 3; decide) (by show (3 : Int) ≤ 3; decide) ⟨true, rfl, iteF ?_⟩
    walk_at "r"
    refine ⟨t, _, 0, _, rfl, rfl, ht, rfl, ?_⟩
    walk_at "r"
    refine oneOf_leaf hu fun H1 e1 => ?_
    rw [decide_eq_true m1]
    refine ⟨true, rfl, iteF ?_⟩
    walk_at "r"
    refine ⟨t, _, 1, _, rfl, rfl, seqT_same e1 ht, rfl, ?_⟩
    walk_at "r"
    refine oneOf_leaf (seqT_same e1 hu) fun H2 e2 => ?_
    rw [decide_eq_true m2]
    refine ⟨true, rfl, iteF ?_⟩
    have ht2 := seqT_same (e1.trans e2) ht
    walk_at "r"
    refine ⟨t, _, 0, _, rfl, rfl, ht2, rfl, ?_⟩
    walk_at "r"
    refine ⟨t, _, 1, _, rfl, rfl, ht2, rfl, ?_⟩
    walk_at "r"
    refine w_iteN (fun _ => ?_) (fun z => absurd (V.str.inj z) ne)
    walk_at "r"
    refine ⟨t, _, 2, _, rfl, rfl, ht2, rfl, ?_⟩
    walk_at "r"
    refine ⟨e.2.2, rfl, h0, true, rfl, iteT ?_⟩
    walk_at "r"
    refine ⟨t, _, 2, _, rfl, rfl, ht2, rfl, ?_⟩
    walk_at "r"
    show Q (.bl (decide (e.2.2 ≤ 1000000))) H2
    rw [decide_eq_true h6]
    exact k _ (e1.trans e2)
theorem rows_take {H H' : Hp} {as : List Addr} {L : List (List V)} {q : Addr} (hl : as.length = L.length) (h : ∀ (i : Nat) (q : Addr) (u : List V), as[i]? = some q → L[i]? = some u → SqT K H q u) (e : Same H H') (i : Nat) (hq : H' q = some (.tup ((as.take i).map V.ref))) : Rws K H' q (L.take i) :=
  ⟨as.take i, SqT.of hq, by rw [List.length_take, List.length_take, hl], fun j r u a b => by
    rw [List.getElem?_take] at a b
    split at a
    · rename_i lt
      rw [if_pos lt] at b
      exact seqT_same e (h j r u a b)
    · cases a⟩
def spCheckTies (K : PySem.W.Frag) : Sp := fun vs H Q _ => ∃ (t u : Addr) (es : List Tie3) (ps : List Str), vs = [.ref t, .ref u] ∧ Rws K H t (es.map tieV) ∧ SqT K H u (ps.map V.str) ∧ GoodParts ps ∧ GoodTies ps es ∧ ∀ H', Same H H' → Q .non H'
theorem ok_check_ties (T : Txt K mg a) : FnOk P w K mg base CX0 4 a.f_check_ties a.d_check_ties ["ties", "parts"] (spCheckTies K) := by
  refine T.F_check_ties.ok sc_check_ties (fun vs H Q E h => ?_) (fun cdv A outer s H vs Q E hr h => ?_)
  · obtain ⟨t, u, es, ps, rfl, _⟩ := h
    rfl
  · obtain ⟨t, u, es, ps, rfl, ⟨as, ht, hl, hrow⟩, hu, gp, g, k⟩ := h
    have few := g.few
    have hl2 : as.length = es.length := by rw [hl, List.length_map]
    refine ⟨_, (pss_cons (ps_if (pt_not (pt_val (pe_call (ok_is_row T) (hr.mono (by decide)) (by rfl) T.m_is_row T.F_is_row.kp T.b_is_row .nil pass0 (pa_cons (pv 0) (pa_cons pe_int (pa_cons (pe_glob (v := .int 10) rfl T.m_MOST_TIES ⟨_, rfl⟩) pa_nil)))))) (pss_one ps_never) pss_nil)
      (pss_one (ps_for PassesOwn.never rfl (pi_enumT (by rfl) T.z_enumerate (pa_cons (pv 0) pa_nil)) (pg_tup rfl (pgs_cons (pg_name (i := 2) sc_check_ties.nd rfl (Or.inl rfl)) (pgs_cons (pg_name (i := 3) sc_check_ties.nd rfl (Or.inl rfl)) pgs_nil))) (pss_one (ps_if (PW.pt (pw_or (pt_not (pt_val (pe_call (ok_is_tie T) (hr.mono (by decide)) (by rfl) T.m_is_tie T.F_is_tie.kp T.b_is_tie .nil pass0 (pa_cons (pv 3) (pa_cons (pv 1) pa_nil))))) (pw_or1 (pt_val (pe_call (ok_is_tied T) (hr.mono (by decide)) (by rfl) T.m_is_tied T.F_is_tied.kp T.b_is_tied .nil pass0 (pa_cons (pe_ix ix_tup (pv 3) pe_int (fun _ _ => rfl)) (pa_cons (pe_ix ix_tup (pv 3) pe_int (fun _ _ => rfl)) (pa_cons (pe_slice sl_tup (pv 0) po_none (po_some (pv 2))) pa_nil)))))))) (pss_one ps_never) pss_nil))))), ?_⟩
    walk_at "r"
    refine row_leaf ht (by rw [List.length_map]; omega) (by rw [List.length_map]; omega) ?_
    refine ⟨true, rfl, iteF ?_⟩
    walk_at "r"
    refine ⟨t, _, rfl, ht, for_leaf walk_enumT (fun i σ' G => Same H G ∧ ∃ v1 v2 : Option V, σ' = [some (.ref t), some (.ref u), v1, v2]) ⟨w_same _, _, _, rfl⟩ (fun i σ' G _ ⟨e, _⟩ => seqT_same e ht) ?_ ?_⟩
    · rintro i x σ' G G' hi ⟨e, v1, v2, rfl⟩ ⟨T', y, z, rfl, nT, rfl, hy, hz⟩
      cases hy
      obtain ⟨r, v, rfl, hv, hrr⟩ := rows_at hl hrow hz
      obtain ⟨e0, he, rfl⟩ := map_atL hv
      have me := List.mem_of_getElem? he
      refine g_two upd_same ?_
      have e1 := e.trans (w_new (o := .tup [.int (i : Nat), .ref r]) nT)
      generalize upd G T' (.tup [.int (i : Nat), .ref r]) = G1 at e1 ⊢
      walk_at "r"
      refine ⟨r, u, e0, ps, rfl, seqT_same e1 hrr, seqT_same e1 hu, g.in1 _ me, g.in2 _ me, g.ne _ me, g.pos _ me, g.most _ me, fun G2 e2 => ?_⟩
      have e12 := e1.trans e2
      have hr2 := seqT_same e12 hrr
      refine ⟨true, rfl, iteF ?_⟩
      walk_at "r"
      refine ⟨r, _, 0, _, rfl, rfl, hr2, rfl, ?_⟩
      walk_at "r"
      refine ⟨r, _, 1, _, rfl, rfl, hr2, rfl, ?_⟩
      walk_at "r"
      refine ⟨t, _, rfl, seqT_same e12 ht, not_whole _ i hi, fun q nq => ?_⟩
      have hi2 : i < as.length := by rw [List.length_map] at hi; exact hi
      rw [cut_take _ i (Nat.le_of_lt hi), ← List.map_take]
      have e3 := e12.trans (w_new (o := .tup ((as.take i).map V.ref)) nq)
      have hq : upd G2 q (.tup ((as.take i).map V.ref)) q = some (.tup ((as.take i).map V.ref)) := upd_same
      generalize upd G2 q (.tup ((as.take i).map V.ref)) = G3 at e3 hq ⊢
      walk_at "r"
      have rw3 := rows_take hl hrow e3 i hq
      rw [← List.map_take] at rw3
      refine ⟨e0.1, e0.2.1, q, es.take i, rfl, gp.word _ (g.in1 _ me), gp.word _ (g.in2 _ me), rw3, by rw [List.length_take]; omega, fun f hf => ⟨gp.word _ (g.in1 _ (List.mem_of_mem_take hf)), gp.word _ (g.in2 _ (List.mem_of_mem_take hf))⟩, fun f hf => ?_, fun G4 e4 => ?_⟩
      · obtain ⟨j, hj⟩ := List.mem_iff_getElem?.mp hf
        rw [List.getElem?_take] at hj
        split at hj
        · rename_i lt
          obtain ⟨l1, x1⟩ := List.getElem?_eq_some_iff.mp hj
          obtain ⟨l2, x2⟩ := List.getElem?_eq_some_iff.mp he
          have := List.pairwise_iff_getElem.mp g.apart j i l1 l2 lt
          rw [x1, x2] at this
          exact this
        · cases hj
      · refine ⟨false, rfl, iteF ?_⟩
        walk_at "r"
        exact ⟨e3.trans e4, _, _, rfl⟩
    · rintro σ' G ⟨e, _⟩
      exact k G e
def spString (K : PySem.W.Frag) : Sp := fun vs H Q _ => ∃ (t u : Addr) (s : Ln3) (hk : Str) (ps : List Str), vs = [.ref t, .str hk, .ref u] ∧ SqT K H t (lnV s) ∧ hk.cps.size ≤ 4 ∧ SqT K H u (ps.map V.str) ∧ (∃ c, Sgn 97 122 s.1 c) ∧ (∃ d, s.2.1 = ⟨#[d]⟩ ∧ d ∈ hk.cps.toList) ∧ s.2.2 ∈ ps ∧ ∀ H', Same H H' → Q (.bl true) H'
theorem ok_is_string (T : Txt K mg a) : FnOk P w K mg base CX0 3 a.f_is_string a.d_is_string ["value", "hooks", "parts"] (spString K) := by
  refine T.F_is_string.ok sc_is_string (fun vs H Q E h => ?_) (fun cdv A outer s H vs Q E hr h => ?_)
  · obtain ⟨t, u, s, hk, ps, rfl, _⟩ := h
    rfl
  · obtain ⟨t, u, s, hk, ps, rfl, ht, h4, hu, ⟨c, hc⟩, ⟨d, hd, md⟩, mp, k⟩ := h
    refine ⟨_, (pss_one (ps_ret (pe_and (pe_call (ok_is_row T) (hr.mono (by decide)) (by rfl) T.m_is_row T.F_is_row.kp T.b_is_row .nil pass0 (pa_cons (pv 0) (pa_cons pe_int (pa_cons pe_int pa_nil)))) (pe_and (pe_call (ok_is_small_letter T) (hr.mono (by decide)) (by rfl) T.m_is_small_letter T.F_is_small_letter.kp T.b_is_small_letter .nil pass0 (pa_cons (pe_ix ix_tup (pv 0) pe_int (fun _ _ => rfl)) pa_nil)) (pe_and (pe_call (ok_is_one_ofS T) (hr.mono (by decide)) (by rfl) T.m_is_one_of T.F_is_one_of.kp T.b_is_one_of .nil pass0 (pa_cons (pe_ix ix_tup (pv 0) pe_int (fun _ _ => rfl)) (pa_cons (pv 1) pa_nil))) (pe_one (pe_call (ok_is_one_of T) (hr.mono (by decide)) (by rfl) T.m_is_one_of T.F_is_one_of.kp T.b_is_one_of .nil pass0 (pa_cons (pe_ix ix_tup (pv 0) pe_int (fun _ _ => rfl)) (pa_cons (pv 2) pa_nil))))))))), ?_⟩
    walk_at "r"
    refine row_leaf ht (by show (3 : Int) ≤ 3; decide) (by show (3 : Int) ≤ 3; decide) ⟨true, rfl, iteT ?_⟩
    walk_at "r"
    refine ⟨t, _, 0, _, rfl, rfl, ht, rfl, ?_⟩
    walk_at "r"
    refine ⟨s.1, c, rfl, hc, true, rfl, iteT ?_⟩
    walk_at "r"
    refine ⟨t, _, 1, .str ⟨#[d]⟩, rfl, rfl, ht, by rw [← hd]; rfl, ?_⟩
    walk_at "r"
    refine oneOfS_leaf (by omega) fun H1 e1 => ?_
    rw [decide_eq_true md]
    refine ⟨true, rfl, iteT ?_⟩
    walk_at "r"
    refine ⟨t, _, 2, _, rfl, rfl, seqT_same e1 ht, rfl, ?_⟩
    walk_at "r"
    refine oneOf_leaf (seqT_same e1 hu) fun H2 e2 => ?_
    rw [decide_eq_true mp]
    exact k _ (e1.trans e2)
def spCheckStrings (K : PySem.W.Frag) : Sp := fun vs H Q _ => ∃ (t u : Addr) (ls : List Ln3) (hk : Str) (ps : List Str), vs = [.ref t, .str hk, .ref u] ∧ Rws K H t (ls.map lnV) ∧ hk.cps.size ≤ 4 ∧ SqT K H u (ps.map V.str) ∧ GoodLns ps hk ls ∧ ∀ H', Same H H' → Q .non H'
theorem ok_check_strings (T : Txt K mg a) : FnOk P w K mg base CX0 4 a.f_check_strings a.d_check_strings ["strings", "hooks", "parts"] (spCheckStrings K) := by
  refine T.F_check_strings.ok sc_check_strings (fun vs H Q E h => ?_) (fun cdv A outer s H vs Q E hr h => ?_)
  · obtain ⟨t, u, ls, hk, ps, rfl, _⟩ := h
    rfl
  · obtain ⟨t, u, ls, hk, ps, rfl, ⟨as, ht, hl, hrow⟩, h4, hu, g, k⟩ := h
    have few := g.few
    have one := g.one
    have hl2 : as.length = ls.length := by rw [hl, List.length_map]
    refine ⟨_, (pss_cons (ps_if (pt_not (pt_val (pe_call (ok_is_row T) (hr.mono (by decide)) (by rfl) T.m_is_row T.F_is_row.kp T.b_is_row .nil pass0 (pa_cons (pv 0) (pa_cons pe_int (pa_cons (pe_glob (v := .int 6) rfl T.m_MOST_STRINGS ⟨_, rfl⟩) pa_nil)))))) (pss_one ps_never) pss_nil)
      (pss_one (ps_for PassesOwn.never rfl (pi_enumT (by rfl) T.z_enumerate (pa_cons (pv 0) pa_nil)) (pg_tup rfl (pgs_cons (pg_name (i := 3) sc_check_strings.nd rfl (Or.inl rfl)) (pgs_cons (pg_name (i := 4) sc_check_strings.nd rfl (Or.inl rfl)) pgs_nil))) (pss_one (ps_if (PW.pt (pw_or (pt_not (pt_val (pe_call (ok_is_string T) (hr.mono (by decide)) (by rfl) T.m_is_string T.F_is_string.kp T.b_is_string .nil pass0 (pa_cons (pv 4) (pa_cons (pv 1) (pa_cons (pv 2) pa_nil)))))) (pw_or1 (PW.pt (pw_and (pt_cmpR op_gt (pv 3) pe_int (nomark _)) (pw_and1 (pt_cmpR op_le_str (pe_ix ix_tup (pv 4) pe_int (fun _ _ => rfl)) (pe_ix ix_tup (pe_ix ix_tup (pv 0) (pe_op op_sub (pv 3) pe_int) (fun _ _ => rfl)) pe_int (fun _ _ => rfl)) (nomark _)))))))) (pss_one ps_never) pss_nil))))), ?_⟩
    walk_at "r"
    refine row_leaf ht (by rw [List.length_map]; omega) (by rw [List.length_map]; omega) ?_
    refine ⟨true, rfl, iteF ?_⟩
    walk_at "r"
    refine ⟨t, _, rfl, ht, for_leaf walk_enumT (fun i σ' G => Same H G ∧ ∃ v1 v2 : Option V, σ' = [some (.ref t), some (.str hk), some (.ref u), v1, v2]) ⟨w_same _, _, _, rfl⟩ (fun i σ' G _ ⟨e, _⟩ => seqT_same e ht) ?_ ?_⟩
    · rintro i x σ' G G' hi ⟨e, v1, v2, rfl⟩ ⟨T', y, z, rfl, nT, rfl, hy, hz⟩
      cases hy
      obtain ⟨r, v, rfl, hv, hrr⟩ := rows_at hl hrow hz
      obtain ⟨s0, he, rfl⟩ := map_atL hv
      have me := List.mem_of_getElem? he
      refine g_two upd_same ?_
      have e1 := e.trans (w_new (o := .tup [.int (i : Nat), .ref r]) nT)
      generalize upd G T' (.tup [.int (i : Nat), .ref r]) = G1 at e1 ⊢
      walk_at "r"
      refine ⟨r, u, s0, hk, ps, rfl, seqT_same e1 hrr, h4, seqT_same e1 hu, g.let_ _ me, g.hook _ me, g.part _ me, fun G2 e2 => ?_⟩
      have e12 := e1.trans e2
      refine ⟨true, rfl, iteF ?_⟩
      walk_at "r"
      refine w_iteD (fun z => ?_) (fun z => ?_)
      · walk_at "r"
        refine ⟨r, _, 0, _, rfl, rfl, seqT_same e12 hrr, rfl, ?_⟩
        walk_at "r"
        have hi2 : i - 1 < as.length := by rw [List.length_map] at hi; omega
        have hi3 : i - 1 < ls.length := by omega
        refine ⟨t, _, (i : Int) - 1, .ref as[i - 1], rfl, rfl, seqT_same e12 ht, ?_, ?_⟩
        · rw [show (i : Int) - 1 = ((i - 1 : Nat) : Int) by omega]
          exact atI_nat (by rw [List.getElem?_map, List.getElem?_eq_getElem hi2]; rfl)
        walk_at "r"
        have hlow : ls[i - 1]? = some ls[i - 1] := List.getElem?_eq_getElem hi3
        have hrow2 := hrow (i - 1) as[i - 1] (lnV ls[i - 1]) (List.getElem?_eq_getElem hi2) (by rw [List.getElem?_map, hlow]; rfl)
        refine ⟨_, _, 0, _, rfl, rfl, seqT_same e12 hrow2, rfl, ?_⟩
        walk_at "r"
        have up := g.up (i - 1) _ s0 hlow (by rw [show i - 1 + 1 = i by omega]; exact he)
        refine ⟨_, _, rfl, rfl, ?_⟩
        show ∃ k, V.bl (!decide (ls[i - 1].1.cps.toList < s0.1.cps.toList)) = .bl k ∧ _
        rw [decide_eq_true up]
        refine ⟨false, rfl, iteF ?_⟩
        walk_at "r"
        exact ⟨e12, _, _, rfl⟩
      · walk_at "r"
        refine iteF ?_
        walk_at "r"
        exact ⟨e12, _, _, rfl⟩
    · rintro σ' G ⟨e, _⟩
      exact k G e
end
end RK8


namespace RK8
open PySem PySem.Spec L2 RK RZ StX PyProof.Rows
/-! ### distances -/
abbrev Tb (kvs : List (List Key × V)) (d : RPath.Tab Str) : Prop := ∀ p q : Str, valV kvs [.inr p, .inr q] = (d p q).map V.int
theorem key2 {a b p q : Str} : ([.inr a, .inr b] : List Key) = [.inr p, .inr q] ↔ a = p ∧ b = q := by
  constructor
  · intro h
    injection h with h1 h2
    injection h2 with h2 _
    exact ⟨Sum.inr.inj h1, Sum.inr.inj h2⟩
  · rintro ⟨rfl, rfl⟩
    rfl
theorem Tb.put {kvs : List (List Key × V)} {d : RPath.Tab Str} (h : Tb kvs d) (p q : Str) (x : Int) : Tb (putK kvs [.inr p, .inr q] (.int x)) (RPath.put d p q x) := fun a b => by
  rw [valV_put]
  by_cases c : a = p ∧ b = q
  · rw [if_pos (key2.mpr c), c.1, c.2, RPath.put_same]
    rfl
  · rw [if_neg (fun z => c (key2.mp z)), RPath.put_ne d x c]
    exact h a b
section
variable {P : Program} {w : World} {K : PySem.W.Frag} {mg : Str → Option Value} {base : Heap} {a : Ad}
def opt (o : Option Int) : V := (o.map V.int).getD .non
theorem opt_non {o : Option Int} (h : opt o = .non) : o = none := by
  cases o with
  | none => rfl
  | some x => cases h
theorem opt_some {o : Option Int} (h : ¬ opt o = .non) : ∃ x, o = some x ∧ opt o = .int x := by
  cases o with
  | none => exact absurd rfl h
  | some x => exact ⟨x, rfl, rfl⟩
theorem isd_t {H : Hp} {D : Addr} {kvs : List (List Key × V)} (h : H D = some (.dT kvs)) : IsD H D := .inr ⟨kvs, .inl h⟩
theorem get_leaf {D b : Addr} {H : Hp} {Q : VK} {kvs : List (List Key × V)} {d : RPath.Tab Str} {p q : Str} (hD : H D = some (.dT kvs)) (h : Tb kvs d) (hb : H b = some (.tup [.str p, .str q])) (k : Q (opt (d p q)) H) : GetL D (.ref b) H Q :=
  ⟨_, DGet.t (k := [.inr p, .inr q]) hD hb, by rw [h]; exact k⟩
def spShorten : Sp := fun vs H Q _ => ∃ (D : Addr) (kvs : List (List Key × V)) (d : RPath.Tab Str) (p m q : Str), vs = [.ref D, .str p, .str m, .str q] ∧ H D = some (.dT kvs) ∧ Tb kvs d ∧ kvs.length ≤ 1000 ∧
  ∀ kvs' H', H' D = some (.dT kvs') → Tb kvs' (RPath.short d p m q) → kvs'.length ≤ kvs.length + 1 → But D H H' → Q .non H'
theorem ok_shorten (T : Txt K mg a) : FnOk P w K mg base CX0 1 a.f_shorten a.d_shorten ["distances", "part", "middle", "other"] spShorten := by
  refine T.F_shorten.ok sc_shorten (fun vs H Q E h => ?_) (fun cdv A outer s H vs Q E hr h => ?_)
  · obtain ⟨D, kvs, d, p, m, q, rfl, _⟩ := h
    rfl
  · obtain ⟨D, kvs, d, p, m, q, rfl, hD, tb, hz, k⟩ := h
    refine ⟨_, (pss_cons (ps_set (i := 4) sc_shorten.nd rfl (Or.inl rfl) (pe_dget1 (hu_of hr) (pv 0) (pe_tup (pa_cons (pv 1) (pa_cons (pv 2) pa_nil))) ⟨rfl, rfl, rfl, rfl⟩))
      (pss_cons (ps_set (i := 5) sc_shorten.nd rfl (Or.inl rfl) (pe_dget1 (hu_of hr) (pv 0) (pe_tup (pa_cons (pv 2) (pa_cons (pv 3) pa_nil))) ⟨rfl, rfl, rfl, rfl⟩))
      (pss_cons (ps_if (PW.pt (pw_or (pt_cmpR op_isN (pv 4) pe_non (nomark _)) (pw_or1 (pt_cmpR op_isN (pv 5) pe_non (nomark _))))) (pss_one ps_retN) pss_nil)
      (pss_cons (ps_set (i := 6) sc_shorten.nd rfl (Or.inl rfl) (pe_dget1 (hu_of hr) (pv 0) (pe_tup (pa_cons (pv 1) (pa_cons (pv 3) pa_nil))) ⟨rfl, rfl, rfl, rfl⟩))
      (pss_one (ps_if (PW.pt (pw_or (pt_cmpR op_isN (pv 6) pe_non (nomark _)) (pw_or1 (pt_cmpR op_lt (pe_op op_add (pv 4) (pv 5)) (pv 6) (nomark _))))) (pss_one (ps_asg (pe_op op_add (pv 4) (pv 5)) (pg_sub (pv 0) (pe_tup (pa_cons (pv 1) (pa_cons (pv 3) pa_nil))) (set_dict (hu_of hr))))) pss_nil)))))), ?_⟩
    walk_at "r"
    refine ⟨D, rfl, isd_t hD, ?_⟩
    walk_at "r"
    refine w_newT (by show 2 ≤ 100000; decide) fun t1 H1 n1 e1 h1 => ?_
    have hD1 := e1 _ _ hD
    refine get_leaf hD1 tb h1 ?_
    walk_at "r"
    refine ⟨D, rfl, isd_t hD1, ?_⟩
    walk_at "r"
    refine w_newT (by show 2 ≤ 100000; decide) fun t2 H2 n2 e2 h2 => ?_
    have hD2 := e2 _ _ hD1
    refine get_leaf hD2 tb h2 ?_
    walk_at "r"
    have e12 := e1.trans e2
    refine ⟨rfl, ?_⟩
    walk_at "r"
    have stays : ∀ {G : Hp}, RPath.short d p m q = d → Same H G → Q .non G := fun {G} z e => k kvs G (e _ _ hD) (by rw [z]; exact tb) (Nat.le_succ _) (.of e)
    refine w_iteD (fun z => ?_) (fun z => ?_)
    · have z0 := opt_non z
      walk_at "r"
      refine iteT ?_
      walk_at "r"
      exact stays (by unfold RPath.short; rw [z0]) e12
    · obtain ⟨x, hx, ox⟩ := opt_some z
      walk_at "r"
      refine ⟨rfl, ?_⟩
      walk_at "r"
      refine w_iteD (fun z => ?_) (fun z => ?_)
      · have z0 := opt_non z
        walk_at "r"
        exact stays (by unfold RPath.short; rw [hx, z0]) e12
      · obtain ⟨y, hy, oy⟩ := opt_some z
        walk_at "r"
        refine ⟨D, rfl, isd_t hD2, ?_⟩
        walk_at "r"
        refine w_newT (by show 2 ≤ 100000; decide) fun t3 H3 n3 e3 h3 => ?_
        have hD3 := e3 _ _ hD2
        refine get_leaf hD3 tb h3 ?_
        rw [ox, oy]
        walk_at "r"
        refine ⟨rfl, ?_⟩
        walk_at "r"
        have e13 := e12.trans e3
        have puts : RPath.short d p m q = RPath.put d p q (x + y) → ∀ {G : Hp}, Same H3 G → ∀ t4, G t4 = some (.tup [.str p, .str q]) → rSetD (.ref D) (.ref t4) (.int (x + y)) G fun G' => Q .non G' := fun z {G} e t4 h4 => by
          have hD4 := e _ _ hD3
          refine ⟨D, _, rfl, DPut.t (k := [.inr p, .inr q]) hD4 h4 (Nat.lt_of_le_of_lt hz (by decide)), ?_⟩
          exact k _ _ upd_same (by rw [z]; exact tb.put p q (x + y)) (length_putK ..) (But.upd (.of (e13.trans e)))
        refine w_iteD (fun z => ?_) (fun z => ?_)
        · have z0 := opt_non z
          refine iteT ?_
          walk_at "r"
          refine w_newT (by show 2 ≤ 100000; decide) fun t4 H4 n4 e4 h4 => ?_
          exact puts (by unfold RPath.short RPath.low; rw [hx, hy]; show (match d p q with | none => _ | some c => _) = _; rw [z0]) e4 t4 h4
        · obtain ⟨c, hc, oc⟩ := opt_some z
          rw [oc]
          walk_at "r"
          refine w_iteD (fun z => ?_) (fun z => ?_)
          · walk_at "r"
            refine w_newT (by show 2 ≤ 100000; decide) fun t4 H4 n4 e4 h4 => ?_
            exact puts (by unfold RPath.short RPath.low; rw [hx, hy]; show (match d p q with | none => _ | some c => _) = _; rw [hc]; exact if_pos z) e4 t4 h4
          · walk_at "r"
            exact stays (by unfold RPath.short RPath.low; rw [hx, hy]; show (match d p q with | none => _ | some c => _) = _; rw [hc]; exact if_neg z) e13
theorem shorten_leaf {H : Hp} {Q : VK} {E : XK} {D : Addr} {kvs : List (List Key × V)} {d : RPath.Tab Str} {p m q : Str} (hD : H D = some (.dT kvs)) (tb : Tb kvs d) (hz : kvs.length ≤ 1000)
    (k : ∀ kvs' H', H' D = some (.dT kvs') → Tb kvs' (RPath.short d p m q) → kvs'.length ≤ kvs.length + 1 → But D H H' → Q .non H') : spShorten [.ref D, .str p, .str m, .str q] H Q E := ⟨D, kvs, d, p, m, q, rfl, hD, tb, hz, k⟩
/-- a dict of distances stands at D -/
structure Dt (H : Hp) (D : Addr) (d : RPath.Tab Str) (n : Nat) : Prop where
  ex : ∃ kvs, H D = some (.dT kvs) ∧ Tb kvs d ∧ kvs.length ≤ n
theorem Dt.same {H H' : Hp} {D : Addr} {d : RPath.Tab Str} {n : Nat} (h : Dt H D d n) (e : Same H H') : Dt H' D d n := let ⟨kvs, a, b, c⟩ := h.ex; ⟨kvs, e _ _ a, b, c⟩
theorem Dt.mono {H : Hp} {D : Addr} {d : RPath.Tab Str} {n m : Nat} (h : Dt H D d n) (l : n ≤ m) : Dt H D d m := let ⟨kvs, a, b, c⟩ := h.ex; ⟨kvs, a, b, Nat.le_trans c l⟩
theorem Dt.eqT {H : Hp} {D : Addr} {d e : RPath.Tab Str} {n : Nat} (h : Dt H D d n) (z : d = e) : Dt H D e n := z ▸ h
theorem take_snoc {α : Type} {l : List α} {i : Nat} {x : α} (h : l[i]? = some x) : l.take (i + 1) = l.take i ++ [x] := by rw [List.take_succ, h]; rfl
theorem put_leafT {D b : Addr} {H : Hp} {R : Hp → Prop} {d : RPath.Tab Str} {p q : Str} {x : Int} {n : Nat} (h : Dt H D d n) (hn : n ≤ 1000) (hb : H b = some (.tup [.str p, .str q])) (k : ∀ H', Dt H' D (RPath.put d p q x) (n + 1) → But D H H' → R H') : rSetD (.ref D) (.ref b) (.int x) H R := by
  obtain ⟨kvs, hD, tb, hz⟩ := h.ex
  refine ⟨D, _, rfl, DPut.t (k := [.inr p, .inr q]) hD hb (Nat.lt_of_le_of_lt (Nat.le_trans hz hn) (by decide)), ?_⟩
  exact k _ ⟨_, upd_same, tb.put p q x, Nat.le_trans (length_putK ..) (Nat.succ_le_succ hz)⟩ (But.upd (.refl D H))
def spDists (K : PySem.W.Frag) : Sp := fun vs H Q _ => ∃ (t u : Addr) (ps : List Str) (es : List Tie3), vs = [.ref t, .ref u] ∧ SqT K H t (ps.map V.str) ∧ Rws K H u (es.map tieV) ∧ ps.length ≤ 6 ∧ es.length ≤ 10 ∧ ∀ D H', H D = none → Same H H' → Dt H' D (RPath.passes ps ps (RPath.ini ps es)) 400 → Q (.ref D) H'
theorem ok_distances_of (T : Txt K mg a) : FnOk P w K mg base CX0 2 a.f_distances_of a.d_distances_of ["parts", "ties"] (spDists K) := by
  refine T.F_distances_of.ok sc_distances_of (fun vs H Q E h => ?_) (fun cdv A outer s H vs Q E hr h => ?_)
  · obtain ⟨t, u, ps, es, rfl, _⟩ := h
    rfl
  · obtain ⟨t, u, ps, es, rfl, ht, ⟨as, hu, hl, hrow⟩, h6, h10, k⟩ := h
    have ml : (ps.map V.str).length = ps.length := List.length_map ..
    have hl2 : as.length = es.length := by rw [hl, List.length_map]
    refine ⟨_, (pss_cons (ps_setDc (i := 2) (o0 := .dT []) (.inr rfl) (hu_of hr) (own := [("part", 3)]) (g := gName 3) (tt := tYes) rfl sc_distances_of.nd rfl rfl (sw_trueD rfl rfl rfl (by decide +kernel)) (pi_tup (pv 0)) (blkOk_by (own := [("part", 3)]) (N := ["parts", "ties", "found", "part", "other", "reach", "middle"]) (sc := defScope s_distances_of) (by decide +kernel)) (fun _ _ _ _ _ => pg_name (i := 3) sc_distances_of.nd rfl (Or.inl rfl)) (fun _ _ _ _ _ => pts_nil) (fun _ _ _ _ _ => by exact (pe_tup (pa_cons (pv 3) (pa_cons (pv 3) pa_nil)))) (fun _ _ _ _ _ => by exact pe_int))
      (pss_cons (ps_for PassesOwn.never rfl (pi_tup (pv 1)) (pg_tup rfl (pgs_cons (pg_name (i := 3) sc_distances_of.nd rfl (Or.inl rfl)) (pgs_cons (pg_name (i := 4) sc_distances_of.nd rfl (Or.inl rfl)) (pgs_cons (pg_name (i := 5) sc_distances_of.nd rfl (Or.inl rfl)) pgs_nil)))) (pss_cons (ps_asg (pv 5) (pg_sub (pv 2) (pe_tup (pa_cons (pv 3) (pa_cons (pv 4) pa_nil))) (set_dict (hu_of hr))))
      (pss_one (ps_asg (pv 5) (pg_sub (pv 2) (pe_tup (pa_cons (pv 4) (pa_cons (pv 3) pa_nil))) (set_dict (hu_of hr)))))))
      (pss_cons (ps_for PassesOwn.never rfl (pi_tup (pv 0)) (pg_name (i := 6) sc_distances_of.nd rfl (Or.inl rfl)) (pss_one (ps_for PassesOwn.never rfl (pi_tup (pv 0)) (pg_name (i := 3) sc_distances_of.nd rfl (Or.inl rfl)) (pss_one (ps_for PassesOwn.never rfl (pi_tup (pv 0)) (pg_name (i := 4) sc_distances_of.nd rfl (Or.inl rfl)) (pss_one (ps_expr (pe_call (ok_shorten T) (hr.mono (by decide)) (by rfl) T.m_shorten T.F_shorten.kp T.b_shorten .nil pass0 (pa_cons (pv 2) (pa_cons (pv 3) (pa_cons (pv 6) (pa_cons (pv 4) pa_nil))))))))))))
      (pss_one (ps_ret (pv 2)))))), ?_⟩
    walk_at "r"
    refine ⟨t, rfl, ⟨_, ht⟩, dc_leaf (walk_tup (xs := ps.map V.str)) (fun D i G => H D = none ∧ But D H G ∧ Dt G D ((ps.take i).foldl (fun d p => RPath.put d p p 0) fun _ _ => none) i) (fun D nD => ⟨nD, But.upd (.refl D H), ⟨[], upd_same, fun _ _ => rfl, Nat.le_refl _⟩⟩) ?_ ?_ ?_⟩
    · rintro D i G _ ⟨nD, e, _⟩
      exact seqT_same (e.same nD) ht
    · rintro D i x G G' hi ⟨nD, e, dt⟩ ⟨rfl, hx⟩
      obtain ⟨p, hp, rfl⟩ := map_at hx
      refine ⟨rfl, ?_⟩
      walk_at "r"
      refine w_newT (by show 2 ≤ 100000; decide) fun t1 H1 n1 e1 h1 => ?_
      walk_at "r"
      obtain ⟨kvs, hD, tb, hz⟩ := (dt.same e1).ex
      have ib : i ≤ 6 := by omega
      refine ⟨_, DPut.t (k := [.inr p, .inr p]) hD h1 (Nat.lt_of_le_of_lt (show kvs.length ≤ 1000 by omega) (by decide)), nD, (e.trans (.of e1)).upd, ⟨_, upd_same, ?_, Nat.le_trans (length_putK ..) (Nat.succ_le_succ hz)⟩⟩
      rw [take_snoc hp, List.foldl_append]
      exact tb.put p p 0
    · rintro D G nD ⟨_, e, dt⟩
      rw [ml, List.take_length] at dt
      have dt : Dt G D (RPath.dia ps) ps.length := dt
      have sG := e.same nD
      walk_at "r"
      refine ⟨u, rfl, ⟨_, seqT_same sG hu⟩, for_leaf (walk_tup (xs := as.map V.ref)) (fun j σ' G => Same H G ∧ Dt G D ((es.take j).foldl RPath.tie2 (RPath.dia ps)) (6 + 2 * j) ∧ ∃ v3 v4 v5 v6 : Option V, σ' = [some (.ref t), some (.ref u), some (.ref D), v3, v4, v5, v6]) ⟨sG, dt.mono (by omega), _, _, _, _, rfl⟩ (fun j σ' G _ ⟨e, _⟩ => seqT_same e hu) ?_ ?_⟩
      · rintro j x σ' G G' hj ⟨e, dt, v3, v4, v5, v6, rfl⟩ ⟨rfl, hx⟩
        obtain ⟨r, v, rfl, hv, hrr⟩ := rows_at hl hrow hx
        obtain ⟨e0, he, rfl⟩ := map_atL hv
        have jb : j < 10 := by rw [List.length_map] at hj; omega
        refine g_three (seqT_same e hrr) ?_
        walk_at "r"
        refine w_newT (by show 2 ≤ 100000; decide) fun t1 H1 n1 e1 h1 => ?_
        refine put_leafT (dt.same e1) (by omega) h1 fun H2 dt2 b2 => ?_
        have e2 := (e.trans e1)
        have s2 : Same H H2 := fun c o h => b2 c o (ne_of_none h nD) (e2 c o h)
        walk_at "r"
        refine w_newT (by show 2 ≤ 100000; decide) fun t3 H3 n3 e3 h3 => ?_
        refine put_leafT (dt2.same e3) (by omega) h3 fun H4 dt4 b4 => ?_
        refine ⟨fun c o h => b4 c o (ne_of_none h nD) ((s2.trans e3) c o h), (dt4.eqT ?_).mono (by omega), _, _, _, _, rfl⟩
        rw [take_snoc he, List.foldl_append]
        rfl
      · rintro σ' G1 ⟨e1, dt1, v3, v4, v5, v6, rfl⟩
        rw [List.length_map, hl2, List.take_length] at dt1
        have dt1 : Dt G1 D (RPath.ini ps es) 26 := (show Dt G1 D (RPath.ini ps es) (6 + 2 * es.length) from dt1).mono (by omega)
        walk_at "r"
        refine ⟨t, rfl, ⟨_, seqT_same e1 ht⟩, for_leaf (walk_tup (xs := ps.map V.str)) (fun i σ' G => Same H G ∧ Dt G D (RPath.passes (ps.take i) ps (RPath.ini ps es)) (26 + 36 * i) ∧ ∃ v3 v4 v5 v6 : Option V, σ' = [some (.ref t), some (.ref u), some (.ref D), v3, v4, v5, v6]) ⟨e1, dt1, _, _, _, _, rfl⟩ (fun j σ' G _ ⟨e, _⟩ => seqT_same e ht) ?_ ?_⟩
        · rintro i x σ' G G' hi ⟨e, dt, w3, w4, w5, w6, rfl⟩ ⟨rfl, hx⟩
          obtain ⟨m, hm, rfl⟩ := map_at hx
          have ib : i < 6 := by rw [List.length_map] at hi; omega
          walk_at "r"
          refine ⟨t, rfl, ⟨_, seqT_same e ht⟩, for_leaf (walk_tup (xs := ps.map V.str)) (fun j σ' G => Same H G ∧ Dt G D (RPath.pass2 (ps.take j) ps (RPath.passes (ps.take i) ps (RPath.ini ps es)) m) (26 + 36 * i + 6 * j) ∧ ∃ v3 v4 v5 : Option V, σ' = [some (.ref t), some (.ref u), some (.ref D), v3, v4, v5, some (.str m)]) ⟨e, dt, _, _, _, rfl⟩ (fun j σ' G _ ⟨e, _⟩ => seqT_same e ht) ?_ ?_⟩
          · rintro j x σ' G2 G2' hj ⟨e2, dt2, x3, x4, x5, rfl⟩ ⟨rfl, hx⟩
            obtain ⟨p, hp, rfl⟩ := map_at hx
            have jb : j < 6 := by rw [List.length_map] at hj; omega
            walk_at "r"
            refine ⟨t, rfl, ⟨_, seqT_same e2 ht⟩, for_leaf (walk_tup (xs := ps.map V.str)) (fun l σ' G => Same H G ∧ Dt G D (RPath.pass1 (ps.take l) (RPath.pass2 (ps.take j) ps (RPath.passes (ps.take i) ps (RPath.ini ps es)) m) p m) (26 + 36 * i + 6 * j + l) ∧ ∃ v4 v5 : Option V, σ' = [some (.ref t), some (.ref u), some (.ref D), some (.str p), v4, v5, some (.str m)]) ⟨e2, dt2, _, _, rfl⟩ (fun j σ' G _ ⟨e, _⟩ => seqT_same e ht) ?_ ?_⟩
            · rintro l x σ' G3 G3' hl3 ⟨e3, dt3, y4, y5, rfl⟩ ⟨rfl, hx⟩
              obtain ⟨q, hq, rfl⟩ := map_at hx
              have lb : l < 6 := by rw [List.length_map] at hl3; omega
              obtain ⟨kvs, hD, tb, hz⟩ := dt3.ex
              walk_at "r"
              refine shorten_leaf hD tb (by omega) fun kvs' H4 hD4 tb4 hz4 b4 => ?_
              walk_at "r"
              refine ⟨fun c o h => b4 c o (ne_of_none h nD) (e3 c o h), ⟨kvs', hD4, ?_, by omega⟩, _, _, rfl⟩
              unfold RPath.pass1
              rw [take_snoc hq, List.foldl_append]
              exact tb4
            · rintro σ' G3 ⟨e3, dt3, y4, y5, rfl⟩
              rw [ml, List.take_length] at dt3
              refine ⟨e3, (dt3.eqT ?_).mono (by omega), _, _, _, rfl⟩
              unfold RPath.pass2
              rw [take_snoc hp, List.foldl_append]
              rfl
          · rintro σ' G2 ⟨e2, dt2, x3, x4, x5, rfl⟩
            rw [ml, List.take_length] at dt2
            refine ⟨e2, (dt2.eqT ?_).mono (by omega), _, _, _, _, rfl⟩
            unfold RPath.passes
            rw [take_snoc hm, List.foldl_append]
            rfl
        · rintro σ' G ⟨e, dt, w3, w4, w5, w6, rfl⟩
          rw [ml, List.take_length] at dt
          walk_at "r"
          exact k D G nD e (dt.mono (by omega))
end
end RK8


namespace RK8
open PySem PySem.Spec L2 RK RZ StX PyProof.Rows
/-! ### a puppet -/
theorem putF_new {f : Str} {v : V} : ∀ {fs : List (Str × V)}, f ∉ fs.map (·.1) → putF f v fs = fs ++ [(f, v)]
  | [], _ => rfl
  | (g, u) :: fs, h => by
    have h1 : ¬ g = f := fun z => h (by rw [← z]; exact List.mem_cons_self)
    have ih := putF_new (f := f) (v := v) (fs := fs) fun m => h (List.mem_cons_of_mem _ m)
    show (if g = f then _ else (g, u) :: putF f v fs) = _
    rw [if_neg h1, ih]
    rfl
abbrev dist (ps : List Str) (es : List Tie3) : RPath.Tab Str := RPath.passes ps ps (RPath.ini ps es)
def nmsL (ls : List Ln3) : Str := Txt.join "" (ls.map fun s => s.1)
def pfs (t u : Addr) (hk : Str) (l : Addr) (nm : Str) (D : Addr) : List (Str × V) := [(("parts" : Str), .ref t), (("ties" : Str), .ref u), (("hooks" : Str), .str hk), (("strings" : Str), .ref l), (("names" : Str), .str nm), (("distances" : Str), .ref D)]
structure GoodPup (ps : List Str) (es : List Tie3) (hk : Str) (ls : List Ln3) : Prop where
  parts : GoodParts ps
  ties : GoodTies ps es
  caps : Caps hk
  lns : GoodLns ps hk ls
structure Pup (K : PySem.W.Frag) (C : Addr) (H : Hp) (p : Addr) (ps : List Str) (es : List Tie3) (hk : Str) (ls : List Ln3) : Prop where
  ob : ∃ dx t u l D, H p = some (.ins C dx (pfs t u hk l (nmsL ls) D)) ∧ SqT K H t (ps.map V.str) ∧ Rws K H u (es.map tieV) ∧ Rws K H l (ls.map lnV) ∧ Dt H D (dist ps es) 400
  good : GoodPup ps es hk ls
theorem Pup.same {K : PySem.W.Frag} {C : Addr} {H H' : Hp} {p : Addr} {ps : List Str} {es : List Tie3} {hk : Str} {ls : List Ln3} (r : Pup K C H p ps es hk ls) (e : Same H H') : Pup K C H' p ps es hk ls :=
  let ⟨dx, t, u, l, D, h1, h2, h3, h4, h5⟩ := r.ob; ⟨⟨dx, t, u, l, D, e _ _ h1, seqT_same e h2, h3.same e, h4.same e, h5.same e⟩, r.good⟩
theorem Dt.kp {H H' : Hp} {D b : Addr} {d : RPath.Tab Str} {n : Nat} (h : Dt H D d n) (e : Kp b H H') : Dt H' D d n := by
  obtain ⟨kvs, h1, h2, h3⟩ := h.ex
  exact ⟨kvs, e.sameT D _ h1 nofun, h2, h3⟩
theorem Pup.kp {K : PySem.W.Frag} {C b : Addr} {H H' : Hp} {p : Addr} {ps : List Str} {es : List Tie3} {hk : Str} {ls : List Ln3} (r : Pup K C H p ps es hk ls) (e : Kp b H H') : Pup K C H' p ps es hk ls :=
  let ⟨dx, t, u, l, D, h1, h2, h3, h4, h5⟩ := r.ob; ⟨⟨dx, t, u, l, D, e.ins h1, e.sqt h2, h3.kp e, h4.kp e, h5.kp e⟩, r.good⟩
section
variable {P : Program} {w : World} {K : PySem.W.Frag} {mg : Str → Option Value} {base : Heap} {a : Ad}
theorem sf_leaf {f : Str} {y : V} {p C dx : Addr} {fs : List (Str × V)} {H : Hp} {N : Hp → Prop} (hp : H p = some (.ins C dx fs)) (cl : Cls K C) (na : NoAttr K C f) (hl : fs.length < 1000) (nw : f ∉ fs.map (·.1)) (k : ∀ H', H' p = some (.ins C dx (fs ++ [(f, y)])) → But p H H' → N H') : Sf K f y (.ref p) H N :=
  ⟨p, C, dx, fs, rfl, hp, cl, na, hl, k _ (by rw [upd_same, putF_new nw]) (But.upd (.refl p H))⟩
theorem But.rws {H H' : Hp} {D p : Addr} {L : List (List V)} {u : HO} (e : But D H H') (hD : H D = some u) (hu : ∀ ys, u ≠ .tup ys) (hf : ∀ o v, u ≠ .frz o v) (h : Rws K H p L) : Rws K H' p L :=
  let ⟨as, h1, h2, h3⟩ := h; ⟨as, e.sqt hD hu hf h1, h2, fun i q u a b => e.sqt hD hu hf (h3 i q u a b)⟩
theorem But.rwsI {H H' : Hp} {p t C dx : Addr} {fs : List (Str × V)} {L : List (List V)} (e : But p H H') (hp : H p = some (.ins C dx fs)) (h : Rws K H t L) : Rws K H' t L := But.rws e hp (fun _ z => by cases z) (fun _ _ z => by cases z) h
theorem But.sqtI {H H' : Hp} {p t C dx : Addr} {fs : List (Str × V)} {xs : List V} (e : But p H H') (hp : H p = some (.ins C dx fs)) (h : SqT K H t xs) : SqT K H' t xs := RK.But.sqt e hp (fun _ z => by cases z) (fun _ _ z => by cases z) h
def spPinit (K : PySem.W.Frag) (C : Addr) : Sp := fun vs H Q _ => ∃ (p dx t u l : Addr) (ps : List Str) (es : List Tie3) (hk : Str) (ls : List Ln3), vs = [.ref p, .ref t, .ref u, .str hk, .ref l] ∧ H p = some (.ins C dx []) ∧ SqT K H t (ps.map V.str) ∧ Rws K H u (es.map tieV) ∧ Rws K H l (ls.map lnV) ∧ GoodPup ps es hk ls ∧
  ∀ H', Pup K C H' p ps es hk ls → But p H H' → Q .non H'
theorem ok_Puppet_init (T : Txt K mg a) : FnOk P w K mg base CX0 5 a.f_Puppet_init a.d_Puppet_init ["self", "parts", "ties", "hooks", "strings"] (spPinit K a.C_Puppet) := by
  refine T.F_Puppet_init.ok sc_Puppet_init (fun vs H Q E h => ?_) (fun cdv A outer s H vs Q E hr h => ?_)
  · obtain ⟨p, dx, t, u, l, ps, es, hk, ls, rfl, _⟩ := h
    rfl
  · obtain ⟨p, dx, t, u, l, ps, es, hk, ls, rfl, hp, ht, hu, hl, g, k⟩ := h
    refine ⟨_, PSs.nox ((pss_cons (ps_expr (pe_call (ok_check_parts T) (hr.mono (by decide)) (by rfl) T.m_check_parts T.F_check_parts.kp T.b_check_parts .nil pass0 (pa_cons (pv 1) pa_nil)))
      (pss_cons (ps_expr (pe_call (ok_check_ties T) (hr.mono (by decide)) (by rfl) T.m_check_ties T.F_check_ties.kp T.b_check_ties .nil pass0 (pa_cons (pv 2) (pa_cons (pv 1) pa_nil))))
      (pss_cons (ps_if (pt_not (pt_val (pe_call (ok_are_capitals T) (hr.mono (by decide)) (by rfl) T.m_are_capitals T.F_are_capitals.kp T.b_are_capitals .nil pass0 (pa_cons (pv 3) (pa_cons (pe_glob (v := .int 4) rfl T.m_MOST_HOOKS ⟨_, rfl⟩) pa_nil))))) (pss_one ps_never) pss_nil)
      (pss_cons (ps_expr (pe_call (ok_check_strings T) (hr.mono (by decide)) (by rfl) T.m_check_strings T.F_check_strings.kp T.b_check_strings .nil pass0 (pa_cons (pv 4) (pa_cons (pv 3) (pa_cons (pv 1) pa_nil)))))
      (pss_cons (ps_fld (pv 0) (pv 1) rfl)
      (pss_cons (ps_fld (pv 0) (pv 2) rfl)
      (pss_cons (ps_fld (pv 0) (pv 3) rfl)
      (pss_cons (ps_fld (pv 0) (pv 4) rfl)
      (pss_cons (ps_fld (pv 0) (pe_join pe_str (pe_lc (own := [("name", 5), ("_", 6)]) (g := gTup K 3 (gCons (gName 5) (gCons (gName 6) (gCons (gName 6) (gNil))))) (tt := tYes) rfl sc_Puppet_init.nd (pi_tup (pv 4)) (blkOk_by (own := [("name", 5), ("_", 6)]) (N := ["self", "parts", "ties", "hooks", "strings", "name", "_"]) (sc := defScope s_Puppet_init) (by decide +kernel)) (fun _ _ _ _ _ => by exact pg_tup (n := 3) rfl (pgs_cons (pg_name (i := 5) sc_Puppet_init.nd rfl (Or.inl rfl)) (pgs_cons (pg_name (i := 6) sc_Puppet_init.nd rfl (Or.inl rfl)) (pgs_cons (pg_name (i := 6) sc_Puppet_init.nd rfl (Or.inl rfl)) pgs_nil)))) (fun _ _ _ _ _ => pts_nil) (fun _ _ _ _ _ => by exact (pv 5)))) rfl)
      (pss_one (ps_fld (pv 0) (pe_call (ok_distances_of T) (hr.mono (by decide)) (by rfl) T.m_distances_of T.F_distances_of.kp T.b_distances_of .nil pass0 (pa_cons (pv 1) (pa_cons (pv 2) pa_nil))) rfl)))))))))))), ?_⟩
    walk_at "r"
    refine ⟨t, ps, rfl, ht, g.parts, fun H1 e1 => ?_⟩
    walk_at "r"
    refine ⟨u, t, es, ps, rfl, hu.same e1, seqT_same e1 ht, g.parts, g.ties, fun H2 e2 => ?_⟩
    have e12 := e1.trans e2
    walk_at "r"
    refine ⟨hk, rfl, g.caps, fun H3 e3 => ?_⟩
    have e13 := e12.trans e3
    refine ⟨true, rfl, iteF ?_⟩
    walk_at "r"
    have h4 := g.caps.few
    refine ⟨l, t, ls, hk, ps, rfl, hl.same e13, by omega, seqT_same e13 ht, g.lns, fun H4 e4 => ?_⟩
    have e14 := e13.trans e4
    walk_at "r"
    refine sf_leaf (e14 _ _ hp) T.cl_Puppet T.n_parts (by show 0 < 1000; decide) (show ("parts" : Str) ∉ ([] : List Str) by decide +kernel) fun H5 p5 b5 => ?_
    walk_at "r"
    refine sf_leaf p5 T.cl_Puppet T.n_ties (by show 1 < 1000; decide) (show ("ties" : Str) ∉ (["parts"] : List Str) by decide +kernel) fun H6 p6 b6 => ?_
    walk_at "r"
    refine sf_leaf p6 T.cl_Puppet T.n_hooks (by show 2 < 1000; decide) (show ("hooks" : Str) ∉ (["parts", "ties"] : List Str) by decide +kernel) fun H7 p7 b7 => ?_
    walk_at "r"
    refine sf_leaf p7 T.cl_Puppet T.n_strings (by show 3 < 1000; decide) (show ("strings" : Str) ∉ (["parts", "ties", "hooks"] : List Str) by decide +kernel) fun H8 p8 b8 => ?_
    have b48 := ((b5.trans b6).trans b7).trans b8
    have pH4 := e14 _ _ hp
    have l8 := But.rwsI b48 pH4 (hl.same e14)
    obtain ⟨as, hl8, ll, lrow⟩ := id l8
    walk_at "r"
    have l1 := g.lns.few
    have ll2 : as.length = ls.length := by rw [ll, List.length_map]
    refine ⟨⟨_, rfl⟩, ?_⟩
    walk_at "r"
    refine ⟨l, rfl, ⟨_, hl8⟩, cmS (walk_tup (xs := as.map V.ref)) (by rw [List.length_map]; omega) (fun G e => seqT_same e hl8) (fun i v _ => ∃ s, ls[i]? = some s ∧ v = .str s.1) (fun _ _ _ _ _ h => h) (fun i x H1 H2 hi e hy Q' kq => ?_) (fun D9 ys H9 n9 e9 h9 hn9 hP => ?_)⟩
    · obtain ⟨rfl, hx⟩ := hy
      obtain ⟨r, v, rfl, hv, hrr⟩ := rows_at ll lrow hx
      obtain ⟨s0, he, rfl⟩ := map_atL hv
      refine g_three (seqT_same e hrr) ⟨rfl, ?_⟩
      walk_at "r"
      exact kq _ _ (w_same _) ⟨s0, he, rfl⟩
    have ey := eq_map (ps := ls) (fun s => V.str s.1) (by rw [hn9, List.length_map, ll2]) hP
    have ey2 : ys = (ls.map fun s => s.1).map V.str := by rw [ey, List.map_map]; rfl
    have sm : ((ls.map fun s => s.1).map fun x => x.length).sum ≤ (ls.map fun s => s.1).length * 1 := sum_le fun x hx => by
      obtain ⟨s, hs, rfl⟩ := List.mem_map.mp hx
      obtain ⟨c, e, _⟩ := g.lns.let_ s hs
      rw [e]
      exact Nat.le_refl 1
    rw [List.length_map] at sm
    refine ⟨"", D9, ls.map fun s => s.1, rfl, rfl, .inl (by rw [← ey2]; exact SqL.of h9), ?_, ?_⟩
    · show _ + _ * 0 ≤ _
      omega
    walk_at "r"
    refine sf_leaf (e9 _ _ p8) T.cl_Puppet T.n_names (by show 4 < 1000; decide) (show ("names" : Str) ∉ (["parts", "ties", "hooks", "strings"] : List Str) by decide +kernel) fun H10 p10 b10 => ?_
    have b410 : But p H4 H10 := (b48.trans (.of e9)).trans b10
    have t10 := But.sqtI b410 pH4 (seqT_same e14 ht)
    have u10 := But.rwsI b410 pH4 (hu.same e14)
    have l10 := But.rwsI b410 pH4 (hl.same e14)
    walk_at "r"
    refine ⟨t, u, ps, es, rfl, t10, u10, g.parts.few, g.ties.few, fun D H11 n11 e11 d11 => ?_⟩
    walk_at "r"
    refine sf_leaf (e11 _ _ p10) T.cl_Puppet T.n_distances (by show 5 < 1000; decide) (show ("distances" : Str) ∉ (["parts", "ties", "hooks", "strings", "names"] : List Str) by decide +kernel) fun H12 p12 b12 => ?_
    have b412 : But p H4 H12 := (b410.trans (.of e11)).trans b12
    have b : But p H H12 := (But.of e14).trans b412
    have pD : D ≠ p := fun z => by
      rw [z, p10] at n11
      cases n11
    refine k H12 ⟨⟨dx, t, u, l, D, p12, But.sqtI b hp ht, But.rwsI b hp hu, But.rwsI b hp hl, ?_⟩, g⟩ b
    obtain ⟨kvs, q1, q2, q3⟩ := d11.ex
    exact ⟨kvs, b12 D _ pD q1, q2, q3⟩
theorem mk_leaf {C : Addr} {H : Hp} {Q : VK} {t u l : Addr} {ps : List Str} {es : List Tie3} {hk : Str} {ls : List Ln3} (ht : SqT K H t (ps.map V.str)) (hu : Rws K H u (es.map tieV)) (hl : Rws K H l (ls.map lnV)) (g : GoodPup ps es hk ls)
    (k : ∀ p H', H p = none → Same H H' → Pup K C H' p ps es hk ls → Q (.ref p) H') : MkL C (spPinit K C) E0 [.ref t, .ref u, .str hk, .ref l] H Q := by
  intro p dx hp hdx hne
  have e0 : Same H (upd (upd H dx (.own p)) p (.ins C dx [])) := fun c o q => by
    rw [upd_ne (ne_of_none q hp), upd_ne (ne_of_none q hdx)]
    exact q
  refine ⟨p, dx, t, u, l, ps, es, hk, ls, rfl, upd_same, seqT_same e0 ht, hu.same e0, hl.same e0, g, fun H' r b => ⟨rfl, ?_⟩⟩
  exact k p H' hp (fun c o q => b c o (ne_of_none q hp) (e0 _ _ q)) r
/-! what a puppet tells of itself -/
theorem pfs_look (t u : Addr) (hk : Str) (l : Addr) (nm : Str) (D : Addr) : (pfs t u hk l nm D).lookup ("parts" : Str) = some (.ref t) ∧ (pfs t u hk l nm D).lookup ("ties" : Str) = some (.ref u) ∧ (pfs t u hk l nm D).lookup ("hooks" : Str) = some (.str hk) ∧ (pfs t u hk l nm D).lookup ("strings" : Str) = some (.ref l) ∧ (pfs t u hk l nm D).lookup ("names" : Str) = some (.str nm) ∧ (pfs t u hk l nm D).lookup ("distances" : Str) = some (.ref D) := by
  have k1 : (("ties" : Str) == ("parts" : Str)) = false := by decide +kernel
  have k2 : (("hooks" : Str) == ("parts" : Str)) = false := by decide +kernel
  have k3 : (("hooks" : Str) == ("ties" : Str)) = false := by decide +kernel
  have k4 : (("strings" : Str) == ("parts" : Str)) = false := by decide +kernel
  have k5 : (("strings" : Str) == ("ties" : Str)) = false := by decide +kernel
  have k6 : (("strings" : Str) == ("hooks" : Str)) = false := by decide +kernel
  have k7 : (("names" : Str) == ("parts" : Str)) = false := by decide +kernel
  have k8 : (("names" : Str) == ("ties" : Str)) = false := by decide +kernel
  have k9 : (("names" : Str) == ("hooks" : Str)) = false := by decide +kernel
  have k10 : (("names" : Str) == ("strings" : Str)) = false := by decide +kernel
  have k11 : (("distances" : Str) == ("parts" : Str)) = false := by decide +kernel
  have k12 : (("distances" : Str) == ("ties" : Str)) = false := by decide +kernel
  have k13 : (("distances" : Str) == ("hooks" : Str)) = false := by decide +kernel
  have k14 : (("distances" : Str) == ("strings" : Str)) = false := by decide +kernel
  have k15 : (("distances" : Str) == ("names" : Str)) = false := by decide +kernel
  refine ⟨?_, ?_, ?_, ?_, ?_, ?_⟩ <;> simp [pfs, List.lookup, k1, k2, k3, k4, k5, k6, k7, k8, k9, k10, k11, k12, k13, k14, k15]
theorem pfs_no (t u : Addr) (hk : Str) (l : Addr) (nm : Str) (D : Addr) {m : Str} (h : m ∉ (["parts", "ties", "hooks", "strings", "names", "distances"] : List Str)) : (pfs t u hk l nm D).lookup m = none := by
  rw [List.lookup_eq_none_iff]
  intro kv hkv
  have : kv.1 ∈ (pfs t u hk l nm D).map (·.1) := List.mem_map.mpr ⟨kv, hkv, rfl⟩
  rw [bne_iff_ne]
  intro z
  exact h (z ▸ this)
theorem parts_leaf (T : Txt K mg a) {H : Hp} {Q : VK} {p : Addr} {ps : List Str} {es : List Tie3} {hk : Str} {ls : List Ln3} (r : Pup K a.C_Puppet H p ps es hk ls) (k : ∀ t, SqT K H t (ps.map V.str) → Q (.ref t) H) : Fl K "parts" (.ref p) H Q := by
  obtain ⟨dx, t, u, l, D, h1, h2, _⟩ := r.ob
  exact ⟨p, _, dx, _, _, rfl, h1, T.cl_Puppet, T.n_parts, (pfs_look ..).1, k t h2⟩
theorem hooks_leaf (T : Txt K mg a) {H : Hp} {Q : VK} {p : Addr} {ps : List Str} {es : List Tie3} {hk : Str} {ls : List Ln3} (r : Pup K a.C_Puppet H p ps es hk ls) (k : Q (.str hk) H) : Fl K "hooks" (.ref p) H Q := by
  obtain ⟨dx, t, u, l, D, h1, _⟩ := r.ob
  exact ⟨p, _, dx, _, _, rfl, h1, T.cl_Puppet, T.n_hooks, (pfs_look ..).2.2.1, k⟩
theorem strings_leaf (T : Txt K mg a) {H : Hp} {Q : VK} {p : Addr} {ps : List Str} {es : List Tie3} {hk : Str} {ls : List Ln3} (r : Pup K a.C_Puppet H p ps es hk ls) (k : ∀ l, Rws K H l (ls.map lnV) → Q (.ref l) H) : Fl K "strings" (.ref p) H Q := by
  obtain ⟨dx, t, u, l, D, h1, _, _, h4, _⟩ := r.ob
  exact ⟨p, _, dx, _, _, rfl, h1, T.cl_Puppet, T.n_strings, (pfs_look ..).2.2.2.1, k l h4⟩
theorem dists_leaf (T : Txt K mg a) {H : Hp} {Q : VK} {p : Addr} {ps : List Str} {es : List Tie3} {hk : Str} {ls : List Ln3} (r : Pup K a.C_Puppet H p ps es hk ls) (k : ∀ D, Dt H D (dist ps es) 400 → Q (.ref D) H) : Fl K "distances" (.ref p) H Q := by
  obtain ⟨dx, t, u, l, D, h1, _, _, _, h5⟩ := r.ob
  exact ⟨p, _, dx, _, _, rfl, h1, T.cl_Puppet, T.n_distances, (pfs_look ..).2.2.2.2.2, k D h5⟩
theorem pup_ml {C : Addr} {H : Hp} {p : Addr} {ps : List Str} {es : List Tie3} {hk : Str} {ls : List Ln3} {m : Str} {R : Prop} (r : Pup K C H p ps es hk ls) (h : m ∉ (["parts", "ties", "hooks", "strings", "names", "distances"] : List Str)) (k : R) : Ml C m (.ref p) H R := by
  obtain ⟨dx, t, u, l, D, h1, _⟩ := r.ob
  exact ⟨p, dx, _, rfl, h1, pfs_no _ _ _ _ _ _ h, k⟩
/-- the distances are exact -/
theorem dist_exact {ps : List Str} {es : List Tie3} (g1 : GoodParts ps) (g : GoodTies ps es) : RPath.Exact es ps (dist ps es) :=
  RPath.passes_exact g.pos (fun t ht => ⟨g.in1 t ht, g.in2 t ht⟩) (RPath.ini_start g.ne g.apart)
end
end RK8


namespace RK8
open PySem PySem.Spec L2 RK RZ StX PyProof.Rows
section
variable {P : Program} {w : World} {K : PySem.W.Frag} {mg : Str → Option Value} {base : Heap} {a : Ad}
/-! ### the bag and its draws -/
def spBag (K : PySem.W.Frag) : Sp := fun vs H Q _ => ∃ (c : Addr) (ns : List Int) (i : Nat), vs = [.ref c, .int i] ∧ SqL K H c (ns.map V.int) ∧ i < 100 ∧ ∀ p H', H p = none → Same H H' → Bag H' p → Q (.ref p) H'
theorem ok_bag (T : Txt K mg a) : FnOk P w K mg base CX0 1 a.f_bag a.d_bag ["_law_cells", "_law_k"] (spBag K) := by
  refine T.F_bag.ok sc_bag (fun vs H Q E h => ?_) (fun cdv A outer s H vs Q E hr h => ?_)
  · obtain ⟨c, ns, i, rfl, _⟩ := h
    rfl
  · obtain ⟨c, ns, i, rfl, hS, hi, k⟩ := h
    refine ⟨_, (pss_cons (ps_par (i := 2) (j := 3) (by rfl) sc_bag.nd rfl rfl (by decide) rfl rfl (pa_cons (pe_ifExp (pt_cmpR op_lt (pv 1) (pe_callB cr_len (by rfl) T.z_len PySem.boot_len (pa_cons (pv 0) pa_nil)) (nomark _)) (pe_callTy cr_int1 (by rfl) T.z_int (by decide +kernel) (pa_cons (pe_ix ix_list (pv 0) (pv 1) (fun _ _ => rfl)) pa_nil)) pe_int) (pa_cons (pe_op op_mul pe_int (pe_op op_add (pv 1) pe_int)) pa_nil)) (by rfl))
      (pss_cons (ps_for PassesOwn.never rfl (pi_list (pe_slice sl_list (pv 0) po_none (po_some pe_int))) (pg_name (i := 4) sc_bag.nd rfl (Or.inl rfl)) (pss_one (ps_set (i := 3) sc_bag.nd rfl (Or.inl rfl) (pe_op op_mod (pe_callTy cr_int1 (by rfl) T.z_int (by decide +kernel) (pa_cons (pe_op op_add (pe_op op_add (pe_op op_mul (pv 3) pe_int) (pe_op op_mod (pe_callTy cr_int1 (by rfl) T.z_int (by decide +kernel) (pa_cons (pv 4) pa_nil)) pe_int)) (pe_op op_mul pe_int (pv 1))) pa_nil)) pe_int))))
      (pss_cons (ps_set (i := 5) sc_bag.nd rfl (Or.inl rfl) (pe_ifExp (PW.pt (pw_or (pt_cmpR op_lt (pv 2) pe_int (nomark _)) (pw_or1 (pt_cmpR op_ge (pv 2) (pe_op op_pow pe_int pe_int) (nomark _))))) (pe_callB cr_abs (by rfl) T.z_abs (by decide +kernel) (pa_cons (pv 2) pa_nil)) pe_int))
      (pss_one (ps_ret (pe_lst (pa_cons (pv 5) (pa_cons (pe_op op_mod (pe_callTy cr_int1 (by rfl) T.z_int (by decide +kernel) (pa_cons (pe_op op_add (pv 3) (pe_op op_mul pe_int (pe_op op_mod (pe_callTy cr_int1 (by rfl) T.z_int (by decide +kernel) (pa_cons (pv 2) pa_nil)) pe_int))) pa_nil)) pe_int) (pa_cons pe_int pa_nil))))))))), ?_⟩
    walk_at "r"
    refine w_cutI (fun _ => True) (fun Q' all => ?_) (fun z _ => ?_)
    · refine w_tIf ?_
      walk_at "r"
      refine w_lenL hS ?_
      walk_at "r"
      refine w_iteD (fun c => ?_) (fun c => ?_)
      · walk_at "r"
        have hi2 : i < ns.length := by rw [List.length_map] at c; omega
        refine ⟨_, _, (i : Int), .int (ns[i]), rfl, rfl, hS, atI_nat (by rw [List.getElem?_map, List.getElem?_eq_getElem hi2]; rfl), ?_⟩
        walk_at "r"
        exact all _ trivial
      · walk_at "r"
        exact all _ trivial
    walk_at "r"
    -- the first seven numbers
    obtain ⟨zs, hz⟩ : ∃ zs : List Int, cutV (ns.map V.int) none (some 7) = zs.map V.int := by
      unfold cutV
      exact ⟨(ns.drop _).take _, by rw [List.map_take, List.map_drop]⟩
    refine ⟨c, _, rfl, hS, fun p hp => ⟨p, rfl, ⟨_, SqL.of upd_same⟩, for_leaf (walk_list (K := K) (a := p) (xs := zs.map V.int))
      (fun j σ' H' => H' = upd H p (.lst (cutV (ns.map V.int) none (some 7))) ∧ ∃ (sd : Int) (v : Option V), σ' = [some (.ref c), some (.int i), some (.int z), some (.int sd), v, none]) ⟨rfl, _, _, rfl⟩ (fun j σ' H' _ ⟨e, _⟩ => ?_) ?_ ?_⟩⟩
    · rw [e, hz]
      exact SqL.of upd_same
    · rintro j y σ' H' H2 hj2 ⟨e, sd, v, rfl⟩ ⟨rfl, hj⟩
      subst e
      obtain ⟨x, hx, rfl⟩ : ∃ x, zs[j]? = some x ∧ V.int x = y := by
        rw [List.getElem?_map] at hj
        cases q : zs[j]? with
        | none => rw [q] at hj; cases hj
        | some x => rw [q] at hj; exact ⟨x, rfl, Option.some.inj hj⟩
      walk_at "r"
      exact ⟨rfl, _, _, rfl⟩
    · rintro σ' H' ⟨e, sd, v, rfl⟩
      subst e
      walk_at "r"
      refine w_cutI (fun _ => True) (fun Q' all => ?_) (fun f _ => ?_)
      · refine w_tIf ?_
        walk_at "r"
        refine w_ite (fun _ => ?_) (fun _ => ?_)
        · refine iteT ?_
          walk_at "r"
          exact all _ trivial
        · walk_at "r"
          refine w_ite (fun _ => ?_) (fun _ => ?_)
          · walk_at "r"
            exact all _ trivial
          · walk_at "r"
            exact all _ trivial
      walk_at "r"
      refine w_newL (by show 3 ≤ 100000; decide) fun q H2 hq e2 h2 => ?_
      refine k q H2 ?_ ((w_new hp).trans e2) ⟨_, _, _, h2⟩
      exact (w_new hp).free hq
def spDraw : Sp := fun vs H Q _ => ∃ (b : Addr) (n : Int), vs = [.ref b, .int n] ∧ Bag H b ∧ 0 < n ∧ n ≤ 10 ^ 12 ∧ ∀ r H', 0 ≤ r → r < n → Kp b H H' → Q (.int r) H'
theorem ok_draw (T : Txt K mg a) : FnOk P w K mg base CX0 1 a.f_draw a.d_draw ["_law_bag_here", "_law_wide"] spDraw := by
  refine T.F_draw.ok sc_draw (fun vs H Q E h => ?_) (fun cdv A outer s H vs Q E hr h => ?_)
  · obtain ⟨b, n, rfl, _⟩ := h
    rfl
  · obtain ⟨b, n, rfl, hb, h0, h1, k⟩ := h
    obtain ⟨f, sd, m, hH⟩ := id hb
    refine ⟨_, (pss_cons (ps_asg (pe_op op_add (pe_ix ix_list (pv 0) pe_int (fun _ _ => rfl)) pe_int) (pg_sub (pv 0) pe_int set_list))
      (pss_cons (ps_if (pt_cmpR op_gt (pe_ix ix_list (pv 0) pe_int (fun _ _ => rfl)) pe_int (nomark _)) (pss_cons (ps_set (i := 2) sc_draw.nd rfl (Or.inl rfl) (pe_op op_mod (pe_callTy cr_int1 (by rfl) T.z_int (by decide +kernel) (pa_cons (pe_ix ix_list (pv 0) pe_int (fun _ _ => rfl)) pa_nil)) (pv 1)))
      (pss_cons (ps_asg (pe_op op_fdivW (pe_ix ix_list (pv 0) pe_int (fun _ _ => rfl)) (pv 1)) (pg_sub (pv 0) pe_int set_list))
      (pss_one (ps_ret (pv 2))))) pss_nil)
      (pss_cons (ps_set (i := 3) sc_draw.nd rfl (Or.inl rfl) (pe_op op_add (pe_callTy cr_int1 (by rfl) T.z_int (by decide +kernel) (pa_cons (pe_ix ix_list (pv 0) pe_int (fun _ _ => rfl)) pa_nil)) (pe_op op_mul pe_int (pe_ix ix_list (pv 0) pe_int (fun _ _ => rfl)))))
      (pss_cons (ps_set (i := 4) sc_draw.nd rfl (Or.inl rfl) (pe_op op_add (pe_op op_mod (pe_callTy cr_int1 (by rfl) T.z_int (by decide +kernel) (pa_cons (pv 3) pa_nil)) pe_int) pe_int))
      (pss_cons (ps_asg (pe_op op_mod (pe_callTy cr_int1 (by rfl) T.z_int (by decide +kernel) (pa_cons (pe_op op_add (pe_op op_add (pe_op op_mul (pv 3) (pv 4)) (pe_op op_mul pe_int (pe_ix ix_list (pv 0) pe_int (fun _ _ => rfl)))) pe_int) pa_nil)) pe_int) (pg_sub (pv 0) pe_int set_list))
      (pss_one (ps_ret (pe_op op_mod (pe_op op_fdivW (pe_callTy cr_int1 (by rfl) T.z_int (by decide +kernel) (pa_cons (pe_ix ix_list (pv 0) pe_int (fun _ _ => rfl)) pa_nil)) pe_int) (pv 1))))))))), ?_⟩
    have c1 : CDivW f n := wide_div (b := 64) h0 (Nat.lt_of_le_of_lt (show n.natAbs ≤ 10 ^ 12 by omega) (by decide)) (by decide) (by decide)
    have c2 : CDivW 0 523 := wide_div (b := 64) (by decide) (by decide) (by decide) (by decide)
    walk_at "r"
    refine w_iteD (fun c => ?_) (fun c => ?_)
    all_goals
      walk_at "r"
      refine k _ _ (Int.emod_nonneg _ (by omega)) (Int.emod_lt_of_pos _ h0) ?_
      rw [upd_upd]
      exact kp_upd hb
theorem draw_leaf {H : Hp} {Q : VK} {E : XK} {b : Addr} {n : Int} (hb : Bag H b) (h0 : 0 < n) (h1 : n ≤ 10 ^ 12) (k : ∀ r H', 0 ≤ r → r < n → Kp b H H' → Q (.int r) H') : spDraw [.ref b, .int n] H Q E := ⟨b, n, rfl, hb, h0, h1, k⟩
theorem KpSqL {H H' : Hp} {b l : Addr} {xs : List V} (k : Kp b H H') (ne : l ≠ b) (h : SqL K H l xs) : SqL K H' l xs := by
  rcases h with (h | ⟨o, h⟩) | h
  · exact .inl (.inl (k.keep _ _ ne h))
  · exact .inl (.inr ⟨o, k.keep _ _ ne h⟩)
  · exact .inr h
/-- one of the list's values, at a drawn place -/
def spOne : Sp := fun vs H Q _ => ∃ (b l : Addr) (xs : List V), vs = [.ref b, .ref l] ∧ Bag H b ∧ H l = some (.lst xs) ∧ l ≠ b ∧ 0 < xs.length ∧ xs.length < 1000 ∧ ∀ v H', v ∈ xs → Kp b H H' → Q v H'
theorem ok_one (T : Txt K mg a) : FnOk P w K mg base CX0 2 a.f_one a.d_one ["_law_bag_here", "_law_some"] spOne := by
  refine T.F_one.ok sc_one (fun vs H Q E h => ?_) (fun cdv A outer s H vs Q E hr h => ?_)
  · obtain ⟨b, l, xs, rfl, _⟩ := h
    rfl
  · obtain ⟨b, l, xs, rfl, hb, hl, hne, h0, h1, k⟩ := h
    refine ⟨_, (pss_one (ps_ret (pe_ix ix_list (pv 1) (pe_call (ok_draw T) (hr.mono (by decide)) (by rfl) T.m_draw T.F_draw.kp T.b_draw .nil pass0 (pa_cons (pv 0) (pa_cons (pe_callB cr_len (by rfl) T.z_len PySem.boot_len (pa_cons (pv 1) pa_nil)) pa_nil))) (fun _ _ => rfl)))), ?_⟩
    walk_at "r"
    refine w_lenL (SqL.of hl) ?_
    walk_at "r"
    refine ⟨b, (xs.length : Int), rfl, hb, by omega, by omega, fun r H1 r0 r1 k1 => ?_⟩
    have hr2 : r.toNat < xs.length := by omega
    refine ⟨_, xs, r, xs[r.toNat], rfl, rfl, SqL.of (k1.keep _ _ hne hl), at_of (by omega) (List.getElem?_eq_getElem hr2), ?_⟩
    exact k _ H1 (List.getElem_mem hr2) k1
theorem one_leaf {H : Hp} {Q : VK} {E : XK} {b l : Addr} {xs : List V} (hb : Bag H b) (hl : H l = some (.lst xs)) (ne : l ≠ b) (h0 : 0 < xs.length) (h1 : xs.length < 1000) (k : ∀ v H', v ∈ xs → Kp b H H' → Q v H') : spOne [.ref b, .ref l] H Q E := ⟨b, l, xs, rfl, hb, hl, ne, h0, h1, k⟩
/-- one of a tuple's values -/
def spOneT (K : PySem.W.Frag) : Sp := fun vs H Q _ => ∃ (b t : Addr) (xs : List V), vs = [.ref b, .ref t] ∧ Bag H b ∧ SqT K H t xs ∧ 0 < xs.length ∧ xs.length < 1000 ∧ ∀ v H', v ∈ xs → Kp b H H' → Q v H'
theorem ok_oneT (T : Txt K mg a) : FnOk P w K mg base CX0 2 a.f_one a.d_one ["_law_bag_here", "_law_some"] (spOneT K) := by
  refine T.F_one.ok sc_one (fun vs H Q E h => ?_) (fun cdv A outer s H vs Q E hr h => ?_)
  · obtain ⟨b, l, xs, rfl, _⟩ := h
    rfl
  · obtain ⟨b, l, xs, rfl, hb, hl, h0, h1, k⟩ := h
    refine ⟨_, (pss_one (ps_ret (pe_ix ix_tup (pv 1) (pe_call (ok_draw T) (hr.mono (by decide)) (by rfl) T.m_draw T.F_draw.kp T.b_draw .nil pass0 (pa_cons (pv 0) (pa_cons (pe_callB cr_len (by rfl) T.z_len PySem.boot_len (pa_cons (pv 1) pa_nil)) pa_nil))) (fun _ _ => rfl)))), ?_⟩
    walk_at "r"
    refine w_lenT hl ?_
    walk_at "r"
    refine ⟨b, (xs.length : Int), rfl, hb, by omega, by omega, fun r H1 r0 r1 k1 => ?_⟩
    have hr2 : r.toNat < xs.length := by omega
    refine ⟨_, xs, r, xs[r.toNat], rfl, rfl, k1.sqt hl, at_of (by omega) (List.getElem?_eq_getElem hr2), ?_⟩
    exact k _ H1 (List.getElem_mem hr2) k1
theorem oneT_leaf {H : Hp} {Q : VK} {E : XK} {b t : Addr} {xs : List V} (hb : Bag H b) (ht : SqT K H t xs) (h0 : 0 < xs.length) (h1 : xs.length < 1000) (k : ∀ v H', v ∈ xs → Kp b H H' → Q v H') : spOneT K [.ref b, .ref t] H Q E := ⟨b, t, xs, rfl, hb, ht, h0, h1, k⟩
/-- one of a text's letters -/
def spOneS : Sp := fun vs H Q _ => ∃ (b : Addr) (s : Str), vs = [.ref b, .str s] ∧ Bag H b ∧ 0 < s.cps.size ∧ s.cps.size < 1000 ∧ ∀ c H', c ∈ s.cps.toList → Kp b H H' → Q (.str ⟨#[c]⟩) H'
theorem ok_oneS (T : Txt K mg a) : FnOk P w K mg base CX0 2 a.f_one a.d_one ["_law_bag_here", "_law_some"] spOneS := by
  refine T.F_one.ok sc_one (fun vs H Q E h => ?_) (fun cdv A outer s H vs Q E hr h => ?_)
  · obtain ⟨b, s, rfl, _⟩ := h
    rfl
  · obtain ⟨b, s, rfl, hb, h0, h1, k⟩ := h
    refine ⟨_, (pss_one (ps_ret (pe_ix ix_str (pv 1) (pe_call (ok_draw T) (hr.mono (by decide)) (by rfl) T.m_draw T.F_draw.kp T.b_draw .nil pass0 (pa_cons (pv 0) (pa_cons (pe_callB cr_len (by rfl) T.z_len PySem.boot_len (pa_cons (pv 1) pa_nil)) pa_nil))) (fun _ _ => rfl)))), ?_⟩
    walk_at "r"
    refine w_lenS (by omega) ?_
    walk_at "r"
    refine draw_leaf hb (by show (0 : Int) < (s.cps.size : Nat); omega) (by show ((s.cps.size : Nat) : Int) ≤ 10 ^ 12; omega) fun r H1 r0 r1 k1 => ?_
    have hr2 : r.toNat < s.cps.toList.length := by rw [Array.length_toList]; omega
    refine ⟨s, r, s.cps.toList[r.toNat], rfl, rfl, Nat.le_trans (Nat.le_of_lt h1) (by decide), (congrArg (atI _) (Int.toNat_of_nonneg r0).symm).trans (atI_nat (List.getElem?_eq_getElem hr2)), ?_⟩
    exact k _ H1 (List.getElem_mem hr2) k1
theorem oneS_leaf {H : Hp} {Q : VK} {E : XK} {b : Addr} {s : Str} (hb : Bag H b) (h0 : 0 < s.cps.size) (h1 : s.cps.size < 1000) (k : ∀ c H', c ∈ s.cps.toList → Kp b H H' → Q (.str ⟨#[c]⟩) H') : spOneS [.ref b, .str s] H Q E := ⟨b, s, rfl, hb, h0, h1, k⟩
/-! ### drawn words -/
theorem KpGrown {b D : Addr} {xs : List V} {H G G' : Hp} (k : Kp b H G) (hD : H D = none) (n : D ≠ b) (g : Grown D xs G G') : Kp b H G' := by
  obtain ⟨f, s, m, hb⟩ := k.bag'
  exact ⟨k.bag, ⟨f, s, m, g.keep _ _ (fun z => n z.symm) hb⟩, fun c u hc h => g.keep _ _ (ne_of_none h hD) (k.keep c u hc h)⟩
theorem w_m1 {σ : L2.St} {H : Hp} {Q : VK} {r : V → List V → Hp → VK → Prop} {to te : TE} (h : to σ H fun x H1 => (∃ a, x = .str a) ∧ te σ H1 fun y H2 => r x [y] H2 Q) : tM1 r to te σ H Q := h
theorem join_tl (parts : List Str) : TL.tl (Txt.join "" parts) = (parts.map TL.tl).flatten := by
  rw [TL.join_eq, TL.tl_join]
  induction parts with
  | nil => rfl
  | cons p r ih =>
    cases r with
    | nil => show TL.tl p = [TL.tl p].flatten; simp
    | cons q r =>
      rw [List.map_cons, List.flatten_cons, ← ih]
      rfl
def sg (c : Nat) : Str := ⟨#[c]⟩
theorem join_sg (cs : List Nat) : (Txt.join "" (cs.map sg)).cps.toList = cs := by
  have := join_tl (cs.map sg)
  show TL.tl (Txt.join "" (cs.map sg)) = cs
  rw [this, List.map_map]
  induction cs with
  | nil => rfl
  | cons c r ih => show [c] ++ ((r.map (TL.tl ∘ sg)).flatten) = c :: r; rw [ih (join_tl _)]; rfl
theorem sgs_of {ys : List V} {Pc : Nat → Prop} (h : ∀ (i : Nat) (v : V), ys[i]? = some v → ∃ c, v = .str (sg c) ∧ Pc c) : ∃ cs : List Nat, ys = (cs.map sg).map V.str ∧ cs.length = ys.length ∧ ∀ c ∈ cs, Pc c := by
  induction ys with
  | nil => exact ⟨[], rfl, rfl, fun c h => by cases h⟩
  | cons y r ih =>
    obtain ⟨c, rfl, hc⟩ := h 0 y rfl
    obtain ⟨cs, rfl, hl, hp⟩ := ih fun i v hv => h (i + 1) v hv
    refine ⟨c :: cs, rfl, by rw [List.length_cons, List.length_cons, hl], fun d hd => ?_⟩
    rcases List.mem_cons.mp hd with rfl | hd
    · exact hc
    · exact hp d hd
def poolW : List Nat := [97, 98, 99, 100, 101, 104, 107, 108, 109, 110, 111, 112, 114, 115, 116, 117, 119, 121, 122]
def spcW : List Nat := [102, 103, 105, 106, 113, 118, 120]
def Plain (s : Str) : Prop := ∀ c ∈ s.cps.toList, c ∈ poolW
def Spc (i : Nat) (s : Str) : Prop := ∃ r c, s.cps.toList = r ++ [c] ∧ spcW[i]? = some c
/-- the words so far: words, no two alike, each plain or ended by its own sign -/
structure Fine (ws : List Str) : Prop where
  word : ∀ w ∈ ws, Word w
  nd : ws.Nodup
  how : ∀ (i : Nat) (w : Str), ws[i]? = some w → Plain w ∨ Spc i w
theorem nodup_snoc {ws : List Str} {w : Str} (h : ws.Nodup) (n : w ∉ ws) : (ws ++ [w]).Nodup := List.nodup_append.mpr ⟨h, by simp, fun a ha b hb => by
  rw [List.mem_singleton] at hb
  subst hb
  exact fun z => n (z ▸ ha)⟩
theorem Fine.snoc {ws : List Str} {w : Str} (f : Fine ws) (hw : Word w) (n : w ∉ ws) (q : Plain w ∨ Spc ws.length w) : Fine (ws ++ [w]) := by
  refine ⟨fun x hx => ?_, nodup_snoc f.nd n, fun i x hx => ?_⟩
  · rcases List.mem_append.mp hx with h | h
    · exact f.word x h
    · rw [List.mem_singleton] at h
      exact h ▸ hw
  · by_cases c : i < ws.length
    · rw [List.getElem?_append_left c] at hx
      exact f.how i x hx
    · rw [List.getElem?_append_right (by omega)] at hx
      have e : i = ws.length := by
        have := (List.getElem?_eq_some_iff.mp hx).1
        simp at this
        omega
      subst e
      simp at hx
      subst hx
      exact q
theorem spc_inj : ∀ i j : Nat, i < 7 → j < 7 → ∀ c, spcW[i]? = some c → spcW[j]? = some c → i = j := by
  intro i j hi hj c h1 h2
  have nd : spcW.Nodup := by decide
  exact (List.getElem?_inj (l := spcW) (by exact hi) nd).mp (h1.trans h2.symm)
theorem spc_new {ws : List Str} {w : Str} (f : Fine ws) (q : Spc ws.length w) : w ∉ ws := fun m => by
  obtain ⟨i, hi⟩ := List.getElem?_of_mem m
  have li : i < ws.length := (List.getElem?_eq_some_iff.mp hi).1
  obtain ⟨r, c, e, hc⟩ := q
  have lc : ws.length < 7 := (List.getElem?_eq_some_iff.mp hc).1
  rcases f.how i w hi with p | ⟨r2, c2, e2, hc2⟩
  · have z := p c (by rw [e]; simp)
    have : c ∈ spcW := List.mem_of_getElem? hc
    revert z
    revert this
    clear hc e
    unfold spcW poolW
    intro h1 h2
    simp at h1 h2
    omega
  · have z : c = c2 := by
      rw [e] at e2
      have := congrArg List.getLast? e2
      simpa using this
    subst z
    have := spc_inj i ws.length (by omega) lc c hc2 hc
    omega
theorem cutS7 (s : Str) : (cutS s none (some 7)).cps.toList = s.cps.toList.take 7 := by
  have hl : s.length = s.cps.toList.length := (Array.length_toList).symm
  show (((s.cps.toList.drop (HT.sIx s.length 0 none)).take (HT.sIx s.length s.length (some 7) - HT.sIx s.length 0 none)).toArray).toList = _
  rw [hl, show (some (7 : Int)) = some ((7 : Nat) : Int) from rfl, HT.sIx_nat, HT.sIx_none]
  generalize s.cps.toList = l
  rw [List.drop_zero, Nat.sub_zero]
  by_cases c : 7 ≤ l.length
  · rw [Nat.min_eq_left c]
  · rw [Nat.min_eq_right (by omega), List.take_of_length_le (Nat.le_refl _), List.take_of_length_le (by omega)]
theorem at_sp {i c : Nat} (h : spcW[i]? = some c) : atI ("fgijqvx" : Str).cps.toList ((0 : Int) + (i : Int)) = some c := by
  rw [show (0 : Int) + (i : Int) = (i : Int) by omega]
  exact atI_nat h
def spWords (K : PySem.W.Frag) : Sp := fun vs H Q _ => ∃ (b : Addr) (m : Nat), vs = [.ref b, .int m] ∧ Bag H b ∧ 1 ≤ m ∧ m ≤ 6 ∧ ∀ t ws H', Kp b H H' → SqT K H' t (ws.map V.str) → ws.length = m → GoodParts ws → Q (.ref t) H'
theorem ok_words (T : Txt K mg a) : FnOk P w K mg base CX0 3 a.f_words a.d_words ["_law_bag_here", "_law_many"] (spWords K) := by
  refine T.F_words.ok sc_words (fun vs H Q E h => ?_) (fun cdv A outer s H vs Q E hr h => ?_)
  · obtain ⟨b, m, rfl, _⟩ := h
    rfl
  · obtain ⟨b, m, rfl, hb, h0, h1, k⟩ := h
    refine ⟨_, (pss_cons (ps_set (i := 2) sc_words.nd rfl (Or.inl rfl) (pe_lst pa_nil))
      (pss_cons (ps_for PassesOwn.never rfl (pi_range1 (by rfl) T.z_range (pa_cons (pv 1) pa_nil)) (pg_name (i := 3) sc_words.nd rfl (Or.inl rfl)) (pss_cons (ps_set (i := 4) sc_words.nd rfl (Or.inl rfl) (pe_join pe_str (pe_lc (own := [("_law_k", 5)]) (g := gName 5) (tt := tYes) rfl sc_words.nd (pi_range1 (by rfl) T.z_range (pa_cons (pe_op op_add pe_int (pe_call (ok_draw T) (hr.mono (by decide)) (by rfl) T.m_draw T.F_draw.kp T.b_draw .nil pass0 (pa_cons (pv 0) (pa_cons pe_int pa_nil)))) pa_nil)) (blkOk_by (own := [("_law_k", 5)]) (N := ["_law_bag_here", "_law_many", "_law_found", "_law_turn", "_law_made", "_law_k"]) (sc := defScope s_words) (by decide +kernel)) (fun _ _ _ _ _ => pg_name (i := 5) sc_words.nd rfl (Or.inl rfl)) (fun _ _ _ _ _ => pts_nil) (fun _ _ _ _ _ => by exact (pe_call (ok_oneS T) (hr.mono (by decide)) (by rfl) T.m_one T.F_one.kp T.b_one .nil pass0 (pa_cons (pv 0) (pa_cons pe_str pa_nil)))))))
      (pss_cons (ps_if (pt_cmpR op_in_seq (pv 4) (pv 2) (by rfl)) (pss_one (ps_set (i := 4) sc_words.nd rfl (Or.inl rfl) (pe_op op_add_str (pe_slice sl_str (pv 4) po_none (po_some pe_int)) (pe_ix ix_str pe_str (pv 3) (fun _ _ => rfl))))) pss_nil)
      (pss_one (ps_expr (pe_bm PySem.F.plainAttrs_list PySem.F.slot_list_append PySem.F.type_list_append mt_append (pv 2) (pa_cons (pv 4) pa_nil)))))))
      (pss_one (ps_ret (pe_callTy call_tuple_of (by rfl) T.z_tuple (by decide +kernel) (pa_cons (pv 2) pa_nil)))))), ?_⟩
    walk_at "r"
    refine w_newL (by show 0 ≤ 100000; decide) fun D H1 nD e1 h1 => ?_
    walk_at "r"
    have ne := bag_ne hb nD
    refine ⟨m, rfl, by omega, by omega, for_leaf (walk_range (lo := 0) (n := m)) (fun i σ' G => ∃ ws : List Str, Kp b H G ∧ G D = some (.lst (ws.map V.str)) ∧ ws.length = i ∧ Fine ws ∧ ∃ v3 v4 : Option V, σ' = [some (.ref b), some (.int m), some (.ref D), v3, v4, none]) ⟨[], .of hb e1, h1, rfl, ⟨fun w h => absurd h List.not_mem_nil, List.nodup_nil, fun i w h => by simp at h⟩, _, _, rfl⟩ (fun _ _ _ _ _ => trivial) ?_ ?_⟩
    · rintro i z σ' G G' hi ⟨ws, kp, h2, hl, fi, v3, v4, rfl⟩ ⟨rfl, rfl⟩
      walk_at "r"
      refine w_m1 ?_
      walk_at "r"
      refine ⟨⟨_, rfl⟩, ?_⟩
      walk_at "r"
      refine draw_leaf kp.bag' (by show (0 : Int) < 6; decide) (by show (6 : Int) ≤ 10 ^ 12; decide) fun r G2 r0 r1 k2 => ?_
      walk_at "r"
      have kp2 := kp.trans k2
      refine ⟨2 + r, rfl, by omega, by omega, cmK kp2.bag' (walk_range (lo := 0) (n := (2 + r).toNat)) (by omega) (fun _ _ => trivial) (fun _ v _ => ∃ c, v = .str (sg c) ∧ c ∈ poolW) (fun _ _ _ _ _ h => h) (fun j x G3 G4 hj k3 hy Q' kq => ?_) (fun L ys G3 nL k3 h3 hn hP => ?_)⟩
      · obtain ⟨rfl, rfl⟩ := hy
        walk_at "r"
        refine ⟨rfl, ?_⟩
        walk_at "r"
        exact oneS_leaf k3.bag' (by decide) (by decide) fun c G5 hc k5 => kq _ _ k5 ⟨c, rfl, hc⟩
      obtain ⟨cs, rfl, hl2, hcs⟩ := sgs_of hP
      walk_at "r"
      have hcl : cs.length ≤ 8 := by rw [hl2, hn]; omega
      have hcl2 : 2 ≤ cs.length := by rw [hl2, hn]; omega
      refine ⟨"", L, cs.map sg, rfl, rfl, .inl (.inl (.inl h3)), ?_, ?_⟩
      · have z : ∀ l : List Nat, ((l.map sg).map fun x => x.length).sum = l.length := fun l => by
          induction l with
          | nil => rfl
          | cons c r ih => rw [List.map_cons, List.map_cons, List.sum_cons, ih, List.length_cons]; show 1 + _ = _; omega
        rw [z]
        show _ + _ * 0 ≤ _
        omega
      have jl := join_sg cs
      revert jl
      generalize Txt.join "" (cs.map sg) = made
      intro jl
      have kp3 := kp2.trans k3
      have hD3 := k3.keep _ _ ne (k2.keep _ _ ne h2)
      have wd : Word made := by
        have e : made.cps.size = cs.length := by rw [← Array.length_toList, jl]
        refine ⟨by omega, by omega, fun c hc => ?_⟩
        rw [jl] at hc
        have := hcs c hc
        unfold poolW at this
        simp at this
        omega
      walk_at "r"
      refine in_leaf (.inl (.inl (.inl hD3))) ?_
      have wl : (ws.map V.str).length ≤ 1000 := by rw [List.length_map]; omega
      by_cases mm : made ∈ ws
      · rw [decide_eq_true mm]
        refine ⟨true, rfl, iteT ?_⟩
        walk_at "r"
        refine ⟨made, rfl, Nat.le_trans wd.2.1 (by decide), ?_⟩
        walk_at "r"
        have hi7 : i < spcW.length := by show i < 7; omega
        refine ⟨"fgijqvx", _, spcW[i], rfl, rfl, by decide, at_sp (List.getElem?_eq_getElem hi7), ?_⟩
        walk_at "r"
        have c7 : (cutS made none (some 7)).cps.toList = made.cps.toList.take 7 := cutS7 made
        have c8 : (cutS made none (some 7)).length ≤ 7 := by
          show (cutS made none (some 7)).cps.size ≤ 7
          rw [← Array.length_toList, c7, List.length_take]
          omega
        refine ⟨_, _, rfl, rfl, Nat.le_trans (show (cutS made none (some 7)).length + 1 ≤ 8 by omega) (by decide), ?_⟩
        walk_at "r"
        have tl2 : (cutS made none (some 7) ++ (⟨#[spcW[i]]⟩ : Str)).cps.toList = made.cps.toList.take 7 ++ [spcW[i]] := by
          have := TL.tl_append (cutS made none (some 7)) (⟨#[spcW[i]]⟩ : Str)
          rw [← c7]
          exact this
        revert tl2
        generalize cutS made none (some 7) ++ (⟨#[spcW[i]]⟩ : Str) = made2
        intro tl2
        refine ⟨.inl ⟨rfl, _, .inl (.inl hD3)⟩, ?_⟩
        walk_at "r"
        refine w_app hD3 wl fun G5 g => ?_
        have sp : Spc ws.length made2 := ⟨_, _, tl2, by rw [hl]; exact List.getElem?_eq_getElem hi7⟩
        have wd2 : Word made2 := by
          have e : made2.cps.size = (made.cps.toList.take 7).length + 1 := by rw [← Array.length_toList, tl2, List.length_append]; rfl
          have e2 : made.cps.size = cs.length := by rw [← Array.length_toList, jl]
          rw [List.length_take, Array.length_toList] at e
          refine ⟨by omega, by omega, fun c hc => ?_⟩
          rw [tl2] at hc
          rcases List.mem_append.mp hc with h | h
          · exact wd.2.2 c (List.mem_of_mem_take h)
          · rw [List.mem_singleton] at h
            rw [h]
            have : ∀ x ∈ spcW, 97 ≤ x ∧ x ≤ 122 := by decide
            exact this _ (List.getElem_mem hi7)
        exact ⟨ws ++ [made2], KpGrown kp3 nD ne g, by rw [g.at_, List.map_append]; rfl, by rw [List.length_append, hl]; rfl, fi.snoc wd2 (spc_new fi sp) (.inr sp), _, _, rfl⟩
      · rw [decide_eq_false mm]
        refine ⟨false, rfl, iteF ?_⟩
        walk_at "r"
        refine ⟨.inl ⟨rfl, _, .inl (.inl hD3)⟩, ?_⟩
        walk_at "r"
        refine w_app hD3 wl fun G5 g => ?_
        exact ⟨ws ++ [made], KpGrown kp3 nD ne g, by rw [g.at_, List.map_append]; rfl, by rw [List.length_append, hl]; rfl, fi.snoc wd mm (.inl fun c hc => hcs c (by rw [← jl]; exact hc)), _, _, rfl⟩
    · rintro σ' G ⟨ws, kp, h2, hl, fi, v3, v4, rfl⟩
      walk_at "r"
      refine ⟨D, _, rfl, .inl ⟨.inl (.inl h2), fun t nt => ?_⟩⟩
      subst hl
      exact k t ws _ (kp.trans (.of kp.bag' (w_new nt))) (SqT.of upd_same) rfl ⟨h0, h1, fi.word, fi.nd⟩/-! ### drawn letters -/
def sgV (l : List Nat) : List V := (l.map sg).map V.str
theorem sgV_eq (z : Str) : (z.cps.toList.map fun c => V.str ⟨#[c]⟩) = sgV z.cps.toList := by unfold sgV; rw [List.map_map]; rfl
theorem sgV_erase (l : List Nat) (k : Nat) : (sgV l).eraseIdx k = sgV (l.eraseIdx k) := by
  induction l generalizing k with
  | nil => rfl
  | cons c r ih =>
    cases k with
    | zero => rfl
    | succ k => show V.str (sg c) :: (sgV r).eraseIdx k = _; rw [ih]; rfl
theorem take_perm {l : List Nat} {k : Nat} (h : k < l.length) : ([l[k]] ++ l.eraseIdx k).Perm l := by
  induction l generalizing k with
  | nil => cases h
  | cons c r ih =>
    cases k with
    | zero => exact List.Perm.refl _
    | succ k =>
      have hk : k < r.length := by simpa using h
      have := ih hk
      show (r[k] :: c :: r.eraseIdx k).Perm (c :: r)
      exact (List.Perm.swap _ _ _).trans (List.Perm.cons c this)
theorem len_sgs (l : List Nat) : ((l.map sg).map fun x => x.length).sum = l.length := by
  induction l with
  | nil => rfl
  | cons c r ih => rw [List.map_cons, List.map_cons, List.sum_cons, ih, List.length_cons]; show 1 + _ = _; omega
theorem sgs_perm {ys : List Str} {l : List Nat} (h : ys.Perm (l.map sg)) : ∃ cs : List Nat, ys = cs.map sg ∧ cs.Perm l := by
  refine ⟨ys.map fun s => s.cps.toList.headD 0, ?_, ?_⟩
  · rw [List.map_map]
    have : ∀ y ∈ ys, (sg ∘ fun s : Str => s.cps.toList.headD 0) y = y := fun y hy => by
      obtain ⟨c, _, rfl⟩ := List.mem_map.mp (h.mem_iff.mp hy)
      rfl
    rw [List.map_congr_left this, List.map_id']
  · have := h.map fun s => s.cps.toList.headD 0
    rw [List.map_map, show ((fun s : Str => s.cps.toList.headD 0) ∘ sg) = id from rfl, List.map_id] at this
    exact this
theorem lt1c (x y : Nat) : ltCps [x] [y] = decide (x < y) := by
  show (decide (x < y) || (x == y && false)) = _
  rw [Bool.and_false, Bool.or_false]
theorem rise_from : ∀ (cs : List Nat) (p : Nat), risingS (sg p) (cs.map sg) = true → (p :: cs).Nodup → (p :: cs).Pairwise (· < ·)
  | [], p, _, _ => List.pairwise_singleton _ _
  | c :: r, p, h, nd => by
    have h : (!ltCps [c] [p] && risingS (sg c) (r.map sg)) = true := h
    rw [Bool.and_eq_true, lt1c, Bool.not_eq_true', decide_eq_false_iff_not] at h
    have nd2 := List.nodup_cons.mp nd
    have ih := rise_from r c h.2 nd2.2
    have lt : p < c := by
      have : p ≠ c := fun z => nd2.1 (by rw [z]; exact List.mem_cons_self ..)
      omega
    refine List.pairwise_cons.mpr ⟨fun x hx => ?_, ih⟩
    rcases List.mem_cons.mp hx with rfl | hx
    · exact lt
    · exact Nat.lt_trans lt ((List.pairwise_cons.mp ih).1 x hx)
theorem sgs_rise {cs : List Nat} (h : sortedS (cs.map sg) = true) (nd : cs.Nodup) : cs.Pairwise (· < ·) := by
  cases cs with
  | nil => exact List.Pairwise.nil
  | cons c r => exact rise_from r c h nd
/-- many different letters of the pool, in order -/
def spLetters : Sp := fun vs H Q _ => ∃ (b : Addr) (z : Str) (m : Nat), vs = [.ref b, .str z, .int m] ∧ Bag H b ∧ z.cps.toList.Nodup ∧ z.cps.size ≤ 20 ∧ m ≤ z.cps.size ∧ ∀ (s : Str) H', Kp b H H' → s.cps.size = m → (∀ c ∈ s.cps.toList, c ∈ z.cps.toList) → s.cps.toList.Pairwise (· < ·) → Q (.str s) H'
theorem ok_letters (T : Txt K mg a) : FnOk P w K mg base CX0 2 a.f_letters a.d_letters ["_law_bag_here", "_law_pool", "_law_many"] spLetters := by
  refine T.F_letters.ok sc_letters (fun vs H Q E h => ?_) (fun cdv A outer s H vs Q E hr h => ?_)
  · obtain ⟨b, z, m, rfl, _⟩ := h
    rfl
  · obtain ⟨b, z, m, rfl, hb, nd, sz, hm, k⟩ := h
    refine ⟨_, (pss_cons (ps_par (i := 3) (j := 4) (by rfl) sc_letters.nd rfl rfl (by decide) rfl rfl (pa_cons (pe_callTy (cr_listS rfl) (by rfl) T.z_list (by decide +kernel) (pa_cons (pv 1) pa_nil)) (pa_cons (pe_lst pa_nil) pa_nil)) (by rfl))
      (pss_cons (ps_for PassesOwn.never rfl (pi_range1 (by rfl) T.z_range (pa_cons (pv 2) pa_nil)) (pg_name (i := 5) sc_letters.nd rfl (Or.inl rfl)) (pss_one (ps_expr (pe_bm PySem.F.plainAttrs_list PySem.F.slot_list_append PySem.F.type_list_append mt_append (pv 4) (pa_cons (pe_bm PySem.F.plainAttrs_list PySem.F.slot_list_pop PySem.F.type_list_pop mt_popAt (pv 3) (pa_cons (pe_call (ok_draw T) (hr.mono (by decide)) (by rfl) T.m_draw T.F_draw.kp T.b_draw .nil pass0 (pa_cons (pv 0) (pa_cons (pe_callB cr_len (by rfl) T.z_len PySem.boot_len (pa_cons (pv 3) pa_nil)) pa_nil))) pa_nil)) pa_nil)))))
      (pss_one (ps_ret (pe_join pe_str (pe_callB cr_sortedS (by rfl) T.z_sorted (by decide +kernel) (pa_cons (pv 4) pa_nil))))))), ?_⟩
    walk_at "r"
    refine ⟨z, rfl, by omega, fun L nL => ?_⟩
    walk_at "r"
    refine w_newL (by show 0 ≤ 100000; decide) fun D H1 nD e1 h1 => ?_
    walk_at "r"
    have nD' : H D = none := by
      cases q : H D with
      | none => rfl
      | some o =>
        have : D ≠ L := fun z => by rw [z, nL] at q; cases q
        rw [upd_ne this, q] at nD
        cases nD
    have neDL : D ≠ L := fun z => by rw [z, upd_same] at nD; cases nD
    have nbL := bag_ne hb nL
    have nbD := bag_ne hb nD'
    refine ⟨m, rfl, by omega, by omega, for_leaf (walk_range (lo := 0) (n := m)) (fun i σ' G => ∃ lf fd : List Nat, Kp b H G ∧ G L = some (.lst (sgV lf)) ∧ G D = some (.lst (sgV fd)) ∧ fd.length = i ∧ (fd ++ lf).Perm z.cps.toList ∧ ∃ v5 : Option V, σ' = [some (.ref b), some (.str z), some (.int m), some (.ref L), some (.ref D), v5]) ⟨z.cps.toList, [], .of hb ((w_new nL).trans e1), by rw [e1 _ _ upd_same, sgV_eq], h1, rfl, List.Perm.refl _, _, rfl⟩ (fun _ _ _ _ _ => trivial) ?_ ?_⟩
    · rintro i y σ' G G' hi ⟨lf, fd, kp, hL, hD, hl, pm, v5, rfl⟩ ⟨rfl, rfl⟩
      have ln : fd.length + lf.length = z.cps.size := by rw [← List.length_append, pm.length_eq, Array.length_toList]
      walk_at "r"
      refine ⟨.inl ⟨rfl, _, .inl (.inl hD)⟩, ?_⟩
      walk_at "r"
      refine ⟨.inl ⟨rfl, _, .inl (.inl hL)⟩, ?_⟩
      walk_at "r"
      refine w_lenL (.inl (.inl hL)) ?_
      walk_at "r"
      have lL : (sgV lf).length = lf.length := by unfold sgV; rw [List.length_map, List.length_map]
      have lD : (sgV fd).length = fd.length := by unfold sgV; rw [List.length_map, List.length_map]
      refine draw_leaf kp.bag' (by omega) (by omega) fun r G2 r0 r1 k2 => ?_
      walk_at "r"
      have hr2 : r.toNat < lf.length := by omega
      have ix : ixN (sgV lf).length r = some r.toNat := by unfold ixN; rw [if_pos r0, if_pos r1]
      have hy : (sgV lf)[r.toNat]? = some (.str (sg lf[r.toNat])) := by unfold sgV; rw [List.getElem?_map, List.getElem?_map, List.getElem?_eq_getElem hr2]; rfl
      have hL2 := k2.keep _ _ nbL hL
      have hD2 := k2.keep _ _ nbD hD
      refine ⟨L, sgV lf, r, r.toNat, _, rfl, rfl, hL2, by omega, by omega, (ixN_seq ix).1, hy, ?_⟩
      walk_at "r"
      refine w_app (by rw [upd_ne neDL]; exact hD2) (by omega) fun G5 g => ?_
      have hL3 : G5 L = some (.lst (sgV (lf.eraseIdx r.toNat))) := by rw [← sgV_erase]; exact g.keep _ _ (fun z => neDL z.symm) upd_same
      exact ⟨lf.eraseIdx r.toNat, fd ++ [lf[r.toNat]], KpGrown ((kp.trans k2).putNew nL nbL) nD' nbD g, hL3, by rw [g.at_]; unfold sgV; rw [List.map_append, List.map_append]; rfl, by rw [List.length_append, hl]; rfl, (by rw [List.append_assoc]; exact (List.Perm.append_left fd (take_perm hr2)).trans pm), _, rfl⟩
    · rintro σ' G ⟨lf, fd, kp, hL, hD, hl, pm, v5, rfl⟩
      walk_at "r"
      refine w_m1 ?_
      walk_at "r"
      refine ⟨⟨_, rfl⟩, ?_⟩
      walk_at "r"
      refine ⟨D, fd.map sg, rfl, .inl (.inl hD), by rw [List.length_map]; omega, fun ys p pm2 srt np => ?_⟩
      obtain ⟨cs, rfl, pc⟩ := sgs_perm pm2
      refine ⟨"", p, cs.map sg, rfl, rfl, .inl (.inl (.inl upd_same)), by rw [len_sgs]; have := pc.length_eq; show _ + _ * 0 ≤ _; omega, ?_⟩
      have jl := join_sg cs
      revert jl
      generalize Txt.join "" (cs.map sg) = made
      intro jl
      have nd2 := pm.nodup_iff.mpr nd
      have nd3 := pc.nodup_iff.mpr (List.nodup_append.mp nd2).1
      refine k made _ (kp.trans (.of kp.bag' (w_new np))) ?_ ?_ ?_
      · rw [← Array.length_toList, jl, pc.length_eq, hl]
      · intro c hc
        rw [jl] at hc
        exact (pm.mem_iff).mp (List.mem_append_left _ (pc.mem_iff.mp hc))
      · rw [jl]
        exact sgs_rise srt nd3
theorem letters_leaf {H : Hp} {Q : VK} {E : XK} {b : Addr} {z : Str} {m : Nat} (hb : Bag H b) (nd : z.cps.toList.Nodup) (sz : z.cps.size ≤ 20) (hm : m ≤ z.cps.size) (k : ∀ (s : Str) H', Kp b H H' → s.cps.size = m → (∀ c ∈ s.cps.toList, c ∈ z.cps.toList) → s.cps.toList.Pairwise (· < ·) → Q (.str s) H') : spLetters [.ref b, .str z, .int m] H Q E := ⟨b, z, m, rfl, hb, nd, sz, hm, k⟩
theorem words_leaf {H : Hp} {Q : VK} {E : XK} {b : Addr} {m : Nat} (hb : Bag H b) (h0 : 1 ≤ m) (h1 : m ≤ 6) (k : ∀ t ws H', Kp b H H' → SqT K H' t (ws.map V.str) → ws.length = m → GoodParts ws → Q (.ref t) H') : spWords K [.ref b, .int m] H Q E := ⟨b, m, rfl, hb, h0, h1, k⟩
/-! ### drawn cords -/
structure Drawn (ps : List Str) (es : List Tie3) (k j : Nat) : Prop where
  few : es.length ≤ 10
  each : ∀ t ∈ es, ∃ (j' k' : Nat) (x y : Str), j' < k' ∧ (k' < k ∨ (k' = k ∧ j' < j)) ∧ ps[j']? = some x ∧ ps[k']? = some y ∧ ((t.1 = x ∧ t.2.1 = y) ∨ (t.1 = y ∧ t.2.1 = x)) ∧ 0 ≤ t.2.2 ∧ t.2.2 ≤ 20
  apart : es.Pairwise fun t u => ¬ Meet t u
theorem Drawn.next {ps : List Str} {es : List Tie3} {k j : Nat} (d : Drawn ps es k j) : Drawn ps es k (j + 1) := ⟨d.few, fun t h => let ⟨j', k', x, y, a, b, c⟩ := d.each t h; ⟨j', k', x, y, a, by omega, c⟩, d.apart⟩
theorem Drawn.line {ps : List Str} {es : List Tie3} {k : Nat} (d : Drawn ps es k k) : Drawn ps es (k + 1) 0 := ⟨d.few, fun t h => let ⟨j', k', x, y, a, b, c⟩ := d.each t h; ⟨j', k', x, y, a, by omega, c⟩, d.apart⟩
theorem Drawn.snoc {ps : List Str} {es : List Tie3} {k j : Nat} (d : Drawn ps es k j) (nd : ps.Nodup) (l : es.length < 10) (lt : j < k) {t : Tie3} {x y : Str} (hx : ps[j]? = some x) (hy : ps[k]? = some y) (ht : (t.1 = x ∧ t.2.1 = y) ∨ (t.1 = y ∧ t.2.1 = x)) (h0 : 0 ≤ t.2.2) (h1 : t.2.2 ≤ 20) : Drawn ps (es ++ [t]) k (j + 1) := by
  refine ⟨by rw [List.length_append]; exact l, fun u hu => ?_, List.pairwise_append.mpr ⟨d.apart, List.pairwise_singleton _ _, fun u hu v hv m => ?_⟩⟩
  · rcases List.mem_append.mp hu with h | h
    · exact d.next.each u h
    · rw [List.mem_singleton] at h
      subst h
      exact ⟨j, k, x, y, lt, by omega, hx, hy, ht, h0, h1⟩
  · rw [List.mem_singleton] at hv
    subst hv
    obtain ⟨j', k', x', y', a, b, hx', hy', e, _⟩ := d.each u hu
    have z : (x' = x ∧ y' = y) ∨ (x' = y ∧ y' = x) := by
      rcases e with ⟨e1, e2⟩ | ⟨e1, e2⟩ <;> rcases ht with ⟨t1, t2⟩ | ⟨t1, t2⟩ <;> rcases m with ⟨m1, m2⟩ | ⟨m1, m2⟩ <;> simp only [e1, e2, t1, t2] at m1 m2 <;> first | exact .inl ⟨m1, m2⟩ | exact .inl ⟨m2, m1⟩ | exact .inr ⟨m1, m2⟩ | exact .inr ⟨m2, m1⟩
    rcases z with ⟨z1, z2⟩ | ⟨z1, z2⟩
    · subst z1 z2
      have := nd_ix nd hx' hx
      have := nd_ix nd hy' hy
      omega
    · subst z1 z2
      have := nd_ix nd hx' hy
      have := nd_ix nd hy' hx
      omega
theorem Drawn.good {ps : List Str} {es : List Tie3} {k j : Nat} (d : Drawn ps es k j) (nd : ps.Nodup) : GoodTies ps es := by
  refine ⟨d.few, fun t h => ?_, fun t h => ?_, fun t h => ?_, fun t h => ?_, fun t h => ?_, d.apart⟩
  all_goals obtain ⟨j', k', x, y, a, b, hx, hy, e, h0, h1⟩ := d.each t h
  · rcases e with ⟨e1, e2⟩ | ⟨e1, e2⟩ <;> rw [e1]
    · exact List.mem_of_getElem? hx
    · exact List.mem_of_getElem? hy
  · rcases e with ⟨e1, e2⟩ | ⟨e1, e2⟩ <;> rw [e2]
    · exact List.mem_of_getElem? hy
    · exact List.mem_of_getElem? hx
  · intro z
    have xy : x = y := by
      rcases e with ⟨e1, e2⟩ | ⟨e1, e2⟩ <;> rw [e1, e2] at z
      · exact z
      · exact z.symm
    subst xy
    have := nd_ix nd hx hy
    omega
  · exact h0
  · omega
theorem w_cutV {te : TE} {σ : L2.St} {H : Hp} {Q : VK} (Inv : V → Hp → Prop) (h1 : ∀ Q' : VK, (∀ v H', Inv v H' → Q' v H') → te σ H Q') (h2 : ∀ v H', Inv v H' → Q v H') : te σ H Q := h1 Q h2
theorem walk_rng0 {n : Nat} : Walk (Itr 0 n) n (fun _ => True) (YFn fun i => .int (i : Nat)) where
  goes := fun i H hi q => (walk_range (lo := 0) (n := n)).goes i H hi q
  stops := fun H q => (walk_range (lo := 0) (n := n)).stops H q
  yields := fun i H v H' hi q y => by
    have := (walk_range (lo := 0) (n := n)).yields i H v H' hi q y
    refine ⟨this.1, this.2.trans ?_⟩
    show V.int (0 + (i : Int)) = V.int (i : Int)
    rw [Int.zero_add]
def spCords (K : PySem.W.Frag) : Sp := fun vs H Q _ => ∃ (b t : Addr) (ps : List Str), vs = [.ref b, .ref t] ∧ Bag H b ∧ SqT K H t (ps.map V.str) ∧ ps.Nodup ∧ ps.length ≤ 6 ∧ ∀ u es H', Kp b H H' → Rws K H' u (es.map tieV) → GoodTies ps es → (∀ t ∈ es, t.2.2 ≤ 20) → Q (.ref u) H'
theorem ok_cords (T : Txt K mg a) : FnOk P w K mg base CX0 3 a.f_cords a.d_cords ["_law_bag_here", "_law_limbs"] (spCords K) := by
  refine T.F_cords.ok sc_cords (fun vs H Q E h => ?_) (fun cdv A outer s H vs Q E hr h => ?_)
  · obtain ⟨b, t, ps, rfl, _⟩ := h
    rfl
  · obtain ⟨b, t, ps, rfl, hb, ht, nd, l6, k⟩ := h
    refine ⟨_, (pss_cons (ps_set (i := 2) sc_cords.nd rfl (Or.inl rfl) (pe_lst pa_nil))
      (pss_cons (ps_for PassesOwn.never rfl (pi_range1 (by rfl) T.z_range (pa_cons (pe_callB cr_len (by rfl) T.z_len PySem.boot_len (pa_cons (pv 1) pa_nil)) pa_nil)) (pg_name (i := 3) sc_cords.nd rfl (Or.inl rfl)) (pss_one (ps_for PassesOwn.never rfl (pi_range1 (by rfl) T.z_range (pa_cons (pv 3) pa_nil)) (pg_name (i := 4) sc_cords.nd rfl (Or.inl rfl)) (pss_one (ps_if (PW.pt (pw_and (pt_cmpR op_lt (pe_call (ok_draw T) (hr.mono (by decide)) (by rfl) T.m_draw T.F_draw.kp T.b_draw .nil pass0 (pa_cons (pv 0) (pa_cons pe_int pa_nil))) pe_int (nomark _)) (pw_and1 (pt_cmpR op_lt (pe_callB cr_len (by rfl) T.z_len PySem.boot_len (pa_cons (pv 2) pa_nil)) pe_int (nomark _))))) (pss_cons (ps_set (i := 5) sc_cords.nd rfl (Or.inl rfl) (pe_ifExp (pt_cmpR op_eq (pe_call (ok_draw T) (hr.mono (by decide)) (by rfl) T.m_draw T.F_draw.kp T.b_draw .nil pass0 (pa_cons (pv 0) (pa_cons pe_int pa_nil))) pe_int (nomark _)) (pe_tup (pa_cons (pe_ix ix_tup (pv 1) (pv 4) (fun _ _ => rfl)) (pa_cons (pe_ix ix_tup (pv 1) (pv 3) (fun _ _ => rfl)) pa_nil))) (pe_tup (pa_cons (pe_ix ix_tup (pv 1) (pv 3) (fun _ _ => rfl)) (pa_cons (pe_ix ix_tup (pv 1) (pv 4) (fun _ _ => rfl)) pa_nil)))))
      (pss_one (ps_expr (pe_bm PySem.F.plainAttrs_list PySem.F.slot_list_append PySem.F.type_list_append mt_append (pv 2) (pa_cons (pe_op op_catT (pv 5) (pe_tup (pa_cons (pe_call (ok_one T) (hr.mono (by decide)) (by rfl) T.m_one T.F_one.kp T.b_one .nil pass0 (pa_cons (pv 0) (pa_cons (pe_lst (pa_cons pe_int (pa_cons pe_int (pa_cons pe_int (pa_cons pe_int (pa_cons pe_int (pa_cons pe_int (pa_cons pe_int pa_nil)))))))) pa_nil))) pa_nil))) pa_nil))))) pss_nil)))))
      (pss_one (ps_ret (pe_callTy call_tuple_of (by rfl) T.z_tuple (by decide +kernel) (pa_cons (pv 2) pa_nil)))))), ?_⟩
    walk_at "r"
    refine w_newL (by show 0 ≤ 100000; decide) fun D H1 nD e1 h1 => ?_
    have nb := bag_ne hb nD
    have lps : (ps.map V.str).length = ps.length := List.length_map ..
    walk_at "r"
    refine w_lenT (seqT_same e1 ht) ?_
    walk_at "r"
    refine ⟨ps.length, by rw [lps], by omega, by omega, for_leaf (walk_rng0 (n := ps.length)) (fun i σ' G => ∃ (as : List Addr) (es : List Tie3) (v3 v4 v5 : Option V), σ' = [some (.ref b), some (.ref t), some (.ref D), v3, v4, v5] ∧ Kp b H G ∧ G D = some (.lst (as.map V.ref)) ∧ as.length = es.length ∧ (∀ (i : Nat) (q : Addr) (u : Tie3), as[i]? = some q → es[i]? = some u → SqT K G q (tieV u)) ∧ Drawn ps es i 0)
      ⟨[], [], _, _, _, rfl, .of hb e1, h1, rfl, fun i q u h => by simp at h, ⟨by decide, fun t h => absurd h List.not_mem_nil, List.Pairwise.nil⟩⟩ (fun _ _ _ _ _ => trivial) ?_ ?_⟩
    · rintro i y σ' G G' hi ⟨as, es, v3, v4, v5, rfl, kp, hD, ll, rows, dr⟩ ⟨rfl, rfl⟩
      walk_at "r"
      refine ⟨(i : Int), rfl, by omega, by omega, for_leaf (walk_rng0 (n := i)) (fun j σ' G => ∃ (as : List Addr) (es : List Tie3) (v4 v5 : Option V), σ' = [some (.ref b), some (.ref t), some (.ref D), some (.int i), v4, v5] ∧ Kp b H G ∧ G D = some (.lst (as.map V.ref)) ∧ as.length = es.length ∧ (∀ (i : Nat) (q : Addr) (u : Tie3), as[i]? = some q → es[i]? = some u → SqT K G q (tieV u)) ∧ Drawn ps es i j)
        ⟨as, es, _, _, rfl, kp, hD, ll, rows, dr⟩ (fun _ _ _ _ _ => trivial) ?_ ?_⟩
      · rintro j y σ' G G' hj ⟨as, es, v4, v5, rfl, kp, hD, ll, rows, dr⟩ ⟨rfl, rfl⟩
        walk_at "r"
        refine draw_leaf kp.bag' (by show (0 : Int) < 5; decide) (by show (5 : Int) ≤ 10 ^ 12; decide) fun r G2 r0 r1 k2 => ?_
        walk_at "r"
        have kp2 := kp.trans k2
        have hD2 := k2.keep _ _ nb hD
        have rows2 : ∀ (i : Nat) (q : Addr) (u : Tie3), as[i]? = some q → es[i]? = some u → SqT K G2 q (tieV u) := fun i q u a b => k2.sqt (rows i q u a b)
        have la : (as.map V.ref).length ≤ 10 := by rw [List.length_map, ll]; exact dr.few
        refine w_iteD (fun c => ?_) (fun c => ?_)
        · walk_at "r"
          refine w_lenL (.inl (.inl hD2)) ?_
          walk_at "r"
          refine w_iteD (fun c10 => ?_) (fun c10 => ?_)
          · walk_at "r"
            have hx : ps[j]? = some (ps[j]'(by omega)) := List.getElem?_eq_getElem (by omega)
            have hy : ps[i]? = some ps[i] := List.getElem?_eq_getElem hi
            revert hx hy
            generalize ps[j]'(by omega) = x
            generalize ps[i] = y
            intro hx hy
            have vx : (ps.map V.str)[j]? = some (.str x) := by rw [List.getElem?_map, hx]; rfl
            have vy : (ps.map V.str)[i]? = some (.str y) := by rw [List.getElem?_map, hy]; rfl
            have ht2 := kp2.sqt ht
            refine w_cutV (fun v G' => ∃ q xx yy, v = .ref q ∧ Kp b G2 G' ∧ SqT K G' q [.str xx, .str yy] ∧ ((xx = x ∧ yy = y) ∨ (xx = y ∧ yy = x))) (fun Q' all => ?_) (fun v G3 hv => ?_)
            · refine w_tIf ?_
              walk_at "r"
              refine draw_leaf k2.bag' (by show (0 : Int) < 2; decide) (by show (2 : Int) ≤ 10 ^ 12; decide) fun r G3 r0 r1 k3 => ?_
              walk_at "r"
              have t3 := k3.sqt ht2
              refine w_iteD (fun c => ?_) (fun c => ?_)
              · walk_at "r"
                refine ⟨t, _, j, .str x, rfl, rfl, t3, atI_nat vx, ?_⟩
                walk_at "r"
                refine ⟨t, _, i, .str y, rfl, rfl, t3, atI_nat vy, ?_⟩
                walk_at "r"
                exact w_newT (by show 2 ≤ 100000; decide) fun q G4 nq e4 h4 => all _ _ ⟨q, x, y, rfl, k3.trans (.of k3.bag' e4), SqT.of h4, .inl ⟨rfl, rfl⟩⟩
              · walk_at "r"
                refine ⟨t, _, i, .str y, rfl, rfl, t3, atI_nat vy, ?_⟩
                walk_at "r"
                refine ⟨t, _, j, .str x, rfl, rfl, t3, atI_nat vx, ?_⟩
                walk_at "r"
                exact w_newT (by show 2 ≤ 100000; decide) fun q G4 nq e4 h4 => all _ _ ⟨q, y, x, rfl, k3.trans (.of k3.bag' e4), SqT.of h4, .inr ⟨rfl, rfl⟩⟩
            obtain ⟨q, xx, yy, rfl, k3, hq, hxy⟩ := hv
            walk_at "r"
            have hD3 := k3.keep _ _ nb hD2
            refine ⟨.inl ⟨rfl, _, .inl (.inl hD3)⟩, ?_⟩
            walk_at "r"
            refine w_newL (by show 7 ≤ 100000; decide) fun w7 G4 n4 e4 h4 => ?_
            walk_at "r"
            have k4 := k3.trans (.of k3.bag' e4)
            refine one_leaf k4.bag' h4 (bag_ne k3.bag' n4) (by decide) (by decide) fun v G5 hv k5 => ?_
            obtain ⟨z, rfl, z0, z1⟩ : ∃ z : Int, v = .int z ∧ 0 ≤ z ∧ z ≤ 20 := by
              simp only [List.mem_cons, List.not_mem_nil, or_false] at hv
              rcases hv with rfl | rfl | rfl | rfl | rfl | rfl | rfl <;> exact ⟨_, rfl, by decide, by decide⟩
            walk_at "r"
            refine w_newT (by show 1 ≤ 100000; decide) fun o1 G6 n6 e6 h6 => ?_
            have k6 := (k4.trans k5).trans (.of k5.bag' e6)
            have q6 := seqT_same e6 (k5.sqt (seqT_same e4 hq))
            have hD6 := k6.keep _ _ nb hD2
            refine ⟨q, o1, _, _, rfl, rfl, q6, SqT.of h6, by simp, (by show 2 + 1 ≤ sizeLine; decide), fun z => (by cases z), fun _ q7 n7 => ?_⟩
            have k7 := kp2.trans (k6.trans (.of k6.bag' (w_new (o := .tup ([.str xx, .str yy] ++ [.int z])) n7)))
            have hD7 := (w_new (o := .tup ([.str xx, .str yy] ++ [.int z])) n7) _ _ hD6
            walk_at "r"
            refine w_app hD7 (by omega) fun G8 g => ?_
            have g8 : ∀ {p xs}, SqT K G2 p xs → SqT K G8 p xs := fun h => g.same.sqt (k6.sqt h |> seqT_same (w_new (o := .tup ([.str xx, .str yy] ++ [.int z])) n7))
            have q8 : SqT K G8 q7 (tieV (xx, yy, z)) := g.same.sqt (SqT.of upd_same)
            have hr : ∀ (i : Nat) (q : Addr) (u : Tie3), (as ++ [q7])[i]? = some q → (es ++ [(xx, yy, z)])[i]? = some u → SqT K G8 q (tieV u) := fun i' q' u' ha he => by
              have va : (as.map V.ref ++ [V.ref q7])[i']? = some (.ref q') := by
                rw [show as.map V.ref ++ [V.ref q7] = (as ++ [q7]).map V.ref by rw [List.map_append]; rfl, List.getElem?_map, ha]
                rfl
              obtain ⟨a', e', s'⟩ := snoc_get2 (R := fun v u => ∃ a, v = V.ref a ∧ SqT K G8 a (tieV u)) (acc := as.map V.ref) (us := es) (by rw [List.length_map, ll]) (fun m v w hv hw => by
                obtain ⟨a', ha', rfl⟩ : ∃ a', as[m]? = some a' ∧ V.ref a' = v := by
                  rw [List.getElem?_map] at hv
                  cases e : as[m]? with
                  | none => rw [e] at hv; cases hv
                  | some a' => rw [e] at hv; exact ⟨a', rfl, Option.some.inj hv⟩
                exact ⟨a', rfl, g8 (rows2 m a' w ha' hw)⟩) ⟨q7, rfl, q8⟩ i' _ u' va he
              cases e'
              exact s'
            refine ⟨as ++ [q7], es ++ [(xx, yy, z)], _, _, rfl, KpGrown k7 nD nb g, by rw [g.at_, List.map_append]; rfl, by rw [List.length_append, List.length_append, ll]; rfl, hr, dr.snoc nd ?_ hj hx hy hxy z0 z1⟩
            rw [List.length_map] at c10
            omega
          · exact ⟨as, es, _, _, rfl, kp2, hD2, ll, rows2, dr.next⟩
        · exact ⟨as, es, _, _, rfl, kp2, hD2, ll, rows2, dr.next⟩
      · rintro σ' G ⟨as, es, v4, v5, rfl, kp, hD, ll, rows, dr⟩
        exact ⟨as, es, _, _, _, rfl, kp, hD, ll, rows, dr.line⟩
    · rintro σ' G ⟨as, es, v3, v4, v5, rfl, kp, hD, ll, rows, dr⟩
      walk_at "r"
      refine ⟨D, _, rfl, .inl ⟨.inl (.inl hD), fun u nu => ?_⟩⟩
      have e9 := w_new (o := .tup (as.map V.ref)) nu
      exact k u es _ (kp.trans (.of kp.bag' e9)) ⟨as, SqT.of upd_same, by rw [List.length_map]; exact ll, fun i q v ha hv => by
        obtain ⟨w', hw, rfl⟩ := map_atL hv
        exact seqT_same e9 (rows i q w' ha hw)⟩ (dr.good nd) fun t ht => (let ⟨_, _, _, _, _, _, _, _, _, _, h⟩ := dr.each t ht; h)
theorem cords_leaf {H : Hp} {Q : VK} {E : XK} {b t : Addr} {ps : List Str} (hb : Bag H b) (ht : SqT K H t (ps.map V.str)) (nd : ps.Nodup) (l6 : ps.length ≤ 6) (k : ∀ u es H', Kp b H H' → Rws K H' u (es.map tieV) → GoodTies ps es → (∀ t ∈ es, t.2.2 ≤ 20) → Q (.ref u) H') : spCords K [.ref b, .ref t] H Q E := ⟨b, t, ps, rfl, hb, ht, nd, l6, k⟩
/-! ### drawn puppets -/
/-- at t a drawn shape -/
structure Shp (K : PySem.W.Frag) (H : Hp) (t : Addr) (ps : List Str) (es : List Tie3) (hk : Str) (ls : List Ln3) : Prop where
  at_ : ∃ tp te tl, SqT K H t [.ref tp, .ref te, .str hk, .ref tl] ∧ SqT K H tp (ps.map V.str) ∧ Rws K H te (es.map tieV) ∧ Rws K H tl (ls.map lnV)
  good : GoodPup ps es hk ls
  p4 : ps.length ≤ 4
  h3 : hk.cps.size ≤ 3
  l4 : ls.length ≤ 4
  r20 : ∀ t ∈ es, t.2.2 ≤ 20
theorem pick {α β : Type} {ys : List α} {R : Nat → α → β → Prop} (h : ∀ (i : Nat) (v : α), ys[i]? = some v → ∃ u, R i v u) : ∃ us : List β, us.length = ys.length ∧ ∀ (i : Nat) (v : α) (u : β), ys[i]? = some v → us[i]? = some u → R i v u := by
  induction ys generalizing R with
  | nil => exact ⟨[], rfl, fun i v u hv => by simp at hv⟩
  | cons y r ih =>
    obtain ⟨u0, h0⟩ := h 0 y rfl
    obtain ⟨us, hl, hu⟩ := ih (R := fun i v u => R (i + 1) v u) fun i v hv => h (i + 1) v hv
    refine ⟨u0 :: us, by rw [List.length_cons, List.length_cons, hl], fun i v u hv hu' => ?_⟩
    cases i with
    | zero => cases hv; cases hu'; exact h0
    | succ i => exact hu i v u hv hu'
def spShape (K : PySem.W.Frag) : Sp := fun vs H Q _ => ∃ (b : Addr), vs = [.ref b] ∧ Bag H b ∧ ∀ t ps es hk ls H', Kp b H H' → Shp K H' t ps es hk ls → Q (.ref t) H'
theorem ok_shape (T : Txt K mg a) : FnOk P w K mg base CX0 4 a.f_shape a.d_shape ["_law_bag_here"] (spShape K) := by
  refine T.F_shape.ok sc_shape (fun vs H Q E h => ?_) (fun cdv A outer s H vs Q E hr h => ?_)
  · obtain ⟨b, rfl, _⟩ := h
    rfl
  · obtain ⟨b, rfl, hb, k⟩ := h
    refine ⟨_, (pss_cons (ps_set (i := 1) sc_shape.nd rfl (Or.inr rfl) (pe_call (ok_words T) (hr.mono (by decide)) (by rfl) T.m_words T.F_words.kp T.b_words .nil pass0 (pa_cons (pv 0) (pa_cons (pe_op op_add pe_int (pe_call (ok_draw T) (hr.mono (by decide)) (by rfl) T.m_draw T.F_draw.kp T.b_draw .nil pass0 (pa_cons (pv 0) (pa_cons pe_int pa_nil)))) pa_nil))))
      (pss_cons (ps_set (i := 2) sc_shape.nd rfl (Or.inr rfl) (pe_call (ok_letters T) (hr.mono (by decide)) (by rfl) T.m_letters T.F_letters.kp T.b_letters .nil pass0 (pa_cons (pv 0) (pa_cons pe_str (pa_cons (pe_op op_add pe_int (pe_call (ok_draw T) (hr.mono (by decide)) (by rfl) T.m_draw T.F_draw.kp T.b_draw .nil pass0 (pa_cons (pv 0) (pa_cons pe_int pa_nil)))) pa_nil)))))
      (pss_cons (ps_set (i := 3) sc_shape.nd rfl (Or.inl rfl) (pe_call (ok_letters T) (hr.mono (by decide)) (by rfl) T.m_letters T.F_letters.kp T.b_letters .nil pass0 (pa_cons (pv 0) (pa_cons pe_str (pa_cons (pe_op op_add pe_int (pe_call (ok_draw T) (hr.mono (by decide)) (by rfl) T.m_draw T.F_draw.kp T.b_draw .nil pass0 (pa_cons (pv 0) (pa_cons pe_int pa_nil)))) pa_nil)))))
      (pss_cons (ps_set (i := 4) sc_shape.nd rfl (Or.inl rfl) (pe_callTy call_tuple_of (by rfl) T.z_tuple (by decide +kernel) (pa_cons (pe_lc (own := [("_law_each", 5)]) (g := gName 5) (tt := tYes) rfl sc_shape.nd (pi_str (pv 3)) (blkOk_by (own := [("_law_each", 5)]) (N := ["_law_bag_here", "_law_limbs", "_law_pegs", "_law_called", "_law_lines", "_law_each"]) (sc := defScope s_shape) (by decide +kernel)) (fun _ _ _ _ _ => pg_name (i := 5) sc_shape.nd rfl (Or.inl rfl)) (fun _ _ _ _ _ => pts_nil) (fun _ _ _ _ _ => by exact (pe_tup (pa_cons (pv 5) (pa_cons (pe_call (ok_oneS T) (hr.mono (by decide)) (by rfl) T.m_one T.F_one.kp T.b_one .nil pass0 (pa_cons (pv 0) (pa_cons (pv 2) pa_nil))) (pa_cons (pe_call (ok_oneT T) (hr.mono (by decide)) (by rfl) T.m_one T.F_one.kp T.b_one .nil pass0 (pa_cons (pv 0) (pa_cons (pv 1) pa_nil))) pa_nil)))))) pa_nil)))
      (pss_one (ps_ret (pe_tup (pa_cons (pv 1) (pa_cons (pe_call (ok_cords T) (hr.mono (by decide)) (by rfl) T.m_cords T.F_cords.kp T.b_cords .nil pass0 (pa_cons (pv 0) (pa_cons (pv 1) pa_nil))) (pa_cons (pv 2) (pa_cons (pv 4) pa_nil))))))))))), ?_⟩
    walk_at "r"
    refine draw_leaf hb (by show (0 : Int) < 4; decide) (by show (4 : Int) ≤ 10 ^ 12; decide) fun r H1 r0 r1 k1 => ?_
    obtain ⟨m1, rfl⟩ := Int.eq_ofNat_of_zero_le r0
    walk_at "r"
    refine words_leaf (m := 1 + m1) k1.bag' (by omega) (by omega) fun tp ps H2 k2 hp lps gp => ?_
    walk_at "r"
    refine draw_leaf k2.bag' (by show (0 : Int) < 3; decide) (by show (3 : Int) ≤ 10 ^ 12; decide) fun r H3 r0 r2 k3 => ?_
    obtain ⟨m2, rfl⟩ := Int.eq_ofNat_of_zero_le r0
    walk_at "r"
    refine letters_leaf (m := 1 + m2) k3.bag' (by decide) (by decide) (by show 1 + m2 ≤ 11; omega) fun hk H4 k4 lh ch uh => ?_
    walk_at "r"
    refine draw_leaf k4.bag' (by show (0 : Int) < 4; decide) (by show (4 : Int) ≤ 10 ^ 12; decide) fun r H5 r0 r3 k5 => ?_
    obtain ⟨m3, rfl⟩ := Int.eq_ofNat_of_zero_le r0
    walk_at "r"
    refine letters_leaf (m := 1 + m3) k5.bag' (by decide) (by decide) (by show 1 + m3 ≤ 11; omega) fun cl H6 k6 lc cc uc => ?_
    have hp6 := k6.sqt (k5.sqt (k4.sqt (k3.sqt hp)))
    walk_at "r"
    refine ⟨cl, rfl, cmK k6.bag' walk_str (by omega) (fun _ _ => trivial) (fun i v G => ∃ u : Addr × Ln3, v = .ref u.1 ∧ SqT K G u.1 (lnV u.2) ∧ (∃ c, cl.cps[i]? = some c ∧ u.2.1 = sg c) ∧ (∃ d, u.2.2.1 = sg d ∧ d ∈ hk.cps.toList) ∧ u.2.2.2 ∈ ps) (fun i v G G' e ⟨u, h1, h2, h3⟩ => ⟨u, h1, e.sqt h2, h3⟩) (fun i x G G' hi kG hy Q' kq => ?_) (fun L ys H7 nL k7 h7 hn hP => ?_)⟩
    · obtain ⟨rfl, c, hc, rfl⟩ := hy
      refine ⟨rfl, ?_⟩
      walk_at "r"
      refine oneS_leaf kG.bag' (by omega) (by omega) fun d G2 hd k2 => ?_
      walk_at "r"
      refine oneT_leaf k2.bag' (k2.sqt (kG.sqt hp6)) (by rw [List.length_map]; omega) (by rw [List.length_map]; omega) fun v G3 hv k3 => ?_
      obtain ⟨q, mq, rfl⟩ := List.mem_map.mp hv
      walk_at "r"
      exact w_newT (by show 3 ≤ 100000; decide) fun u G4 n4 e4 h4 => kq _ _ ((k2.trans k3).trans (.of k3.bag' e4)) ⟨(u, sg c, sg d, q), rfl, SqT.of h4, ⟨c, hc, rfl⟩, ⟨d, rfl, hd⟩, mq⟩
    obtain ⟨us, lus, hus⟩ := pick hP
    have eys : ys = (us.map Prod.fst).map V.ref := List.ext_getElem? fun i => by
      rw [List.getElem?_map, List.getElem?_map]
      cases ey : ys[i]? with
      | none =>
        have : us[i]? = none := List.getElem?_eq_none_iff.mpr (by rw [lus]; exact List.getElem?_eq_none_iff.mp ey)
        rw [this]
        rfl
      | some v =>
        have hi : i < us.length := by rw [lus]; exact (List.getElem?_eq_some_iff.mp ey).1
        have eu := List.getElem?_eq_getElem hi
        rw [eu]
        exact congrArg some (hus i v _ ey eu).1
    have lsp : ∀ (i : Nat) (s : Ln3), (us.map Prod.snd)[i]? = some s → ∃ q, (us.map Prod.fst)[i]? = some q ∧ SqT K H7 q (lnV s) ∧ (∃ c, cl.cps[i]? = some c ∧ s.1 = sg c) ∧ (∃ d, s.2.1 = sg d ∧ d ∈ hk.cps.toList) ∧ s.2.2 ∈ ps := fun i s hs => by
      rw [List.getElem?_map] at hs
      cases eu : us[i]? with
      | none => rw [eu] at hs; cases hs
      | some u =>
        rw [eu] at hs
        cases hs
        have hi : i < ys.length := by rw [← lus]; exact (List.getElem?_eq_some_iff.mp eu).1
        have := hus i _ u (List.getElem?_eq_getElem hi) eu
        exact ⟨u.1, by rw [List.getElem?_map, eu]; rfl, this.2⟩
    walk_at "r"
    refine ⟨L, _, rfl, .inl ⟨.inl (.inl h7), fun tl n8 => ?_⟩⟩
    have e8 := w_new (o := .tup ys) n8
    have k8 : Kp b H6 (upd H7 tl (.tup ys)) := k7.trans (.of k7.bag' e8)
    walk_at "r"
    refine cords_leaf k8.bag' (k8.sqt hp6) gp.nd gp.few fun te es H9 k9 hes ges r20 => ?_
    walk_at "r"
    refine w_newT (by show 4 ≤ 100000; decide) fun t H10 n10 e10 h10 => ?_
    have ht9 : SqT K H9 tl (((us.map Prod.fst)).map V.ref) := by rw [← eys]; exact k9.sqt (SqT.of upd_same)
    refine k t ps es hk (us.map Prod.snd) H10 ((((((k1.trans k2).trans k3).trans k4).trans k5).trans k6).trans ((k8.trans k9).trans (.of k9.bag' e10))) ⟨⟨tp, te, tl, SqT.of h10, seqT_same e10 (k9.sqt (k8.sqt hp6)), hes.same e10, ⟨us.map Prod.fst, seqT_same e10 ht9, by rw [List.length_map, List.length_map, List.length_map], fun i q v ha hv => ?_⟩⟩, ⟨gp, ges, ?_, ?_⟩, by omega, by omega, ?_, r20⟩
    · rw [List.getElem?_map] at hv
      cases es' : (us.map Prod.snd)[i]? with
      | none => rw [es'] at hv; cases hv
      | some s =>
        rw [es'] at hv
        cases hv
        obtain ⟨q', hq', hs, _⟩ := lsp i s es'
        rw [ha] at hq'
        cases hq'
        exact seqT_same e10 (k9.sqt (seqT_same e8 hs))
    · refine ⟨by omega, by omega, fun c hc => ?_, fun i c d hc hd => ?_⟩
      · have := ch c hc
        have all : ∀ x ∈ ("ADFHKMPRSTW" : Str).cps.toList, 65 ≤ x ∧ x ≤ 90 := by decide
        exact all c this
      · have := List.pairwise_iff_getElem.mp uh i (i + 1) (by have := (Array.getElem?_eq_some_iff.mp hc).1; rw [Array.length_toList]; exact this) (by have := (Array.getElem?_eq_some_iff.mp hd).1; rw [Array.length_toList]; exact this) (by omega)
        obtain ⟨_, rfl⟩ := Array.getElem?_eq_some_iff.mp hc
        obtain ⟨_, rfl⟩ := Array.getElem?_eq_some_iff.mp hd
        simpa using this
    · have len : (us.map Prod.snd).length = 1 + m3 := by rw [List.length_map, lus, hn, lc]
      refine ⟨by omega, by omega, fun s hs => ?_, fun s hs => ?_, fun s hs => ?_, fun i s u hs hu => ?_⟩
      · obtain ⟨i, hi⟩ := List.getElem?_of_mem hs
        obtain ⟨_, _, _, ⟨c, hc, e⟩, _⟩ := lsp i s hi
        have mc := cc c (Array.mem_toList_iff.mpr (Array.mem_of_getElem? hc))
        have all : ∀ x ∈ ("abcefgmnxyz" : Str).cps.toList, 97 ≤ x ∧ x ≤ 122 := by decide
        exact ⟨c, e, (all c mc).1, (all c mc).2⟩
      · obtain ⟨i, hi⟩ := List.getElem?_of_mem hs
        obtain ⟨_, _, _, _, ⟨d, e, md⟩, _⟩ := lsp i s hi
        exact ⟨d, e, md⟩
      · obtain ⟨i, hi⟩ := List.getElem?_of_mem hs
        exact (lsp i s hi).choose_spec.2.2.2.2
      · obtain ⟨_, _, _, ⟨c, hc, e⟩, _⟩ := lsp i s hs
        obtain ⟨_, _, _, ⟨d, hd, e'⟩, _⟩ := lsp (i + 1) u hu
        have := List.pairwise_iff_getElem.mp uc i (i + 1) (by have := (Array.getElem?_eq_some_iff.mp hc).1; rw [Array.length_toList]; exact this) (by have := (Array.getElem?_eq_some_iff.mp hd).1; rw [Array.length_toList]; exact this) (by omega)
        obtain ⟨_, rfl⟩ := Array.getElem?_eq_some_iff.mp hc
        obtain ⟨_, rfl⟩ := Array.getElem?_eq_some_iff.mp hd
        rw [e, e']
        exact of_decide_eq_true ((lt1 _ _).trans (decide_eq_true (by simpa using this)))
    · rw [List.length_map, lus, hn, lc]
      omega
theorem shape_leaf {H : Hp} {Q : VK} {E : XK} {b : Addr} (hb : Bag H b) (k : ∀ t ps es hk ls H', Kp b H H' → Shp K H' t ps es hk ls → Q (.ref t) H') : spShape K [.ref b] H Q E := ⟨b, rfl, hb, k⟩
theorem Shp.kp {H H' : Hp} {b t : Addr} {ps : List Str} {es : List Tie3} {hk : Str} {ls : List Ln3} (s : Shp K H t ps es hk ls) (e : SameT H H') : Shp K H' t ps es hk ls :=
  let ⟨tp, te, tl, h1, h2, h3, h4⟩ := s.at_; ⟨⟨tp, te, tl, e.sqt h1, e.sqt h2, h3.sameT e, h4.sameT e⟩, s.good, s.p4, s.h3, s.l4, s.r20⟩
end
end RK8


namespace RK8
open PySem PySem.Spec L2 RK RZ StX PyProof.Rows
/-! ### what pulls a part -/
section
variable {P : Program} {w : World} {K : PySem.W.Frag} {mg : Str → Option Value} {base : Heap} {a : Ad}
/-- what pulls a part: the strings with a distance to it -/
def pull (ps : List Str) (es : List Tie3) (q : Str) (s : Ln3) : Option (Str × Str × Int) := (dist ps es s.2.2 q).map fun x => (s.1, s.2.1, x)
def puV (t : Str × Str × Int) : List V := [.str t.1, .str t.2.1, .int t.2.2]
def spPulls (K : PySem.W.Frag) (C : Addr) : Sp := fun vs H Q _ => ∃ (p : Addr) (q : Str) (ps : List Str) (es : List Tie3) (hk : Str) (ls : List Ln3), vs = [.ref p, .str q] ∧ Pup K C H p ps es hk ls ∧ q ∈ ps ∧
  ∀ D ys H', Same H H' → H' D = some (.lst ys) → ys.length = (ls.filterMap (pull ps es q)).length → (∀ (i : Nat) (v : V) (u : Str × Str × Int), ys[i]? = some v → (ls.filterMap (pull ps es q))[i]? = some u → ∃ r, v = .ref r ∧ SqT K H' r (puV u)) → Q (.ref D) H'
theorem ok_Puppet_pulls (T : Txt K mg a) : FnOk P w K mg base CX0 2 a.f_Puppet_pulls a.d_Puppet_pulls ["self", "part"] (spPulls K a.C_Puppet) := by
  refine T.F_Puppet_pulls.ok sc_Puppet_pulls (fun vs H Q E h => ?_) (fun cdv A outer s H vs Q E hr h => ?_)
  · obtain ⟨p, q, ps, es, hk, ls, rfl, _⟩ := h
    rfl
  · obtain ⟨p, q, ps, es, hk, ls, rfl, r, mq, k⟩ := h
    have few := r.good.lns.few
    refine ⟨_, (pss_cons (ps_if (pt_not (pt_val (pe_call (ok_is_one_of T) (hr.mono (by decide)) (by rfl) T.m_is_one_of T.F_is_one_of.kp T.b_is_one_of .nil pass0 (pa_cons (pv 1) (pa_cons (pe_fld (pv 0) rfl) pa_nil))))) (pss_one ps_never) pss_nil)
      (pss_cons (ps_setLc (i := 2) (own := [("name", 3), ("hook", 4), ("end", 5)]) (g := gTup K 3 (gCons (gName 3) (gCons (gName 4) (gCons (gName 5) (gNil))))) (tt := tYes) rfl sc_Puppet_pulls.nd rfl rfl (sw_true rfl rfl rfl (by decide +kernel)) (pi_tup (pe_fld (pv 0) rfl)) (blkOk_by (own := [("name", 3), ("hook", 4), ("end", 5)]) (N := ["self", "part", "ways", "name", "hook", "end", "way"]) (sc := defScope s_Puppet_pulls) (by decide +kernel)) (fun _ _ _ _ _ => by exact pg_tup (n := 3) rfl (pgs_cons (pg_name (i := 3) sc_Puppet_pulls.nd rfl (Or.inl rfl)) (pgs_cons (pg_name (i := 4) sc_Puppet_pulls.nd rfl (Or.inl rfl)) (pgs_cons (pg_name (i := 5) sc_Puppet_pulls.nd rfl (Or.inl rfl)) pgs_nil)))) (fun _ _ _ _ _ => pts_nil) (fun _ _ _ _ _ => by exact (pe_tup (pa_cons (pv 3) (pa_cons (pv 4) (pa_cons (pe_dget1 (by exact hu_of hr) (show PE _ _ (tFld K _ _) from pe_fld (pv 0) (by rfl)) (pe_tup (pa_cons (pv 5) (pa_cons (pv 1) pa_nil))) ⟨by rfl, by rfl, by rfl, by rfl⟩) pa_nil))))))
      (pss_one (ps_ret (pe_lc (own := [("way", 6)]) (g := gName 6) rfl sc_Puppet_pulls.nd (pi_list (pv 2)) (blkOk_by (own := [("way", 6)]) (N := ["self", "part", "ways", "name", "hook", "end", "way"]) (sc := defScope s_Puppet_pulls) (by decide +kernel)) (fun _ _ _ _ _ => pg_name (i := 6) sc_Puppet_pulls.nd rfl (Or.inl rfl)) (fun _ _ _ _ _ => (pts_one (pt_cmpR op_notN (pe_ix (show IxR _ (rIxT K) from ix_tup) (pv 6) pe_int (fun _ _ => rfl)) pe_non (nomark _)))) (fun _ _ _ _ _ => by exact (pv 6))))))), ?_⟩
    walk_at "r"
    refine parts_leaf T r fun t ht => ?_
    walk_at "r"
    refine oneOf_leaf ht fun H1 e1 => ?_
    rw [decide_eq_true mq]
    refine ⟨true, rfl, iteF ?_⟩
    walk_at "r"
    refine strings_leaf T (r.same e1) fun l hl => ?_
    obtain ⟨as, hl1, ll, lrow⟩ := hl
    have ll2 : as.length = ls.length := by rw [ll, List.length_map]
    refine ⟨l, rfl, ⟨_, hl1⟩, cmS (walk_tup (xs := as.map V.ref)) (by rw [List.length_map]; omega) (fun G e => seqT_same e hl1) (fun i v G => ∃ s r, ls[i]? = some s ∧ v = .ref r ∧ SqT K G r [.str s.1, .str s.2.1, opt (dist ps es s.2.2 q)]) (fun i v G G' e ⟨s, r, h1, h2, h3⟩ => ⟨s, r, h1, h2, e.sqt h3⟩) (fun i x G G' hi e hy Q' kq => ?_) (fun D2 ys H2 n2 e2 h2 hn2 hP => ?_)⟩
    · obtain ⟨rfl, hx⟩ := hy
      obtain ⟨c, v, rfl, hv, hrr⟩ := rows_at ll lrow hx
      obtain ⟨s0, he, rfl⟩ := map_atL hv
      refine g_three (seqT_same e hrr) ⟨rfl, ?_⟩
      walk_at "r"
      refine dists_leaf T ((r.same e1).same e) fun D hD => ?_
      obtain ⟨kvs, q1, q2, q3⟩ := hD.ex
      refine ⟨D, rfl, isd_t q1, ?_⟩
      walk_at "r"
      refine w_newT (by show 2 ≤ 100000; decide) fun t3 G2 n3 e3 h3 => ?_
      refine get_leaf (e3 _ _ q1) q2 h3 ?_
      walk_at "r"
      exact w_newT (by show 3 ≤ 100000; decide) fun t4 G3 n4 e4 h4 => kq _ _ (e3.trans e4) ⟨s0, t4, he, rfl, SqT.of h4⟩
    rw [List.length_map, ll2] at hn2
    walk_at "r"
    refine ⟨D2, rfl, ⟨ys, .inl (.inl h2)⟩, cmF (walk_list (xs := ys)) (by omega) (fun G e => .inl (.inl (e _ _ h2))) ls hn2.symm (pull ps es q) (fun v u G => ∃ r, v = .ref r ∧ SqT K G r (puV u)) (fun v u G G' e ⟨r, h1, h3⟩ => ⟨r, h1, e.sqt h3⟩) (fun i x s G G' hi e hy Q' N kq kn => ?_) (fun D3 zs H3 n3 e3 h3 hn3 hR => ?_)⟩
    · obtain ⟨rfl, hx⟩ := hy
      obtain ⟨s0, c, h4, rfl, h5⟩ := hP i x hx
      obtain rfl : s = s0 := by rw [hi] at h4; cases h4; rfl
      walk_at "r"
      cases z : dist ps es s.2.2 q with
      | none =>
        rw [z] at h5
        refine ⟨rfl, ?_⟩
        walk_at "r"
        refine ⟨c, _, 2, .non, rfl, rfl, seqT_same e h5, rfl, ?_⟩
        walk_at "r"
        exact ⟨rfl, false, rfl, iteF (kn (by show (dist ps es s.2.2 q).map _ = none; rw [z]; rfl) _ (Same.refl _))⟩
      | some d =>
        rw [z] at h5
        refine ⟨rfl, ?_⟩
        walk_at "r"
        refine ⟨c, _, 2, .int d, rfl, rfl, seqT_same e h5, rfl, ?_⟩
        walk_at "r"
        refine ⟨rfl, true, rfl, iteT ?_⟩
        walk_at "r"
        exact kq _ (s.1, s.2.1, d) _ (by show (dist ps es s.2.2 q).map _ = _; rw [z]; rfl) (Same.refl _) ⟨c, rfl, seqT_same e h5⟩
    exact k D3 zs H3 ((e1.trans e2).trans e3) h3 hn3 hR
end
end RK8


namespace RK8
open PySem PySem.Spec L2 RK RZ StX PyProof.Rows
section
variable {P : Program} {w : World} {K : PySem.W.Frag} {mg : Str → Option Value} {base : Heap} {a : Ad}
theorem w_din {σ : L2.St} {H : Hp} {Q : VK} {td ty : TE} (h : ty σ H fun y H1 => td σ H1 fun x H2 => ∃ a o, x = .ref a ∧ DGet H2 a y o ∧ Q (.bl o.isSome) H2) : tDIn ty td σ H Q := h
theorem w_dnin {σ : L2.St} {H : Hp} {Q : VK} {td ty : TE} (h : ty σ H fun y H1 => td σ H1 fun x H2 => ∃ a o, x = .ref a ∧ DGet H2 a y o ∧ Q (.bl (!o.isSome)) H2) : tDNotIn ty td σ H Q := h
local macro_rules | `(tactic| walk_at "s") => `(tactic| first | with_reducible refine w_din ?_ | with_reducible refine w_dnin ?_)
theorem cr_lenD {X : Cx} : CallR X (.builtin "len") (fun xs H Q => ∃ (a : Addr) (kvs : List (Key × V)), xs = [.ref a] ∧ H a = some (.dK kvs) ∧ Q (.int (kvs.length : Nat)) H) := by
  intro pins s σ H xs us Q I r h
  obtain ⟨a, kvs, rfl, e, q⟩ := h
  obtain ⟨u, eu, rx⟩ := vals1 r
  subst eu
  obtain rfl : u = Value.ref a := rx
  exact d_len I (.inl e) fun t s' I' => ⟨.int _, H, I', ⟨t, rfl⟩, q⟩
/-! ### dicts from texts to heights, told in sixths -/
/-- an int or a Ratio whose value is z sixths -/
def F6 (C : Addr) (H : Hp) (v : V) (z : Int) : Prop := ∃ t b, Frn C H v t b ∧ Nrm z 6 t b
theorem F6.same {C : Addr} {H H' : Hp} {v : V} {z : Int} (h : F6 C H v z) (e : Same H H') : F6 C H' v z := by
  obtain ⟨t, b, f, n⟩ := h
  rcases f with f | ⟨p, rfl, r⟩
  · exact ⟨t, b, .inl f, n⟩
  · exact ⟨t, b, .inr ⟨p, rfl, r.same e⟩, n⟩
theorem F6.sameT {C : Addr} {H H' : Hp} {v : V} {z : Int} (h : F6 C H v z) (e : SameT H H') : F6 C H' v z := by
  obtain ⟨t, b, f, n⟩ := h
  rcases f with f | ⟨p, rfl, r⟩
  · exact ⟨t, b, .inl f, n⟩
  · exact ⟨t, b, .inr ⟨p, rfl, r.sameT e⟩, n⟩
/-- at D a dict whose keys are ks, in their order, with heights f -/
def Fd (C : Addr) (H : Hp) (D : Addr) (ks : List Str) (f : Str → Int) : Prop := ∃ kvs : List (Key × V), H D = some (.dK kvs) ∧ kvs.map Prod.fst = ks.map Sum.inr ∧ ∀ s ∈ ks, ∃ v, valV kvs (.inr s) = some v ∧ F6 C H v (f s)
theorem Fd.same {C : Addr} {H H' : Hp} {D : Addr} {ks : List Str} {f : Str → Int} (h : Fd C H D ks f) (e : Same H H') : Fd C H' D ks f := let ⟨kvs, h1, h2, h3⟩ := h; ⟨kvs, e _ _ h1, h2, fun s m => let ⟨v, a, b⟩ := h3 s m; ⟨v, a, b.same e⟩⟩
theorem Fd.kp {C : Addr} {H H' : Hp} {D : Addr} {ks : List Str} {f : Str → Int} (h : Fd C H D ks f) (e : SameT H H') : Fd C H' D ks f := let ⟨kvs, h1, h2, h3⟩ := h; ⟨kvs, e _ _ h1 (fun _ z => by cases z), h2, fun s m => let ⟨v, a, b⟩ := h3 s m; ⟨v, a, b.sameT e⟩⟩
theorem Fd.len {C : Addr} {H : Hp} {D : Addr} {ks : List Str} {f : Str → Int} (h : Fd C H D ks f) : ∃ kvs : List (Key × V), H D = some (.dK kvs) ∧ kvs.length = ks.length := let ⟨kvs, h1, h2, _⟩ := h; ⟨kvs, h1, by have := congrArg List.length h2; rw [List.length_map, List.length_map] at this; exact this⟩
/-- the letters of a text -/
def sgs (s : Str) : List Str := s.cps.toList.map sg
def spHasJust : Sp := fun vs H Q _ => ∃ (D : Addr) (nm : Str) (kvs : List (Key × V)), vs = [.ref D, .str nm] ∧ H D = some (.dK kvs) ∧ kvs.length = nm.cps.size ∧ nm.cps.size ≤ 20 ∧ (∀ c ∈ nm.cps.toList, (valV kvs (.inr (sg c))).isSome = true) ∧ ∀ H', Same H H' → Q (.bl true) H'
theorem ok_has_just (T : Txt K mg a) : FnOk P w K mg base CX0 1 a.f_has_just a.d_has_just ["value", "names"] spHasJust := by
  refine T.F_has_just.ok sc_has_just (fun vs H Q E h => ?_) (fun cdv A outer s H vs Q E hr h => ?_)
  · obtain ⟨D, nm, kvs, rfl, _⟩ := h
    rfl
  · obtain ⟨D, nm, kvs, rfl, hD, hl, h20, hin, k⟩ := h
    refine ⟨_, (pss_one (ps_ret (pe_and (pe_callB call_isi (by rfl) T.z_isinstance (by decide +kernel) (pa_cons (pv 0) (pa_cons (pe_bltn (v := .ty "dict") (by rfl) T.z_dict (by decide +kernel) rfl) pa_nil))) (pe_and (pe_cmpR op_eq (pe_callB cr_lenD (by rfl) T.z_len PySem.boot_len (pa_cons (pv 0) pa_nil)) (pe_callB cr_len (by rfl) T.z_len PySem.boot_len (pa_cons (pv 1) pa_nil)) (nomark _)) (pe_one (pe_callB (cr_all rfl) (by rfl) T.z_all (by decide +kernel) (pa_cons (pe_lc (own := [("name", 2)]) (g := gName 2) (tt := tYes) rfl sc_has_just.nd (pi_str (pv 1)) (blkOk_by (own := [("name", 2)]) (N := ["value", "names", "name"]) (sc := defScope s_has_just) (by decide +kernel)) (fun _ _ _ _ _ => pg_name (i := 2) sc_has_just.nd rfl (Or.inl rfl)) (fun _ _ _ _ _ => pts_nil) (fun _ _ _ _ _ => by exact (pe_cmp (pc_din (hu_of hr) (pv 2) (pv 0))))) pa_nil))))))), ?_⟩
    walk_at "r"
    refine ⟨_, .ty "dict", .type "dict", .type "dict", true, rfl, .ty _, .base (.dK hD), kit_ty (by decide +kernel), true, rfl, iteT ?_⟩
    walk_at "r"
    refine ⟨D, kvs, rfl, hD, ?_⟩
    walk_at "r"
    refine w_lenS (by omega) ?_
    walk_at "r"
    rw [hl, decide_eq_true rfl]
    refine iteT ?_
    walk_at "r"
    refine ⟨nm, rfl, cmS walk_str (by omega) (fun _ _ => trivial) (fun _ v _ => v = .bl true) (fun _ _ _ _ _ h => h) (fun i x G G' hi e hy Q' kq => ?_) (fun L ys H1 n1 e1 h1 hn hP => ?_)⟩
    · obtain ⟨rfl, c, hc, rfl⟩ := hy
      refine ⟨rfl, ?_⟩
      walk_at "r"
      refine ⟨D, _, rfl, DGet.k (k := Sum.inr (sg c)) (e _ _ hD), ?_⟩
      rw [hin c (Array.mem_toList_iff.mpr (Array.mem_of_getElem? hc))]
      exact kq _ _ (w_same _) rfl
    walk_at "r"
    exact all_P h1 hP (k _ e1)
def spLen (C : Addr) : Sp := fun vs H Q _ => ∃ x t b, vs = [x] ∧ Frn C H x t b ∧ 0 ≤ t ∧ ∀ H', Same H H' → Q (.bl true) H'
theorem ok_is_length (T : Txt K mg a) : FnOk P w K mg base CX0 5 a.f_is_length a.d_is_length ["value"] (spLen a.C_Ratio) := by
  refine T.F_is_length.ok sc_is_length (fun vs H Q E h => ?_) (fun cdv A outer s H vs Q E hr h => ?_)
  · obtain ⟨x, t, b, rfl, _⟩ := h
    rfl
  · obtain ⟨x, t, b, rfl, f, h0, k⟩ := h
    refine ⟨_, (pss_one (ps_ret (pe_and (pe_call (ok_is_fraction T) (hr.mono (by decide)) (by rfl) T.m_is_fraction T.F_is_fraction.kp T.b_is_fraction .nil pass0 (pa_cons (pv 0) pa_nil)) (pe_one (pe_cmpR op_ge (pe_fld (pe_call (ok_as_ratio T) (hr.mono (by decide)) (by rfl) T.m_as_ratio T.F_as_ratio.kp T.b_as_ratio .nil pass0 (pa_cons (pv 0) pa_nil)) rfl) pe_int (nomark _)))))), ?_⟩
    walk_at "r"
    refine frac_leaf f ?_
    refine ⟨true, rfl, iteT ?_⟩
    walk_at "r"
    refine as_leaf f fun p H1 e1 r1 => ?_
    walk_at "r"
    refine top_leaf T r1 ?_
    walk_at "r"
    have k1 := k H1 e1
    exact (by simpa [h0] using k1)
/-- the dict tells of just the letters of the text -/
theorem Fd.just {C : Addr} {H : Hp} {D : Addr} {ks : List Str} {f : Str → Int} {nm : Str} (h : Fd C H D ks f) (p : ks.Perm (sgs nm)) : ∃ kvs : List (Key × V), H D = some (.dK kvs) ∧ kvs.length = nm.cps.size ∧ ∀ c ∈ nm.cps.toList, ∃ v, valV kvs (.inr (sg c)) = some v ∧ F6 C H v (f (sg c)) := by
  obtain ⟨kvs, h1, h2, h3⟩ := h
  refine ⟨kvs, h1, ?_, fun c hc => h3 _ (p.mem_iff.mpr (List.mem_map.mpr ⟨c, hc, rfl⟩))⟩
  have := congrArg List.length h2
  rw [List.length_map, List.length_map, p.length_eq] at this
  rw [this]
  unfold sgs
  rw [List.length_map, Array.length_toList]
theorem F6.nonneg {C : Addr} {H : Hp} {v : V} {z : Int} (h : F6 C H v z) (h0 : 0 ≤ z) : ∃ t b, Frn C H v t b ∧ 0 ≤ t := by
  obtain ⟨t, b, f, n⟩ := h
  refine ⟨t, b, f, ?_⟩
  have e := n.eq
  have := n.pos
  have hz : 0 ≤ z * b := Int.mul_nonneg h0 (Int.le_of_lt n.pos)
  omega
def spHeights0 (K : PySem.W.Frag) (C : Addr) : Sp := fun vs H Q _ => ∃ (D : Addr) (nm : Str) (ks : List Str) (f : Str → Int), vs = [.ref D, .str nm] ∧ Fd C H D ks f ∧ ks.Perm (sgs nm) ∧ nm.cps.size ≤ 20 ∧ ∀ H', Same H H' → Q (.bl true) H'
theorem ok_are_heights (T : Txt K mg a) : FnOk P w K mg base CX0 5 a.f_are_heights a.d_are_heights ["value", "hooks"] (spHeights0 K a.C_Ratio) := by
  refine T.F_are_heights.ok sc_are_heights (fun vs H Q E h => ?_) (fun cdv A outer s H vs Q E hr h => ?_)
  · obtain ⟨D, nm, ks, f, rfl, _⟩ := h
    rfl
  · obtain ⟨D, nm, ks, f, rfl, fd, pm, h20, k⟩ := h
    obtain ⟨kvs, hD, hl, hv⟩ := fd.just pm
    refine ⟨_, (pss_one (ps_ret (pe_and (pe_call (ok_has_just T) (hr.mono (by decide)) (by rfl) T.m_has_just T.F_has_just.kp T.b_has_just .nil pass0 (pa_cons (pv 0) (pa_cons (pv 1) pa_nil))) (pe_one (pe_callB (cr_all rfl) (by rfl) T.z_all (by decide +kernel) (pa_cons (pe_lc (own := [("hook", 2)]) (g := gName 2) (tt := tYes) rfl sc_are_heights.nd (pi_str (pv 1)) (blkOk_by (own := [("hook", 2)]) (N := ["value", "hooks", "hook"]) (sc := defScope s_are_heights) (by decide +kernel)) (fun _ _ _ _ _ => pg_name (i := 2) sc_are_heights.nd rfl (Or.inl rfl)) (fun _ _ _ _ _ => pts_nil) (fun _ _ _ _ _ => by exact (pe_call (ok_is_fraction T) (hr.mono (by decide)) (by rfl) T.m_is_fraction T.F_is_fraction.kp T.b_is_fraction .nil pass0 (pa_cons (pe_dget (hu_of hr) (pv 0) (pv 2) (fun _ _ => rfl)) pa_nil)))) pa_nil)))))), ?_⟩
    walk_at "r"
    refine ⟨D, nm, kvs, rfl, hD, hl, h20, fun c hc => (by obtain ⟨v, e, _⟩ := hv c hc; rw [e]; rfl), fun H1 e1 => ?_⟩
    refine ⟨true, rfl, iteT ?_⟩
    walk_at "r"
    refine ⟨nm, rfl, cmS walk_str (by omega) (fun _ _ => trivial) (fun _ v _ => v = .bl true) (fun _ _ _ _ _ h => h) (fun i x G G' hi e hy Q' kq => ?_) (fun L ys H2 n2 e2 h2 hn hP => ?_)⟩
    · obtain ⟨rfl, c, hc, rfl⟩ := hy
      obtain ⟨v, hv1, f6⟩ := hv c (Array.mem_toList_iff.mpr (Array.mem_of_getElem? hc))
      refine ⟨rfl, ?_⟩
      walk_at "r"
      refine ⟨D, v, rfl, by rw [← hv1]; exact DGet.k (k := Sum.inr (sg c)) ((e1.trans e) _ _ hD), ?_⟩
      walk_at "r"
      obtain ⟨t, b, fr, _⟩ := f6.same (e1.trans e)
      exact frac_leaf fr (kq _ _ (w_same _) rfl)
    walk_at "r"
    exact all_P h2 hP (k _ (e1.trans e2))
def spLens (K : PySem.W.Frag) (C : Addr) : Sp := fun vs H Q _ => ∃ (D : Addr) (nm : Str) (ks : List Str) (f : Str → Int), vs = [.ref D, .str nm] ∧ Fd C H D ks f ∧ ks.Perm (sgs nm) ∧ (∀ s ∈ ks, 0 ≤ f s) ∧ nm.cps.size ≤ 20 ∧ ∀ H', Same H H' → Q (.bl true) H'
theorem ok_are_lengths (T : Txt K mg a) : FnOk P w K mg base CX0 7 a.f_are_lengths a.d_are_lengths ["value", "names"] (spLens K a.C_Ratio) := by
  refine T.F_are_lengths.ok sc_are_lengths (fun vs H Q E h => ?_) (fun cdv A outer s H vs Q E hr h => ?_)
  · obtain ⟨D, nm, ks, f, rfl, _⟩ := h
    rfl
  · obtain ⟨D, nm, ks, f, rfl, fd, pm, h0, h20, k⟩ := h
    obtain ⟨kvs, hD, hl, hv⟩ := fd.just pm
    refine ⟨_, (pss_one (ps_ret (pe_and (pe_call (ok_has_just T) (hr.mono (by decide)) (by rfl) T.m_has_just T.F_has_just.kp T.b_has_just .nil pass0 (pa_cons (pv 0) (pa_cons (pv 1) pa_nil))) (pe_one (pe_callB (cr_all rfl) (by rfl) T.z_all (by decide +kernel) (pa_cons (pe_lc (own := [("name", 2)]) (g := gName 2) (tt := tYes) rfl sc_are_lengths.nd (pi_str (pv 1)) (blkOk_by (own := [("name", 2)]) (N := ["value", "names", "name"]) (sc := defScope s_are_lengths) (by decide +kernel)) (fun _ _ _ _ _ => pg_name (i := 2) sc_are_lengths.nd rfl (Or.inl rfl)) (fun _ _ _ _ _ => pts_nil) (fun _ _ _ _ _ => by exact (pe_call (ok_is_length T) (hr.mono (by decide)) (by rfl) T.m_is_length T.F_is_length.kp T.b_is_length .nil pass0 (pa_cons (pe_dget (hu_of hr) (pv 0) (pv 2) (fun _ _ => rfl)) pa_nil)))) pa_nil)))))), ?_⟩
    walk_at "r"
    refine ⟨D, nm, kvs, rfl, hD, hl, h20, fun c hc => (by obtain ⟨v, e, _⟩ := hv c hc; rw [e]; rfl), fun H1 e1 => ?_⟩
    refine ⟨true, rfl, iteT ?_⟩
    walk_at "r"
    refine ⟨nm, rfl, cmS walk_str (by omega) (fun _ _ => trivial) (fun _ v _ => v = .bl true) (fun _ _ _ _ _ h => h) (fun i x G G' hi e hy Q' kq => ?_) (fun L ys H2 n2 e2 h2 hn hP => ?_)⟩
    · obtain ⟨rfl, c, hc, rfl⟩ := hy
      have mc : c ∈ nm.cps.toList := Array.mem_toList_iff.mpr (Array.mem_of_getElem? hc)
      obtain ⟨v, hv1, f6⟩ := hv c mc
      refine ⟨rfl, ?_⟩
      walk_at "r"
      refine ⟨D, v, rfl, by rw [← hv1]; exact DGet.k (k := Sum.inr (sg c)) ((e1.trans e) _ _ hD), ?_⟩
      walk_at "r"
      obtain ⟨t, b, fr, ht⟩ := (f6.same (e1.trans e)).nonneg (h0 _ (pm.mem_iff.mpr (List.mem_map.mpr ⟨c, mc, rfl⟩)))
      exact ⟨v, t, b, rfl, fr, ht, fun G2 g2 => kq _ _ g2 rfl⟩
    walk_at "r"
    exact all_P h2 hP (k _ (e1.trans e2))
end
end RK8


namespace RK8
open PySem PySem.Spec L2 RK RZ StX PyProof.Rows
section
variable {P : Program} {w : World} {K : PySem.W.Frag} {mg : Str → Option Value} {base : Heap} {a : Ad}
/-! ### differences of heights -/
theorem oSubqi {X : Cx} (T : Txt X.K X.mg a) (hr : Room 6 X.A) : OpR X (binaryOp .Sub) (rOwnI a.C_Ratio (spSub a.C_Ratio) E0) := by
  obtain ⟨_, h1⟩ := T.iSub
  obtain ⟨_, h2⟩ := T.iRsub
  exact op_ownI T.sf T.me_Ratio_sub.at_ T.me_Ratio_sub.fn T.me_Ratio_rsub.at_ (.inr ⟨_, rfl⟩) h1 h2 T.sIR (ok_Ratio_sub T) hr T.b_Ratio_sub pass0
theorem oSubiq {X : Cx} (T : Txt X.K X.mg a) (hr : Room 7 X.A) : OpR X (binaryOp .Sub) (rIOwn a.C_Ratio (spRsub a.C_Ratio) E0) :=
  op_Iown T.sf T.me_Ratio_sub.at_ T.me_Ratio_rsub.at_ T.me_Ratio_rsub.fn T.sRI PySem.F.fills_int_sub PySem.F.slot_int_sub PySem.F.entry_int_sub PySem.F.args_int_sub_2 (fun i t x => PySem.RkX.dec_sub i t) (ok_Ratio_rsub T) hr T.b_Ratio_rsub pass0
theorem ownI_leaf {C : Addr} {H : Hp} {Q : VK} {p : Addr} {t b n : Int} {f g : Int → Int → Int → Int → Int} (r : Rat C H p t b) (z1 : Sz 1000 t) (z2 : Sz 1000 b) (z3 : Sz 1000 n)
    (k : ∀ q H' u l, Same H H' → Rat C H' q u l → Nrm (f t b n 1) (g t b n 1) u l → Q (.ref q) H') : rOwnI C (spBin C f g) E0 (.ref p) (.int n) H Q := by
  obtain ⟨dx, h1⟩ := r.ob
  exact ⟨p, dx, _, n, rfl, rfl, h1, p, .int n, t, b, n, 1, rfl, r, .inl ⟨rfl, rfl⟩, z1, z2, z3, Sz.one, k⟩
theorem Iown_leaf {C : Addr} {H : Hp} {Q : VK} {p : Addr} {t b n : Int} {f g : Int → Int → Int → Int → Int} (r : Rat C H p t b) (z1 : Sz 1000 t) (z2 : Sz 1000 b) (z3 : Sz 1000 n)
    (k : ∀ q H' u l, Same H H' → Rat C H' q u l → Nrm (f t b n 1) (g t b n 1) u l → Q (.ref q) H') : rIOwn C (spBin C f g) E0 (.int n) (.ref p) H Q := by
  obtain ⟨dx, h1⟩ := r.ob
  exact ⟨p, dx, _, n, rfl, rfl, h1, p, .int n, t, b, n, 1, rfl, r, .inl ⟨rfl, rfl⟩, z1, z2, z3, Sz.one, k⟩
theorem Nrm.to_ {u l u' l' x y : Int} (n : Nrm u l x y) (h : u * l' = u' * l) (hl : l ≠ 0) : Nrm u' l' x y :=
  ⟨n.pos, n.cop, Int.eq_of_mul_eq_mul_right hl (by have := n.eq; grind)⟩

theorem sz6 {z t b : Int} (n : Nrm z 6 t b) (hz : z.natAbs < 10 ^ 15) : Sz 1000 t ∧ Sz 1000 b := by
  obtain ⟨h1, h2⟩ := n.le (by decide)
  exact ⟨Sz.mono (k := 60) (Nat.lt_of_le_of_lt h2 (Nat.lt_trans hz (by decide))) (by decide), Sz.small (Nat.lt_of_le_of_lt h1 (by decide))⟩
theorem nrm_int {z : Int} {t b : Int} (n : Nrm z 6 t b) (hb : b = 1) : z = 6 * t := by
  have := n.eq
  subst hb
  omega
/-- z - y, of ints and Ratios -/
theorem sub6_leaf {C : Addr} {H : Hp} {Q : VK} {v u : V} {z y : Int} (h1 : F6 C H v z) (h2 : F6 C H u y) (b1 : z.natAbs < 10 ^ 15) (b2 : y.natAbs < 10 ^ 15) (k : ∀ v' H', Same H H' → F6 C H' v' (z - y) → Q v' H') :
    rI0 (fun i j => V.int (i - j)) v u H Q ∨ rOwn2 C (spSub C) E0 v u H Q ∨ rOwnI C (spSub C) E0 v u H Q ∨ rIOwn C (spRsub C) E0 v u H Q := by
  obtain ⟨t, b, f, n⟩ := h1
  obtain ⟨t2, b2', f2, n2⟩ := h2
  obtain ⟨s1, s2⟩ := sz6 n b1
  obtain ⟨s3, s4⟩ := sz6 n2 b2
  have e1 := n.eq
  have e2 := n2.eq
  rcases f with ⟨rfl, hb⟩ | ⟨p, rfl, r⟩ <;> rcases f2 with ⟨rfl, hb2⟩ | ⟨q, rfl, r2⟩
  · refine .inl ⟨t, t2, rfl, rfl, k _ _ (w_same _) ⟨t - t2, 1, .inl ⟨rfl, rfl⟩, ⟨by decide, Int.gcd_one_right _, ?_⟩⟩⟩
    have := nrm_int n hb
    have := nrm_int n2 hb2
    omega
  · refine .inr (.inr (.inr (Iown_leaf r2 s3 s4 s1 fun q' H' u' l' e r' n' => ?_)))
    subst hb
    refine k _ _ e ⟨u', l', .inr ⟨q', rfl, r'⟩, Nrm.to_ n' ?_ (by have := n2.pos; have := Int.mul_pos (show (0:Int) < 1 by decide) this; omega)⟩
    grind
  · refine .inr (.inr (.inl (ownI_leaf r s1 s2 s3 fun q' H' u' l' e r' n' => ?_)))
    subst hb2
    refine k _ _ e ⟨u', l', .inr ⟨q', rfl, r'⟩, Nrm.to_ n' ?_ (by have := n.pos; have := Int.mul_pos this (show (0:Int) < 1 by decide); omega)⟩
    grind
  · refine .inr (.inl (own2_leaf r r2 s1 s2 s3 s4 fun q' H' u' l' e r' n' => ?_))
    refine k _ _ e ⟨u', l', .inr ⟨q', rfl, r'⟩, Nrm.to_ n' ?_ (by have := Int.mul_pos n.pos n2.pos; omega)⟩
    grind
/-! ### what a puppet is told -/
theorem names_leaf (T : Txt K mg a) {H : Hp} {Q : VK} {p : Addr} {ps : List Str} {es : List Tie3} {hk : Str} {ls : List Ln3} (r : Pup K a.C_Puppet H p ps es hk ls) (k : Q (.str (nmsL ls)) H) : Fl K "names" (.ref p) H Q := by
  obtain ⟨dx, t, u, l, D, h1, h2, h3, h4, h5⟩ := r.ob
  exact ⟨p, _, dx, _, _, rfl, h1, T.cl_Puppet, T.n_names, (pfs_look ..).2.2.2.2.1, k⟩
/-- what the puppet is told: heights f of its hooks, lengths g of its strings -/
structure Told (C : Addr) (H : Hp) (Dh Dl : Addr) (hk : Str) (ls : List Ln3) (f g : Str → Int) : Prop where
  hooks : ∃ ks, Fd C H Dh ks f ∧ ks.Perm (sgs hk)
  lens : ∃ ks, Fd C H Dl ks g ∧ ks.Perm (sgs (nmsL ls))
  pos : ∀ s, 0 ≤ g s
  f9 : ∀ s, (f s).natAbs < 10 ^ 9
  g9 : ∀ s, (g s).natAbs < 10 ^ 9
theorem Told.same {C : Addr} {H H' : Hp} {Dh Dl : Addr} {hk : Str} {ls : List Ln3} {f g : Str → Int} (t : Told C H Dh Dl hk ls f g) (e : Same H H') : Told C H' Dh Dl hk ls f g :=
  let ⟨k1, a1, a2⟩ := t.hooks; let ⟨k2, b1, b2⟩ := t.lens; ⟨⟨k1, a1.same e, a2⟩, ⟨k2, b1.same e, b2⟩, t.pos, t.f9, t.g9⟩
theorem nms_tl : ∀ ls : List Ln3, (∀ s ∈ ls, ∃ c, Sgn 97 122 s.1 c) → sgs (nmsL ls) = ls.map fun s => s.1 := fun ls h => by
  unfold sgs nmsL
  have e : (Txt.join "" (ls.map fun s => s.1)).cps.toList = ((ls.map fun s => s.1).map TL.tl).flatten := join_tl _
  rw [e]
  clear e
  induction ls with
  | nil => rfl
  | cons s r ih =>
    obtain ⟨c, hc, _⟩ := h s List.mem_cons_self
    rw [List.map_cons, List.map_cons, List.flatten_cons, List.map_append, ih fun u m => h u (List.mem_cons_of_mem _ m), hc]
    rfl
theorem nms_size {ls : List Ln3} (h : ∀ s ∈ ls, ∃ c, Sgn 97 122 s.1 c) : (nmsL ls).cps.size = ls.length := by
  have := congrArg List.length (nms_tl ls h)
  unfold sgs at this
  rw [List.length_map, List.length_map, Array.length_toList] at this
  exact this
def spToldP (K : PySem.W.Frag) (C R : Addr) : Sp := fun vs H Q _ => ∃ (p Dh Dl : Addr) (ps : List Str) (es : List Tie3) (hk : Str) (ls : List Ln3) (f g : Str → Int), vs = [.ref p, .ref Dh, .ref Dl] ∧ Pup K C H p ps es hk ls ∧ Told R H Dh Dl hk ls f g ∧ ∀ H', Same H H' → Q .non H'
theorem ok_Puppet_check_told (T : Txt K mg a) : FnOk P w K mg base CX0 8 a.f_Puppet_check_told a.d_Puppet_check_told ["self", "hooks", "lengths"] (spToldP K a.C_Puppet a.C_Ratio) := by
  refine T.F_Puppet_check_told.ok sc_Puppet_check_told (fun vs H Q E h => ?_) (fun cdv A outer s H vs Q E hr h => ?_)
  · obtain ⟨p, Dh, Dl, ps, es, hk, ls, f, g, rfl, _⟩ := h
    rfl
  · obtain ⟨p, Dh, Dl, ps, es, hk, ls, f, g, rfl, r, t, k⟩ := h
    obtain ⟨k1, a1, a2⟩ := t.hooks
    obtain ⟨k2, b1, b2⟩ := t.lens
    refine ⟨_, (pss_cons (ps_if (pt_not (pt_val (pe_call (ok_are_heights T) (hr.mono (by decide)) (by rfl) T.m_are_heights T.F_are_heights.kp T.b_are_heights .nil pass0 (pa_cons (pv 1) (pa_cons (pe_fld (pv 0) rfl) pa_nil))))) (pss_one ps_never) pss_nil)
      (pss_one (ps_if (pt_not (pt_val (pe_call (ok_are_lengths T) (hr.mono (by decide)) (by rfl) T.m_are_lengths T.F_are_lengths.kp T.b_are_lengths .nil pass0 (pa_cons (pv 2) (pa_cons (pe_fld (pv 0) rfl) pa_nil))))) (pss_one ps_never) pss_nil))), ?_⟩
    walk_at "r"
    refine hooks_leaf T r ?_
    walk_at "r"
    refine ⟨Dh, hk, k1, f, rfl, a1, a2, by have := r.good.caps.few; omega, fun H1 e1 => ?_⟩
    refine ⟨true, rfl, iteF ?_⟩
    walk_at "r"
    refine names_leaf T (r.same e1) ?_
    walk_at "r"
    refine ⟨Dl, nmsL ls, k2, g, rfl, b1.same e1, b2, fun s _ => t.pos s, by have := nms_size r.good.lns.let_; have := r.good.lns.few; omega, fun H2 e2 => ?_⟩
    refine ⟨true, rfl, iteF ?_⟩
    walk_at "r"
    exact k _ (e1.trans e2)
/-! ### the greatest of some Ratios -/
theorem cmp6 {z y t b t2 b2 : Int} (n : Nrm z 6 t b) (n2 : Nrm y 6 t2 b2) : t2 * b < t * b2 ↔ y < z := by
  have e1 := n.eq
  have e2 := n2.eq
  have P := Int.mul_pos n.pos n2.pos
  have h1 : (t * b2) * 6 = z * (b * b2) := by grind
  have h2 : (t2 * b) * 6 = y * (b * b2) := by grind
  constructor
  · intro h
    exact Int.lt_of_mul_lt_mul_right (a := b * b2) (by omega) (Int.le_of_lt P)
  · intro h
    have := Int.mul_lt_mul_of_pos_right h P
    omega
theorem cut1 (x : V) (r : List V) : cutV (x :: r) (some 1) none = r := by
  unfold cutV
  rw [show (some (1 : Int)) = some ((1 : Nat) : Int) from rfl, HT.sIx_nat, HT.sIx_none, List.length_cons, Nat.min_eq_left (by omega)]
  show (r.take (r.length + 1 - 1)) = r
  rw [Nat.add_sub_cancel, List.take_length]
def Hts (C : Addr) (H : Hp) (as : List Addr) (zs : List Int) : Prop := as.length = zs.length ∧ ∀ (i : Nat) (q : Addr) (z : Int), as[i]? = some q → zs[i]? = some z → ∃ t b, Rat C H q t b ∧ Nrm z 6 t b
def spGreat (C : Addr) : Sp := fun vs H Q _ => ∃ (L : Addr) (as : List Addr) (z0 : Int) (zs : List Int), vs = [.ref L] ∧ H L = some (.lst (as.map V.ref)) ∧ Hts C H as (z0 :: zs) ∧ zs.length ≤ 50 ∧ (∀ z ∈ z0 :: zs, z.natAbs < 10 ^ 15) ∧
  ∀ q H' t b, Same H H' → Rat C H' q t b → Nrm (zs.foldl max z0) 6 t b → Q (.ref q) H'
theorem ok_greatest_of (T : Txt K mg a) : FnOk P w K mg base CX0 6 a.f_greatest_of a.d_greatest_of ["ratios"] (spGreat a.C_Ratio) := by
  refine T.F_greatest_of.ok sc_greatest_of (fun vs H Q E h => ?_) (fun cdv A outer s H vs Q E hr h => ?_)
  · obtain ⟨L, as, z0, zs, rfl, _⟩ := h
    rfl
  · obtain ⟨L, as, z0, zs, rfl, hL, hts, l50, bd, k⟩ := h
    refine ⟨_, (pss_cons (ps_set (i := 1) sc_greatest_of.nd rfl (Or.inl rfl) (pe_ix ix_list (pv 0) pe_int (fun _ _ => rfl)))
      (pss_cons (ps_for PassesOwn.never rfl (pi_list (pe_slice sl_list (pv 0) (po_some pe_int) po_none)) (pg_name (i := 2) sc_greatest_of.nd rfl (Or.inl rfl)) (pss_one (ps_if (pt_cmpR op_gt (pe_meth (pv 2) T.cl_Ratio T.me_Ratio_compared (ok_Ratio_compared T) (hr.mono (by decide)) T.b_Ratio_compared .nil pass0 (pa_cons (pv 1) pa_nil)) pe_int (nomark _)) (pss_one (ps_set (i := 1) sc_greatest_of.nd rfl (Or.inl rfl) (pv 2))) pss_nil)))
      (pss_one (ps_ret (pv 1))))), ?_⟩
    obtain ⟨q0, rs, rfl⟩ : ∃ q0 rs, as = q0 :: rs := by
      cases as with
      | nil => have := hts.1; simp at this
      | cons q0 rs => exact ⟨q0, rs, rfl⟩
    have lr : rs.length = zs.length := by have := hts.1; simpa using this
    obtain ⟨t0, b0, r0, n0⟩ := hts.2 0 q0 z0 rfl rfl
    have hrs : ∀ (i : Nat) (q : Addr) (z : Int), rs[i]? = some q → zs[i]? = some z → ∃ t b, Rat a.C_Ratio H q t b ∧ Nrm z 6 t b := fun i q z h1 h2 => hts.2 (i + 1) q z h1 h2
    walk_at "r"
    refine ⟨L, _, 0, .ref q0, rfl, rfl, .inl (.inl hL), at_of (j := 0) rfl rfl, ?_⟩
    walk_at "r"
    refine ⟨L, _, rfl, .inl (.inl hL), fun M nM => ?_⟩
    rw [show cutV ((q0 :: rs).map V.ref) (some 1) none = rs.map V.ref from cut1 _ _]
    have e1 := w_new (o := .lst (rs.map V.ref)) nM
    refine ⟨M, rfl, ⟨_, .inl (.inl upd_same)⟩, for_leaf (walk_list (xs := rs.map V.ref)) (fun i σ' G => Same (upd H M (.lst (rs.map V.ref))) G ∧ ∃ q t b v2, σ' = [some (.ref L), some (.ref q), v2] ∧ Rat a.C_Ratio G q t b ∧ Nrm ((zs.take i).foldl max z0) 6 t b) ⟨w_same _, q0, t0, b0, _, rfl, r0.same e1, n0⟩ (fun i σ' G _ ⟨e, _⟩ => .inl (.inl (e _ _ upd_same))) ?_ ?_⟩
    · rintro i x σ' G G' hi ⟨e, q, t, b, v2, rfl, rq, nq⟩ ⟨rfl, hx⟩
      obtain ⟨q2, hq2, rfl⟩ := map_at hx
      have hi2 : i < zs.length := by rw [List.length_map] at hi; omega
      have hz := List.getElem?_eq_getElem hi2
      obtain ⟨t2, b2, r2, n2⟩ := hrs i q2 _ hq2 hz
      have r2' := r2.same (e1.trans e)
      have mb : ((zs.take i).foldl max z0).natAbs < 10 ^ 15 := by
        have : ∀ (l : List Int) (m : Int), m.natAbs < 10 ^ 15 → (∀ z ∈ l, z.natAbs < 10 ^ 15) → (l.foldl max m).natAbs < 10 ^ 15 := fun l => by
          induction l with
          | nil => exact fun m h _ => h
          | cons y l ih => exact fun m h hl => ih _ (by have := hl y List.mem_cons_self; show (max m y).natAbs < _; omega) fun z hz => hl z (List.mem_cons_of_mem _ hz)
        exact this _ _ (bd _ List.mem_cons_self) fun z hz => bd z (List.mem_cons_of_mem _ (List.mem_of_mem_take hz))
      obtain ⟨s1, s2⟩ := sz6 nq mb
      obtain ⟨s3, s4⟩ := sz6 n2 (bd _ (List.mem_cons_of_mem _ (List.getElem_mem hi2)))
      have cm := cmp6 n2 nq
      have tk : (zs.take (i + 1)).foldl max z0 = max ((zs.take i).foldl max z0) zs[i] := by rw [List.take_succ, hz, List.foldl_append]; rfl
      walk_at "r"
      obtain ⟨dx, hob⟩ := r2'.ob
      refine ⟨q2, dx, _, rfl, hob, rfs_no _ _ (by decide +kernel) (by decide +kernel), ?_⟩
      walk_at "r"
      refine ⟨q2, .ref q, t2, b2, t, b, rfl, r2', .inr ⟨q, rfl, rq⟩, s3, s4, s1, s2, fun G2 g2 => ?_⟩
      walk_at "r"
      refine w_iteD (fun c => ?_) (fun c => ?_)
      · walk_at "r"
        have lt : (zs.take i).foldl max z0 < zs[i] := cm.mp (by
          by_cases c1 : t2 * b = t * b2
          · rw [if_pos c1] at c; omega
          · rw [if_neg c1] at c
            by_cases c2 : t * b2 < t2 * b
            · exact c2
            · rw [if_neg c2] at c; omega)
        refine ⟨e.trans g2, q2, t2, b2, _, rfl, r2'.same g2, ?_⟩
        rw [tk, show max ((zs.take i).foldl max z0) zs[i] = zs[i] by omega]
        exact n2
      · have ge : zs[i] ≤ (zs.take i).foldl max z0 := by
          by_cases lt : (zs.take i).foldl max z0 < zs[i]
          · have c2 := cm.mpr lt
            rw [if_neg (by omega), if_pos c2] at c
            omega
          · omega
        refine ⟨e.trans g2, q, t, b, _, rfl, rq.same g2, ?_⟩
        rw [tk, show max ((zs.take i).foldl max z0) zs[i] = (zs.take i).foldl max z0 by omega]
        exact nq
    · rintro σ' G ⟨e, q, t, b, v2, rfl, rq, nq⟩
      rw [List.length_map, lr, List.take_length] at nq
      walk_at "r"
      exact k q G t b (e1.trans e) rq nq
/-! ### what holds a part -/
theorem Fd.at_ {C : Addr} {H : Hp} {D : Addr} {ks : List Str} {f : Str → Int} (h : Fd C H D ks f) {s : Str} (m : s ∈ ks) : ∃ v, DGet H D (.str s) (some v) ∧ F6 C H v (f s) := by
  obtain ⟨kvs, h1, h2, h3⟩ := h
  obtain ⟨v, hv, f6⟩ := h3 s m
  exact ⟨v, by rw [← hv]; exact DGet.k (k := Sum.inr s) h1, f6⟩
theorem f6_int {C : Addr} {H : Hp} (d : Int) : F6 C H (.int d) (6 * d) := ⟨d, 1, .inl ⟨rfl, rfl⟩, ⟨by decide, Int.gcd_one_right _, by omega⟩⟩
theorem pulled {ps : List Str} {es : List Tie3} {q : Str} {ls : List Ln3} {i : Nat} {u : Str × Str × Int} (h : (ls.filterMap (pull ps es q))[i]? = some u) : ∃ s ∈ ls, u.1 = s.1 ∧ u.2.1 = s.2.1 ∧ dist ps es s.2.2 q = some u.2.2 := by
  obtain ⟨s, ms, hs⟩ := List.mem_filterMap.mp (List.mem_of_getElem? h)
  have hs : (dist ps es s.2.2 q).map (fun x => (s.1, s.2.1, x)) = some u := hs
  cases e : dist ps es s.2.2 q with
  | none => rw [e] at hs; cases hs
  | some x => rw [e] at hs; cases hs; exact ⟨s, ms, rfl, rfl, e⟩
/-- the heights, in sixths, to which the strings hold q -/
def holds6 (ps : List Str) (es : List Tie3) (q : Str) (ls : List Ln3) (f g : Str → Int) : List Int := (ls.filterMap (pull ps es q)).map fun u => f u.2.1 - g u.1 - 6 * u.2.2
theorem refs_pick {ys : List V} {R : Nat → Addr → Prop} (h : ∀ (i : Nat) (v : V), ys[i]? = some v → ∃ q, v = .ref q ∧ R i q) : ∃ as : List Addr, ys = as.map V.ref ∧ ∀ (i : Nat) (q : Addr), as[i]? = some q → R i q := by
  induction ys generalizing R with
  | nil => exact ⟨[], rfl, fun i q hq => by simp at hq⟩
  | cons y r ih =>
    obtain ⟨q0, rfl, h0⟩ := h 0 y rfl
    obtain ⟨as, rfl, hs⟩ := ih (R := fun i q => R (i + 1) q) fun i v hv => h (i + 1) v hv
    exact ⟨q0 :: as, rfl, fun i q hq => by
      cases i with
      | zero => cases hq; exact h0
      | succ i => exact hs i q hq⟩
def spHolding (K : PySem.W.Frag) (C R : Addr) : Sp := fun vs H Q _ => ∃ (p Dh Dl : Addr) (q : Str) (ps : List Str) (es : List Tie3) (hk : Str) (ls : List Ln3) (f g : Str → Int), vs = [.ref p, .str q, .ref Dh, .ref Dl] ∧ Pup K C H p ps es hk ls ∧ Told R H Dh Dl hk ls f g ∧ q ∈ ps ∧ (∀ x y z, dist ps es x y = some z → z.natAbs < 10 ^ 9) ∧
  ∀ L as H', Same H H' → H' L = some (.lst (as.map V.ref)) → Hts R H' as (0 :: holds6 ps es q ls f g) → Q (.ref L) H'
theorem ok_Puppet_holding (T : Txt K mg a) : FnOk P w K mg base CX0 9 a.f_Puppet_holding a.d_Puppet_holding ["self", "part", "hooks", "lengths"] (spHolding K a.C_Puppet a.C_Ratio) := by
  refine T.F_Puppet_holding.ok sc_Puppet_holding (fun vs H Q E h => ?_) (fun cdv A outer s H vs Q E hr h => ?_)
  · obtain ⟨p, Dh, Dl, q, ps, es, hk, ls, f, g, rfl, _⟩ := h
    rfl
  · obtain ⟨p, Dh, Dl, q, ps, es, hk, ls, f, g, rfl, r, tl, mq, d9, k⟩ := h
    obtain ⟨ds1, vd1, bd1⟩ := bd1_Ratio T
    refine ⟨_, (pss_cons (ps_setLc (i := 4) (own := [("name", 5), ("hook", 6), ("distance", 7)]) (g := gTup K 3 (gCons (gName 5) (gCons (gName 6) (gCons (gName 7) (gNil))))) (tt := tYes) rfl sc_Puppet_holding.nd rfl rfl (sw_true rfl rfl rfl (by decide +kernel)) (pi_list (pe_meth (pv 0) T.cl_Puppet T.me_Puppet_pulls (ok_Puppet_pulls T) (hr.mono (by decide)) T.b_Puppet_pulls .nil pass0 (pa_cons (pv 1) pa_nil))) (blkOk_by (own := [("name", 5), ("hook", 6), ("distance", 7)]) (N := ["self", "part", "hooks", "lengths", "found", "name", "hook", "distance", "height"]) (sc := defScope s_Puppet_holding) (by decide +kernel)) (fun _ _ _ _ _ => by exact pg_tup (n := 3) rfl (pgs_cons (pg_name (i := 5) sc_Puppet_holding.nd rfl (Or.inl rfl)) (pgs_cons (pg_name (i := 6) sc_Puppet_holding.nd rfl (Or.inl rfl)) (pgs_cons (pg_name (i := 7) sc_Puppet_holding.nd rfl (Or.inl rfl)) pgs_nil)))) (fun _ _ _ _ _ => pts_nil) (fun _ _ _ _ _ => by exact (pe_op (OpR.or op_sub (OpR.or (oSubqq T (hr.mono (by decide))) (OpR.or (oSubqi T (hr.mono (by decide))) (oSubiq T (hr.mono (by decide)))))) (pe_op (OpR.or op_sub (OpR.or (oSubqq T (hr.mono (by decide))) (OpR.or (oSubqi T (hr.mono (by decide))) (oSubiq T (hr.mono (by decide)))))) (pe_dget (hu_of hr) (pv 2) (pv 6) (fun _ _ => rfl)) (pe_dget (hu_of hr) (pv 3) (pv 5) (fun _ _ => rfl))) (pv 7))))
      (pss_one (ps_ret (pe_lst (pa_cons (pe_make T.mk_Ratio (ok_Ratio_init T) (hr.mono (by decide)) (by rfl) T.m_Ratio bd1 vd1 pass0 (pa_cons pe_int pa_nil)) (pa_star (pe_lc (own := [("height", 8)]) (g := gName 8) (tt := tYes) rfl sc_Puppet_holding.nd (pi_list (pv 4)) (blkOk_by (own := [("height", 8)]) (N := ["self", "part", "hooks", "lengths", "found", "name", "hook", "distance", "height"]) (sc := defScope s_Puppet_holding) (by decide +kernel)) (fun _ _ _ _ _ => pg_name (i := 8) sc_Puppet_holding.nd rfl (Or.inl rfl)) (fun _ _ _ _ _ => pts_nil) (fun _ _ _ _ _ => by exact (pe_call (ok_as_ratio T) (hr.mono (by decide)) (by rfl) T.m_as_ratio T.F_as_ratio.kp T.b_as_ratio .nil pass0 (pa_cons (pv 8) pa_nil)))) pa_nil)))))), ?_⟩
    walk_at "r"
    refine pup_ml r (by decide) ?_
    walk_at "r"
    refine ⟨p, q, ps, es, hk, ls, rfl, r, mq, fun D ys H1 e1 h1 hn hP => ?_⟩
    have few := r.good.lns.few
    have hn2 : ys.length ≤ 6 := by rw [hn]; exact Nat.le_trans (List.length_filterMap_le _ _) few
    obtain ⟨k1, a1, a2⟩ := (tl.same e1).hooks
    obtain ⟨k2, b1, b2⟩ := (tl.same e1).lens
    have inH : ∀ s ∈ ls, s.2.1 ∈ k1 := fun s ms => by
      obtain ⟨d, e, md⟩ := r.good.lns.hook s ms
      exact a2.mem_iff.mpr (List.mem_map.mpr ⟨d, md, e.symm⟩)
    have inL : ∀ s ∈ ls, s.1 ∈ k2 := fun s ms => b2.mem_iff.mpr (by rw [nms_tl ls r.good.lns.let_]; exact List.mem_map.mpr ⟨s, ms, rfl⟩)
    refine ⟨D, rfl, ⟨ys, .inl (.inl h1)⟩, cmS (walk_list (xs := ys)) (by omega) (fun G e => .inl (.inl (e _ _ h1))) (fun i v G => ∃ u, (ls.filterMap (pull ps es q))[i]? = some u ∧ F6 a.C_Ratio G v (f u.2.1 - g u.1 - 6 * u.2.2)) (fun i v G G' e ⟨u, h1, h2⟩ => ⟨u, h1, h2.sameT e⟩) (fun i x G G' hi e hy Q' kq => ?_) (fun D2 zs H2 n2 e2 h2 hn3 hR => ?_)⟩
    · obtain ⟨rfl, hx⟩ := hy
      have hi2 : i < (ls.filterMap (pull ps es q)).length := by omega
      have hu := List.getElem?_eq_getElem hi2
      obtain ⟨c, rfl, h5⟩ := hP i x _ hx hu
      obtain ⟨s, ms, u1, u2, hd⟩ := pulled hu
      generalize (ls.filterMap (pull ps es q))[i] = u at *
      refine g_three (seqT_same e h5) ⟨rfl, ?_⟩
      obtain ⟨v1, g1, f1⟩ := (a1.same e).at_ (by rw [u2]; exact inH s ms : u.2.1 ∈ k1)
      obtain ⟨v2, g2, f2⟩ := (b1.same e).at_ (by rw [u1]; exact inL s ms : u.1 ∈ k2)
      walk_at "r"
      refine ⟨Dh, v1, rfl, g1, ?_⟩
      walk_at "r"
      refine ⟨Dl, v2, rfl, g2, ?_⟩
      have c1 := tl.f9 u.2.1
      have c2 := tl.g9 u.1
      have c3 := d9 _ _ _ hd
      refine sub6_leaf f1 f2 (by omega) (by omega) fun v3 G3 e3 f3 => ?_
      walk_at "r"
      refine sub6_leaf f3 (f6_int u.2.2) (by omega) (by omega) fun v4 G4 e4 f4 => ?_
      exact kq _ _ (e3.trans e4) ⟨u, hu, f4⟩
    walk_at "r"
    refine mkq1_leaf fun p0 H3 n3 e3 r0 => ?_
    unfold tStar
    walk_at "r"
    have h23 := e3 _ _ h2
    refine ⟨D2, rfl, ⟨zs, .inl (.inl h23)⟩, cmS (walk_list (xs := zs)) (by omega) (fun G e => .inl (.inl (e _ _ h23))) (fun i v G => ∃ q', v = .ref q' ∧ ∃ t b u, Rat a.C_Ratio G q' t b ∧ (ls.filterMap (pull ps es q))[i]? = some u ∧ Nrm (f u.2.1 - g u.1 - 6 * u.2.2) 6 t b) (fun i v G G' e ⟨q', h1, t, b, u, h2, h3⟩ => ⟨q', h1, t, b, u, h2.sameT e, h3⟩) (fun i x G G' hi e hy Q' kq => ?_) (fun D4 ws H4 n4 e4 h4 hn4 hR4 => ?_)⟩
    · obtain ⟨rfl, hx⟩ := hy
      obtain ⟨u, hu, f6⟩ := hR i x hx
      obtain ⟨t, b, fr, n⟩ := f6.same (e3.trans e)
      refine ⟨rfl, ?_⟩
      walk_at "r"
      exact as_leaf fr fun q' G2 e2 r2 => kq _ _ e2 ⟨q', rfl, t, b, u, r2, hu, n⟩
    obtain ⟨as, rfl, has⟩ := refs_pick hR4
    walk_at "r"
    refine ⟨D4, _, rfl, .inr (.inl (.inl h4)), ?_⟩
    walk_at "r"
    have l4 : as.length = (ls.filterMap (pull ps es q)).length := by rw [← hn, ← hn3, ← hn4, List.length_map]
    refine w_newL (by show ((as.map V.ref) ++ []).length + 1 ≤ 100000; rw [List.append_nil, List.length_map]; omega) fun L H5 n5 e5 h5 => ?_
    rw [List.append_nil] at h5
    refine k L (p0 :: as) H5 ((((e1.trans e2).trans e3).trans e4).trans e5) h5 ⟨by unfold holds6; rw [List.length_cons, List.length_cons, List.length_map, l4], fun i q' z h1 h2 => ?_⟩
    cases i with
    | zero =>
      cases h1
      cases h2
      exact ⟨0, 1, r0.same (e4.trans e5), ⟨by decide, by decide, by decide⟩⟩
    | succ i =>
      obtain ⟨t, b, u, r2, hu, n⟩ := has i q' h1
      have h2 : (holds6 ps es q ls f g)[i]? = some z := h2
      unfold holds6 at h2
      rw [List.getElem?_map, hu] at h2
      cases h2
      exact ⟨t, b, r2.same e5, n⟩
/-! ### the heights -/
theorem valV_none {kvs : List (Key × V)} {ks : List Str} {s : Str} (e : kvs.map Prod.fst = ks.map Sum.inr) (n : s ∉ ks) : valV kvs (.inr s) = none := by
  unfold valV
  rw [Option.map_eq_none_iff, List.find?_eq_none]
  intro kv hkv
  have m : kv.1 ∈ ks.map (Sum.inr : Str → Key) := by rw [← e]; exact List.mem_map.mpr ⟨kv, hkv, rfl⟩
  obtain ⟨u, hu, e'⟩ := List.mem_map.mp m
  rw [decide_eq_true_eq, ← e']
  intro z
  exact n (by have := Sum.inr.inj z; rw [← this]; exact hu)
/-- one more key, at the end -/
theorem put_end {kvs : List (Key × V)} {ks : List Str} {s : Str} (e : kvs.map Prod.fst = ks.map Sum.inr) (n : s ∉ ks) (v : V) : (putK kvs (.inr s) v).map Prod.fst = (ks ++ [s]).map Sum.inr ∧ valV (putK kvs (.inr s) v) (.inr s) = some v ∧ ∀ u ∈ ks, valV (putK kvs (.inr s) v) (.inr u) = valV kvs (.inr u) := by
  refine ⟨?_, by rw [valV_put, if_pos rfl], fun u hu => ?_⟩
  · rw [putK_new v (valV_none e n), List.map_append, List.map_append, e]
    rfl
  · rw [valV_put, if_neg (fun z => n (by rw [← Sum.inr.inj z]; exact hu))]
theorem holds_bd {ps : List Str} {es : List Tie3} {q : Str} {ls : List Ln3} {f g : Str → Int} (hf : ∀ s, (f s).natAbs < 10 ^ 9) (hg : ∀ s, (g s).natAbs < 10 ^ 9) (d9 : ∀ x y z, dist ps es x y = some z → z.natAbs < 10 ^ 9) : ∀ z ∈ (0 : Int) :: holds6 ps es q ls f g, z.natAbs < 10 ^ 15 := fun z hz => by
  rcases List.mem_cons.mp hz with rfl | hz
  · decide
  · obtain ⟨u, hu, rfl⟩ := List.mem_map.mp hz
    obtain ⟨i, hi⟩ := List.getElem?_of_mem hu
    obtain ⟨s, ms, u1, u2, hd⟩ := pulled hi
    have := hf u.2.1
    have := hg u.1
    have := d9 _ _ _ hd
    omega
def height6 (ps : List Str) (es : List Tie3) (ls : List Ln3) (f g : Str → Int) (q : Str) : Int := (holds6 ps es q ls f g).foldl max 0
/-- at D the heights of all parts, Ratios -/
def HtD (C : Addr) (H : Hp) (D : Addr) (ps : List Str) (h : Str → Int) : Prop := ∃ kvs : List (Key × V), H D = some (.dK kvs) ∧ kvs.map Prod.fst = ps.map Sum.inr ∧ ∀ s ∈ ps, ∃ q t b, valV kvs (.inr s) = some (.ref q) ∧ Rat C H q t b ∧ Nrm (h s) 6 t b
def spHeights (K : PySem.W.Frag) (C R : Addr) : Sp := fun vs H Q _ => ∃ (p Dh Dl : Addr) (ps : List Str) (es : List Tie3) (hk : Str) (ls : List Ln3) (f g : Str → Int), vs = [.ref p, .ref Dh, .ref Dl] ∧ Pup K C H p ps es hk ls ∧ Told R H Dh Dl hk ls f g ∧ (∀ x y z, dist ps es x y = some z → z.natAbs < 10 ^ 9) ∧
  ∀ D H', H D = none → Same H H' → HtD R H' D ps (height6 ps es ls f g) → Q (.ref D) H'
theorem ok_Puppet_heights (T : Txt K mg a) : FnOk P w K mg base CX0 10 a.f_Puppet_heights a.d_Puppet_heights ["self", "hooks", "lengths"] (spHeights K a.C_Puppet a.C_Ratio) := by
  refine T.F_Puppet_heights.ok sc_Puppet_heights (fun vs H Q E h => ?_) (fun cdv A outer s H vs Q E hr h => ?_)
  · obtain ⟨p, Dh, Dl, ps, es, hk, ls, f, g, rfl, _⟩ := h
    rfl
  · obtain ⟨p, Dh, Dl, ps, es, hk, ls, f, g, rfl, r, tl, d9, k⟩ := h
    refine ⟨_, (pss_cons (ps_expr (pe_meth (pv 0) T.cl_Puppet T.me_Puppet_check_told (ok_Puppet_check_told T) (hr.mono (by decide)) T.b_Puppet_check_told .nil pass0 (pa_cons (pv 1) (pa_cons (pv 2) pa_nil))))
      (pss_one (ps_ret (pe_dcP (o0 := .dK []) (.inl rfl) (hu_of hr) (own := [("part", 3)]) (g := gName 3) (tt := tYes) rfl sc_Puppet_heights.nd (pi_tup (pe_fld (pv 0) rfl)) (blkOk_by (own := [("part", 3)]) (N := ["self", "hooks", "lengths", "part"]) (sc := defScope s_Puppet_heights) (by decide +kernel)) (fun _ _ _ _ _ => pg_name (i := 3) sc_Puppet_heights.nd rfl (Or.inl rfl)) (fun _ _ _ _ _ => pts_nil) (fun _ _ _ _ _ => by exact (pv 3)) (fun _ _ _ _ _ => by exact (pe_call (ok_greatest_of T) (hr.mono (by decide)) (by rfl) T.m_greatest_of T.F_greatest_of.kp T.b_greatest_of .nil pass0 (pa_cons (pe_meth (pv 0) T.cl_Puppet T.me_Puppet_holding (ok_Puppet_holding T) (hr.mono (by decide)) T.b_Puppet_holding .nil pass0 (pa_cons (pv 3) (pa_cons (pv 1) (pa_cons (pv 2) pa_nil)))) pa_nil))))))), ?_⟩
    walk_at "r"
    refine pup_ml r (by decide) ?_
    walk_at "r"
    refine ⟨p, Dh, Dl, ps, es, hk, ls, f, g, rfl, r, tl, fun H1 e1 => ?_⟩
    walk_at "r"
    refine parts_leaf T (r.same e1) fun tt ht => ?_
    have few := r.good.parts.few
    have nd := r.good.parts.nd
    have lf := r.good.lns.few
    refine ⟨tt, rfl, ⟨_, ht⟩, dc_leaf (walk_tup (xs := ps.map V.str)) (fun D i G => H1 D = none ∧ But D H1 G ∧ HtD a.C_Ratio G D (ps.take i) (height6 ps es ls f g)) (fun D nD => ⟨nD, But.upd (.refl D H1), [], upd_same, rfl, fun s m => absurd m List.not_mem_nil⟩) ?_ ?_ ?_⟩
    · rintro D i G _ ⟨nD, e, _⟩
      exact seqT_same (e.same nD) ht
    · rintro D i x G G' hi ⟨nD, e, kvs, hD, hk', hv⟩ ⟨rfl, hx⟩
      obtain ⟨s, hs, rfl⟩ := map_at hx
      have sG := e.same nD
      have ms := List.mem_of_getElem? hs
      have rG := (r.same e1).same sG
      have tG := (tl.same e1).same sG
      have kl : kvs.length ≤ 6 := by
        have := congrArg List.length hk'
        rw [List.length_map, List.length_map, List.length_take] at this
        omega
      have ns : s ∉ ps.take i := fun m => by
        obtain ⟨j, hj⟩ := List.getElem?_of_mem m
        have l := (List.getElem?_eq_some_iff.mp hj).1
        rw [List.length_take] at l
        rw [List.getElem?_take, if_pos (by omega)] at hj
        have := nd_ix nd hj hs
        omega
      refine ⟨rfl, ?_⟩
      walk_at "r"
      refine pup_ml rG (by decide) ?_
      walk_at "r"
      refine ⟨p, Dh, Dl, s, ps, es, hk, ls, f, g, rfl, rG, tG, ms, d9, fun L as G2 g2 hL hts => ?_⟩
      walk_at "r"
      refine ⟨L, as, 0, holds6 ps es s ls f g, rfl, hL, hts, by unfold holds6; rw [List.length_map]; exact Nat.le_trans (List.length_filterMap_le _ _) (by omega), holds_bd tl.f9 tl.g9 d9, fun q G3 t b g3 rq nq => ?_⟩
      have hD3 := g3 _ _ (g2 _ _ hD)
      have g23 := g2.trans g3
      obtain ⟨pe1, pe2, pe3⟩ := put_end hk' ns (.ref q)
      refine ⟨_, DPut.k (k := Sum.inr s) hD3 (Nat.lt_of_le_of_lt (show kvs.length ≤ 1000 by omega) (by decide)), nD, (e.trans (.of g23)).upd, _, upd_same, ?_, fun u hu => ?_⟩
      · rw [take_snoc hs]
        exact pe1
      · have st : ∀ {q' : Addr} {t b : Int}, Rat a.C_Ratio G3 q' t b → Rat a.C_Ratio (upd G3 D (.dK (putK kvs (.inr s) (.ref q)))) q' t b := fun {q' t b} r' => ⟨by obtain ⟨dx, h⟩ := r'.ob; exact ⟨dx, by rw [upd_ne (fun z => by rw [z, hD3] at h; cases h)]; exact h⟩, r'.pos, r'.cop⟩
        rw [take_snoc hs] at hu
        rcases List.mem_append.mp hu with hu | hu
        · obtain ⟨q', t', b', h1, h2, h3⟩ := hv u hu
          exact ⟨q', t', b', by rw [pe3 u hu]; exact h1, st (h2.same g23), h3⟩
        · rw [List.mem_singleton] at hu
          subst hu
          exact ⟨q, t, b, pe2, st rq, nq⟩
    · rintro D G nD ⟨_, e, hd⟩
      rw [List.length_map, List.take_length] at hd
      exact k D G (none_of e1 nD) (e1.trans (e.same nD)) hd
end
end RK8


namespace RK8
open PySem PySem.Spec L2 RK RZ StX PyProof.Rows
section
variable {P : Program} {w : World} {K : PySem.W.Frag} {mg : Str → Option Value} {base : Heap} {a : Ad}
/-! ### drawn lengths -/
/-- at D a dict of ints, its keys ks in their order -/
def Idc (H : Hp) (D : Addr) (ks : List Str) (f : Str → Int) : Prop := ∃ kvs : List (Key × V), H D = some (.dK kvs) ∧ kvs.map Prod.fst = ks.map Sum.inr ∧ ∀ s ∈ ks, valV kvs (.inr s) = some (.int (f s))
theorem Idc.same {H H' : Hp} {D : Addr} {ks : List Str} {f : Str → Int} (h : Idc H D ks f) (e : Same H H') : Idc H' D ks f := let ⟨kvs, h1, h2, h3⟩ := h; ⟨kvs, e _ _ h1, h2, h3⟩
theorem Idc.sameT {H H' : Hp} {D : Addr} {ks : List Str} {f : Str → Int} (h : Idc H D ks f) (e : SameT H H') : Idc H' D ks f := let ⟨kvs, h1, h2, h3⟩ := h; ⟨kvs, e _ _ h1 (fun _ z => by cases z), h2, h3⟩
theorem Idc.get {H : Hp} {D : Addr} {ks : List Str} {f : Str → Int} (h : Idc H D ks f) {s : Str} (m : s ∈ ks) : DGet H D (.str s) (some (.int (f s))) := by
  obtain ⟨kvs, h1, h2, h3⟩ := h
  rw [← h3 s m]
  exact DGet.k (k := Sum.inr s) h1
theorem Idc.len {H : Hp} {D : Addr} {ks : List Str} {f : Str → Int} (h : Idc H D ks f) : ∃ kvs : List (Key × V), H D = some (.dK kvs) ∧ kvs.length = ks.length := let ⟨kvs, h1, h2, _⟩ := h; ⟨kvs, h1, by have := congrArg List.length h2; rw [List.length_map, List.length_map] at this; exact this⟩
theorem Idc.congr {H : Hp} {D : Addr} {ks : List Str} {f g : Str → Int} (h : Idc H D ks f) (e : ∀ s ∈ ks, f s = g s) : Idc H D ks g := let ⟨kvs, h1, h2, h3⟩ := h; ⟨kvs, h1, h2, fun s m => by rw [← e s m]; exact h3 s m⟩
/-- one more key -/
theorem Idc.put {H : Hp} {D : Addr} {ks : List Str} {f : Str → Int} (h : Idc H D ks f) {s : Str} (n : s ∉ ks) (z : Int) (l : ks.length ≤ 1000) {R : Hp → Prop} (k : ∀ G, Idc G D (ks ++ [s]) (fun u => if u = s then z else f u) → But D H G → R G) : ∃ H6, DPut H D (.str s) (.int z) H6 ∧ R H6 := by
  obtain ⟨kvs, h1, h2, h3⟩ := h
  have hl : kvs.length ≤ 1000 := by have := congrArg List.length h2; rw [List.length_map, List.length_map] at this; omega
  obtain ⟨p1, p2, p3⟩ := put_end h2 n (.int z)
  refine ⟨_, DPut.k (k := Sum.inr s) h1 (Nat.lt_of_le_of_lt hl (by decide)), k _ ⟨_, upd_same, p1, fun u hu => ?_⟩ (But.upd (.refl D H))⟩
  show valV _ _ = some (V.int (if u = s then z else f u))
  by_cases c : u = s
  · rw [c, if_pos rfl]
    exact p2
  · rw [if_neg c]
    rcases List.mem_append.mp hu with m | m
    · rw [p3 u m]
      exact h3 u m
    · rw [List.mem_singleton] at m
      exact absurd m c
/-- another value -/
theorem Idc.set {H : Hp} {D : Addr} {ks : List Str} {f : Str → Int} (h : Idc H D ks f) {s : Str} (m : s ∈ ks) (z : Int) (l : ks.length ≤ 1000) {R : Hp → Prop} (k : ∀ G, Idc G D ks (fun u => if u = s then z else f u) → But D H G → R G) : ∃ H6, DPut H D (.str s) (.int z) H6 ∧ R H6 := by
  obtain ⟨kvs, h1, h2, h3⟩ := h
  have hl : kvs.length ≤ 1000 := by have := congrArg List.length h2; rw [List.length_map, List.length_map] at this; omega
  refine ⟨_, DPut.k (k := Sum.inr s) h1 (Nat.lt_of_le_of_lt hl (by decide)), k _ ⟨_, upd_same, ?_, fun u hu => ?_⟩ (But.upd (.refl D H))⟩
  · rw [← h2]
    unfold putK
    have : (kvs.any fun kv => decide (kv.1 = Sum.inr s)) = true := by
      have mk : (Sum.inr s : Key) ∈ kvs.map Prod.fst := by rw [h2]; exact List.mem_map.mpr ⟨s, m, rfl⟩
      obtain ⟨kv, hkv, e⟩ := List.mem_map.mp mk
      exact List.any_eq_true.mpr ⟨kv, hkv, decide_eq_true e⟩
    rw [if_pos this, List.map_map]
    refine List.map_congr_left fun kv _ => ?_
    show (if kv.1 = Sum.inr s then (kv.1, V.int z) else kv).1 = kv.1
    by_cases c : kv.1 = Sum.inr s
    · rw [if_pos c]
    · rw [if_neg c]
  · rw [valV_put]
    show _ = some (V.int (if u = s then z else f u))
    by_cases c : u = s
    · rw [if_pos (by rw [c]), if_pos c]
    · rw [if_neg (fun z => c (Sum.inr.inj z)), if_neg c]
      exact h3 u hu
theorem KpBut {b D : Addr} {H G G' : Hp} (k : Kp b H G) (hD : H D = none) (n : D ≠ b) (e : But D G G') : Kp b H G' := by
  obtain ⟨f, s, m, hb⟩ := k.bag'
  exact ⟨k.bag, ⟨f, s, m, e _ _ (fun z => n z.symm) hb⟩, fun c u hc h => e _ _ (ne_of_none h hD) (k.keep c u hc h)⟩
def lnames (ls : List Ln3) : List Str := ls.map fun s => s.1
theorem lnames_nd {ps : List Str} {hk : Str} {ls : List Ln3} (g : GoodLns ps hk ls) : (lnames ls).Nodup := by
  have cd : ∀ (i : Nat) (h : i < ls.length), ∃ c, ls[i].1 = sg c := fun i h => let ⟨c, e, _⟩ := g.let_ _ (List.getElem_mem h); ⟨c, e⟩
  have step : ∀ (i : Nat) (h : i + 1 < ls.length) (c d : Nat), ls[i].1 = sg c → ls[i + 1].1 = sg d → c < d := fun i h c d e e' => by
    have := g.up i ls[i] ls[i + 1] (List.getElem?_eq_getElem (by omega)) (List.getElem?_eq_getElem h)
    rw [e, e'] at this
    exact of_decide_eq_true ((lt1 c d).symm.trans (decide_eq_true this))
  have far : ∀ (n i : Nat) (h : i + n + 1 < ls.length) (c d : Nat), ls[i].1 = sg c → ls[i + n + 1].1 = sg d → c < d := fun n => by
    induction n with
    | zero => exact fun i h c d e e' => step i h c d e e'
    | succ n ih =>
      intro i h c d e e'
      obtain ⟨m, em⟩ := cd (i + n + 1) (by omega)
      have h1 := ih i (by omega) c m e em
      have h2 := step (i + n + 1) (by omega) m d em e'
      omega
  refine List.pairwise_iff_getElem.mpr fun i j hi hj lt z => ?_
  unfold lnames at hi hj z
  rw [List.length_map] at hi hj
  rw [List.getElem_map, List.getElem_map] at z
  obtain ⟨c, ec⟩ := cd i hi
  obtain ⟨d, ed⟩ := cd j hj
  have := far (j - i - 1) i (by omega) c d ec (by rw [← ed]; congr 2; omega)
  rw [ec, ed] at z
  have : c = d := by injection z with z; injection z with z; injection z
  omega
def spLongs (K : PySem.W.Frag) : Sp := fun vs H Q _ => ∃ (b t : Addr) (ps : List Str) (es : List Tie3) (hk : Str) (ls : List Ln3), vs = [.ref b, .ref t] ∧ Bag H b ∧ Shp K H t ps es hk ls ∧ ∀ D f H', H D = none → Kp b H H' → Idc H' D (lnames ls) f → (∀ s, 0 ≤ f s ∧ f s ≤ 300) → Q (.ref D) H'
theorem ok_longs (T : Txt K mg a) : FnOk P w K mg base CX0 3 a.f_longs a.d_longs ["_law_bag_here", "_law_shape_here"] (spLongs K) := by
  refine T.F_longs.ok sc_longs (fun vs H Q E h => ?_) (fun cdv A outer s H vs Q E hr h => ?_)
  · obtain ⟨b, t, ps, es, hk, ls, rfl, _⟩ := h
    rfl
  · obtain ⟨b, t, ps, es, hk, ls, rfl, hb, sh, k⟩ := h
    obtain ⟨tp, te, tl, ht, hp, hu, ⟨as, hl, ll, lrow⟩⟩ := id sh.at_
    have ll2 : as.length = ls.length := by rw [ll, List.length_map]
    have l4 := sh.l4
    have nd := lnames_nd sh.good.lns
    refine ⟨_, (pss_cons (ps_set (i := 2) sc_longs.nd rfl (Or.inl rfl) pe_dnewK)
      (pss_cons (ps_for PassesOwn.never rfl (pi_tup (pe_ix ix_tup (pv 1) pe_int (fun _ _ => rfl))) (pg_name (i := 3) sc_longs.nd rfl (Or.inl rfl)) (pss_one (ps_asg (pe_call (ok_one T) (hr.mono (by decide)) (by rfl) T.m_one T.F_one.kp T.b_one .nil pass0 (pa_cons (pv 0) (pa_cons (pe_lst (pa_cons pe_int (pa_cons pe_int (pa_cons (pe_op op_mul pe_int (pe_call (ok_draw T) (hr.mono (by decide)) (by rfl) T.m_draw T.F_draw.kp T.b_draw .nil pass0 (pa_cons (pv 0) (pa_cons pe_int pa_nil)))) (pa_cons (pe_call (ok_draw T) (hr.mono (by decide)) (by rfl) T.m_draw T.F_draw.kp T.b_draw .nil pass0 (pa_cons (pv 0) (pa_cons pe_int pa_nil))) (pa_cons (pe_call (ok_draw T) (hr.mono (by decide)) (by rfl) T.m_draw T.F_draw.kp T.b_draw .nil pass0 (pa_cons (pv 0) (pa_cons pe_int pa_nil))) pa_nil)))))) pa_nil))) (pg_sub (pv 2) (pe_ix ix_tup (pv 3) pe_int (fun _ _ => rfl)) (set_dict (hu_of hr))))))
      (pss_one (ps_ret (pv 2))))), ?_⟩
    walk_at "r"
    intro D nD
    have nb := bag_ne hb nD
    have eD := w_new (o := .dK []) nD
    walk_at "r"
    refine ⟨t, _, 3, .ref tl, rfl, rfl, seqT_same eD ht, rfl, tl, rfl, ⟨_, seqT_same eD hl⟩, for_leaf (walk_tup (xs := as.map V.ref)) (fun i σ' G => ∃ f v3, σ' = [some (.ref b), some (.ref t), some (.ref D), v3] ∧ Kp b H G ∧ Idc G D (lnames (ls.take i)) f ∧ ∀ s, 0 ≤ f s ∧ f s ≤ 300) ⟨fun _ => 0, _, rfl, .of hb eD, ⟨[], upd_same, rfl, fun s m => absurd m List.not_mem_nil⟩, fun s => ⟨Int.le_refl 0, (by show (0 : Int) ≤ 300; decide)⟩⟩ (fun i σ' G _ ⟨_, _, _, e, _⟩ => e.sqt hl) ?_ ?_⟩
    · rintro i x σ' G G' hi ⟨f, v3, rfl, kp, dc, bd⟩ ⟨rfl, hx⟩
      obtain ⟨r, v, rfl, hv, hrr⟩ := rows_at ll lrow hx
      obtain ⟨s, hs, rfl⟩ := map_atL hv
      walk_at "r"
      refine draw_leaf kp.bag' (by show (0 : Int) < 40; decide) (by show (40 : Int) ≤ 10 ^ 12; decide) fun d1 G1 a1 b1 k1 => ?_
      walk_at "r"
      refine draw_leaf k1.bag' (by show (0 : Int) < 200; decide) (by show (200 : Int) ≤ 10 ^ 12; decide) fun d2 G2 a2 b2 k2 => ?_
      walk_at "r"
      refine draw_leaf k2.bag' (by show (0 : Int) < 90; decide) (by show (90 : Int) ≤ 10 ^ 12; decide) fun d3 G3 a3 b3 k3 => ?_
      walk_at "r"
      refine w_newL (by show 5 ≤ 100000; decide) fun l4 G4 n4 e4 h4 => ?_
      walk_at "r"
      refine one_leaf (k3.bag'.same e4) h4 (bag_ne k3.bag' n4) (by show 0 < 5; decide) (by show 5 < 1000; decide) fun v G5 hv k5 => ?_
      obtain ⟨z, rfl, z0, z1⟩ : ∃ z : Int, v = .int z ∧ 0 ≤ z ∧ z ≤ 300 := by
        simp only [List.mem_cons, List.not_mem_nil, or_false] at hv
        rcases hv with rfl | rfl | rfl | rfl | rfl <;> exact ⟨_, rfl, by omega, by omega⟩
      have k15 := (((k1.trans k2).trans k3).trans (.of k3.bag' e4)).trans k5
      have kp5 := kp.trans k15
      walk_at "r"
      refine ⟨r, _, 0, .str s.1, rfl, rfl, kp5.sqt hrr, rfl, ?_⟩
      have ns : s.1 ∉ lnames (ls.take i) := fun m => by
        obtain ⟨u, hu, e⟩ := List.mem_map.mp m
        obtain ⟨j, hj⟩ := List.getElem?_of_mem hu
        have l := (List.getElem?_eq_some_iff.mp hj).1
        rw [List.length_take] at l
        rw [List.getElem?_take, if_pos (by omega)] at hj
        have h1 : (lnames ls)[j]? = some s.1 := by unfold lnames; rw [List.getElem?_map, hj]; exact congrArg some e
        have h2 : (lnames ls)[i]? = some s.1 := by unfold lnames; rw [List.getElem?_map, hs]; rfl
        have := nd_ix nd h1 h2
        omega
      have pz := Idc.put (dc.sameT k15.sameT) ns z (by unfold lnames; rw [List.length_map, List.length_take]; omega) (R := fun G => ∃ f v3, [some (V.ref b), some (V.ref t), some (V.ref D), some (V.ref r)] = [some (.ref b), some (.ref t), some (.ref D), v3] ∧ Kp b H G ∧ Idc G D (lnames (ls.take (i + 1))) f ∧ ∀ s, 0 ≤ f s ∧ f s ≤ 300) (fun G6 d6 b6 => ⟨_, _, rfl, KpBut kp5 nD nb b6, by rw [take_snoc hs]; unfold lnames at d6 ⊢; rw [List.map_append]; exact d6, fun u => by
        show 0 ≤ (if u = s.1 then z else f u) ∧ (if u = s.1 then z else f u) ≤ 300
        by_cases c : u = s.1
        · rw [if_pos c]; exact ⟨z0, z1⟩
        · rw [if_neg c]; exact bd u⟩)
      obtain ⟨H6, dp, rr⟩ := pz
      exact ⟨D, H6, rfl, dp, rr⟩
    · rintro σ' G ⟨f, v3, rfl, kp, dc, bd⟩
      rw [List.length_map, ll2, List.take_length] at dc
      walk_at "r"
      exact k D f G nD kp dc bd
end
end RK8


namespace RK8
open PySem PySem.Spec L2 RK RZ StX PyProof.Rows
/-! ### heights, by rounds over the ties: no more than what holds them, and no less -/
theorem max_le : ∀ (l : List Int) (m : Int), m ≤ l.foldl max m ∧ ∀ x ∈ l, x ≤ l.foldl max m
  | [], m => ⟨Int.le_refl _, fun x h => by cases h⟩
  | y :: l, m => by
    obtain ⟨h1, h2⟩ := max_le l (max m y)
    refine ⟨by show m ≤ l.foldl max (max m y); omega, fun x hx => ?_⟩
    show x ≤ l.foldl max (max m y)
    rcases List.mem_cons.mp hx with rfl | hx
    · omega
    · exact h2 x hx
theorem max_in : ∀ (l : List Int) (m : Int), l.foldl max m = m ∨ l.foldl max m ∈ l
  | [], m => .inl rfl
  | y :: l, m => by
    show l.foldl max (max m y) = m ∨ l.foldl max (max m y) ∈ y :: l
    rcases max_in l (max m y) with h | h
    · rw [h]
      by_cases c : m ≤ y
      · exact .inr (by rw [show max m y = y by omega]; exact List.mem_cons_self)
      · exact .inl (by omega)
    · exact .inr (List.mem_cons_of_mem _ h)
def upd6 (h : Str → Int) (x y : Str) (w : Int) : Str → Int := fun u => if u = x then max (h x) (h y - 6 * w) else h u
def rstep (h : Str → Int) (t : Tie3) : Str → Int := upd6 (upd6 h t.1 t.2.1 t.2.2) t.2.1 t.1 t.2.2
def rtour (E : List Tie3) (h : Str → Int) : Str → Int := E.foldl rstep h
def rtours (E : List Tie3) (h : Str → Int) : Nat → Str → Int
  | 0 => h
  | n + 1 => rtour E (rtours E h n)
theorem upd6_ge (h : Str → Int) (x y : Str) (w : Int) (u : Str) : h u ≤ upd6 h x y w u := by
  unfold upd6
  by_cases c : u = x
  · rw [if_pos c, c]; omega
  · rw [if_neg c]; omega
theorem rstep_ge (h : Str → Int) (t : Tie3) (u : Str) : h u ≤ rstep h t u := Int.le_trans (upd6_ge h t.1 t.2.1 t.2.2 u) (upd6_ge _ t.2.1 t.1 t.2.2 u)
/-- behind its own step, a tie is kept -/
theorem rstep_closed (h : Str → Int) (t : Tie3) (ne : t.1 ≠ t.2.1) (w0 : 0 ≤ t.2.2) : rstep h t t.2.1 - 6 * t.2.2 ≤ rstep h t t.1 ∧ rstep h t t.1 - 6 * t.2.2 ≤ rstep h t t.2.1 := by
  have e1 : rstep h t t.1 = max (h t.1) (h t.2.1 - 6 * t.2.2) := by
    unfold rstep upd6
    rw [if_neg ne, if_pos rfl]
  have e2 : rstep h t t.2.1 = max (h t.2.1) (max (h t.1) (h t.2.1 - 6 * t.2.2) - 6 * t.2.2) := by
    unfold rstep upd6
    rw [if_pos rfl, if_neg (fun z => ne z.symm), if_pos rfl]
  rw [e1, e2]
  omega
/-- what d tells of base is told of h -/
def Jd (base : Str → Int) (d : RPath.Tab Str) (h : Str → Int) : Prop := ∀ l v x, d l v = some x → base l - 6 * x ≤ h v
theorem Jd.mono {base : Str → Int} {d : RPath.Tab Str} {h k : Str → Int} (j : Jd base d h) (e : ∀ u, h u ≤ k u) : Jd base d k := fun l v x hx => Int.le_trans (j l v x hx) (e v)
theorem Jd.relax {base : Str → Int} {d : RPath.Tab Str} {h : Str → Int} (j : Jd base d h) {l u v : Str} {w : Int} (c : h u - 6 * w ≤ h v) : Jd base (RPath.relax d l u v w) h := by
  unfold RPath.relax
  cases e : d l u with
  | none => exact j
  | some y =>
    have b := j l u y e
    have put : Jd base (RPath.put d l v (y + w)) h := fun a c' x hx => by
      by_cases z : a = l ∧ c' = v
      · rw [z.1, z.2, RPath.put_same] at hx
        cases hx
        rw [z.1, z.2]
        omega
      · rw [RPath.put_ne d _ z] at hx
        exact j a c' x hx
    show Jd base (RPath.low d l v (y + w)) h
    unfold RPath.low
    cases e2 : d l v with
    | none => exact put
    | some o =>
      show Jd base (if y + w < o then _ else _) h
      by_cases lt : y + w < o
      · rw [if_pos lt]; exact put
      · rw [if_neg lt]; exact j
theorem Jd.tour1 {base : Str → Int} {t : Tie3} {h : Str → Int} (c : h t.2.1 - 6 * t.2.2 ≤ h t.1 ∧ h t.1 - 6 * t.2.2 ≤ h t.2.1) : ∀ (ls : List Str) (d : RPath.Tab Str), Jd base d h → Jd base (RPath.tour1 ls d t) h
  | [], d, j => j
  | l :: ls, d, j => Jd.tour1 c ls (RPath.both d l t) ((j.relax c.2).relax c.1)
theorem Jd.tour {base : Str → Int} (ls : List Str) : ∀ (E : List Tie3) (d : RPath.Tab Str) (h : Str → Int), (∀ t ∈ E, t.1 ≠ t.2.1) → (∀ t ∈ E, 0 ≤ t.2.2) → Jd base d h → Jd base (RPath.tour E ls d) (rtour E h)
  | [], d, h, _, _, j => j
  | t :: E, d, h, ne, pos, j => Jd.tour ls E (RPath.tour1 ls d t) (rstep h t) (fun u m => ne u (List.mem_cons_of_mem _ m)) (fun u m => pos u (List.mem_cons_of_mem _ m))
    (Jd.tour1 (rstep_closed h t (ne t List.mem_cons_self) (pos t List.mem_cons_self)) ls d (j.mono (rstep_ge h t)))
theorem Jd.tours {base : Str → Int} {ls : List Str} {E : List Tie3} {d : RPath.Tab Str} {h : Str → Int} (ne : ∀ t ∈ E, t.1 ≠ t.2.1) (pos : ∀ t ∈ E, 0 ≤ t.2.2) (j : Jd base d h) : ∀ n, Jd base (RPath.tours E ls d n) (rtours E h n)
  | 0 => j
  | n + 1 => Jd.tour ls E _ _ ne pos (Jd.tours ne pos j n)
theorem rtour_le {H : Str → Int} : ∀ (E : List Tie3) (h : Str → Int), (∀ t ∈ E, H t.2.1 - 6 * t.2.2 ≤ H t.1 ∧ H t.1 - 6 * t.2.2 ≤ H t.2.1) → (∀ u, h u ≤ H u) → ∀ u, rtour E h u ≤ H u
  | [], h, _, b => b
  | t :: E, h, c, b => rtour_le E (rstep h t) (fun u m => c u (List.mem_cons_of_mem _ m)) fun u => by
    obtain ⟨c1, c2⟩ := c t List.mem_cons_self
    have s1 : ∀ u, upd6 h t.1 t.2.1 t.2.2 u ≤ H u := fun u => by
      unfold upd6
      have := b u
      have := b t.1
      have := b t.2.1
      by_cases z : u = t.1
      · rw [if_pos z, z]; omega
      · rw [if_neg z]; omega
    show upd6 _ t.2.1 t.1 t.2.2 u ≤ H u
    unfold upd6
    have := s1 u
    have h1 := s1 t.1
    have h2 := s1 t.2.1
    by_cases z : u = t.2.1
    · rw [if_pos z, z]
      unfold upd6 at h1 h2
      omega
    · rw [if_neg z]
      exact s1 u
theorem rtours_le {H : Str → Int} {E : List Tie3} {h : Str → Int} (c : ∀ t ∈ E, H t.2.1 - 6 * t.2.2 ≤ H t.1 ∧ H t.1 - 6 * t.2.2 ≤ H t.2.1) (b : ∀ u, h u ≤ H u) : ∀ n u, rtours E h n u ≤ H u
  | 0 => b
  | n + 1 => rtour_le E _ c (rtours_le c b n)
theorem rtour_ge : ∀ (E : List Tie3) (h : Str → Int) (u : Str), h u ≤ rtour E h u
  | [], h, u => Int.le_refl _
  | t :: E, h, u => Int.le_trans (rstep_ge h t u) (rtour_ge E (rstep h t) u)
theorem rtours_ge (E : List Tie3) (h : Str → Int) : ∀ n u, h u ≤ rtours E h n u
  | 0, u => Int.le_refl _
  | n + 1, u => Int.le_trans (rtours_ge E h n u) (rtour_ge E _ u)
/-! ### the heights, so reckoned, are what holds the parts -/
def rb1 (f g : Str → Int) (h : Str → Int) (s : Ln3) : Str → Int := fun u => if u = s.2.2 then max (h u) (f s.2.1 - g s.1) else h u
def rbase (ls : List Ln3) (f g : Str → Int) : Str → Int := ls.foldl (rb1 f g) fun _ => 0
theorem rb1_ge (f g h : Str → Int) (s : Ln3) (u : Str) : h u ≤ rb1 f g h s u := by
  unfold rb1
  by_cases c : u = s.2.2
  · rw [if_pos c]; omega
  · rw [if_neg c]; omega
theorem rb_ge (f g : Str → Int) : ∀ (ls : List Ln3) (h : Str → Int) (u : Str), h u ≤ ls.foldl (rb1 f g) h u
  | [], h, u => Int.le_refl _
  | s :: ls, h, u => Int.le_trans (rb1_ge f g h s u) (rb_ge f g ls _ u)
theorem rb_at (f g : Str → Int) : ∀ (ls : List Ln3) (h : Str → Int), ∀ s ∈ ls, f s.2.1 - g s.1 ≤ ls.foldl (rb1 f g) h s.2.2
  | s :: ls, h, u, m => by
    rcases List.mem_cons.mp m with rfl | m
    · refine Int.le_trans ?_ (rb_ge f g ls _ _)
      unfold rb1
      rw [if_pos rfl]
      omega
    · exact rb_at f g ls _ u m
theorem rb_le {f g H : Str → Int} : ∀ (ls : List Ln3) (h : Str → Int), (∀ u, h u ≤ H u) → (∀ s ∈ ls, f s.2.1 - g s.1 ≤ H s.2.2) → ∀ u, ls.foldl (rb1 f g) h u ≤ H u
  | [], h, b, _ => b
  | s :: ls, h, b, c => rb_le ls (rb1 f g h s) (fun u => by
      unfold rb1
      have := b u
      have h2 := c s List.mem_cons_self
      by_cases z : u = s.2.2
      · rw [if_pos z]; rw [← z] at h2; omega
      · rw [if_neg z]; exact b u) fun u m => c u (List.mem_cons_of_mem _ m)
theorem holds_mem {ps : List Str} {es : List Tie3} {q : Str} {ls : List Ln3} {f g : Str → Int} {s : Ln3} {x : Int} (m : s ∈ ls) (d : dist ps es s.2.2 q = some x) : f s.2.1 - g s.1 - 6 * x ∈ holds6 ps es q ls f g :=
  List.mem_map.mpr ⟨(s.1, s.2.1, x), List.mem_filterMap.mpr ⟨s, m, by show (dist ps es s.2.2 q).map _ = _; rw [d]; rfl⟩, rfl⟩
theorem holds_of {ps : List Str} {es : List Tie3} {q : Str} {ls : List Ln3} {f g : Str → Int} {z : Int} (m : z ∈ holds6 ps es q ls f g) : ∃ s ∈ ls, ∃ x, dist ps es s.2.2 q = some x ∧ z = f s.2.1 - g s.1 - 6 * x := by
  obtain ⟨u, hu, rfl⟩ := List.mem_map.mp m
  obtain ⟨i, hi⟩ := List.getElem?_of_mem hu
  obtain ⟨s, ms, u1, u2, hd⟩ := pulled hi
  exact ⟨s, ms, u.2.2, hd, by rw [u1, u2]⟩
theorem height_closed {ps : List Str} {es : List Tie3} {ls : List Ln3} {f g : Str → Int} (g1 : GoodParts ps) (g2 : GoodTies ps es) (lp : ∀ s ∈ ls, s.2.2 ∈ ps) {u v : Str} {w : Int} (w0 : 0 ≤ w) (mv : v ∈ ps) (step : ∀ p n, RPath.Wk es p u n → RPath.Wk es p v (n + w)) : height6 ps es ls f g u - 6 * w ≤ height6 ps es ls f g v := by
  unfold height6
  rcases max_in (holds6 ps es u ls f g) 0 with h | h
  · rw [h]
    have := (max_le (holds6 ps es v ls f g) 0).1
    omega
  · obtain ⟨s, ms, x, hd, e⟩ := holds_of h
    have E := dist_exact g1 g2
    obtain ⟨y, hy, ly⟩ := E.least s.2.2 v (x + w) (lp s ms) mv (step _ _ (E.sound _ _ _ hd))
    have := (max_le (holds6 ps es v ls f g) 0).2 _ (holds_mem (f := f) (g := g) ms hy)
    rw [e]
    omega
theorem height_rounds {ps : List Str} {es : List Tie3} {ls : List Ln3} {f g : Str → Int} (g1 : GoodParts ps) (g2 : GoodTies ps es) (lp : ∀ s ∈ ls, s.2.2 ∈ ps) {v : Str} (mv : v ∈ ps) : rtours es (rbase ls f g) ps.length v = height6 ps es ls f g v := by
  have E := dist_exact g1 g2
  have pos : ∀ t ∈ es, 0 ≤ t.2.2 := g2.pos
  have clo : ∀ t ∈ es, height6 ps es ls f g t.2.1 - 6 * t.2.2 ≤ height6 ps es ls f g t.1 ∧ height6 ps es ls f g t.1 - 6 * t.2.2 ≤ height6 ps es ls f g t.2.1 := fun t m =>
    ⟨height_closed g1 g2 lp (pos t m) (g2.in1 t m) fun p n h => .bwd h m, height_closed g1 g2 lp (pos t m) (g2.in2 t m) fun p n h => .fwd h m⟩
  have b0 : ∀ u, rbase ls f g u ≤ height6 ps es ls f g u := rb_le ls _ (fun u => (max_le _ 0).1) fun s ms => by
    have d0 := E.diag pos (lp s ms)
    have := (max_le (holds6 ps es s.2.2 ls f g) 0).2 _ (holds_mem (f := f) (g := g) ms d0)
    unfold height6
    omega
  have le := rtours_le clo b0 ps.length v
  have ge : height6 ps es ls f g v ≤ rtours es (rbase ls f g) ps.length v := by
    rcases max_in (holds6 ps es v ls f g) 0 with h | h
    · have h' : height6 ps es ls f g v = 0 := h
      rw [h']
      exact Int.le_trans (rb_ge f g ls (fun _ => 0) v) (rtours_ge es _ ps.length v)
    · have h' : height6 ps es ls f g v ∈ holds6 ps es v ls f g := h
      obtain ⟨s, ms, x, hd, e⟩ := holds_of h'
      have dia_ok : ∀ l v x, RPath.dia ps l v = some x → l = v ∧ x = 0 := fun l v x hx => by
        rw [RPath.dia_at] at hx
        by_cases c : l = v ∧ l ∈ ps
        · rw [if_pos c] at hx; cases hx; exact ⟨c.1, rfl⟩
        · rw [if_neg c] at hx; cases hx
      have j0 : Jd (rbase ls f g) (RPath.dia ps) (rbase ls f g) := fun l v x hx => by
        obtain ⟨rfl, rfl⟩ := dia_ok l v x hx
        omega
      have j := Jd.tours (ls := ps) g2.ne pos j0 ps.length
      have te := RPath.tours_exact pos (fun t ht => ⟨g2.in1 t ht, g2.in2 t ht⟩) E (d := RPath.dia ps) (fun p q x hx => by obtain ⟨rfl, rfl⟩ := dia_ok p q x hx; exact .nil _) (fun l hl => by rw [RPath.dia_at, if_pos ⟨rfl, hl⟩]) (lp s ms) mv
      have := j s.2.2 v x (te.trans hd)
      have := rb_at f g ls (fun _ => 0) s ms
      have : f s.2.1 - g s.1 ≤ rbase ls f g s.2.2 := this
      omega
  omega
end RK8


namespace RK8
open PySem PySem.Spec L2 RK RZ StX PyProof.Rows
section
variable {P : Program} {w : World} {K : PySem.W.Frag} {mg : Str → Option Value} {base : Heap} {a : Ad}
theorem put_leafK {H : Hp} {D : Addr} {ks : List Str} {f : Str → Int} {R : Hp → Prop} (h : Idc H D ks f) {s : Str} (n : s ∉ ks) (z : Int) (l : ks.length ≤ 1000) (k : ∀ G, Idc G D (ks ++ [s]) (fun u => if u = s then z else f u) → But D H G → R G) : rSetD (.ref D) (.str s) (.int z) H R := by
  obtain ⟨H6, dp, rr⟩ := h.put n z l k
  exact ⟨D, H6, rfl, dp, rr⟩
theorem set_leafK {H : Hp} {D : Addr} {ks : List Str} {f : Str → Int} {R : Hp → Prop} (h : Idc H D ks f) {s : Str} (m : s ∈ ks) (z : Int) (l : ks.length ≤ 1000) (k : ∀ G, Idc G D ks (fun u => if u = s then z else f u) → But D H G → R G) : rSetD (.ref D) (.str s) (.int z) H R := by
  obtain ⟨H6, dp, rr⟩ := h.set m z l k
  exact ⟨D, H6, rfl, dp, rr⟩
theorem not_taken {ps : List Str} (nd : ps.Nodup) {i : Nat} {s : Str} (h : ps[i]? = some s) : s ∉ ps.take i := fun m => by
  obtain ⟨j, hj⟩ := List.getElem?_of_mem m
  have l := (List.getElem?_eq_some_iff.mp hj).1
  rw [List.length_take] at l
  rw [List.getElem?_take, if_pos (by omega)] at hj
  have := nd_ix nd hj h
  omega
theorem But.sameOf {D : Addr} {H G G' : Hp} (e : Same H G) (b : But D G G') (n : H D = none) : Same H G' := fun c o h => b c o (ne_of_none h n) (e c o h)
def spRest (K : PySem.W.Frag) : Sp := fun vs H Q _ => ∃ (t Dp Dl : Addr) (ps : List Str) (es : List Tie3) (hk : Str) (ls : List Ln3) (k1 k2 : List Str) (f g : Str → Int), vs = [.ref t, .ref Dp, .ref Dl] ∧ Shp K H t ps es hk ls ∧ Idc H Dp k1 f ∧ (∀ s ∈ ls, s.2.1 ∈ k1) ∧ Idc H Dl k2 g ∧ (∀ s ∈ ls, s.1 ∈ k2) ∧
  ∀ D H', H D = none → Same H H' → Idc H' D ps (rtours es (rbase ls f g) ps.length) → Q (.ref D) H'
theorem ok_rest (T : Txt K mg a) : FnOk P w K mg base CX0 1 a.f_rest a.d_rest ["_law_shape_here", "_law_pegs_at", "_law_longs_here"] (spRest K) := by
  refine T.F_rest.ok sc_rest (fun vs H Q E h => ?_) (fun cdv A outer s H vs Q E hr h => ?_)
  · obtain ⟨t, Dp, Dl, ps, es, hk, ls, k1, k2, f, g, rfl, _⟩ := h
    rfl
  · obtain ⟨t, Dp, Dl, ps, es, hk, ls, k1, k2, f, g, rfl, sh, ip, inp, il, inl', k⟩ := h
    obtain ⟨tp, te, tl, ht, hp, ⟨as, hu, lu, urow⟩, ⟨bs, hl, ll, lrow⟩⟩ := id sh.at_
    have lu2 : as.length = es.length := by rw [lu, List.length_map]
    have ll2 : bs.length = ls.length := by rw [ll, List.length_map]
    have ml : (ps.map V.str).length = ps.length := List.length_map ..
    have p6 := sh.good.parts.few
    have nd := sh.good.parts.nd
    refine ⟨_, (pss_cons (ps_set (i := 3) sc_rest.nd rfl (Or.inl rfl) pe_dnewK)
      (pss_cons (ps_for PassesOwn.never rfl (pi_tup (pe_ix ix_tup (pv 0) pe_int (fun _ _ => rfl))) (pg_name (i := 4) sc_rest.nd rfl (Or.inl rfl)) (pss_one (ps_asg pe_int (pg_sub (pv 3) (pv 4) (set_dict (hu_of hr))))))
      (pss_cons (ps_for PassesOwn.never rfl (pi_tup (pe_ix ix_tup (pv 0) pe_int (fun _ _ => rfl))) (pg_tup rfl (pgs_cons (pg_name (i := 5) sc_rest.nd rfl (Or.inl rfl)) (pgs_cons (pg_name (i := 6) sc_rest.nd rfl (Or.inl rfl)) (pgs_cons (pg_name (i := 4) sc_rest.nd rfl (Or.inl rfl)) pgs_nil)))) (pss_one (ps_asg (pe_callB (cr_max2 rfl) (by rfl) T.z_max (by decide +kernel) (pa_cons (pe_callTy cr_int1 (by rfl) T.z_int (by decide +kernel) (pa_cons (pe_dget (hu_of hr) (pv 3) (pv 4) (fun _ _ => rfl)) pa_nil)) (pa_cons (pe_callTy cr_int1 (by rfl) T.z_int (by decide +kernel) (pa_cons (pe_op op_sub (pe_dget (hu_of hr) (pv 1) (pv 6) (fun _ _ => rfl)) (pe_dget (hu_of hr) (pv 2) (pv 5) (fun _ _ => rfl))) pa_nil)) pa_nil))) (pg_sub (pv 3) (pv 4) (set_dict (hu_of hr))))))
      (pss_cons (ps_for PassesOwn.never rfl (pi_range1 (by rfl) T.z_range (pa_cons (pe_callB cr_len (by rfl) T.z_len PySem.boot_len (pa_cons (pe_ix ix_tup (pv 0) pe_int (fun _ _ => rfl)) pa_nil)) pa_nil)) (pg_name (i := 7) sc_rest.nd rfl (Or.inl rfl)) (pss_one (ps_for PassesOwn.never rfl (pi_tup (pe_ix ix_tup (pv 0) pe_int (fun _ _ => rfl))) (pg_tup rfl (pgs_cons (pg_name (i := 8) sc_rest.nd rfl (Or.inl rfl)) (pgs_cons (pg_name (i := 9) sc_rest.nd rfl (Or.inl rfl)) (pgs_cons (pg_name (i := 10) sc_rest.nd rfl (Or.inl rfl)) pgs_nil)))) (pss_cons (ps_asg (pe_callB (cr_max2 rfl) (by rfl) T.z_max (by decide +kernel) (pa_cons (pe_callTy cr_int1 (by rfl) T.z_int (by decide +kernel) (pa_cons (pe_dget (hu_of hr) (pv 3) (pv 8) (fun _ _ => rfl)) pa_nil)) (pa_cons (pe_callTy cr_int1 (by rfl) T.z_int (by decide +kernel) (pa_cons (pe_op op_sub (pe_dget (hu_of hr) (pv 3) (pv 9) (fun _ _ => rfl)) (pe_op op_mul pe_int (pv 10))) pa_nil)) pa_nil))) (pg_sub (pv 3) (pv 8) (set_dict (hu_of hr))))
      (pss_one (ps_asg (pe_callB (cr_max2 rfl) (by rfl) T.z_max (by decide +kernel) (pa_cons (pe_callTy cr_int1 (by rfl) T.z_int (by decide +kernel) (pa_cons (pe_dget (hu_of hr) (pv 3) (pv 9) (fun _ _ => rfl)) pa_nil)) (pa_cons (pe_callTy cr_int1 (by rfl) T.z_int (by decide +kernel) (pa_cons (pe_op op_sub (pe_dget (hu_of hr) (pv 3) (pv 8) (fun _ _ => rfl)) (pe_op op_mul pe_int (pv 10))) pa_nil)) pa_nil))) (pg_sub (pv 3) (pv 9) (set_dict (hu_of hr)))))))))
      (pss_one (ps_ret (pv 3))))))), ?_⟩
    walk_at "r"
    intro D nD
    have eD := w_new (o := .dK []) nD
    walk_at "r"
    refine ⟨t, _, 0, .ref tp, rfl, rfl, seqT_same eD ht, rfl, tp, rfl, ⟨_, seqT_same eD hp⟩, for_leaf (walk_tup (xs := ps.map V.str)) (fun i σ' G => Same H G ∧ Idc G D (ps.take i) (fun _ => 0) ∧ ∃ v4, σ' = [some (.ref t), some (.ref Dp), some (.ref Dl), some (.ref D), v4, none, none, none, none, none, none]) ⟨eD, ⟨[], upd_same, rfl, fun s m => absurd m List.not_mem_nil⟩, _, rfl⟩ (fun i σ' G _ ⟨e, _⟩ => seqT_same e hp) ?_ ?_⟩
    · rintro i x σ' G G' hi ⟨e, dc, v4, rfl⟩ ⟨rfl, hx⟩
      obtain ⟨s, hs, rfl⟩ := map_at hx
      walk_at "r"
      refine put_leafK dc (not_taken nd hs) 0 (by rw [List.length_take]; omega) fun G1 d1 b1 => ?_
      refine ⟨But.sameOf e b1 nD, ?_, _, rfl⟩
      rw [take_snoc hs]
      exact d1.congr fun u _ => by
        show (if u = s then (0 : Int) else 0) = 0
        split <;> rfl
    rintro σ' G0 ⟨e0, dc0, v4, rfl⟩
    rw [ml, List.take_length] at dc0
    walk_at "r"
    refine ⟨t, _, 3, .ref tl, rfl, rfl, seqT_same e0 ht, rfl, tl, rfl, ⟨_, seqT_same e0 hl⟩, for_leaf (walk_tup (xs := bs.map V.ref)) (fun i σ' G => Same H G ∧ Idc G D ps ((ls.take i).foldl (rb1 f g) fun _ => 0) ∧ ∃ v4 v5 v6, σ' = [some (.ref t), some (.ref Dp), some (.ref Dl), some (.ref D), v4, v5, v6, none, none, none, none]) ⟨e0, dc0, _, _, _, rfl⟩ (fun i σ' G _ ⟨e, _⟩ => seqT_same e hl) ?_ ?_⟩
    · rintro i x σ' G G' hi ⟨e, dc, v4, v5, v6, rfl⟩ ⟨rfl, hx⟩
      obtain ⟨r, v, rfl, hv, hrr⟩ := rows_at ll lrow hx
      obtain ⟨s, hs, rfl⟩ := map_atL hv
      have ms := List.mem_of_getElem? hs
      have mp := sh.good.lns.part s ms
      refine g_three (seqT_same e hrr) ?_
      walk_at "r"
      refine ⟨D, _, rfl, dc.get mp, ?_⟩
      walk_at "r"
      refine ⟨Dp, _, rfl, (ip.same e).get (inp s ms), ?_⟩
      walk_at "r"
      refine ⟨Dl, _, rfl, (il.same e).get (inl' s ms), ?_⟩
      walk_at "r"
      refine set_leafK dc mp _ (by omega) fun G1 d1 b1 => ?_
      refine ⟨But.sameOf e b1 nD, d1.congr fun u _ => ?_, _, _, _, rfl⟩
      rw [take_snoc hs, List.foldl_append]
      show _ = rb1 f g ((ls.take i).foldl (rb1 f g) fun _ => 0) s u
      unfold rb1
      by_cases c : u = s.2.2
      · rw [if_pos c, c]
        show _ = if s.2.2 = s.2.2 then _ else _
        rw [if_pos rfl]
        split <;> omega
      · rw [if_neg c]
        show _ = if u = s.2.2 then _ else _
        rw [if_neg c]
    rintro σ' G1 ⟨e1, dc1, v4, v5, v6, rfl⟩
    rw [List.length_map, ll2, List.take_length] at dc1
    have dc1 : Idc G1 D ps (rbase ls f g) := dc1
    walk_at "r"
    refine ⟨t, _, 0, .ref tp, rfl, rfl, seqT_same e1 ht, rfl, ?_⟩
    walk_at "r"
    refine w_lenT (seqT_same e1 hp) ?_
    walk_at "r"
    refine ⟨ps.length, by rw [ml], by omega, by omega, for_leaf (walk_rng0 (n := ps.length)) (fun i σ' G => Same H G ∧ Idc G D ps (rtours es (rbase ls f g) i) ∧ ∃ v4 v5 v6 v7 v8 v9 v10, σ' = [some (.ref t), some (.ref Dp), some (.ref Dl), some (.ref D), v4, v5, v6, v7, v8, v9, v10]) ⟨e1, dc1, _, _, _, _, _, _, _, rfl⟩ (fun _ _ _ _ _ => trivial) ?_ ?_⟩
    · rintro i x σ' G G' hi ⟨e, dc, v4, v5, v6, v7, v8, v9, v10, rfl⟩ ⟨rfl, rfl⟩
      walk_at "r"
      refine ⟨t, _, 1, .ref te, rfl, rfl, seqT_same e ht, rfl, te, rfl, ⟨_, seqT_same e hu⟩, for_leaf (walk_tup (xs := as.map V.ref)) (fun j σ' G => Same H G ∧ Idc G D ps (rtour (es.take j) (rtours es (rbase ls f g) i)) ∧ ∃ v4 v5 v6 v7 v8 v9 v10, σ' = [some (.ref t), some (.ref Dp), some (.ref Dl), some (.ref D), v4, v5, v6, v7, v8, v9, v10]) ⟨e, dc, _, _, _, _, _, _, _, rfl⟩ (fun i σ' G _ ⟨e, _⟩ => seqT_same e hu) ?_ ?_⟩
      · rintro j x σ' G G' hj ⟨e, dc, v4, v5, v6, v7, v8, v9, v10, rfl⟩ ⟨rfl, hx⟩
        obtain ⟨r, v, rfl, hv, hrr⟩ := rows_at lu urow hx
        obtain ⟨u, hu', rfl⟩ := map_atL hv
        have mu := List.mem_of_getElem? hu'
        have m1 := sh.good.ties.in1 u mu
        have m2 := sh.good.ties.in2 u mu
        have w0 := sh.good.ties.pos u mu
        have w1 := sh.r20 u mu
        have tk : rtour (es.take (j + 1)) (rtours es (rbase ls f g) i) = rstep (rtour (es.take j) (rtours es (rbase ls f g) i)) u := by
          unfold rtour
          rw [take_snoc hu', List.foldl_append]
          rfl
        rw [tk]
        revert dc
        generalize rtour (es.take j) (rtours es (rbase ls f g) i) = h
        intro dc
        refine g_three (seqT_same e hrr) ?_
        walk_at "r"
        refine ⟨D, _, rfl, dc.get m1, ?_⟩
        walk_at "r"
        refine ⟨D, _, rfl, dc.get m2, ?_⟩
        walk_at "r"
        refine set_leafK dc m1 _ (by omega) fun G2 d2 b2 => ?_
        have d3 : Idc G2 D ps (upd6 h u.1 u.2.1 u.2.2) := d2.congr fun x _ => by
          unfold upd6
          by_cases c : x = u.1
          · rw [if_pos c]
            rw [if_pos c]
            split <;> omega
          · rw [if_neg c]
            rw [if_neg c]
        walk_at "r"
        refine ⟨D, _, rfl, d3.get m2, ?_⟩
        walk_at "r"
        refine ⟨D, _, rfl, d3.get m1, ?_⟩
        walk_at "r"
        refine set_leafK d3 m2 _ (by omega) fun G4 d4 b4 => ?_
        refine ⟨But.sameOf (But.sameOf e b2 nD) b4 nD, d4.congr fun x _ => ?_, _, _, _, _, _, _, _, rfl⟩
        show _ = upd6 (upd6 h u.1 u.2.1 u.2.2) u.2.1 u.1 u.2.2 x
        generalize upd6 h u.1 u.2.1 u.2.2 = h2
        unfold upd6
        by_cases c : x = u.2.1
        · rw [if_pos c]
          rw [if_pos c]
          split <;> omega
        · rw [if_neg c]
          rw [if_neg c]
      · rintro σ' G ⟨e, dc, v4, v5, v6, v7, v8, v9, v10, rfl⟩
        rw [List.length_map, lu2, List.take_length] at dc
        exact ⟨e, dc, _, _, _, _, _, _, _, rfl⟩
    · rintro σ' G ⟨e, dc, v4, v5, v6, v7, v8, v9, v10, rfl⟩
      walk_at "r"
      exact k D G nD e dc
end
end RK8


namespace RK8
open PySem PySem.Spec L2 RK RZ StX PyProof.Rows
section
variable {P : Program} {w : World} {K : PySem.W.Frag} {mg : Str → Option Value} {base : Heap} {a : Ad}
theorem F6.updD {C : Addr} {H : Hp} {v : V} {z : Int} {D : Addr} {u : HO} {o : HO} (h : F6 C H v z) (hD : H D = some u) (hu : ∀ a b c, u ≠ .ins a b c) : F6 C (upd H D o) v z := by
  obtain ⟨t, b, f, n⟩ := h
  rcases f with f | ⟨p, rfl, r⟩
  · exact ⟨t, b, .inl f, n⟩
  · obtain ⟨dx, hob⟩ := r.ob
    exact ⟨t, b, .inr ⟨p, rfl, ⟨⟨dx, by rw [upd_ne (fun z => by rw [z, hD] at hob; cases hob; exact hu _ _ _ rfl)]; exact hob⟩, r.pos, r.cop⟩⟩, n⟩
theorem Fd.put {C : Addr} {H : Hp} {D : Addr} {ks : List Str} {f : Str → Int} (h : Fd C H D ks f) {s : Str} (n : s ∉ ks) {v : V} (hv : F6 C H v (f s)) (l : ks.length ≤ 1000) {R : Hp → Prop} (k : ∀ G, Fd C G D (ks ++ [s]) f → But D H G → R G) : rSetD (.ref D) (.str s) v H R := by
  obtain ⟨kvs, h1, h2, h3⟩ := h
  have hl : kvs.length ≤ 1000 := by have := congrArg List.length h2; rw [List.length_map, List.length_map] at this; omega
  obtain ⟨p1, p2, p3⟩ := put_end h2 n v
  refine ⟨D, _, rfl, DPut.k (k := Sum.inr s) h1 (Nat.lt_of_le_of_lt hl (by decide)), k _ ⟨_, upd_same, p1, fun u hu => ?_⟩ (But.upd (.refl D H))⟩
  rcases List.mem_append.mp hu with m | m
  · obtain ⟨x, hx, f6⟩ := h3 u m
    exact ⟨x, by rw [p3 u m]; exact hx, f6.updD h1 fun a b c z => by cases z⟩
  · rw [List.mem_singleton] at m
    subst m
    exact ⟨v, p2, hv.updD h1 fun a b c z => by cases z⟩
def spPassed (C : Addr) : Sp := fun vs H Q _ => ∃ (D : Addr) (ks : List Str) (f : Str → Int), vs = [.ref D] ∧ Idc H D ks f ∧ ks.Nodup ∧ ks.length ≤ 20 ∧ (∀ s, 0 ≤ f s ∧ f s ≤ 300) ∧ ∀ E H', H E = none → Same H H' → Fd C H' E ks f → Q (.ref E) H'
theorem ok_passed (T : Txt K mg a) : FnOk P w K mg base CX0 6 a.f_passed a.d_passed ["_law_longs_here"] (spPassed a.C_Ratio) := by
  refine T.F_passed.ok sc_passed (fun vs H Q E h => ?_) (fun cdv A outer s H vs Q E hr h => ?_)
  · obtain ⟨D, ks, f, rfl, _⟩ := h
    rfl
  · obtain ⟨D, ks, f, rfl, dc, nd, l20, bd, k⟩ := h
    refine ⟨_, (pss_cons (ps_set (i := 1) sc_passed.nd rfl (Or.inl rfl) pe_dnewK)
      (pss_cons (ps_lock (ps_for PassesOwn.never rfl (pi_keys (pv 0)) (pg_name (i := 2) sc_passed.nd rfl (Or.inl rfl)) (pss_cons (ps_set (i := 3) sc_passed.nd rfl (Or.inl rfl) (pe_and (pe_cmpR op_eq (pe_op op_mod (pe_callTy cr_int1 (by rfl) T.z_int (by decide +kernel) (pa_cons (pe_dget (hu_of hr) (pv 0) (pv 2) (fun _ _ => rfl)) pa_nil)) pe_int) pe_int (nomark _)) (pe_one (pe_cmpR op_lt (pe_op op_mod (pe_callTy cr_int1 (by rfl) T.z_int (by decide +kernel) (pa_cons (pe_dget (hu_of hr) (pv 0) (pv 2) (fun _ _ => rfl)) pa_nil)) pe_int) pe_int (nomark _)))))
      (pss_one (ps_asg (pe_ifExp (pt_val (pv 3)) (pe_op op_fdiv (pe_dget (hu_of hr) (pv 0) (pv 2) (fun _ _ => rfl)) pe_int) (pe_make T.mk_Ratio (ok_Ratio_init T) (hr.mono (by decide)) (by rfl) T.m_Ratio (bd_Ratio T) .nil pass0 (pa_cons (pe_dget (hu_of hr) (pv 0) (pv 2) (fun _ _ => rfl)) (pa_cons pe_int pa_nil)))) (pg_sub (pv 1) (pv 2) (set_dict (hu_of hr))))))))
      (pss_one (ps_ret (pv 1))))), ?_⟩
    obtain ⟨kvs, hD, hks, hval⟩ := dc
    have kl : kvs.length = ks.length := by have := congrArg List.length hks; rw [List.length_map, List.length_map] at this; exact this
    walk_at "r"
    intro E nE
    have e1 := w_new (o := .dK []) nE
    have nED : E ≠ D := fun z => by rw [z, hD] at nE; cases nE
    have hE : upd H E (.dK []) E = some (.dK []) := upd_same
    generalize upd H E (.dK []) = H1 at e1 hE ⊢
    have hD1 := e1 _ _ hD
    walk_at "r"
    refine ⟨D, .dK kvs, hD1, by first | trivial | exact True.intro, fun od => ?_⟩
    refine ⟨.ref D, rfl, D, od, rfl, .inl ⟨kvs, upd_same, for_leaf walk_keys (fun j σ' G => G D = some (.frz od (.dK kvs)) ∧ (∀ c o, c ≠ D → H c = some o → G c = some o) ∧ Fd a.C_Ratio G E (ks.take j) f ∧ ∃ v2 v3 : Option V, σ' = [some (.ref D), some (.ref E), v2, v3])
      ⟨upd_same, fun c o n h => by rw [upd_ne n]; exact e1 _ _ h, ⟨[], by rw [upd_ne nED]; exact hE, rfl, fun s m => absurd m List.not_mem_nil⟩, _, _, rfl⟩ (fun j σ' G _ h => h.1) ?_ ?_⟩⟩
    · rintro j x σ' G G' hj ⟨g1, g2, fd, v2, v3, rfl⟩ ⟨rfl, kk, vv, hkv, rfl⟩
      have hk : (kvs.map Prod.fst)[j]? = some kk := by rw [List.getElem?_map, hkv]; rfl
      rw [hks, List.getElem?_map] at hk
      obtain ⟨s0, hs0, rfl⟩ : ∃ s0, ks[j]? = some s0 ∧ Sum.inr s0 = kk := by
        cases e : ks[j]? with
        | none => rw [e] at hk; cases hk
        | some s0 => rw [e] at hk; exact ⟨s0, rfl, Option.some.inj hk⟩
      have m0 := List.mem_of_getElem? hs0
      have get : DGet G' D (.str s0) (some (.int (f s0))) := .inl ⟨kvs, Sum.inr s0, .inr ⟨od, g1⟩, rfl, (hval s0 m0).symm⟩
      have b0 := bd s0
      have ns := not_taken nd hs0
      have fin : ∀ (v : V) (G2 : Hp), Same G' G2 → F6 a.C_Ratio G2 v (f s0) → ∀ v3 : Option V, rSetD (.ref E) (.str s0) v G2 fun G3 => G3 D = some (.frz od (.dK kvs)) ∧ (∀ c o, c ≠ D → H c = some o → G3 c = some o) ∧ Fd a.C_Ratio G3 E (ks.take (j + 1)) f ∧ ∃ v2' v3' : Option V, [some (V.ref D), some (.ref E), some (.str s0), v3] = [some (.ref D), some (.ref E), v2', v3'] := fun v G2 e2 f6 v3 =>
        Fd.put (fd.same e2) ns f6 (by rw [List.length_take]; omega) fun G3 d3 b3 => ⟨b3 _ _ nED.symm (e2 _ _ g1), fun c o n h => b3 _ _ (ne_of_none h nE) (e2 _ _ (g2 c o n h)), by rw [take_snoc hs0]; exact d3, _, _, rfl⟩
      walk_at "r"
      refine ⟨D, _, rfl, get, ?_⟩
      walk_at "r"
      refine w_iteD (fun c6 => ?_) (fun c6 => ?_)
      · have c6' : f s0 % 6 = 0 := by injection c6
        walk_at "r"
        refine ⟨D, _, rfl, get, ?_⟩
        walk_at "r"
        refine w_tIf ?_
        walk_at "r"
        refine w_iteD (fun c4 => ?_) (fun c4 => ?_)
        · walk_at "r"
          refine ⟨D, _, rfl, get, ?_⟩
          walk_at "r"
          exact fin _ _ (w_same _) ⟨f s0 / 6, 1, .inl ⟨rfl, rfl⟩, ⟨by decide, Int.gcd_one_right _, by omega⟩⟩ _
        · walk_at "r"
          refine ⟨D, _, rfl, get, ?_⟩
          walk_at "r"
          refine mkq_leaf (by decide) (Sz.small (by decide)) fun p G2 t b np e2 rp nn => ?_
          walk_at "r"
          exact fin _ _ e2 ⟨t, b, .inr ⟨p, rfl, rp⟩, nn⟩ _
      · walk_at "r"
        refine w_tIf ?_
        walk_at "r"
        refine iteF ?_
        walk_at "r"
        refine ⟨D, _, rfl, get, ?_⟩
        walk_at "r"
        refine mkq_leaf (by decide) (Sz.small (by decide)) fun p G2 t b np e2 rp nn => ?_
        walk_at "r"
        exact fin _ _ e2 ⟨t, b, .inr ⟨p, rfl, rp⟩, nn⟩ _
    · rintro σ' G ⟨g1, g2, fd, v2, v3, rfl⟩
      rw [kl, List.take_length] at fd
      refine ⟨g1, ?_⟩
      have e2 : Same H (upd G D (.dK kvs)) := fun c o h => by
        by_cases e : c = D
        · subst e
          rw [hD] at h
          cases h
          exact upd_same
        · rw [upd_ne e]
          exact g2 c o e h
      walk_at "r"
      obtain ⟨kvs', h1, h2, h3⟩ := fd
      exact k E _ nE e2 ⟨kvs', by rw [upd_ne nED]; exact h1, h2, fun s m => let ⟨v, a, b⟩ := h3 s m; ⟨v, a, b.updD g1 fun _ _ _ z => by cases z⟩⟩
end
end RK8


namespace RK8
open PySem PySem.Spec L2 RK RZ StX PyProof.Rows
/-! ### what stands firm -/
def f1 (h : Str → Int) (fm : List Str) (t : Tie3) : List Str := if t.1 ∈ fm ∧ h t.2.1 = h t.1 - 6 * t.2.2 then fm ++ [t.2.1] else fm
def f2 (h : Str → Int) (fm : List Str) (t : Tie3) : List Str := if t.2.1 ∈ fm ∧ h t.1 = h t.2.1 - 6 * t.2.2 then fm ++ [t.1] else fm
def fstep (h : Str → Int) (fm : List Str) (t : Tie3) : List Str := f2 h (f1 h fm t) t
def ftour (h : Str → Int) (E : List Tie3) (fm : List Str) : List Str := E.foldl (fstep h) fm
def ftours (h : Str → Int) (E : List Tie3) (fm : List Str) : Nat → List Str
  | 0 => fm
  | n + 1 => ftour h E (ftours h E fm n)
theorem f1_sub {h : Str → Int} {fm : List Str} {t : Tie3} {u : Str} (m : u ∈ fm) : u ∈ f1 h fm t := by
  unfold f1
  split
  · exact List.mem_append_left _ m
  · exact m
theorem f2_sub {h : Str → Int} {fm : List Str} {t : Tie3} {u : Str} (m : u ∈ fm) : u ∈ f2 h fm t := by
  unfold f2
  split
  · exact List.mem_append_left _ m
  · exact m
theorem fstep_closed {h : Str → Int} {fm : List Str} {t : Tie3} (ne : t.1 ≠ t.2.1) : (t.1 ∈ fstep h fm t → h t.2.1 = h t.1 - 6 * t.2.2 → t.2.1 ∈ fstep h fm t) ∧ (t.2.1 ∈ fstep h fm t → h t.1 = h t.2.1 - 6 * t.2.2 → t.1 ∈ fstep h fm t) := by
  have a1 : ∀ u, u ∈ f1 h fm t → u ∈ fm ∨ (u = t.2.1) := fun u m => by
    unfold f1 at m
    split at m
    · rcases List.mem_append.mp m with m | m
      · exact .inl m
      · exact .inr (List.mem_singleton.mp m)
    · exact .inl m
  have a2 : ∀ u, u ∈ fstep h fm t → u ∈ f1 h fm t ∨ (u = t.1 ∧ t.2.1 ∈ f1 h fm t) := fun u m => by
    unfold fstep f2 at m
    split at m
    · rename_i c
      rcases List.mem_append.mp m with m | m
      · exact .inl m
      · exact .inr ⟨List.mem_singleton.mp m, c.1⟩
    · exact .inl m
  refine ⟨fun m e => ?_, fun m e => ?_⟩
  · rcases a2 _ m with m | ⟨_, m⟩
    · rcases a1 _ m with m | m
      · refine f2_sub ?_
        unfold f1
        rw [if_pos ⟨m, e⟩]
        exact List.mem_append_right _ (List.mem_singleton.mpr rfl)
      · exact absurd m ne
    · exact f2_sub m
  · rcases a2 _ m with m | ⟨z, _⟩
    · unfold fstep f2
      rw [if_pos ⟨m, e⟩]
      exact List.mem_append_right _ (List.mem_singleton.mpr rfl)
    · exact absurd z.symm ne
/-- h is kept by every tie -/
def Kept (h : Str → Int) (E : List Tie3) : Prop := ∀ t ∈ E, h t.2.1 - 6 * t.2.2 ≤ h t.1 ∧ h t.1 - 6 * t.2.2 ≤ h t.2.1
theorem Kept.walk {h : Str → Int} {E : List Tie3} (k : Kept h E) {p q : Str} {n : Int} (w : RPath.Wk E p q n) : h p - 6 * n ≤ h q := by
  induction w with
  | nil => omega
  | @fwd u v n w _ m ih => have := (k _ m).2; simp only at this; omega
  | @bwd u v n w _ m ih => have := (k _ m).1; simp only at this; omega
def Fj (roots : List Str) (d : RPath.Tab Str) (h : Str → Int) (fm : List Str) : Prop := ∀ l v x, l ∈ roots → d l v = some x → h v = h l - 6 * x → v ∈ fm
theorem Fj.relax {E : List Tie3} {roots : List Str} {d : RPath.Tab Str} {h : Str → Int} {fm : List Str} (j : Fj roots d h fm) (s : RPath.Sound E d) (k : Kept h E) {l u v : Str} {w : Int} (cl : u ∈ fm → h v = h u - 6 * w → v ∈ fm) (kv : h u - 6 * w ≤ h v) : Fj roots (RPath.relax d l u v w) h fm := by
  unfold RPath.relax
  cases e : d l u with
  | none => exact j
  | some y =>
    have put : Fj roots (RPath.put d l v (y + w)) h fm := fun a c' x hr hx hh => by
      by_cases z : a = l ∧ c' = v
      · rw [z.1, z.2, RPath.put_same] at hx
        cases hx
        rw [z.1] at hr
        rw [z.1, z.2] at hh
        rw [z.2]
        have hw := k.walk (s _ _ _ e)
        exact cl (j l u y hr e (by omega)) (by omega)
      · rw [RPath.put_ne d _ z] at hx
        exact j a c' x hr hx hh
    show Fj roots (RPath.low d l v (y + w)) h fm
    unfold RPath.low
    cases e2 : d l v with
    | none => exact put
    | some o =>
      show Fj roots (if y + w < o then _ else _) h fm
      by_cases lt : y + w < o
      · rw [if_pos lt]; exact put
      · rw [if_neg lt]; exact j
theorem both_fj {E : List Tie3} {roots : List Str} {t : Tie3} {h : Str → Int} {fm : List Str} (mt : t ∈ E) (k : Kept h E) (c : (t.1 ∈ fm → h t.2.1 = h t.1 - 6 * t.2.2 → t.2.1 ∈ fm) ∧ (t.2.1 ∈ fm → h t.1 = h t.2.1 - 6 * t.2.2 → t.1 ∈ fm)) : ∀ (ls : List Str) (d : RPath.Tab Str), RPath.Sound E d → Fj roots d h fm → RPath.Sound E (RPath.tour1 ls d t) ∧ Fj roots (RPath.tour1 ls d t) h fm
  | [], d, s, j => ⟨s, j⟩
  | l :: ls, d, s, j => by
    have s1 : RPath.Sound E (RPath.relax d l t.1 t.2.1 t.2.2) := by
      unfold RPath.relax
      cases e : d l t.1 with
      | none => exact s
      | some y => exact RPath.low_sound s (.fwd (s _ _ _ e) mt)
    exact both_fj mt k c ls (RPath.both d l t) (RPath.both_sound mt s) ((j.relax s k c.1 (k t mt).2).relax s1 k c.2 (k t mt).1)
theorem tour_fj {E : List Tie3} {roots : List Str} {h : Str → Int} (ls : List Str) (k : Kept h E) : ∀ (F : List Tie3) (d : RPath.Tab Str) (fm : List Str), (∀ t ∈ F, t ∈ E ∧ t.1 ≠ t.2.1) → RPath.Sound E d → Fj roots d h fm → RPath.Sound E (RPath.tour F ls d) ∧ Fj roots (RPath.tour F ls d) h (ftour h F fm)
  | [], d, fm, _, s, j => ⟨s, j⟩
  | t :: F, d, fm, hF, s, j => by
    obtain ⟨mt, ne⟩ := hF t List.mem_cons_self
    obtain ⟨s1, j1⟩ := both_fj (roots := roots) mt k (fstep_closed (h := h) (fm := fm) ne) ls d s fun l v x a b c => f2_sub (f1_sub (j l v x a b c))
    exact tour_fj ls k F (RPath.tour1 ls d t) (fstep h fm t) (fun u m => hF u (List.mem_cons_of_mem _ m)) s1 j1
theorem tours_fj {E : List Tie3} {roots : List Str} {h : Str → Int} (ls : List Str) (k : Kept h E) (ne : ∀ t ∈ E, t.1 ≠ t.2.1) {d : RPath.Tab Str} {fm : List Str} (s : RPath.Sound E d) (j : Fj roots d h fm) : ∀ n, RPath.Sound E (RPath.tours E ls d n) ∧ Fj roots (RPath.tours E ls d n) h (ftours h E fm n)
  | 0 => ⟨s, j⟩
  | n + 1 => let ⟨s', j'⟩ := tours_fj ls k ne s j n; tour_fj ls k E _ _ (fun t m => ⟨m, ne t m⟩) s' j'
theorem ftour_sub {h : Str → Int} {u : Str} : ∀ (E : List Tie3) (fm : List Str), u ∈ fm → u ∈ ftour h E fm
  | [], fm, m => m
  | t :: E, fm, m => ftour_sub E (fstep h fm t) (f2_sub (f1_sub m))
theorem ftours_sub {h : Str → Int} {u : Str} {E : List Tie3} {fm : List Str} (m : u ∈ fm) : ∀ n, u ∈ ftours h E fm n
  | 0 => m
  | n + 1 => ftour_sub E _ (ftours_sub m n)
theorem height_kept {ps : List Str} {es : List Tie3} {ls : List Ln3} {f g : Str → Int} (g1 : GoodParts ps) (g2 : GoodTies ps es) (lp : ∀ s ∈ ls, s.2.2 ∈ ps) : Kept (height6 ps es ls f g) es := fun t m =>
  ⟨height_closed g1 g2 lp (g2.pos t m) (g2.in1 t m) fun p n h => .bwd h m, height_closed g1 g2 lp (g2.pos t m) (g2.in2 t m) fun p n h => .fwd h m⟩
/-- every part stands firm in the end -/
theorem all_firm {ps : List Str} {es : List Tie3} {ls : List Ln3} {f g : Str → Int} {fm : List Str} (g1 : GoodParts ps) (g2 : GoodTies ps es) (lp : ∀ s ∈ ls, s.2.2 ∈ ps) (hz : ∀ v ∈ ps, height6 ps es ls f g v = 0 → v ∈ fm) (ht : ∀ s ∈ ls, f s.2.1 - g s.1 = height6 ps es ls f g s.2.2 → s.2.2 ∈ fm) {v : Str} (mv : v ∈ ps) : v ∈ ftours (height6 ps es ls f g) es fm ps.length := by
  have E := dist_exact g1 g2
  have k := height_kept (f := f) (g := g) g1 g2 lp
  rcases max_in (holds6 ps es v ls f g) 0 with h | h
  · exact ftours_sub (hz v mv h) _
  · obtain ⟨s, ms, x, hd, e⟩ := holds_of h
    have e : height6 ps es ls f g v = f s.2.1 - g s.1 - 6 * x := e
    have d0 := E.diag g2.pos (lp s ms)
    have up : f s.2.1 - g s.1 - 6 * 0 ≤ height6 ps es ls f g s.2.2 := (max_le (holds6 ps es s.2.2 ls f g) 0).2 _ (holds_mem (f := f) (g := g) ms d0)
    have dn := k.walk (E.sound _ _ _ hd)
    have root := ht s ms (by omega)
    have dia_ok : ∀ l v x, RPath.dia ps l v = some x → l = v ∧ x = 0 := fun l v x hx => by
      rw [RPath.dia_at] at hx
      by_cases c : l = v ∧ l ∈ ps
      · rw [if_pos c] at hx; cases hx; exact ⟨c.1, rfl⟩
      · rw [if_neg c] at hx; cases hx
    have sd : RPath.Sound es (RPath.dia ps) := fun p q x hx => by obtain ⟨rfl, rfl⟩ := dia_ok p q x hx; exact .nil _
    have j0 : Fj fm (RPath.dia ps) (height6 ps es ls f g) fm := fun l v x m hx _ => by obtain ⟨rfl, rfl⟩ := dia_ok l v x hx; exact m
    obtain ⟨_, j⟩ := tours_fj ps k g2.ne sd j0 ps.length
    have te := RPath.tours_exact g2.pos (fun t ht => ⟨g2.in1 t ht, g2.in2 t ht⟩) E (d := RPath.dia ps) sd (fun l hl => by rw [RPath.dia_at, if_pos ⟨rfl, hl⟩]) (lp s ms) mv
    exact j s.2.2 v x root (te.trans hd) (by omega)
end RK8


namespace RK8
open PySem PySem.Spec L2 RK RZ StX PyProof.Rows
section
variable {P : Program} {w : World} {K : PySem.W.Frag} {mg : Str → Option Value} {base : Heap} {a : Ad}
def spTurned (C : Addr) : Sp := fun vs H Q _ => ∃ (D : Addr) (ks : List Str) (f : Str → Int), vs = [.ref D] ∧ Fd C H D ks f ∧ ks.Nodup ∧ ks.length ≤ 20 ∧ ∀ E H', H E = none → Same H H' → Fd C H' E ks.reverse f → Q (.ref E) H'
theorem ok_turned (T : Txt K mg a) : FnOk P w K mg base CX0 1 a.f_turned a.d_turned ["_law_some"] (spTurned a.C_Ratio) := by
  refine T.F_turned.ok sc_turned (fun vs H Q E h => ?_) (fun cdv A outer s H vs Q E hr h => ?_)
  · obtain ⟨D, ks, f, rfl, _⟩ := h
    rfl
  · obtain ⟨D, ks, f, rfl, fd, nd, l20, k⟩ := h
    obtain ⟨kvs, hD, hks, hval⟩ := id fd
    refine ⟨_, (pss_cons (ps_set (i := 1) sc_turned.nd rfl (Or.inl rfl) pe_dnewK)
      (pss_cons (ps_for PassesOwn.never rfl (pi_list (pe_revL (pe_callTy (call_listD rfl) (by rfl) T.z_list (by decide +kernel) (pa_cons (pv 0) pa_nil)))) (pg_name (i := 2) sc_turned.nd rfl (Or.inl rfl)) (pss_one (ps_asg (pe_dget (hu_of hr) (pv 0) (pv 2) (fun _ _ => rfl)) (pg_sub (pv 1) (pv 2) (set_dict (hu_of hr))))))
      (pss_one (ps_ret (pv 1))))), ?_⟩
    walk_at "r"
    intro E nE
    have e1 := w_new (o := .dK []) nE
    unfold tRevL
    walk_at "r"
    refine ⟨D, kvs, rfl, .inl (e1 _ _ hD), fun p np => ?_⟩
    refine ⟨p, _, rfl, .inl (.inl upd_same), fun p2 np2 => ?_⟩
    have e2 := e1.trans ((w_new (o := .lst (kvs.map fun kv => kV kv.1)) np).trans (w_new (o := .lst (kvs.map fun kv => kV kv.1).reverse) np2))
    have eq : (kvs.map fun kv => kV kv.1).reverse = ks.reverse.map V.str := by
      rw [← List.map_reverse, List.map_reverse, ← show ks.map V.str = kvs.map fun kv => kV kv.1 from ?_, List.map_reverse]
      have : (kvs.map Prod.fst).map kV = (ks.map (Sum.inr : Str → Key)).map kV := by rw [hks]
      rw [List.map_map, List.map_map] at this
      exact this.symm
    have hE : (upd (upd (upd H E (.dK [])) p (.lst (kvs.map fun kv => kV kv.1))) p2 (.lst (kvs.map fun kv => kV kv.1).reverse)) E = some (.dK []) := (w_new np2) _ _ ((w_new np) _ _ upd_same)
    have hM : (upd (upd (upd H E (.dK [])) p (.lst (kvs.map fun kv => kV kv.1))) p2 (.lst (kvs.map fun kv => kV kv.1).reverse)) p2 = some (.lst (ks.reverse.map V.str)) := by rw [upd_same, eq]
    generalize upd (upd (upd H E (.dK [])) p (.lst (kvs.map fun kv => kV kv.1))) p2 (.lst (kvs.map fun kv => kV kv.1).reverse) = H2 at *
    have nd2 : ks.reverse.Nodup := by
      unfold List.Nodup
      rw [List.pairwise_reverse]
      exact List.Pairwise.imp (fun h z => h z.symm) nd
    have nE2 : p2 ≠ E := fun z => by rw [z, hE] at hM; cases hM
    refine ⟨p2, rfl, ⟨_, .inl (.inl hM)⟩, for_leaf (walk_list (xs := ks.reverse.map V.str)) (fun i σ' G => Same H G ∧ G p2 = some (.lst (ks.reverse.map V.str)) ∧ Fd a.C_Ratio G E (ks.reverse.take i) f ∧ ∃ v2, σ' = [some (.ref D), some (.ref E), v2]) ⟨e2, hM, ⟨[], hE, rfl, fun s m => absurd m List.not_mem_nil⟩, _, rfl⟩ (fun i σ' G _ ⟨_, h, _⟩ => .inl (.inl h)) ?_ ?_⟩
    · rintro i x σ' G G' hi ⟨e, hG, fe, v2, rfl⟩ ⟨rfl, hx⟩
      obtain ⟨s, hs, rfl⟩ := map_at hx
      have ms : s ∈ ks := List.mem_reverse.mp (List.mem_of_getElem? hs)
      obtain ⟨v, gv, f6⟩ := (fd.same e).at_ ms
      walk_at "r"
      refine ⟨D, v, rfl, gv, ?_⟩
      walk_at "r"
      refine Fd.put fe (not_taken nd2 hs) f6 (by rw [List.length_take, List.length_reverse]; omega) fun G3 d3 b3 => ?_
      exact ⟨But.sameOf e b3 nE, b3 _ _ nE2 hG, by rw [take_snoc hs]; exact d3, _, rfl⟩
    · rintro σ' G ⟨e, hG, fe, v2, rfl⟩
      rw [List.length_map, List.take_length] at fe
      walk_at "r"
      exact k E G nE e fe
theorem eq_of2 {α : Type} {ys : List V} {us : List α} {F : α → V} (hl : ys.length = us.length) (h : ∀ (i : Nat) (v : V) (u : α), ys[i]? = some v → us[i]? = some u → v = F u) : ys = us.map F :=
  eq_map F hl fun i v hv => by
    have hi : i < us.length := by rw [← hl]; exact (List.getElem?_eq_some_iff.mp hv).1
    exact ⟨us[i], List.getElem?_eq_getElem hi, h i v _ hv (List.getElem?_eq_getElem hi)⟩
def fm0 (ps : List Str) (h : Str → Int) : List Str := ps.filterMap fun s => if h s = 0 then some s else none
def fm1 (ls : List Ln3) (f g h : Str → Int) : List Str := ls.filterMap fun s => if f s.2.1 - g s.1 = h s.2.2 then some s.2.2 else none
def spLeast (K : PySem.W.Frag) : Sp := fun vs H Q _ => ∃ (t Dp Dl Df : Addr) (ps : List Str) (es : List Tie3) (hk : Str) (ls : List Ln3) (k1 k2 : List Str) (f g : Str → Int), vs = [.ref t, .ref Dp, .ref Dl, .ref Df] ∧ Shp K H t ps es hk ls ∧ Idc H Dp k1 f ∧ (∀ s ∈ ls, s.2.1 ∈ k1) ∧ Idc H Dl k2 g ∧ (∀ s ∈ ls, s.1 ∈ k2) ∧ Idc H Df ps (height6 ps es ls f g) ∧ ∀ H', Same H H' → Q (.bl true) H'
theorem ok_is_least (T : Txt K mg a) : FnOk P w K mg base CX0 1 a.f_is_least a.d_is_least ["_law_shape_here", "_law_pegs_at", "_law_longs_here", "_law_found"] (spLeast K) := by
  refine T.F_is_least.ok sc_is_least (fun vs H Q E h => ?_) (fun cdv A outer s H vs Q E hr h => ?_)
  · obtain ⟨t, Dp, Dl, Df, ps, es, hk, ls, k1, k2, f, g, rfl, _⟩ := h
    rfl
  · obtain ⟨t, Dp, Dl, Df, ps, es, hk, ls, k1, k2, f, g, rfl, sh, ip, inp, il, inl', ih, k⟩ := h
    obtain ⟨tp, te, tl, ht, hp, ⟨as, hu, lu, urow⟩, ⟨bs, hl, ll, lrow⟩⟩ := id sh.at_
    have lu2 : as.length = es.length := by rw [lu, List.length_map]
    have ll2 : bs.length = ls.length := by rw [ll, List.length_map]
    have ml : (ps.map V.str).length = ps.length := List.length_map ..
    have p6 := sh.good.parts.few
    refine ⟨_, (pss_cons (ps_set (i := 4) sc_is_least.nd rfl (Or.inr rfl) (pe_lc (own := [("_law_limb", 9)]) (g := gName 9) rfl sc_is_least.nd (pi_tup (pe_ix ix_tup (pv 0) pe_int (fun _ _ => rfl))) (blkOk_by (own := [("_law_limb", 9)]) (N := ["_law_shape_here", "_law_pegs_at", "_law_longs_here", "_law_found", "_law_firm", "_law_turn", "_law_one_here", "_law_two", "_law_reach", "_law_limb", "_law_line"]) (sc := defScope s_is_least) (by decide +kernel)) (fun _ _ _ _ _ => pg_name (i := 9) sc_is_least.nd rfl (Or.inl rfl)) (fun _ _ _ _ _ => (pts_one (pt_cmpR op_eq (pe_dget (hu_of hr) (pv 3) (pv 9) (fun _ _ => rfl)) pe_int (nomark _)))) (fun _ _ _ _ _ => by exact (pv 9))))
      (pss_cons (ps_set (i := 4) sc_is_least.nd rfl (Or.inr rfl) (pe_op op_cat (pv 4) (pe_lc (own := [("_law_line", 10)]) (g := gName 10) rfl sc_is_least.nd (pi_tup (pe_ix ix_tup (pv 0) pe_int (fun _ _ => rfl))) (blkOk_by (own := [("_law_line", 10)]) (N := ["_law_shape_here", "_law_pegs_at", "_law_longs_here", "_law_found", "_law_firm", "_law_turn", "_law_one_here", "_law_two", "_law_reach", "_law_limb", "_law_line"]) (sc := defScope s_is_least) (by decide +kernel)) (fun _ _ _ _ _ => pg_name (i := 10) sc_is_least.nd rfl (Or.inl rfl)) (fun _ _ _ _ _ => (pts_one (pt_cmpR op_eq (pe_op op_sub (pe_dget (hu_of hr) (pv 1) (pe_ix (show IxR _ (rIxT K) from ix_tup) (pv 10) pe_int (fun _ _ => rfl)) (fun _ _ => rfl)) (pe_dget (hu_of hr) (pv 2) (pe_ix (show IxR _ (rIxT K) from ix_tup) (pv 10) pe_int (fun _ _ => rfl)) (fun _ _ => rfl))) (pe_dget (hu_of hr) (pv 3) (pe_ix (show IxR _ (rIxT K) from ix_tup) (pv 10) pe_int (fun _ _ => rfl)) (fun _ _ => rfl)) (nomark _)))) (fun _ _ _ _ _ => by exact (pe_ix (show IxR _ (rIxT K) from ix_tup) (pv 10) pe_int (fun _ _ => rfl))))))
      (pss_cons (ps_for PassesOwn.never rfl (pi_range1 (by rfl) T.z_range (pa_cons (pe_callB cr_len (by rfl) T.z_len PySem.boot_len (pa_cons (pe_ix ix_tup (pv 0) pe_int (fun _ _ => rfl)) pa_nil)) pa_nil)) (pg_name (i := 5) sc_is_least.nd rfl (Or.inl rfl)) (pss_one (ps_for PassesOwn.never rfl (pi_tup (pe_ix ix_tup (pv 0) pe_int (fun _ _ => rfl))) (pg_tup rfl (pgs_cons (pg_name (i := 6) sc_is_least.nd rfl (Or.inl rfl)) (pgs_cons (pg_name (i := 7) sc_is_least.nd rfl (Or.inl rfl)) (pgs_cons (pg_name (i := 8) sc_is_least.nd rfl (Or.inl rfl)) pgs_nil)))) (pss_cons (ps_if (pt_cmpR op_gt (pe_callB cr_abs (by rfl) T.z_abs (by decide +kernel) (pa_cons (pe_op op_sub (pe_dget (hu_of hr) (pv 3) (pv 6) (fun _ _ => rfl)) (pe_dget (hu_of hr) (pv 3) (pv 7) (fun _ _ => rfl))) pa_nil)) (pe_op op_mul pe_int (pv 8)) (nomark _)) (pss_one (ps_ret pe_bl)) pss_nil)
      (pss_cons (ps_if (PW.pt (pw_and (pt_cmpR op_in_seq (pv 6) (pv 4) (by rfl)) (pw_and1 (pt_cmpR op_eq (pe_dget (hu_of hr) (pv 3) (pv 7) (fun _ _ => rfl)) (pe_op op_sub (pe_dget (hu_of hr) (pv 3) (pv 6) (fun _ _ => rfl)) (pe_op op_mul pe_int (pv 8))) (nomark _))))) (pss_one (ps_expr (pe_bm PySem.F.plainAttrs_list PySem.F.slot_list_append PySem.F.type_list_append mt_append (pv 4) (pa_cons (pv 7) pa_nil)))) pss_nil)
      (pss_one (ps_if (PW.pt (pw_and (pt_cmpR op_in_seq (pv 7) (pv 4) (by rfl)) (pw_and1 (pt_cmpR op_eq (pe_dget (hu_of hr) (pv 3) (pv 6) (fun _ _ => rfl)) (pe_op op_sub (pe_dget (hu_of hr) (pv 3) (pv 7) (fun _ _ => rfl)) (pe_op op_mul pe_int (pv 8))) (nomark _))))) (pss_one (ps_expr (pe_bm PySem.F.plainAttrs_list PySem.F.slot_list_append PySem.F.type_list_append mt_append (pv 4) (pa_cons (pv 6) pa_nil)))) pss_nil)))))))
      (pss_cons (ps_if (pt_cmpR (op_neD hr.units) (pe_lc (own := [("_law_line", 10)]) (g := gName 10) rfl sc_is_least.nd (pi_tup (pe_ix ix_tup (pv 0) pe_int (fun _ _ => rfl))) (blkOk_by (own := [("_law_line", 10)]) (N := ["_law_shape_here", "_law_pegs_at", "_law_longs_here", "_law_found", "_law_firm", "_law_turn", "_law_one_here", "_law_two", "_law_reach", "_law_limb", "_law_line"]) (sc := defScope s_is_least) (by decide +kernel)) (fun _ _ _ _ _ => pg_name (i := 10) sc_is_least.nd rfl (Or.inl rfl)) (fun _ _ _ _ _ => (pts_one (pt_cmpR op_lt (pe_dget (hu_of hr) (pv 3) (pe_ix (show IxR _ (rIxT K) from ix_tup) (pv 10) pe_int (fun _ _ => rfl)) (fun _ _ => rfl)) (pe_op op_sub (pe_dget (hu_of hr) (pv 1) (pe_ix (show IxR _ (rIxT K) from ix_tup) (pv 10) pe_int (fun _ _ => rfl)) (fun _ _ => rfl)) (pe_dget (hu_of hr) (pv 2) (pe_ix (show IxR _ (rIxT K) from ix_tup) (pv 10) pe_int (fun _ _ => rfl)) (fun _ _ => rfl))) (nomark _)))) (fun _ _ _ _ _ => by exact (pv 10))) (pe_lst pa_nil) (nomark _)) (pss_one (ps_ret pe_bl)) pss_nil)
      (pss_one (ps_ret (pe_callB (cr_all rfl) (by rfl) T.z_all (by decide +kernel) (pa_cons (pe_lc (own := [("_law_limb", 9)]) (g := gName 9) (tt := tYes) rfl sc_is_least.nd (pi_tup (pe_ix ix_tup (pv 0) pe_int (fun _ _ => rfl))) (blkOk_by (own := [("_law_limb", 9)]) (N := ["_law_shape_here", "_law_pegs_at", "_law_longs_here", "_law_found", "_law_firm", "_law_turn", "_law_one_here", "_law_two", "_law_reach", "_law_limb", "_law_line"]) (sc := defScope s_is_least) (by decide +kernel)) (fun _ _ _ _ _ => pg_name (i := 9) sc_is_least.nd rfl (Or.inl rfl)) (fun _ _ _ _ _ => pts_nil) (fun _ _ _ _ _ => by exact (pe_and (pe_cmpR (show OpR _ _ (rIn K false) from op_in_seq) (pv 9) (pv 4) (by rfl)) (pe_one (pe_cmpR op_ge (pe_dget (hu_of hr) (pv 3) (pv 9) (fun _ _ => rfl)) pe_int (nomark _)))))) pa_nil)))))))), ?_⟩
    walk_at "r"
    refine ⟨t, _, 0, .ref tp, rfl, rfl, ht, rfl, tp, rfl, ⟨_, hp⟩, cmF (walk_tup (xs := ps.map V.str)) (by omega) (fun G e => seqT_same e hp) ps ml.symm (fun s => if height6 ps es ls f g s = 0 then some s else none) (fun v u _ => v = .str u) (fun _ _ _ _ _ h => h) (fun i x s G G' hi e hy Q' N kq kn => ?_) (fun L1 ys H1 n1 e1 h1 hn1 hR1 => ?_)⟩
    · obtain ⟨rfl, hx⟩ := hy
      obtain ⟨s', hs, rfl⟩ := map_at hx
      obtain rfl : s = s' := by rw [hi] at hs; exact Option.some.inj hs
      refine ⟨rfl, ?_⟩
      walk_at "r"
      refine ⟨Df, _, rfl, (ih.same e).get (List.mem_of_getElem? hs), ?_⟩
      walk_at "r"
      refine w_iteD (fun c => ?_) (fun c => ?_)
      · have c' : height6 ps es ls f g s = 0 := by injection c
        walk_at "r"
        exact kq _ s _ (by rw [if_pos c']) (w_same _) rfl
      · exact kn (by rw [if_neg (fun z => c (congrArg V.int z))]) _ (w_same _)
    obtain rfl : ys = (fm0 ps (height6 ps es ls f g)).map V.str := eq_of2 hn1 hR1
    walk_at "r"
    refine ⟨t, _, 3, .ref tl, rfl, rfl, seqT_same e1 ht, rfl, tl, rfl, ⟨_, seqT_same e1 hl⟩, cmF (walk_tup (xs := bs.map V.ref)) (by rw [List.length_map, ll2]; have := sh.l4; omega) (fun G e => seqT_same (e1.trans e) hl) ls (by rw [List.length_map, ll2]) (fun s => if f s.2.1 - g s.1 = height6 ps es ls f g s.2.2 then some s.2.2 else none) (fun v u _ => v = .str u) (fun _ _ _ _ _ h => h) (fun i x s G G' hi e hy Q' N kq kn => ?_) (fun M2 ys H2 n2 e2 h2 hn2 hR2 => ?_)⟩
    · obtain ⟨rfl, hx⟩ := hy
      obtain ⟨r, v, rfl, hv, hrr⟩ := rows_at ll lrow hx
      obtain ⟨s', he, rfl⟩ := map_atL hv
      obtain rfl : s = s' := by rw [hi] at he; exact Option.some.inj he
      have ms := List.mem_of_getElem? hi
      have e' := e1.trans e
      have hr2 := seqT_same e' hrr
      refine ⟨rfl, ?_⟩
      walk_at "r"
      refine ⟨r, _, 1, .str s.2.1, rfl, rfl, hr2, rfl, ?_⟩
      refine ⟨Dp, _, rfl, (ip.same e').get (inp s ms), ?_⟩
      walk_at "r"
      refine ⟨r, _, 0, .str s.1, rfl, rfl, hr2, rfl, ?_⟩
      refine ⟨Dl, _, rfl, (il.same e').get (inl' s ms), ?_⟩
      walk_at "r"
      refine ⟨r, _, 2, .str s.2.2, rfl, rfl, hr2, rfl, ?_⟩
      refine ⟨Df, _, rfl, (ih.same e').get (sh.good.lns.part s ms), ?_⟩
      walk_at "r"
      refine w_iteD (fun c => ?_) (fun c => ?_)
      · have c' : f s.2.1 - g s.1 = height6 ps es ls f g s.2.2 := by injection c
        walk_at "r"
        refine ⟨r, _, 2, .str s.2.2, rfl, rfl, hr2, rfl, ?_⟩
        exact kq _ s.2.2 _ (by rw [if_pos c']) (w_same _) rfl
      · exact kn (by rw [if_neg (fun z => c (congrArg V.int z))]) _ (w_same _)
    obtain rfl : ys = (fm1 ls f g (height6 ps es ls f g)).map V.str := eq_of2 hn2 hR2
    walk_at "r"
    have len0 : (fm0 ps (height6 ps es ls f g)).length ≤ 6 := Nat.le_trans (List.length_filterMap_le _ _) p6
    have len1 : (fm1 ls f g (height6 ps es ls f g)).length ≤ 4 := Nat.le_trans (List.length_filterMap_le _ _) sh.l4
    refine ⟨L1, M2, _, _, rfl, rfl, e2 _ _ h1, h2, Nat.le_trans (show _ ≤ 10 by rw [List.length_map, List.length_map]; omega) (by decide), fun F nF => ?_⟩
    have e3 := (e1.trans e2).trans (w_new (o := .lst ((fm0 ps (height6 ps es ls f g)).map V.str ++ (fm1 ls f g (height6 ps es ls f g)).map V.str)) nF)
    have nF0 : H F = none := none_of (e1.trans e2) nF
    have hF : (upd H2 F (.lst ((fm0 ps (height6 ps es ls f g)).map V.str ++ (fm1 ls f g (height6 ps es ls f g)).map V.str))) F = some (.lst ((fm0 ps (height6 ps es ls f g) ++ fm1 ls f g (height6 ps es ls f g)).map V.str)) := by rw [upd_same, List.map_append]
    generalize upd H2 F (.lst ((fm0 ps (height6 ps es ls f g)).map V.str ++ (fm1 ls f g (height6 ps es ls f g)).map V.str)) = H3 at *
    have roots0 : ∀ v ∈ ps, height6 ps es ls f g v = 0 → v ∈ fm0 ps (height6 ps es ls f g) ++ fm1 ls f g (height6 ps es ls f g) := fun v mv z => List.mem_append_left _ (List.mem_filterMap.mpr ⟨v, mv, by rw [if_pos z]⟩)
    have roots1 : ∀ s ∈ ls, f s.2.1 - g s.1 = height6 ps es ls f g s.2.2 → s.2.2 ∈ fm0 ps (height6 ps es ls f g) ++ fm1 ls f g (height6 ps es ls f g) := fun s ms z => List.mem_append_right _ (List.mem_filterMap.mpr ⟨s, ms, by rw [if_pos z]⟩)
    have len2 : (fm0 ps (height6 ps es ls f g) ++ fm1 ls f g (height6 ps es ls f g)).length ≤ 10 := by rw [List.length_append]; omega
    have firm := fun v mv => all_firm (f := f) (g := g) sh.good.parts sh.good.ties sh.good.lns.part roots0 roots1 (v := v) mv
    have kept := height_kept (f := f) (g := g) sh.good.parts sh.good.ties sh.good.lns.part
    have up0 : ∀ s ∈ ls, f s.2.1 - g s.1 ≤ height6 ps es ls f g s.2.2 := fun s ms => by
      have d0 := (dist_exact sh.good.parts sh.good.ties).diag sh.good.ties.pos (sh.good.lns.part s ms)
      have : f s.2.1 - g s.1 - 6 * 0 ≤ height6 ps es ls f g s.2.2 := (max_le (holds6 ps es s.2.2 ls f g) 0).2 _ (holds_mem (f := f) (g := g) ms d0)
      omega
    have pos0 : ∀ v, 0 ≤ height6 ps es ls f g v := fun v => (max_le (holds6 ps es v ls f g) 0).1
    generalize fm0 ps (height6 ps es ls f g) ++ fm1 ls f g (height6 ps es ls f g) = fm at *
    clear hR1 hR2 hn1 hn2 h1 h2 len0 len1 roots0 roots1
    generalize height6 ps es ls f g = h at *
    walk_at "r"
    refine ⟨t, _, 0, .ref tp, rfl, rfl, seqT_same e3 ht, rfl, ?_⟩
    walk_at "r"
    refine w_lenT (seqT_same e3 hp) ?_
    walk_at "r"
    refine ⟨ps.length, by rw [ml], by omega, by omega, for_leaf (walk_rng0 (n := ps.length)) (fun i σ' G => Same H G ∧ G F = some (.lst ((ftours (h) es fm i).map V.str)) ∧ (ftours (h) es fm i).length ≤ 10 + 20 * i ∧ ∃ v5 v6 v7 v8, σ' = [some (.ref t), some (.ref Dp), some (.ref Dl), some (.ref Df), some (.ref F), v5, v6, v7, v8, none, none]) ⟨e3, hF, len2, _, _, _, _, rfl⟩ (fun _ _ _ _ _ => trivial) ?_ ?_⟩
    · rintro i x σ' G G' hi ⟨e, hG, hlen, v5, v6, v7, v8, rfl⟩ ⟨rfl, rfl⟩
      walk_at "r"
      refine ⟨t, _, 1, .ref te, rfl, rfl, seqT_same e ht, rfl, te, rfl, ⟨_, seqT_same e hu⟩, for_leaf (walk_tup (xs := as.map V.ref)) (fun j σ' G => Same H G ∧ G F = some (.lst ((ftour h (es.take j) (ftours h es fm i)).map V.str)) ∧ (ftour h (es.take j) (ftours h es fm i)).length ≤ 10 + 20 * i + 2 * j ∧ ∃ v5 v6 v7 v8, σ' = [some (.ref t), some (.ref Dp), some (.ref Dl), some (.ref Df), some (.ref F), v5, v6, v7, v8, none, none]) ⟨e, hG, hlen, _, _, _, _, rfl⟩ (fun i σ' G _ ⟨e, _⟩ => seqT_same e hu) ?_ ?_⟩
      · rintro j x σ' G G' hj ⟨e, hG, hlen, v5, v6, v7, v8, rfl⟩ ⟨rfl, hx⟩
        obtain ⟨r, v, rfl, hv, hrr⟩ := rows_at lu urow hx
        obtain ⟨u, hu', rfl⟩ := map_atL hv
        have mu := List.mem_of_getElem? hu'
        have m1 := sh.good.ties.in1 u mu
        have m2 := sh.good.ties.in2 u mu
        have w0 := sh.good.ties.pos u mu
        have w1 := sh.r20 u mu
        have ku := kept u mu
        have jb : j < 10 := by rw [List.length_map] at hj; have := sh.good.ties.few; omega
        have ib : i < 6 := by omega
        have tk : ftour h (es.take (j + 1)) (ftours h es fm i) = fstep h (ftour h (es.take j) (ftours h es fm i)) u := by
          unfold ftour
          rw [take_snoc hu', List.foldl_append]
          rfl
        rw [tk]
        revert hG hlen
        generalize ftour h (es.take j) (ftours h es fm i) = cur
        intro hlen hG
        refine g_three (seqT_same e hrr) ?_
        walk_at "r"
        refine ⟨Df, _, rfl, (ih.same e).get m1, ?_⟩
        walk_at "r"
        refine ⟨Df, _, rfl, (ih.same e).get m2, ?_⟩
        walk_at "r"
        refine w_iteD (fun c => ?_) (fun _ => ?_)
        · exfalso
          split at c <;> omega
        with_reducible refine w_next ?_
        with_reducible refine w_seq ?_
        with_reducible refine s_cut (fun σ2 G2 => σ2 = [some (.ref t), some (.ref Dp), some (.ref Dl), some (.ref Df), some (.ref F), v5, some (.str u.1), some (.str u.2.1), some (.int u.2.2), none, none] ∧ Same H G2 ∧ G2 F = some (.lst ((f1 h cur u).map V.str)) ∧ (f1 h cur u).length ≤ cur.length + 1) (fun N all => ?_) ?_
        · walk_at "r"
          refine in_leaf (.inl (.inl (.inl hG))) ?_
          walk_at "r"
          refine w_iteD (fun c1 => ?_) (fun c1 => ?_)
          · walk_at "r"
            refine ⟨Df, _, rfl, (ih.same e).get m2, ?_⟩
            walk_at "r"
            refine ⟨Df, _, rfl, (ih.same e).get m1, ?_⟩
            walk_at "r"
            refine w_iteD (fun c2 => ?_) (fun c2 => ?_)
            · have c2' : h u.2.1 = h u.1 - 6 * u.2.2 := by injection c2
              walk_at "r"
              refine ⟨.inl ⟨rfl, _, .inl (.inl hG)⟩, ?_⟩
              walk_at "r"
              refine w_app hG (by rw [List.length_map]; omega) fun G5 g5 => ?_
              have gg : G5 F = some (.lst ((f1 h cur u).map V.str)) := by
                unfold f1
                rw [if_pos ⟨c1, c2'⟩, g5.at_, List.map_append]
                rfl
              have gl : (f1 h cur u).length ≤ cur.length + 1 := by
                unfold f1
                rw [if_pos ⟨c1, c2'⟩, List.length_append]
                exact Nat.le_refl _
              have ge : Same H G5 := fun c o hh => g5.keep _ _ (ne_of_none hh nF0) (e c o hh)
              exact all _ _ ⟨rfl, ge, gg, by omega⟩
            · have gl : (f1 h cur u) = cur := by unfold f1; rw [if_neg (fun z => c2 (congrArg V.int z.2))]
              exact all _ _ ⟨rfl, e, by rw [gl]; exact hG, by rw [gl]; omega⟩
          · have gl : (f1 h cur u) = cur := by unfold f1; rw [if_neg (fun z => c1 z.1)]
            exact all _ _ ⟨rfl, e, by rw [gl]; exact hG, by rw [gl]; omega⟩
        rintro σ2 G2 ⟨rfl, e2x, hG2, hl2⟩
        · walk_at "r"
          refine in_leaf (.inl (.inl (.inl hG2))) ?_
          walk_at "r"
          refine w_iteD (fun c1 => ?_) (fun c1 => ?_)
          · walk_at "r"
            refine ⟨Df, _, rfl, (ih.same e2x).get m1, ?_⟩
            walk_at "r"
            refine ⟨Df, _, rfl, (ih.same e2x).get m2, ?_⟩
            walk_at "r"
            refine w_iteD (fun c2 => ?_) (fun c2 => ?_)
            · have c2' : h u.1 = h u.2.1 - 6 * u.2.2 := by injection c2
              walk_at "r"
              refine ⟨.inl ⟨rfl, _, .inl (.inl hG2)⟩, ?_⟩
              walk_at "r"
              refine w_app hG2 (by rw [List.length_map]; omega) fun G5 g5 => ?_
              have gg : G5 F = some (.lst ((f2 h (f1 h cur u) u).map V.str)) := by
                unfold f2
                rw [if_pos ⟨c1, c2'⟩, g5.at_, List.map_append]
                rfl
              have gl : (f2 h (f1 h cur u) u).length ≤ (f1 h cur u).length + 1 := by
                unfold f2
                rw [if_pos ⟨c1, c2'⟩, List.length_append]
                exact Nat.le_refl _
              have ge : Same H G5 := fun c o hh => g5.keep _ _ (ne_of_none hh nF0) (e2x c o hh)
              exact ⟨ge, gg, by show (f2 h (f1 h cur u) u).length ≤ _; omega, _, _, _, _, rfl⟩
            · have gl : (f2 h (f1 h cur u) u) = (f1 h cur u) := by unfold f2; rw [if_neg (fun z => c2 (congrArg V.int z.2))]
              exact ⟨e2x, by show _ = some (HO.lst ((f2 h (f1 h cur u) u).map V.str)); rw [gl]; exact hG2, by show (f2 h (f1 h cur u) u).length ≤ _; rw [gl]; omega, _, _, _, _, rfl⟩
          · have gl : (f2 h (f1 h cur u) u) = (f1 h cur u) := by unfold f2; rw [if_neg (fun z => c1 z.1)]
            exact ⟨e2x, by show _ = some (HO.lst ((f2 h (f1 h cur u) u).map V.str)); rw [gl]; exact hG2, by show (f2 h (f1 h cur u) u).length ≤ _; rw [gl]; omega, _, _, _, _, rfl⟩
      · rintro σ' G ⟨e, hG, hlen, v5, v6, v7, v8, rfl⟩
        rw [List.length_map, lu2, List.take_length] at hG hlen
        have := sh.good.ties.few
        exact ⟨e, hG, by show (ftour h es (ftours h es fm i)).length ≤ _; omega, _, _, _, _, rfl⟩
    rintro σ' G ⟨e, hG, hlen, v5, v6, v7, v8, rfl⟩
    walk_at "r"
    refine ⟨t, _, 3, .ref tl, rfl, rfl, seqT_same e ht, rfl, tl, rfl, ⟨_, seqT_same e hl⟩, cmF (walk_tup (xs := bs.map V.ref)) (by rw [List.length_map, ll2]; have := sh.l4; omega) (fun G' e' => seqT_same (e.trans e') hl) ls (by rw [List.length_map, ll2]) (fun _ => (none : Option Str)) (fun v u _ => True) (fun _ _ _ _ _ h => h) (fun i x s G1 G2 hi e1 hy Q' N kq kn => ?_) (fun L5 ys H5 n5 e5 h5 hn5 _ => ?_)⟩
    · obtain ⟨rfl, hx⟩ := hy
      obtain ⟨r, v, rfl, hv, hrr⟩ := rows_at ll lrow hx
      obtain ⟨s', he, rfl⟩ := map_atL hv
      obtain rfl : s = s' := by rw [hi] at he; exact Option.some.inj he
      have ms := List.mem_of_getElem? hi
      have e' := e.trans e1
      have hr2 := seqT_same e' hrr
      refine ⟨rfl, ?_⟩
      walk_at "r"
      refine ⟨r, _, 2, .str s.2.2, rfl, rfl, hr2, rfl, ?_⟩
      refine ⟨Df, _, rfl, (ih.same e').get (sh.good.lns.part s ms), ?_⟩
      walk_at "r"
      refine ⟨r, _, 1, .str s.2.1, rfl, rfl, hr2, rfl, ?_⟩
      refine ⟨Dp, _, rfl, (ip.same e').get (inp s ms), ?_⟩
      walk_at "r"
      refine ⟨r, _, 0, .str s.1, rfl, rfl, hr2, rfl, ?_⟩
      refine ⟨Dl, _, rfl, (il.same e').get (inl' s ms), ?_⟩
      walk_at "r"
      have u0 := up0 s ms
      refine w_iteD (fun c => absurd c (by omega)) (fun c => kn rfl _ (w_same _))
    obtain rfl : ys = [] := List.length_eq_zero_iff.mp (by rw [hn5]; induction ls with | nil => rfl | cons s r ih' => simp)
    walk_at "r"
    refine w_newL (by show 0 ≤ 100000; decide) fun L6 H6 n6 e6 h6 => ?_
    have hnil : SeqAt.shaped (.list []) = true := by decide +kernel
    refine ⟨.list [], .list [], .lst (SqL.of (e6 _ _ h5)) .nil, .lst (SqL.of h6) .nil, hnil, hnil, ?_⟩
    rw [SeqAt.eqv_refl _ (SeqAt.canLay_of_shaped hnil)]
    refine ⟨false, rfl, iteF ?_⟩
    walk_at "r"
    have e06 := e.trans (e5.trans e6)
    have hG6 := e6 _ _ (e5 _ _ hG)
    refine ⟨t, _, 0, .ref tp, rfl, rfl, seqT_same e06 ht, rfl, tp, rfl, ⟨_, seqT_same e06 hp⟩, cmS (walk_tup (xs := ps.map V.str)) (by omega) (fun G' e' => seqT_same (e06.trans e') hp) (fun _ v _ => v = .bl true) (fun _ _ _ _ _ h => h) (fun i x G1 G2 hi e1 hy Q' kq => ?_) (fun L7 ys H7 n7 e7 h7 hn7 hP => ?_)⟩
    · obtain ⟨rfl, hx⟩ := hy
      obtain ⟨s, hs, rfl⟩ := map_at hx
      have ms := List.mem_of_getElem? hs
      refine ⟨rfl, ?_⟩
      walk_at "r"
      refine in_leaf (.inl (.inl (.inl (e1 _ _ hG6)))) ?_
      rw [decide_eq_true (firm s ms)]
      refine ⟨true, rfl, iteT ?_⟩
      walk_at "r"
      refine ⟨Df, _, rfl, (ih.same (e06.trans e1)).get ms, ?_⟩
      walk_at "r"
      have := pos0 s
      refine kq _ _ (w_same _) ?_
      rw [decide_eq_true this]
    walk_at "r"
    exact all_P h7 hP (k _ (e06.trans e7))
end
end RK8


namespace RK8
open PySem PySem.Spec L2 RK RZ StX PyProof.Rows
/-! ### distances of drawn puppets are small -/
def Ba (k : Nat) (d : RPath.Tab Str) : Prop := ∀ p q x, d p q = some x → x ≤ 20 * (k : Int)
theorem Ba.up {j k : Nat} {d : RPath.Tab Str} (b : Ba j d) (h : j ≤ k) : Ba k d := fun p q x e => by have := b p q x e; omega
theorem Ba.put {k : Nat} {d : RPath.Tab Str} (b : Ba k d) {p q : Str} {x : Int} (h : x ≤ 20 * (k : Int)) : Ba k (RPath.put d p q x) := fun a c y e => by
  by_cases z : a = p ∧ c = q
  · rw [z.1, z.2, RPath.put_same] at e
    cases e
    exact h
  · rw [RPath.put_ne d x z] at e
    exact b a c y e
theorem Ba.relax {k : Nat} {d : RPath.Tab Str} (b : Ba k d) (l u v : Str) {w : Int} (hw : w ≤ 20) : Ba (k + 1) (RPath.relax d l u v w) := by
  have up := b.up (Nat.le_succ k)
  unfold RPath.relax
  cases e : d l u with
  | none => exact up
  | some y =>
    have s : y + w ≤ 20 * ((k + 1 : Nat) : Int) := by have := b _ _ _ e; omega
    show Ba (k + 1) (RPath.low d l v (y + w))
    unfold RPath.low
    cases e2 : d l v with
    | none => exact up.put s
    | some o =>
      show Ba (k + 1) (if y + w < o then _ else _)
      by_cases lt : y + w < o
      · rw [if_pos lt]; exact up.put s
      · rw [if_neg lt]; exact up
theorem ba_tour1 {t : Tie3} (hw : t.2.2 ≤ 20) : ∀ (ls : List Str) (d : RPath.Tab Str) (k : Nat), Ba k d → Ba (k + 2 * ls.length) (RPath.tour1 ls d t)
  | [], d, k, b => b
  | l :: ls, d, k, b => (ba_tour1 hw ls (RPath.both d l t) (k + 2) ((b.relax l t.1 t.2.1 hw).relax l t.2.1 t.1 hw)).up (by rw [List.length_cons]; omega)
theorem ba_tour (ls : List Str) : ∀ (E : List Tie3) (d : RPath.Tab Str) (k : Nat), (∀ t ∈ E, t.2.2 ≤ 20) → Ba k d → Ba (k + 2 * ls.length * E.length) (RPath.tour E ls d)
  | [], d, k, _, b => b
  | t :: E, d, k, h, b => (ba_tour ls E (RPath.tour1 ls d t) (k + 2 * ls.length) (fun u m => h u (List.mem_cons_of_mem _ m)) (ba_tour1 (h t List.mem_cons_self) ls d k b)).up (by rw [List.length_cons, Nat.mul_succ]; omega)
theorem ba_tours (ls : List Str) (E : List Tie3) (d : RPath.Tab Str) (k : Nat) (h : ∀ t ∈ E, t.2.2 ≤ 20) (b : Ba k d) : ∀ n, Ba (k + 2 * ls.length * E.length * n) (RPath.tours E ls d n)
  | 0 => b
  | n + 1 => (ba_tour ls E _ _ h (ba_tours ls E d k h b n)).up (by rw [Nat.mul_succ]; omega)
theorem wk_turn {E : List Tie3} {p q : Str} {n : Int} (h : RPath.Wk E p q n) : RPath.Wk E q p n := by
  induction h with
  | nil => exact .nil _
  | @fwd u v n w _ m ih =>
    have := RPath.Wk.cat (.bwd (.nil v) m) ih
    rw [show n + w = 0 + w + n by omega]
    exact this
  | @bwd u v n w _ m ih =>
    have := RPath.Wk.cat (.fwd (.nil v) m) ih
    rw [show n + w = 0 + w + n by omega]
    exact this
theorem wk_out {ps : List Str} {es : List Tie3} (g : GoodTies ps es) {p q : Str} {n : Int} (w : RPath.Wk es p q n) (h : p ∉ ps) : q = p ∧ n = 0 := by
  induction w with
  | nil => exact ⟨rfl, rfl⟩
  | @fwd u v n w _ m ih => exact absurd (g.in1 _ m) (by rw [show ((u, v, w) : Tie3).1 = u from rfl, (ih).1]; exact h)
  | @bwd u v n w _ m ih => exact absurd (g.in2 _ m) (by rw [show ((v, u, w) : Tie3).2.1 = u from rfl, (ih).1]; exact h)
theorem dist9 {ps : List Str} {es : List Tie3} (g1 : GoodParts ps) (g : GoodTies ps es) (r20 : ∀ t ∈ es, t.2.2 ≤ 20) : ∀ x y z, dist ps es x y = some z → z.natAbs < 10 ^ 9 := fun x y z e => by
  have E := dist_exact g1 g
  have h0 := E.nonneg g.pos e
  by_cases mx : x ∈ ps
  · by_cases my : y ∈ ps
    · have dia_ok : ∀ l v x, RPath.dia ps l v = some x → l = v ∧ x = 0 := fun l v x hx => by
        rw [RPath.dia_at] at hx
        by_cases c : l = v ∧ l ∈ ps
        · rw [if_pos c] at hx; cases hx; exact ⟨c.1, rfl⟩
        · rw [if_neg c] at hx; cases hx
      have te := RPath.tours_exact g.pos (fun t ht => ⟨g.in1 t ht, g.in2 t ht⟩) E (d := RPath.dia ps) (fun p q x hx => by obtain ⟨rfl, rfl⟩ := dia_ok p q x hx; exact .nil _) (fun l hl => by rw [RPath.dia_at, if_pos ⟨rfl, hl⟩]) mx my
      have b := ba_tours ps es (RPath.dia ps) 0 r20 (fun p q x hx => by obtain ⟨_, rfl⟩ := dia_ok p q x hx; omega) ps.length
      have := b x y z (te.trans e)
      have l1 : 2 * ps.length * es.length * ps.length ≤ 2 * 6 * 10 * 6 := Nat.mul_le_mul (Nat.mul_le_mul (Nat.mul_le_mul_left 2 g1.few) g.few) g1.few
      omega
    · obtain ⟨_, rfl⟩ := wk_out g (wk_turn (E.sound _ _ _ e)) my
      decide
  · obtain ⟨_, rfl⟩ := wk_out g (E.sound _ _ _ e) mx
    decide
end RK8


namespace RK8
open PySem PySem.Spec L2 RK RZ StX PyProof.Rows
/-! what several laws over heights share -/
section
variable {P : Program} {w : World} {K : PySem.W.Frag} {mg : Str → Option Value} {base : Heap} {a : Ad}
theorem oNotEqqq {X : Cx} (T : Txt X.K X.mg a) (hr : Room 6 X.A) : OpR X (compareOp .NotEq) (rNeO a.C_Ratio (spEq X.K a.C_Ratio) E0) := op_neO T.me_Ratio_eq.at_ T.me_Ratio_eq.fn T.ne T.ob (ok_Ratio_eq T) hr T.b_Ratio_eq pass0
theorem Fd.congr {C : Addr} {H : Hp} {D : Addr} {ks : List Str} {f g : Str → Int} (h : Fd C H D ks f) (e : ∀ s ∈ ks, f s = g s) : Fd C H D ks g := let ⟨kvs, h1, h2, h3⟩ := h; ⟨kvs, h1, h2, fun s m => let ⟨v, a, b⟩ := h3 s m; ⟨v, a, by rw [← e s m]; exact b⟩⟩
theorem Idc.but {H G : Hp} {D E : Addr} {ks : List Str} {f : Str → Int} (h : Idc H D ks f) (b : But E H G) (n : D ≠ E) : Idc G D ks f := let ⟨kvs, h1, h2, h3⟩ := h; ⟨kvs, b _ _ n h1, h2, h3⟩
theorem Fd.but {C : Addr} {H G : Hp} {D E : Addr} {ks : List Str} {f : Str → Int} {kvs' : List (Key × V)} (h : Fd C H D ks f) (b : But E H G) (n : D ≠ E) (hE : H E = some (.dK kvs')) : Fd C G D ks f := let ⟨kvs, h1, h2, h3⟩ := h; ⟨kvs, b _ _ n h1, h2, fun s m => let ⟨v, a, t, bb, fr, nn⟩ := h3 s m; ⟨v, a, t, bb, by
  rcases fr with fr | ⟨q, rfl, r⟩
  · exact .inl fr
  · obtain ⟨dx, hob⟩ := r.ob
    exact .inr ⟨q, rfl, ⟨⟨dx, b _ _ (fun z => by rw [z, hE] at hob; cases hob) hob⟩, r.pos, r.cop⟩⟩, nn⟩⟩
theorem rise_nd {s : Str} (h : Rise s) : (sgs s).Nodup := by
  have far : ∀ (n i : Nat) (c d : Nat), s.cps[i]? = some c → s.cps[i + n + 1]? = some d → c < d := fun n => by
    induction n with
    | zero => exact fun i c d e e' => h i c d e e'
    | succ n ih =>
      intro i c d e e'
      have l := (Array.getElem?_eq_some_iff.mp e').1
      have em : s.cps[i + n + 1]? = some (s.cps[i + n + 1]'(by omega)) := Array.getElem?_eq_getElem (by omega)
      have h1 := ih i c _ e em
      have h2 := h (i + n + 1) _ d em e'
      omega
  refine List.pairwise_iff_getElem.mpr fun i j hi hj lt z => ?_
  unfold sgs at hi hj z
  rw [List.length_map, Array.length_toList] at hi hj
  rw [List.getElem_map, List.getElem_map] at z
  have hc : s.cps[i]? = some s.cps[i] := Array.getElem?_eq_getElem hi
  have hd : s.cps[i + (j - i - 1) + 1]? = some s.cps[j] := by rw [show i + (j - i - 1) + 1 = j by omega]; exact Array.getElem?_eq_getElem hj
  have l := far (j - i - 1) i _ _ hc hd
  have e : s.cps.toList[i]'(by rw [Array.length_toList]; exact hi) = s.cps.toList[j]'(by rw [Array.length_toList]; exact hj) := by injection z with z; injection z with z; injection z
  simp only [Array.getElem_toList] at e
  omega
theorem HtD.same {C : Addr} {H H' : Hp} {D : Addr} {ps : List Str} {h : Str → Int} (x : HtD C H D ps h) (e : Same H H') : HtD C H' D ps h := let ⟨kvs, h1, h2, h3⟩ := x; ⟨kvs, e _ _ h1, h2, fun s m => let ⟨q, t, b, a1, a2, a3⟩ := h3 s m; ⟨q, t, b, a1, a2.same e, a3⟩⟩
theorem dps_strs {K : PySem.W.Frag} {H : Hp} : ∀ ps : List Str, DpAll K H (ps.map V.str) (ps.map PyData.str)
  | [] => .nil
  | _ :: r => .cons (.str _) (dps_strs r)
theorem shaped_strs (ps : List Str) (ok : ∀ s ∈ ps, PyData.strOk s = true) : SeqAt.shaped (.list (ps.map PyData.str)) = true := by
  have : ∀ l : List Str, (∀ s ∈ l, PyData.strOk s = true) → PyData.canLayAll0 (l.map PyData.str) = true ∧ PyData.depthAll (l.map PyData.str) = 0 := fun l => by
    induction l with
    | nil => exact fun _ => ⟨by simp [PyData.canLayAll0], by simp [PyData.depthAll]⟩
    | cons s r ih =>
      intro hl
      have ih := ih fun u m => hl u (List.mem_cons_of_mem _ m)
      have h0 := hl s List.mem_cons_self
      exact ⟨by simp [PyData.canLayAll0, PyData.canLay0, ih.1, h0], by simp [PyData.depthAll, PyData.depth, ih.2]⟩
  obtain ⟨h1, h2⟩ := this ps ok
  simp [SeqAt.shaped, PyData.canLay0, PyData.depth, h1, h2]
/-- locked, walked, unlocked: all stands -/
theorem unlock_same {H H' : Hp} {D : Addr} {od : Obj} {u : HO} (hD : H D = some u) (e : Same (upd H D (.frz od u)) H') : Same H (upd H' D u) := fun c o h => by
  by_cases z : c = D
  · subst z
    rw [hD] at h
    cases h
    exact upd_same
  · rw [upd_ne z]
    exact e c o (by rw [upd_ne z]; exact h)
theorem eqR_leaf (T : Txt K mg a) {H : Hp} {Q : VK} {p q : Addr} {z y t b t2 b2 : Int} (r : Rat a.C_Ratio H p t b) (n : Nrm z 6 t b) (r2 : Rat a.C_Ratio H q t2 b2) (n2 : Nrm y 6 t2 b2) (e : z = y) (k : ∀ H', Same H H' → Q (.bl true) H') :
    rEqO K a.C_Ratio (spEq K a.C_Ratio) E0 (.ref p) (.ref q) H Q := by
  obtain ⟨dx, h⟩ := r.ob
  refine ⟨p, dx, _, _, rfl, h, ins_ty T r2, T.nfR, p, .ref q, t, b, rfl, r, .inl ⟨t2, b2, .inr ⟨q, rfl, r2⟩, fun kk H' e' i => ?_⟩⟩
  have : kk = true := i.mpr (n.uniq n2 (by decide) (by decide) (by rw [e]))
  rw [this]
  exact k H' e'
theorem neR_leaf {H : Hp} {Q : VK} {p q : Addr} {z y t b t2 b2 : Int} (r : Rat a.C_Ratio H p t b) (n : Nrm z 6 t b) (r2 : Rat a.C_Ratio H q t2 b2) (n2 : Nrm y 6 t2 b2) (e : z = y) (k : ∀ H', Same H H' → Q (.bl false) H') :
    rNeO a.C_Ratio (spEq K a.C_Ratio) E0 (.ref p) (.ref q) H Q := by
  obtain ⟨dx, h⟩ := r.ob
  obtain ⟨dy, h2⟩ := r2.ob
  refine ⟨p, q, dx, _, dy, _, rfl, rfl, h, h2, p, .ref q, t, b, rfl, r, .inl ⟨t2, b2, .inr ⟨q, rfl, r2⟩, fun kk H' e' i => ⟨kk, rfl, ?_⟩⟩⟩
  have : kk = true := i.mpr (n.uniq n2 (by decide) (by decide) (by rw [e]))
  rw [this]
  exact k H' e'
theorem Rat.updD {C : Addr} {H : Hp} {p : Addr} {t b : Int} {D : Addr} {u : HO} {o : HO} (r : Rat C H p t b) (hD : H D = some u) (hu : ∀ a b c, u ≠ .ins a b c) : Rat C (upd H D o) p t b :=
  let ⟨dx, hob⟩ := r.ob; ⟨⟨dx, by rw [upd_ne (fun z => by rw [z, hD] at hob; cases hob; exact hu _ _ _ rfl)]; exact hob⟩, r.pos, r.cop⟩
theorem Idc.updD {H : Hp} {D E : Addr} {ks : List Str} {f : Str → Int} {o : HO} (h : Idc H D ks f) (n : D ≠ E) : Idc (upd H E o) D ks f := let ⟨kvs, h1, h2, h3⟩ := h; ⟨kvs, by rw [upd_ne n]; exact h1, h2, h3⟩
theorem HtD.updD {C : Addr} {H : Hp} {D E : Addr} {u o : HO} {ps : List Str} {h : Str → Int} (x : HtD C H D ps h) (n : D ≠ E) (hE : H E = some u) (hu : ∀ a b c, u ≠ .ins a b c) : HtD C (upd H E o) D ps h := let ⟨kvs, h1, h2, h3⟩ := x; ⟨kvs, by rw [upd_ne n]; exact h1, h2, fun s m => let ⟨q, t, b, a1, a2, a3⟩ := h3 s m; ⟨q, t, b, a1, a2.updD hE hu, a3⟩⟩
theorem HtD.at_ {C : Addr} {H : Hp} {D : Addr} {ps : List Str} {h : Str → Int} (x : HtD C H D ps h) {s : Str} (m : s ∈ ps) : ∃ q t b, DGet H D (.str s) (some (.ref q)) ∧ Rat C H q t b ∧ Nrm (h s) 6 t b := let ⟨kvs, h1, h2, h3⟩ := x; let ⟨q, t, b, a1, a2, a3⟩ := h3 s m; ⟨q, t, b, by rw [← a1]; exact DGet.k (k := Sum.inr s) h1, a2, a3⟩
theorem strOk_word {s : Str} (h : Word s) : PyData.strOk s = true := by
  show s.cps.all (· < 0x110000) = true
  rw [← Array.all_toList, List.all_eq_true]
  exact fun c hc => decide_eq_true (by have := h.2.2 c hc; omega)
theorem nelD_leaf {H : Hp} {Q : VK} {l m : Addr} {xs : List V} {ds : List PyData} (h1 : H l = some (.lst xs)) (h2 : H m = some (.lst xs)) (d : DpAll K H xs ds) (sh : SeqAt.shaped (.list ds) = true) (q : Q (.bl false) H) : rNeD K (.ref l) (.ref m) H Q :=
  ⟨.list ds, .list ds, .lst (SqL.of h1) d, .lst (SqL.of h2) d, sh, sh, by rw [SeqAt.eqv_refl _ (SeqAt.canLay_of_shaped sh)]; exact q⟩
theorem Idc.fd {C : Addr} {H : Hp} {D : Addr} {ks : List Str} {f : Str → Int} (h : Idc H D ks f) : Fd C H D ks (fun s => 6 * f s) := let ⟨kvs, h1, h2, h3⟩ := h; ⟨kvs, h1, h2, fun s m => ⟨_, h3 s m, f6_int _⟩⟩
theorem mkTold {C : Addr} {G' : Hp} {Da Db : Addr} {ks1 ks2 : List Str} {ps : List Str} {hk : Str} {ls : List Ln3} {f g : Str → Int} (gl : GoodLns ps hk ls) (bf : ∀ s, (f s).natAbs ≤ 300) (bg : ∀ s, 0 ≤ g s ∧ g s ≤ 300) (h1 : Fd C G' Da ks1 f) (p1 : ks1.Perm (sgs hk)) (h2 : Fd C G' Db ks2 g) (p2 : ks2.Perm (lnames ls)) : Told C G' Da Db hk ls f g :=
  ⟨⟨_, h1, p1⟩, ⟨_, h2, p2.trans (by rw [nms_tl ls gl.let_]; exact List.Perm.refl _)⟩, fun s => (bg s).1, fun s => by have := bf s; omega, fun s => by have := bg s; omega⟩
end
end RK8


namespace RK8
open PySem PySem.Spec L2 RK RZ StX PyProof.Rows
section
variable {P : Program} {w : World} {K : PySem.W.Frag} {mg : Str → Option Value} {base : Heap} {a : Ad}
theorem kb_Puppet_heights (T : Txt K mg a) : KBn K a.d_Puppet_heights ["self", "hooks", "lengths"] 1 ["lengths", "hooks"] (fun us ws => match us, ws with | [s], [o, p] => [s, p, o] | _, _ => []) (fun vs zs => match vs, zs with | [s], [o, p] => [s, p, o] | _, _ => []) := by
  obtain ⟨oc, od, kV, doc, pm, an, cdv, ct, osl, e, _⟩ := T.F_Puppet_heights.ex
  rw [e]
  exact ⟨fun s us ws _ h1 h2 => match us, ws, h1, h2 with | [_], [_, _], _, _ => .of_eq rfl, fun r1 r2 => by
    cases r1 with
    | nil => exact .nil
    | cons r1 r1' => cases r1' with
      | cons _ _ => exact .nil
      | nil => cases r2 with
        | nil => exact .nil
        | cons q1 r2 => cases r2 with
          | nil => exact .nil
          | cons q2 r2 => cases r2 with
            | nil => exact .cons r1 (.cons q2 (.cons q1 .nil))
            | cons _ _ => exact .nil⟩
def spRight : Sp := fun vs H Q _ => ∃ b, vs = [.ref b] ∧ Bag H b ∧ ∀ H', Kp b H H' → Q (.bl true) H'
theorem ok_right (T : Txt K mg a) : FnOk P w K mg base CX0 14 a.f_right a.d_right ["_law_bag_here"] spRight := by
  refine T.F_right.ok sc_right (fun vs H Q E h => ?_) (fun cdv A outer s H vs Q E hr h => ?_)
  · obtain ⟨b, rfl, _⟩ := h
    rfl
  · obtain ⟨b, rfl, hb, k⟩ := h
    refine ⟨_, (pss_cons (ps_for PassesOwn.never rfl (pi_range1 (by rfl) T.z_range (pa_cons pe_int pa_nil)) (pg_name (i := 1) sc_right.nd rfl (Or.inl rfl)) (pss_cons (ps_set (i := 2) sc_right.nd rfl (Or.inl rfl) (pe_call (ok_shape T) (hr.mono (by decide)) (by rfl) T.m_shape T.F_shape.kp T.b_shape .nil pass0 (pa_cons (pv 0) pa_nil)))
      (pss_cons (ps_par (i := 3) (j := 4) (by rfl) sc_right.nd rfl rfl (by decide) rfl rfl (pa_cons (pe_make T.mk_Puppet (ok_Puppet_init T) (hr.mono (by decide)) (by rfl) T.m_Puppet T.b_Puppet_init .nil pass0 (pa_cons (pe_ix ix_tup (pv 2) pe_int (fun _ _ => rfl)) (pa_cons (pe_ix ix_tup (pv 2) pe_int (fun _ _ => rfl)) (pa_cons (pe_ix ix_tup (pv 2) pe_int (fun _ _ => rfl)) (pa_cons (pe_ix ix_tup (pv 2) pe_int (fun _ _ => rfl)) pa_nil))))) (pa_cons (pe_call (ok_longs T) (hr.mono (by decide)) (by rfl) T.m_longs T.F_longs.kp T.b_longs .nil pass0 (pa_cons (pv 0) (pa_cons (pv 2) pa_nil))) pa_nil)) (by rfl))
      (pss_cons (ps_par (i := 5) (j := 6) (by rfl) sc_right.nd rfl rfl (by decide) rfl rfl (pa_cons pe_dnewK (pa_cons pe_dnewK pa_nil)) (by rfl))
      (pss_cons (ps_for PassesOwn.never rfl (pi_str (pe_ix ix_tup (pv 2) pe_int (fun _ _ => rfl))) (pg_name (i := 7) sc_right.nd rfl (Or.inl rfl)) (pss_cons (ps_asg (pe_call (ok_one T) (hr.mono (by decide)) (by rfl) T.m_one T.F_one.kp T.b_one .nil pass0 (pa_cons (pv 0) (pa_cons (pe_lst (pa_cons pe_int (pa_cons pe_int (pa_cons pe_int (pa_cons pe_int (pa_cons (pe_op op_sub pe_int pe_int) (pa_cons (pe_call (ok_draw T) (hr.mono (by decide)) (by rfl) T.m_draw T.F_draw.kp T.b_draw .nil pass0 (pa_cons (pv 0) (pa_cons pe_int pa_nil))) pa_nil))))))) pa_nil))) (pg_sub (pv 5) (pv 7) (set_dict (hu_of hr))))
      (pss_one (ps_asg (pe_ifExp (pt_cmpR op_eq (pe_op op_mod (pe_callTy cr_int1 (by rfl) T.z_int (by decide +kernel) (pa_cons (pe_dget (hu_of hr) (pv 5) (pv 7) (fun _ _ => rfl)) pa_nil)) pe_int) pe_int (nomark _)) (pe_op op_fdiv (pe_dget (hu_of hr) (pv 5) (pv 7) (fun _ _ => rfl)) pe_int) (pe_make T.mk_Ratio (ok_Ratio_init T) (hr.mono (by decide)) (by rfl) T.m_Ratio (bd_Ratio T) .nil pass0 (pa_cons (pe_dget (hu_of hr) (pv 5) (pv 7) (fun _ _ => rfl)) (pa_cons pe_int pa_nil)))) (pg_sub (pv 6) (pv 7) (set_dict (hu_of hr)))))))
      (pss_cons (ps_set (i := 8) sc_right.nd rfl (Or.inr rfl) (pe_call (ok_rest T) (hr.mono (by decide)) (by rfl) T.m_rest T.F_rest.kp T.b_rest .nil pass0 (pa_cons (pv 2) (pa_cons (pv 5) (pa_cons (pv 4) pa_nil)))))
      (pss_cons (ps_if (pt_not (pt_val (pe_call (ok_is_least T) (hr.mono (by decide)) (by rfl) T.m_is_least T.F_is_least.kp T.b_is_least .nil pass0 (pa_cons (pv 2) (pa_cons (pv 5) (pa_cons (pv 4) (pa_cons (pv 8) pa_nil))))))) (pss_one (ps_ret pe_bl)) pss_nil)
      (pss_cons (ps_set (i := 9) sc_right.nd rfl (Or.inr rfl) (pe_meth (pv 3) T.cl_Puppet T.me_Puppet_heights (ok_Puppet_heights T) (hr.mono (by decide)) T.b_Puppet_heights .nil pass0 (pa_cons (pv 6) (pa_cons (pe_call (ok_passed T) (hr.mono (by decide)) (by rfl) T.m_passed T.F_passed.kp T.b_passed .nil pass0 (pa_cons (pv 4) pa_nil)) pa_nil))))
      (pss_cons (ps_set (i := 10) sc_right.nd rfl (Or.inr rfl) (pe_methK (pv 3) T.cl_Puppet T.me_Puppet_heights (ok_Puppet_heights T) (hr.mono (by decide)) (kb_Puppet_heights T) pass0 (pk_cons (pe_call (ok_turned T) (hr.mono (by decide)) (by rfl) T.m_turned T.F_turned.kp T.b_turned .nil pass0 (pa_cons (pe_call (ok_passed T) (hr.mono (by decide)) (by rfl) T.m_passed T.F_passed.kp T.b_passed .nil pass0 (pa_cons (pv 4) pa_nil)) pa_nil)) (pk_cons (pe_call (ok_turned T) (hr.mono (by decide)) (by rfl) T.m_turned T.F_turned.kp T.b_turned .nil pass0 (pa_cons (pv 6) pa_nil)) pk_nil))))
      (pss_cons (ps_if (PW.pt (pw_or (pt_cmpR (op_neD hr.units) (pe_callTy (call_listD rfl) (by rfl) T.z_list (by decide +kernel) (pa_cons (pv 9) pa_nil)) (pe_callTy call_list_of (by rfl) T.z_list (by decide +kernel) (pa_cons (pe_ix ix_tup (pv 2) pe_int (fun _ _ => rfl)) pa_nil)) (nomark _)) (pw_or1 (pt_not (pt_val (pe_callB (cr_all rfl) (by rfl) T.z_all (by decide +kernel) (pa_cons (pe_lock (pe_lc (own := [("_law_limb", 11)]) (g := gName 11) (tt := tYes) rfl sc_right.nd (pi_keys (pv 9)) (blkOk_by (own := [("_law_limb", 11)]) (N := ["_law_bag_here", "_law_turn", "_law_shape_here", "_law_mine", "_law_longs_here", "_law_pegs_at", "_law_told_at", "_law_peg", "_law_due", "_law_told", "_law_again", "_law_limb"]) (sc := defScope s_right) (by decide +kernel)) (fun _ _ _ _ _ => pg_name (i := 11) sc_right.nd rfl (Or.inl rfl)) (fun _ _ _ _ _ => pts_nil) (fun _ _ _ _ _ => by exact (pe_callB (show CallR _ _ (rIsi K) from call_isi) (by rfl) T.z_isinstance (by decide +kernel) (pa_cons (pe_dget (hu_of hr) (pv 9) (pv 11) (fun _ _ => rfl)) (pa_cons (pe_glob (v := .ref a.C_Ratio) rfl T.m_Ratio rfl) pa_nil)))))) pa_nil))))))) (pss_one (ps_ret pe_bl)) pss_nil)
      (pss_cons (ps_if (pt_not (pt_val (pe_callB (cr_all rfl) (by rfl) T.z_all (by decide +kernel) (pa_cons (pe_lock (pe_lc (own := [("_law_limb", 11)]) (g := gName 11) (tt := tYes) rfl sc_right.nd (pi_keys (pv 9)) (blkOk_by (own := [("_law_limb", 11)]) (N := ["_law_bag_here", "_law_turn", "_law_shape_here", "_law_mine", "_law_longs_here", "_law_pegs_at", "_law_told_at", "_law_peg", "_law_due", "_law_told", "_law_again", "_law_limb"]) (sc := defScope s_right) (by decide +kernel)) (fun _ _ _ _ _ => pg_name (i := 11) sc_right.nd rfl (Or.inl rfl)) (fun _ _ _ _ _ => pts_nil) (fun _ _ _ _ _ => by exact (pe_and (pe_cmpR (show OpR _ _ (rEqO K a.C_Ratio (spEq K a.C_Ratio) E0) from oEqqq T (by exact hr.mono (by decide))) (pe_dget (hu_of hr) (pv 9) (pv 11) (fun _ _ => rfl)) (pe_make T.mk_Ratio (ok_Ratio_init T) (hr.mono (by decide)) (by rfl) T.m_Ratio (bd_Ratio T) .nil pass0 (pa_cons (pe_dget (hu_of hr) (pv 8) (pv 11) (fun _ _ => rfl)) (pa_cons pe_int pa_nil))) (nomark _)) (pe_one (pe_cmpR (show OpR _ _ (rEqO K a.C_Ratio (spEq K a.C_Ratio) E0) from oEqqq T (by exact hr.mono (by decide))) (pe_dget (hu_of hr) (pv 10) (pv 11) (fun _ _ => rfl)) (pe_dget (hu_of hr) (pv 9) (pv 11) (fun _ _ => rfl)) (nomark _))))))) pa_nil)))) (pss_one (ps_ret pe_bl)) pss_nil)
      (pss_cons (ps_asg pe_non (pg_sub (pv 9) (pe_ix ix_tup (pe_ix ix_tup (pv 2) pe_int (fun _ _ => rfl)) pe_int (fun _ _ => rfl)) (set_dict (hu_of hr))))
      (pss_one (ps_if (pt_cmpR (oNotEqqq T (hr.mono (by decide))) (pe_dget (hu_of hr) (pe_meth (pv 3) T.cl_Puppet T.me_Puppet_heights (ok_Puppet_heights T) (hr.mono (by decide)) T.b_Puppet_heights .nil pass0 (pa_cons (pv 6) (pa_cons (pe_call (ok_passed T) (hr.mono (by decide)) (by rfl) T.m_passed T.F_passed.kp T.b_passed .nil pass0 (pa_cons (pv 4) pa_nil)) pa_nil))) (pe_ix ix_tup (pe_ix ix_tup (pv 2) pe_int (fun _ _ => rfl)) pe_int (fun _ _ => rfl)) (fun _ _ => rfl)) (pe_make T.mk_Ratio (ok_Ratio_init T) (hr.mono (by decide)) (by rfl) T.m_Ratio (bd_Ratio T) .nil pass0 (pa_cons (pe_dget (hu_of hr) (pv 8) (pe_ix ix_tup (pe_ix ix_tup (pv 2) pe_int (fun _ _ => rfl)) pe_int (fun _ _ => rfl)) (fun _ _ => rfl)) (pa_cons pe_int pa_nil))) (nomark _)) (pss_one (ps_ret pe_bl)) pss_nil))))))))))))))
      (pss_one (ps_ret pe_bl))), ?_⟩
    walk_at "r"
    refine ⟨3, rfl, by decide, by decide, for_leaf (walk_rng0 (n := 3)) (fun i σ' G => Kp b H G ∧ ∃ v1 v2 v3 v4 v5 v6 v7 v8 v9 v10 : Option V, σ' = [some (.ref b), v1, v2, v3, v4, v5, v6, v7, v8, v9, v10, none]) ⟨.refl hb, _, _, _, _, _, _, _, _, _, _, rfl⟩ (fun _ _ _ _ _ => trivial) ?_ ?_⟩
    · rintro i z σ' G0 G0' hi ⟨kp, v1, v2, v3, v4, v5, v6, v7, v8, v9, v10, rfl⟩ ⟨rfl, rfl⟩
      walk_at "r"
      refine shape_leaf kp.bag' fun t ps es hk ls H1 k1 sh => ?_
      have kp1 := kp.trans k1
      obtain ⟨tp, te, tl, ht, hp, hu, hl⟩ := id sh.at_
      walk_at "r"
      refine ⟨t, _, 0, .ref tp, rfl, rfl, ht, rfl, ?_⟩
      walk_at "r"
      refine ⟨t, _, 1, .ref te, rfl, rfl, ht, rfl, ?_⟩
      walk_at "r"
      refine ⟨t, _, 2, .str hk, rfl, rfl, ht, rfl, ?_⟩
      walk_at "r"
      refine ⟨t, _, 3, .ref tl, rfl, rfl, ht, rfl, ?_⟩
      walk_at "r"
      refine mk_leaf hp hu hl sh.good fun p H2 np e2 pup => ?_
      walk_at "r"
      have sh2 := sh.kp (b := b) (SameT.of e2)
      refine ⟨b, t, ps, es, hk, ls, rfl, kp1.bag'.same e2, sh2, fun Dl g H3 nDl k3 il gb => ?_⟩
      have kp3 := (kp1.trans (.of kp1.bag' e2)).trans k3
      walk_at "r"
      intro Dp nDp
      walk_at "r"
      intro Dt nDt
      walk_at "r"
      have e4 := w_new (o := .dK []) nDp
      have e5 := w_new (o := .dK []) nDt
      have nDt3 : H3 Dt = none := none_of e4 nDt
      have nDpt : Dt ≠ Dp := fun z => by rw [z, upd_same] at nDt; cases nDt
      have bDp := bag_ne k3.bag' nDp
      have bDt := bag_ne k3.bag' nDt3
      have hDp : (upd (upd H3 Dp (.dK [])) Dt (.dK [])) Dp = some (.dK []) := e5 _ _ upd_same
      have hDt : (upd (upd H3 Dp (.dK [])) Dt (.dK [])) Dt = some (.dK []) := upd_same
      have k35 : Kp b H3 (upd (upd H3 Dp (.dK [])) Dt (.dK [])) := .of k3.bag' (e4.trans e5)
      generalize upd (upd H3 Dp (.dK [])) Dt (.dK []) = H5 at *
      have ht5 := k35.sqt (k3.sqt (seqT_same e2 ht))
      have nds : (sgs hk).Nodup := rise_nd sh.good.caps.up
      walk_at "r"
      refine ⟨t, _, 2, .str hk, rfl, rfl, ht5, rfl, hk, rfl, for_leaf walk_str (fun j σ' G => ∃ (f : Str → Int) (v7 v8 v9 v10 : Option V), σ' = [some (.ref b), some (.int (i : Int)), some (.ref t), some (.ref p), some (.ref Dl), some (.ref Dp), some (.ref Dt), v7, v8, v9, v10, none] ∧ Kp b H3 G ∧ Idc G Dp ((sgs hk).take j) f ∧ Fd a.C_Ratio G Dt ((sgs hk).take j) f ∧ ∀ s, (f s).natAbs ≤ 300) ⟨fun _ => 0, _, _, _, _, rfl, k35, ⟨[], hDp, rfl, fun s m => absurd m List.not_mem_nil⟩, ⟨[], hDt, rfl, fun s m => absurd m List.not_mem_nil⟩, fun s => by show (0 : Int).natAbs ≤ 300; decide⟩ (fun _ _ _ _ _ => trivial) ?_ ?_⟩
      · rintro j x σ' G G' hj ⟨f, v7, v8, v9, v10, rfl, kg, ip, fd, bd⟩ ⟨rfl, c, hc, rfl⟩
        have hs : (sgs hk)[j]? = some (sg c) := by unfold sgs; rw [List.getElem?_map, Array.getElem?_toList, hc]; rfl
        have ns := not_taken nds hs
        have lk : ((sgs hk).take j).length ≤ 1000 := by have := sh.h3; unfold sgs; rw [List.length_take, List.length_map, Array.length_toList]; omega
        walk_at "r"
        refine draw_leaf kg.bag' (by show (0 : Int) < 300; decide) (by show (300 : Int) ≤ 10 ^ 12; decide) fun d G1 a1 b1 q1 => ?_
        walk_at "r"
        refine w_newL (by show 6 ≤ 100000; decide) fun l2 G2 n2 e2' h2 => ?_
        walk_at "r"
        refine one_leaf (q1.bag'.same e2') h2 (bag_ne q1.bag' n2) (by show 0 < 6; decide) (by show 6 < 1000; decide) fun v G3 hv q3 => ?_
        obtain ⟨z, rfl, zb⟩ : ∃ z : Int, v = .int z ∧ z.natAbs ≤ 300 := by
          simp only [List.mem_cons, List.not_mem_nil, or_false] at hv
          rcases hv with rfl | rfl | rfl | rfl | rfl | rfl <;> exact ⟨_, rfl, by omega⟩
        have q13 := (q1.trans (.of q1.bag' e2')).trans q3
        have kg3 := kg.trans q13
        walk_at "r"
        refine put_leafK (ip.sameT q13.sameT) ns z lk fun G4 ip4 b4 => ?_
        have fd3 := fd.kp q13.sameT
        obtain ⟨kvp, hkp, _⟩ := (ip.sameT q13.sameT).len
        have fd4 := (fd3.but b4 nDpt hkp).congr (g := fun u => if u = sg c then z else f u) (fun s m => by
          show f s = if s = sg c then z else f s
          rw [if_neg (fun e => ns (by rw [← e]; exact m))])
        have kg4 := KpBut kg3 nDp bDp b4
        have mc : sg c ∈ (sgs hk).take j ++ [sg c] := List.mem_append_right _ (List.mem_singleton.mpr rfl)
        have get : DGet G4 Dp (.str (sg c)) (some (.int z)) := by
          have := ip4.get mc
          rw [if_pos rfl] at this
          exact this
        have fin : ∀ (v : V) (G5 : Hp), Same G4 G5 → F6 a.C_Ratio G5 v z → ∀ v8' : Option V, rSetD (.ref Dt) (.str (sg c)) v G5 fun G6 => ∃ (f : Str → Int) (v7' v8' v9' v10' : Option V), [some (V.ref b), some (.int (i : Int)), some (.ref t), some (.ref p), some (.ref Dl), some (.ref Dp), some (.ref Dt), some (.str (sg c)), v8, v9, v10, none] = [some (.ref b), some (.int (i : Int)), some (.ref t), some (.ref p), some (.ref Dl), some (.ref Dp), some (.ref Dt), v7', v8', v9', v10', none] ∧ Kp b H3 G6 ∧ Idc G6 Dp ((sgs hk).take (j + 1)) f ∧ Fd a.C_Ratio G6 Dt ((sgs hk).take (j + 1)) f ∧ ∀ s, (f s).natAbs ≤ 300 := fun v G5 e5' f6 _ =>
          Fd.put (fd4.same e5') ns (by show F6 _ _ _ (if sg c = sg c then z else f (sg c)); rw [if_pos rfl]; exact f6) lk fun G6 d6 b6 => ⟨_, _, _, _, _, rfl, KpBut (kg4.trans (.of kg4.bag' e5')) nDt3 bDt b6, by rw [take_snoc hs]; exact (ip4.same e5').but b6 nDpt.symm, by rw [take_snoc hs]; exact d6, fun s => by
            show (if s = sg c then z else f s).natAbs ≤ 300
            by_cases cc : s = sg c
            · rw [if_pos cc]; exact zb
            · rw [if_neg cc]; exact bd s⟩
        walk_at "r"
        refine w_tIf ?_
        walk_at "r"
        refine ⟨Dp, _, rfl, get, ?_⟩
        walk_at "r"
        refine w_iteD (fun c6 => ?_) (fun c6 => ?_)
        · have c6' : z % 6 = 0 := by injection c6
          walk_at "r"
          refine ⟨Dp, _, rfl, get, ?_⟩
          walk_at "r"
          exact fin _ _ (w_same _) ⟨z / 6, 1, .inl ⟨rfl, rfl⟩, ⟨by decide, Int.gcd_one_right _, by omega⟩⟩ none
        · walk_at "r"
          refine ⟨Dp, _, rfl, get, ?_⟩
          walk_at "r"
          refine mkq_leaf (by decide) (Sz.small (by decide)) fun q5 G5 t5 b5 _ e5' r5 n5' => ?_
          walk_at "r"
          exact fin _ _ e5' ⟨t5, b5, .inr ⟨q5, rfl, r5⟩, n5'⟩ none
      rintro σ' G ⟨f, v7, v8, v9, v10, rfl, kg, ip, fd, bd⟩
      have tkl : (sgs hk).take hk.cps.size = sgs hk := by
        have : (sgs hk).length = hk.cps.size := by unfold sgs; rw [List.length_map, Array.length_toList]
        rw [← this, List.take_length]
      rw [tkl] at ip fd
      have kG := k3.trans kg
      have shG := sh2.kp (b := b) kG.sameT
      have ilG := il.sameT kg.sameT
      have inp : ∀ s ∈ ls, s.2.1 ∈ sgs hk := fun s ms => by
        obtain ⟨d, e, md⟩ := sh.good.lns.hook s ms
        exact List.mem_map.mpr ⟨d, md, e.symm⟩
      have inl' : ∀ s ∈ ls, s.1 ∈ lnames ls := fun s ms => List.mem_map.mpr ⟨s, ms, rfl⟩
      walk_at "r"
      refine ⟨t, Dp, Dl, ps, es, hk, ls, sgs hk, lnames ls, f, g, rfl, shG, ip, inp, ilG, inl', fun Dd H7 nDd e7 dd => ?_⟩
      have dd : Idc H7 Dd ps (height6 ps es ls f g) := dd.congr fun v mv => height_rounds sh.good.parts sh.good.ties sh.good.lns.part mv
      walk_at "r"
      refine ⟨t, Dp, Dl, Dd, ps, es, hk, ls, sgs hk, lnames ls, f, g, rfl, shG.kp (b := b) (SameT.of e7), ip.same e7, inp, ilG.same e7, inl', dd, fun H8 e8 => ?_⟩
      refine ⟨true, rfl, iteF ?_⟩
      walk_at "r"
      have pup8 := (pup.kp kG).same (e7.trans e8)
      have il8 := ilG.same (e7.trans e8)
      have fd8 := fd.same (e7.trans e8)
      have nl := lnames_nd sh.good.lns
      have l20 : (lnames ls).length ≤ 20 := by have := sh.l4; unfold lnames; rw [List.length_map]; omega
      have s20 : (sgs hk).length ≤ 20 := by have := sh.h3; unfold sgs; rw [List.length_map, Array.length_toList]; omega
      have d9 := dist9 sh.good.parts sh.good.ties sh.r20
      have pl : (lnames ls).Perm (sgs (nmsL ls)) := by rw [nms_tl ls sh.good.lns.let_]; exact List.Perm.refl _
      have mkT : ∀ {G' : Hp} {Da Db : Addr} {ks1 ks2 : List Str}, Fd a.C_Ratio G' Da ks1 f → ks1.Perm (sgs hk) → Fd a.C_Ratio G' Db ks2 g → ks2.Perm (lnames ls) → Told a.C_Ratio G' Da Db hk ls f g := fun h1 p1 h2 p2 => ⟨⟨_, h1, p1⟩, ⟨_, h2, p2.trans pl⟩, fun s => (gb s).1, fun s => by have := bd s; omega, fun s => by have := gb s; omega⟩
      refine pup_ml pup8 (by decide) ?_
      walk_at "r"
      refine ⟨Dl, lnames ls, g, rfl, il8, nl, l20, gb, fun Dq H9 nq e9 fq => ?_⟩
      walk_at "r"
      refine ⟨p, Dt, Dq, ps, es, hk, ls, f, g, rfl, pup8.same e9, mkT (fd8.same e9) (List.Perm.refl _) fq (List.Perm.refl _), d9, fun Da H10 na e10 ha => ?_⟩
      walk_at "r"
      have pup10 := pup8.same (e9.trans e10)
      have e810 := e9.trans e10
      refine pup_ml pup10 (by decide) ?_
      walk_at "r"
      refine ⟨Dl, lnames ls, g, rfl, il8.same e810, nl, l20, gb, fun Dq2 H11 nq2 e11 fq2 => ?_⟩
      walk_at "r"
      refine ⟨Dq2, lnames ls, g, rfl, fq2, nl, l20, fun Dq3 H12 nq3 e12 fq3 => ?_⟩
      walk_at "r"
      refine ⟨Dt, sgs hk, f, rfl, fd8.same (e810.trans (e11.trans e12)), nds, s20, fun Dq4 H13 nq4 e13 fq4 => ?_⟩
      walk_at "r"
      have e1013 := (e11.trans e12).trans e13
      refine ⟨rfl, p, Dq4, Dq3, ps, es, hk, ls, f, g, rfl, pup10.same e1013, mkT fq4 (List.reverse_perm _) (fq3.same e13) (List.reverse_perm _), d9, fun Db H14 nb14 e14 hb14 => ?_⟩
      walk_at "r"
      have okp : ∀ s ∈ ps, PyData.strOk s = true := fun s ms => by
        show s.cps.all (· < 0x110000) = true
        rw [← Array.all_toList, List.all_eq_true]
        exact fun c hc => decide_eq_true (by have := (sh.good.parts.word s ms).2.2 c hc; omega)
      have ha14 := ha.same (e1013.trans e14)
      obtain ⟨kva, hDa, hka, hva⟩ := id ha14
      have ht14 : SqT K H14 t [.ref tp, .ref te, .str hk, .ref tl] := seqT_same ((((e7.trans e8).trans e810).trans e1013).trans e14) (kG.sqt (seqT_same e2 ht))
      have hp14 : SqT K H14 tp (ps.map V.str) := seqT_same ((((e7.trans e8).trans e810).trans e1013).trans e14) (kG.sqt (seqT_same e2 hp))
      refine ⟨Da, kva, rfl, .inl hDa, fun la na15 => ?_⟩
      have eqk : (kva.map fun kv => kV kv.1) = ps.map V.str := by
        have : (kva.map Prod.fst).map kV = (ps.map (Sum.inr : Str → Key)).map kV := by rw [hka]
        rw [List.map_map, List.map_map] at this
        exact this
      rw [eqk]
      have e15 := w_new (o := .lst (ps.map V.str)) na15
      have hla : upd H14 la (.lst (ps.map V.str)) la = some (.lst (ps.map V.str)) := upd_same
      generalize upd H14 la (.lst (ps.map V.str)) = H15 at *
      walk_at "r"
      refine ⟨t, _, 0, .ref tp, rfl, rfl, seqT_same e15 ht14, rfl, ?_⟩
      walk_at "r"
      refine ⟨tp, _, rfl, .inr (seqT_same e15 hp14), fun lb nb16 => ?_⟩
      have e16 := w_new (o := .lst (ps.map V.str)) nb16
      refine ⟨.list (ps.map PyData.str), .list (ps.map PyData.str), .lst (SqL.of (e16 _ _ hla)) (dps_strs ps), .lst (SqL.of upd_same) (dps_strs ps), shaped_strs ps okp, shaped_strs ps okp, ?_⟩
      rw [SeqAt.eqv_refl _ (SeqAt.canLay_of_shaped (shaped_strs ps okp))]
      refine ⟨false, rfl, iteF ?_⟩
      walk_at "r"
      have hDa16 := e16 _ _ (e15 _ _ hDa)
      have ea16 : Same H14 (upd H15 lb (.lst (ps.map V.str))) := e15.trans e16
      have ha16 := ha14.same ea16
      have hb16 := hb14.same ea16
      generalize upd H15 lb (.lst (ps.map V.str)) = H16 at *
      have p6 := sh.good.parts.few
      have kval : kva.length = ps.length := by have := congrArg List.length hka; rw [List.length_map, List.length_map] at this; exact this
      have keyAt : ∀ {i : Nat} {kk : Key} {vv : V}, kva[i]? = some (kk, vv) → ∃ s, s ∈ ps ∧ kk = .inr s := fun {i kk vv} h => by
        have hk : (kva.map Prod.fst)[i]? = some kk := by rw [List.getElem?_map, h]; rfl
        rw [hka, List.getElem?_map] at hk
        cases e : ps[i]? with
        | none => rw [e] at hk; cases hk
        | some s0 => rw [e] at hk; exact ⟨s0, List.mem_of_getElem? e, (Option.some.inj hk).symm⟩
      refine ⟨Da, .dK kva, hDa16, by first | trivial | exact True.intro, fun od => ?_⟩
      walk_at "r"
      refine ⟨.ref Da, rfl, Da, od, rfl, .inl ⟨kva, upd_same, cmS walk_keys (by omega) (fun G e => e _ _ upd_same) (fun _ v _ => v = .bl true) (fun _ _ _ _ _ h => h) (fun i x G G' hi e hy Q' kq => ?_) (fun L ys H17 n17 e17 h17 hn17 hP => ?_)⟩⟩
      · obtain ⟨rfl, kk, vv, hkv, rfl⟩ := hy
        obtain ⟨s0, ms, rfl⟩ := keyAt hkv
        refine ⟨rfl, ?_⟩
        obtain ⟨q, t0, b0, hq, rq, nq⟩ := hva s0 ms
        have rq' := ((rq.same ea16).updD (o := .frz od (.dK kva)) hDa16 (fun _ _ _ z => by cases z)).same e
        have get : DGet G' Da (.str s0) (some (.ref q)) := .inl ⟨kva, Sum.inr s0, .inr ⟨od, e _ _ upd_same⟩, rfl, hq.symm⟩
        walk_at "r"
        refine ⟨Da, _, rfl, get, ?_⟩
        walk_at "r"
        exact ⟨_, .ref a.C_Ratio, .ref a.C_Ratio, .ref a.C_Ratio, true, rfl, .own _, ins_ty T rq', T.kRR, kq _ _ (w_same _) rfl⟩
      refine ⟨e17 _ _ upd_same, ?_⟩
      have e18 := unlock_same hDa16 e17
      have n17' : L ≠ Da := fun z => by rw [z, upd_same] at n17; cases n17
      have h18 : upd H17 Da (.dK kva) L = some (.lst ys) := by rw [upd_ne n17']; exact h17
      generalize upd H17 Da (.dK kva) = H18 at *
      walk_at "r"
      refine all_P h18 hP ?_
      refine ⟨true, rfl, ?_⟩
      rw [if_neg (by decide)]
      walk_at "r"
      have hDa18 := e18 _ _ hDa16
      have ea18 := ea16.trans e18
      refine ⟨Da, .dK kva, hDa18, by first | trivial | exact True.intro, fun od2 => ?_⟩
      walk_at "r"
      have nbDa : Db ≠ Da := fun z => by
        obtain ⟨kv1, h1, _⟩ := id ha
        rw [z, e1013 _ _ h1] at nb14
        cases nb14
      have ndDa : Dd ≠ Da := fun z => by obtain ⟨_, h, _⟩ := dd; rw [← z] at na; rw [(e8.trans e9) _ _ h] at na; cases na
      have dd18 : Idc H18 Dd ps (height6 ps es ls f g) := dd.same ((((e8.trans e810).trans e1013).trans e14).trans ea18)
      have hb18 := hb14.same ea18
      refine ⟨.ref Da, rfl, Da, od2, rfl, .inl ⟨kva, upd_same, cmS walk_keys (by omega) (fun G e => e _ _ upd_same) (fun _ v _ => v = .bl true) (fun _ _ _ _ _ h => h) (fun i x G G' hi e hy Q' kq => ?_) (fun L2 ys H19 n19 e19 h19 hn19 hP2 => ?_)⟩⟩
      · obtain ⟨rfl, kk, vv, hkv, rfl⟩ := hy
        obtain ⟨s0, ms, rfl⟩ := keyAt hkv
        refine ⟨rfl, ?_⟩
        obtain ⟨q, t0, b0, hq, rq, nq⟩ := hva s0 ms
        have rq' := ((rq.same ea18).updD (o := .frz od2 (.dK kva)) hDa18 (fun _ _ _ z => by cases z)).same e
        have get : DGet G' Da (.str s0) (some (.ref q)) := .inl ⟨kva, Sum.inr s0, .inr ⟨od2, e _ _ upd_same⟩, rfl, hq.symm⟩
        walk_at "r"
        refine ⟨Da, _, rfl, get, ?_⟩
        walk_at "r"
        refine ⟨Dd, _, rfl, ((dd18.updD ndDa).same e).get ms, ?_⟩
        walk_at "r"
        refine mkq_leaf (by decide) (Sz.small (by decide)) fun q2 G2 t2 b2 _ e2' r2 n2' => ?_
        walk_at "r"
        refine eqR_leaf T (rq'.same e2') nq r2 n2' rfl fun G3 e3' => ?_
        refine ⟨true, rfl, iteT ?_⟩
        walk_at "r"
        obtain ⟨q4, t4, b4, g4, r4, n4⟩ := ((hb18.updD (o := .frz od2 (.dK kva)) nbDa hDa18 (fun _ _ _ z => by cases z)).same (e.trans (e2'.trans e3'))).at_ ms
        refine ⟨Db, _, rfl, g4, ?_⟩
        walk_at "r"
        refine ⟨Da, _, rfl, .inl ⟨kva, Sum.inr s0, .inr ⟨od2, (e.trans (e2'.trans e3')) _ _ upd_same⟩, rfl, hq.symm⟩, ?_⟩
        exact eqR_leaf T r4 n4 (rq'.same (e2'.trans e3')) nq rfl fun G4 e4' => kq _ _ ((e2'.trans e3').trans e4') rfl
      refine ⟨e19 _ _ upd_same, ?_⟩
      have e20 := unlock_same hDa18 e19
      have n19' : L2 ≠ Da := fun z => by rw [z, upd_same] at n19; cases n19
      have h20 : upd H19 Da (.dK kva) L2 = some (.lst ys) := by rw [upd_ne n19']; exact h19
      generalize upd H19 Da (.dK kva) = H20 at *
      walk_at "r"
      refine all_P h20 hP2 ?_
      refine ⟨true, rfl, iteF ?_⟩
      walk_at "r"
      obtain ⟨p0, pr, hpc⟩ : ∃ p0 pr, ps = p0 :: pr := by
        cases ps with
        | nil => have := sh.good.parts.one; simp at this
        | cons p0 pr => exact ⟨p0, pr, rfl⟩
      have mp0 : p0 ∈ ps := by rw [hpc]; exact List.mem_cons_self
      have ea20 := ea18.trans e20
      have e1020 := (e1013.trans e14).trans ea20
      have ht20 := seqT_same ea20 ht14
      have hp20 := seqT_same ea20 hp14
      have ix0 : atI (ps.map V.str) 0 = some (.str p0) := at_of (j := 0) rfl (by rw [hpc]; rfl)
      refine ⟨t, _, 0, .ref tp, rfl, rfl, ht20, rfl, ?_⟩
      walk_at "r"
      refine ⟨tp, _, 0, .str p0, rfl, rfl, hp20, ix0, ?_⟩
      have hDa20 := e20 _ _ hDa18
      refine ⟨Da, _, rfl, DPut.k (k := Sum.inr p0) hDa20 (Nat.lt_of_le_of_lt (show kva.length ≤ 1000 by omega) (by decide)), ?_⟩
      have k9 : Kp b H9 H20 := .of ((kp3.trans kg).bag'.same ((e7.trans e8).trans e9)) (e10.trans e1020)
      have k21 : Kp b H9 (upd H20 Da (.dK (putK kva (.inr p0) .non))) := KpBut k9 na (bag_ne k9.bag na) (But.upd (.refl Da H20))
      generalize upd H20 Da (.dK (putK kva (.inr p0) .non)) = H21 at *
      have pup21 := (pup8.same e9).kp k21
      have il21 := (il8.same e9).sameT k21.sameT
      have fd21 := (fd8.same e9).kp k21.sameT
      have dd21 : Idc H21 Dd ps (height6 ps es ls f g) := (dd.same (e8.trans e9)).sameT k21.sameT
      have ht21 : SqT K H21 t [.ref tp, .ref te, .str hk, .ref tl] := k21.sqt (seqT_same ((e7.trans e8).trans e9) (kG.sqt (seqT_same e2 ht)))
      have hp21 : SqT K H21 tp (ps.map V.str) := k21.sqt (seqT_same ((e7.trans e8).trans e9) (kG.sqt (seqT_same e2 hp)))
      walk_at "r"
      refine pup_ml pup21 (by decide) ?_
      walk_at "r"
      refine ⟨Dl, lnames ls, g, rfl, il21, nl, l20, gb, fun Dq5 H22 nq5 e22 fq5 => ?_⟩
      walk_at "r"
      refine ⟨p, Dt, Dq5, ps, es, hk, ls, f, g, rfl, pup21.same e22, mkT (fd21.same e22) (List.Perm.refl _) fq5 (List.Perm.refl _), d9, fun Dc H23 nc e23 hc => ?_⟩
      walk_at "r"
      have e2123 := e22.trans e23
      obtain ⟨q6, t6, b6, g6, r6, n6⟩ := hc.at_ mp0
      refine ⟨t, _, 0, .ref tp, rfl, rfl, seqT_same e2123 ht21, rfl, ?_⟩
      walk_at "r"
      refine ⟨tp, _, 0, .str p0, rfl, rfl, seqT_same e2123 hp21, ix0, ?_⟩
      refine ⟨Dc, _, rfl, g6, ?_⟩
      walk_at "r"
      refine ⟨t, _, 0, .ref tp, rfl, rfl, seqT_same e2123 ht21, rfl, ?_⟩
      walk_at "r"
      refine ⟨tp, _, 0, .str p0, rfl, rfl, seqT_same e2123 hp21, ix0, ?_⟩
      refine ⟨Dd, _, rfl, (dd21.same e2123).get mp0, ?_⟩
      walk_at "r"
      refine mkq_leaf (by decide) (Sz.small (by decide)) fun q7 G7 t7 b7 _ e24 r7 n7 => ?_
      walk_at "r"
      refine neR_leaf (r6.same e24) n6 r7 n7 rfl fun G8 e25 => ?_
      refine ⟨false, rfl, iteF ?_⟩
      walk_at "r"
      have k89 : Kp b H G8 := (((kp3.trans kg).trans (.of (kp3.trans kg).bag' ((e7.trans e8).trans e9))).trans k21).same ((e2123.trans e24).trans e25)
      exact ⟨k89, _, _, _, _, _, _, _, _, _, _, rfl⟩
    · rintro σ' G ⟨kp, v1, v2, v3, v4, v5, v6, v7, v8, v9, v10, rfl⟩
      walk_at "r"
      exact k G kp
end
end RK8


namespace RK8
open PySem PySem.Spec L2 RK RZ StX PyProof.Rows
section
variable {P : Program} {w : World} {K : PySem.W.Frag} {mg : Str → Option Value} {base : Heap} {a : Ad}
def spLaw (K : PySem.W.Frag) : Sp := fun vs H Q _ => ∃ (c : Addr) (ns : List Int), vs = [.ref c] ∧ SqL K H c (ns.map V.int) ∧ ns.length ≤ 63 ∧ ∀ H', Q (.bl true) H'
theorem ok_law (T : Txt K mg a) : FnOk P w K mg base CX0 40 a.f_law a.d_law ["_law_cells"] (spLaw K) := by
  refine T.F_law.ok sc_law (fun vs H Q E h => ?_) (fun cdv A outer s H vs Q E hr h => ?_)
  · obtain ⟨c, ns, rfl, _⟩ := h
    rfl
  · obtain ⟨c, ns, rfl, sq, hl, k⟩ := h
    refine ⟨_, (pss_one (ps_ret (pe_callB (cr_all rfl) (by rfl) T.z_all (by decide +kernel) (pa_cons (pe_lc (own := [("_law_k", 1)]) (g := gName 1) (tt := tYes) rfl sc_law.nd (pi_range1 (by rfl) T.z_range (pa_cons (pe_callB (cr_max2 rfl) (by rfl) T.z_max (by decide +kernel) (pa_cons pe_int (pa_cons (pe_callB (cr_min2 rfl) (by rfl) T.z_min (by decide +kernel) (pa_cons (pe_callB cr_len (by rfl) T.z_len PySem.boot_len (pa_cons (pv 0) pa_nil)) (pa_cons pe_int pa_nil))) pa_nil))) pa_nil)) (blkOk_by (own := [("_law_k", 1)]) (N := ["_law_cells", "_law_k"]) (sc := defScope s_law) (by decide +kernel)) (fun _ _ _ _ _ => pg_name (i := 1) sc_law.nd rfl (Or.inl rfl)) (fun _ _ _ _ _ => pts_nil) (fun _ _ _ _ _ => by exact (pe_call (ok_right T) (hr.mono (by decide)) (by rfl) T.m_right T.F_right.kp T.b_right .nil pass0 (pa_cons (pe_call (ok_bag T) (hr.mono (by decide)) (by rfl) T.m_bag T.F_bag.kp T.b_bag .nil pass0 (pa_cons (pv 0) (pa_cons (pv 1) pa_nil))) pa_nil)))) pa_nil)))), ?_⟩
    walk_at "r"
    refine w_lenL sq ?_
    walk_at "r"
    have nn : ∀ z : Int, z ≤ 63 → (if (if (6 : Int) < z then (6 : Int) else z) > 2 then (if (6 : Int) < z then (6 : Int) else z) else 2) ≤ 6 ∧ 2 ≤ (if (if (6 : Int) < z then (6 : Int) else z) > 2 then (if (6 : Int) < z then (6 : Int) else z) else 2) := fun z hz => by split <;> (try split) <;> omega
    obtain ⟨b1, b2⟩ := nn ((ns.map V.int).length : Int) (by rw [List.length_map]; omega)
    refine ⟨_, rfl, ?_, ?_, ?_⟩
    · omega
    · omega
    refine cmS walk_rng0 (by omega) (fun _ _ => trivial) (fun i v _ => v = .bl true) (fun _ _ _ _ _ h => h) (fun i x G G' hi e hy Q' kq => ?_) (fun D ys G12 n12 f12 h12 hn12 hP => ?_)
    · obtain ⟨rfl, rfl⟩ := hy
      refine ⟨rfl, ?_⟩
      walk_at "r"
      refine ⟨c, ns, i, rfl, seqL_same e sq, by omega, fun b B1 nb eb bag => ?_⟩
      walk_at "r"
      exact ⟨b, rfl, bag, fun B2 k2 => kq _ _ (fun x o hx => k2.keep _ _ (ne_of_none hx nb) (eb _ _ hx)) rfl⟩
    walk_at "r"
    exact all_P h12 hP (k _)
end
end RK8

namespace RK8
open PySem PySem.Spec L2 RK
theorem walk {l : PySem.W.OpenLaw} {q : Program} {loose : List Str} {XP : (Str → Option Value) → Heap → Prop} {YP : World → Heap → Prop} {d : DefRec} {K : Params → PySem.W.Frag} (hn : l.most = some 63) (hdf : d.params.defaults = []) (hd : d.name = "law")
    (hY : ∀ (w : World) (h : Heap), YP w h → (K w.params).In h)
    (F : ∀ (w : World) (mg : Str → Option Value) (h : Heap), (K w.params).In h → h.Ns mainGlobals mg → ∃ a : Ad, Txt (K w.params) mg a) :
    PySem.W.WalkO q loose XP YP l.row.toRowW d [] (fun f vs => PySem.call f vs) :=
  L2.walk_of (n := 63) (k := 40) (x := "_law_cells") (CX := fun _ => CX0) (sp := fun w => spLaw (K w.params)) hn (by decide) hdf ⟨rfl, by decide, by decide⟩ hY (fun w mg fa h KX G hmg => by
    obtain ⟨a, T⟩ := F w mg h KX G
    rw [hd, T.m_law] at hmg
    cases hmg
    refine ⟨a.d_law, fun s u => ?_, fun base _ _ => ok_law T⟩
    obtain ⟨oc, od, kV, doc, pm, an, cdv, ct, osl, e, _, _⟩ := T.F_law.ex
    rw [e]
    exact .of_eq rfl) (fun _ _ a ns hl _ hS => ⟨a, ns, rfl, hS, hl, fun _ => rfl⟩) fun _ _ _ _ _ z => z
end RK8
open PySem PySem.W PyProof.Rows
set_option maxRecDepth 100000 in
set_option maxHeartbeats 0 in
theorem PySem.Challenge.cw_slackstrings_k08_whole_heights_are_least_holds : PySem.Challenge.rw_slackstrings_k08_whole_heights_are_least.Holds := by
  w_on; o_law; k_head; (case hw => w_witness2)
  k_fill
  refine RK8.walk (l := PySem.Challenge.rw_slackstrings_k08_whole_heights_are_least) rfl rfl rfl (fun w h Y => by first | exact PySem.W.kIn_of Y | exact PySem.W.km_in_of Y) ?F
  case F =>
    intro w mg h KX G
    refine' RK8.all_mk KX G ?aC_Puppet ?pg_Puppet ?hd_Puppet ?po_Puppet ?sa_Puppet ?mk_Puppet ?kc_Puppet ?aC_Ratio ?pg_Ratio ?hd_Ratio ?po_Ratio ?sa_Ratio ?mk_Ratio ?kc_Ratio ?a_is_whole ?l_is_whole ?c_is_whole ?k_is_whole ?a_is_number ?l_is_number ?c_is_number ?k_is_number ?a_is_small_letter ?l_is_small_letter ?c_is_small_letter ?k_is_small_letter ?a_is_capital ?l_is_capital ?c_is_capital ?k_is_capital ?a_is_word ?l_is_word ?c_is_word ?k_is_word ?a_is_row ?l_is_row ?c_is_row ?k_is_row ?a_is_rising ?l_is_rising ?c_is_rising ?k_is_rising ?a_are_capitals ?l_are_capitals ?c_are_capitals ?k_are_capitals ?a_is_one_of ?l_is_one_of ?c_is_one_of ?k_is_one_of ?a_has_just ?l_has_just ?c_has_just ?k_has_just ?a_Ratio_init ?i_Ratio_init ?l_Ratio_init ?c_Ratio_init ?k_Ratio_init ?t_Ratio_init ?a_Ratio_eq ?i_Ratio_eq ?l_Ratio_eq ?c_Ratio_eq ?k_Ratio_eq ?a_Ratio_neg ?i_Ratio_neg ?l_Ratio_neg ?c_Ratio_neg ?k_Ratio_neg ?a_Ratio_add ?i_Ratio_add ?l_Ratio_add ?c_Ratio_add ?k_Ratio_add ?a_Ratio_radd ?i_Ratio_radd ?l_Ratio_radd ?c_Ratio_radd ?k_Ratio_radd ?a_Ratio_sub ?i_Ratio_sub ?l_Ratio_sub ?c_Ratio_sub ?k_Ratio_sub ?a_Ratio_rsub ?i_Ratio_rsub ?l_Ratio_rsub ?c_Ratio_rsub ?k_Ratio_rsub ?a_Ratio_mul ?i_Ratio_mul ?l_Ratio_mul ?c_Ratio_mul ?k_Ratio_mul ?a_Ratio_rmul ?i_Ratio_rmul ?l_Ratio_rmul ?c_Ratio_rmul ?k_Ratio_rmul ?a_Ratio_compared ?i_Ratio_compared ?l_Ratio_compared ?c_Ratio_compared ?k_Ratio_compared ?a_is_fraction ?l_is_fraction ?c_is_fraction ?k_is_fraction ?a_as_ratio ?l_as_ratio ?c_as_ratio ?k_as_ratio ?a_is_length ?l_is_length ?c_is_length ?k_is_length ?a_are_lengths ?l_are_lengths ?c_are_lengths ?k_are_lengths ?a_are_heights ?l_are_heights ?c_are_heights ?k_are_heights ?a_greatest_of ?l_greatest_of ?c_greatest_of ?k_greatest_of ?a_Puppet_init ?i_Puppet_init ?l_Puppet_init ?c_Puppet_init ?k_Puppet_init ?a_check_parts ?l_check_parts ?c_check_parts ?k_check_parts ?a_check_ties ?l_check_ties ?c_check_ties ?k_check_ties ?a_is_tie ?l_is_tie ?c_is_tie ?k_is_tie ?a_is_tied ?l_is_tied ?c_is_tied ?k_is_tied ?a_check_strings ?l_check_strings ?c_check_strings ?k_check_strings ?a_is_string ?l_is_string ?c_is_string ?k_is_string ?a_distances_of ?l_distances_of ?c_distances_of ?k_distances_of ?a_shorten ?l_shorten ?c_shorten ?k_shorten ?a_Puppet_pulls ?i_Puppet_pulls ?l_Puppet_pulls ?c_Puppet_pulls ?k_Puppet_pulls ?a_Puppet_heights ?i_Puppet_heights ?l_Puppet_heights ?c_Puppet_heights ?k_Puppet_heights ?a_Puppet_check_told ?i_Puppet_check_told ?l_Puppet_check_told ?c_Puppet_check_told ?k_Puppet_check_told ?a_Puppet_holding ?i_Puppet_holding ?l_Puppet_holding ?c_Puppet_holding ?k_Puppet_holding ?a_bag ?l_bag ?c_bag ?k_bag ?a_draw ?l_draw ?c_draw ?k_draw ?a_one ?l_one ?c_one ?k_one ?a_words ?l_words ?c_words ?k_words ?a_letters ?l_letters ?c_letters ?k_letters ?a_cords ?l_cords ?c_cords ?k_cords ?a_shape ?l_shape ?c_shape ?k_shape ?a_longs ?l_longs ?c_longs ?k_longs ?a_passed ?l_passed ?c_passed ?k_passed ?a_turned ?l_turned ?c_turned ?k_turned ?a_rest ?l_rest ?c_rest ?k_rest ?a_is_least ?l_is_least ?c_is_least ?k_is_least ?a_right ?l_right ?c_right ?k_right ?a_law ?l_law ?c_law ?k_law ?z_isinstance ?z_int ?z_bool ?z_len ?z_abs ?z_range ?z_all ?z_any ?z_max ?z_min ?z_str ?z_tuple ?z_zip ?z_list ?z_sorted ?z_enumerate ?z_dict ?g_gcd ?g_MOST_PARTS ?g_MOST_TIES ?g_MOST_HOOKS ?g_MOST_STRINGS ?g_MOST_AMOUNT ?h_n_parts ?h_n_ties ?h_n_hooks ?h_n_strings ?h_n_names ?h_n_distances ?h_nT ?h_nB ?h_iA ?h_iN ?h_iT ?h_iM ?h_kRI ?h_kRR ?h_kIR ?h_kBR ?h_kTR ?h_sf ?h_ne ?h_ob ?h_sRI ?h_sIR ?h_nfI ?h_nfB ?h_nfT ?h_nfR ?h_iAdd ?h_iRadd ?h_iSub ?h_iRsub ?h_iMul ?h_iRmul
    (case aC_Puppet => first | k_is | rfl)
    (case pg_Puppet => first | k_is | rfl)
    (case hd_Puppet => first | k_is | rfl)
    (case po_Puppet => first | k_is | rfl)
    (case sa_Puppet => first | k_is | rfl)
    (case mk_Puppet => first | k_is | rfl)
    (case kc_Puppet => first | k_is | rfl)
    (case aC_Ratio => first | k_is | rfl)
    (case pg_Ratio => first | k_is | rfl)
    (case hd_Ratio => first | k_is | rfl)
    (case po_Ratio => first | k_is | rfl)
    (case sa_Ratio => first | k_is | rfl)
    (case mk_Ratio => first | k_is | rfl)
    (case kc_Ratio => first | k_is | rfl)
    (case a_is_whole => first | k_is | rfl)
    (case l_is_whole => first | k_is | rfl)
    (case c_is_whole => first | k_is | rfl)
    (case k_is_whole => first | k_is | rfl)
    (case a_is_number => first | k_is | rfl)
    (case l_is_number => first | k_is | rfl)
    (case c_is_number => first | k_is | rfl)
    (case k_is_number => first | k_is | rfl)
    (case a_is_small_letter => first | k_is | rfl)
    (case l_is_small_letter => first | k_is | rfl)
    (case c_is_small_letter => first | k_is | rfl)
    (case k_is_small_letter => first | k_is | rfl)
    (case a_is_capital => first | k_is | rfl)
    (case l_is_capital => first | k_is | rfl)
    (case c_is_capital => first | k_is | rfl)
    (case k_is_capital => first | k_is | rfl)
    (case a_is_word => first | k_is | rfl)
    (case l_is_word => first | k_is | rfl)
    (case c_is_word => first | k_is | rfl)
    (case k_is_word => first | k_is | rfl)
    (case a_is_row => first | k_is | rfl)
    (case l_is_row => first | k_is | rfl)
    (case c_is_row => first | k_is | rfl)
    (case k_is_row => first | k_is | rfl)
    (case a_is_rising => first | k_is | rfl)
    (case l_is_rising => first | k_is | rfl)
    (case c_is_rising => first | k_is | rfl)
    (case k_is_rising => first | k_is | rfl)
    (case a_are_capitals => first | k_is | rfl)
    (case l_are_capitals => first | k_is | rfl)
    (case c_are_capitals => first | k_is | rfl)
    (case k_are_capitals => first | k_is | rfl)
    (case a_is_one_of => first | k_is | rfl)
    (case l_is_one_of => first | k_is | rfl)
    (case c_is_one_of => first | k_is | rfl)
    (case k_is_one_of => first | k_is | rfl)
    (case a_has_just => first | k_is | rfl)
    (case l_has_just => first | k_is | rfl)
    (case c_has_just => first | k_is | rfl)
    (case k_has_just => first | k_is | rfl)
    (case a_Ratio_init => first | k_is | rfl)
    (case i_Ratio_init => first | k_is | rfl)
    (case l_Ratio_init => first | k_is | rfl)
    (case c_Ratio_init => first | k_is | rfl)
    (case k_Ratio_init => first | k_is | rfl)
    (case t_Ratio_init => first | k_is | rfl)
    (case a_Ratio_eq => first | k_is | rfl)
    (case i_Ratio_eq => first | k_is | rfl)
    (case l_Ratio_eq => first | k_is | rfl)
    (case c_Ratio_eq => first | k_is | rfl)
    (case k_Ratio_eq => first | k_is | rfl)
    (case a_Ratio_neg => first | k_is | rfl)
    (case i_Ratio_neg => first | k_is | rfl)
    (case l_Ratio_neg => first | k_is | rfl)
    (case c_Ratio_neg => first | k_is | rfl)
    (case k_Ratio_neg => first | k_is | rfl)
    (case a_Ratio_add => first | k_is | rfl)
    (case i_Ratio_add => first | k_is | rfl)
    (case l_Ratio_add => first | k_is | rfl)
    (case c_Ratio_add => first | k_is | rfl)
    (case k_Ratio_add => first | k_is | rfl)
    (case a_Ratio_radd => first | k_is | rfl)
    (case i_Ratio_radd => first | k_is | rfl)
    (case l_Ratio_radd => first | k_is | rfl)
    (case c_Ratio_radd => first | k_is | rfl)
    (case k_Ratio_radd => first | k_is | rfl)
    (case a_Ratio_sub => first | k_is | rfl)
    (case i_Ratio_sub => first | k_is | rfl)
    (case l_Ratio_sub => first | k_is | rfl)
    (case c_Ratio_sub => first | k_is | rfl)
    (case k_Ratio_sub => first | k_is | rfl)
    (case a_Ratio_rsub => first | k_is | rfl)
    (case i_Ratio_rsub => first | k_is | rfl)
    (case l_Ratio_rsub => first | k_is | rfl)
    (case c_Ratio_rsub => first | k_is | rfl)
    (case k_Ratio_rsub => first | k_is | rfl)
    (case a_Ratio_mul => first | k_is | rfl)
    (case i_Ratio_mul => first | k_is | rfl)
    (case l_Ratio_mul => first | k_is | rfl)
    (case c_Ratio_mul => first | k_is | rfl)
    (case k_Ratio_mul => first | k_is | rfl)
    (case a_Ratio_rmul => first | k_is | rfl)
    (case i_Ratio_rmul => first | k_is | rfl)
    (case l_Ratio_rmul => first | k_is | rfl)
    (case c_Ratio_rmul => first | k_is | rfl)
    (case k_Ratio_rmul => first | k_is | rfl)
    (case a_Ratio_compared => first | k_is | rfl)
    (case i_Ratio_compared => first | k_is | rfl)
    (case l_Ratio_compared => first | k_is | rfl)
    (case c_Ratio_compared => first | k_is | rfl)
    (case k_Ratio_compared => first | k_is | rfl)
    (case a_is_fraction => first | k_is | rfl)
    (case l_is_fraction => first | k_is | rfl)
    (case c_is_fraction => first | k_is | rfl)
    (case k_is_fraction => first | k_is | rfl)
    (case a_as_ratio => first | k_is | rfl)
    (case l_as_ratio => first | k_is | rfl)
    (case c_as_ratio => first | k_is | rfl)
    (case k_as_ratio => first | k_is | rfl)
    (case a_is_length => first | k_is | rfl)
    (case l_is_length => first | k_is | rfl)
    (case c_is_length => first | k_is | rfl)
    (case k_is_length => first | k_is | rfl)
    (case a_are_lengths => first | k_is | rfl)
    (case l_are_lengths => first | k_is | rfl)
    (case c_are_lengths => first | k_is | rfl)
    (case k_are_lengths => first | k_is | rfl)
    (case a_are_heights => first | k_is | rfl)
    (case l_are_heights => first | k_is | rfl)
    (case c_are_heights => first | k_is | rfl)
    (case k_are_heights => first | k_is | rfl)
    (case a_greatest_of => first | k_is | rfl)
    (case l_greatest_of => first | k_is | rfl)
    (case c_greatest_of => first | k_is | rfl)
    (case k_greatest_of => first | k_is | rfl)
    (case a_Puppet_init => first | k_is | rfl)
    (case i_Puppet_init => first | k_is | rfl)
    (case l_Puppet_init => first | k_is | rfl)
    (case c_Puppet_init => first | k_is | rfl)
    (case k_Puppet_init => first | k_is | rfl)
    (case a_check_parts => first | k_is | rfl)
    (case l_check_parts => first | k_is | rfl)
    (case c_check_parts => first | k_is | rfl)
    (case k_check_parts => first | k_is | rfl)
    (case a_check_ties => first | k_is | rfl)
    (case l_check_ties => first | k_is | rfl)
    (case c_check_ties => first | k_is | rfl)
    (case k_check_ties => first | k_is | rfl)
    (case a_is_tie => first | k_is | rfl)
    (case l_is_tie => first | k_is | rfl)
    (case c_is_tie => first | k_is | rfl)
    (case k_is_tie => first | k_is | rfl)
    (case a_is_tied => first | k_is | rfl)
    (case l_is_tied => first | k_is | rfl)
    (case c_is_tied => first | k_is | rfl)
    (case k_is_tied => first | k_is | rfl)
    (case a_check_strings => first | k_is | rfl)
    (case l_check_strings => first | k_is | rfl)
    (case c_check_strings => first | k_is | rfl)
    (case k_check_strings => first | k_is | rfl)
    (case a_is_string => first | k_is | rfl)
    (case l_is_string => first | k_is | rfl)
    (case c_is_string => first | k_is | rfl)
    (case k_is_string => first | k_is | rfl)
    (case a_distances_of => first | k_is | rfl)
    (case l_distances_of => first | k_is | rfl)
    (case c_distances_of => first | k_is | rfl)
    (case k_distances_of => first | k_is | rfl)
    (case a_shorten => first | k_is | rfl)
    (case l_shorten => first | k_is | rfl)
    (case c_shorten => first | k_is | rfl)
    (case k_shorten => first | k_is | rfl)
    (case a_Puppet_pulls => first | k_is | rfl)
    (case i_Puppet_pulls => first | k_is | rfl)
    (case l_Puppet_pulls => first | k_is | rfl)
    (case c_Puppet_pulls => first | k_is | rfl)
    (case k_Puppet_pulls => first | k_is | rfl)
    (case a_Puppet_heights => first | k_is | rfl)
    (case i_Puppet_heights => first | k_is | rfl)
    (case l_Puppet_heights => first | k_is | rfl)
    (case c_Puppet_heights => first | k_is | rfl)
    (case k_Puppet_heights => first | k_is | rfl)
    (case a_Puppet_check_told => first | k_is | rfl)
    (case i_Puppet_check_told => first | k_is | rfl)
    (case l_Puppet_check_told => first | k_is | rfl)
    (case c_Puppet_check_told => first | k_is | rfl)
    (case k_Puppet_check_told => first | k_is | rfl)
    (case a_Puppet_holding => first | k_is | rfl)
    (case i_Puppet_holding => first | k_is | rfl)
    (case l_Puppet_holding => first | k_is | rfl)
    (case c_Puppet_holding => first | k_is | rfl)
    (case k_Puppet_holding => first | k_is | rfl)
    (case a_bag => first | k_is | rfl)
    (case l_bag => first | k_is | rfl)
    (case c_bag => first | k_is | rfl)
    (case k_bag => first | k_is | rfl)
    (case a_draw => first | k_is | rfl)
    (case l_draw => first | k_is | rfl)
    (case c_draw => first | k_is | rfl)
    (case k_draw => first | k_is | rfl)
    (case a_one => first | k_is | rfl)
    (case l_one => first | k_is | rfl)
    (case c_one => first | k_is | rfl)
    (case k_one => first | k_is | rfl)
    (case a_words => first | k_is | rfl)
    (case l_words => first | k_is | rfl)
    (case c_words => first | k_is | rfl)
    (case k_words => first | k_is | rfl)
    (case a_letters => first | k_is | rfl)
    (case l_letters => first | k_is | rfl)
    (case c_letters => first | k_is | rfl)
    (case k_letters => first | k_is | rfl)
    (case a_cords => first | k_is | rfl)
    (case l_cords => first | k_is | rfl)
    (case c_cords => first | k_is | rfl)
    (case k_cords => first | k_is | rfl)
    (case a_shape => first | k_is | rfl)
    (case l_shape => first | k_is | rfl)
    (case c_shape => first | k_is | rfl)
    (case k_shape => first | k_is | rfl)
    (case a_longs => first | k_is | rfl)
    (case l_longs => first | k_is | rfl)
    (case c_longs => first | k_is | rfl)
    (case k_longs => first | k_is | rfl)
    (case a_passed => first | k_is | rfl)
    (case l_passed => first | k_is | rfl)
    (case c_passed => first | k_is | rfl)
    (case k_passed => first | k_is | rfl)
    (case a_turned => first | k_is | rfl)
    (case l_turned => first | k_is | rfl)
    (case c_turned => first | k_is | rfl)
    (case k_turned => first | k_is | rfl)
    (case a_rest => first | k_is | rfl)
    (case l_rest => first | k_is | rfl)
    (case c_rest => first | k_is | rfl)
    (case k_rest => first | k_is | rfl)
    (case a_is_least => first | k_is | rfl)
    (case l_is_least => first | k_is | rfl)
    (case c_is_least => first | k_is | rfl)
    (case k_is_least => first | k_is | rfl)
    (case a_right => first | k_is | rfl)
    (case l_right => first | k_is | rfl)
    (case c_right => first | k_is | rfl)
    (case k_right => first | k_is | rfl)
    (case a_law => first | k_is | rfl)
    (case l_law => first | k_is | rfl)
    (case c_law => first | k_is | rfl)
    (case k_law => first | k_is | rfl)
    (case z_isinstance => first | k_is | rfl)
    (case z_int => first | k_is | rfl)
    (case z_bool => first | k_is | rfl)
    (case z_len => first | k_is | rfl)
    (case z_abs => first | k_is | rfl)
    (case z_range => first | k_is | rfl)
    (case z_all => first | k_is | rfl)
    (case z_any => first | k_is | rfl)
    (case z_max => first | k_is | rfl)
    (case z_min => first | k_is | rfl)
    (case z_str => first | k_is | rfl)
    (case z_tuple => first | k_is | rfl)
    (case z_zip => first | k_is | rfl)
    (case z_list => first | k_is | rfl)
    (case z_sorted => first | k_is | rfl)
    (case z_enumerate => first | k_is | rfl)
    (case z_dict => first | k_is | rfl)
    (case g_gcd => first | k_is | rfl)
    (case g_MOST_PARTS => first | k_is | rfl)
    (case g_MOST_TIES => first | k_is | rfl)
    (case g_MOST_HOOKS => first | k_is | rfl)
    (case g_MOST_STRINGS => first | k_is | rfl)
    (case g_MOST_AMOUNT => first | k_is | rfl)
    (case h_n_parts => first | k_is | rfl)
    (case h_n_ties => first | k_is | rfl)
    (case h_n_hooks => first | k_is | rfl)
    (case h_n_strings => first | k_is | rfl)
    (case h_n_names => first | k_is | rfl)
    (case h_n_distances => first | k_is | rfl)
    (case h_nT => first | k_is | rfl)
    (case h_nB => first | k_is | rfl)
    (case h_iA => first | k_is | rfl)
    (case h_iN => first | k_is | rfl)
    (case h_iT => first | k_is | rfl)
    (case h_iM => first | k_is | rfl)
    (case h_kRI => first | k_is | rfl)
    (case h_kRR => first | k_is | rfl)
    (case h_kIR => first | k_is | rfl)
    (case h_kBR => first | k_is | rfl)
    (case h_kTR => first | k_is | rfl)
    (case h_sf => first | k_is | rfl)
    (case h_ne => first | k_is | rfl)
    (case h_ob => first | k_is | rfl)
    (case h_sRI => first | k_is | rfl)
    (case h_sIR => first | k_is | rfl)
    (case h_nfI => first | k_is | rfl)
    (case h_nfB => first | k_is | rfl)
    (case h_nfT => first | k_is | rfl)
    (case h_nfR => first | k_is | rfl)
    (case h_iAdd => first | k_is | rfl)
    (case h_iRadd => first | k_is | rfl)
    (case h_iSub => first | k_is | rfl)
    (case h_iRsub => first | k_is | rfl)
    (case h_iMul => first | k_is | rfl)
    (case h_iRmul => first | k_is | rfl)
