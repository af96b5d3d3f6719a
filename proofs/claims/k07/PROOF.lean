import PyProof.Rows.All
import HandS.ClsMeth
import HandS.Comp
import HandS.Conv
import HandS.Deep
import HandS.Defaults
import HandS.DictComp
import HandS.EndOwn
import HandS.EndTab
import HandS.Ends
import HandS.Exc
import HandS.ExcField
import HandS.ExcInit
import HandS.ExcIs
import HandS.ExcValue
import HandS.FStr
import HandS.ForMost
import HandS.Gcd
import HandS.HotCalls
import HandS.IsInst
import HandS.Iter
import HandS.Lambda
import HandS.MakeKw
import HandS.MakeKwOnly
import HandS.RaiseMore
import HandS.ReplaceDef
import HandS.ReplaceLit
import HandS.SetFor
import HandS.SlotsOwn
import HandS.Small
import HandS.Star
import HandS.Style
import HandS.Text
import HandS.TupAny
import HandS.Walk
import HandS.Wide
import HandS.Zip
import KE.GoesNew
import KE.KOpsOwn
import KE.KTryMore
import OpenK.AllK
import PyProof.CallFns
import PyProof.CallStr
import PyProof.EqKinds
import PyProof.InstNe
import PyProof.MeetsStr3
import PyProof.ReprRoads
import PyProof.Rows.EqMixed
import PyProof.StrHeap
import PyProof.StrReplace2
import Wide.All
import Wide.FinOn
import OpenK.AllK
import Wide.All
import Wide.FinOn
import PySem.Challenge.RW_slackstrings_k07_distances_and_ways
set_option Elab.async false
set_option linter.all false
set_option maxRecDepth 100000
set_option maxHeartbeats 4000000
/-! Own operators of a class, over the layer. -/
namespace PySem.RkX
open PySem PySem.W
section
variable {prog : Program} {w : World} {A : Around} {E : Value → Shared → Prop} {s : Shared} {K : Frag} {x C L f : Addr} {h₀ : Heap} {m : Str → Option Value} {ox : Obj} {od : Option Obj}

/-- int op instance, int's own slot declines -/
theorem bin_IO {op : Operator} {i : Int} {t : Tok} {id : String} {g0 : Addr} {Q : Value → Shared → Prop} (X : K.In s.heap) (I : InstAt s.heap x ox C od) (hc : selfFirst K C = true)
    (hs : findIn K (.ref C) (PySem.dunder op.info.2) = some (some (.ref g0))) (hr : findIn K (.ref C) (dunderR op.info.2) = some (some (.ref f))) (hf : isFn K (.ref f) = true)
    (hsub : subIn K (.ref C) (.type "int") = some false) (fillsT : fillsNumberSlot (.type "int") op.info.2 = pure true) (slot : Slot "int" (PySem.dunder op.info.2) id)
    (hd : ∀ Q : Value → Shared → Prop, Q .notImplemented s → wpAny (model prog w) A (call (.builtin id) [.int i t, .ref x]) Q E s)
    (h : wpAny (model prog w) A (call (.ref f) [.ref x, .int i t]) (CmpBack Q) E s) : wpAny (model prog w) A (binaryOp op (.int i t) (.ref x)) Q E s := by
  obtain ⟨cd, rest, hcd, hm⟩ := ksp_first hc
  rcases hi : op.info with ⟨sym, nm'⟩
  rw [hi] at hs hr fillsT slot
  dsimp only at hs hr fillsT slot
  have one := ksp_try X I hr hf h
  have two : wpAny (model prog w) A (tryMethod (.int i t) (PySem.dunder nm') (.ref x)) (fun r s' => r = none ∧ s' = s) E s :=
    wpAny_tryMethod_declines (typeIs_int s i t) slot (hd _ ⟨rfl, rfl, rfl⟩)
  obtain ⟨hh, g, d, tt, os⟩ := s
  have L1 : Looks (model prog w) hh (typeOf (.ref x)) (.ref C) := I.type
  have L2 : Looks (model prog w) hh (typeOf (.int i t)) (.type "int") := Looks.of_pure rfl
  have L3 : Looks (model prog w) hh (fillsNumberSlot (.ref C) nm') true := fills_K X hcd hm hs
  have L4 : Looks (model prog w) hh (fillsNumberSlot (.type "int") nm') true := Looks.of_pure fillsT
  have L5 : Looks (model prog w) hh (isSubtype (.ref C) (.type "int")) false := looks_subIn X hsub
  have L7 : Looks (model prog w) hh (numberSlotInPython (.type "int") nm') false := Looks.of_pure rfl
  have hne : (Value.type "int" == Value.ref C) = false := Bool.eq_false_iff.mpr fun q => by cases beq_iff_eq.mp q
  simp only [binaryOp, hi]
  refine wpAny_holding (wpAny_bind ?_)
  unfold binaryOp1
  refine wpAny_bind (L2.at (wpAny_bind (L1.at (wpAny_bind (L4.at ?_)))))
  simp only [hne, Bool.false_eq_true, if_false]
  ksp_lk
  refine wpAny_mono two (fun r s' hr' => ?_) fun _ _ e => e
  obtain ⟨rfl, rfl⟩ := hr'
  ksp_lk
  refine wpAny_mono one (fun r s' hr' => ?_) fun _ _ e => e
  obtain ⟨v, rfl, hq⟩ := hr'
  ksp_lk
  exact hq

/-- int == instance: int's own __eq__ declines, the class's one is asked -/
theorem eq_IO {i : Int} {t : Tok} {Q : Value → Shared → Prop} (hu : A.units < cLine) (X : K.In s.heap) (I : InstAt s.heap x ox C od)
    (hs : findIn K (.ref C) "__eq__" = some (some (.ref f))) (hf : isFn K (.ref f) = true) (hsub : subIn K (.ref C) (.type "int") = some false)
    (hd : ∀ Q : Value → Shared → Prop, Q .notImplemented s → wpAny (model prog w) A (call (.builtin "int.__eq__") [.int i t, .ref x]) Q E s)
    (h : wpAny (model prog w) A (call (.ref f) [.ref x, .int i t]) (CmpBack Q) E s) : wpAny (model prog w) A (richCompare .Eq (.int i t) (.ref x)) Q E s := by
  have one : wpAny (model prog w) A (tryCompare (.ref x) "__eq__" (.int i t)) (fun r s' => ∃ v, r = some v ∧ Q v s') E s := by
    unfold tryCompare
    refine wpAny_bind (ifBound_K X I hs hf (wpAny_mono h (fun v s' hv => ?_) fun _ _ e => e))
    cases v <;> first | exact hv.elim | exact wpAny_pure ⟨_, rfl, hv⟩
  have two : wpAny (model prog w) A (tryCompare (.int i t) "__eq__" (.ref x)) (fun r s' => r = none ∧ s' = s) E s :=
    wpAny_tryCompare_declines (typeIs_int s i t) F.slot_int_eq (hd _ ⟨rfl, rfl, rfl⟩)
  have L2 : Looks (model prog w) s.heap (typeOf (.int i t)) (.type "int") := Looks.of_pure rfl
  have hne0 : (Value.type "int" == Value.ref C) = false := Bool.eq_false_iff.mpr fun q => by cases beq_iff_eq.mp q
  have hne : (Value.type "int" != Value.ref C) = true := by
    rw [bne, hne0]
    rfl
  unfold richCompare
  simp only [(typeIs_int s i t).oneThing_none]
  refine wpAny_holding (wpAny_bind (wpAny_cRoomFor hu ?_))
  rw [show cmpInfo .Eq = ("==", ("__eq__" : Str), ("__eq__" : Str)) from rfl]
  dsimp only
  refine wpAny_bind (L2.here (wpAny_bind (I.type.here ?_)))
  simp only [hne, if_true]
  refine wpAny_bind ((looks_subIn X hsub).here ?_)
  simp only [Bool.false_eq_true, if_false, Bool.not_false, if_true]
  refine wpAny_bind (wpAny_mono two (fun r s' hr' => ?_) fun _ _ e => e)
  obtain ⟨rfl, rfl⟩ := hr'
  refine wpAny_bind (wpAny_mono one (fun r s' hr' => ?_) fun _ _ e => e)
  obtain ⟨v, rfl, hq⟩ := hr'
  exact wpAny_pure hq

/-- int's slots decline an object that holds no int -/
def NoPrim (h : Heap) (x : Addr) : Prop := ∃ o, h.get? x = some o ∧ ∀ i t, o.data ≠ .prim (.int i t)
theorem asInt_ref {Q : Option Int → Shared → Prop} {M : Model} (h : NoPrim s.heap x) (q : Q none s) : wpAny M A (asInt? (.ref x)) Q E s := by
  obtain ⟨o, ho, hn⟩ := h
  unfold asInt?
  refine wpAny_bind (wpAny_load ho ?_)
  split
  · rename_i i t e
    exact absurd e (hn i t)
  · exact wpAny_pure q

/-- instance != instance: object's own __ne__ asks the class's __eq__ -/
theorem ne_entry {y : Addr} {Q : Fin → Shared → Prop} (hu : A.units < cLine) (X : K.In s.heap) (I : InstAt s.heap x ox C od) (hs : findIn K (.ref C) "__eq__" = some (some (.ref f))) (hf : isFn K (.ref f) = true)
    (h : wpAny (model prog w) A (call (.ref f) [.ref x, .ref y]) (fun v s' => ∃ b, v = .bool b ∧ Q (.done (.ret (.bool (!b)))) s') E s) :
    wpAny (model prog w) A (Builtin.«object.__ne__» ⟨[.ref x, .ref y], []⟩) Q E s := by
  have one : wpAny (model prog w) A (callSpecialIfBound? (.ref x) "__eq__" [.ref y]) (fun r s' => ∃ b, r = some (.bool b) ∧ Q (.done (.ret (.bool (!b)))) s') E s :=
    ifBound_K X I hs hf (wpAny_mono h (fun v s' ⟨b, e, q⟩ => ⟨b, by rw [e], q⟩) fun _ _ e => e)
  obtain ⟨hp, g, d, tk, os⟩ := s
  unfold Builtin.«object.__ne__»
  repeat (first
    | with_reducible refine wpAny_cRoomFor hu ?_
    | (refine wpAny_bind (m := callSpecialIfBound? (.ref x) (Str.ofString "__eq__") [.ref y]) (wpAny_mono one (fun r s' hr => by
          obtain ⟨b, rfl, hq⟩ := hr
          repeat (first | exact hq | exact wpAny_pure hq | exact wpAny_truthy_bool hq | (refine wpAny_bind (m := truthy (.bool _)) (wpAny_truthy_bool ?_)) | wp_step)) fun _ _ e => e))
    | wp_step)
theorem ne_check {y : Addr} {Q : Unit → Shared → Prop} {M : Model} (X : K.In s.heap) (I : InstAt s.heap x ox C od) (hob : subIn K (.ref C) (.type "object") = some true) (hq : Q () s) :
    wpAny M A (checkBuiltinCall "object.__ne__" ⟨[.ref x, .ref y], []⟩) Q E s := by
  have ha := F.cmpArgs_ne (.ref x) (.ref y)
  simp only [checkBuiltinCall, F.cmpKind_ne, F.cmpSplit_ne]
  refine wpAny_bind ?_
  unfold isInstance
  refine wpAny_bind (I.type.here ((looks_subIn X hob).here ?_))
  cases hsig : Manifest.signature? "object.__ne__" with
  | none => repeat (first | exact hq | exact wpAny_pure hq | wp_step)
  | some sig =>
    simp only [argsOk, hsig] at ha
    have h2 : Bind.checkArgs "object.__ne__" sig ⟨[.ref x, .ref y], []⟩ = pure () := ha
    repeat (first | exact hq | exact wpAny_pure hq | (rw [h2]; exact wpAny_pure hq) | wp_step)
theorem ne_OO {y : Addr} {Q : Value → Shared → Prop} (hu : A.units + 1 < cLine) (X : K.In s.heap) (I : InstAt s.heap x ox C od) (hy : Looks (model prog w) s.heap (typeOf (.ref y)) (.ref C))
    (hs : findIn K (.ref C) "__eq__" = some (some (.ref f))) (hf : isFn K (.ref f) = true) (hn : findIn K (.ref C) "__ne__" = some (some (.builtin "object.__ne__"))) (hob : subIn K (.ref C) (.type "object") = some true)
    (h : wpAny (model prog w) A.in1 (call (.ref f) [.ref x, .ref y]) (fun v s' => ∃ b, v = .bool b ∧ Q (.bool (!b)) s') E s) : wpAny (model prog w) A (richCompare .NotEq (.ref x) (.ref y)) Q E s := by
  have called : wpAny (model prog w) A (call (.builtin "object.__ne__") [.ref x, .ref y]) (fun v s' => ∃ b, v = .bool b ∧ Q (.bool b) s') E s := by
    refine wpAny_call (codeAny_call_builtin F.cmp_object.ne.plain F.cmpEntry_ne (ne_check X I hob ?_))
    refine ne_entry (A := A.in1) hu X I hs hf (wpAny_mono h (fun v s' hv => ?_) fun _ _ e => e)
    obtain ⟨b, rfl, hq⟩ := hv
    exact ⟨b, rfl, _, rfl, hq⟩
  have bound : wpAny (model prog w) A (callSpecialIfBound? (.ref x) "__ne__" [.ref y]) (fun r s' => ∃ b, r = some (.bool b) ∧ Q (.bool b) s') E s := by
    simp only [callSpecialIfBound?, bindSpecialIfBound?]
    refine wpAny_holding (wpAny_bind (wpAny_bind (wpAny_bind (I.type.here ((looks_findIn X hn).here ?_)))))
    have sb := F.cmp_object.ne.bind
    simp only [sb]
    refine wpAny_bind (wpAny_askSetting (wpAny_ite ?_))
    have fin : wpAny (model prog w) A (call (.builtin "object.__ne__") ([.ref x] ++ [.ref y]) >>= fun v => pure (some v)) (fun r s' => ∃ b, r = some (.bool b) ∧ Q (.bool b) s') E s :=
      wpAny_bind (wpAny_mono called (fun v s' h' => wpAny_pure (by obtain ⟨b, rfl, q⟩ := h'; exact ⟨b, rfl, q⟩)) fun _ _ h' => h')
    split
    · exact wpAny_bind (wpAny_pure (wpAny_pure fin))
    · exact wpAny_tryCatch (wpAny_bind (wpAny_pure (wpAny_pure fin)))
  have one : wpAny (model prog w) A (tryCompare (.ref x) "__ne__" (.ref y)) (fun r s' => ∃ b, r = some (.bool b) ∧ Q (.bool b) s') E s := by
    unfold tryCompare
    refine wpAny_bind (wpAny_mono bound (fun r s' hr => ?_) fun _ _ e => e)
    obtain ⟨b, rfl, q⟩ := hr
    exact wpAny_pure ⟨b, rfl, q⟩
  unfold richCompare
  simp only [oneThing_ref]
  refine wpAny_holding (wpAny_bind (wpAny_cRoomFor (Nat.lt_of_succ_lt hu) ?_))
  rw [cmpInfo_NotEq]
  dsimp only
  refine wpAny_bind (I.type.here (wpAny_bind (hy.here ?_)))
  rw [show (Value.ref C != Value.ref C) = false from by simp]
  simp only [Bool.false_eq_true, if_false]
  refine wpAny_bind (wpAny_pure ?_)
  simp only [Bool.false_eq_true, if_false]
  refine wpAny_bind (wpAny_mono one (fun r s' hr => ?_) fun _ _ e => e)
  obtain ⟨b, rfl, q⟩ := hr
  exact wpAny_pure q
end
section
variable {x : Addr} (a : Int) (t : Tok)
theorem dec_add : GivesAt (fun s => NoPrim s.heap x) (Builtin.«int.__add__» ⟨[.int a t, .ref x], []⟩) (.val .notImplemented) := by
  intro prog w A R s hP h
  obtain ⟨hp, g, d, tk, os⟩ := s
  wp_walk
  obtain ⟨o, ho, hn⟩ := hP
  refine wpAny_load ho ?_
  split
  · rename_i i t e
    exact absurd e (hn i t)
  · wp_walk
    exact h
theorem dec_sub : GivesAt (fun s => NoPrim s.heap x) (Builtin.«int.__sub__» ⟨[.int a t, .ref x], []⟩) (.val .notImplemented) := by
  intro prog w A R s hP h
  obtain ⟨hp, g, d, tk, os⟩ := s
  wp_walk
  obtain ⟨o, ho, hn⟩ := hP
  refine wpAny_load ho ?_
  split
  · rename_i i t e
    exact absurd e (hn i t)
  · wp_walk
    exact h
theorem dec_mul : GivesAt (fun s => NoPrim s.heap x) (Builtin.«int.__mul__» ⟨[.int a t, .ref x], []⟩) (.val .notImplemented) := by
  intro prog w A R s hP h
  obtain ⟨hp, g, d, tk, os⟩ := s
  wp_walk
  obtain ⟨o, ho, hn⟩ := hP
  refine wpAny_load ho ?_
  split
  · rename_i i t e
    exact absurd e (hn i t)
  · wp_walk
    exact h
theorem dec_eq : GivesAt (fun s => NoPrim s.heap x) (Builtin.«int.__eq__» ⟨[.int a t, .ref x], []⟩) (.val .notImplemented) := by
  intro prog w A R s hP h
  obtain ⟨hp, g, d, tk, os⟩ := s
  wp_walk
  obtain ⟨o, ho, hn⟩ := hP
  refine wpAny_load ho ?_
  split
  · rename_i i t e
    exact absurd e (hn i t)
  · wp_walk
    exact h
end
end PySem.RkX

namespace RK
open PySem PySem.Spec PyProof.Rows L2

/-! ### rules for own operators, by values -/
section
variable {X : Cx} {CX : CXT} {n : Nat} {C f g0 : Addr} {fd : FuncData} {ps : List Str} {sp : Sp} {E : XK}
theorem inst_at {pins : List (Addr × Obj)} {σ : L2.St} {H : Hp} {s : Shared} {a dx : Addr} {fs : List (Str × V)} (I : Inv X pins σ H s) (h : H a = some (.ins C dx fs)) : ∃ od, PySem.W.InstAt s.heap a (PySem.W.instObj C dx) C (some od) := by
  obtain ⟨mA, J, _⟩ := ins_get I.hok h
  obtain ⟨od, J, _⟩ := J.look
  exact ⟨od, J⟩
theorem inst_np {h : Heap} {a dx : Addr} {od : Option Obj} (J : PySem.W.InstAt h a (PySem.W.instObj C dx) C od) : PySem.RkX.NoPrim h a := ⟨_, J.at_, fun i t e => nomatch e⟩
/-- a op b, both instances of the class at C -/
def rOwn2 (C : Addr) (sp : Sp) (E : XK) : R2 := fun x y H Q => ∃ a b dx fs dy gs, x = .ref a ∧ y = .ref b ∧ H a = some (.ins C dx fs) ∧ H b = some (.ins C dy gs) ∧ sp [x, y] H Q E
theorem op_own2 {op : Operator} (hc : PySem.W.selfFirst X.K C = true) (hs : PySem.W.findIn X.K (.ref C) (PySem.dunder op.info.2) = some (some (.ref f))) (hf : PySem.W.isFn X.K (.ref f) = true)
    (F : FnOk X.prog X.w X.K X.mg X.base CX n f fd ps sp) (hr : Room n X.A) (hb : Binds X.K fd ps []) (hx : Passes CX X E) : OpR X (binaryOp op) (rOwn2 C sp E) := by
  intro pins s σ H x y v u Q I rx ry h
  obtain ⟨a, b, dx, fs, dy, gs, rfl, rfl, ha, hb', q⟩ := h
  cases (show v = Value.ref a from rx)
  cases (show u = Value.ref b from ry)
  obtain ⟨od, J⟩ := inst_at I ha
  obtain ⟨od', J'⟩ := inst_at I hb'
  obtain ⟨m, hF⟩ := I.fr
  refine PySem.W.binop_K hF I.ok.mod.kin J J'.type hc hs hf ?_
  refine wpAny_mono (run_fn (vs := [V.ref a, V.ref b]) F hr hb .nil hx I (.cons rfl (.cons rfl .nil)) q) (fun w s' z => ?_) fun _ _ x => x
  obtain ⟨z', H', I', rz, qz⟩ := z
  exact SlX.cmpback rz ⟨z', H', I', rz, qz⟩
/-- a op int -/
def rOwnI (C : Addr) (sp : Sp) (E : XK) : R2 := fun x y H Q => ∃ a dx fs i, x = .ref a ∧ y = .int i ∧ H a = some (.ins C dx fs) ∧ sp [x, y] H Q E
theorem op_ownI {op : Operator} {fo ro rc : Option Value} (hc : PySem.W.selfFirst X.K C = true) (hs : PySem.W.findIn X.K (.ref C) (PySem.dunder op.info.2) = some (some (.ref f))) (hf : PySem.W.isFn X.K (.ref f) = true)
    (hr' : PySem.W.findIn X.K (.ref C) (dunderR op.info.2) = some rc) (hp : rc = none ∨ ∃ g : Addr, rc = some (.ref g))
    (h1 : PySem.W.findIn X.K (.type "int") (PySem.dunder op.info.2) = some fo) (h2 : PySem.W.findIn X.K (.type "int") (dunderR op.info.2) = some ro) (hsub : PySem.W.subIn X.K (.type "int") (.ref C) = some false)
    (F : FnOk X.prog X.w X.K X.mg X.base CX n f fd ps sp) (hr : Room n X.A) (hb : Binds X.K fd ps []) (hx : Passes CX X E) : OpR X (binaryOp op) (rOwnI C sp E) := by
  intro pins s σ H x y v u Q I rx ry h
  obtain ⟨a, dx, fs, i, rfl, rfl, ha, q⟩ := h
  cases (show v = Value.ref a from rx)
  obtain ⟨t, rfl⟩ := (show ∃ t, u = Value.int i t from ry)
  obtain ⟨od, J⟩ := inst_at I ha
  obtain ⟨m, hF⟩ := I.fr
  refine PySem.W.ksp_binT hF I.ok.mod.kin J rfl hc hs hf hr' hp h1 h2 hsub ?_
  refine wpAny_mono (run_fn (vs := [V.ref a, V.int i]) F hr hb .nil hx I (.cons rfl (.cons ⟨t, rfl⟩ .nil)) q) (fun w s' z => ?_) fun _ _ x => x
  obtain ⟨z', H', I', rz, qz⟩ := z
  exact SlX.cmpback rz ⟨z', H', I', rz, qz⟩
/-- int op a: by the class's reflected def -/
def rIOwn (C : Addr) (sp : Sp) (E : XK) : R2 := fun x y H Q => ∃ a dx fs i, x = .int i ∧ y = .ref a ∧ H a = some (.ins C dx fs) ∧ sp [y, x] H Q E
theorem op_Iown {op : Operator} {id : String} {B : Builtin} (hc : PySem.W.selfFirst X.K C = true) (hs : PySem.W.findIn X.K (.ref C) (PySem.dunder op.info.2) = some (some (.ref g0)))
    (hr' : PySem.W.findIn X.K (.ref C) (dunderR op.info.2) = some (some (.ref f))) (hf : PySem.W.isFn X.K (.ref f) = true) (hsub : PySem.W.subIn X.K (.ref C) (.type "int") = some false)
    (fillsT : fillsNumberSlot (.type "int") op.info.2 = pure true) (slot : Slot "int" (PySem.dunder op.info.2) id) (entry : entryFor table id = some B) (args : ∀ a b : Value, argsOk id ⟨[a, b], []⟩)
    (dec : ∀ (i : Int) (t : Tok) (x : Addr), GivesAt (fun s => PySem.RkX.NoPrim s.heap x) (B ⟨[.int i t, .ref x], []⟩) (.val .notImplemented))
    (F : FnOk X.prog X.w X.K X.mg X.base CX n f fd ps sp) (hr : Room n X.A) (hb : Binds X.K fd ps []) (hx : Passes CX X E) : OpR X (binaryOp op) (rIOwn C sp E) := by
  intro pins s σ H x y v u Q I rx ry h
  obtain ⟨a, dx, fs, i, rfl, rfl, ha, q⟩ := h
  obtain ⟨t, rfl⟩ := (show ∃ t, v = Value.int i t from rx)
  cases (show u = Value.ref a from ry)
  obtain ⟨od, J⟩ := inst_at I ha
  refine PySem.RkX.bin_IO I.kIn J hc hs hr' hf hsub fillsT slot (fun Q' q' => call_givesAt slot (typeIs_int s i t) entry (args _ _) (dec i t a) (inst_np J) q') ?_
  refine wpAny_mono (run_fn (vs := [V.ref a, V.int i]) F hr hb .nil hx I (.cons rfl (.cons ⟨t, rfl⟩ .nil)) q) (fun w s' z => ?_) fun _ _ x => x
  obtain ⟨z', H', I', rz, qz⟩ := z
  exact SlX.cmpback rz ⟨z', H', I', rz, qz⟩
/-- -a -/
def rNegO (C : Addr) (sp : Sp) (E : XK) : V → Hp → VK → Prop := fun x H Q => ∃ a dx fs, x = .ref a ∧ H a = some (.ins C dx fs) ∧ sp [x] H Q E
theorem un_negO (hs : PySem.W.findIn X.K (.ref C) "__neg__" = some (some (.ref f))) (hf : PySem.W.isFn X.K (.ref f) = true)
    (F : FnOk X.prog X.w X.K X.mg X.base CX n f fd ps sp) (hr : Room n X.A) (hb : Binds X.K fd ps []) (hx : Passes CX X E) : UnR X (unaryOp .USub) (rNegO C sp E) := by
  intro pins s σ H x v Q I rx h
  obtain ⟨a, dx, fs, rfl, ha, q⟩ := h
  cases (show v = Value.ref a from rx)
  obtain ⟨od, J⟩ := inst_at I ha
  obtain ⟨m, hF⟩ := I.fr
  exact PySem.W.ksp_neg hF I.ok.mod.kin J hs hf (run_fn (vs := [V.ref a]) F hr hb .nil hx I (.cons rfl .nil) q)
/-- a == anything of a known type -/
def rEqO (K : PySem.W.Frag) (C : Addr) (sp : Sp) (E : XK) : R2 := fun x y H Q => ∃ a dx fs t, x = .ref a ∧ H a = some (.ins C dx fs) ∧ TyX K H y t ∧ PySem.W.notFirst K C t = true ∧ sp [x, y] H Q E
theorem op_eqO (hs : PySem.W.findIn X.K (.ref C) "__eq__" = some (some (.ref f))) (hf : PySem.W.isFn X.K (.ref f) = true)
    (F : FnOk X.prog X.w X.K X.mg X.base CX n f fd ps sp) (hr : Room n X.A) (hb : Binds X.K fd ps []) (hx : Passes CX X E) : OpR X (compareOp .Eq) (rEqO X.K C sp E) := by
  intro pins s σ H x y v u Q I rx ry h
  obtain ⟨a, dx, fs, t, rfl, ha, ty, hn, q⟩ := h
  cases (show v = Value.ref a from rx)
  obtain ⟨od, J⟩ := inst_at I ha
  obtain ⟨m, hF⟩ := I.fr
  obtain ⟨P, Z, p, _⟩ := kit_of I ry ty
  refine PySem.W.cmp_K (op := .Eq) (tb := t) hr.units0 hF I.ok.mod.kin J (Z.ty _ _ I.kIn p) hn hs hf ?_
  refine wpAny_mono (run_fn (vs := [V.ref a, y]) F hr hb .nil hx I (.cons rfl (.cons ry .nil)) q) (fun w s' z => ?_) fun _ _ x => x
  obtain ⟨z', H', I', rz, qz⟩ := z
  exact SlX.cmpback rz ⟨z', H', I', rz, qz⟩
/-- int == a -/
theorem op_eqIO (hs : PySem.W.findIn X.K (.ref C) "__eq__" = some (some (.ref f))) (hf : PySem.W.isFn X.K (.ref f) = true) (hsub : PySem.W.subIn X.K (.ref C) (.type "int") = some false)
    (F : FnOk X.prog X.w X.K X.mg X.base CX n f fd ps sp) (hr : Room n X.A) (hb : Binds X.K fd ps []) (hx : Passes CX X E) : OpR X (compareOp .Eq) (rIOwn C sp E) := by
  intro pins s σ H x y v u Q I rx ry h
  obtain ⟨a, dx, fs, i, rfl, rfl, ha, q⟩ := h
  obtain ⟨t, rfl⟩ := (show ∃ t, v = Value.int i t from rx)
  cases (show u = Value.ref a from ry)
  obtain ⟨od, J⟩ := inst_at I ha
  refine PySem.RkX.eq_IO hr.units0 I.kIn J hs hf hsub (fun Q' q' => call_givesAt PySem.F.slot_int_eq (typeIs_int s i t) PySem.F.entry_int_eq (PySem.F.args_int_eq_2 _ _) (PySem.RkX.dec_eq i t) (inst_np J) q') ?_
  refine wpAny_mono (run_fn (vs := [V.ref a, V.int i]) F hr hb .nil hx I (.cons rfl (.cons ⟨t, rfl⟩ .nil)) q) (fun w s' z => ?_) fun _ _ x => x
  obtain ⟨z', H', I', rz, qz⟩ := z
  exact SlX.cmpback rz ⟨z', H', I', rz, qz⟩
/-- a != b by the class's own == -/
def rNeO (C : Addr) (sp : Sp) (E : XK) : R2 := fun x y H Q => ∃ a b dx fs dy gs, x = .ref a ∧ y = .ref b ∧ H a = some (.ins C dx fs) ∧ H b = some (.ins C dy gs) ∧ sp [x, y] H (fun v H' => ∃ k, v = .bl k ∧ Q (.bl (!k)) H') E
theorem op_neO (hs : PySem.W.findIn X.K (.ref C) "__eq__" = some (some (.ref f))) (hf : PySem.W.isFn X.K (.ref f) = true) (hn : PySem.W.findIn X.K (.ref C) "__ne__" = some (some (.builtin "object.__ne__"))) (hob : PySem.W.subIn X.K (.ref C) (.type "object") = some true)
    (F : FnOk X.prog X.w X.K X.mg X.base CX n f fd ps sp) (hr : Room (n + 1) X.A) (hb : Binds X.K fd ps []) (hx : Passes CX X E) : OpR X (compareOp .NotEq) (rNeO C sp E) := by
  intro pins s σ H x y v u Q I rx ry h
  obtain ⟨a, b, dx, fs, dy, gs, rfl, rfl, ha, hb', q⟩ := h
  cases (show v = Value.ref a from rx)
  cases (show u = Value.ref b from ry)
  obtain ⟨od, J⟩ := inst_at I ha
  obtain ⟨od', J'⟩ := inst_at I hb'
  have hu : X.A.units + 1 < cLine := Nat.lt_of_le_of_lt (Nat.add_le_add_left (by decide : 1 ≤ 64) _) hr.units
  show wpAny (model X.prog X.w) X.A (richCompare .NotEq (.ref a) (.ref b)) (EP X pins σ Q) X.xe s
  refine PySem.RkX.ne_OO hu I.kIn J J'.type hs hf hn hob ?_
  have hr1 : Room n X.A.in1 := hr.in1
  have r2 : Vals [V.ref a, V.ref b] [Value.ref a, Value.ref b] := .cons rfl (.cons rfl .nil)
  have hl := F.len _ _ _ _ q
  refine wpAny_call (codeAny_mono (F.run X.A.in1 X.stack s H ⟨[.ref a, .ref b], []⟩ [.ref a, .ref b] [.ref a, .ref b] _ E hr1 I.env0.in1 (by
    have := hb s [.ref a, .ref b] I.kIn (by simpa using hl)
    simpa using this) r2 q) fun r s' hq => ?_)
  cases r with
  | error e => exact hx pins σ H s e s' I hq
  | ok fl =>
    cases fl with
    | ret w =>
      obtain ⟨z, H', I', rz, k, ez, qz⟩ := I.after hq
      subst ez
      cases rz
      exact ⟨k, rfl, .bl (!k), H', I', rfl, qz⟩
    | next => exact False.elim hq
    | brk => exact False.elim hq
    | cont => exact False.elim hq
/-- o.m(k = v, ..) -/
def tMethK (C : Addr) (m : Str) (ks : List Str) (sp : Sp) (gV : List V → List V → List V) (E : XK) (ta : TE) (tk : TA) : TE := fun σ H Q => ta σ H fun x H1 => ∃ a dx fs, x = .ref a ∧ H1 a = some (.ins C dx fs) ∧ fs.lookup m = none ∧
  tk σ H1 fun zs H2 => zs.length = ks.length ∧ sp (gV [x] zs) H2 Q E
theorem pe_methK {pl : Sem Bool} {o : Expr} {m : Str} {apos pos : Pos} {kws : List Keyword} {ta : TE} {tk : TA} {ks : List Str} {g : List Value → List Value → List Value} {gV : List V → List V → List V} (he : PE X o ta) (c : Cls X.K C) (hm : Meth X.K C m f)
    (F : FnOk X.prog X.w X.K X.mg X.base CX n f fd ps sp) (hr : Room n X.A) (hb : KBn X.K fd ps 1 ks g gV) (hx : Passes CX X E) (hkw : PK X kws tk)
    (hall : (backToKw pos (keywordEach kws X.env)).all (·.1.isSome) = true := by rfl) (hks : (backToKw pos (keywordEach kws X.env)).filterMap (·.1) = ks := by rfl)
    (hpl : ((backTo pos (starEach [] X.env)).any (·.1) || (backToKw pos (keywordEach kws X.env)).any (·.1.isNone)) = false := by rfl)
    (ht : eval (.Call (.Attribute o m apos) [] kws pos) X.env = (do
      let ov ← eval o X.env
      standAt apos.atName
      let (f, first) ← holding [ov] (getMethod ov m pl)
      callWith pos f first (backTo pos (starEach [] X.env)) (backToKw pos (keywordEach kws X.env))) := by rfl) :
    PE X (.Call (.Attribute o m apos) [] kws pos) (tMethK C m ks sp gV E ta tk) := by
  refine ⟨fun pins s σ H Q I h => ?_⟩
  refine PySem.W.methodCall_KW (pl := pl) (thn (he.run pins s σ H _ I h) fun u s1 ⟨x, H1, I1, rx, a, dx, fs, ex, ea, l, q⟩ => ?_) ht
  subst ex
  obtain rfl : u = Value.ref a := rx
  refine getmeth_ok I1 ea c hm l ?_
  refine PySem.W.callWith_KW0 (first := [.ref a]) (h₀ := X.base) I1.ok.mod.kin hm.kp hall ?_ hpl
  refine thn (hkw.run pos pins s1 σ H1 _ I1 q) fun ws s2 ⟨zs, H2, I2, rz, l2, q2⟩ => ⟨I2.kIn, ?_⟩
  rw [hks]
  exact run_fnN (us := [.ref a]) (vs := [.ref a]) F hr hb hx I2 (.cons rfl .nil) rz rfl l2 q2
/-- // by a divisor of any sign, below 2 ^ 9000 -/
def CDivZ (_ j : Int) : Prop := j ≠ 0 ∧ j.natAbs.log2 < 9000
theorem op_fdivZ : OpR X (binaryOp .FloorDiv) (rI CDivZ fun i j => .int (i.fdiv j)) := opI fun i j _ _ _ _ _ hc q => floordiv_int hc.1 q (.inl (PyProof.noPylong_of_log2 hc.2))
end
end RK

namespace RK
open PySem PySem.Spec PyProof.Rows L2

/-! ### readings, a step at a time -/
section
variable {K : PySem.W.Frag} {D : Ends} {σ : L2.St} {H : Hp} {t u : TS} {te ta tb : TE} {c tt uu : TT} {ag ar : TA} {g : TG} {Q : VK} {v x y : V} {i j : Nat} {E : XK} {sp : Sp} {dvs : List V} {R : Prop}
theorem w_seq (h : t { D with nx := u D } σ H) : tSeq t u D σ H := h
theorem w_asg (h : te σ H fun x H1 => g x σ H1 D.nx) : tAsg te g D σ H := h
theorem w_gn {Q : L2.St → Hp → Prop} (h : Q (σ.set i (some v)) H) : gName i v σ H Q := h
theorem w_if (h : c σ H fun b H1 => if b = true then t D σ H1 else u D σ H1) : tIfS c t u D σ H := h
theorem w_ret (h : te σ H D.rt) : tRet te D σ H := h
theorem w_retN (h : D.rt .non H) : tRetN D σ H := h
theorem w_next (h : D.nx σ H) : tNext D σ H := h
theorem w_drop (h : te σ H fun _ H1 => D.nx σ H1) : tDrop te D σ H := h
theorem w_par (h : ag σ H fun vs H1 => ∃ v w, vs = [v, w] ∧ D.nx ((σ.set i (some v)).set j (some w)) H1) : tPar i j ag D σ H := h
theorem w_two {P : V → V → Prop} {v w : V} (h : P v w) : ∃ a b, ([v, w] : List V) = [a, b] ∧ P a b := ⟨v, w, rfl, h⟩
theorem w_test {Q : Bool → Hp → Prop} (h : te σ H fun x H' => ∃ k, x = .bl k ∧ Q k H') : tTest te σ H Q := h
theorem w_tB {Q : Bool → Hp → Prop} (h : te σ H fun x H' => ∃ k, x = .bl k ∧ Q k H') : tB te σ H Q := h
theorem w_bl {P : Bool → Prop} {b : Bool} (h : P b) : ∃ k, V.bl b = V.bl k ∧ P k := ⟨b, rfl, h⟩
theorem w_not {Q : Bool → Hp → Prop} (h : tt σ H fun c H1 => Q (!c) H1) : tNot tt σ H Q := h
theorem w_and {Q : Bool → Hp → Prop} (h : tt σ H fun c H1 => if c = true then uu σ H1 Q else Q false H1) : tAnd tt uu σ H Q := h
theorem w_or {Q : Bool → Hp → Prop} (h : tt σ H fun c H1 => if c = true then Q true H1 else uu σ H1 Q) : tOr tt uu σ H Q := h
theorem w_var (h : σ[i]? = some (some v)) (q : Q v H) : tVar i σ H Q := ⟨v, h, q⟩
theorem w_c (q : Q v H) : tC v σ H Q := q
theorem w_op {r : R2} (h : ta σ H fun x H1 => tb σ H1 fun y H2 => r x y H2 Q) : tOp r ta tb σ H Q := h
theorem w_un {r : V → Hp → VK → Prop} (h : ta σ H fun x H1 => r x H1 Q) : tUn r ta σ H Q := h
theorem w_I0 {gg : Int → Int → V} {a b : Int} (q : Q (gg a b) H) : rI0 gg (.int a) (.int b) H Q := ⟨a, b, rfl, rfl, q⟩
theorem w_I {C : Int → Int → Prop} {gg : Int → Int → V} {a b : Int} (hc : C a b) (q : Q (gg a b) H) : rI C gg (.int a) (.int b) H Q := ⟨a, b, rfl, rfl, hc, q⟩
theorem w_U {gg : Int → V} {a : Int} (q : Q (gg a) H) : rU gg (.int a) H Q := ⟨a, rfl, q⟩
theorem w_tIf (h : tt σ H fun c H1 => if c = true then ta σ H1 Q else tb σ H1 Q) : tIf tt ta tb σ H Q := h
/-- a cut: what the value and the heap are, then what is done with them -/
theorem w_cut (P : V → Hp → Prop) (h : ∀ Q' : VK, (∀ v H', P v H' → Q' v H') → te σ H Q') (all : ∀ v H', P v H' → Q v H') : te σ H Q := h Q all
/-- an int, the heap as it is -/
theorem w_cutI (P : Int → Prop) (h : ∀ Q' : VK, (∀ z, P z → Q' (.int z) H) → te σ H Q') (all : ∀ z, P z → Q (.int z) H) : te σ H Q := h Q all
theorem w_cutA (P : List V → Hp → Prop) {Q : List V → Hp → Prop} (h : ∀ Q' : List V → Hp → Prop, (∀ v H', P v H' → Q' v H') → ag σ H Q') (all : ∀ v H', P v H' → Q v H') : ag σ H Q := h Q all
theorem s_cut (P : L2.St → Hp → Prop) (h : ∀ N : L2.St → Hp → Prop, (∀ σ' H', P σ' H' → N σ' H') → t { D with nx := N } σ H) (all : ∀ σ' H', P σ' H' → D.nx σ' H') : t D σ H := h D.nx all
theorem w_nil {Q : List V → Hp → Prop} (q : Q [] H) : tNil σ H Q := q
theorem w_cons {Q : List V → Hp → Prop} (h : te σ H fun x H1 => ar σ H1 fun xs H2 => Q (x :: xs) H2) : tCons te ar σ H Q := h
theorem w_andV (h : ta σ H fun x H1 => ∃ c, x = .bl c ∧ if c = true then tb σ H1 Q else Q (.bl false) H1) : tAndV ta tb σ H Q := h
theorem w_orV (h : ta σ H fun x H1 => ∃ c, x = .bl c ∧ if c = true then Q (.bl true) H1 else tb σ H1 Q) : tOrV ta tb σ H Q := h
theorem w_notV (h : ta σ H fun x H1 => ∃ c, x = .bl c ∧ Q (.bl (!c)) H1) : tNotV ta σ H Q := h
theorem w_CB {r : List V → Hp → VK → Prop} (h : ag σ H fun vs H1 => r vs H1 Q) : tCB r ag σ H Q := h
theorem w_call (h : ag σ H fun vs H1 => sp (vs ++ dvs) H1 Q E) : tCall sp dvs E ag σ H Q := h
theorem w_same (H : Hp) : Same H H := fun _ _ h => h
/-- a new object: what stood stands -/
theorem w_new {p : Addr} {o : HO} (h : H p = none) : Same H (upd H p o) := fun b u e => by
  rw [upd_ne (ne_of_none e h)]
  exact e
/-! leaves: a new object -/
def NewT (xs : List V) (H : Hp) (Q : VK) : Prop := xs.length ≤ sizeLine ∧ ∀ p, H p = none → Q (.ref p) (upd H p (.tup xs))
def NewL (xs : List V) (H : Hp) (Q : VK) : Prop := xs.length ≤ sizeLine ∧ ∀ p, H p = none → Q (.ref p) (upd H p (.lst xs))
theorem w_newT {xs : List V} (hl : xs.length ≤ 100000) (h : ∀ p H2, H p = none → Same H H2 → H2 p = some (.tup xs) → Q (.ref p) H2) : NewT xs H Q :=
  ⟨Nat.le_trans hl (by decide), fun p hp => h p _ hp (w_new hp) upd_same⟩
theorem w_newL {xs : List V} (hl : xs.length ≤ 100000) (h : ∀ p H2, H p = none → Same H H2 → H2 p = some (.lst xs) → Q (.ref p) H2) : NewL xs H Q :=
  ⟨Nat.le_trans hl (by decide), fun p hp => h p _ hp (w_new hp) upd_same⟩
theorem w_tup (h : ag σ H fun xs H1 => NewT xs H1 Q) : tTup ag σ H Q := h
theorem w_lst (h : ag σ H fun xs H1 => NewL xs H1 Q) : tLst ag σ H Q := h
def Fl (K : PySem.W.Frag) (f : Str) (x : V) (H : Hp) (Q : VK) : Prop := ∃ a C dx fs v, x = .ref a ∧ H a = some (.ins C dx fs) ∧ Cls K C ∧ NoAttr K C f ∧ fs.lookup f = some v ∧ Q v H
theorem w_fld {f : Str} (h : te σ H fun x H1 => Fl K f x H1 Q) : tFld K te f σ H Q := h
/-- what is asked at a store into a field, at a method's call, at a making -/
def Sf (K : PySem.W.Frag) (f : Str) (y x : V) (H : Hp) (N : Hp → Prop) : Prop := ∃ a C dx fs, x = .ref a ∧ H a = some (.ins C dx fs) ∧ Cls K C ∧ NoAttr K C f ∧ fs.length < 1000 ∧ N (upd H a (.ins C dx (putF f y fs)))
theorem w_sfld {tv : TE} {f : Str} (h : tv σ H fun y H1 => ta σ H1 fun x H2 => Sf K f y x H2 (D.nx σ)) : sFld K ta tv f D σ H := h
def Ml (C : Addr) (m : Str) (x : V) (H : Hp) (R : Prop) : Prop := ∃ a dx fs, x = .ref a ∧ H a = some (.ins C dx fs) ∧ fs.lookup m = none ∧ R
theorem w_meth {C : Addr} {m : Str} (h : te σ H fun x H1 => Ml C m x H1 (ag σ H1 fun vs H2 => sp (x :: (vs ++ dvs)) H2 Q E)) : tMeth C m sp dvs E te ag σ H Q := h
theorem w_methK {C : Addr} {m : Str} {ks : List Str} {gV : List V → List V → List V} (h : te σ H fun x H1 => Ml C m x H1 (ag σ H1 fun zs H2 => zs.length = ks.length ∧ sp (gV [x] zs) H2 Q E)) : tMethK C m ks sp gV E te ag σ H Q := h
def MkL (C : Addr) (sp : Sp) (E : XK) (vs : List V) (H : Hp) (Q : VK) : Prop := ∀ x dx, H x = none → H dx = none → dx ≠ x → sp (.ref x :: vs) (upd (upd H dx (.own x)) x (.ins C dx [])) (fun v H2 => v = .non ∧ Q (.ref x) H2) E
theorem w_make {C : Addr} (h : ag σ H fun vs H1 => MkL C sp E (vs ++ dvs) H1 Q) : tMake C sp dvs E ag σ H Q := h
def MkK (C : Addr) (n m : Nat) (sp : Sp) (gV : List V → List V → List V) (E : XK) (vs zs : List V) (H : Hp) (Q : VK) : Prop := vs.length = n ∧ zs.length = m ∧ ∀ x dx, H x = none → H dx = none → dx ≠ x → sp (gV (.ref x :: vs) zs) (upd (upd H dx (.own x)) x (.ins C dx [])) (fun v H3 => v = .non ∧ Q (.ref x) H3) E
theorem w_makeK {C : Addr} {n m : Nat} {gV : List V → List V → List V} (h : ag σ H fun vs H1 => ar σ H1 fun zs H2 => MkK C n m sp gV E vs zs H2 Q) : tMakeK C n m sp gV E ag ar σ H Q := h
theorem w_BM {T : String} {r : V → List V → Hp → VK → Prop} (h : te σ H fun x H1 => tyV K T x H1 ∧ ag σ H1 fun xs H2 => r x xs H2 Q) : tBM K T r te ag σ H Q := h
theorem w_sl {r : V → Option Int → Option Int → Hp → VK → Prop} {tl th : TO} (h : te σ H fun x H1 => tl σ H1 fun l H2 => th σ H2 fun u H3 => r x l u H3 Q) : tSl r te tl th σ H Q := h
theorem w_po {Q : Option Int → Hp → Prop} (q : Q none H) : tNoPart σ H Q := q
theorem w_pt {Q : Option Int → Hp → Prop} (h : te σ H fun x H1 => ∃ i, x = .int i ∧ Q (some i) H1) : tPart te σ H Q := h
theorem w_in {P : Int → Prop} {i : Int} (h : P i) : ∃ k, V.int i = V.int k ∧ P k := ⟨i, rfl, h⟩
theorem w_yes {Q : Bool → Hp → Prop} (q : Q true H) : tYes σ H Q := q
theorem w_ixL {p : Addr} {xs : List V} {a : Int} (h : H p = some (.lst xs)) (ha : atI xs a = some v) (q : Q v H) : rIxL K (.ref p) (.int a) H Q := ⟨p, xs, a, v, rfl, rfl, SqL.of h, ha, q⟩
theorem w_ixT {p : Addr} {xs : List V} {a : Int} (h : H p = some (.tup xs)) (ha : atI xs a = some v) (q : Q v H) : rIxT K (.ref p) (.int a) H Q := ⟨p, xs, a, v, rfl, rfl, SqT.of h, ha, q⟩
theorem w_sub {to ti : TE} {ts : TSet} {Q : L2.St → Hp → Prop} (h : to σ H fun o H1 => ti σ H1 fun i H2 => ts o i v H2 fun H3 => Q σ H3) : gSub to ti ts v σ H Q := h
theorem w_setL {Q : Hp → Prop} {p : Addr} {xs : List V} {a : Int} {j : Nat} (h : H p = some (.lst xs)) (hj : ixN xs.length a = some j) (q : Q (upd H p (.lst (xs.set j v)))) : rSetL (.ref p) (.int a) v H Q := ⟨p, xs, a, j, rfl, rfl, h, hj, q⟩
theorem w_eq (hs : scal x y = true) (q : Q (.bl (decide (x = y))) H) : rEq x y H Q := ⟨hs, q⟩
theorem w_ne (hs : scal x y = true) (q : Q (.bl (!decide (x = y))) H) : rNe x y H Q := ⟨hs, q⟩
/-! built-ins under names -/
def rInt1 : List V → Hp → VK → Prop := fun xs H Q => (∃ i, xs = [.int i] ∧ Q (.int i) H) ∨ ∃ k, xs = [.bl k] ∧ Q (.int (if k then 1 else 0)) H
theorem cr_int1 {X : Cx} : CallR X (.type "int") rInt1 := call_int1
theorem w_int {a : Int} (q : Q (.int a) H) : rInt1 [.int a] H Q := .inl ⟨a, rfl, q⟩
theorem w_intB {b : Bool} (q : Q (.int (if b then 1 else 0)) H) : rInt1 [.bl b] H Q := .inr ⟨b, rfl, q⟩
def rAbs1 : List V → Hp → VK → Prop := fun xs H Q => ∃ i, xs = [.int i] ∧ Q (.int (if i < 0 then -i else i)) H
theorem cr_abs {X : Cx} : CallR X (.builtin "abs") rAbs1 := call_abs
theorem w_abs {a : Int} (q : Q (.int (if a < 0 then -a else a)) H) : rAbs1 [.int a] H Q := ⟨a, rfl, q⟩
def rMax2 : List V → Hp → VK → Prop := fun xs H Q => ∃ i j, xs = [.int i, .int j] ∧ Q (.int (if j > i then j else i)) H
theorem cr_max2 {X : Cx} (hc : X.calm = true) : CallR X (.builtin "max") rMax2 := call_max2 hc
theorem w_max {a b : Int} (q : Q (.int (if b > a then b else a)) H) : rMax2 [.int a, .int b] H Q := ⟨a, b, rfl, q⟩
def rMin2 : List V → Hp → VK → Prop := fun xs H Q => ∃ i j, xs = [.int i, .int j] ∧ Q (.int (if j < i then j else i)) H
theorem cr_min2 {X : Cx} (hc : X.calm = true) : CallR X (.builtin "min") rMin2 := call_min2 hc
theorem w_min {a b : Int} (q : Q (.int (if b < a then b else a)) H) : rMin2 [.int a, .int b] H Q := ⟨a, b, rfl, q⟩
def rLen (K : PySem.W.Frag) : List V → Hp → VK → Prop := fun xs H Q => ∃ x n, xs = [x] ∧ LenV K x H n ∧ Q (.int n) H
theorem cr_len {X : Cx} : CallR X (.builtin "len") (rLen X.K) := call_len
theorem w_lenL {p : Addr} {xs : List V} (h : SqL K H p xs) (q : Q (.int xs.length) H) : rLen K [.ref p] H Q := ⟨_, _, rfl, .inl ⟨xs, h, rfl⟩, q⟩
theorem w_lenT {p : Addr} {xs : List V} (h : SqT K H p xs) (q : Q (.int xs.length) H) : rLen K [.ref p] H Q := ⟨_, _, rfl, .inr ⟨xs, h, rfl⟩, q⟩
theorem w_gcd {a b : Int} (q : Q (.int ((Nat.gcd a.natAbs b.natAbs : Nat) : Int)) H) : rGcd [.int a, .int b] H Q := ⟨a, b, rfl, q⟩
/-! tests -/
theorem w_ite {b : Bool} {A B : Prop} (h1 : b = true → A) (h2 : b = false → B) : if b = true then A else B := by
  cases b with
  | true => rw [if_pos rfl]; exact h1 rfl
  | false => rw [if_neg Bool.false_ne_true]; exact h2 rfl
theorem w_iteD {p A B : Prop} [Decidable p] (h1 : p → A) (h2 : ¬ p → B) : if decide p = true then A else B :=
  w_ite (fun e => h1 (of_decide_eq_true e)) fun e => h2 (of_decide_eq_false e)
theorem w_iteN {p A B : Prop} [Decidable p] (h1 : ¬ p → A) (h2 : p → B) : if (!decide p) = true then A else B :=
  w_ite (fun e => h1 (of_decide_eq_false (by simpa using e))) fun e => h2 (of_decide_eq_true (by simpa using e))
end
/-! ### sizes -/
def Sz (k : Nat) (x : Int) : Prop := x.natAbs < 2 ^ k
theorem Sz.mono {k j : Nat} {x : Int} (h : Sz k x) (hk : k ≤ j) : Sz j x := Nat.lt_of_lt_of_le h (Nat.pow_le_pow_right (by decide) hk)
theorem Sz.mul {k j : Nat} {x y : Int} (h : Sz k x) (h' : Sz j y) : Sz (k + j) (x * y) := wide_lt h h'
theorem Sz.neg {k : Nat} {x : Int} (h : Sz k x) : Sz k (-x) := by unfold Sz; rw [Int.natAbs_neg]; exact h
theorem Sz.ok {k j : Nat} {x y : Int} (h : Sz k x) (h' : Sz j y) (hk : k + j ≤ 900000 := by decide) : CMulW x y := wide_mul (h.mono (Nat.le_succ k)) (h'.mono (Nat.le_succ j)) (Nat.succ_pos _) (Nat.succ_pos _) (by omega)
theorem Sz.of {k : Nat} {x : Int} (h : x.natAbs < 2 ^ k) : Sz k x := h
theorem Sz.small {k : Nat} {x : Int} (h : x.natAbs < 1048576) (hk : 20 ≤ k := by decide) : Sz k x := Sz.mono (k := 20) h hk
theorem Sz.one {k : Nat} (h : 1 ≤ k := by decide) : Sz k 1 := Sz.mono (k := 1) (by show (1 : Int).natAbs < 2 ^ 1; decide) h
theorem Sz.div {k : Nat} {i j : Int} (h : 0 < j) (hz : Sz k j) (hk : k ≤ 8000 := by decide) : CDivW i j := wide_div h (hz.mono (Nat.le_succ k)) (Nat.succ_pos _) (by omega)
theorem Sz.le {k : Nat} {x y : Int} (h : Sz k y) (hx : x.natAbs ≤ y.natAbs) : Sz k x := Nat.lt_of_le_of_lt hx h
theorem Sz.add {k : Nat} {x y : Int} (h : Sz k x) (h' : Sz k y) : Sz (k + 1) (x + y) := by
  unfold Sz at *
  have : (x + y).natAbs ≤ x.natAbs + y.natAbs := Int.natAbs_add_le x y
  rw [Nat.pow_succ]
  omega
theorem Sz.sub {k : Nat} {x y : Int} (h : Sz k x) (h' : Sz k y) : Sz (k + 1) (x - y) := by
  rw [Int.sub_eq_add_neg]
  exact h.add h'.neg
/-! ### what is kept -/
theorem Same.at {H H' : Hp} {a : Addr} {o : HO} (e : Same H H') (h : H a = some o) : H' a = some o := e a o h
/-- a law's bag of numbers -/
def Bag (H : Hp) (b : Addr) : Prop := ∃ f s n : Int, H b = some (.lst [.int f, .int s, .int n])
/-- all is kept but the bag's numbers -/
structure Kp (b : Addr) (H H' : Hp) : Prop where
  bag : Bag H b
  bag' : Bag H' b
  keep : ∀ c o, c ≠ b → H c = some o → H' c = some o
theorem Bag.same {H H' : Hp} {b : Addr} (h : Bag H b) (e : Same H H') : Bag H' b := let ⟨f, s, n, h⟩ := h; ⟨f, s, n, e _ _ h⟩
theorem Kp.of {H H' : Hp} {b : Addr} (h : Bag H b) (e : Same H H') : Kp b H H' := ⟨h, h.same e, fun c o _ q => e c o q⟩
theorem Kp.refl {H : Hp} {b : Addr} (h : Bag H b) : Kp b H H := .of h (w_same H)
theorem Kp.trans {H H1 H2 : Hp} {b : Addr} (a : Kp b H H1) (c : Kp b H1 H2) : Kp b H H2 := ⟨a.bag, c.bag', fun x o n q => c.keep x o n (a.keep x o n q)⟩
theorem Kp.same {H H1 H2 : Hp} {b : Addr} (a : Kp b H H1) (c : Same H1 H2) : Kp b H H2 := a.trans (.of a.bag' c)
theorem Kp.tup {H H' : Hp} {b a : Addr} {xs : List V} (k : Kp b H H') (h : H a = some (.tup xs)) : H' a = some (.tup xs) := by
  obtain ⟨f, s, n, hb⟩ := k.bag
  exact k.keep a _ (ne_of h hb (by intro z; cases z)) h
theorem Kp.ins {H H' : Hp} {b a C dx : Addr} {fs : List (Str × V)} (k : Kp b H H') (h : H a = some (.ins C dx fs)) : H' a = some (.ins C dx fs) := by
  obtain ⟨f, s, n, hb⟩ := k.bag
  exact k.keep a _ (ne_of h hb (by intro z; cases z)) h
theorem Kp.free {H H' : Hp} {b p : Addr} (k : Kp b H H') (h : H' p = none) : H p = none := by
  cases q : H p with
  | none => rfl
  | some o =>
    by_cases e : p = b
    · obtain ⟨f, s, n, hb⟩ := k.bag'
      rw [e, hb] at h
      cases h
    · rw [k.keep p o e q] at h
      cases h
theorem Kp.seq {K : PySem.W.Frag} {H H' : Hp} {b a : Addr} {xs : List V} (k : Kp b H H') (hne : a ≠ b) (h : SqL K H a xs) : SqL K H' a xs := by
  rcases h with (h | ⟨o, h⟩) | h
  · exact .inl (.inl (k.keep _ _ hne h))
  · exact .inl (.inr ⟨o, k.keep _ _ hne h⟩)
  · exact .inr h
/-! ### comprehensions -/
section
variable {K : PySem.W.Frag} {σ : L2.St} {H : Hp} {Q : VK} {tl te : TE} {g : TG} {tt : TT} {vs : List Nat} {tb : TS} {D : Ends} {j : Nat}
/-- the comprehension, the loop, when the list is there -/
def LcS (K : PySem.W.Frag) (g : TG) (tt : TT) (te : TE) (vs : List Nat) (σ : L2.St) (x : V) (H : Hp) (Q : VK) : Prop := tLc (iList K (tC x)) g tt te vs σ H Q
def ForS (K : PySem.W.Frag) (g : TG) (tb : TS) (D : Ends) (σ : L2.St) (x : V) (H : Hp) : Prop := tFor (iList K (tC x)) g tb D σ H
theorem w_lcL (h : tl σ H fun x H1 => LcS K g tt te vs σ x H1 Q) : tLc (iList K tl) g tt te vs σ H Q := h
theorem w_forL (h : tl σ H fun x H1 => ForS K g tb D σ x H1) : tFor (iList K tl) g tb D σ H := h
/-- what is no list stands as it stood -/
def SameT (H H' : Hp) : Prop := ∀ c o, H c = some o → (∀ xs, o ≠ .lst xs) → H' c = some o
theorem SameT.of {H H' : Hp} (e : Same H H') : SameT H H' := fun c o h _ => e c o h
theorem SameT.upd {H : Hp} {p : Addr} {xs : List V} {o : HO} (h : H p = some (.lst xs)) : SameT H (upd H p o) := fun c u e n => by
  have hc : c ≠ p := fun z => by rw [z, h] at e; cases e; exact n xs rfl
  rw [upd_ne hc]
  exact e
theorem SameT.tup {H H' : Hp} {p : Addr} {xs : List V} (e : SameT H H') (h : H p = some (.tup xs)) : H' p = some (.tup xs) := e p _ h fun _ z => nomatch z
theorem SameT.ins {H H' : Hp} {p C dx : Addr} {fs : List (Str × V)} (e : SameT H H') (h : H p = some (.ins C dx fs)) : H' p = some (.ins C dx fs) := e p _ h fun _ z => nomatch z
/-- a list grows by one -/
structure Grown (l : Addr) (xs : List V) (H H' : Hp) : Prop where
  at_ : H' l = some (.lst xs)
  keep : ∀ c o, c ≠ l → H c = some o → H' c = some o
  same : SameT H H'
theorem w_app {l : Addr} {xs : List V} {y : V} (h : H l = some (.lst xs)) (hl : xs.length ≤ 1000) (k : ∀ H', Grown l (xs ++ [y]) H H' → Q .non H') : rAppend (.ref l) [y] H Q :=
  ⟨l, xs, y, rfl, rfl, h, Nat.lt_of_le_of_lt hl (by decide), k _ ⟨upd_same, fun c o hc e => by rw [upd_ne hc]; exact e, SameT.upd h⟩⟩
theorem Same.updL {H H' : Hp} {p : Addr} {o : HO} (e : Same H H') (h : H p = none) : Same H (upd H' p o) := fun c u q => by
  rw [upd_ne (ne_of_none q h)]
  exact e c u q
/-- [f(x) for x in a list]: each element leaves what stood, and gives what P says -/
theorem lc_each {l : Addr} {xs : List V} (P : Nat → V → Hp → Prop) (mono : ∀ i v H H', SameT H H' → P i v H → P i v H') (hl : H l = some (.lst xs)) (hlen : xs.length ≤ 1000)
    (hw : ∀ x, wipe ((wipe σ vs).set j (some x)) vs = wipe σ vs)
    (he : ∀ i x H', xs[i]? = some x → Same H H' → ∀ Q' : VK, (∀ v H'', Same H' H'' → P i v H'' → Q' v H'') → te ((wipe σ vs).set j (some x)) H' Q')
    (k : ∀ D ys H', H D = none → Same H H' → H' D = some (.lst ys) → ys.length = xs.length → (∀ i v, ys[i]? = some v → P i v H') → Q (.ref D) H') : LcS K (gName j) tYes te vs σ (.ref l) H Q := by
  refine ⟨l, rfl, ⟨_, SqL.of hl⟩, fun Dl hD => ?_⟩
  refine lc_list (K := K) (a := l) (xs := xs) (fun i H' => ∃ acc, H' Dl = some (.lst acc) ∧ acc.length = i ∧ Same H H' ∧ ∀ m v, acc[m]? = some v → P m v H') ⟨[], upd_same, rfl, w_new hD, fun m v e => by simp at e⟩
    (fun i H' _ ⟨acc, _, _, e, _⟩ => SqL.of (e _ _ hl)) ?_ ?_
  · rintro i x H' hx ⟨acc, h1, h2, e, hp⟩
    refine ⟨hw x, ?_⟩
    refine w_yes ?_
    rw [if_pos rfl]
    refine he i x H' hx e _ fun v H2 e2 pv => ?_
    have hi : i < xs.length := (List.getElem?_eq_some_iff.mp hx).1
    have h3 : H2 Dl = some (.lst acc) := e2 _ _ h1
    refine ⟨acc, h3, Nat.lt_of_lt_of_le (show acc.length < 1001 by omega) (by decide), acc ++ [v], upd_same, by rw [List.length_append, h2]; rfl, RK.Same.updL (e.trans e2) hD, fun m u hu => ?_⟩
    by_cases hm : m < acc.length
    · rw [List.getElem?_append_left hm] at hu
      exact mono m u H2 _ (SameT.upd h3) (mono m u H' H2 (.of e2) (hp m u hu))
    · rw [List.getElem?_append_right (by omega)] at hu
      have em : m = acc.length := by
        have := (List.getElem?_eq_some_iff.mp hu).1
        simp at this
        omega
      subst em
      simp at hu
      subst hu
      exact mono _ _ H2 _ (SameT.upd h3) (by rw [h2]; exact pv)
  · rintro H' ⟨acc, h1, h2, e, hp⟩
    exact k Dl acc H' hD e h1 h2 hp
/-- [f(i) for i in range(n)] -/
theorem lc_rng {lo : Int} {n : Nat} {W : TI} (P : Nat → V → Hp → Prop) (mono : ∀ i v H H', SameT H H' → P i v H → P i v H') (hn : n ≤ 1000) (hwi : ∀ R : It → Hp → Prop, R (Itr lo n) H → W σ H R)
    (hw : ∀ x, wipe ((wipe σ vs).set j (some x)) vs = wipe σ vs)
    (he : ∀ i H', i < n → Same H H' → ∀ Q' : VK, (∀ v H'', Same H' H'' → P i v H'' → Q' v H'') → te ((wipe σ vs).set j (some (.int (lo + i)))) H' Q')
    (k : ∀ D ys H', H D = none → Same H H' → H' D = some (.lst ys) → ys.length = n → (∀ i v, ys[i]? = some v → P i v H') → Q (.ref D) H') : tLc W (gName j) tYes te vs σ H Q := by
  refine hwi _ fun Dl hD => ?_
  refine lc_range (lo := lo) (n := n) (fun i H' => ∃ acc, H' Dl = some (.lst acc) ∧ acc.length = i ∧ Same H H' ∧ ∀ m v, acc[m]? = some v → P m v H') ⟨[], upd_same, rfl, w_new hD, fun m v e => by simp at e⟩ ?_ ?_
  · rintro i H' hi ⟨acc, h1, h2, e, hp⟩
    refine ⟨hw _, ?_⟩
    refine w_yes ?_
    rw [if_pos rfl]
    refine he i H' hi e _ fun v H2 e2 pv => ?_
    have h3 : H2 Dl = some (.lst acc) := e2 _ _ h1
    refine ⟨acc, h3, Nat.lt_of_lt_of_le (show acc.length < 1001 by omega) (by decide), acc ++ [v], upd_same, by rw [List.length_append, h2]; rfl, RK.Same.updL (e.trans e2) hD, fun m u hu => ?_⟩
    by_cases hm : m < acc.length
    · rw [List.getElem?_append_left hm] at hu
      exact mono m u H2 _ (SameT.upd h3) (mono m u H' H2 (.of e2) (hp m u hu))
    · rw [List.getElem?_append_right (by omega)] at hu
      have em : m = acc.length := by
        have := (List.getElem?_eq_some_iff.mp hu).1
        simp at this
        omega
      subst em
      simp at hu
      subst hu
      exact mono _ _ H2 _ (SameT.upd h3) (by rw [h2]; exact pv)
  · rintro H' ⟨acc, h1, h2, e, hp⟩
    exact k Dl acc H' hD e h1 h2 hp
end
end RK

/-! lowest terms, plain -/
namespace RK
/-- x, y are u, l in lowest terms (l not 0), y above 0 -/
structure Nrm (u l x y : Int) : Prop where
  pos : 0 < y
  cop : Int.gcd x y = 1
  eq : x * l = u * y
theorem dvd_of_cop {x y z : Int} (c : Int.gcd x y = 1) (h : y ∣ x * z) : y ∣ z := by
  have h' : y.natAbs ∣ x.natAbs * z.natAbs := by rw [← Int.natAbs_mul]; exact Int.natAbs_dvd_natAbs.mpr h
  exact Int.natAbs_dvd_natAbs.mp (Nat.Coprime.dvd_of_dvd_mul_left (show Nat.Coprime y.natAbs x.natAbs from by rw [Nat.coprime_comm]; exact c) h')
theorem nrm_uniq0 {x y x' y' : Int} (h1 : 0 < y) (h2 : 0 < y') (c1 : Int.gcd x y = 1) (c2 : Int.gcd x' y' = 1) (e : x * y' = x' * y) : x = x' ∧ y = y' := by
  have d1 : y ∣ y' := by
    have : y ∣ x * y' := ⟨x', by rw [e, Int.mul_comm]⟩
    exact dvd_of_cop c1 this
  have d2 : y' ∣ y := by
    have : y' ∣ x' * y := ⟨x, by rw [← e, Int.mul_comm]⟩
    exact dvd_of_cop c2 this
  have ey : y = y' := Int.le_antisymm (Int.le_of_dvd h2 d1) (Int.le_of_dvd h1 d2)
  subst ey
  exact ⟨Int.eq_of_mul_eq_mul_right (by omega) e, rfl⟩
theorem Nrm.uniq {u l u' l' x y x' y' : Int} (a : Nrm u l x y) (b : Nrm u' l' x' y') (hl : l ≠ 0) (hl' : l' ≠ 0) (e : u * l' = u' * l) : x = x' ∧ y = y' := by
  refine nrm_uniq0 a.pos b.pos a.cop b.cop ?_
  have h1 := a.eq
  have h2 := b.eq
  have k : l * l' * (x * y') = l * l' * (x' * y) := by grind
  exact Int.eq_of_mul_eq_mul_left (Int.mul_ne_zero hl hl') k
/-- dividing by the greatest common divisor -/
theorem nrm_div {u l : Int} (hl : 0 < l) : Nrm u l (u / (Int.gcd u l : Int)) (l / (Int.gcd u l : Int)) := by
  have g0 : 0 < Int.gcd u l := Int.gcd_pos_of_ne_zero_right u (by omega)
  have d1 : ((Int.gcd u l : Nat) : Int) ∣ u := Int.gcd_dvd_left ..
  have d2 : ((Int.gcd u l : Nat) : Int) ∣ l := Int.gcd_dvd_right ..
  generalize hg : ((Int.gcd u l : Nat) : Int) = g at *
  have gp : 0 < g := by omega
  obtain ⟨a, ha⟩ := d1
  obtain ⟨b, hb⟩ := d2
  have ea : u / g = a := by rw [ha]; exact Int.mul_ediv_cancel_left a (by omega)
  have eb : l / g = b := by rw [hb]; exact Int.mul_ediv_cancel_left b (by omega)
  refine ⟨?_, ?_, ?_⟩
  · rw [eb]
    have : 0 < b * g := by rw [Int.mul_comm]; omega
    exact Int.pos_of_mul_pos_left this gp
  · have := Int.gcd_ediv_gcd_ediv_gcd (i := u) (j := l) g0
    rw [hg] at this
    exact this
  · rw [ea, eb, ha, hb]
    grind
theorem nrm_low {u l d : Int} (hl : l ≠ 0) (hd : d = if 0 < l then (Int.gcd u l : Int) else 0 - (Int.gcd u l : Int)) : Nrm u l (u.fdiv d) (l.fdiv d) ∧ d ≠ 0 := by
  have g0 : 0 < Int.gcd u l := Int.gcd_pos_of_ne_zero_right u hl
  have d1 : ((Int.gcd u l : Nat) : Int) ∣ u := Int.gcd_dvd_left ..
  have d2 : ((Int.gcd u l : Nat) : Int) ∣ l := Int.gcd_dvd_right ..
  have hc := Int.gcd_ediv_gcd_ediv_gcd (i := u) (j := l) g0
  generalize hg : ((Int.gcd u l : Nat) : Int) = g at *
  have gp : 0 < g := by omega
  obtain ⟨x, hx⟩ := d1
  obtain ⟨y, hy⟩ := d2
  rw [hx, hy, Int.mul_ediv_cancel_left x (by omega), Int.mul_ediv_cancel_left y (by omega)] at hc
  by_cases h : 0 < l
  · rw [if_pos h] at hd
    rw [hd]
    have ex : u.fdiv g = x := by rw [hx]; exact Int.mul_fdiv_cancel_left x (by omega)
    have ey : l.fdiv g = y := by rw [hy]; exact Int.mul_fdiv_cancel_left y (by omega)
    refine ⟨⟨?_, ?_, ?_⟩, by omega⟩
    · rw [ey]
      exact Int.pos_of_mul_pos_left (show 0 < y * g by rw [Int.mul_comm]; omega) gp
    · rw [ex, ey]
      exact hc
    · rw [ex, ey, hx, hy]
      grind
  · rw [if_neg h] at hd
    have ed : d = -g := by omega
    subst ed
    have ex : u.fdiv (-g) = -x := by rw [hx, show g * x = (-g) * (-x) by grind]; exact Int.mul_fdiv_cancel_left _ (by omega)
    have ey : l.fdiv (-g) = -y := by rw [hy, show g * y = (-g) * (-y) by grind]; exact Int.mul_fdiv_cancel_left _ (by omega)
    refine ⟨⟨?_, ?_, ?_⟩, by omega⟩
    · rw [ey]
      exact Int.pos_of_mul_pos_left (show 0 < -y * g by grind) gp
    · rw [ex, ey]
      show Nat.gcd (-x).natAbs (-y).natAbs = 1
      rw [Int.natAbs_neg, Int.natAbs_neg]
      exact hc
    · rw [ex, ey, hx, hy]
      grind
theorem Nrm.dvd {u l x y : Int} (n : Nrm u l x y) : y ∣ l ∧ x ∣ u := by
  have c := n.cop
  refine ⟨dvd_of_cop c ⟨u, by rw [n.eq, Int.mul_comm]⟩, ?_⟩
  refine dvd_of_cop (x := y) (by rw [Int.gcd_comm]; exact c) ⟨l, by rw [n.eq, Int.mul_comm]⟩
theorem Nrm.le {u l x y : Int} (n : Nrm u l x y) (hl : l ≠ 0) : y.natAbs ≤ l.natAbs ∧ x.natAbs ≤ u.natAbs := by
  obtain ⟨d1, d2⟩ := n.dvd
  refine ⟨Nat.le_of_dvd (by omega) (Int.natAbs_dvd_natAbs.mpr d1), ?_⟩
  by_cases h : u = 0
  · have e := n.eq
    rw [h, Int.zero_mul] at e
    rcases Int.mul_eq_zero.mp e with z | z
    · rw [z]
      exact Nat.zero_le _
    · exact absurd z hl
  · exact Nat.le_of_dvd (by omega) (Int.natAbs_dvd_natAbs.mpr d2)
theorem cmp_same {A B X Y M N : Int} (hM : 0 < M) (hN : 0 < N) (h1 : A * M = X * N) (h2 : B * M = Y * N) : (A = B ↔ X = Y) ∧ (A < B ↔ X < Y) := by
  refine ⟨⟨fun e => ?_, fun e => ?_⟩, ⟨fun e => ?_, fun e => ?_⟩⟩
  · exact Int.eq_of_mul_eq_mul_right (show N ≠ 0 by omega) (by rw [← h1, ← h2, e])
  · exact Int.eq_of_mul_eq_mul_right (show M ≠ 0 by omega) (by rw [h1, h2, e])
  · exact Int.lt_of_mul_lt_mul_right (by rw [← h1, ← h2]; exact Int.mul_lt_mul_of_pos_right e hM) (show 0 ≤ N by omega)
  · exact Int.lt_of_mul_lt_mul_right (by rw [h1, h2]; exact Int.mul_lt_mul_of_pos_right e hN) (show 0 ≤ M by omega)
theorem gcd_step {x y : Int} (h : 0 ≤ x) (_ : 0 < y) : Int.gcd y (x % y) = Int.gcd x y := by
  show Nat.gcd y.natAbs (x % y).natAbs = Nat.gcd x.natAbs y.natAbs
  rw [Nat.gcd_comm x.natAbs, Nat.gcd_rec y.natAbs x.natAbs, Nat.gcd_comm, Int.natAbs_emod_of_nonneg h]
theorem gcd_abs (u l : Int) : Int.gcd (if u < 0 then -u else u) (if l < 0 then -l else l) = Int.gcd u l := by
  have e : ∀ z : Int, (if z < 0 then -z else z).natAbs = z.natAbs := fun z => by split <;> omega
  show Nat.gcd _ _ = Nat.gcd _ _
  rw [e, e]
end RK

/-! try .. except (A, B, C) as e; a caught exception handed to a def -/
namespace RK
open PySem PySem.Spec PyProof.Rows L2
/-- three classes, one behind the other -/
def exm3 (K : PySem.W.Frag) (cls c1 c2 c3 : Value) : Option Bool := PySem.W.exmAny K cls [c1, c2, c3]
/-- what the clause wishes of an exception of the body: slot i is the name's -/
def wAs3 (K : PySem.W.Frag) (c1 c2 c3 : Value) (nl i : Nat) (ts : Addr → Obj → Value → Option Addr → TS) (Wout : WX) (D : Ends) : WX := fun cls d σ H =>
  ∃ b, exm3 K cls c1 c2 c3 = some b ∧
    (b = true → ∀ a oe, σ.length = nl → H a = none → Zc cls d oe → (∃ vs, oe.data = .fields vs) → ts a oe cls d { nx := fun σ' H' => D.nx (σ'.set i none) H', rt := D.rt, bk := fun σ' H' => D.bk (σ'.set i none) H', ct := fun σ' H' => D.ct (σ'.set i none) H' } (σ.set i (some (.ref a))) H) ∧
    (b = false → Wout cls d σ H)
theorem flying_push {B h : Heap} {l : List Env} {a : Addr} {Z : Obj → Prop} {o : Obj} (f : HandSPX.FlyingZ B l a Z h) : HandSPX.FlyingZ B l a Z (h.push o) := by
  obtain ⟨st, no, ff, oe, vs, T, oT, tz, g1, g2, g3, g4, g5, g6, g7, g8, g9⟩ := f
  have up : ∀ b u, h.get? b = some u → (h.push o).get? b = some u := fun b u e => Heap.get?_push_of_some _ e
  exact ⟨fun b u e => up b u (st b u e), no, ff.of_keeps fun b u e _ => ⟨u, up b u e, rfl⟩, oe, vs, T, oT, tz, up _ _ g1, g2, g3, g4, g5, g6, up _ _ g7, g8, g9⟩
section
variable {X : Cx} {x1 x2 x3 n : Str} {c1 c2 c3 : Value} {i k : Nat} {body rest : List Stmt} {b0 : Stmt} {q1 q2 q3 qt pos pos' : Pos} {tb : WX → TS} {ts : Addr → Obj → Value → Option Addr → TS} {Wout : WX}
theorem ps_try_as3 (hstk : X.stack = X.env :: X.outer) (hfrm : X.env.frame = some X.env.locals) (nd : X.N.Nodup) (hi : X.N[i]? = some n) (hloc : X.env.kindOf n = some .local)
    (C1 : Gl X x1 ∧ X.mg x1 = some c1) (C2 : Gl X x2 ∧ X.mg x2 = some c2) (C3 : Gl X x3 ∧ X.mg x3 = some c3) (tk : Takes X Wout)
    (hb : ∀ (W : WX) (pn : List (Addr × Obj)) (xe : Value → Shared → Prop), Takes (X.tr pn xe) W → PassesOwn (model X.prog X.w) X.A X.env xe → PSs (X.tr pn xe) body (tb W))
    (hsu : ∀ (a : Addr) (oe : Obj) (cls : Value) (d : Option Addr) (pn : List (Addr × Obj)), X.base.get? a = none → Zc cls d oe → (∃ vs, oe.data = .fields vs) → PSs (X.suite a ((a, oe) :: pn)) (b0 :: rest) (ts a oe cls d))
    (d1 : (x1 == ("__debug__" : Str)) = false := by decide) (d2 : (x2 == ("__debug__" : Str)) = false := by decide) (d3 : (x3 == ("__debug__" : Str)) = false := by decide) :
    PS X (.Try body [.ExceptHandler (some (.Tuple [.Name x1 q1, .Name x2 q2, .Name x3 q3] k qt)) (some n) (b0 :: rest) pos'] [] [] pos) (fun D σ H => tb (wAs3 X.K c1 c2 c3 X.N.length i ts Wout D) D σ H) := by
  refine ⟨fun pins s σ H D I h => wpAny_Try_except ?_⟩
  have ok := I.ok
  have hA : X.A.frames = some (X.env :: X.outer) := by rw [ok.frames, hstk]
  refine wpAny_mono ((hb (wAs3 X.K c1 c2 c3 X.N.length i ts Wout D) (X.pn ++ pins) (fun e sa => wpAny (model X.prog X.w) X.A (noteFrame e X.env) (fun _ sb => wpAny (model X.prog X.w) X.A (setFlight e none) (fun _ sc =>
    wpAny (model X.prog X.w) X.A (handleBy e X.env [.ExceptHandler (some (.Tuple [.Name x1 q1, .Name x2 q2, .Name x3 q3] k qt)) (some n) (b0 :: rest) pos']) (SP X pins D) X.xe sc) X.xe sb) X.xe sa) (fun u s' xx => ?_) PassesOwn.looking).run [] s σ H D (I.toTry _) h) (fun f s1 hsp => ?_) (fun e s1 he => he)
  · obtain ⟨a, B, sI, pins', σ', H', cls, d, rfl, J', nb, up, sky, na, os, ag, b, hb1, hyes, hno⟩ := xx
    have J := J'.ofTry ok
    rw [hstk] at sky
    show wpAny (model X.prog X.w) X.A (noteFrame (.ref a) X.env) _ _ _
    refine Sky.land Zc.steady hA hfrm sky fun ha fla upa => ?_
    have Ja : Inv X pins σ' H' { s' with heap := ha } := J.landed nb fla.1 (up.trans upa) os ag
    have baseN : X.base.get? a = none := by
      cases e : X.base.get? a with
      | none => rfl
      | some o =>
        exfalso
        have hn := nb a o (J.bk a o e) (fun z => by rw [(J.stack.mem z).1] at e; cases e)
        rw [fla.2.1] at hn
        cases hn
    -- what the exception is, wherever it flies
    have facts : ∀ {h : Heap}, HandSPX.FlyingZ B (X.env :: X.outer) a (Zc cls d) h → ∃ oe vs, h.get? a = some oe ∧ Zc cls d oe ∧ oe.data = .fields vs ∧ a ≠ X.env.locals ∧ a ∉ X.fs := fun {h} f => by
      obtain ⟨oe, vs, e1, e2, e3⟩ := f.there
      have no : a ∉ frs (X.env :: X.outer) := fun z => by
        obtain ⟨_, o', e', hf⟩ := f.2.2.1.mem z
        rw [e1] at e'
        cases e'
        exact hf vs e3
      refine ⟨oe, vs, e1, e2, e3, fun z => no (List.mem_filterMap.mpr ⟨X.env, List.mem_cons_self, by rw [hfrm, z]⟩), fun z => ?_⟩
      obtain ⟨ev, m1, m2⟩ := List.mem_filterMap.mp z
      exact no (List.mem_filterMap.mpr ⟨ev, List.mem_cons_of_mem _ m1, m2⟩)
    obtain ⟨oa, va, a1, a2, a3, aL, aF⟩ := facts fla
    have Sa := Ja.suite a1 a3 na aL aF
    refine wpAny_handleBy_cons (codeAny_handlers_test (wpAny_Tuple ?_)) (fun z => nomatch z)
    refine Calls.spliced_cons (ld_glob (X := X.suite a ((a, oa) :: (X.pn ++ pins))) Sa C1.1 C1.2 ?_ d1)
    refine Calls.spliced_cons (ld_glob (X := X.suite a ((a, oa) :: (X.pn ++ pins))) Sa C2.1 C2.2 ?_ d2)
    refine Calls.spliced_cons (ld_glob (X := X.suite a ((a, oa) :: (X.pn ++ pins))) Sa C3.1 C3.2 ?_ d3)
    refine Calls.spliced_nil ⟨by show 3 ≤ sizeLine; decide, ?_⟩
    have flb : HandSPX.FlyingZ B (X.env :: X.outer) a (Zc cls d) (ha.push { cls := .type "tuple", data := .seq [c1, c2, c3].toArray }) := flying_push fla
    have upb : sI.heap.UpToSlots (ha.push { cls := .type "tuple", data := .seq [c1, c2, c3].toArray }) := (up.trans upa).trans (Heap.UpToSlots.of_keeps fun b u e => Heap.get?_push_of_some _ e)
    have tup : (ha.push { cls := .type "tuple", data := .seq [c1, c2, c3].toArray }).get? ha.objs.size = some { cls := .type "tuple", data := .seq [c1, c2, c3].toArray } := Heap.get?_push_size _ rfl
    show wpAny _ _ (excMatches (.ref a) (.ref ha.objs.size)) _ _ { s' with heap := ha.push { cls := .type "tuple", data := .seq [c1, c2, c3].toArray } }
    generalize ha.push { cls := .type "tuple", data := .seq [c1, c2, c3].toArray } = hc at flb upb tup ⊢
    have Jb : Inv X pins σ' H' { s' with heap := hc } := J.landed nb flb.1 upb os ag
    obtain ⟨ob, vb, b1, b2, b3, _, _⟩ := facts flb
    refine (PySem.W.exm_tup3 (M := model X.prog X.w) Jb.kIn (fun A Q E s kp q => wpAny_typeOf_ref (kp _ _ b1) (by rw [b2.1]; exact q)) tup hb1).here ?_
    cases b with
    | true =>
      refine codeAny_handlers_suite_as (HandSPX.lands_againZ flb fun hd fld upd => ?_)
      have Jd : Inv X pins σ' H' { s' with heap := hd } := J.landed nb fld.1 (upb.trans upd) os ag
      obtain ⟨od, vd, e1, e2, e3, eL, eF⟩ := facts fld
      refine store_ok (X := X.suite a ((a, od) :: (X.pn ++ pins))) (v := .ref a) (Jd.suite e1 e3 na eL eF) nd hi (.inl hloc) rfl (fun se Se => ?_) (.inr hloc)
      refine wpAny_mono ((hsu a od cls d (X.pn ++ pins) baseN e2 ⟨_, e3⟩).run [] se _ H' _ Se (hyes rfl a od J.len na e2 ⟨_, e3⟩)) (fun f sf hsp => ?_) (fun _ _ z => z.elim)
      have gone : ∀ {σ6 : L2.St} {H6 : Hp} {Q : Shared → Prop}, Inv (X.suite a ((a, od) :: (X.pn ++ pins))) [] σ6 H6 sf → (∀ s7, Inv X pins (σ6.set i none) H6 s7 → Q s7) →
          wpAny (model X.prog X.w) X.A (do bindName X.env n .none; unbindBehindTheSuite X.env n pos') (fun _ s7 => Q s7) X.xe sf := fun {_ _ _} S6 hq => gone_ok (S6.unsuite ok) nd hi hloc hq
      cases f with
      | ret u => exact (fun ⟨v6, σ6, H6, S6, r6, w6⟩ => gone S6 fun s7 J7 => ⟨_, _, _, J7, r6, w6⟩) hsp
      | next => exact (fun ⟨σ6, H6, S6, w6⟩ => gone S6 fun s7 J7 => ⟨_, _, J7, w6⟩) hsp
      | brk => exact (fun ⟨σ6, H6, S6, w6⟩ => gone S6 fun s7 J7 => ⟨_, _, J7, w6⟩) hsp
      | cont => exact (fun ⟨σ6, H6, S6, w6⟩ => gone S6 fun s7 J7 => ⟨_, _, J7, w6⟩) hsp
    | false =>
      show wpAny _ X.A (handleBy (.ref a) X.env []) _ _ _
      refine wpAny_handleBy_nil ?_
      have flb' := flb
      obtain ⟨_, _, _, oe, vs, T, oT, tz, g1, g2, g3, g4, _⟩ := flb'
      unfold PySem.passOn
      refine wpAny_bind (wpAny_field g1 g3 g4 ?_)
      rw [if_neg (show ¬ ((Value.ref T == Value.none) = true) by simp)]
      have out : wpAny (model X.prog X.w) X.A (setFlight (.ref a) X.env.frame) (fun _ sz => wpAny (model X.prog X.w) X.A (throw (.ref a) : Sem Flow) (SP X pins D) X.xe sz) X.xe { s' with heap := hc } := by
        rw [hfrm]
        refine HandSPX.setFlight_upZ flb fun hz held upz => wpAny_throw (tk _ _ ⟨a, B, sI, pins, σ', H', cls, d, rfl, J, nb, upb.trans upz, .inr (.inr (by rw [hstk]; exact held)), na, os, ag, hno rfl⟩)
      first
        | exact wpAny_bind (wpAny_pure (wpAny_bind out))
        | exact wpAny_bind out
  · cases f with
    | ret u => exact (fun ⟨v, σ', H', J', r, w⟩ => ⟨v, σ', H', J'.ofTry ok, r, w⟩) hsp
    | next => exact (fun ⟨σ', H', J', w⟩ => wpAny_execs_nil ⟨σ', H', J'.ofTry ok, w⟩) hsp
    | brk => exact (fun ⟨σ', H', J', w⟩ => ⟨σ', H', J'.ofTry ok, w⟩) hsp
    | cont => exact (fun ⟨σ', H', J', w⟩ => ⟨σ', H', J'.ofTry ok, w⟩) hsp
end
/-! ### the caught exception as an argument -/
/-- the object at a, as it stands -/
def ExE (oe : Obj) (a : Addr) : HO := .ext fun h => h.get? a = some oe
theorem ExE.ok {P : Program} {w : World} {H : Hp} {h : Heap} {a : Addr} {oe : Obj} (e : h.get? a = some oe) : ObjOk P w H h a (ExE oe a) := ⟨e, ⟨oe, e⟩, fun _ _ q k => k _ q⟩
/-- f(.., e, ..): e is the exception that the suite holds -/
def tExc (oe : Obj) (a : Addr) (sp : Sp) (E : XK) (t : TA) : TE := fun σ H Q => t σ H fun vs H1 => sp vs (upd H1 a (ExE oe a)) (fun v H2 => H2 a = some (ExE oe a) ∧ Q v (delH H2 a)) E
section
variable {X : Cx} {CX : CXT} {k : Nat} {f : Addr} {fd : FuncData} {ps : List Str} {sp : Sp} {E : XK} {x : Str} {es : List Expr} {e : Expr} {t : TA} {a : Addr} {oe : Obj} {p pos : Pos}
theorem exc_back {H H2 : Hp} {h h' : Heap} {fs : List Addr} (ha : h.get? a = some oe) (hn : H a = none) (h2 : H2 a = some (ExE oe a)) (u : Un fs [] (upd H a (ExE oe a)) H2 h h') (e' : h'.get? a = some oe) : Un fs [] H (delH H2 a) h h' := by
  have other : ∀ {b : Addr} {o : HO}, H b = some o → b ≠ a := fun {b o} q z => by rw [z, hn] at q; cases q
  have other2 : ∀ {b : Addr} {o : HO}, H2 b = some o → (∀ φ, o ≠ .ext φ) → b ≠ a := fun {b o} q n z => by rw [z, h2] at q; cases q; exact n _ rfl
  refine ⟨fun b o q n hb hx => ?_, fun b o q n hb hx => ?_, fun b o q n hx => ?_, u.there, fun b xs q => ?_, fun b o w q => ?_, fun b tb q => ?_⟩
  · by_cases z : b = a
    · subst z
      rw [ha] at q
      cases q
      exact e'
    · exact u.keep b o q (by rw [upd_ne z]; exact n) hb hx
  · by_cases z : b = a
    · subst z
      rw [ha] at q
      cases q
      exact ⟨oe.slots, e'⟩
    · exact u.slot b o q (by rw [upd_ne z]; exact n) hb hx
  · by_cases z : b = a
    · rw [z, delH_same]
    · rw [delH_ne z]
      exact u.free b o q (by rw [upd_ne z]; exact n) hx
  · rw [delH_ne (other q)]
    exact u.tups b xs (by rw [upd_ne (other q)]; exact q)
  · rw [delH_ne (other q)]
    exact u.frzs b o w (by rw [upd_ne (other q)]; exact q)
  · rw [delH_ne (other q)]
    exact u.tbls b tb (by rw [upd_ne (other q)]; exact q)
theorem hok_del {P : Program} {w : World} {H : Hp} {h : Heap} (ok : HOk P w H h) (h2 : H a = some (ExE oe a)) : HOk P w (delH H a) h := fun b u q => by
  have hb : b ≠ a := fun z => by rw [z, delH_same] at q; cases q
  rw [delH_ne hb] at q
  refine (ok b u q).stay (fun _ _ _ r => r) (fun c r => ?_) (fun c xs r => ?_)
  · rw [delH_ne (fun z => by rw [z, h2] at r; cases r)]
    exact r
  · rw [delH_ne (fun z => by rw [z, h2] at r; cases r)]
    exact r
end
end RK

/-! isinstance and fields of an exception that a def was handed -/
namespace PySem.W
open PySem PySem.Spec PySem.Calls PyProof.Rows
section
variable {prog : Program} {w : World} {A : Around} {E : Value → Shared → Prop} {s : Shared} {K : Frag} {x D : Addr} {ox : Obj} {od : Option Obj}
theorem rk_findData {C : Addr} {name : Str} {u g : Value} (c1 : (clsIn K C).isSome = true) (c2 : findIn K (.ref C) name = some (some u)) (c3 : specialIn K u "__get__" = some (some g)) (c4 : takesIn K u = some true) : findObj K C od name = some (.bind g u) := by
  obtain ⟨cd, e⟩ := Option.isSome_iff_exists.mp c1
  unfold findObj
  simp [e, c2, c3, c4]
/-- x.__class__ of an own exception, whatever its dict -/
theorem rk_classE {Q : Option Value → Shared → Prop} (C : L2.ExcC K D) (KI : K.In s.heap) (I : InstAt s.heap x ox D od) (h : Q (some (.ref D)) { s with toks := s.toks + 1 }) : wpAny (model prog w) A (getAttr? (.ref x) "__class__") Q E s := by
  have fo : findObj K D od "__class__" = some (.bind (.builtin "getset_descriptor.__get__") (.builtin "object.__class__")) := rk_findData (by obtain ⟨cd, e, _⟩ := any_some C.hd; rw [e]; rfl) C.ha C.hn C.ht
  obtain ⟨hh, gg, dd, tt, oo⟩ := s
  have T0 := I.type (M := model prog w)
  have T1 := looks_findIn (M := model prog w) KI C.hg
  have T2 := looks_findIn (M := model prog w) KI C.hk
  have T3 := looks_find (M := model prog w) KI I fo
  have isB : Looks (model prog w) hh (isInstance (.ref x) (.type "BaseException")) true := T0.andThen (looks_subIn KI C.hs)
  have z2 : (Value.builtin "BaseException.__getattribute__" == Value.builtin "object.__getattribute__") = false := by decide +kernel
  unfold getAttr? getAttrBy? getAttrBy
  refine wpAny_bind (wpAny_mkText (wpAny_bind (wpAny_attempt (wpAny_holding (wpAny_bind (T0.at (wpAny_bind (T1.at ?_))))))))
  show wpAny _ _ (if (onTheHeap (Value.ref D) && Value.builtin "BaseException.__getattribute__" == Value.builtin "object.__getattribute__") = true then _ else _) _ _ _
  rw [z2, Bool.and_false, if_neg Bool.false_ne_true]
  unfold getAttrByItsOwn hookBefore
  refine wpAny_bind ?_
  have z3 : onTheHeap (Value.ref D) = true := rfl
  rw [if_pos z3]
  refine T2.at (wpAny_bind (wpAny_attempt (wpAny_holding ?_)))
  unfold callGetattribute
  rw [show (false && onTheHeap (Value.builtin "BaseException.__getattribute__")) = false from rfl, if_neg Bool.false_ne_true]
  unfold boundAndCalled
  rw [PySem.F.excAttr_ValueError.ga.bind (.ref x)]
  refine wpAny_bind (wpAny_pure ?_)
  show wpAny _ _ (call (.builtin "BaseException.__getattribute__") [.ref x, .str "__class__" tt]) _ _ _
  refine wpAny_call (codeAny_call_builtin PySem.F.excAttr_ValueError.ga.plain PySem.F.entry_bexc_ga (@check_slot (model prog w) _ _ ⟨hh, gg, dd, tt + 1, oo⟩ "BaseException.__getattribute__" "BaseException" "__getattribute__" (.ref x) [.str "__class__" tt] [] _ (by decide +kernel) (by decide +kernel) isB (PySem.F.args_bexc_ga (.ref x) (.str "__class__" tt)) ?_))
  unfold Builtin.«object.__getattribute__»
  refine wpAny_bind (wpAny_of_eq (a := ((Value.ref x : Value), [Value.str "__class__" tt])) (by first | rfl | (simp only [slotArgs]; rfl)) (wpAny_bind (wpAny_pure (wpAny_bind (T0.at (wpAny_bind (T3.at ?_)))))))
  show wpAny _ _ (holding [Value.builtin "object.__class__"] (call (.builtin "getset_descriptor.__get__") [.builtin "object.__class__", .ref x, .ref D]) >>= ret) _ _ _
  refine wpAny_bind (wpAny_holding (wpAny_call (class_get (s := ⟨hh, gg, dd, tt + 1, oo⟩) (ox := ox) (od := od) KI I C.hm (wpAny_pure ?_))))
  show wpAny _ _ (handedOut (.ref D)) _ _ _
  rw [handedOut_of (v := .ref D) rfl]
  first
    | exact wpAny_pure (wpAny_pure h)
    | exact wpAny_pure h
    | exact wpAny_pure (wpAny_bind (wpAny_pure (wpAny_pure h)))
theorem rk_clsObj {C : L2.ExcC K D} : ∃ oc, K.lookup D = some oc ∧ ∃ cd, oc.data = .cls cd := by
  obtain ⟨cd, e, _⟩ := any_some C.hd
  unfold clsIn at e
  split at e
  · rename_i ho
    exact ⟨_, ho, _, rfl⟩
  · cases e
theorem rk_kitE (C : L2.ExcC K D) : KitX K (.ref x) (.ref D) (fun h => InstAt h x ox D od) where
  ty := fun _ _ _ I => I.type
  it := fun M h KI I => by
    obtain ⟨oc, ho, cd, e⟩ := rk_clsObj (C := C)
    obtain ⟨c0, d0, t0, sl0⟩ := oc
    cases e
    intro A' Q' E' s' kp q
    unfold isType loadHead
    exact wpAny_bind (wpAny_loadPart (kp _ _ (KI _ _ ho)) (wpAny_pure q))
  ne := fun h tp dd its m sl KI e => by
    obtain ⟨oc, ho, cd, e2⟩ := rk_clsObj (C := C)
    refine Bool.eq_false_iff.mpr fun q => ?_
    obtain rfl : D = tp := Value.ref.inj (beq_iff_eq.mp q)
    rw [KI _ _ ho] at e
    cases e
    cases e2
  ca := fun KI I q => rk_classE C KI I q
end
end PySem.W
namespace RK
open PySem PySem.Spec PyProof.Rows L2
section
variable {X : Cx} {a D : Addr} {oe : Obj}
theorem exc_inst {h : Heap} {od : Option Addr} {o : Option Obj} (hz : Zc (.ref D) od oe) (hf : ∃ vs, oe.data = .fields vs) (e : h.get? a = some oe) (ho : match od with | none => o = none | some dd => ∃ u, h.get? dd = some u ∧ o = some u) : PySem.W.InstAt h a oe D o := by
  obtain ⟨vs, hd⟩ := hf
  refine ⟨e, hz.1, by unfold PySem.W.notCls; rw [hd] <;> rfl, ?_⟩
  rw [hz.2]
  cases od with
  | none => subst ho; trivial
  | some dd =>
    obtain ⟨u, h1, rfl⟩ := ho
    exact h1
/-- what is asked of a handed exception: its class D, its dict at dd with the fields fs -/
structure ExAt (H : Hp) (a D : Addr) (fs : List (Str × V)) : Prop where
  ex : ∃ oe dd, H a = some (ExE oe a) ∧ Zc (.ref D) (some dd) oe ∧ (∃ vs, oe.data = .fields vs) ∧ H dd = some (.xd fs)
def rIsX (K : PySem.W.Frag) : List V → Hp → VK → Prop := fun xs H Q => ∃ (a D : Addr) (fs : List (Str × V)) (c : V) (cv : Value) (b : Bool), xs = [.ref a, c] ∧ ExAt H a D fs ∧ ExcC K D ∧ (∀ u, RelV c u → u = cv) ∧ PySem.W.kitOne K (.ref D) cv = some b ∧ Q (.bl b) H
theorem cr_isX : CallR X (.builtin "isinstance") (rIsX X.K) := by
  intro pins s σ H xs us Q I r h
  obtain ⟨a, D, fs, c, cv, b, rfl, ⟨oe, dd, ha, hz, hf, hd⟩, C, hc, e, q⟩ := h
  cases r with
  | cons r1 r =>
    cases r with
    | cons r2 r =>
      cases r
      cases r1
      obtain rfl := hc _ r2
      have ea : s.heap.get? a = some oe := (I.hok a _ ha).1
      obtain ⟨mA, hns, _⟩ : ObjOk X.prog X.w H s.heap dd (.xd fs) := I.hok dd _ hd
      obtain ⟨od, ho, _⟩ := lookIn_ns hns
      exact PySem.W.kia_one (PySem.W.rk_kitE C) I.kIn (exc_inst hz hf ea ⟨od, ho, rfl⟩) e (fun z => nomatch z) fun tk => ⟨.bl b, H, I.kept (t' := tk) fun _ _ z => z, rfl, q⟩
/-- e.f -/
def tXfT (K : PySem.W.Frag) (f : Str) (te : TE) : TE := fun σ H Q => te σ H fun x H1 => ∃ (a D : Addr) (fs : List (Str × V)) (v : V), x = .ref a ∧ ExAt H1 a D fs ∧ XfC K D ∧ PySem.W.findIn K (.ref D) f = some none ∧ fs.lookup f = some v ∧ Q v H1
theorem pe_xfT {e : Expr} {te : TE} {pos : Pos} {f : Str} (he : PE X e te) (hb : attributeBase e f X.env (eval e X.env) = eval e X.env := by rfl) : PE X (.Attribute e f pos) (tXfT X.K f te) := by
  refine ⟨fun pins s σ H Q I h => attr_of hb (thn (he.run pins s σ H _ I h) fun u s1 hh => ?_)⟩
  obtain ⟨x, H1, I1, rx, a, D, fs, v, rfl, ⟨oe, dd, ha, hz, hf, hd⟩, T, hno, l, q⟩ := hh
  obtain rfl : u = Value.ref a := rx
  have ea : s1.heap.get? a = some oe := (I1.hok a _ ha).1
  obtain ⟨mA, hns, hr⟩ : ObjOk X.prog X.w H1 s1.heap dd (.xd fs) := I1.hok dd _ hd
  obtain ⟨od, ho, hl⟩ := lookIn_ns hns
  obtain ⟨u, hu, ru⟩ := RelO.some_of (v := v) (o := mA f) (by rw [← l]; exact hr f)
  exact HandSPX.exc_get I1.kIn (exc_inst hz hf ea ⟨od, ho, rfl⟩) T.ga T.gg T.exC (PySem.W.findObj_own T.hdC hno rfl (by rw [hl, hu])) (handed_of ru) ⟨v, H1, I1.tok _, ru, q⟩
end
end RK

/-! defs that are called where no text of a collection is under way (so that they may ask for such a text) -/
namespace RK
open PySem PySem.Spec PyProof.Rows L2
structure FnOkG (P : Program) (w : World) (K : PySem.W.Frag) (mg : Str → Option Value) (base : Heap) (CX : CXT) (k : Nat) (f : Addr) (fd : FuncData) (ps : List Str) (sp : Sp) : Prop where
  len : ∀ vs H Q E, sp vs H Q E → vs.length = ps.length
  run : ∀ (A : Around) (outer : List Env) (s : Shared) (H : Hp) (args : Args) (us : List Value) (vs : List V) (Q : VK) (E : XK), A.guards = some [] → Room k A → Env0 P w K mg base A outer s H → BindsTo s fd args (ps.zip us) → Vals vs us → sp vs H Q E →
    codeAny (model P w) A (.call (.ref f) args) (CR CX outer P w H s Q E) s
section
variable {P : Program} {w : World} {K : PySem.W.Frag} {mg : Str → Option Value} {base : Heap} {CX : CXT} {k : Nat} {f : Addr} {fd : FuncData} {N ps : List Str} {sp : Sp} {x qual : Str} {st : Stmt}
theorem guards_deeper {A : Around} {env : Env} (h : A.guards = some []) : (A.deeper env).guards = some [] := h
theorem FnOkG.of (F : FnOk P w K mg base CX k f fd ps sp) : FnOkG P w K mg base CX k f fd ps sp := ⟨F.len, fun A outer s H args us vs Q E _ => F.run A outer s H args us vs Q E⟩
/-- as Fun.ok, the body may use that no text of a collection is under way -/
theorem funG {CX : CXT} (F : Fun K x qual st f fd) (S : FnScope N ps (defScope st)) (len : ∀ vs H Q E, sp vs H Q E → vs.length = ps.length)
    (hbody : ∀ (cdv : Value) (A : Around) (outer : List Env) (s : Shared) (H : Hp) (vs : List V) (Q : VK) (E : XK), A.guards = some [] → Room k (A.deeper (envOfC qual (defScope st) s.heap.objs.size f cdv)) → sp vs H Q E →
      ∃ t, PSs (cxOf CX P w K mg base N qual (defScope st) f cdv A outer s H E) (defBody st) t ∧ t { nx := fun _ H' => Q .non H', rt := Q } (L2.start N vs) H) : FnOkG P w K mg base CX (k + 1) f fd ps sp := by
  obtain ⟨oc, od, kV, doc, pm, an, cdv, ct, osl, rfl, lk, hcd⟩ := F.ex
  exact ⟨len, fun A outer s H args us vs Q E hg hr e0 hb r q => LamX.run_ofS lk hcd S hr e0 hb r (len _ _ _ _ q) fun hr' => hbody cdv A outer s H vs Q E hg hr' q⟩
end
section
variable {X : Cx} {CX : CXT} {k : Nat} {f : Addr} {fd : FuncData} {ps : List Str} {sp : Sp} {E : XK} {x : Str} {es : List Expr} {e : Expr} {t : TA} {p pos : Pos}
theorem run_G {pins : List (Addr × Obj)} {σ : L2.St} {H : Hp} {s : Shared} {Q : VK} {us : List Value} {vs : List V} (F : FnOkG X.prog X.w X.K X.mg X.base CX k f fd ps sp) (hG : X.A.guards = some []) (hr : Room k X.A) (hb : L2.Binds X.K fd ps []) (hx : Passes CX X E)
    (I : Inv X pins σ H s) (r : Vals vs us) (h : sp vs H Q E) : wpAny (model X.prog X.w) X.A (call (.ref f) us) (EP X pins σ Q) X.xe s := by
  have hl : (us ++ []).length = ps.length := by rw [List.append_nil, ← r.length]; exact F.len _ _ _ _ h
  have r' : Vals vs (us ++ []) := by rw [List.append_nil]; exact r
  refine wpAny_call (codeAny_mono (F.run X.A X.stack s H ⟨us, []⟩ (us ++ []) vs Q E hG hr I.env0 (hb s us I.kIn hl) r' h) fun res s' hq => ?_)
  match res, hq with
  | .error er, hq => exact hx pins σ H s er s' I hq
  | .ok (.ret u), hq => exact I.after hq
  | .ok .next, hq => exact hq.elim
  | .ok .brk, hq => exact hq.elim
  | .ok .cont, hq => exact hq.elim
/-- f(e, ..) -/
theorem pe_callG (F : FnOkG X.prog X.w X.K X.mg X.base CX k f fd ps sp) (hG : X.A.guards = some []) (hr : Room k X.A) (hg : Gl X x) (hm : X.mg x = some (.ref f)) (hk : PySem.W.keepIn X.K (.ref f) = true) (hb : L2.Binds X.K fd ps []) (hx : Passes CX X E)
    (ha : PA X (e :: es) t) (hdb : (x == ("__debug__" : Str)) = false := by decide) (he : starEach (e :: es) X.env = (false, eval e X.env) :: starEach es X.env := by rfl) (hpl : (backTo pos (starEach es X.env)).any (·.1) = false := by rfl) :
    PE X (.Call (.Name x p) (e :: es) [] pos) (tCall sp [] E t) := by
  refine ⟨fun pins s σ H Q I h => wpAny_Call_Name_kw (ld_glob I hg hm (PySem.W.callWith_K (h₀ := X.base) I.ok.mod.kin hk (thn (ha.run pos pins s σ H _ I h) fun us s1 hh => ?_) he hpl) hdb)⟩
  obtain ⟨vs, H1, I1, r, q⟩ := hh
  exact ⟨I1.kIn, run_G F hG hr hb hx I1 r (by rw [List.append_nil] at q; exact q)⟩
end
/-! ### defs that an except suite calls -/
structure RoomS (k : Nat) (A : Around) : Prop where
  dp : A.depth + 3 * k + 5 < recursionLimit
  un : A.units + 16 * k + 200 < cLine
theorem RoomS.mono {j k : Nat} {A : Around} (r : RoomS k A) (h : j ≤ k) : RoomS j A := ⟨by have := r.dp; omega, by have := r.un; omega⟩
theorem RoomS.deeper {k : Nat} {A : Around} (r : RoomS (k + 1) A) (env : Env) : RoomS k (A.deeper env) := by
  obtain ⟨h1, h2⟩ := r
  exact ⟨by show A.depth + 1 + 3 * k + 5 < _; omega, by show A.units + 3 + 16 * k + 200 < _; omega⟩
theorem RoomS.of {k : Nat} {A : Around} (r : Room k A) : RoomS k A := ⟨r.dp, r.un⟩
theorem RoomS.units {k : Nat} {A : Around} (r : RoomS k A) : A.units + 64 < cLine := by have := r.un; omega
structure FnS (P : Program) (w : World) (K : PySem.W.Frag) (mg : Str → Option Value) (base : Heap) (CX : CXT) (k : Nat) (f : Addr) (fd : FuncData) (ps : List Str) (sp : Sp) : Prop where
  len : ∀ vs H Q E, sp vs H Q E → vs.length = ps.length
  run : ∀ (A : Around) (outer : List Env) (s : Shared) (H : Hp) (args : Args) (us : List Value) (vs : List V) (Q : VK) (E : XK), A.guards = some [] → RoomS k A → Env0 P w K mg base A outer s H → BindsTo s fd args (ps.zip us) → Vals vs us → sp vs H Q E →
    codeAny (model P w) A (.call (.ref f) args) (CR CX outer P w H s Q E) s
/-- the context of such a def's body: its own object stands as it stood -/
abbrev cxS (CX : CXT) (P : Program) (w : World) (K : PySem.W.Frag) (mg : Str → Option Value) (base : Heap) (N : List Str) (qual : Str) (scope : Scope) (f : Addr) (cd : Value) (A : Around) (outer : List Env) (s : Shared) (H : Hp) (E : XK) (o : Obj) : Cx := L2H.cxH CX P w K mg base N qual scope f cd A outer s H E (f, o)
section
variable {P : Program} {w : World} {K : PySem.W.Frag} {mg : Str → Option Value} {base : Heap} {k : Nat} {f : Addr} {fd : FuncData} {N ps : List Str} {sp : Sp} {x qual : Str} {st : Stmt}
theorem funS {CX : CXT} (F : Fun K x qual st f fd) (S : FnScope N ps (defScope st)) (len : ∀ vs H Q E, sp vs H Q E → vs.length = ps.length)
    (hbody : ∀ (cdv : Value) (o : Obj) (A : Around) (outer : List Env) (s : Shared) (H : Hp) (vs : List V) (Q : VK) (E : XK), A.guards = some [] → RoomS k (A.deeper (envOfC qual (defScope st) s.heap.objs.size f cdv)) → sp vs H Q E →
      ∃ t, PSs (cxS CX P w K mg base N qual (defScope st) f cdv A outer s H E o) (defBody st) t ∧ t { nx := fun _ H' => Q .non H', rt := Q } (L2.start N vs) H) : FnS P w K mg base CX (k + 1) f fd ps sp := by
  obtain ⟨oc, od, kV, doc, pm, an, cdv, ct, osl, rfl, lk, hcd⟩ := F.ex
  refine ⟨len, fun A outer s H args us vs Q E hG hr e0 hb r q => ?_⟩
  have inB := e0.mod.kin f _ lk
  obtain ⟨inS, fr⟩ := e0.bs f _ inB
  have KX : K.In s.heap := e0.mod.kin.keeps fun b o z => (e0.bs b o z).1
  have noL : s.heap.NoLimit := e0.mod.nolimit.keeps fun b o z => (e0.bs b o z).1
  have kinds : ∀ y ∈ ps.zip us, (defScope st).names.lookup y.1 = some .local ∨ ((defScope st).names.lookup y.1 = some .cell ∧ ((cellsFrom (s.heap.objs.size + 1) (defScope st).names []).lookup y.1).isSome = true) := fun ⟨n, v⟩ hy =>
    (S.par n (List.of_mem_zip hy).1).imp id fun z => ⟨z, PySem.W.cellsFrom_some _ _ _ (.inl z)⟩
  refine codeAny_call_function (show A.depth < recursionLimit by have := hr.dp; omega) (KX _ _ lk) rfl S.co S.gen rfl (PySem.W.codeRec_of KX hcd) (hb _ _ _ _ (wpAny_newFunctionEnv_cells S.kind kinds fun env he s1 ic => ?_))
  subst he
  refine ⟨noL.keeps ic.toInCall.keep, codeAny_func ?_⟩
  obtain ⟨t, ht, hq⟩ := hbody cdv { cls := oc, dict := od, data := .func (PySem.W.fnOf x qual (defArgs st) (defBody st) (defScope st) .none kV doc pm an cdv ct), slots := osl } A outer s H vs Q E hG (hr.deeper _) q
  have I := L2H.inv_startH (CX := CX) (E := E) S (p := (f, _)) ⟨inS, fr, (fun z => by rw [(e0.funs.mem z).1] at inB; cases inB), fun v z => (nomatch z)⟩ e0 (len _ _ _ _ q) r ic
  refine wpAny_mono (ht.run [] s1 (L2.start N vs) H _ I hq) (fun fl s' hs => ?_) fun e s' hs => hs
  match fl, hs with
  | .ret u, ⟨v, σ', H', J, rv, z⟩ => exact ⟨v, H', J.os, J.bare, J.base, J.hok, rv, z⟩
  | .next, ⟨σ', H', J, z⟩ => exact ⟨.non, H', J.os, J.bare, J.base, J.hok, rfl, z⟩
  | .brk, ⟨_, _, _, z⟩ => exact z.elim
  | .cont, ⟨_, _, _, z⟩ => exact z.elim
end
section
variable {X : Cx} {CX : CXT} {k : Nat} {f : Addr} {fd : FuncData} {ps : List Str} {sp : Sp} {E : XK} {x : Str} {es : List Expr} {e : Expr} {t : TA} {a : Addr} {oe : Obj} {p pos : Pos}
theorem pe_exc (hp : (a, oe) ∈ X.pn) (hB : X.base.get? a = none) (F : FnS X.prog X.w X.K X.mg X.base CX k f fd ps sp) (hG : X.A.guards = some []) (hr : RoomS k X.A) (hg : Gl X x) (hm : X.mg x = some (.ref f)) (hk : PySem.W.keepIn X.K (.ref f) = true) (hb : L2.Binds X.K fd ps [])
    (hE : ∀ s H e s', CX X.stack H s E e s' → False)
    (ha : PA X (e :: es) t) (hdb : (x == ("__debug__" : Str)) = false := by decide) (he : starEach (e :: es) X.env = (false, eval e X.env) :: starEach es X.env := by rfl) (hpl : (backTo pos (starEach es X.env)).any (·.1) = false := by rfl) :
    PE X (.Call (.Name x p) (e :: es) [] pos) (tExc oe a sp E t) := by
  refine ⟨fun pins s σ H Q I h => wpAny_Call_Name_kw (ld_glob I hg hm ?_ hdb)⟩
  refine PySem.W.callWith_K (h₀ := X.base) I.ok.mod.kin hk (thn (ha.run pos pins s σ H _ I h) fun us s1 hh => ?_) he hpl
  obtain ⟨vs, H1, I1, r, q⟩ := hh
  refine ⟨I1.kIn, ?_⟩
  obtain ⟨pa, pn, pl, pf, _⟩ := I1.pin (a, oe) (List.mem_append_left _ hp)
  have e0 := I1.env0
  have e1 : Env0 X.prog X.w X.K X.mg X.base X.A X.stack s1 (upd H1 a (ExE oe a)) :=
    ⟨e0.frames, e0.mod, fun b o z => ⟨(e0.bs b o z).1, by rw [upd_ne (fun w => by rw [w, hB] at z; cases z)]; exact (e0.bs b o z).2⟩, e0.bsz, e0.funs,
      fun b z => by
        rw [upd_ne (fun w => by
          rcases List.mem_cons.mp (I1.stkSub b z) with q | q
          · exact pl (w ▸ q)
          · exact pf (w ▸ q))]
        exact e0.frf b z, e0.hok.laidN (fun _ _ z => z) pn (ExE.ok pa), e0.bare⟩
  have hl : (us ++ []).length = ps.length := by rw [List.append_nil, ← r.length]; exact F.len _ _ _ _ q
  have r' : Vals vs (us ++ []) := by rw [List.append_nil]; exact r
  refine wpAny_call (codeAny_mono (F.run X.A X.stack s1 _ ⟨us, []⟩ (us ++ []) vs _ E hG hr e1 (hb s1 us I1.kIn hl) r' q) fun res s2 hq => ?_)
  cases res with
  | error er => exact (hE _ _ _ _ hq).elim
  | ok fl =>
    cases fl with
    | ret u =>
      obtain ⟨v, H2, os, bare, un, hok, rv, h2, qv⟩ := hq
      have ea : s2.heap.get? a = some oe := (hok a _ h2).1
      exact ⟨v, _, I1.call' os (exc_back pa pn h2 un ea) (hok_del hok h2) bare (fun b z => nomatch z), rv, qv⟩
    | next => exact hq.elim
    | brk => exact hq.elim
    | cont => exact hq.elim
end
end RK

/-! repr of data, where no text of a collection is under way -/
namespace RK
open PySem PySem.Spec PyProof.Rows L2
def rReprD (K : PySem.W.Frag) : List V → Hp → VK → Prop := fun xs H Q => ∃ x d, xs = [x] ∧ Dp K H x d ∧ d.showable = true ∧ d.hasDict = false ∧ d.depth < 60 ∧ d.shown.length ≤ sizeLine ∧ Q (.str d.shown) H
theorem cr_reprD {X : Cx} (hG : X.A.guards = some []) (hu : X.A.units + 64 < cLine) : CallR X (.builtin "repr") (rReprD X.K) := by
  intro pins s σ H xs us Q I r h
  obtain ⟨x, d, rfl, dp, hs, hnd, hd, hz, q⟩ := h
  obtain ⟨u, rfl, ru⟩ := vals1 r
  obtain ⟨as, rd⟩ := Dp.reads I d x u dp ru
  have big : ∀ a : Addr, u = .ref a → wpAny (model X.prog X.w) X.A (call (.builtin "repr") [u]) (EP X pins σ Q) X.xe s := fun a e => by
    subst e
    exact repr_of_reads' rd hs (PyData.noDict_hsm hnd) hG (by omega) (fun _ _ z => z) (fun h' tok tk hk => ⟨.str _, H, I.kept (t' := tk) hk, ⟨tok, rfl⟩, q⟩) hz
  cases dp with
  | lst _ _ => cases ru; exact big _ rfl
  | tup _ _ => cases ru; exact big _ rfl
  | non =>
    cases ru
    exact PySem.P.repr_of_none ⟨.str _, H, I.tok _, ⟨_, rfl⟩, q⟩
  | bl b =>
    cases ru
    exact PySem.P.repr_of_bool ⟨.str _, H, I.tok _, ⟨_, rfl⟩, by cases b <;> exact q⟩
  | int i =>
    obtain ⟨t, rfl⟩ := ru
    exact PySem.P.repr_of_int (of_decide_eq_true hs) ⟨.str _, H, I.tok _, ⟨_, rfl⟩, q⟩
  | str y =>
    obtain ⟨t, rfl⟩ := ru
    exact PySem.P.repr_of_str ⟨.str _, H, I.tok _, ⟨_, rfl⟩, q⟩ hz
end RK

/-! the end of a law whose defs ask for the texts of collections: the law's promise at the head's own surroundings -/
namespace RK
open PySem PySem.Spec PyProof.Rows L2 LamX
theorem callerG : callerA.guards = some [] := rfl
theorem law_callG {P : Program} {w : World} {K : PySem.W.Frag} {mg mb : Str → Option Value} {CX : CXT} {k : Nat} {fa a : Addr} {tb : List (Addr × Addr)} {fd : FuncData} {x : Str} {sp : Sp} {s1 : Shared} {us : List Value} {ns : List Int}
    (hK : K.In s1.heap) (hG : s1.heap.Ns mainGlobals mg) (hB : s1.heap.Ns builtinsNs mb) (hBB : ∀ x : Str, x ≠ "__name__" → mb x = bootBuiltins x) (hL : s1.heap.NoLimit) (hg : s1.gens = #[])
    (tabs : ∀ p ∈ tb, s1.heap.get? p.2 = some { cls := .none, data := .fields #[] }) (tabK : ∀ p ∈ tb, K.lookup p.2 = none) (codes : ∀ p ∈ tb, PySem.W.CodeHd s1.heap p.1 p.2)
    (hM : ∃ (bm : Addr) (ob : Obj), mg "__builtins__" = some (.ref bm) ∧ bm ≠ builtinsNs ∧ s1.heap.get? bm = some ob ∧ ob.cls = .type "module" ∧ ob.dict = some builtinsNs ∧ ob.data = .plain)
    (scr : s1.heap.get? a = some { cls := .type "list", data := .seq us.toArray }) (areI : IntsAre us ns) (len : ns.length ≤ sizeLine) (hr : Room k callerA)
    (F : ∀ base : Heap, K.In base → base.Ns mainGlobals mg → (∀ p ∈ tb, TabB base mg p.1 p.2) → FnOkG P w K mg base CX k fa fd [x] sp) (bind : ∀ (s : Shared) (u : Value), BindsTo s fd ⟨[u], []⟩ [(x, u)])
    (prom : ∀ H : Hp, (∀ p ∈ tb, H p.2 = some (.tbl #[])) → SqL K H a (ns.map V.int) → sp [.ref a] H (fun v _ => v = .bl true) fun _ _ _ => False)
    (none_ : ∀ H e s', CX [] H s1 (fun _ _ _ => False) e s' → False) :
    codeAny (model P w) callerA (.call (.ref fa) ⟨[.ref a], []⟩) (fun r s' => r = .ok (.ret (.bool true)) ∧ OldK s1.heap s'.heap ∧ s'.os = s1.os ∧ AllBare s'.gens) s1 := by
  have rel := vals_ints areI
  have lenU := areI.length
  generalize eT : tb.map (·.2) = TT
  have inT : ∀ p ∈ tb, p.2 ∈ TT := fun p hp => eT ▸ List.mem_map.mpr ⟨p, hp, rfl⟩
  have ofT : ∀ {b : Addr}, b ∈ TT → ∃ p ∈ tb, p.2 = b := fun {b} h => List.mem_map.mp (eT.symm ▸ h)
  have tabAt : ∀ {b : Addr}, b ∈ TT → s1.heap.get? b = some { cls := .none, data := .fields #[] } := fun {b} h => by
    obtain ⟨p, hp, rfl⟩ := ofT h
    exact tabs p hp
  have scrT : a ∉ TT := fun z => by
    have := (tabAt z).symm.trans scr
    cases this
  have go : ∀ H : Hp, (∀ p ∈ tb, H p.2 = some (.tbl #[])) → (∀ b u, H b = some u → (b = a ∧ (∃ o xs, u = .frz o (.lst xs)) ∧ K.lookup a = none) ∨ (b ∈ TT ∧ u = .tbl #[])) → SqL K H a (ns.map V.int) → HOk P w H s1.heap →
      codeAny (model P w) callerA (.call (.ref fa) ⟨[.ref a], []⟩) (fun r s' => r = .ok (.ret (.bool true)) ∧ OldK s1.heap s'.heap ∧ s'.os = s1.os ∧ AllBare s'.gens) s1 := by
    intro H hT what hS hok
    have sees : ∀ {b : Addr} {o : Obj}, s1.heap.get? b = some o → H b = none → (hidT s1.heap H).get? b = some o := fun e n => hidT_get e n
    have plain : ∀ {b : Addr} {o : Obj}, s1.heap.get? b = some o → (∀ vs n, o.data ≠ .seq vs n) → o.data ≠ .fields #[] → H b = none := fun {b o} e d1 d2 => by
      cases q : H b with
      | none => rfl
      | some u =>
        exfalso
        rcases what b u q with ⟨rfl, _⟩ | ⟨hb, _⟩
        · rw [scr] at e
          cases e
          exact d1 _ _ rfl
        · rw [tabAt hb] at e
          cases e
          exact d2 rfl
    have dicts : ∀ {b : Addr} {o : Obj} {es : Array DictEntry} {ep : Nat}, s1.heap.get? b = some o → o.data = .dict es ep → H b = none := fun e d => plain e (fun vs n z => by rw [d] at z; cases z) (fun z => by rw [d] at z; cases z)
    have nsT : ∀ {b : Addr} {m : Str → Option Value}, s1.heap.Ns b m → (hidT s1.heap H).Ns b m := fun {b m} ⟨o, es, ep, e, d, r⟩ => ⟨o, es, ep, sees e (dicts e d), d, r⟩
    have inB : K.In (hidT s1.heap H) := fun b o e => sees (hK b o e) (by
      cases q : H b with
      | none => rfl
      | some u =>
        exfalso
        rcases what b u q with ⟨rfl, _, nK⟩ | ⟨hb, _⟩
        · rw [nK] at e
          cases e
        · obtain ⟨p, hp, rfl⟩ := ofT hb
          rw [tabK p hp] at e
          cases e)
    have modB : L2.Mod K mg (hidT s1.heap H) := ⟨inB, nsT hG, ⟨mb, nsT hB, hBB⟩, by obtain ⟨mc, l1, l2⟩ := hL; exact ⟨mc, nsT l1, l2⟩⟩
    have tabB : ∀ p ∈ tb, TabB (hidT s1.heap H) mg p.1 p.2 := fun p hp => by
      refine ⟨?_, ?_, fun z => ?_⟩
      · obtain ⟨o, ws, file, tf, flags, tg, inF, text, tt, e1, r1, r2, r3, rest⟩ := codes p hp
        refine ⟨o, ws, file, tf, flags, tg, inF, text, tt, sees e1 (plain e1 (fun vs n z => by rw [r2] at z; cases z) (fun z => ?_)), r1, r2, r3, rest⟩
        rw [r2] at z
        cases z
        simp at r3
      · obtain ⟨bm, ob, b1, b2, b3, b4, b5, b6⟩ := hM
        refine ⟨bm, ob, b1, b2, fun q => ?_, fun q => ?_, sees b3 (plain b3 (fun vs n z => by rw [b6] at z; cases z) (fun z => by rw [b6] at z; cases z)), b4, b5, b6⟩
        · obtain ⟨o, es, ep, e, hd, _⟩ := hG
          rw [q, e] at b3
          cases b3
          rw [hd] at b6
          cases b6
        · rw [q, tabs p hp] at b3
          cases b3
          cases b6
      · obtain ⟨o, es, ep, e, hd, _⟩ := hG
        rw [z, tabs p hp] at e
        cases e
        cases hd
    have start : Env0 P w K mg (hidT s1.heap H) callerA [] s1 H := ⟨rfl, modB, fun b o e => of_hidT e, Nat.le_of_eq (hidT_size _ _), trivial, (fun b z => absurd (show b ∈ ([] : List Addr) from z) List.not_mem_nil), hok, .of_eq hg⟩
    refine codeAny_mono ((F _ inB (nsT hG) tabB).run callerA [] s1 H ⟨[.ref a], []⟩ [.ref a] [.ref a] _ _ callerG hr start (bind s1 (.ref a)) (.cons rfl .nil) (prom H hT hS)) fun r s2 res => ?_
    match r, res with
    | .error e, res => exact (none_ H e s2 res).elim
    | .ok .next, res => exact res.elim
    | .ok .brk, res => exact res.elim
    | .ok .cont, res => exact res.elim
    | .ok (.ret u), ⟨v, H2, os, bare, un, hok2, rv, q⟩ =>
      have qv : v = .bl true := q
      subst qv
      obtain rfl : u = Value.bool true := rv
      have old : ∀ {b : Addr} {o : Obj}, b ∉ TT → s1.heap.get? b = some o → s2.heap.get? b = some o := fun {b o} nb e => by
        cases hq : H b with
        | none => exact un.keep b o e hq (fun z => absurd (show b ∈ ([] : List Addr) from z) List.not_mem_nil) List.not_mem_nil
        | some u =>
          rcases what b u hq with ⟨_, ⟨ob, xs, rfl⟩, _⟩ | ⟨hb, _⟩
          · have e1 := (hok b _ hq).1
            have e2 := (hok2 b _ (un.frzs b ob _ hq)).1
            rw [e] at e1
            cases e1
            exact e2
          · exact absurd hb nb
      have more : ∀ p ∈ tb, ∃ m : Array Value, s2.heap.get? p.2 = some { cls := .none, data := .fields m } := fun p hp => by
        obtain ⟨m, z⟩ := un.tbls p.2 #[] (hT p hp)
        exact ⟨_, hok2 p.2 _ z⟩
      refine ⟨rfl, ⟨fun b o e => ?_, fun b o e => ?_⟩, os, bare⟩
      · by_cases hb : b ∈ TT
        · obtain ⟨p, hp, rfl⟩ := ofT hb
          obtain ⟨m, hm⟩ := more p hp
          rw [tabs p hp] at e
          cases e
          exact .inr (.inl ⟨((codes p hp).tab (tabs p hp)).isCodeTable, rfl, #[], m, rfl, by rw [Array.empty_append]; exact hm⟩)
        · exact .inl (old hb e)
      · by_cases hb : b ∈ TT
        · obtain ⟨p, hp, rfl⟩ := ofT hb
          obtain ⟨m, hm⟩ := more p hp
          exact ⟨_, hm⟩
        · exact ⟨o, old hb e⟩
  -- the heap as it is tracked in the beginning
  cases own : K.lookup a with
  | some o =>
    have e := hK a o own
    rw [scr] at e
    cases e
    refine go (fun b => if b ∈ TT then some (.tbl #[]) else none) (fun p hp => if_pos (inT p hp)) (fun b u h => ?_) (.inr ⟨_, us.toArray, _, own, rfl, rfl, rfl, by rw [List.size_toArray, lenU]; exact len, by simpa using rel⟩) (fun b u h => ?_)
    all_goals
      try dsimp only at h
      split at h
      · rename_i hb
        cases h
        first
          | exact .inr ⟨hb, rfl⟩
          | exact tabAt hb
      · cases h
  | none =>
    refine go (fun b => if b = a then some (.frz { cls := .type "list", data := .seq us.toArray } (.lst (ns.map V.int))) else if b ∈ TT then some (.tbl #[]) else none) (fun p hp => ?_) (fun b u h => ?_) (.inl (.inr ⟨{ cls := .type "list", data := .seq us.toArray }, if_pos rfl⟩)) (fun b u h => ?_)
    · try dsimp only
      rw [if_neg (show ¬ p.2 = a from fun z => scrT (z ▸ inT p hp)), if_pos (inT p hp)]
    · try dsimp only at h
      split at h
      · rename_i hb
        cases h
        exact .inl ⟨hb, ⟨_, _, rfl⟩, own⟩
      · split at h
        · rename_i hb
          cases h
          exact .inr ⟨hb, rfl⟩
        · cases h
    · try dsimp only at h
      split at h
      · rename_i hb
        cases h
        rw [hb]
        exact ⟨scr, by rw [List.length_map]; exact len, us, _, rel, scr⟩
      · split at h
        · rename_i hb
          cases h
          exact tabAt hb
        · cases h
/-- F is told the tables of the defs' code objects, too (all empty) -/
theorem walk_G {l : PySem.W.OpenLaw} {n k : Nat} {q : Program} {loose : List Str} {XP : (Str → Option Value) → Heap → Prop} {YP : World → Heap → Prop} {d : DefRec} {K : Params → PySem.W.Frag} {CX : World → CXT} {x : Str}
    (hn : l.most = some n) (hn2 : n ≤ sizeLine) (hdf : d.params.defaults = []) (hr : Room k callerA) (hY : ∀ (w : World) (h : Heap), YP w h → (K w.params).In h)
    (F : ∀ (w : World) (mg : Str → Option Value) (fa : Addr) (h : Heap), YP w h → (K w.params).In h → h.Ns mainGlobals mg → mg d.name = some (.ref fa) →
      (∀ e ∈ recsOf q, ∃ a o fd c P, mg e.name = some (.ref a) ∧ h.get? a = some o ∧ o.data = .func fd ∧ fd.code = .ref c ∧ h.IsCode c P #[] ∧ h.TableAt c P #[]) →
      ∃ (fd : FuncData) (tb : List (Addr × Addr)) (sp : Sp), (∀ p ∈ tb, h.get? p.2 = some { cls := .none, data := .fields #[] }) ∧ (∀ p ∈ tb, (K w.params).lookup p.2 = none) ∧ (∀ p ∈ tb, PySem.W.CodeHd h p.1 p.2) ∧ (∀ (s : Shared) (u : Value), BindsTo s fd ⟨[u], []⟩ [(x, u)]) ∧
        (∀ (H : Hp) (a : Addr) (ns : List Int), ns.length ≤ n → (∀ z ∈ ns, Builtin.Int.intBits z ≤ 1048576) → (∀ p ∈ tb, H p.2 = some (.tbl #[])) → SqL (K w.params) H a (ns.map V.int) → sp [.ref a] H (fun v _ => v = .bl true) fun _ _ _ => False) ∧
        ∀ base : Heap, (K w.params).In base → base.Ns mainGlobals mg → (∀ p ∈ tb, TabB base mg p.1 p.2) → FnOkG l.prog w (K w.params) mg base (CX w) k fa fd [x] sp)
    (hCX : ∀ (w : World) (H : Hp) (s : Shared) (e : Value) (s' : Shared), CX w [] H s (fun _ _ _ => False) e s' → False) : PySem.W.WalkO q loose XP YP l.row.toRowW d [] (fun f vs => PySem.call f vs) :=
  Att.attach_callB hn hdf fun w s0 s1 mg mb fa o pm cd doc a us ns G Y ho hd hcd hmg hobj areI len bits hg => by
    obtain ⟨fd, tb, sp, t1, t2, t3, hb, hsp, hF⟩ := F w mg fa _ Y (hY w _ Y) G.T.g hmg G.T.tab
    exact law_callG (hY w _ Y) G.T.g G.T.b G.T.builtins G.T.nolimit hg t1 t2 t3 G.T.bmain hobj areI (Nat.le_trans len hn2) hr hF hb (fun H hH hS => hsp H a ns len bits hH hS) fun H e s' => hCX w H s1 e s'
end RK

/-! told: try: got = act() / except (A, B, C) as e: return sort(e); behind it: return [word, got] -/
namespace RK
open PySem PySem.Spec PyProof.Rows L2 LamX
/-- what it makes of the reading of the lambda; spS: what sort promises -/
def TTold3 (K : PySem.W.Frag) (c1 c2 c3 : Value) (spS : Sp) (word : Str) : (XK → Hp → VK → Prop) → Hp → VK → Prop := fun tl H Q =>
  tl (fun cls d H' => ∃ b, exm3 K cls c1 c2 c3 = some b ∧
      (b = true → ∀ a oe, H' a = none → Zc cls d oe → (∃ vs, oe.data = .fields vs) → spS [.ref a] (upd H' a (ExE oe a)) (fun v H2 => H2 a = some (ExE oe a) ∧ Q v (delH H2 a)) C8.E0) ∧ (b = false → False)) H
    fun v H' => ∀ p, H' p = none → Q (.ref p) (upd H' p (.lst [.str word, v]))
section
variable {X : Cx}
/-- a reading, and what follows from its end -/
theorem pe_wk {e : Expr} {te : TE} (h : PE X e te) : PE X e (fun σ H Q => ∃ R : VK, te σ H R ∧ ∀ v H', R v H' → Q v H') :=
  ⟨fun pins s σ H Q I w => by
    obtain ⟨R, w1, w2⟩ := w
    exact wpAny_mono (h.run pins s σ H R I w1) (fun u s' z => by obtain ⟨v, H', I', r, q⟩ := z; exact ⟨v, H', I', r, w2 v H' q⟩) fun _ _ z => z⟩
theorem told_gives3 {x a got e srt word : Str} {x1 x2 x3 : Str} {sg : Scope} {g fS : Addr} {fdS : FuncData} {psS : List Str} {spS : Sp} {c1 c2 c3 cdg : Value} {q : Str} {j k kk : Nat} {n1 n2 n3 n4 n5 n6 n7 n8 n9 m1 m2 m3 m4 m5 m6 m7 m8 m9 : Pos}
    (hG : X.A.guards = some []) (hr : Room (k + 1) X.A) (F : FnS X.prog X.w X.K X.mg X.base C8.CX0 k fS fdS psS spS)
    (S : FnScope [a, got, e] [a] sg) (h1 : sg.names.lookup x1 = some .globalImplicit) (h2 : sg.names.lookup x2 = some .globalImplicit) (h3 : sg.names.lookup x3 = some .globalImplicit) (hs : sg.names.lookup srt = some .globalImplicit)
    (g1 : X.mg x1 = some c1) (g2 : X.mg x2 = some c2) (g3 : X.mg x3 = some c3) (gs : X.mg srt = some (.ref fS)) (ks : PySem.W.keepIn X.K (.ref fS) = true) (bs : L2.Binds X.K fdS psS [])
    (lg : sg.names.lookup got = some .local) (le : sg.names.lookup e = some .local)
    (d1 : (x1 == ("__debug__" : Str)) = false) (d2 : (x2 == ("__debug__" : Str)) = false) (d3 : (x3 == ("__debug__" : Str)) = false) (ds : (srt == ("__debug__" : Str)) = false)
    (de : (e == ("__debug__" : Str)) = false) (ce : (e == ("__classdict__" : Str)) = false) (dg : (got == ("__debug__" : Str)) = false) (cg : (got == ("__classdict__" : Str)) = false) :
    GivesTo X [a, got, e] x sg g cdg [.Try [.Assign [.Name got n1] (.Call (.Name a n2) [] [] n3) n4] [.ExceptHandler (some (.Tuple [.Name x1 n5, .Name x2 n6, .Name x3 n7] kk n8)) (some e) [.Return (some (.Call (.Name srt m1) [.Name e m2] [] m3)) m4] m5] [] [] m6, .Return (some (.List [.Constant (.str word) j m7, .Name got m8] m9)) n9] a q
      (TTold3 X.K c1 c2 c3 spS word) := by
  intro f c' s H Q tl act hc h
  refine ⟨_, pss_cons (ps_try_as3 (X := (cxOf C8.CX0 X.prog X.w X.K X.mg X.base [a, got, e] x sg g cdg X.A X.stack s H C8.E0).nox) (i := 2)
      (tb := fun W D σ H => ∃ Ech : XK, (∀ cls d σ' H', Ech cls d H' → W cls d σ' H') ∧ σ[0]? = some (some (.ref f)) ∧ H c' = some (CodeO c' q) ∧ ∃ R : VK, tl Ech H R ∧ ∀ v H1, R v H1 → D.nx (σ.set 1 (some v)) H1)
      (Wout := fun _ _ _ _ => False) rfl rfl S.nd rfl le ⟨h1, g1⟩ ⟨h2, g2⟩ ⟨h3, g3⟩ LamX.takes0 (fun W pn xe tk hp => ?_)
      (fun b oe cls d pn hB hz hf => pss_one (ps_ret (pe_exc (a := b) (oe := oe) (E := C8.E0) (List.mem_cons_self) hB F hG ?_ hs gs ks bs (fun _ _ _ _ z => z.elim) (pa_cons (pe_var (i := 2) rfl (.inl le) de ce) pa_nil) ds))) d1 d2 d3) (pss_one (ps_ret (pe_lst (pa_cons pe_str (pa_cons (pe_var (i := 1) rfl (.inl lg) dg cg) pa_nil))))), ?_⟩
  · refine ⟨fun pins s' σ H' D I h' => ?_⟩
    obtain ⟨Ech, hW, w1, w2, R, w3, w4⟩ := h'
    exact (pss_one (ps_set (i := 1) S.nd rfl (Or.inl lg) (pe_wk (act W pn xe Ech n2 n3 tk hW)))).run pins s' σ H' D I ⟨R, ⟨w1, w2, w3⟩, w4⟩
  · exact ⟨(hr.deeper (envOfC x sg s.heap.objs.size g cdg)).dp, (hr.deeper (envOfC x sg s.heap.objs.size g cdg)).un⟩
  · refine ⟨_, fun cls d σ' H' w => ?_, rfl, hc, _, h, fun v H1 w => ?_⟩
    · obtain ⟨b, e1, e2, e3⟩ := w
      refine ⟨b, e1, fun hb a' oe hl na hz hf => ?_, fun hb => (e3 hb).elim⟩
      refine ⟨.ref a', ?_, e2 hb a' oe na hz hf⟩
      rw [List.getElem?_set_self (by rw [hl]; show 2 < 3; decide)]
    · exact ⟨v, rfl, by show 2 ≤ sizeLine; decide, w⟩
end
end RK

/-! an own exception class over ValueError, from facts that are looked up -/
namespace RK
open PySem PySem.Spec PyProof.Rows L2
/-- the shape of its class object -/
def oexS (C : Addr) (cd : ClassData) (sl : Array (Option Value)) : Bool := match cd.mro, sl.toList with
  | .ref C' :: bm, [_, _, _, _, some (.builtin n), _] => decide (C' = C) && decide (n = "ValueError.__new__") && !cd.hasDel && cd.hasDict && PySem.HandSPX.refsVE bm
  | _, _ => false
theorem oex_mk {K : PySem.W.Frag} {C : Addr} {dd : Option Addr} {cd : ClassData} {sl : Array (Option Value)} (l : K.lookup C = some ⟨.type "type", dd, .cls cd, sl⟩) (y : oexS C cd sl = true)
    (sa : PySem.W.findIn K (.ref C) "__setattr__" = some (some (.builtin "object.__setattr__"))) (ex : PySem.W.subIn K (.ref C) (.type "BaseException") = some true) (ty : PySem.W.typeIn K (.ref C) = some (.type "type")) (kc : PySem.W.keepIn K (.ref C) = true) : OexC K C := by
  refine ⟨?_, sa, ex, ty, kc⟩
  unfold oexS at y
  split at y
  · rename_i C' bm k0 k1 k2 k3 n k5 em es
    obtain ⟨ls⟩ := sl
    dsimp only at es
    subst es
    obtain ⟨nm, bs, mro, ns, qn, hd, sn, sub, ab, col, del⟩ := cd
    dsimp only at em y
    subst em
    obtain ⟨y, rv⟩ := Bool.and_eq_true_iff.mp y
    obtain ⟨y, y1⟩ := Bool.and_eq_true_iff.mp y
    obtain ⟨y, y2⟩ := Bool.and_eq_true_iff.mp y
    obtain ⟨y3, y4⟩ := Bool.and_eq_true_iff.mp y
    obtain rfl := of_decide_eq_true y3
    obtain rfl := of_decide_eq_true y4
    cases hd with
    | false => cases y1
    | true =>
      cases del with
      | true => cases y2
      | false => exact ⟨nm, qn, ns, bs, bm, sn, sub, ab, col, dd, k0, k1, k2, k3, k5, l, rv⟩
  · cases y
/-- xs.count(True), xs a list of truths -/
def rCntB (K : PySem.W.Frag) : V → List V → Hp → VK → Prop := fun x xs H Q => ∃ (p : Addr) (bs : List Bool), x = .ref p ∧ xs = [.bl true] ∧ SqL K H p (bs.map V.bl) ∧ Q (.int (bs.count true : Nat)) H
def isTrue (v : Value) : Bool := match v with
  | .bool b => b == true
  | _ => false
theorem bools_of : ∀ {bs : List Bool} {us : List Value}, Vals (bs.map V.bl) us → us = bs.map Value.bool
  | [], _, .nil => rfl
  | b :: r, _, .cons h t => by
    cases h
    rw [bools_of t]
    rfl
theorem count_true : ∀ bs : List Bool, (bs.map Value.bool).countP isTrue = bs.count true
  | [] => rfl
  | b :: r => by
    rw [List.map_cons, List.countP_cons, List.count_cons, count_true r]
    cases b <;> rfl
theorem mt_countB {X : Cx} : MtR X "list.count" (rCntB X.K) := by
  intro pins s σ H x xs v us Q I rx rxs h
  obtain ⟨p, bs, rfl, rfl, hs, q⟩ := h
  cases rx
  obtain ⟨u, rfl, ru⟩ := rxs.one
  cases ru
  obtain ⟨its, rv, ⟨⟨cls, dd, data, sl⟩, n, ho, hc, _, hd⟩, _⟩ := I.list hs
  dsimp only at hc hd
  subst hc hd
  obtain rfl := bools_of rv
  refine call_meets PySem.F.slot_list_count ⟨_, ho, rfl⟩ PySem.F.entry_list_count (PySem.F.args_list_count_2 _ _) (SeqAt.list_countAt p _ n dd sl (.bool true) isTrue) ⟨ho, fun y hy => ?_, ?_⟩
  · obtain ⟨b, _, rfl⟩ := List.mem_map.mp (show y ∈ bs.map Value.bool by simpa using hy)
    exact SeqAt.EqAt.bool_bool b true
  · exact ⟨.int (bs.count true : Nat), H, I.tok _, ⟨s.toks, by show Value.int (((bs.map Value.bool).countP isTrue : Nat) : Int) s.toks = _; rw [count_true]⟩, q⟩
end RK

/-! str(x) of an instance whose class has an own __str__ -/
namespace RK
open PySem PySem.Spec PyProof.Rows L2
section
variable {prog : Program} {w : World} {A : Around} {E : Value → Shared → Prop} {s : Shared} {K : PySem.W.Frag} {x C f : Addr} {ox : Obj} {od : Option Obj}
theorem strOf_own {Q : Value → Shared → Prop} (hu : A.units < cLine) (KI : K.In s.heap) (I : PySem.W.InstAt s.heap x ox C od) (hs : PySem.W.findIn K (.ref C) "__str__" = some (some (.ref f))) (hf : PySem.W.isFn K (.ref f) = true)
    (h : wpAny (model prog w) A (call (.ref f) [.ref x]) (fun r s1 => ∃ y u, r = Value.str y u ∧ Q r s1) E s) : wpAny (model prog w) A (Builtin.Str.strOf (.ref x)) Q E s := by
  unfold Builtin.Str.strOf
  rw [show Builtin.Str.isExactStr (.ref x) = false from rfl, if_neg Bool.false_ne_true]
  refine wpAny_bind (m := cRoomFor _ _) (wpAny_cRoomFor hu (wpAny_bind (m := callSpecial? (.ref x) (Str.ofString "__str__")) (PySem.W.special_fn KI I hs (beq_iff_eq.mp hf) (wpAny_mono h (fun r s1 z => ?_) fun _ _ y => y))))
  obtain ⟨y, u, rfl, q⟩ := z
  exact wpAny_pure q
theorem str_ownI {Q : Value → Shared → Prop} (hu : A.in1.in1.units < cLine) (KI : K.In s.heap) (I : PySem.W.InstAt s.heap x ox C od) (hs : PySem.W.findIn K (.ref C) "__str__" = some (some (.ref f))) (hf : PySem.W.isFn K (.ref f) = true)
    (h : wpAny (model prog w) A.in1.in1 (call (.ref f) [.ref x]) (fun r s1 => ∃ y u, r = Value.str y u ∧ Q r s1) E s) : wpAny (model prog w) A (call (.type "str") [.ref x]) Q E s := by
  refine callType_codes (T := "str") (Bi := Builtin.«object.__init__») (Q₁ := fun r s1 => ∃ y u, r = Value.str y u ∧ Q r s1) PySem.F.called_str (PySem.F.typeCall_str_1 _) PySem.F.entry_object_init (codeAny_of_tree ?_) (fun obj s1 z => ?_)
  · show wpAny _ A.in1.in1 (do checkBuiltinCall "str.__new__" ⟨[.type "str", .ref x], []⟩; again (.builtin "str.__new__" ⟨[.type "str", .ref x], []⟩)) _ _ s
    refine wpAny_bind (wpAny_of_eq (PySem.F.newCall_str_1 _) (wpAny_pure ⟨plainId_quiet (by decide +kernel) _, codeAny_builtin PySem.F.entry_str_new ?_⟩))
    rw [Around.under_plainId (by decide +kernel) _, str_new_tree (.ref x)]
    refine wpAny_bind (wpAny_pure (wpAny_bind (wpAny_of_eq isSubtype_str_str (wpAny_bind (strOf_own hu KI I hs hf (wpAny_mono h (fun r s1 z => ?_) fun _ _ y => y))))))
    obtain ⟨y, u, rfl, q⟩ := z
    exact ⟨y, u, rfl, wpAny_pure ⟨y, u, rfl, q⟩⟩
  · obtain ⟨y, u, rfl, q⟩ := z
    exact ⟨typeIs_str _ _ _, PySem.F.args_object_init_2 _ _, object_init_meets PySem.F.called_str.init.lookup PySem.F.called_str.made (by decide) prog w A.in1 _ s1 ⟨typeIs_str _ _ _, rfl, q⟩⟩
end
section
variable {X : Cx} {CX : CXT} {n : Nat} {C f : Addr} {fd : FuncData} {ps : List Str} {sp : Sp} {E : XK}
/-- str(x), x an instance of the class at C -/
def rStrO (C : Addr) (sp : Sp) (E : XK) : List V → Hp → VK → Prop := fun xs H Q => ∃ p dx fs, xs = [.ref p] ∧ H p = some (.ins C dx fs) ∧ sp [.ref p] H (fun v H' => ∃ y, v = .str y ∧ Q (.str y) H') E
theorem cr_strO (hs : PySem.W.findIn X.K (.ref C) "__str__" = some (some (.ref f))) (hf : PySem.W.isFn X.K (.ref f) = true) (F : FnOk X.prog X.w X.K X.mg X.base CX n f fd ps sp) (hr : Room (n + 2) X.A) (hb : L2.Binds X.K fd ps []) (hx : Passes CX X E) :
    CallR X (.type "str") (rStrO C sp E) := by
  intro pins s σ H xs us Q I r h
  obtain ⟨p, dx, fs, rfl, hp, q⟩ := h
  obtain ⟨u, rfl, ru⟩ := vals1 r
  cases (show u = Value.ref p from ru)
  obtain ⟨od, J⟩ := inst_at I hp
  have hr2 : Room n X.A.in1.in1 := (Room.in1 (k := n + 1) hr).in1
  have hl := F.len _ _ _ _ q
  have rv : Vals [V.ref p] ([Value.ref p] ++ []) := .cons rfl .nil
  refine str_ownI (by have := hr2.un; omega) I.kIn J hs hf (wpAny_call (codeAny_mono (F.run X.A.in1.in1 X.stack s H ⟨[.ref p], []⟩ ([Value.ref p] ++ []) [.ref p] _ E hr2 I.env0.in1.in1 (hb s [Value.ref p] I.kIn (by rw [List.append_nil]; exact hl)) rv q) fun res s' hq => ?_))
  match res, hq with
  | .error er, hq => exact hx pins σ H s er s' I hq
  | .ok (.ret v), hq =>
    obtain ⟨z, H', I', rz, y, rfl, qz⟩ := I.after hq
    obtain ⟨t, rfl⟩ := rz
    exact ⟨y, t, rfl, .str y, H', I', ⟨t, rfl⟩, qz⟩
  | .ok .next, hq => exact hq.elim
  | .ok .brk, hq => exact hq.elim
  | .ok .cont, hq => exact hq.elim
end
end RK

/-! C.m(e, ..) where m is a staticmethod of the class at C -/
namespace RK
open PySem PySem.Spec PyProof.Rows L2
structure SMet (K : PySem.W.Frag) (C : Addr) (mc : Value) (m : Str) (p g : Addr) : Prop where
  at_ : PySem.W.findCls K (.ref C) mc m = some (.get (.builtin "staticmethod.__get__") (.ref p) .none (.ref C))
  rc : ∃ rest, PySem.W.recIn K p "staticmethod" = some (.ref g :: rest)
  rd : PySem.W.readsIn K C mc = true
  ga : PySem.W.specialIn K (.ref C) "__getattribute__" = some (some (.builtin "type.__getattribute__"))
  kp : PySem.W.keepIn K (.ref g) = true
def tSMeth (C : Addr) (sp : Sp) (E : XK) (ta : TE) (t : TA) : TE := fun σ H Q => ta σ H fun x H1 => x = .ref C ∧ t σ H1 fun vs H2 => sp vs H2 Q E
section
variable {X : Cx} {CX : CXT} {k : Nat} {C p g : Addr} {mc : Value} {m : Str} {fd : FuncData} {ps : List Str} {sp : Sp} {E : XK} {o e : Expr} {es : List Expr} {ta : TE} {t : TA} {apos pos : Pos}
theorem pe_smeth {pl : Sem Bool} (he : PE X o ta) (c : SMet X.K C mc m p g) (F : FnOk X.prog X.w X.K X.mg X.base CX k g fd ps sp) (hr : Room k X.A) (hb : L2.Binds X.K fd ps []) (hx : Passes CX X E) (ha : PA X (e :: es) t)
    (hst : starEach (e :: es) X.env = (false, eval e X.env) :: starEach es X.env := by rfl) (hpl : (backTo pos (starEach es X.env)).any (·.1) = false := by rfl)
    (ht : eval (.Call (.Attribute o m apos) (e :: es) [] pos) X.env = (do
      let ov ← eval o X.env
      standAt apos.atName
      let (f, first) ← holding [ov] (getMethod ov m pl)
      callWith pos f first (backTo pos (starEach (e :: es) X.env)) (backToKw pos (keywordEach [] X.env))) := by rfl) :
    PE X (.Call (.Attribute o m apos) (e :: es) [] pos) (tSMeth C sp E ta t) := by
  refine ⟨fun pins s σ H Q I h => PySem.W.methodCall_KW (pl := pl) (thn (he.run pins s σ H _ I h) fun u s1 hh => ?_) ht⟩
  obtain ⟨x, H1, I1, rx, rfl, q⟩ := hh
  obtain rfl : u = Value.ref C := rx
  obtain ⟨rest, hp⟩ := c.rc
  refine PySem.W.method_cls I1.kIn c.ga (PySem.W.cls_bind I1.kIn c.rd c.at_ (wpAny_call (PySem.W.sm_get (s := { s1 with toks := s1.toks + 1 }) I1.kIn hp (PySem.W.handed_on rfl ?_))))
  have I2 := I1.kept (h' := s1.heap) (t' := s1.toks + 1) fun _ _ z => z
  refine PySem.W.callWith_K (h₀ := X.base) I2.ok.mod.kin c.kp (thn (ha.run pos pins _ σ H1 _ I2 q) fun us s3 hh => ?_) hst hpl
  obtain ⟨vs, H2, I3, rv, q2⟩ := hh
  exact ⟨I3.kIn, run_fn F hr hb .nil hx I3 rv (by rw [List.append_nil]; exact q2)⟩
/-- C.m(k = v, ..) -/
def tSMethK (C : Addr) (ks : List Str) (sp : Sp) (gV : List V → List V → List V) (E : XK) (ta : TE) (tk : TA) : TE := fun σ H Q => ta σ H fun x H1 => x = .ref C ∧ tk σ H1 fun zs H2 => zs.length = ks.length ∧ sp (gV [] zs) H2 Q E
theorem pe_smethK {pl : Sem Bool} {kws : List Keyword} {ks : List Str} {gg : List Value → List Value → List Value} {gV : List V → List V → List V} {tk : TA} (he : PE X o ta) (c : SMet X.K C mc m p g) (F : FnOk X.prog X.w X.K X.mg X.base CX k g fd ps sp) (hr : Room k X.A) (hb : KBn X.K fd ps 0 ks gg gV) (hx : Passes CX X E) (hkw : PK X kws tk)
    (hall : (backToKw pos (keywordEach kws X.env)).all (·.1.isSome) = true := by rfl) (hks : (backToKw pos (keywordEach kws X.env)).filterMap (·.1) = ks := by rfl)
    (hpl : ((backTo pos (starEach [] X.env)).any (·.1) || (backToKw pos (keywordEach kws X.env)).any (·.1.isNone)) = false := by rfl)
    (ht : eval (.Call (.Attribute o m apos) [] kws pos) X.env = (do
      let ov ← eval o X.env
      standAt apos.atName
      let (f, first) ← holding [ov] (getMethod ov m pl)
      callWith pos f first (backTo pos (starEach [] X.env)) (backToKw pos (keywordEach kws X.env))) := by rfl) :
    PE X (.Call (.Attribute o m apos) [] kws pos) (tSMethK C ks sp gV E ta tk) := by
  refine ⟨fun pins s σ H Q I h => PySem.W.methodCall_KW (pl := pl) (thn (he.run pins s σ H _ I h) fun u s1 hh => ?_) ht⟩
  obtain ⟨x, H1, I1, rx, rfl, q⟩ := hh
  obtain rfl : u = Value.ref C := rx
  obtain ⟨rest, hp⟩ := c.rc
  refine PySem.W.method_cls I1.kIn c.ga (PySem.W.cls_bind I1.kIn c.rd c.at_ (wpAny_call (PySem.W.sm_get (s := { s1 with toks := s1.toks + 1 }) I1.kIn hp (PySem.W.handed_on rfl ?_))))
  have I2 := I1.kept (h' := s1.heap) (t' := s1.toks + 1) fun _ _ z => z
  refine PySem.W.callWith_KW0 (first := []) (h₀ := X.base) I2.ok.mod.kin c.kp hall (thn (hkw.run pos pins _ σ H1 _ I2 q) fun ws s3 hh => ?_) hpl
  obtain ⟨zs, H2, I3, rz, l2, q2⟩ := hh
  refine ⟨I3.kIn, ?_⟩
  rw [hks]
  exact run_fnN (us := []) (vs := []) F hr hb hx I3 .nil rz rfl l2 q2
end
end RK

/-! a token that is out, carried through a for, a test and a comprehension; s.replace(y, z, 1) -/
namespace RK
open PySem PySem.Spec PyProof.Rows L2
section
variable {P : Program} {w : World} {K : PySem.W.Frag} {mg : Str → Option Value} {base : Heap} {CX : CXT} {k : Nat} {f : Addr} {fd : FuncData} {N ps : List Str} {sp : Sp} {x qual : Str} {st : Stmt}
/-- a def whose body may use that a token is out -/
theorem funT (F : Fun K x qual st f fd) (S : FnScope N ps (defScope st)) (hn : ∀ y ∈ (defScope st).names, y.2 ≠ .cell) (hp : 1 ≤ ps.length) (len : ∀ vs H Q E, sp vs H Q E → vs.length = ps.length)
    (body : ∀ (cdv : Value) (A : Around) (outer : List Env) (s : Shared) (H : Hp) (vs : List V) (Q : VK) (E : XK), Room k (A.deeper (envOfC qual (defScope st) s.heap.objs.size f cdv)) → sp vs H Q E →
      ∃ t, PSsT (cxOf CX P w K mg base N qual (defScope st) f cdv A outer s H E).nox (defBody st) t ∧ t { nx := fun _ H' => Q .non H', rt := Q } (L2.start N vs) H) : FnOk P w K mg base CX (k + 1) f fd ps sp := by
  obtain ⟨oc, od, kV, doc, pm, an, cdv, ct, osl, rfl, lk, hcd⟩ := F.ex
  exact fn_ofT lk hcd S hn hp len fun A outer s H vs Q E hr q => by
    obtain ⟨t, h1, h2⟩ := body cdv A outer s H vs Q E hr q
    exact ⟨t, fun pins s σ H D h0 I hw => wpAny_mono (h1 pins s σ H D h0 (I.wish _) hw) (fun _ _ q => q.unwish) fun _ _ z => False.elim z, h2⟩
end
/-! ### replace, once -/
def rep1 (x y z : Str) : Str := if ((Builtin.Str.occurrences x y 0 x.length 1).isEmpty || (y.length == 0 && z.length == 0)) = true then x else Builtin.Str.glued z (Builtin.Str.partsBetween x (Builtin.Str.occurrences x y 0 x.length 1) y.length)
def tRep1 (to : TE) (y z : Str) : TE := fun σ H Q => to σ H fun v H1 => ∃ x, v = .str x ∧ x.length ≤ 10000 ∧ Q (.str (rep1 x y z)) H1
theorem gives_rep1 (x y z : Str) (t u v c : Tok) (h0 : (u == 0 || v == 0) = false) (h1 : (u == v) = false) (h2 : (y == z) = false) (h3 : Builtin.Str.tooLong (x.length + (Builtin.Str.occurrences x y 0 x.length 1).length * z.length) = false) :
    Gives (Builtin.«str.replace» ⟨[.str x t, .str y u, .str z v, .int 1 c], []⟩) (if ((Builtin.Str.occurrences x y 0 x.length 1).isEmpty || (y.length == 0 && z.length == 0)) = true then .val (.str x t) else .str (Builtin.Str.glued z (Builtin.Str.partsBetween x (Builtin.Str.occurrences x y 0 x.length 1) y.length))) := by
  have e : Builtin.«str.replace» ⟨[.str x t, .str y u, .str z v, .int 1 c], []⟩ = (if ((Builtin.Str.occurrences x y 0 x.length 1).isEmpty || (y.length == 0 && z.length == 0)) = true then (do rule "str.replace.nothing"; ret (.str x t)) else
      (do let same ← isSame (.str y u) (.str z v)
          if same = true then (do rule "str.replace.old-is-new"; ret (.str x t)) else
          if Builtin.Str.tooLong (x.length + (Builtin.Str.occurrences x y 0 x.length 1).length * z.length) = true then unsupported "str.replace:memory" else
          retStr (Builtin.Str.glued z (Builtin.Str.partsBetween x (Builtin.Str.occurrences x y 0 x.length 1) y.length)))) := by
    show (do let limit ← Builtin.Str.countLimit "str.replace" (some (.int 1 c)) (x.length + 1); _) = _
    rw [countLimit_int "str.replace" 1 c (x.length + 1) (by decide)]
    rfl
  rw [e]
  cases hc : ((Builtin.Str.occurrences x y 0 x.length 1).isEmpty || (y.length == 0 && z.length == 0))
  · rw [isSame_str_other y z u v h0 h1 h2, h3]
    exact .of_eq rfl
  · exact .rule (.of_eq rfl)
theorem glued1_len (x y z : Str) : (Builtin.Str.glued z (Builtin.Str.partsBetween x (Builtin.Str.occurrences x y 0 x.length 1) y.length)).length ≤ x.length + z.length := by
  have self := congrArg Str.length (StrLaws.glued_between_self x y 1)
  rw [size_glued, length_partsBetween] at self
  rw [size_glued, length_partsBetween]
  have few := StrLaws.occ_length_le x y 0 x.length 1
  rw [Nat.add_sub_cancel] at self ⊢
  have cut : (Builtin.Str.occurrences x y 0 x.length 1).length * z.length ≤ 1 * z.length := Nat.mul_le_mul_right _ few
  omega
theorem thnT {α : Type} {t : Sem α} {Q Q' : α → Shared → Prop} {M : Model} {A : Around} {E : Value → Shared → Prop} {s : Shared} {n : Nat} (hn : n ≤ s.toks) (h : wpAny M A t Q E s) (k : ∀ a s', n ≤ s'.toks → Q a s' → Q' a s') : wpAny M A t Q' E s :=
  wpAny_mono (wpAny_toks_of hn h) (fun a s' z => k a s' z.1 z.2) fun _ _ z => z.2
section
variable {X : Cx} {o e : Expr} {to te : TE} {y z : Str} {j k l : Nat} {c0 c1 c2 apos pos : Pos}
theorem pet_rep1 (ho : PE X o to) (hyz : (y == z) = false := by decide) (hz : z.length ≤ 100 := by decide)
    (hst : starEach [.Constant (.str y) j c0, .Constant (.str z) k c1, .Constant (.int 1) l c2] X.env = [(false, eval (.Constant (.str y) j c0) X.env), (false, eval (.Constant (.str z) k c1) X.env), (false, eval (.Constant (.int 1) l c2) X.env)] := by rfl)
    (hb : attributeBase o "replace" X.env (eval o X.env) = eval o X.env := by rfl) (hl : (apos.endLine == pos.line) = true := by rfl)
    (hf : ((backTo pos (starEach [.Constant (.str y) j c0, .Constant (.str z) k c1, .Constant (.int 1) l c2] X.env)).all (fun x => !x.1) && (backToKw pos (keywordEach [] X.env)).all (fun x => x.1.isSome) && decide ([(Expr.Constant (.str y) j c0), .Constant (.str z) k c1, .Constant (.int 1) l c2].length + ([] : List Keyword).length + (if ([] : List Keyword).isEmpty then 0 else 1) < 30)) = true := by rfl) :
    PET X (.Call (.Attribute o "replace" apos) [.Constant (.str y) j c0, .Constant (.str z) k c1, .Constant (.int 1) l c2] [] pos) (tRep1 to y z) := by
  intro pins s σ H Q h0 I h
  refine wpAny_Call_method_late hb hf hl rfl (thnT h0 (ho.run pins s σ H _ I h) fun v s1 t1 q => ?_)
  obtain ⟨v', H1, I1, r1, x, rfl, hx, q⟩ := q
  obtain ⟨tx, rfl⟩ := r1
  rw [hst]
  refine ⟨"str", _, PySem.F.plainAttrs_str, PySem.F.slot_str_replace, PySem.F.type_str_replace, typeIs_str _ _ _, (fun _ e => nomatch e), Calls.callWith_builtin rfl (Calls.evalArgs_plain ?_)⟩
  show wpAny _ _ (spliced [(false, eval (.Constant (.str y) j c0) X.env), (false, eval (.Constant (.str z) k c1) X.env), (false, eval (.Constant (.int 1) l c2) X.env)]) _ _ _
  refine Calls.spliced_cons (Calls.Constant_str (Calls.spliced_cons (Calls.Constant_str (Calls.spliced_cons (wpAny_Constant_int (Calls.spliced_nil ?_))))))
  have hlong : Builtin.Str.tooLong (x.length + (Builtin.Str.occurrences x y 0 x.length 1).length * z.length) = false := by
    have h1 := StrLaws.occ_length_le x y 0 x.length 1
    have h2 : (Builtin.Str.occurrences x y 0 x.length 1).length * z.length ≤ 1 * z.length := Nat.mul_le_mul_right _ h1
    unfold Builtin.Str.tooLong sizeLine
    exact decide_eq_false (by omega)
  refine call_gives F.slot_str_replace (typeIs_str _ _ _) F.entry_str_replace (F.args_str_replace_4 _ _ _ _) (gives_rep1 x y z tx _ _ _ ?_ ?_ hyz hlong) ?_
  · have a1 : s1.toks ≠ 0 := by omega
    have a2 : s1.toks + 1 ≠ 0 := by omega
    simp [a1, a2]
  · have a3 : s1.toks ≠ s1.toks + 1 := by omega
    simp [a3]
  · unfold rep1 at q
    split
    · rename_i c
      rw [if_pos c] at q
      exact ⟨.str x, H1, I1.tok _, ⟨tx, rfl⟩, q⟩
    · rename_i c
      rw [if_neg c] at q
      refine ⟨?_, ⟨.str _, H1, I1.tok _, ⟨_, rfl⟩, q⟩⟩
      have hg := glued1_len x y z
      show _ ≤ sizeLine
      unfold sizeLine
      omega
end
/-! ### for, a token out ahead of each turn -/
section
variable {X : Cx}
theorem pst_forT {tg iter : Expr} {body : List Stmt} {wi : TI} {g : TG} {tb : TS} {pos : Pos} (hp : PassesOwn (model X.prog X.w) X.A X.env X.xe) (hc : X.calm = true) (hi : PI X tg iter wi) (hg : PG X tg g) (hb : PSsT X body tb)
    (hs : ∀ x, foldedSetIterable iter X.env x = pure x := by intro _; rfl) : PST X (.For tg iter body [] pos) (tFor wi g tb) := by
  intro pins s σ H D h0 I h
  refine wpAny_For (thnT h0 (hi.run pins s σ H _ I h) fun v s1 t1 hv => thnT t1 hv fun itv s2 t2 hx => ?_) hs
  obtain ⟨it, fp, tn, J, H2, rfl, I2, T, b2, f2, W, ⟨m0, w0⟩, turn⟩ := hx
  have free_ : ∀ {H' : Hp}, (∀ b ∈ fp, H' b = none) → ∀ b ∈ fp, FpOk X pins H' b := fun n b m => ⟨n b m, (f2 b m).2⟩
  refine codeAny_forLoop_any (fun n z => 1 ≤ z.toks ∧ ∃ i τ G, Inv X pins τ G z ∧ tn i z.heap ∧ (∀ b ∈ fp, G b = none) ∧ W i n τ G) (fun n z hz => ?_) m0 ⟨t2, 0, σ, H2, I2, b2, fun b m => (f2 b m).1, w0⟩
  obtain ⟨tz, i, τ, G, J3, b3, n3, w3⟩ := hz
  have back : ∀ {z' y' : Shared} {τ' : L2.St} {G' : Hp} {N : L2.St → Hp → Prop}, 1 ≤ z'.toks → tn (i + 1) y'.heap → (∀ σ H, N σ H → ∃ m', m' < n ∧ W (i + 1) m' σ H) → Inv X (pins ++ pinsAt fp y'.heap) τ' G' z' → N τ' G' →
      ∃ m, m < n ∧ 1 ≤ z'.toks ∧ ∃ i τ G, Inv X pins τ G z' ∧ tn i z'.heap ∧ (∀ b ∈ fp, G b = none) ∧ W i m τ G := fun {z' y' τ' G' N} tz' by' hN J' nn => by
    obtain ⟨m', hm, w'⟩ := hN _ _ nn
    have at_ : ∀ b ∈ fp, ∀ ob, y'.heap.get? b = some ob → z'.heap.get? b = some ob ∧ G' b = none := fun b mb ob eb => by
      have q := J'.pin (b, ob) (List.mem_append_right _ (List.mem_append_right _ (mem_pinsAt mb eb)))
      exact ⟨q.1, q.2.1⟩
    refine ⟨m', hm, tz', i + 1, τ', G', J'.unpinned, T.keep _ _ _ by' fun b mb ob eb => (at_ b mb ob eb).1, fun b mb => ?_, w'⟩
    obtain ⟨ob, eb, _⟩ := T.obj _ _ by' b mb
    exact (at_ b mb ob eb).2
  rcases turn i n τ G w3 with ⟨stop, qn⟩ | ⟨go, N, hN, step⟩
  · refine wpAny_passesOwn hp (thn (T.done X rfl rfl rfl hc i pins z τ G X.xe J3 (free_ n3) b3 stop) fun r z1 hr => ?_)
    obtain ⟨rfl, J4⟩ := hr
    exact wpAny_execs_nil ⟨τ, G, J4, qn⟩
  · refine wpAny_passesOwn hp (thnT tz (T.item X rfl rfl rfl hc i pins z τ G X.xe J3 (free_ n3) b3 go) fun r z1 t4 hr => ?_)
    obtain ⟨u, rfl, hu⟩ := hr
    refine wpAny_passesOwn hp (thnT t4 hu fun _ z2 t5 hx => ?_)
    obtain ⟨x, G5, J5, r5, y5, b5, n5⟩ := hx
    have J5' := J5.pinned (free_ n5) (T.obj _ _ b5)
    refine wpAny_passesOwn hp (thnT t5 (hg.run _ z2 τ G5 x u _ J5' r5 (step x G5 y5)) fun _ z3 t6 hx => ?_)
    obtain ⟨τ6, G6, J6, q6⟩ := hx
    refine wpAny_passesOwn hp (thnT t6 (hb _ z3 τ6 G6 _ t6 J6 q6) fun fl z4 t7 q7 => ?_)
    cases fl with
    | next => obtain ⟨τ7, G7, J7, n7⟩ := q7; exact back t7 b5 hN J7 n7
    | cont => obtain ⟨τ7, G7, J7, n7⟩ := q7; exact back t7 b5 hN J7 n7
    | brk => obtain ⟨τ7, G7, J7, q7⟩ := q7; exact ⟨τ7, G7, J7.unpinned, q7⟩
    | ret v => obtain ⟨x7, τ7, G7, J7, r7, q7⟩ := q7; exact ⟨x7, τ7, G7, J7.unpinned, r7, q7⟩
end
/-! ### a comprehension over a text whose reckoning wants a token -/
section
variable {X : Cx}
theorem pet_lcS {elt tg iter : Expr} {ifs : List Expr} {scope : Scope} {own : List (Str × Nat)} {pos : Pos} {ti : TE} {g : TG} {tt : TT} {te : TE} (hc : X.calm = true) (hN : X.N.Nodup) (hi : PET X iter ti) (ok : BlkOk X.N X.env.scope scope own)
    (hg : ∀ s H C cl fp, PG (X.blk s H scope (compEnvC scope cl C X.env) fp) tg g) (ht : ∀ s H C cl fp, PTs (X.blk s H scope (compEnvC scope cl C X.env) fp) ifs tt) (he : ∀ s H C cl fp, PE (X.blk s H scope (compEnvC scope cl C X.env) fp) elt te)
    (hs : ∀ x, foldedSetIterable iter X.env x = pure x := by intro _; rfl) : PET X (.ListComp elt [⟨tg, iter, ifs, 0⟩] scope pos) (tLc (iStr ti) g tt te (own.map (·.2))) := by
  intro pins s σ H Q h0 I h
  rw [eval_ListComp]
  have closed := closure_ok (scope := scope) (env := X.env) fun y hy e => (ok.free y hy e).elim (fun c => I.ok.has _ (.inl c)) fun c => I.ok.has _ (.inr c)
  refine wpAny_comprehension_free (use := none) rfl hs closed ok.kind (fun y hy e => (ok.uniq y hy).trans (by rw [e])) (thn (hi pins s σ H _ h0 I h) fun v s1 hv => ?_)
  obtain ⟨_, H1, I1, r1, x, rfl, q⟩ := hv
  obtain ⟨t, rfl⟩ := r1
  have rest : ∀ itv s2, PIE X pins σ tg (fun J G => ∀ D, G D = none → ∃ W : Nat → Nat → Hp → Prop, (∃ m, W 0 m (upd G D (.lst []))) ∧ ∀ i m F, W i m F →
      (J.stop i F ∧ Q (.ref D) F) ∨ (J.go i F ∧ ∃ Nx : Hp → Prop, (∀ F', Nx F' → ∃ m', m' < m ∧ W (i + 1) m' F') ∧ ∀ x F', J.yld i F x F' → g x (wipe σ (own.map (·.2))) F' fun σ2 F2 => wipe σ2 (own.map (·.2)) = wipe σ (own.map (·.2)) ∧ tt σ2 F2 fun b F3 =>
        if b = true then te σ2 F3 fun y F4 => ∃ acc, F4 D = some (.lst acc) ∧ acc.length < sizeLine ∧ Nx (upd F4 D (.lst (acc ++ [y]))) else Nx F3)) itv s2 →
      wpAny (model X.prog X.w) X.A (newList []) (fun acc s3 => wpAny (model X.prog X.w) X.A (newFunctionEnv scope X.env.globals (cloFrom X.env.cells scope.names []) [] X.env.qual none .none (some X.env)) (fun cenv s4 =>
        codeAny (model X.prog X.w) X.A (.compStart (.ListComp elt [⟨tg, iter, ifs, 0⟩] scope pos) 0 itv acc { cenv with scope := relabel scope X.env }) (compPost (model X.prog X.w) X.A X.xe none (EP X pins σ Q) acc cenv.locals) s4) X.xe s3) X.xe s2 := by
    intro itv s2 hP
    obtain ⟨it, fp, tn, J, H2, rfl, I2, T, b2, f2, q⟩ := hP
    refine wpAny_newObj_type (newEnv_comp ?_) (Nat.zero_le _)
    have nD : H2 s2.heap.objs.size = none := I2.hok.fresh (Nat.le_refl _)
    obtain ⟨W, ⟨m0, w0⟩, turn⟩ := q _ nD
    have I3 : Inv X pins σ (upd H2 s2.heap.objs.size (.lst [])) { s2 with heap := s2.heap.push { cls := .type "list", data := .seq ([] : List Value).toArray } } :=
      I2.laid (t' := s2.toks) (fun b o e => Heap.get?_push_of_some _ e) (Nat.le_refl _) ⟨Nat.zero_le _, [], 0, .nil, Heap.get?_push_size _ rfl⟩
    have old : ∀ b ∈ fp, b < s2.heap.objs.size := fun b hb => by
      obtain ⟨o, e, _⟩ := T.obj _ _ b2 b hb
      exact Heap.lt_size e
    have b3 : tn 0 (s2.heap.push { cls := .type "list", data := .seq ([] : List Value).toArray }) := T.keep _ _ _ b2 fun b _ o e => Heap.get?_push_of_some _ e
    have f3 : ∀ b ∈ fp, FpOk X pins (upd H2 s2.heap.objs.size (.lst [])) b := fun b hb => ⟨by rw [upd_ne (Nat.ne_of_lt (old b hb))]; exact (f2 b hb).1, (f2 b hb).2⟩
    have l3 : ∀ b ∈ fp, b < (s2.heap.push { cls := .type "list", data := .seq ([] : List Value).toArray }).objs.size := fun b hb => by
      rw [Heap.size_push]
      exact Nat.lt_succ_of_lt (old b hb)
    generalize s2.heap.objs.size = D at *
    show codeAny _ _ _ _ { ({ s2 with heap := s2.heap.push { cls := .type "list", data := .seq ([] : List Value).toArray } } : Shared) with heap := pushCells ((s2.heap.push { cls := .type "list", data := .seq ([] : List Value).toArray }).push { cls := .type "dict", data := .dict #[] }) scope.names }
    generalize hs3 : ({ s2 with heap := s2.heap.push { cls := .type "list", data := .seq ([] : List Value).toArray } } : Shared) = s3 at I3 ⊢
    have hh : s2.heap.push { cls := .type "list", data := .seq ([] : List Value).toArray } = s3.heap := by rw [← hs3]
    rw [hh] at b3 l3 ⊢
    generalize upd H2 D (.lst []) = H3 at *
    have I4 := block_start I3 ok hN fun b hb => ⟨f3 b hb, l3 b hb⟩
    have G_ := hg s3 H3 s3.heap.objs.size (cellsFrom (s3.heap.objs.size + 1) scope.names (cloFrom X.env.cells scope.names [])) fp
    have T_ := ht s3 H3 s3.heap.objs.size (cellsFrom (s3.heap.objs.size + 1) scope.names (cloFrom X.env.cells scope.names [])) fp
    have E_ := he s3 H3 s3.heap.objs.size (cellsFrom (s3.heap.objs.size + 1) scope.names (cloFrom X.env.cells scope.names [])) fp
    show codeAny _ _ (.compStart _ 0 (.ref it) (.ref D) (compEnvC scope (cellsFrom (s3.heap.objs.size + 1) scope.names (cloFrom X.env.cells scope.names [])) s3.heap.objs.size X.env)) (compPost _ _ _ none (EP X pins σ Q) (.ref D) s3.heap.objs.size) { s3 with heap := pushCells (s3.heap.push { cls := .type "dict", data := .dict #[] }) scope.names }
    have here : (compEnvC scope (cellsFrom (s3.heap.objs.size + 1) scope.names (cloFrom X.env.cells scope.names [])) s3.heap.objs.size X.env).locals = s3.heap.objs.size := rfl
    generalize compEnvC scope (cellsFrom (s3.heap.objs.size + 1) scope.names (cloFrom X.env.cells scope.names [])) s3.heap.objs.size X.env = ce at I4 G_ T_ E_ here ⊢
    have b4 : tn 0 (pushCells (s3.heap.push { cls := .type "dict", data := .dict #[] }) scope.names) := T.keep _ _ _ b3 fun b _ o e => pushCells_keeps _ _ _ _ (Heap.get?_push_of_some _ e)
    generalize hs4 : ({ s3 with heap := pushCells (s3.heap.push { cls := .type "dict", data := .dict #[] }) scope.names } : Shared) = s4 at I4 ⊢
    have b4' : tn 0 s4.heap := by rw [← hs4]; exact b4
    have its_ : ∀ {τ : L2.St} {G : Hp} {z : Shared}, Inv (X.blk s3 H3 scope ce fp) [] τ G z → (∀ b ∈ fp, G b = none) → ∀ b ∈ fp, FpOk (X.blk s3 H3 scope ce fp) [] G b := fun J n b hb =>
      ⟨n b hb, (J.ok.exf b hb).1, J.ok.exfs b hb, .inl hb, fun c d e => (J.ok.exf b hb).2 c d e, fun p hp => by cases hp⟩
    refine codeAny_compStart_list ?_ (T.self X.A 0 _ _ _ b4' ?_)
    all_goals
      refine compLoop_any (fun n z => ∃ i G, Inv (X.blk s3 H3 scope ce fp) [] (wipe σ (own.map (·.2))) G z ∧ tn i z.heap ∧ (∀ b ∈ fp, G b = none) ∧ W i n G) (fun n z hz => ?_) m0 ⟨0, H3, I4, b4', fun b hb => (f3 b hb).1, w0⟩
      obtain ⟨i, G, J5, b5, n5, w5⟩ := hz
      rcases turn i n G w5 with ⟨stop, qq⟩ | ⟨go, Nx, hNx, step⟩
      · refine thnF (T.done (X.blk s3 H3 scope ce fp) rfl rfl rfl hc i [] z _ G (fun _ _ => False) J5 (its_ J5 n5) b5 stop) fun r z6 hr => ?_
        obtain ⟨rfl, J6⟩ := hr
        have out : Inv X pins σ G z6 := I3.call' (ch := fp) J6.os J6.base J6.hok J6.bare fun b hb => let f := f3 b hb; ⟨f.2.2.2.1, f.2.1, f.2.2.2.2.1, f.2.2.2.2.2⟩
        have gone : G s3.heap.objs.size = none := by rw [← here]; exact J6.free
        obtain ⟨m, names, _⟩ := J6.loc
        obtain ⟨p0, p1, _, p3, p4, p5⟩ := I3.fpOk (H' := G) (Nat.le_refl _) gone
        refine ⟨m, by rw [← here]; exact names, fun hp sb => ⟨.ref D, G, out.turned (t' := z6.toks) (fun b o nb e => (sb.2 b nb).trans e) p0 p1 p3 p4 p5, rfl, qq⟩⟩
      · refine thnF (T.item (X.blk s3 H3 scope ce fp) rfl rfl rfl hc i [] z _ G (fun _ _ => False) J5 (its_ J5 n5) b5 go) fun r z6 hr => ?_
        obtain ⟨u, rfl, hu⟩ := hr
        refine thnF hu fun _ z7 hx => ?_
        obtain ⟨y, G7, J7, r7, y7, b7, n7⟩ := hx
        have J7' := J7.pinned (its_ J7 n7) (T.obj _ _ b7)
        refine thnF (G_.run _ z7 _ G7 y u _ J7' r7 (step y G7 y7)) fun _ z8 hx => ?_
        obtain ⟨τ8, G8, J8, e8, q8⟩ := hx
        refine thnF (T_.run _ z8 τ8 G8 _ J8 q8) fun b z9 hx => ?_
        obtain ⟨G9, J9, q9⟩ := hx
        have turn_ : ∀ {z' : Shared} {G' : Hp}, Inv (X.blk s3 H3 scope ce fp) ([] ++ pinsAt fp z7.heap) τ8 G' z' → Nx G' → ∃ m, m < n ∧ ∃ i G, Inv (X.blk s3 H3 scope ce fp) [] (wipe σ (own.map (·.2))) G z' ∧ tn i z'.heap ∧ (∀ b ∈ fp, G b = none) ∧ W i m G := fun {z' G'} J' nx => by
          obtain ⟨m', hm, w'⟩ := hNx G' nx
          have at_ : ∀ b ∈ fp, ∀ o, z7.heap.get? b = some o → z'.heap.get? b = some o ∧ G' b = none := fun b hb o e => by
            have p := J'.pin (b, o) (List.mem_append_right _ (List.mem_append_right _ (mem_pinsAt hb e)))
            exact ⟨p.1, p.2.1⟩
          refine ⟨m', hm, i + 1, G', (J'.unpinned (pins := [])).weak (by rw [← e8, wipe_length]) (fun j v e => ?_), T.keep _ _ _ b7 fun b hb o e => (at_ b hb o e).1, fun b hb => ?_, w'⟩
          · rw [← e8] at e
            exact (wipe_some e).1
          · obtain ⟨o, e, _⟩ := T.obj _ _ b7 b hb
            exact (at_ b hb o e).2
        cases b with
        | false =>
          rw [if_neg (by decide)] at q9 ⊢
          exact turn_ J9 q9
        | true =>
          rw [if_pos rfl] at q9 ⊢
          refine thnF (E_.run _ z9 τ8 G9 _ J9 q9) fun v' z10 hx => ?_
          obtain ⟨yv, G10, J10, r10, acc, a1, a2, nx⟩ := hx
          exact app_ok (X := X.blk s3 H3 scope ce fp) J10 a1 a2 r10 fun z11 J11 => turn_ J11 nx
  cases ha : x.cps.all (· < 128)
  · exact wpAny_pyIter_wide ha (rest _ _ (pi_one (tk := s1.toks) I1 _ (turn_str _ x t "str_iterator" (.inr rfl)) ⟨_, Heap.get?_push_size _ rfl, rfl, rfl⟩ q))
  · exact wpAny_pyIter_ascii ha (rest _ _ (pi_one (tk := s1.toks) I1 _ (turn_str _ x t "str_ascii_iterator" (.inl rfl)) ⟨_, Heap.get?_push_size _ rfl, rfl, rfl⟩ q))
end
/-! ### a test that wants a token -/
section
variable {X : Cx} {a b c : Expr} {ta tb : TE} {pos : Pos}
def PTT (X : Cx) (e : Expr) (t : TT) : Prop :=
  ∀ (pins : List (Addr × Obj)) (s : Shared) (σ : L2.St) (H : Hp) (Q : Bool → Hp → Prop), 1 ≤ s.toks → Inv X pins σ H s → t σ H Q → wpAny (model X.prog X.w) X.A (PySem.isTrue e X.env (eval e X.env)) (TP X pins σ Q) X.xe s
theorem ptt_cmp {op : CmpOp} {r : R2} (ho : OpR X (compareOp op) r) (ha : PET X a ta) (hb : PE X b tb) (hm : behindInMarks op b = false) : PTT X (.Compare a [op] [b] pos) (tTest (tOp r ta tb)) := by
  intro pins s σ H Q h0 I h
  refine wpAny_isTrue_Compare1 (thn (ha pins s σ H _ h0 I h) fun v s1 hv => ?_) hm
  obtain ⟨x, H1, I1, r1, q1⟩ := hv
  refine thn (hb.run pins s1 σ H1 _ I1 q1) fun u s2 hu => ?_
  obtain ⟨y, H2, I2, r2, q2⟩ := hu
  refine thn (ho pins s2 σ H2 x y v u _ I2 r1 r2 q2) fun d s3 hd => ?_
  obtain ⟨_, H3, I3, r3, k, rfl, q3⟩ := hd
  cases r3
  exact wpAny_truthy_bool ⟨H3, I3, q3⟩
theorem pst_ifT {ss us : List Stmt} {tc : TT} {t u : TS} (hc : PTT X c tc) (ha : PSsT X ss t) (hb : PSsT X us u) : PST X (.If c ss us pos) (tIfS tc t u) := by
  intro pins s σ H D h0 I h
  refine wpAny_If (thnT h0 (hc pins s σ H _ h0 I h) fun d s1 t1 hd => ?_)
  obtain ⟨H1, I1, q1⟩ := hd
  cases d with
  | true => exact ha pins s1 σ H1 D t1 I1 q1
  | false => exact hb pins s1 σ H1 D t1 I1 q1
end
end RK

/-! a def that makes lambdas for told; what is kept by one -/
namespace RK
open PySem PySem.Spec PyProof.Rows L2 LamX
section
variable {P : Program} {w : World} {K : PySem.W.Frag} {mg : Str → Option Value} {base : Heap} {CX : CXT} {k : Nat} {f : Addr} {fd : FuncData} {N ps : List Str} {sp : Sp} {x qual : Str} {st : Stmt}
/-- as funG, the body's code object is told -/
theorem funGc {CX : CXT} (F : Fun K x qual st f fd) (S : FnScope N ps (defScope st)) (len : ∀ vs H Q E, sp vs H Q E → vs.length = ps.length)
    (hbody : ∀ (cdv : Value) (A : Around) (outer : List Env) (s : Shared) (H : Hp) (vs : List V) (Q : VK) (E : XK), fd.code = cdv → A.guards = some [] → Room k (A.deeper (envOfC qual (defScope st) s.heap.objs.size f cdv)) → sp vs H Q E →
      ∃ t, PSs (cxOf CX P w K mg base N qual (defScope st) f cdv A outer s H E) (defBody st) t ∧ t { nx := fun _ H' => Q .non H', rt := Q } (L2.start N vs) H) : FnOkG P w K mg base CX (k + 1) f fd ps sp := by
  obtain ⟨oc, od, kV, doc, pm, an, cdv, ct, osl, e, lk, hcd⟩ := F.ex
  subst e
  exact ⟨len, fun A outer s H args us vs Q E hg hr e0 hb r q => LamX.run_ofS lk hcd S hr e0 hb r (len _ _ _ _ q) fun hr' => hbody cdv A outer s H vs Q E rfl hg hr' q⟩
end
/-! ### what a lambda's making keeps -/
theorem tabs_kp {T : List (Addr × Str)} {b : Addr} {H H' : Hp} (k : Kp b H H') (t : Tabs T H) : Tabs T H' := fun p hp => by
  obtain ⟨ps, h1, h2, h3⟩ := t p hp
  obtain ⟨f, s, n, hb⟩ := k.bag
  have other : ∀ {c : Addr} {o : HO}, H c = some o → (∀ xs, o ≠ .lst xs) → H' c = some o := fun {c o} h ne => k.keep c o (fun z => by rw [z, hb] at h; cases h; exact ne _ rfl) h
  refine ⟨ps, other h1 (fun xs z => by cases z), h2, fun pos cv hc => ?_⟩
  obtain ⟨c, e1, e2⟩ := h3 pos cv hc
  exact ⟨c, e1, other e2 fun xs z => by unfold CodeO at z; cases z⟩
theorem Same.ext {H H' : Hp} (e : Same H H') : ExtN H H' := fun b o h _ => e b o h
/-- all stays but the bag's numbers and the tables -/
structure Kb (T : List (Addr × Str)) (b : Addr) (H H' : Hp) : Prop where
  bag : Bag H b
  bag' : Bag H' b
  keep : ∀ c o, c ≠ b → H c = some o → (∀ ps, o ≠ .tbl ps) → H' c = some o
  tabs : Tabs T H'
variable {T : List (Addr × Str)} {b : Addr} {H H1 H2 : Hp}
theorem Kb.refl (h : Bag H b) (t : Tabs T H) : Kb T b H H := ⟨h, h, fun _ _ _ q _ => q, t⟩
theorem Kb.kp (a : Kb T b H H1) (c : Kp b H1 H2) : Kb T b H H2 := ⟨a.bag, c.bag', fun d o n q t => c.keep d o n (a.keep d o n q t), tabs_kp c a.tabs⟩
theorem Kb.same (a : Kb T b H H1) (c : Same H1 H2) : Kb T b H H2 := a.kp (.of a.bag' c)
theorem Kb.ext (a : Kb T b H H1) (c : ExtN H1 H2) (t : Tabs T H2) : Kb T b H H2 := by
  obtain ⟨f, s, n, hb⟩ := a.bag'
  exact ⟨a.bag, ⟨f, s, n, c _ _ hb fun ps z => by cases z⟩, fun d o n q y => c d o (a.keep d o n q y) y, t⟩
theorem Kb.trans (a : Kb T b H H1) (c : Kb T b H1 H2) : Kb T b H H2 := ⟨a.bag, c.bag', fun d o n q y => c.keep d o n (a.keep d o n q y) y, c.tabs⟩
theorem Kb.lst {a : Addr} {xs : List V} (k : Kb T b H H1) (n : a ≠ b) (h : H a = some (.lst xs)) : H1 a = some (.lst xs) := k.keep a _ n h fun ps z => by cases z
theorem Kb.tup {a : Addr} {xs : List V} (k : Kb T b H H1) (h : H a = some (.tup xs)) : H1 a = some (.tup xs) := by
  obtain ⟨f, s, n, hb⟩ := k.bag
  exact k.keep a _ (ne_of h hb (by intro z; cases z)) h fun ps z => by cases z
theorem Kb.ins {a C dx : Addr} {fs : List (Str × V)} (k : Kb T b H H1) (h : H a = some (.ins C dx fs)) : H1 a = some (.ins C dx fs) := by
  obtain ⟨f, s, n, hb⟩ := k.bag
  exact k.keep a _ (ne_of h hb (by intro z; cases z)) h fun ps z => by cases z
/-! ### a list that the law was handed, whatever is made beside it -/
def StL (K : PySem.W.Frag) (c : Addr) (xs : List V) (H : Hp) : Prop := (∀ H', SqL K H' c xs) ∨ ∃ o, H c = some o ∧ (∀ ps, o ≠ .tbl ps) ∧ ∀ H', H' c = some o → SqL K H' c xs
section
variable {K : PySem.W.Frag} {c : Addr} {xs : List V}
theorem StL.of (h : SqL K H c xs) : StL K c xs H := by
  rcases h with (h | ⟨o, h⟩) | h
  · exact .inr ⟨_, h, (fun ps z => by cases z), fun H' h' => .inl (.inl h')⟩
  · exact .inr ⟨_, h, (fun ps z => by cases z), fun H' h' => .inl (.inr ⟨o, h'⟩)⟩
  · exact .inl fun H' => .inr h
theorem StL.sql (s : StL K c xs H) : SqL K H c xs := by
  rcases s with h | ⟨o, h1, _, h3⟩
  · exact h H
  · exact h3 H h1
theorem StL.keep (s : StL K c xs H) (k : ∀ o, H c = some o → (∀ ps, o ≠ .tbl ps) → H1 c = some o) : StL K c xs H1 := by
  rcases s with h | ⟨o, h1, h2, h3⟩
  · exact .inl h
  · exact .inr ⟨o, k o h1 h2, h2, h3⟩
theorem StL.same (s : StL K c xs H) (e : Same H H1) : StL K c xs H1 := s.keep fun o h _ => e _ _ h
/-- a bag is made, and what then keeps all but it and the tables -/
theorem StL.kb {p : Addr} (s : StL K c xs H) (hp : H p = none) (e : Same H H1) (k : Kb T p H1 H2) : StL K c xs H2 := s.keep fun o h t => k.keep _ _ (ne_of_none h hp) (e _ _ h) t
theorem StL.new {D : Addr} {o : HO} (s : StL K c xs H) (hD : H D = none) : StL K c xs (upd H D o) := s.same (w_new hD)
/-- [true, ..]: each element by a bag of its own -/
theorem lc_rngT {lo : Int} {n j : Nat} {W : TI} {te : TE} {vs : List Nat} {σ : L2.St} {Q : VK} (hn : n ≤ 1000) (hwi : ∀ R : It → Hp → Prop, R (Itr lo n) H → W σ H R) (hw : ∀ x, wipe ((wipe σ vs).set j (some x)) vs = wipe σ vs) (hc : StL K c xs H) (ht : Tabs T H)
    (he : ∀ i H', i < n → StL K c xs H' → Tabs T H' → ∀ Q' : VK, (∀ H'', StL K c xs H'' → Tabs T H'' → (∀ D acc, H' D = some (.lst acc) → H'' D = some (.lst acc)) → Q' (.bl true) H'') → te ((wipe σ vs).set j (some (.int (lo + i)))) H' Q')
    (k : ∀ D H', H' D = some (.lst (List.replicate n (.bl true))) → Q (.ref D) H') : tLc W (gName j) tYes te vs σ H Q := by
  refine hwi _ fun D hD => ?_
  refine lc_range (lo := lo) (n := n) (fun i G => G D = some (.lst (List.replicate i (.bl true))) ∧ StL K c xs G ∧ Tabs T G ∧ ∀ o, H c = some o → c ≠ D) ⟨upd_same, hc.new hD, ht.ext (w_new hD), fun o h => ne_of_none h hD⟩ ?_ ?_
  · rintro i G hi ⟨hG, st, tb, ne⟩
    refine ⟨hw _, ?_⟩
    refine w_yes ?_
    rw [if_pos rfl]
    refine he i G hi st tb _ fun G2 st2 tb2 kp => ?_
    have h2 := kp D _ hG
    have up : upd G2 D (.lst (List.replicate i (.bl true) ++ [.bl true])) D = some (.lst (List.replicate (i + 1) (.bl true))) := by rw [upd_same, List.replicate_succ']
    refine ⟨_, h2, by rw [List.length_replicate]; exact Nat.lt_of_lt_of_le (show i < 1001 by omega) (by decide), up, ?_, ?_, ne⟩
    · rcases hc with h | ⟨o, h1, h2, h3⟩
      · exact .inl h
      · have nc := ne _ h1
        exact st2.keep fun o' h' _ => by rw [upd_ne nc]; exact h'
    · exact fun p hp => by
        obtain ⟨ps, t1, t2, t3⟩ := tb2 p hp
        have a1 : p.1 ≠ D := fun z => by rw [z, h2] at t1; cases t1
        refine ⟨ps, by rw [upd_ne a1]; exact t1, t2, fun pos cv hv => ?_⟩
        obtain ⟨d, d1, d2⟩ := t3 pos cv hv
        have a2 : d ≠ D := fun z => by
          rw [z, h2] at d2
          unfold CodeO at d2
          cases d2
        exact ⟨d, d1, by rw [upd_ne a2]; exact d2⟩
  · rintro G ⟨hG, _⟩
    exact k D G hG
theorem all_rep {Q : VK} {D : Addr} {n : Nat} (h : H D = some (.lst (List.replicate n (.bl true)))) (q : Q (.bl true) H) : rAll K [.ref D] H Q := by
  have e : List.replicate n (V.bl true) = (List.replicate n true).map V.bl := by rw [List.map_replicate]
  refine ⟨D, List.replicate n true, rfl, by rw [← e]; exact SqL.of h, ?_⟩
  rw [show (List.replicate n true).all id = true from List.all_eq_true.mpr fun x hx => (List.mem_replicate.mp hx).2]
  exact q
end
/-- the table of the code object at c -/
def tabOf (K : PySem.W.Frag) (c : Addr) : Option Addr := match K.lookup c with
  | some o => (match o.data with
    | .fields vs => (match (vs[11]? : Option Value) with
      | some (.ref P) => some P
      | _ => none)
    | _ => none)
  | none => none
end RK

/-! comprehensions over a list or a tuple, with a target of any form -/
namespace RK
open PySem PySem.Spec PyProof.Rows L2 RZ
theorem seqT_same {K : PySem.W.Frag} {H H' : Hp} {p : Addr} {xs : List V} (e : Same H H') (h : SqT K H p xs) : SqT K H' p xs := by
  rcases h with (h | ⟨o, h⟩) | h
  · exact .inl (.inl (e _ _ h))
  · exact .inl (.inr ⟨o, e _ _ h⟩)
  · exact .inr h
section
variable {K : PySem.W.Frag} {σ : L2.St} {H : Hp} {Q : VK} {g : TG} {te : TE} {vs : List Nat}
/-- [f(x) for x in a list], the target of any form: each element leaves what stood, and gives what P says -/
theorem lc_mapL {l : Addr} {xs : List V} (P : Nat → V → Hp → Prop) (mono : ∀ i v H H', SameT H H' → P i v H → P i v H') (hl : SqL K H l xs) (hlen : xs.length ≤ 1000)
    (he : ∀ (i : Nat) (x : V) (H' : Hp), xs[i]? = some x → Same H H' → ∀ Q' : VK, (∀ v H'', Same H' H'' → P i v H'' → Q' v H'') → g x (wipe σ vs) H' fun σ2 H2 => wipe σ2 vs = wipe σ vs ∧ te σ2 H2 Q')
    (k : ∀ D ys H', H D = none → Same H H' → H' D = some (.lst ys) → ys.length = xs.length → (∀ i v, ys[i]? = some v → P i v H') → Q (.ref D) H') :
    ∀ D, H D = none → ∃ W : Nat → Nat → Hp → Prop, (∃ m, W 0 m (upd H D (.lst []))) ∧ ∀ i m G, W i m G →
      ((Itl K l).stop i G ∧ Q (.ref D) G) ∨ ((Itl K l).go i G ∧ ∃ Nx : Hp → Prop, (∀ G', Nx G' → ∃ m', m' < m ∧ W (i + 1) m' G') ∧ ∀ y G', (Itl K l).yld i G y G' → g y (wipe σ vs) G' fun σ2 H2 => wipe σ2 vs = wipe σ vs ∧ tYes σ2 H2 fun b H3 =>
        if b = true then te σ2 H3 fun y H4 => ∃ acc, H4 D = some (.lst acc) ∧ acc.length < sizeLine ∧ Nx (upd H4 D (.lst (acc ++ [y]))) else Nx H3) := by
  intro D hD
  refine lc_list (K := K) (a := l) (xs := xs) (fun i G => ∃ acc, G D = some (.lst acc) ∧ acc.length = i ∧ Same H G ∧ ∀ m v, acc[m]? = some v → P m v G) ⟨[], upd_same, rfl, w_new hD, fun m v e => by simp at e⟩ (fun i G _ hG => Same.seq (let ⟨_, _, _, e, _⟩ := hG; e) hl) ?_ ?_
  · rintro i x G hx ⟨acc, h1, h2, e, hp⟩
    have hi := (List.getElem?_eq_some_iff.mp hx).1
    refine he i x G hx e (fun y H4 => ∃ acc, H4 D = some (.lst acc) ∧ acc.length < sizeLine ∧ ∃ acc', upd H4 D (.lst (acc ++ [y])) D = some (.lst acc') ∧ acc'.length = i + 1 ∧ Same H (upd H4 D (.lst (acc ++ [y]))) ∧ ∀ m v, acc'[m]? = some v → P m v (upd H4 D (.lst (acc ++ [y])))) fun v H4 e4 pv => ?_
    have h3 := e4 _ _ h1
    refine ⟨acc, h3, Nat.lt_of_lt_of_le (show acc.length < 1001 by omega) (by decide), acc ++ [v], upd_same, by rw [List.length_append, h2]; rfl, RK.Same.updL (e.trans e4) hD, fun m u hu => ?_⟩
    by_cases hm : m < acc.length
    · rw [List.getElem?_append_left hm] at hu
      exact mono m u H4 _ (SameT.upd h3) (mono m u G H4 (.of e4) (hp m u hu))
    · rw [List.getElem?_append_right (by omega)] at hu
      have em : m = acc.length := by
        have := (List.getElem?_eq_some_iff.mp hu).1
        simp at this
        omega
      subst em
      simp at hu
      subst hu
      exact mono _ _ H4 _ (SameT.upd h3) (by rw [h2]; exact pv)
  · rintro G ⟨acc, h1, h2, e, hp⟩
    exact k D acc G hD e h1 h2 hp
/-- [f(x) for x in a tuple], the target of any form: each element leaves what stood, and gives what P says -/
theorem lc_mapT {l : Addr} {xs : List V} (P : Nat → V → Hp → Prop) (mono : ∀ i v H H', SameT H H' → P i v H → P i v H') (hl : SqT K H l xs) (hlen : xs.length ≤ 1000)
    (he : ∀ (i : Nat) (x : V) (H' : Hp), xs[i]? = some x → Same H H' → ∀ Q' : VK, (∀ v H'', Same H' H'' → P i v H'' → Q' v H'') → g x (wipe σ vs) H' fun σ2 H2 => wipe σ2 vs = wipe σ vs ∧ te σ2 H2 Q')
    (k : ∀ D ys H', H D = none → Same H H' → H' D = some (.lst ys) → ys.length = xs.length → (∀ i v, ys[i]? = some v → P i v H') → Q (.ref D) H') :
    ∀ D, H D = none → ∃ W : Nat → Nat → Hp → Prop, (∃ m, W 0 m (upd H D (.lst []))) ∧ ∀ i m G, W i m G →
      ((Itt K l).stop i G ∧ Q (.ref D) G) ∨ ((Itt K l).go i G ∧ ∃ Nx : Hp → Prop, (∀ G', Nx G' → ∃ m', m' < m ∧ W (i + 1) m' G') ∧ ∀ y G', (Itt K l).yld i G y G' → g y (wipe σ vs) G' fun σ2 H2 => wipe σ2 vs = wipe σ vs ∧ tYes σ2 H2 fun b H3 =>
        if b = true then te σ2 H3 fun y H4 => ∃ acc, H4 D = some (.lst acc) ∧ acc.length < sizeLine ∧ Nx (upd H4 D (.lst (acc ++ [y]))) else Nx H3) := by
  intro D hD
  refine lc_tup (K := K) (a := l) (xs := xs) (fun i G => ∃ acc, G D = some (.lst acc) ∧ acc.length = i ∧ Same H G ∧ ∀ m v, acc[m]? = some v → P m v G) ⟨[], upd_same, rfl, w_new hD, fun m v e => by simp at e⟩ (fun i G _ hG => seqT_same (let ⟨_, _, _, e, _⟩ := hG; e) hl) ?_ ?_
  · rintro i x G hx ⟨acc, h1, h2, e, hp⟩
    have hi := (List.getElem?_eq_some_iff.mp hx).1
    refine he i x G hx e (fun y H4 => ∃ acc, H4 D = some (.lst acc) ∧ acc.length < sizeLine ∧ ∃ acc', upd H4 D (.lst (acc ++ [y])) D = some (.lst acc') ∧ acc'.length = i + 1 ∧ Same H (upd H4 D (.lst (acc ++ [y]))) ∧ ∀ m v, acc'[m]? = some v → P m v (upd H4 D (.lst (acc ++ [y])))) fun v H4 e4 pv => ?_
    have h3 := e4 _ _ h1
    refine ⟨acc, h3, Nat.lt_of_lt_of_le (show acc.length < 1001 by omega) (by decide), acc ++ [v], upd_same, by rw [List.length_append, h2]; rfl, RK.Same.updL (e.trans e4) hD, fun m u hu => ?_⟩
    by_cases hm : m < acc.length
    · rw [List.getElem?_append_left hm] at hu
      exact mono m u H4 _ (SameT.upd h3) (mono m u G H4 (.of e4) (hp m u hu))
    · rw [List.getElem?_append_right (by omega)] at hu
      have em : m = acc.length := by
        have := (List.getElem?_eq_some_iff.mp hu).1
        simp at this
        omega
      subst em
      simp at hu
      subst hu
      exact mono _ _ H4 _ (SameT.upd h3) (by rw [h2]; exact pv)
  · rintro G ⟨acc, h1, h2, e, hp⟩
    exact k D acc G hD e h1 h2 hp
theorem cut1 (xs : List V) : cutV xs (some 1) none = xs.drop 1 := by
  unfold cutV
  rw [show (some (1 : Int)) = some ((1 : Nat) : Int) from rfl, HT.sIx_nat, HT.sIx_none]
  cases xs with
  | nil => rfl
  | cons x r =>
    rw [show min 1 (x :: r).length = 1 from by rw [List.length_cons]; omega]
    simp
def LcT (K : PySem.W.Frag) (g : TG) (tt : TT) (te : TE) (vs : List Nat) (σ : L2.St) (x : V) (H : Hp) (Q : VK) : Prop := ∃ a, x = .ref a ∧ (∃ xs, SqT K H a xs) ∧ ∀ D, H D = none → ∃ W : Nat → Nat → Hp → Prop, (∃ m, W 0 m (upd H D (.lst []))) ∧ ∀ i m G, W i m G →
  ((Itt K a).stop i G ∧ Q (.ref D) G) ∨ ((Itt K a).go i G ∧ ∃ Nx : Hp → Prop, (∀ G', Nx G' → ∃ m', m' < m ∧ W (i + 1) m' G') ∧ ∀ y G', (Itt K a).yld i G y G' → g y (wipe σ vs) G' fun σ2 H2 => wipe σ2 vs = wipe σ vs ∧ tt σ2 H2 fun b H3 =>
    if b = true then te σ2 H3 fun y H4 => ∃ acc, H4 D = some (.lst acc) ∧ acc.length < sizeLine ∧ Nx (upd H4 D (.lst (acc ++ [y]))) else Nx H3)
theorem w_lcT {tl : TE} {tt : TT} (h : tl σ H fun x H1 => LcT K g tt te vs σ x H1 Q) : tLc (iTup K tl) g tt te vs σ H Q := h
theorem lcT_leaf {l : Addr} {xs : List V} (P : Nat → V → Hp → Prop) (mono : ∀ i v H H', SameT H H' → P i v H → P i v H') (hl : SqT K H l xs) (hlen : xs.length ≤ 1000)
    (he : ∀ (i : Nat) (x : V) (H' : Hp), xs[i]? = some x → Same H H' → ∀ Q' : VK, (∀ v H'', Same H' H'' → P i v H'' → Q' v H'') → g x (wipe σ vs) H' fun σ2 H2 => wipe σ2 vs = wipe σ vs ∧ te σ2 H2 Q')
    (k : ∀ D ys H', H D = none → Same H H' → H' D = some (.lst ys) → ys.length = xs.length → (∀ i v, ys[i]? = some v → P i v H') → Q (.ref D) H') : LcT K g tYes te vs σ (.ref l) H Q := ⟨l, rfl, ⟨_, hl⟩, lc_mapT P mono hl hlen he k⟩
theorem lcL_leaf {l : Addr} {xs : List V} (P : Nat → V → Hp → Prop) (mono : ∀ i v H H', SameT H H' → P i v H → P i v H') (hl : SqL K H l xs) (hlen : xs.length ≤ 1000)
    (he : ∀ (i : Nat) (x : V) (H' : Hp), xs[i]? = some x → Same H H' → ∀ Q' : VK, (∀ v H'', Same H' H'' → P i v H'' → Q' v H'') → g x (wipe σ vs) H' fun σ2 H2 => wipe σ2 vs = wipe σ vs ∧ te σ2 H2 Q')
    (k : ∀ D ys H', H D = none → Same H H' → H' D = some (.lst ys) → ys.length = xs.length → (∀ i v, ys[i]? = some v → P i v H') → Q (.ref D) H') : LcS K g tYes te vs σ (.ref l) H Q := ⟨l, rfl, ⟨_, hl⟩, lc_mapL P mono hl hlen he k⟩
/-- a list of truths -/
theorem all_P {D : Addr} {ys : List V} (h : H D = some (.lst ys)) (hP : ∀ (i : Nat) (v : V), ys[i]? = some v → v = .bl true) (q : Q (.bl true) H) : rAll K [.ref D] H Q := by
  have e : ys = List.replicate ys.length (.bl true) := List.eq_replicate_iff.mpr ⟨rfl, fun b hb => by obtain ⟨i, hi⟩ := List.mem_iff_getElem?.mp hb; exact hP i b hi⟩
  rw [e] at h
  exact all_rep h q
theorem tyT {t : Addr} {xs : List V} (h : SqT K H t xs) : TyX K H (.ref t) (.type "tuple") := by
  rcases h with (h | ⟨o, h⟩) | ⟨o, its, n, h1, h2, _⟩
  · exact .base (.tup h)
  · exact .fTuple h
  · exact .kTuple h1 h2
def CmpAt (g : TG) (tt : TT) (te : TE) (vs : List Nat) (σ : L2.St) (Q : VK) (J : It) (H : Hp) : Prop := ∀ D, H D = none → ∃ W : Nat → Nat → Hp → Prop, (∃ m, W 0 m (upd H D (.lst []))) ∧ ∀ i m G, W i m G →
  (J.stop i G ∧ Q (.ref D) G) ∨ (J.go i G ∧ ∃ Nx : Hp → Prop, (∀ G', Nx G' → ∃ m', m' < m ∧ W (i + 1) m' G') ∧ ∀ y G', J.yld i G y G' → g y (wipe σ vs) G' fun σ2 H2 => wipe σ2 vs = wipe σ vs ∧ tt σ2 H2 fun b H3 =>
    if b = true then te σ2 H3 fun y H4 => ∃ acc, H4 D = some (.lst acc) ∧ acc.length < sizeLine ∧ Nx (upd H4 D (.lst (acc ++ [y]))) else Nx H3)
def ZpL (K : PySem.W.Frag) (g : TG) (tt : TT) (te : TE) (vs : List Nat) (σ : L2.St) (us : List V) (H : Hp) (Q : VK) : Prop :=
  ∃ a b xs ys, us = [V.ref a, .ref b] ∧ ((SqL K H a xs ∧ SqL K H b ys ∧ CmpAt g tt te vs σ Q (Itz K a b) H) ∨ (SqT K H a xs ∧ SqT K H b ys ∧ CmpAt g tt te vs σ Q (ItzT K a b) H))
theorem w_zip {ta : TA} {tt : TT} (h : ta σ H fun us H1 => ZpL K g tt te vs σ us H1 Q) : tLc (iZipA K ta) g tt te vs σ H Q := h
/-- [f(x, y) for x, y in zip(a, b)], all true, a and b tuples -/
theorem zip_leaf {i j : Nat} {a b : Addr} {xs ys : List V} (ha : SqT K H a xs) (hb : SqT K H b ys) (hlen : xs.length ≤ 1000)
    (he : ∀ (n : Nat) (x y : V) (H' : Hp), xs[n]? = some x → ys[n]? = some y → Same H H' → wipe (((wipe σ vs).set i (some x)).set j (some y)) vs = wipe σ vs ∧ ∀ Q' : VK, (∀ H'', Same H' H'' → Q' (.bl true) H'') → te (((wipe σ vs).set i (some x)).set j (some y)) H' Q')
    (k : ∀ D zs H', H D = none → Same H H' → H' D = some (.lst zs) → (∀ (n : Nat) (v : V), zs[n]? = some v → v = .bl true) → Q (.ref D) H') : ZpL K (gTup K 2 (gCons (gName i) (gCons (gName j) gNil))) tYes te vs σ [.ref a, .ref b] H Q := by
  refine ⟨a, b, xs, ys, rfl, .inr ⟨ha, hb, fun D hD => ?_⟩⟩
  refine ⟨fun n m G => m = xs.length - n ∧ n ≤ xs.length ∧ Same H G ∧ G D = some (.lst (List.replicate n (.bl true))), ⟨_, rfl, Nat.zero_le _, w_new hD, upd_same⟩, ?_⟩
  rintro n m G ⟨rfl, hn, e, hG⟩
  have ha' := seqT_same e ha
  have hb' := seqT_same e hb
  have stop : n = xs.length ∨ ys.length ≤ n → (ItzT K a b).stop n G ∧ Q (.ref D) G := fun h => ⟨⟨xs, ys, ha', hb', h.imp (fun z => Nat.le_of_eq z.symm) id⟩, k D _ G hD e hG fun n v hv => by
    have := List.mem_of_getElem? hv
    exact (List.mem_replicate.mp this).2⟩
  by_cases h1 : n < xs.length
  · by_cases h2 : n < ys.length
    · have hx : xs[n]? = some xs[n] := List.getElem?_eq_getElem h1
      have hy : ys[n]? = some ys[n] := List.getElem?_eq_getElem h2
      refine .inr ⟨⟨xs, ys, _, _, ha', hb', hx, hy⟩, fun G' => Same H G' ∧ G' D = some (.lst (List.replicate (n + 1) (.bl true))), fun G' hq => ⟨_, by omega, rfl, h1, hq.1, hq.2⟩, fun v G' hq => ?_⟩
      obtain ⟨T, x', y', rfl, hT, rfl, f1, f2⟩ := hq
      have eT := w_new (o := .tup [x', y']) hT
      have e' := e.trans eT
      obtain ⟨w1, w2⟩ := he n x' y' _ (f1 xs ha') (f2 ys hb') e'
      refine ⟨T, [x', y'], rfl, SqT.of upd_same, rfl, x', [y'], rfl, y', [], rfl, rfl, w1, ?_⟩
      refine w_yes ?_
      rw [if_pos rfl]
      refine w2 _ fun G2 e2 => ?_
      have hG2 : G2 D = some (.lst (List.replicate n (.bl true))) := e2 _ _ (eT _ _ hG)
      exact ⟨_, hG2, by rw [List.length_replicate]; exact Nat.lt_of_lt_of_le (show n < 1001 by omega) (by decide), RK.Same.updL (e'.trans e2) hD, by rw [upd_same, List.replicate_succ']⟩
    · exact .inl (stop (.inr (by omega)))
  · exact .inl (stop (.inl (by omega)))
/-- a pair, taken apart into two slots -/
theorem g_two {i j : Nat} {q : Addr} {x y : V} {Q : L2.St → Hp → Prop} (h : H q = some (.tup [x, y])) (k : Q ((σ.set i (some x)).set j (some y)) H) : gTup K 2 (gCons (gName i) (gCons (gName j) gNil)) (.ref q) σ H Q :=
  ⟨q, [x, y], rfl, SqT.of h, rfl, x, [y], rfl, y, [], rfl, rfl, k⟩
theorem eq_map {α : Type} {ys : List V} {ps : List α} (f : α → V) (hl : ys.length = ps.length) (h : ∀ (i : Nat) (v : V), ys[i]? = some v → ∃ p, ps[i]? = some p ∧ v = f p) : ys = ps.map f := by
  refine List.ext_getElem? fun i => ?_
  rw [List.getElem?_map]
  cases e : ys[i]? with
  | none =>
    have := List.getElem?_eq_none_iff.mp e
    rw [List.getElem?_eq_none_iff.mpr (by omega)]
    rfl
  | some v =>
    obtain ⟨p, hp, rfl⟩ := h i v e
    rw [hp]
    rfl
theorem sum_le {α : Type} {l : List α} {f : α → Nat} {b : Nat} (h : ∀ x ∈ l, f x ≤ b) : (l.map f).sum ≤ l.length * b := by
  induction l with
  | nil => simp
  | cons x r ih =>
    rw [List.map_cons, List.sum_cons, List.length_cons, Nat.add_mul, Nat.one_mul]
    have h1 := h x List.mem_cons_self
    have h2 := ih fun y hy => h y (List.mem_cons_of_mem _ hy)
    omega
/-- a list whose items stand at addresses of a kind -/
theorem refs_of {α : Type} {ys : List V} {ps : List α} {R : Addr → α → Prop} (hl : ys.length = ps.length) (h : ∀ (i : Nat) (v : V), ys[i]? = some v → ∃ q u, ps[i]? = some u ∧ v = .ref q ∧ R q u) : ∃ as : List Addr, ys = as.map V.ref ∧ as.length = ps.length ∧ ∀ (i : Nat) (q : Addr) (u : α), as[i]? = some q → ps[i]? = some u → R q u := by
  induction ys generalizing ps with
  | nil => exact ⟨[], rfl, hl, fun i q u a => by simp at a⟩
  | cons y r ih =>
    cases ps with
    | nil => cases hl
    | cons p ps =>
      obtain ⟨q0, u0, e1, rfl, e2⟩ := h 0 y rfl
      cases e1
      obtain ⟨as, rfl, e3, e4⟩ := ih (ps := ps) (by simpa using hl) fun i v hv => h (i + 1) v hv
      refine ⟨q0 :: as, rfl, by rw [List.length_cons, List.length_cons, e3], fun i q u a b => ?_⟩
      cases i with
      | zero =>
        cases a
        cases b
        exact e2
      | succ j => exact e4 j q u a b
end
end RK

/-! enumerate of a tuple, zip of two texts, list(text): the library's iterators (GoesN, Draws) as walks of the hand layer -/
namespace RK
open PySem PySem.Spec PyProof.Rows L2
/-- a turn whose new pair stands at T -/
theorem pair_new {X : Cx} {pins : List (Addr × Obj)} {σ : L2.St} {H : Hp} {s : Shared} {own : List Addr} {T : Addr} {x y : V} {u v : Value} {h' : Heap} {tk : Nat} (I : Inv X pins σ H s) (hf : ∀ b ∈ own, FpOk X pins H b)
    (k : ∀ b o, b ∉ own → s.heap.get? b = some o → h'.get? b = some o) (hT : s.heap.objs.size ≤ T) (p : IsTup h' T #[u, v]) (r1 : RelV x u) (r2 : RelV y v) : Inv X pins σ (upd H T (.tup [x, y])) { s with heap := h', toks := tk } :=
  I.turnedNew (ch := own) k hf hT (show ObjOk X.prog X.w _ h' T (.tup [x, y]) from ⟨by show 2 ≤ sizeLine; decide, [u, v], .cons r1 (.cons r2 .nil), p⟩)
theorem own_stays {H : Hp} {T : Addr} {o : HO} {N : Nat} {own : List Addr} (h : ∀ b ∈ own, H b = none) (lt : ∀ b ∈ own, b < N) (hT : N ≤ T) : ∀ b ∈ own, upd H T o b = none := fun b hb => by
  rw [upd_ne (Nat.ne_of_lt (Nat.lt_of_lt_of_le (lt b hb) hT))]
  exact h b hb
/-- the tuple at a, each item with its place in a new pair -/
def IteT (K : PySem.W.Frag) (a : Addr) : It :=
  ⟨fun i H => ∃ (xs : List V) (x : V), SqT K H a xs ∧ xs[i]? = some x, fun i H v H' => ∃ T x, v = .ref T ∧ H T = none ∧ H' = upd H T (.tup [.int ((i : Nat) : Int), x]) ∧ ∀ xs, SqT K H a xs → xs[i]? = some x, fun i H => ∃ xs : List V, SqT K H a xs ∧ i = xs.length⟩
/-- its state: the iterator's own cells -/
def EnT (a e it : Addr) (i : Nat) (h : Heap) : Prop := (∃ old, IsEnum h e it ((i : Nat) : Int) old) ∧ h.IsTupleIter it a i
theorem turn_enumT {P : Program} {w : World} {K : PySem.W.Frag} {elts : List Expr} {kk : Nat} {tpos : Pos} (a e it : Addr) (ne : e ≠ it) (na : a ≠ it) (nb : a ≠ e) :
    Turn P w K (.Tuple elts kk tpos) (IteT K a) [e, it] e (EnT a e it) where
  mem := List.mem_cons_self
  obj := fun i h ⟨⟨old, he⟩, o, ho, hc, hd⟩ b hb => by
    rcases List.mem_cons.mp hb with rfl | hb
    · exact ⟨_, he, fun v => nofun⟩
    · obtain rfl := List.mem_singleton.mp hb
      exact ⟨o, ho, fun v q => by rw [hd] at q; cases q⟩
  keep := fun i h h' ⟨⟨old, he⟩, hi⟩ k => ⟨⟨old, k e List.mem_cons_self _ he⟩, hi.at fun o q => k it (List.mem_cons_of_mem _ List.mem_cons_self) o q⟩
  item := by
    rintro X rfl rfl rfl hc i pins s σ H E I hf ⟨⟨old, he⟩, hit⟩ ⟨xs, x, hq, hx⟩
    obtain ⟨its, rv, p, _⟩ := I.tuple hq
    obtain ⟨u, hu, ru⟩ := rv.get hx
    have hu2 : its.toArray[i]? = some u := by simpa using hu
    have lt : ∀ b ∈ [e, it], b < s.heap.objs.size := fun b hb => by
      rcases List.mem_cons.mp hb with rfl | hb
      · exact Heap.lt_size he
      · obtain rfl := List.mem_singleton.mp hb
        obtain ⟨o, ho, _⟩ := hit
        exact Heap.lt_size ho
    have G := GoesN.enumFrom (prog := X.prog) (w := X.w) (A := X.A) (elts := elts) (x1 := kk) (pos := tpos) 0 (Draws.tuple (A := X.A.in1) (show X.A.in1.handled = none from I.ok.hd hc) it a na its.toArray) e ne (by simp [ne, Ne.symm nb]) (by simp)
    refine G.goes i s _ E (Array.getElem?_eq_some_iff.mp hu2).1 ⟨⟨old, by rw [Int.zero_add]; exact he⟩, hit, p⟩ ?_
    rintro v h' tk ⟨T, t, y, rfl, hT, hy, pT⟩ ⟨⟨old', he'⟩, hit', _⟩ hk _
    cases hu2.symm.trans hy
    rw [Int.zero_add] at pT he'
    exact ⟨.ref T, _, pair_new I hf hk hT pT (show RelV (.int ((i : Nat) : Int)) _ from ⟨_, rfl⟩) ru, rfl, ⟨T, x, rfl, I.hok.fresh hT, rfl, fun ys hys => by rw [I.tuple_inj hys hq]; exact hx⟩, ⟨⟨old', he'⟩, hit'⟩, own_stays (fun b hb => (hf b hb).1) lt hT⟩
  done := by
    rintro X rfl rfl rfl hc i pins s σ H E I hf ⟨⟨old, he⟩, hit⟩ ⟨xs, hq, rfl⟩
    obtain ⟨its, rv, p, _⟩ := I.tuple hq
    have hl : xs.length = its.toArray.size := by rw [rv.length]; simp
    rw [hl] at he hit
    have G := GoesN.enumFrom (prog := X.prog) (w := X.w) (A := X.A) (elts := elts) (x1 := kk) (pos := tpos) 0 (Draws.tuple (A := X.A.in1) (show X.A.in1.handled = none from I.ok.hd hc) it a na its.toArray) e ne (by simp [ne, Ne.symm nb]) (by simp)
    refine G.stops s _ E ⟨⟨old, by rw [Int.zero_add]; exact he⟩, hit, p⟩ fun h' tk hk _ => I.turnedL hk hf
  self := fun A i s Q E ⟨⟨_, he⟩, _⟩ q => wpAny_pyIter_enum he q
theorem meets_enum1 {v : Value} {o : Obj} {C : Heap → Prop} (B : Begins v o C) : Meets (Builtin.«enumerate.__new__» ⟨[.type "enumerate", v], []⟩) (fun _ R s => C s.heap ∧
    R (.ok (.ret (.ref (s.heap.push o).objs.size))) { s with heap := (s.heap.push o).push { cls := .type "enumerate", data := .fields #[.none, .bool false, .ref s.heap.objs.size, rawInt 0, .none, .none] } }) := by
  refine .of_wp fun P w A R s h => ?_
  obtain ⟨hp, g, d, tk, os⟩ := s
  obtain ⟨hC, h⟩ := h
  have known := sub_enumerate
  have it0 : ∀ {A' : Around} {E : Value → Shared → Prop} {Q : Value → Shared → Prop}, Q (.ref hp.objs.size) ⟨hp.push o, g, d, tk, os⟩ → wpAny (model P w) A' (pyIter v) Q E ⟨hp, g, d, tk, os⟩ := fun q => B.iter _ _ _ _ _ _ hC q
  wp_walk using it0
  refine wpAny_stack_any fun st => wpAny_pure ?_
  split <;> first
    | (wp_walk using it0; exact ⟨_, rfl, h⟩)
    | (rename_i c _ _ _ _ _; cases (c == Value.type "enumerate") <;> (wp_walk using it0; exact ⟨_, rfl, h⟩))
theorem enum_starts {P : Program} {w : World} {A : Around} {E : Value → Shared → Prop} {s : Shared} {v : Value} {o : Obj} {C : Heap → Prop} {Q : Value → Shared → Prop} (B : Begins v o C) (hC : C s.heap)
    (q : ∀ h', IsEnum h' (s.heap.objs.size + 1) s.heap.objs.size 0 .none → h'.get? s.heap.objs.size = some o → (∀ b u, s.heap.get? b = some u → h'.get? b = some u) → Q (.ref (s.heap.objs.size + 1)) { s with heap := h' }) :
    wpAny (model P w) A (call (.type "enumerate") [v]) Q E s := by
  refine callType_new F.called_enumerate (by decide) (F.typeCall_enumerate_1 _) (F.newCall_enumerate_1 _) (fun obj => F.args_object_init_2 obj _) F.entry_enumerate_new (meets_enum1 B) ⟨hC, ?_⟩
  have z1 := Heap.size_push s.heap o
  have g1 := Heap.get?_push_size (s.heap.push o) (o := { cls := .type "enumerate", data := .fields #[.none, .bool false, .ref s.heap.objs.size, rawInt 0, .none, .none] }) rfl
  rw [z1] at g1
  show _ ∧ _
  rw [z1]
  exact ⟨⟨_, g1, rfl⟩, q _ g1 (Heap.get?_push_of_some _ (Heap.get?_push_size _ B.free)) fun b u e => Heap.get?_push_of_some _ (Heap.get?_push_of_some _ e)⟩
def iEnumT (K : PySem.W.Frag) (ta : TA) : TI := fun σ H R => ta σ H fun vs H1 => ∃ a xs, vs = [.ref a] ∧ SqT K H1 a xs ∧ R (IteT K a) H1
/-- for i, x in enumerate(a tuple) -/
theorem pi_enumT {X : Cx} {e : Expr} {ta : TA} {p pos tpos : Pos} {elts : List Expr} {kk : Nat} (hg : Gl X "enumerate") (hm : X.mg "enumerate" = none) (ha : PA X [e] ta) (hs : starEach [e] X.env = [(false, eval e X.env)] := by rfl) :
    PI X (.Tuple elts kk tpos) (.Call (.Name "enumerate" p) [e] [] pos) (iEnumT X.K ta) where
  run := fun pins s σ H R I h => by
    refine Call_ (ld_blt I hg hm boot_enumerate (callWith_type1 (thn (ha.run pos pins s σ H _ I h) ?_) hs rfl))
    rintro us t ⟨_, H1, J, rv, a, xs, rfl, hq, q⟩
    obtain ⟨u, rfl, ru⟩ := vals1 rv
    cases ru
    obtain ⟨its, _, ip, _⟩ := J.tuple hq
    have la : a < t.heap.objs.size := by obtain ⟨o, ho, _⟩ := ip; exact Heap.lt_size ho
    refine enum_starts (begins_tuple a its.toArray) ip fun h' he hi hk => wpAny_pyIter_enum he ?_
    refine ⟨t.heap.objs.size + 1, [t.heap.objs.size + 1, t.heap.objs.size], _, _, H1, rfl, J.kept (t' := t.toks) hk, turn_enumT a _ _ (Nat.succ_ne_self _) (Nat.ne_of_lt la) (Nat.ne_of_lt (Nat.lt_succ_of_lt la)), ⟨⟨_, he⟩, ⟨_, hi, rfl, rfl⟩⟩, fun b hb => ?_, q⟩
    have le : t.heap.objs.size ≤ b := by
      rcases List.mem_cons.mp hb with rfl | hb
      · exact Nat.le_succ _
      · exact Nat.le_of_eq (List.mem_singleton.mp hb).symm
    exact J.fpOk le (J.hok.fresh le)
/-- two texts, sign by sign, the signs in new pairs -/
def ItzS (x y : Str) : It :=
  ⟨fun i _ => ∃ c d : Nat, x.cps[i]? = some c ∧ y.cps[i]? = some d, fun i H v H' => ∃ (T : Addr) (c d : Nat), v = .ref T ∧ H T = none ∧ H' = upd H T (.tup [.str ⟨#[c]⟩, .str ⟨#[d]⟩]) ∧ x.cps[i]? = some c ∧ y.cps[i]? = some d, fun i _ => i = min x.cps.size y.cps.size⟩
structure ZipTx (x y : Str) (t u : Tok) (z TI TO i1 i2 : Addr) (i : Nat) (h : Heap) : Prop where
  zip : IsZip h z TI TO .none
  inn : IsTupOf2 h TI (.ref i1) (.ref i2)
  out : ∃ a1 a2, IsTupOf2 h TO a1 a2
  one : h.IsStrIter i1 (strIterType x) x t i
  two : h.IsStrIter i2 (strIterType y) y u i
theorem ZipTx.cells {x y : Str} {t u : Tok} {z TI TO i1 i2 : Addr} {i : Nat} {h : Heap} (st : ZipTx x y t u z TI TO i1 i2 i h) : ∀ b ∈ [z, TI, TO, i1, i2], ∃ o, h.get? b = some o ∧ ∀ v, o.data ≠ .cell v := by
  obtain ⟨hz, hi, ⟨a1, a2, ho⟩, ⟨o1, p1, _, d1⟩, ⟨o2, p2, _, d2⟩⟩ := st
  intro b hb
  simp only [List.mem_cons, List.not_mem_nil, or_false] at hb
  rcases hb with rfl | rfl | rfl | rfl | rfl
  · exact ⟨_, hz, fun v => nofun⟩
  · exact ⟨_, hi, fun v => nofun⟩
  · exact ⟨_, ho, fun v => nofun⟩
  · exact ⟨o1, p1, fun v q => by rw [d1] at q; cases q⟩
  · exact ⟨o2, p2, fun v q => by rw [d2] at q; cases q⟩
theorem ZipTx.kept {x y : Str} {t u : Tok} {z TI TO i1 i2 : Addr} {i : Nat} {h h' : Heap} (st : ZipTx x y t u z TI TO i1 i2 i h) (k : ∀ b ∈ [z, TI, TO, i1, i2], ∀ o, h.get? b = some o → h'.get? b = some o) : ZipTx x y t u z TI TO i1 i2 i h' where
  zip := k z (by simp) _ st.zip
  inn := k TI (by simp) _ st.inn
  out := let ⟨a1, a2, ho⟩ := st.out; ⟨a1, a2, k TO (by simp) _ ho⟩
  one := let ⟨o, e, c, d⟩ := st.one; ⟨o, k i1 (by simp) o e, c, d⟩
  two := let ⟨o, e, c, d⟩ := st.two; ⟨o, k i2 (by simp) o e, c, d⟩
theorem turn_zipS {P : Program} {w : World} {K : PySem.W.Frag} {elts : List Expr} {kk : Nat} {tpos : Pos} {x y : Str} {t u : Tok} {z TI TO i1 i2 : Addr} (S : ZipSep2 z TI TO i1 i2 [i1] [i2]) :
    Turn P w K (.Tuple elts kk tpos) (ItzS x y) [z, TI, TO, i1, i2] z (ZipTx x y t u z TI TO i1 i2) where
  mem := List.mem_cons_self
  obj := fun i h st => st.cells
  keep := fun i h h' st k => st.kept k
  item := by
    rintro X rfl rfl rfl hc i pins s σ H E I hf st ⟨c, d, hx, hy⟩
    have hh : X.A.in1.handled = none := I.ok.hd hc
    have G := GoesN.zip2 (prog := X.prog) (w := X.w) (A := X.A) (elts := elts) (x1 := kk) (pos := tpos) S (Draws.text (A := X.A.in1) hh i1 x t) (Draws.text (A := X.A.in1) hh i2 y u)
    have lt : ∀ b ∈ [z, TI, TO, i1, i2], b < s.heap.objs.size := fun b hb => let ⟨o, e, _⟩ := st.cells b hb; Heap.lt_size e
    have l1 := (Array.getElem?_eq_some_iff.mp hx).1
    have l2 := (Array.getElem?_eq_some_iff.mp hy).1
    refine G.goes i s _ E (by omega) ⟨st.zip, st.inn, st.out, st.one, st.two⟩ ?_
    rintro v h' tk ⟨T, a1, a2, rfl, hT, ⟨c', t1, q1, rfl⟩, ⟨d', t2, q2, rfl⟩, pT⟩ ⟨s1, s2, s3, s4, s5⟩ hk _
    cases hx.symm.trans q1
    cases hy.symm.trans q2
    exact ⟨.ref T, _, pair_new I hf (fun b o hb e => hk b o (fun q => hb (by revert q; simp; intro q; rcases q with rfl | rfl | rfl | rfl <;> simp)) e) hT pT (show RelV (.str ⟨#[c]⟩) _ from ⟨_, rfl⟩) (show RelV (.str ⟨#[d]⟩) _ from ⟨_, rfl⟩), rfl, ⟨T, c, d, rfl, I.hok.fresh hT, rfl, hx, hy⟩, ⟨s1, s2, s3, s4, s5⟩, own_stays (fun b hb => (hf b hb).1) lt hT⟩
  done := by
    rintro X rfl rfl rfl hc i pins s σ H E I hf st rfl
    have hh : X.A.in1.handled = none := I.ok.hd hc
    have G := GoesN.zip2 (prog := X.prog) (w := X.w) (A := X.A) (elts := elts) (x1 := kk) (pos := tpos) S (Draws.text (A := X.A.in1) hh i1 x t) (Draws.text (A := X.A.in1) hh i2 y u)
    exact G.stops s _ E ⟨st.zip, st.inn, st.out, st.one, st.two⟩ fun h' tk hk _ => I.turnedL (fun b o hb e => hk b o (fun q => hb (by revert q; simp; intro q; rcases q with rfl | rfl | rfl | rfl <;> simp)) e) hf
  self := fun A i s Q E st q => wpAny_pyIter_zip st.zip q
def iZipS (ta : TA) : TI := fun σ H R => ta σ H fun vs H1 => ∃ x y : Str, vs = [.str x, .str y] ∧ R (ItzS x y) H1
/-- for a, b in zip(a text, a text) -/
theorem pi_zipS {X : Cx} {e e2 : Expr} {ta : TA} {p pos tpos : Pos} {elts : List Expr} {kk : Nat} (hg : Gl X "zip") (hm : X.mg "zip" = none) (ha : PA X [e, e2] ta)
    (hs : starEach [e, e2] X.env = (false, eval e X.env) :: starEach [e2] X.env := by rfl) (hp : (backTo pos (starEach [e2] X.env)).any (·.1) = false := by rfl) : PI X (.Tuple elts kk tpos) (.Call (.Name "zip" p) [e, e2] [] pos) (iZipS ta) where
  run := fun pins s σ H R I h => by
    refine Call_ (ld_blt I hg hm boot_zip (callWith_type1 (thn (ha.run pos pins s σ H _ I h) ?_) hs hp))
    rintro us q ⟨_, H1, J, rv, x, y, rfl, r⟩
    cases rv with
    | cons r1 rv =>
    cases rv with
    | cons r2 rv =>
    cases rv
    obtain ⟨t, rfl⟩ := r1
    obtain ⟨u, rfl⟩ := r2
    refine zip_begins2 (begins_text x t) (begins_text y u) trivial trivial fun h' z1 z2 z3 z4 z5 z6 hk => wpAny_pyIter_zip z1 ?_
    refine ⟨_, _, _, _, H1, rfl, J.kept (t' := q.toks) hk, turn_zipS (x := x) (y := y) (t := t) (u := u) (zip_sep2 (N := q.heap.objs.size) (fp1 := []) (fp2 := []) (by simp) (by simp)), ⟨z1, z2, ⟨_, _, z3⟩, ⟨_, z4, rfl, rfl⟩, ⟨_, z5, rfl, rfl⟩⟩, fun b hb => ?_, r⟩
    have le : q.heap.objs.size ≤ b := by
      simp only [List.mem_cons, List.not_mem_nil, or_false] at hb
      rcases hb with rfl | rfl | rfl | rfl | rfl <;> omega
    exact J.fpOk le (J.hok.fresh le)
/-- list(a text) -/
def rListS : List V → Hp → VK → Prop := fun xs H Q => ∃ x : Str, xs = [.str x] ∧ x.cps.size ≤ 1000 ∧ ∀ l, H l = none → Q (.ref l) (upd H l (.lst (x.cps.toList.map fun c => V.str ⟨#[c]⟩)))
theorem vals_signs {x : Str} {acc : Array Value} (h : ItemsOf (SignAt x) acc x.cps.size) : Vals (x.cps.toList.map fun c => V.str ⟨#[c]⟩) acc.toList := by
  have key : ∀ (cs : List Nat) (us : List Value), us.length = cs.length → (∀ (j : Nat) (v : Value), us[j]? = some v → ∃ c u, cs[j]? = some c ∧ v = .str ⟨#[c]⟩ u) → Vals (cs.map fun c => V.str ⟨#[c]⟩) us := fun cs => by
    induction cs with
    | nil =>
      intro us hl _
      cases us with
      | nil => exact .nil
      | cons _ _ => cases hl
    | cons c cs ih =>
      intro us hl hv
      cases us with
      | nil => cases hl
      | cons u us =>
        obtain ⟨c', tk, e1, e2⟩ := hv 0 u rfl
        cases e1
        exact .cons ⟨tk, e2⟩ (ih us (by simpa using hl) fun j v e => hv (j + 1) v e)
  refine key _ _ (by rw [Array.length_toList, Array.length_toList, h.1]) fun j v hv => ?_
  obtain ⟨c, u, hc, rfl⟩ := h.2 j v (by simpa using hv)
  exact ⟨c, u, by simpa using hc, rfl⟩
theorem cr_listS {X : Cx} (hc : X.calm = true) : CallR X (.type "list") rListS := by
  rintro pins s σ H xs us Q I r ⟨x, rfl, hx, q⟩
  obtain ⟨_, rfl, t, rfl⟩ := vals1 r
  refine call_list_str (I.ok.hd hc) x t (fun h' tk acc n hk hS hi => ?_) (Nat.le_trans hx (by decide))
  have new : ObjOk X.prog X.w (upd H s.heap.objs.size (.lst (x.cps.toList.map fun c => V.str ⟨#[c]⟩))) h' s.heap.objs.size (.lst (x.cps.toList.map fun c => V.str ⟨#[c]⟩)) := by
    refine ⟨?_, acc.toList, n, vals_signs hi, by simpa using hS⟩
    rw [List.length_map, Array.length_toList]
    exact Nat.le_trans hx (by decide)
  exact ⟨.ref _, _, I.laid (t' := tk) hk (Nat.le_refl _) new, rfl, q _ (I.hok.fresh (Nat.le_refl _))⟩
end RK

/-! x in a tuple of data; a dict by a comprehension, its keys of any kind that DPut knows (texts, ints, tuples of these) -/
namespace RK
open PySem PySem.Spec PyProof.Rows L2
section
variable {X : Cx}
def rInT (K : PySem.W.Frag) : R2 := fun x y H Q => ∃ d ds, Dp K H x d ∧ Dp K H y (.tuple ds) ∧ SeqAt.shaped d = true ∧ SeqAt.shaped (.tuple ds) = true ∧ Q (.bl (ds.any fun z => PyData.eqv z d)) H
theorem op_inT (hu : X.A.units + 65 < cLine) : OpR X (compareOp .In) (rInT X.K) := by
  rintro pins s σ H x y v u Q I rx ry ⟨d, ds, hd, hs, sd, ss, q⟩
  obtain ⟨_, r1⟩ := Dp.reads I d x v hd rx
  obtain ⟨_, r2⟩ := Dp.reads I (.tuple ds) y u hs ry
  exact SeqAt.in_tuple_reads r2 r1 (SeqAt.canLay_of_shaped (d := .tuple ds) ss) (SeqAt.canLay_of_shaped sd) (room_in_shaped sd hu) ⟨.bl _, H, I, rfl, q⟩
/-- one put of a comprehension -/
theorem put_dict {pins : List (Addr × Obj)} {σ : L2.St} {H H' : Hp} {s : Shared} {E : Value → Shared → Prop} {D : Addr} {y v : V} {u r : Value} {Q : Unit → Shared → Prop} (hu : X.A.units + 1 < cLine) (I : Inv X pins σ H s) (p : DPut H D y v H') (ry : RelV y u) (rv : RelV v r)
    (h : ∀ s', Inv X pins σ H' s' → Q () s') : wpAny (model X.prog X.w) X.A (dictSet D u r) Q E s := by
  rcases p with ⟨kvs, k, e, rfl, l, rfl⟩ | ⟨kvs, k, b, e, rfl, eb, l, rfl⟩
  · exact d_dictSet I e l ry rv h
  · cases ry
    obtain ⟨_, nd, xs, kt, dd⟩ := dt_of I.hok e
    have few : xs.length ≤ sizeLine := by rw [← Paired.length kt]; exact Nat.le_of_lt l
    refine wpAny_dictSet_heap (knd := tupleKind (mixKind X.prog X.w)) (hsz := few) (Nat.lt_of_succ_lt hu) (key_of I.hok eb) dd ?_
    rintro h' ⟨o, es, ep, g1, g2, g3, g4, _, g6⟩ same
    refine h _ (d_write I (by rw [e]; exact True.intro) same ⟨o, g1⟩ ⟨Nat.le_trans (length_putK kvs k v) l, nd, _, (kt.put k eb rv).keeps fun c ys hc => ?_, o, es, ep, g1, g2, g3, g4, g6⟩)
    have apart : c ≠ D := ne_of hc e nofun
    rw [upd_ne apart]
    exact hc
def tDcP (o0 : HO) (wi : TI) (g : TG) (tt : TT) (tk tv : TE) (vs : List Nat) : TE := fun σ H Q => wi σ H fun J H1 => ∀ D, H1 D = none → ∃ W : Nat → Nat → Hp → Prop, (∃ m, W 0 m (upd H1 D o0)) ∧ ∀ i m G, W i m G →
  (J.stop i G ∧ Q (.ref D) G) ∨ (J.go i G ∧ ∃ Nx : Hp → Prop, (∀ G', Nx G' → ∃ m', m' < m ∧ W (i + 1) m' G') ∧ ∀ x G', J.yld i G x G' → g x (wipe σ vs) G' fun σ2 H2 => wipe σ2 vs = wipe σ vs ∧ tt σ2 H2 fun b H3 =>
    if b = true then tk σ2 H3 fun y H4 => tv σ2 H4 fun z H5 => ∃ H6, DPut H5 D y z H6 ∧ Nx H6 else Nx H3)
/-- where a comprehension stands between two turns -/
def CmpSt (Y : Cx) (σ0 : L2.St) (fp : List Addr) (tn : Nat → Heap → Prop) (W : Nat → Nat → Hp → Prop) (n : Nat) (s : Shared) : Prop := ∃ i G, Inv Y [] σ0 G s ∧ tn i s.heap ∧ (∀ b ∈ fp, G b = none) ∧ W i n G
/-- the iterator's cells, pinned while a turn's body runs, are as they were -/
theorem turn_ends {Y : Cx} {σ0 σ8 : L2.St} {fp : List Addr} {ws : List Nat} {σ : L2.St} {tn : Nat → Heap → Prop} {W : Nat → Nat → Hp → Prop} {Nx : Hp → Prop} {i n : Nat} {h7 : Heap} {s' : Shared} {G : Hp} (hσ : σ0 = wipe σ ws) (hw : wipe σ8 ws = wipe σ ws)
    (cells : ∀ b ∈ fp, ∃ o, h7.get? b = some o) (keep : ∀ h', (∀ b ∈ fp, ∀ o, h7.get? b = some o → h'.get? b = some o) → tn (i + 1) h') (I : Inv Y ([] ++ pinsAt fp h7) σ8 G s') (nx : Nx G) (next : ∀ G', Nx G' → ∃ m', m' < n ∧ W (i + 1) m' G') :
    ∃ m, m < n ∧ CmpSt Y σ0 fp tn W m s' := by
  obtain ⟨m, lt, wm⟩ := next G nx
  have pin : ∀ b ∈ fp, ∀ o, h7.get? b = some o → s'.heap.get? b = some o ∧ G b = none := fun b hb o e => by
    have := I.pin (b, o) (List.mem_append_right _ (mem_pinsAt hb e))
    exact ⟨this.1, this.2.1⟩
  refine ⟨m, lt, i + 1, G, (Inv.unpinned (pins := []) I).weak ?_ (fun j v e => ?_), keep _ fun b hb o e => (pin b hb o e).1, fun b hb => ?_, wm⟩
  · rw [hσ, ← hw, wipe_length]
  · rw [hσ, ← hw] at e
    exact (wipe_some e).1
  · obtain ⟨o, e⟩ := cells b hb
    exact (pin b hb o e).2
theorem blk_fp {Y : Cx} {fp : List Addr} {σ' : L2.St} {G : Hp} {s' : Shared} (hx : Y.ex = fp) (hp : Y.pn = []) (I : Inv Y [] σ' G s') (hn : ∀ b ∈ fp, G b = none) : ∀ b ∈ fp, FpOk Y [] G b := fun b hb =>
  ⟨hn b hb, (I.ok.exf b (hx ▸ hb)).1, I.ok.exfs b (hx ▸ hb), .inl (hx ▸ hb), fun x c e => (I.ok.exf b (hx ▸ hb)).2 x c e, fun q hq => absurd (show q ∈ ([] : List (Addr × Obj)) ++ [] from hp ▸ hq) (by simp)⟩
theorem empty_dict {P : Program} {w : World} {o0 : HO} (ho : o0 = .dK [] ∨ o0 = .dT []) {H : Hp} (h : Heap) (hb : sysModules < h.objs.size) : ObjOk P w H (h.push { cls := .type "dict", data := .dict #[] }) h.objs.size o0 := by
  rcases ho with rfl | rfl
  · exact dk_empty h hb
  · exact dt_empty h hb
theorem dcp_core {pins : List (Addr × Obj)} {s : Shared} {σ : L2.St} {H : Hp} {Q : VK} {use : Option (Value → Sem Unit)} {Qf : Value → Shared → Prop} {pos' : Pos} {o0 : HO} (ho : o0 = .dK [] ∨ o0 = .dT []) (hu : X.A.units + 1 < cLine) {kx vx tg iter : Expr} {ifs : List Expr} {scope : Scope} {own : List (Str × Nat)} {pos : Pos} {wi : TI} {g : TG} {tt : TT} {tk tv : TE} (hc : X.calm = true) (hN : X.N.Nodup) (hi : PI X tg iter wi) (ok : BlkOk X.N X.env.scope scope own)
    (hg : ∀ (z : Shared) (G : Hp) (C : Addr) (cl : List (Str × Addr)) (fp : List Addr), PG (X.blk z G scope (compEnvC scope cl C X.env) fp) tg g) (ht : ∀ (z : Shared) (G : Hp) (C : Addr) (cl : List (Str × Addr)) (fp : List Addr), PTs (X.blk z G scope (compEnvC scope cl C X.env) fp) ifs tt)
    (hk : ∀ (z : Shared) (G : Hp) (C : Addr) (cl : List (Str × Addr)) (fp : List Addr), PE (X.blk z G scope (compEnvC scope cl C X.env) fp) kx tk) (he : ∀ (z : Shared) (G : Hp) (C : Addr) (cl : List (Str × Addr)) (fp : List Addr), PE (X.blk z G scope (compEnvC scope cl C X.env) fp) vx tv)
    (hs : ∀ x, foldedSetIterable iter X.env x = pure x) (I : Inv X pins σ H s) (h : tDcP o0 wi g tt tk tv (own.map (·.2)) σ H Q)
    (last : ∀ D C s' m G, Inv X pins σ G s' → Q (.ref D) G → s'.heap.Ns C m → FpOk X pins G C → compPost (model X.prog X.w) X.A X.xe use Qf (.ref D) C (.ok .next) s') :
    wpAny (model X.prog X.w) X.A (comprehension (.DictComp kx vx [⟨tg, iter, ifs, 0⟩] scope pos) scope X.env pos' newDict false (eval iter X.env) use) Qf X.xe s := by
    refine wpAny_comprehension_free (use := use) rfl hs (closure_ok fun y hy e => (ok.free y hy e).elim (fun k => I.ok.has _ (.inl k)) fun k => I.ok.has _ (.inr k)) ok.kind (fun y hy e => by rw [ok.uniq y hy, e]) (thn (hi.run pins s σ H _ I h) fun _ _ hx => thn hx ?_)
    rintro _ s2 ⟨it, fp, tn, J, H2, rfl, I2, T, st2, f2, q⟩
    obtain ⟨W, ⟨m0, w0⟩, turn⟩ := q _ (I2.hok.fresh (Nat.le_refl s2.heap.objs.size))
    refine wpAny_newObj_type (newEnv_comp ?_)
    have lt2 : ∀ b ∈ fp, b < s2.heap.objs.size := fun b hb => let ⟨o, e, _⟩ := T.obj _ _ st2 b hb; Heap.lt_size e
    have grow : ∀ b o, s2.heap.get? b = some o → (s2.heap.push { cls := .type "dict", data := .dict #[] }).get? b = some o := fun b o e => Heap.get?_push_of_some _ e
    have I3 : Inv X pins σ (upd H2 s2.heap.objs.size o0) { s2 with heap := s2.heap.push { cls := .type "dict", data := .dict #[] } } := I2.laid (t' := s2.toks) grow (Nat.le_refl _) (empty_dict ho s2.heap I2.big)
    have st3 := T.keep _ _ _ st2 fun b _ o e => grow b o e
    generalize hD : s2.heap.objs.size = D at I3 w0 turn lt2 ⊢
    have hsz : D < (s2.heap.push { cls := .type "dict", data := .dict #[] }).objs.size := by rw [Heap.size_push, hD]; exact Nat.lt_succ_self _
    generalize s2.heap.push { cls := .type "dict", data := .dict #[] } = h3 at I3 st3 hsz ⊢
    generalize hs3 : ({ s2 with heap := h3 } : Shared) = s3 at I3 ⊢
    have e3 : s3.heap = h3 := by rw [← hs3]
    rw [← e3] at st3 hsz
    have f3 : ∀ b ∈ fp, FpOk X pins (upd H2 D o0) b ∧ b < s3.heap.objs.size := fun b hb => by
      refine ⟨⟨?_, (f2 b hb).2⟩, Nat.lt_trans (lt2 b hb) hsz⟩
      rw [upd_ne (Nat.ne_of_lt (lt2 b hb))]
      exact (f2 b hb).1
    have I4 := block_start I3 ok hN f3
    show codeAny _ _ (.compStart _ 0 _ _ (compEnvC scope (cellsFrom (s3.heap.objs.size + 1) scope.names (cloFrom X.env.cells scope.names [])) s3.heap.objs.size X.env)) _ _
    generalize cellsFrom (s3.heap.objs.size + 1) scope.names (cloFrom X.env.cells scope.names []) = cl at I4 ⊢
    generalize hG : upd H2 D o0 = G3 at I3 I4 w0 f3
    have pg := hg s3 G3 s3.heap.objs.size cl fp
    have pt := ht s3 G3 s3.heap.objs.size cl fp
    have pk := hk s3 G3 s3.heap.objs.size cl fp
    have pv := he s3 G3 s3.heap.objs.size cl fp
    have cL : (compEnvC scope cl s3.heap.objs.size X.env).locals = s3.heap.objs.size := rfl
    generalize compEnvC scope cl s3.heap.objs.size X.env = ce at I4 pg pt pk pv cL ⊢
    have st4 : tn 0 (pushCells (s3.heap.push { cls := .type "dict", data := .dict #[] }) scope.names) := T.keep _ _ _ st3 fun b _ o e => pushCells_keeps _ _ _ _ (Heap.get?_push_of_some _ e)
    generalize hs4 : ({ s3 with heap := pushCells (s3.heap.push { cls := .type "dict", data := .dict #[] }) scope.names } : Shared) = s4 at I4 ⊢
    have st5 : tn 0 s4.heap := by rw [← hs4]; exact st4
    have loop : codeAny (model X.prog X.w) X.A (.compLoop (.DictComp kx vx [⟨tg, iter, ifs, 0⟩] scope pos) 0 (.ref it) (.ref D) ce) (compPost (model X.prog X.w) X.A X.xe use Qf (.ref D) s3.heap.objs.size) s4 := by
      refine compLoop_anyD (CmpSt (X.blk s3 G3 scope ce fp) (wipe σ (own.map (·.2))) fp tn W) ?_ m0 ⟨0, G3, I4, st5, fun b hb => (f3 b hb).1.1, w0⟩
      rintro n s5 ⟨i, G5, I5, t5, n5, w5⟩
      have own5 := blk_fp (Y := X.blk s3 G3 scope ce fp) rfl rfl I5 n5
      rcases turn i n G5 w5 with ⟨stop, fin⟩ | ⟨go, Nx, next, body⟩
      · refine wpAny_mono (T.done (X.blk s3 G3 scope ce fp) rfl rfl rfl hc i [] s5 _ G5 (fun _ _ => False) I5 own5 t5 stop) ?_ (fun _ _ z => z.elim)
        rintro _ s6 ⟨rfl, I6⟩
        have free6 : G5 ce.locals = none := I6.free
        obtain ⟨m, hm, _⟩ := I6.loc
        rw [cL] at free6
        have hm2 : s6.heap.Ns ce.locals m := hm
        rw [cL] at hm2
        have I7 : Inv X pins σ G5 s6 := I3.call' (ch := fp) I6.os I6.base I6.hok I6.bare fun b hb => let f := (f3 b hb).1; ⟨f.2.2.2.1, f.2.1, f.2.2.2.2.1, f.2.2.2.2.2⟩
        exact last D _ s6 m G5 I7 fin hm2 (I3.fpOk (Nat.le_refl _) free6)
      · refine wpAny_mono (T.item (X.blk s3 G3 scope ce fp) rfl rfl rfl hc i [] s5 _ G5 (fun _ _ => False) I5 own5 t5 go) ?_ (fun _ _ z => z.elim)
        rintro _ s6 ⟨u, rfl, h6⟩
        refine wpAny_mono h6 ?_ (fun _ _ z => z.elim)
        rintro _ s7 ⟨x, G7, I7, r7, y7, t7, n7⟩
        have ends := fun {s' : Shared} {G : Hp} {σ8 : L2.St} (hw : wipe σ8 (own.map (·.2)) = wipe σ (own.map (·.2))) (I' : Inv (X.blk s3 G3 scope ce fp) ([] ++ pinsAt fp s7.heap) σ8 G s') (nx : Nx G) =>
          turn_ends rfl hw (fun b hb => let ⟨o, e, _⟩ := T.obj _ _ t7 b hb; ⟨o, e⟩) (fun h' k => T.keep _ _ _ t7 k) I' nx next
        have I8 := I7.pinned (blk_fp (Y := X.blk s3 G3 scope ce fp) rfl rfl I7 n7) (T.obj _ _ t7)
        refine wpAny_mono (pg.run _ s7 _ G7 x u _ I8 r7 (body x G7 y7)) ?_ (fun _ _ z => (show False from z).elim)
        rintro _ s8 ⟨σ8, G8, J8, hw8, q8⟩
        refine wpAny_mono (pt.run _ s8 σ8 G8 _ J8 q8) ?_ (fun _ _ z => (show False from z).elim)
        rintro b s9 ⟨G9, J9, q9⟩
        cases b with
        | false =>
          rw [if_neg (by decide)] at q9 ⊢
          exact ends hw8 J9 q9
        | true =>
          rw [if_pos rfl] at q9 ⊢
          refine wpAny_mono (pk.run _ s9 σ8 G9 _ J9 q9) ?_ (fun _ _ z => (show False from z).elim)
          rintro a1 s10 ⟨yk, G10, J10, r10, q10⟩
          refine wpAny_mono (pv.run _ s10 σ8 G10 _ J10 q10) ?_ (fun _ _ z => (show False from z).elim)
          rintro a2 s11 ⟨yv, G11, J11, r11, G12, put, nx⟩
          exact put_dict (X := X.blk s3 G3 scope ce fp) hu J11 put r10 r11 fun s12 J12 => ends hw8 J12 nx
    exact codeAny_compStart_dict loop (T.self X.A 0 _ _ _ st5 loop)
/-- {k: v for ..}, as a value -/
theorem pe_dcP {o0 : HO} (ho : o0 = .dK [] ∨ o0 = .dT []) (hu : X.A.units + 1 < cLine) {kx vx tg iter : Expr} {ifs : List Expr} {scope : Scope} {own : List (Str × Nat)} {pos : Pos} {wi : TI} {g : TG} {tt : TT} {tk tv : TE} (hc : X.calm = true) (hN : X.N.Nodup) (hi : PI X tg iter wi) (ok : BlkOk X.N X.env.scope scope own)
    (hg : ∀ (z : Shared) (G : Hp) (C : Addr) (cl : List (Str × Addr)) (fp : List Addr), PG (X.blk z G scope (compEnvC scope cl C X.env) fp) tg g) (ht : ∀ (z : Shared) (G : Hp) (C : Addr) (cl : List (Str × Addr)) (fp : List Addr), PTs (X.blk z G scope (compEnvC scope cl C X.env) fp) ifs tt)
    (hk : ∀ (z : Shared) (G : Hp) (C : Addr) (cl : List (Str × Addr)) (fp : List Addr), PE (X.blk z G scope (compEnvC scope cl C X.env) fp) kx tk) (he : ∀ (z : Shared) (G : Hp) (C : Addr) (cl : List (Str × Addr)) (fp : List Addr), PE (X.blk z G scope (compEnvC scope cl C X.env) fp) vx tv)
    (hs : ∀ x, foldedSetIterable iter X.env x = pure x := by intro _; rfl) : PE X (.DictComp kx vx [⟨tg, iter, ifs, 0⟩] scope pos) (tDcP o0 wi g tt tk tv (own.map (·.2))) where
  run := fun pins s σ H Q I h => by
    rw [arm_eval_DictComp]
    refine dcp_core ho hu hc hN hi ok hg ht hk he hs I h fun D C s' m G J q hm f => ⟨m, hm, fun h'' sb => ?_⟩
    obtain ⟨g0, g1, _, g3, g4, g5⟩ := f
    exact ⟨.ref D, G, J.turned (t' := s'.toks) (fun b o hb e => (sb.2 b hb).trans e) g0 g1 g3 g4 g5, rfl, q⟩
/-- y = {k: v for ..} -/
theorem ps_setDc {i : Nat} {y : Str} {py spos : Pos} {o0 : HO} (ho : o0 = .dK [] ∨ o0 = .dT []) (hu : X.A.units + 1 < cLine) {kx vx tg iter : Expr} {ifs : List Expr} {scope : Scope} {own : List (Str × Nat)} {pos : Pos} {wi : TI} {g : TG} {tt : TT} {tk tv : TE} (hc : X.calm = true) (hN : X.N.Nodup) (hy : X.N[i]? = some y) (hyl : X.env.scope.names.lookup y = some .local)
    (hsw : swapsWith (.DictComp kx vx [⟨tg, iter, ifs, 0⟩] scope pos) (some (.Name y py)) spos.line X.env = pure true) (hi : PI X tg iter wi) (ok : BlkOk X.N X.env.scope scope own)
    (hg : ∀ (z : Shared) (G : Hp) (C : Addr) (cl : List (Str × Addr)) (fp : List Addr), PG (X.blk z G scope (compEnvC scope cl C X.env) fp) tg g) (ht : ∀ (z : Shared) (G : Hp) (C : Addr) (cl : List (Str × Addr)) (fp : List Addr), PTs (X.blk z G scope (compEnvC scope cl C X.env) fp) ifs tt)
    (hk : ∀ (z : Shared) (G : Hp) (C : Addr) (cl : List (Str × Addr)) (fp : List Addr), PE (X.blk z G scope (compEnvC scope cl C X.env) fp) kx tk) (he : ∀ (z : Shared) (G : Hp) (C : Addr) (cl : List (Str × Addr)) (fp : List Addr), PE (X.blk z G scope (compEnvC scope cl C X.env) fp) vx tv)
    (hs : ∀ x, foldedSetIterable iter X.env x = pure x := by intro _; rfl) : PS X (.Assign [.Name y py] (.DictComp kx vx [⟨tg, iter, ifs, 0⟩] scope pos) spos) (tAsg (tDcP o0 wi g tt tk tv (own.map (·.2))) (gName i)) where
  run := fun pins s σ H D I h => by
    have h2 : tDcP o0 wi g tt tk tv (own.map (·.2)) σ H (fun x H1 => gName i x σ H1 D.nx) := h
    rw [exec_Assign_Name_used _ _ _ _ hsw]
    refine wpAny_bind (wpAny_standAt (wpAny_bind ?_))
    show wpAny _ X.A (do let _ ← comprehension (.DictComp kx vx [⟨tg, iter, ifs, 0⟩] scope pos) scope X.env (firstIterPos [⟨tg, iter, ifs, 0⟩] pos) newDict false (eval iter X.env) (some (assign (.Name y py) X.env))) _ _ s
    refine wpAny_bind (thn (dcp_core (Qf := fun _ s' => SP X pins D .next s') ho hu hc hN hi ok hg ht hk he hs I h2 fun L C s' m G J q hm f => ?_) fun _ s' hq => wpAny_pure (wpAny_pure hq))
    obtain ⟨g0, g1, _, g3, g4, g5⟩ := f
    show wpAny _ _ (assign (.Name y py) X.env (.ref L)) _ _ _
    refine wpAny_assign_Name (store_ok2 (v := V.ref L) J hN hy (.inl hyl) rfl (fun s2 J2 ⟨c, sb, hc⟩ => ?_) (.inr hyl))
    have far : C ≠ c := hc.elim (fun z => z ▸ g1) fun z e => g4 y c z e.symm
    exact ⟨m, hm.sameBut sb far, fun h3 sb3 => ⟨_, G, J2.turned (t' := s2.toks) (fun b o hb e => (sb3.2 b hb).trans e) g0 g1 g3 g4 g5, q⟩⟩
theorem sw_trueD {kx vx : Expr} {gs : List Comprehension} {scope : Scope} {pos py : Pos} {y : Str} {l : Nat} {env : Env} (hk : env.scope.kind = .function) (hy : env.scope.names.lookup y = some .local) (hl : (py.line == pos.line) = true)
    (ha : (scope.names.any fun (n, k) => n == y && (k == .local || k == .cell)) = false) : swapsWith (.DictComp kx vx gs scope pos) (some (.Name y py)) l env = pure true := by
  have k1 : env.kindOf y = some .local := hy
  have k2 : env.blockKind = .function := by
    unfold Env.blockKind
    rw [hk]
    rfl
  unfold swapsWith
  simp only [k2, k1, ha, Expr.pos, hl]
  rfl
end
end RK

/-! t[lo:hi:step] of a tuple, the step not 1 -/
namespace RK
open PySem PySem.Spec PyProof.Rows L2
/-- the places that a slice with a step takes -/
def stepAt {α : Type} (xs : List α) (lo hi : Option Int) (st : Int) : List α :=
  (List.range (Builtin.Slice.slicePlaces (Builtin.Slice.sliceAdjust lo hi st (xs.length : Int)).1 (Builtin.Slice.sliceAdjust lo hi st (xs.length : Int)).2 st)).filterMap fun (k : Nat) => xs[((Builtin.Slice.sliceAdjust lo hi st (xs.length : Int)).1 + (k : Int) * st).toNat]?
theorem vals_pick {xs : List V} {us : List Value} (r : Vals xs us) (f : Nat → Nat) : ∀ ks : List Nat, Vals (ks.filterMap fun k => xs[f k]?) (ks.filterMap fun k => us[f k]?)
  | [] => .nil
  | k :: ks => by
    have ih := vals_pick r f ks
    cases e : xs[f k]? with
    | none =>
      have e2 : us[f k]? = none := by rw [List.getElem?_eq_none_iff] at e ⊢; rw [← r.length]; exact e
      rw [List.filterMap_cons, List.filterMap_cons, e, e2]
      exact ih
    | some x =>
      obtain ⟨u, hu, ru⟩ := r.get e
      rw [List.filterMap_cons, List.filterMap_cons, e, hu]
      exact .cons ru ih
section
variable {P : Program} {w : World} {A : Around} {E : Value → Shared → Prop} {s : Shared}
theorem applied_step {sl : Addr} {vl vu vs : Value} {lo hi : Option Int} {st : Int} {n : Nat} {Q : Int × Int × Nat → Shared → Prop} (hs : s.heap.IsSliceOf sl vl vu vs) (pl : IsPart vl lo) (pu : IsPart vu hi) (ps : IsPart vs (some st)) (h0 : st ≠ 0)
    (q : Q ((Builtin.Slice.sliceAdjust lo hi st (n : Int)).1, st, Builtin.Slice.slicePlaces (Builtin.Slice.sliceAdjust lo hi st (n : Int)).1 (Builtin.Slice.sliceAdjust lo hi st (n : Int)).2 st) s) :
    wpAny (model P w) A (Builtin.Slice.sliceApplied (.ref sl) (pure (n : Int))) Q E s := by
  obtain ⟨os, g1, g2, g3⟩ := id hs
  unfold Builtin.Slice.sliceApplied Builtin.Slice.sliceFields
  refine wpAny_bind (wpAny_bind (wpAny_field g1 g3 (x := vl) rfl (wpAny_bind (wpAny_field g1 g3 (x := vu) rfl (wpAny_bind (wpAny_field g1 g3 (x := vs) rfl (wpAny_pure ?_)))))))
  refine wpAny_bind (HT.slicePart_ ps ?_)
  show wpAny _ _ (if (st == 0) = true then _ else _) _ _ s
  rw [if_neg (by simpa using h0)]
  refine wpAny_bind (HT.slicePart_ pl (wpAny_bind (HT.slicePart_ pu (wpAny_bind (wpAny_pure ?_)))))
  exact wpAny_pure q
theorem getItem_tup_step {t sl : Addr} {us : List Value} {vl vu vs : Value} {lo hi : Option Int} {st : Int} {Q : Value → Shared → Prop} (ht : IsTup s.heap t us.toArray) (hs : s.heap.IsSliceOf sl vl vu vs) (pl : IsPart vl lo) (pu : IsPart vu hi) (ps : IsPart vs (some st)) (h0 : st ≠ 0) (h1 : st ≠ 1)
    (hz : (stepAt us lo hi st).length ≤ sizeLine) (q : Q (.ref s.heap.objs.size) { s with heap := s.heap.push { cls := .type "tuple", data := .seq (stepAt us lo hi st).toArray } }) : wpAny (model P w) A (getItem (.ref t) (.ref sl)) Q E s := by
  have isSlice : s.TypeIs (.ref sl) "slice" := let ⟨os, a, b, _⟩ := hs; ⟨os, a, b⟩
  have fits : sizeOk (.seq (stepAt us lo hi st).toArray) := by
    show (stepAt us lo hi st).toArray.size ≤ sizeLine
    rw [List.size_toArray]
    exact hz
  unfold getItem
  try with_reducible refine wpAny_holding ?_
  first | refine wpAny_bind (wpAny_pure ?_) | skip
  refine wpAny_bind (wpAny_sequenceKey ht.typeIs (by decide) (wpAny_bind (wpAny_callSpecial?_slot (name := Str.ofString "__getitem__") ht.typeIs slot_tuple_getitem (wpAny_call_entry slot_tuple_getitem ht.typeIs entry_tuple_getitem ?_ (args_tuple_getitem _ _)))))
  show wpAny _ _ (Builtin.Tuple.tupleItemsOf (.ref t) >>= _) _ _ s
  refine wpAny_bind (tupleItemsOf_ ht (wpAny_bind (wpAny_typeOf isSlice ?_)))
  rw [if_pos (by decide), List.size_toArray]
  refine wpAny_bind (applied_step hs pl pu ps h0 ?_)
  have other : ¬ (((Builtin.Slice.sliceAdjust lo hi st (us.length : Int)).1 == 0 && st == 1 && Builtin.Slice.slicePlaces (Builtin.Slice.sliceAdjust lo hi st (us.length : Int)).1 (Builtin.Slice.sliceAdjust lo hi st (us.length : Int)).2 st == us.length) = true) := by
    rw [show (st == 1) = false from by simpa using h1, Bool.and_false, Bool.false_and]
    decide
  show wpAny _ _ (if ((Builtin.Slice.sliceAdjust lo hi st (us.length : Int)).1 == 0 && st == 1 && Builtin.Slice.slicePlaces (Builtin.Slice.sliceAdjust lo hi st (us.length : Int)).1 (Builtin.Slice.sliceAdjust lo hi st (us.length : Int)).2 st == us.length) = true then _ else _) _ _ s
  rw [if_neg other]
  have same : ((List.range (Builtin.Slice.slicePlaces (Builtin.Slice.sliceAdjust lo hi st (us.length : Int)).1 (Builtin.Slice.sliceAdjust lo hi st (us.length : Int)).2 st)).filterMap fun (k : Nat) => us.toArray[((Builtin.Slice.sliceAdjust lo hi st (us.length : Int)).1 + (k : Int) * st).toNat]?) = stepAt us lo hi st := by
    unfold stepAt
    refine congrArg (List.filterMap · _) (funext fun k => ?_)
    simp
  rw [same]
  first
    | exact wpAny_bind (m := Builtin.Tuple.tupleExact _) (wpAny_newObj_type (wpAny_pure ⟨_, rfl, wpAny_pure q⟩) fits)
    | exact wpAny_bind (wpAny_bind (m := Builtin.Tuple.tupleExact _) (wpAny_newObj_type (wpAny_pure ⟨_, rfl, wpAny_pure q⟩) fits))
    | exact wpAny_bind (m := Builtin.Tuple.tupleExact _) (wpAny_newObj_type (wpAny_bind (wpAny_pure (wpAny_pure ⟨_, rfl, wpAny_pure q⟩))) fits)
    | exact wpAny_bind (wpAny_bind (m := Builtin.Tuple.tupleExact _) (wpAny_newObj_type (wpAny_pure (wpAny_pure ⟨_, rfl, wpAny_pure q⟩)) fits))
end
section
variable {X : Cx}
def tSlStep (K : PySem.W.Frag) (te : TE) (tl th ts : TO) : TE := fun σ H Q => te σ H fun x H1 => tl σ H1 fun l H2 => th σ H2 fun u H3 => ts σ H3 fun o H4 => ∃ a xs st, x = .ref a ∧ o = some st ∧ st ≠ 0 ∧ st ≠ 1 ∧ SqT K H4 a xs ∧ (stepAt xs l u st).length ≤ sizeLine ∧
  ∀ p, H4 p = none → Q (.ref p) (upd H4 p (.tup (stepAt xs l u st)))
theorem pe_sliceStep {e c : Expr} {lo hi : Option Expr} {te : TE} {tl th ts : TO} {p3 pos : Pos} (he : PE X e te) (hl : PO X lo tl) (hh : PO X hi th) (hs : PO X (some c) ts) (hw : ∀ a b, subscripted (.Slice lo hi (some c) p3) false (.ref a) (.ref b) = operate [.ref a, .ref b] (getItem (.ref a) (.ref b)) := by intro _ _; with_unfolding_all rfl) :
    PE X (.Subscript e (.Slice lo hi (some c) p3) pos) (tSlStep X.K te tl th ts) where
  run := fun pins s σ H Q I h => by
    refine Subscript_ (thn (he.run pins s σ H _ I h) ?_)
    rintro v s1 ⟨x, H1, I1, r1, q1⟩
    refine wpAny_Slice (thn (hl.run pins s1 σ H1 _ I1 q1) ?_)
    rintro vl s2 ⟨l, H2, I2, pl, q2⟩
    refine thn (hh.run pins s2 σ H2 _ I2 q2) ?_
    rintro vu s3 ⟨u, H3, I3, pu, q3⟩
    refine thn (hs.run pins s3 σ H3 _ I3 q3) ?_
    rintro vs s4 ⟨o, H4, I4, ps, a, xs, st, rfl, rfl, n0, n1, hx, hz, q⟩
    cases r1
    have I5 : Inv X pins σ H4 { s4 with heap := s4.heap.push { cls := .type "slice", data := .fields #[vl, vu, vs] } } := I4.kept (t' := s4.toks) fun b ob z => Heap.get?_push_of_some _ z
    obtain ⟨us, rv, it, _⟩ := I5.tuple hx
    have r2 : Vals (stepAt xs l u st) (stepAt us l u st) := by
      unfold stepAt
      rw [rv.length]
      exact vals_pick rv _ _
    have hz2 : (stepAt us l u st).length ≤ sizeLine := by rw [← r2.length]; exact hz
    show wpAny (model X.prog X.w) X.A (subscriptTail e (.Slice lo hi (some c) p3) (.ref a) (.ref s4.heap.objs.size)) (EP X pins σ Q) X.xe { s4 with heap := s4.heap.push { cls := .type "slice", data := .fields #[vl, vu, vs] } }
    refine tail_any (ops := [.ref a, .ref s4.heap.objs.size]) it.typeIs slot_tuple_getitem.lookup ?_ (hw _ _)
    refine getItem_tup_step it (Heap.IsSliceOf.new _ vl vu vs) pl pu ps n0 n1 hz2 ?_
    exact ⟨.ref _, _, I5.laid (t' := s4.toks) (o := .tup (stepAt xs l u st)) (fun b ob z => Heap.get?_push_of_some _ z) (Nat.le_refl _) ⟨hz, _, r2, _, Heap.get?_push_size _ rfl, rfl, _, rfl⟩, rfl, q _ (I5.hok.fresh (Nat.le_refl _))⟩
end
end RK

/-! shortest rows of ties: by middles (Floyd, Warshall), and by turns (Bellman, Ford); both are the least sums -/
namespace RPath
variable {α : Type} [DecidableEq α]
abbrev Tab (α : Type) := α → α → Option Int
abbrev Tie (α : Type) := α × α × Int
def put (d : Tab α) (p q : α) (x : Int) : Tab α := fun a b => if a = p ∧ b = q then some x else d a b
theorem put_same (d : Tab α) (p q : α) (x : Int) : put d p q x p q = some x := by unfold put; rw [if_pos ⟨rfl, rfl⟩]
theorem put_ne (d : Tab α) {p q a b : α} (x : Int) (h : ¬ (a = p ∧ b = q)) : put d p q x a b = d a b := by unfold put; rw [if_neg h]
/-- a walk over the ties, in either direction -/
inductive Wk (E : List (Tie α)) : α → α → Int → Prop
  | nil (p : α) : Wk E p p 0
  | fwd {p u v : α} {n w : Int} : Wk E p u n → (u, v, w) ∈ E → Wk E p v (n + w)
  | bwd {p u v : α} {n w : Int} : Wk E p u n → (v, u, w) ∈ E → Wk E p v (n + w)
def Pos (E : List (Tie α)) : Prop := ∀ t ∈ E, 0 ≤ t.2.2
def In (E : List (Tie α)) (ps : List α) : Prop := ∀ t ∈ E, t.1 ∈ ps ∧ t.2.1 ∈ ps
theorem Wk.nonneg {E : List (Tie α)} (hE : Pos E) {p q : α} {n : Int} (h : Wk E p q n) : 0 ≤ n := by
  induction h with
  | nil => exact Int.le_refl 0
  | fwd _ m ih => have := hE _ m; simp only at this; omega
  | bwd _ m ih => have := hE _ m; simp only at this; omega
theorem Wk.cat {E : List (Tie α)} {p m q : α} {a b : Int} (h1 : Wk E p m a) (h2 : Wk E m q b) : Wk E p q (a + b) := by
  induction h2 with
  | nil => rw [Int.add_zero]; exact h1
  | fwd _ mem ih => rw [← Int.add_assoc]; exact .fwd ih mem
  | bwd _ mem ih => rw [← Int.add_assoc]; exact .bwd ih mem
def Sound (E : List (Tie α)) (d : Tab α) : Prop := ∀ p q x, d p q = some x → Wk E p q x
/-- one table is nowhere above another one -/
def Le (d e : Tab α) : Prop := ∀ p q y, e p q = some y → ∃ x, d p q = some x ∧ x ≤ y
theorem Le.refl (d : Tab α) : Le d d := fun _ _ y h => ⟨y, h, Int.le_refl _⟩
theorem Le.trans {d e f : Tab α} (h : Le d e) (k : Le e f) : Le d f := fun p q y hy => by
  obtain ⟨x, hx, l⟩ := k p q y hy
  obtain ⟨z, hz, l2⟩ := h p q x hx
  exact ⟨z, hz, Int.le_trans l2 l⟩
/-- put x at (p, q) if there is nothing or more -/
def low (d : Tab α) (p q : α) (x : Int) : Tab α := match d p q with | none => put d p q x | some c => if x < c then put d p q x else d
theorem low_le (d : Tab α) (p q : α) (x : Int) : Le (low d p q x) d := fun a b y hy => by
  unfold low
  cases e : d p q with
  | none =>
    show ∃ z, put d p q x a b = Option.some z ∧ z ≤ y
    rw [put_ne d x (fun h => by rw [h.1, h.2, e] at hy; cases hy)]
    exact ⟨y, hy, Int.le_refl _⟩
  | some c =>
    show ∃ z, (if x < c then put d p q x else d) a b = Option.some z ∧ z ≤ y
    split
    · by_cases h : a = p ∧ b = q
      · rw [h.1, h.2, e] at hy
        cases hy
        rw [h.1, h.2, put_same]
        exact ⟨x, rfl, by omega⟩
      · rw [put_ne d x h]
        exact ⟨y, hy, Int.le_refl _⟩
    · exact ⟨y, hy, Int.le_refl _⟩
theorem low_at (d : Tab α) (p q : α) (x : Int) : ∃ z, low d p q x p q = some z ∧ z ≤ x := by
  unfold low
  cases e : d p q with
  | none => exact ⟨x, put_same d p q x, Int.le_refl _⟩
  | some c =>
    show ∃ z, (if x < c then put d p q x else d) p q = Option.some z ∧ z ≤ x
    split
    · exact ⟨x, put_same d p q x, Int.le_refl _⟩
    · exact ⟨c, e, by omega⟩
theorem low_sound {E : List (Tie α)} {d : Tab α} {p q : α} {x : Int} (h : Sound E d) (w : Wk E p q x) : Sound E (low d p q x) := fun a b y hy => by
  have hp : ∀ a b y, put d p q x a b = some y → Wk E a b y := fun a b y hy => by
    by_cases e : a = p ∧ b = q
    · rw [e.1, e.2, put_same] at hy
      cases hy
      rw [e.1, e.2]
      exact w
    · rw [put_ne d x e] at hy
      exact h a b y hy
  unfold low at hy
  cases e : d p q with
  | none => rw [e] at hy; exact hp a b y hy
  | some c =>
    rw [e] at hy
    have hy : (if x < c then put d p q x else d) a b = Option.some y := hy
    split at hy
    · exact hp a b y hy
    · exact h a b y hy
/-! ### by middles -/
def short (d : Tab α) (p m q : α) : Tab α := match d p m, d m q with | some a, some b => low d p q (a + b) | _, _ => d
theorem short_le (d : Tab α) (p m q : α) : Le (short d p m q) d := by
  unfold short
  split
  · exact low_le d p q _
  · exact .refl d
theorem short_sound {E : List (Tie α)} {d : Tab α} {p m q : α} (h : Sound E d) : Sound E (short d p m q) := by
  unfold short
  split
  · rename_i a b e1 e2
    exact low_sound h ((h _ _ _ e1).cat (h _ _ _ e2))
  · exact h
theorem short_at (d : Tab α) {p m q : α} {a b : Int} (h1 : d p m = some a) (h2 : d m q = some b) : ∃ x, short d p m q p q = some x ∧ x ≤ a + b := by
  unfold short
  rw [h1, h2]
  exact low_at d p q _
def pass1 (ps : List α) (d : Tab α) (p m : α) : Tab α := ps.foldl (fun d q => short d p m q) d
def pass2 (qs ps : List α) (d : Tab α) (m : α) : Tab α := qs.foldl (fun d p => pass1 ps d p m) d
def passes (ms ps : List α) (d : Tab α) : Tab α := ms.foldl (fun d m => pass2 ps ps d m) d
theorem foldl_le {β : Type} (f : Tab α → β → Tab α) (h : ∀ d b, Le (f d b) d) : ∀ (l : List β) (d : Tab α), Le (l.foldl f d) d
  | [], d => .refl d
  | b :: l, d => (foldl_le f h l (f d b)).trans (h d b)
theorem foldl_sound {β : Type} {E : List (Tie α)} (f : Tab α → β → Tab α) : ∀ (l : List β) (d : Tab α), (∀ d, ∀ b ∈ l, Sound E d → Sound E (f d b)) → Sound E d → Sound E (l.foldl f d)
  | [], d, _, hd => hd
  | b :: l, d, h, hd => foldl_sound f l (f d b) (fun d c hc => h d c (List.mem_cons_of_mem _ hc)) (h d b List.mem_cons_self hd)
theorem pass1_le (ps : List α) (d : Tab α) (p m : α) : Le (pass1 ps d p m) d := foldl_le _ (fun d q => short_le d p m q) ps d
theorem pass2_le (qs ps : List α) (d : Tab α) (m : α) : Le (pass2 qs ps d m) d := foldl_le _ (fun d p => pass1_le ps d p m) qs d
theorem Le.some {d e : Tab α} (h : Le d e) {p q : α} {y : Int} (hy : e p q = some y) : ∃ x, d p q = some x ∧ x ≤ y := h p q y hy
theorem pass1_at {p m q : α} {a b : Int} : ∀ (ps : List α) (d : Tab α), q ∈ ps → d p m = some a → d m q = some b → ∃ x, pass1 ps d p m p q = some x ∧ x ≤ a + b
  | [], _, h, _, _ => by cases h
  | r :: ps, d, h, h1, h2 => by
    have st : Le (pass1 ps (short d p m r) p m) (short d p m r) := pass1_le ps _ p m
    show ∃ x, pass1 ps (short d p m r) p m p q = Option.some x ∧ x ≤ a + b
    by_cases e : q = r
    · subst e
      obtain ⟨x, hx, l⟩ := short_at d h1 h2
      obtain ⟨y, hy, l2⟩ := st.some hx
      exact ⟨y, hy, Int.le_trans l2 l⟩
    · obtain ⟨a', h1', la⟩ := (short_le d p m r).some h1
      obtain ⟨b', h2', lb⟩ := (short_le d p m r).some h2
      obtain ⟨x, hx, l⟩ := pass1_at ps _ ((List.mem_cons.mp h).resolve_left e) h1' h2'
      exact ⟨x, hx, by omega⟩
theorem pass2_at {ps : List α} {p m q : α} {a b : Int} (hq : q ∈ ps) : ∀ (qs : List α) (d : Tab α), p ∈ qs → d p m = some a → d m q = some b → ∃ x, pass2 qs ps d m p q = some x ∧ x ≤ a + b
  | [], _, h, _, _ => by cases h
  | r :: qs, d, h, h1, h2 => by
    have st : Le (pass2 qs ps (pass1 ps d r m) m) (pass1 ps d r m) := pass2_le qs ps _ m
    show ∃ x, pass2 qs ps (pass1 ps d r m) m p q = Option.some x ∧ x ≤ a + b
    by_cases e : p = r
    · subst e
      obtain ⟨x, hx, l⟩ := pass1_at ps d hq h1 h2
      obtain ⟨y, hy, l2⟩ := st.some hx
      exact ⟨y, hy, Int.le_trans l2 l⟩
    · obtain ⟨a', h1', la⟩ := (pass1_le ps d r m).some h1
      obtain ⟨b', h2', lb⟩ := (pass1_le ps d r m).some h2
      obtain ⟨x, hx, l⟩ := pass2_at hq qs _ ((List.mem_cons.mp h).resolve_left e) h1' h2'
      exact ⟨x, hx, by omega⟩
/-- a walk of one tie at least, all of whose inner places lie in S -/
inductive Wi (E : List (Tie α)) (S : List α) : α → α → Int → Prop
  | one {p q : α} {w : Int} : (p, q, w) ∈ E ∨ (q, p, w) ∈ E → Wi E S p q w
  | more {p u q : α} {n w : Int} : Wi E S p u n → u ∈ S → (u, q, w) ∈ E ∨ (q, u, w) ∈ E → Wi E S p q (n + w)
theorem Wi.nonneg {E : List (Tie α)} {S : List α} (hE : Pos E) {p q : α} {n : Int} (h : Wi E S p q n) : 0 ≤ n := by
  have e : ∀ {u q : α} {w : Int}, (u, q, w) ∈ E ∨ (q, u, w) ∈ E → 0 ≤ w := fun m => m.elim (fun m => hE _ m) fun m => hE _ m
  induction h with
  | one m => exact e m
  | more _ _ m ih => have := e m; omega
theorem Wi.split {E : List (Tie α)} {S : List α} {m : α} (hE : Pos E) {p q : α} {n : Int} (h : Wi E (S ++ [m]) p q n) : (∃ k, Wi E S p q k ∧ k ≤ n) ∨ ∃ a b, Wi E S p m a ∧ Wi E S m q b ∧ a + b ≤ n := by
  induction h with
  | one mem => exact .inl ⟨_, .one mem, Int.le_refl _⟩
  | @more u q n w _ hu mem ih =>
    by_cases e : u = m
    · subst e
      rcases ih with ⟨k, hk, l⟩ | ⟨a, b, ha, hb, l⟩
      · exact .inr ⟨k, w, hk, .one mem, by omega⟩
      · have := hb.nonneg hE
        exact .inr ⟨a, w, ha, .one mem, by omega⟩
    · have hS : u ∈ S := (List.mem_append.mp hu).resolve_right fun z => e (List.mem_singleton.mp z)
      rcases ih with ⟨k, hk, l⟩ | ⟨a, b, ha, hb, l⟩
      · exact .inl ⟨_, .more hk hS mem, by omega⟩
      · exact .inr ⟨a, _, ha, .more hb hS mem, by omega⟩
/-- the table knows all walks through S -/
def Knows (E : List (Tie α)) (ps S : List α) (d : Tab α) : Prop := ∀ p q n, p ∈ ps → q ∈ ps → Wi E S p q n → ∃ x, d p q = some x ∧ x ≤ n
theorem knows_pass {E : List (Tie α)} {ps S : List α} {m : α} {d : Tab α} (hE : Pos E) (hm : m ∈ ps) (h : Knows E ps S d) : Knows E ps (S ++ [m]) (pass2 ps ps d m) := fun p q n hp hq w => by
  rcases w.split hE with ⟨k, hk, l⟩ | ⟨a, b, ha, hb, l⟩
  · obtain ⟨x, hx, lx⟩ := h p q k hp hq hk
    obtain ⟨y, hy, ly⟩ := (pass2_le ps ps d m).some hx
    exact ⟨y, hy, by omega⟩
  · obtain ⟨x, hx, lx⟩ := h p m a hp hm ha
    obtain ⟨y, hy, ly⟩ := h m q b hm hq hb
    obtain ⟨z, hz, lz⟩ := pass2_at hq ps d hp hx hy
    exact ⟨z, hz, by omega⟩
theorem knows_passes {E : List (Tie α)} {ps : List α} (hE : Pos E) : ∀ (ms S : List α) (d : Tab α), (∀ m ∈ ms, m ∈ ps) → Knows E ps S d → Knows E ps (S ++ ms) (passes ms ps d)
  | [], S, d, _, h => by rw [List.append_nil]; exact h
  | m :: ms, S, d, hm, h => by
    have := knows_passes hE ms (S ++ [m]) _ (fun x hx => hm x (List.mem_cons_of_mem _ hx)) (knows_pass hE (hm m List.mem_cons_self) h)
    rw [List.append_assoc] at this
    exact this
/-- what is asked: each entry is a walk's length, and no walk is shorter -/
structure Exact (E : List (Tie α)) (ps : List α) (d : Tab α) : Prop where
  sound : Sound E d
  least : ∀ p q n, p ∈ ps → q ∈ ps → Wk E p q n → ∃ x, d p q = some x ∧ x ≤ n
theorem wk_wi {E : List (Tie α)} {ps : List α} (hI : In E ps) {p q : α} {n : Int} (h : Wk E p q n) : (p = q ∧ n = 0) ∨ Wi E ps p q n := by
  induction h with
  | nil => exact .inl ⟨rfl, rfl⟩
  | fwd _ m ih =>
    rcases ih with ⟨e, z⟩ | w
    · subst e z; rw [Int.zero_add]; exact .inr (.one (.inl m))
    · exact .inr (.more w (hI _ m).1 (.inl m))
  | bwd _ m ih =>
    rcases ih with ⟨e, z⟩ | w
    · subst e z; rw [Int.zero_add]; exact .inr (.one (.inr m))
    · exact .inr (.more w (hI _ m).2 (.inr m))
theorem passes_sound {E : List (Tie α)} (ms ps : List α) (d : Tab α) (h : Sound E d) : Sound E (passes ms ps d) :=
  foldl_sound _ _ _ (fun d m _ hd => foldl_sound _ _ _ (fun d p _ hd => foldl_sound _ _ _ (fun d q _ hd => short_sound hd) hd) hd) h
theorem passes_le (ms ps : List α) (d : Tab α) : Le (passes ms ps d) d := foldl_le _ (fun d m => pass2_le ps ps d m) ms d
/-- the table of the ties themselves -/
structure Start (E : List (Tie α)) (ps : List α) (d : Tab α) : Prop where
  sound : Sound E d
  diag : ∀ p ∈ ps, d p p = some 0
  ties : ∀ t ∈ E, (∃ x, d t.1 t.2.1 = some x ∧ x ≤ t.2.2) ∧ ∃ x, d t.2.1 t.1 = some x ∧ x ≤ t.2.2
theorem passes_exact {E : List (Tie α)} {ps : List α} (hE : Pos E) (hI : In E ps) {d : Tab α} (h : Start E ps d) : Exact E ps (passes ps ps d) where
  sound := passes_sound ps ps d h.sound
  least := fun p q n hp hq w => by
    have k0 : Knows E ps [] d := fun p q n _ _ w => by
      cases w with
      | one m => exact m.elim (fun m => (h.ties _ m).1) fun m => (h.ties _ m).2
      | more _ hu _ => cases hu
    have k := knows_passes hE ps [] d (fun m hm => hm) k0
    rw [List.nil_append] at k
    rcases wk_wi hI w with ⟨rfl, rfl⟩ | wi
    · exact (passes_le ps ps d).some (h.diag p hp)
    · exact k p q n hp hq wi
theorem Exact.uniq {E : List (Tie α)} {ps : List α} {d e : Tab α} (h : Exact E ps d) (k : Exact E ps e) {p q : α} (hp : p ∈ ps) (hq : q ∈ ps) : d p q = e p q := by
  cases h1 : d p q with
  | none =>
    cases h2 : e p q with
    | none => rfl
    | some y =>
      obtain ⟨x, hx, _⟩ := h.least p q y hp hq (k.sound _ _ _ h2)
      rw [h1] at hx
      cases hx
  | some x =>
    obtain ⟨y, hy, l⟩ := k.least p q x hp hq (h.sound _ _ _ h1)
    obtain ⟨x', hx', l'⟩ := h.least p q y hp hq (k.sound _ _ _ hy)
    rw [h1] at hx'
    cases hx'
    rw [hy, show x = y by omega]
theorem Exact.nonneg {E : List (Tie α)} {ps : List α} (hE : Pos E) {d : Tab α} (h : Exact E ps d) {p q : α} {x : Int} (e : d p q = some x) : 0 ≤ x := (h.sound _ _ _ e).nonneg hE
theorem Exact.diag {E : List (Tie α)} {ps : List α} (hE : Pos E) {d : Tab α} (h : Exact E ps d) {p : α} (hp : p ∈ ps) : d p p = some 0 := by
  obtain ⟨x, hx, l⟩ := h.least p p 0 hp hp (.nil p)
  have := h.nonneg hE hx
  rw [hx, show x = 0 by omega]
/-! ### the table of the ties themselves -/
def Meet (t u : Tie α) : Prop := (t.1 = u.1 ∧ t.2.1 = u.2.1) ∨ (t.1 = u.2.1 ∧ t.2.1 = u.1)
def dia (ps : List α) : Tab α := ps.foldl (fun d p => put d p p 0) fun _ _ => none
def tie2 (d : Tab α) (t : Tie α) : Tab α := put (put d t.1 t.2.1 t.2.2) t.2.1 t.1 t.2.2
def ini (ps : List α) (es : List (Tie α)) : Tab α := es.foldl tie2 (dia ps)
theorem dia_at (ps : List α) (a b : α) : dia ps a b = if a = b ∧ a ∈ ps then some 0 else none := by
  have : ∀ (l : List α) (d : Tab α), l.foldl (fun d p => put d p p 0) d a b = if a = b ∧ a ∈ l then some 0 else d a b := fun l => by
    induction l with
    | nil => intro d; rw [if_neg (by simp)]; rfl
    | cons p l ih =>
      intro d
      show l.foldl _ (put d p p 0) a b = _
      rw [ih]
      by_cases e : a = b
      · subst e
        by_cases m : a ∈ l
        · rw [if_pos ⟨rfl, m⟩, if_pos ⟨rfl, List.mem_cons_of_mem _ m⟩]
        · rw [if_neg (fun z => m z.2)]
          by_cases q : a = p
          · subst q
            rw [put_same, if_pos ⟨rfl, List.mem_cons_self⟩]
          · rw [put_ne d 0 (fun z => q z.1), if_neg (fun z => (List.mem_cons.mp z.2).elim q m)]
      · rw [if_neg (fun z => e z.1), if_neg (fun z => e z.1), put_ne d 0 (fun z => e (z.1.trans z.2.symm))]
  exact this ps _
theorem tie2_at (d : Tab α) (t : Tie α) {a b : α} (h : ¬ (a = t.1 ∧ b = t.2.1)) (k : ¬ (a = t.2.1 ∧ b = t.1)) : tie2 d t a b = d a b := by
  unfold tie2
  rw [put_ne _ _ k, put_ne _ _ h]
theorem tie2_fwd (d : Tab α) (t : Tie α) : tie2 d t t.1 t.2.1 = some t.2.2 := by
  unfold tie2
  by_cases e : t.1 = t.2.1 ∧ t.2.1 = t.1
  · rw [e.1]
    exact put_same ..
  · rw [put_ne _ _ e]
    exact put_same ..
theorem tie2_bwd (d : Tab α) (t : Tie α) : tie2 d t t.2.1 t.1 = some t.2.2 := put_same ..
theorem ini_start {ps : List α} {es : List (Tie α)} (ne : ∀ t ∈ es, t.1 ≠ t.2.1) (apart : es.Pairwise fun t u => ¬ Meet t u) : Start es ps (ini ps es) := by
  have step : ∀ (done rest : List (Tie α)) (d : Tab α), done ++ rest = es → Sound es d → (∀ p ∈ ps, d p p = some 0) → (∀ t ∈ done, d t.1 t.2.1 = some t.2.2 ∧ d t.2.1 t.1 = some t.2.2) →
      Sound es (rest.foldl tie2 d) ∧ (∀ p ∈ ps, rest.foldl tie2 d p p = some 0) ∧ ∀ t ∈ es, rest.foldl tie2 d t.1 t.2.1 = some t.2.2 ∧ rest.foldl tie2 d t.2.1 t.1 = some t.2.2 := fun done rest => by
    induction rest generalizing done with
    | nil =>
      intro d e h1 h2 h3
      rw [List.append_nil] at e
      subst e
      exact ⟨h1, h2, h3⟩
    | cons t rest ih =>
      intro d e h1 h2 h3
      have mt : t ∈ es := by rw [← e]; exact List.mem_append_right _ List.mem_cons_self
      refine ih (done ++ [t]) (tie2 d t) (by rw [List.append_assoc]; exact e) (fun a b x hx => ?_) (fun p hp => ?_) (fun u hu => ?_)
      · by_cases c : a = t.2.1 ∧ b = t.1
        · rw [c.1, c.2, tie2_bwd] at hx
          cases hx
          rw [c.1, c.2, show t.2.2 = 0 + t.2.2 by omega]
          exact .bwd (.nil _) mt
        · by_cases c2 : a = t.1 ∧ b = t.2.1
          · rw [c2.1, c2.2, tie2_fwd] at hx
            cases hx
            rw [c2.1, c2.2, show t.2.2 = 0 + t.2.2 by omega]
            exact .fwd (.nil _) mt
          · rw [tie2_at d t c2 c] at hx
            exact h1 a b x hx
      · rw [tie2_at d t (fun z => ne t mt (z.1.symm.trans z.2)) (fun z => ne t mt (z.2.symm.trans z.1))]
        exact h2 p hp
      · rcases List.mem_append.mp hu with hu | hu
        · have nm : ¬ Meet u t := by
            rw [← e] at apart
            exact (List.pairwise_append.mp apart).2.2 u hu t List.mem_cons_self
          rw [tie2_at d t (fun z => nm (.inl z)) (fun z => nm (.inr z)), tie2_at d t (fun z => nm (.inr ⟨z.2, z.1⟩)) (fun z => nm (.inl ⟨z.2, z.1⟩))]
          exact h3 u hu
        · obtain rfl := List.mem_singleton.mp hu
          exact ⟨tie2_fwd d _, tie2_bwd d _⟩
  obtain ⟨a, b, c⟩ := step [] es (dia ps) rfl (fun p q x h => by
    rw [dia_at] at h
    split at h
    · rename_i z
      cases h
      rw [z.1]
      exact .nil _
    · cases h) (fun p hp => by rw [dia_at, if_pos ⟨rfl, hp⟩]) (fun _ h => nomatch h)
  exact ⟨a, b, fun t ht => ⟨⟨_, (c t ht).1, Int.le_refl _⟩, ⟨_, (c t ht).2, Int.le_refl _⟩⟩⟩
/-! ### by turns -/
def relax (d : Tab α) (l u v : α) (w : Int) : Tab α := match d l u with | none => d | some y => low d l v (y + w)
theorem relax_le (d : Tab α) (l u v : α) (w : Int) : Le (relax d l u v w) d := by
  unfold relax
  split
  · exact .refl d
  · exact low_le d l v _
theorem relax_at (d : Tab α) {l u v : α} {w y : Int} (h : d l u = some y) : ∃ x, relax d l u v w l v = some x ∧ x ≤ y + w := by
  unfold relax
  rw [h]
  exact low_at d l v _
def both (d : Tab α) (l : α) (t : Tie α) : Tab α := relax (relax d l t.1 t.2.1 t.2.2) l t.2.1 t.1 t.2.2
theorem both_le (d : Tab α) (l : α) (t : Tie α) : Le (both d l t) d := (relax_le _ l t.2.1 t.1 t.2.2).trans (relax_le d l t.1 t.2.1 t.2.2)
theorem both_sound {E : List (Tie α)} {d : Tab α} {l : α} {t : Tie α} (ht : t ∈ E) (h : Sound E d) : Sound E (both d l t) := by
  have one : ∀ {d : Tab α}, Sound E d → Sound E (relax d l t.1 t.2.1 t.2.2) := fun {d} h => by
    unfold relax
    split
    · exact h
    · rename_i y e
      exact low_sound h (.fwd (h _ _ _ e) ht)
  have two : ∀ {d : Tab α}, Sound E d → Sound E (relax d l t.2.1 t.1 t.2.2) := fun {d} h => by
    unfold relax
    split
    · exact h
    · rename_i y e
      exact low_sound h (.bwd (h _ _ _ e) ht)
  exact two (one h)
def tour1 (ls : List α) (d : Tab α) (t : Tie α) : Tab α := ls.foldl (fun d l => both d l t) d
def tour (E : List (Tie α)) (ls : List α) (d : Tab α) : Tab α := E.foldl (fun d t => tour1 ls d t) d
theorem tour1_le (ls : List α) (d : Tab α) (t : Tie α) : Le (tour1 ls d t) d := foldl_le _ (fun d l => both_le d l t) ls d
theorem tour_le (E : List (Tie α)) (ls : List α) (d : Tab α) : Le (tour E ls d) d := foldl_le _ (fun d t => tour1_le ls d t) E d
theorem tour_sound {E F : List (Tie α)} (hF : ∀ t ∈ F, t ∈ E) (ls : List α) (d : Tab α) (h : Sound E d) : Sound E (tour F ls d) :=
  foldl_sound _ _ _ (fun d t ht hd => foldl_sound _ _ _ (fun d l _ hd => both_sound (hF t ht) hd) hd) h
theorem both_at (d : Tab α) {l : α} {t : Tie α} {y : Int} : (d l t.1 = some y → ∃ x, both d l t l t.2.1 = some x ∧ x ≤ y + t.2.2) ∧ (d l t.2.1 = some y → ∃ x, both d l t l t.1 = some x ∧ x ≤ y + t.2.2) := by
  refine ⟨fun h => ?_, fun h => ?_⟩
  · obtain ⟨x, hx, l1⟩ := relax_at d (v := t.2.1) (w := t.2.2) h
    obtain ⟨z, hz, l2⟩ := (relax_le _ l t.2.1 t.1 t.2.2).some hx
    exact ⟨z, hz, by omega⟩
  · obtain ⟨y', h', l1⟩ := (relax_le d l t.1 t.2.1 t.2.2).some h
    obtain ⟨x, hx, l2⟩ := relax_at _ (v := t.1) (w := t.2.2) h'
    exact ⟨x, hx, by omega⟩
theorem tour1_at {l : α} {t : Tie α} {y : Int} : ∀ (ls : List α) (d : Tab α), l ∈ ls → (d l t.1 = some y → ∃ x, tour1 ls d t l t.2.1 = some x ∧ x ≤ y + t.2.2) ∧ (d l t.2.1 = some y → ∃ x, tour1 ls d t l t.1 = some x ∧ x ≤ y + t.2.2)
  | [], _, h => by cases h
  | r :: ls, d, h => by
    have st : Le (tour1 ls (both d r t) t) (both d r t) := tour1_le ls _ t
    by_cases e : l = r
    · subst e
      refine ⟨fun h => ?_, fun h => ?_⟩
      · obtain ⟨x, hx, l1⟩ := (both_at d).1 h
        obtain ⟨z, hz, l2⟩ := st.some hx
        exact ⟨z, hz, by omega⟩
      · obtain ⟨x, hx, l1⟩ := (both_at d).2 h
        obtain ⟨z, hz, l2⟩ := st.some hx
        exact ⟨z, hz, by omega⟩
    · have ih := fun y => tour1_at (l := l) (t := t) (y := y) ls (both d r t) ((List.mem_cons.mp h).resolve_left e)
      refine ⟨fun h => ?_, fun h => ?_⟩
      · obtain ⟨y', h', l1⟩ := (both_le d r t).some h
        obtain ⟨x, hx, l2⟩ := (ih y').1 h'
        exact ⟨x, hx, by omega⟩
      · obtain ⟨y', h', l1⟩ := (both_le d r t).some h
        obtain ⟨x, hx, l2⟩ := (ih y').2 h'
        exact ⟨x, hx, by omega⟩
theorem tour_at {ls : List α} {l : α} {t : Tie α} {y : Int} (hl : l ∈ ls) : ∀ (E : List (Tie α)) (d : Tab α), t ∈ E → (d l t.1 = some y → ∃ x, tour E ls d l t.2.1 = some x ∧ x ≤ y + t.2.2) ∧ (d l t.2.1 = some y → ∃ x, tour E ls d l t.1 = some x ∧ x ≤ y + t.2.2)
  | [], _, h => by cases h
  | r :: E, d, h => by
    have st : Le (tour E ls (tour1 ls d r)) (tour1 ls d r) := tour_le E ls _
    by_cases e : t = r
    · subst e
      refine ⟨fun h => ?_, fun h => ?_⟩
      · obtain ⟨x, hx, l1⟩ := (tour1_at ls d hl).1 h
        obtain ⟨z, hz, l2⟩ := st.some hx
        exact ⟨z, hz, by omega⟩
      · obtain ⟨x, hx, l1⟩ := (tour1_at ls d hl).2 h
        obtain ⟨z, hz, l2⟩ := st.some hx
        exact ⟨z, hz, by omega⟩
    · have hm : t ∈ E := (List.mem_cons.mp h).resolve_left e
      refine ⟨fun h => ?_, fun h => ?_⟩
      · obtain ⟨y', h', l1⟩ := (tour1_le ls d r).some h
        obtain ⟨x, hx, l2⟩ := (tour_at hl E _ hm).1 h'
        exact ⟨x, hx, by omega⟩
      · obtain ⟨y', h', l1⟩ := (tour1_le ls d r).some h
        obtain ⟨x, hx, l2⟩ := (tour_at hl E _ hm).2 h'
        exact ⟨x, hx, by omega⟩
def tours (E : List (Tie α)) (ls : List α) (d : Tab α) : Nat → Tab α
  | 0 => d
  | n + 1 => tour E ls (tours E ls d n)
/-- what is not settled yet for l -/
def open_ (δ d : Tab α) (l : α) (v : α) : Bool := (δ l v).isSome && decide (d l v ≠ δ l v)
theorem open_step {E : List (Tie α)} {ps : List α} (hE : Pos E) (hI : In E ps) {δ d : Tab α} (hδ : Exact E ps δ) (hs : Sound E d) {l : α} (hl : l ∈ ps) (h0 : d l l = some 0) (v : α) (hv : v ∈ ps) (ho : open_ δ (tour E ps d) l v = true) : open_ δ d l v = true := by
  unfold open_ at *
  rw [Bool.and_eq_true] at *
  refine ⟨ho.1, ?_⟩
  have := ho.2
  simp only [decide_eq_true_eq] at *
  intro e
  apply this
  obtain ⟨x, hx⟩ := Option.isSome_iff_exists.mp ho.1
  rw [hx] at e ⊢
  obtain ⟨y, hy, l1⟩ := (tour_le E ps d).some e
  obtain ⟨z, hz, l2⟩ := hδ.least l v y hl hv (tour_sound (fun t h => h) ps d hs _ _ _ hy)
  rw [hx] at hz
  cases hz
  rw [hy, show y = x by omega]
theorem open_less {E : List (Tie α)} {ps : List α} (hE : Pos E) (hI : In E ps) {δ d : Tab α} (hδ : Exact E ps δ) (hs : Sound E d) {l : α} (hl : l ∈ ps) (h0 : d l l = some 0) (hn : ∀ v ∈ ps, open_ δ d l v = true → open_ δ (tour E ps d) l v = true) :
    ∀ v ∈ ps, open_ δ d l v = false := by
  have shut : ∀ v, open_ δ d l v = false → (δ l v).isSome = true → d l v = δ l v := fun v h hi => by
    unfold open_ at h
    rw [hi, Bool.true_and] at h
    simpa using h
  have step : ∀ u v w, (u, v, w) ∈ E ∨ (v, u, w) ∈ E → u ∈ ps → v ∈ ps → open_ δ d l u = false → open_ δ d l v = true → ∀ y, δ l u = some y → ∀ x, δ l v = some x → x < y + w := fun u v w m hu hv ou ov y hy x hx => by
    have eu := shut u ou (by rw [hy]; rfl)
    rw [hy] at eu
    have := m.elim (fun m => (tour_at hl E d m).1 eu) fun m => (tour_at hl E d m).2 eu
    obtain ⟨z, hz, lz⟩ := this
    have wz := tour_sound (fun t h => h) ps d hs _ _ _ hz
    obtain ⟨x', hx', lx⟩ := hδ.least l v z hl hv wz
    simp only at hx' lz hz
    rw [hx] at hx'
    cases hx'
    have ov' := hn v hv ov
    unfold open_ at ov'
    rw [Bool.and_eq_true] at ov'
    have ne : tour E ps d l v ≠ δ l v := by simpa using ov'.2
    rw [hz, hx] at ne
    have : z ≠ x := fun e => ne (by rw [e])
    omega
  have key : ∀ v n, Wk E l v n → v ∈ ps → open_ δ d l v = true → ∀ x, δ l v = some x → x < n := fun v n w => by
    have one : ∀ {u v : α} {n w : Int}, Wk E l u n → ((u, v, w) ∈ E ∨ (v, u, w) ∈ E) → u ∈ ps → (u ∈ ps → open_ δ d l u = true → ∀ x, δ l u = some x → x < n) → v ∈ ps → open_ δ d l v = true → ∀ x, δ l v = some x → x < n + w := fun {u v n w} hw m hu ih hv ov x hx => by
      obtain ⟨y, hy, ly⟩ := hδ.least l u n hl hu hw
      have wv : Wk E l v (y + w) := m.elim (fun m => .fwd (hδ.sound _ _ _ hy) m) fun m => .bwd (hδ.sound _ _ _ hy) m
      obtain ⟨x', hx', lx⟩ := hδ.least l v _ hl hv wv
      rw [hx] at hx'
      cases hx'
      cases ou : open_ δ d l u with
      | true => have := ih hu ou y hy; omega
      | false => have := step u v w m hu hv ou ov y hy x hx; omega
    induction w with
    | nil =>
      intro _ o x hx
      have e : d l l = δ l l := by rw [h0, hδ.diag hE hl]
      unfold open_ at o
      rw [Bool.and_eq_true] at o
      exact absurd e (by simpa using o.2)
    | fwd hw m ih => exact one hw (.inl m) (hI _ m).1 ih
    | bwd hw m ih => exact one hw (.inr m) (hI _ m).2 ih
  intro v hv
  cases o : open_ δ d l v with
  | false => rfl
  | true =>
    have o' := o
    unfold open_ at o'
    rw [Bool.and_eq_true] at o'
    obtain ⟨x, hx⟩ := Option.isSome_iff_exists.mp o'.1
    exact absurd (key v x (hδ.sound _ _ _ hx) hv o x hx) (by omega)
theorem filter_lt {p q : α → Bool} : ∀ (l : List α), (∀ v ∈ l, q v = true → p v = true) → (∃ v ∈ l, p v = true ∧ q v = false) → (l.filter q).length < (l.filter p).length
  | [], _, ⟨_, h, _⟩ => by cases h
  | a :: l, h, ⟨v, hv, pv, qv⟩ => by
    have le : ∀ (l : List α), (∀ v ∈ l, q v = true → p v = true) → (l.filter q).length ≤ (l.filter p).length := fun l h => by
      induction l with
      | nil => exact Nat.le_refl _
      | cons b l ih =>
        have := ih fun v hv => h v (List.mem_cons_of_mem _ hv)
        rw [List.filter_cons, List.filter_cons]
        cases hq : q b with
        | true => rw [h b List.mem_cons_self hq]; simpa using this
        | false => cases hp : p b <;> simp <;> omega
    have ht : ∀ v ∈ l, q v = true → p v = true := fun v hv => h v (List.mem_cons_of_mem _ hv)
    rw [List.filter_cons, List.filter_cons]
    rcases List.mem_cons.mp hv with rfl | hv
    · rw [pv, qv]
      have := le l ht
      simp
      omega
    · have := filter_lt l ht ⟨v, hv, pv, qv⟩
      cases hq : q a with
      | true => rw [h a List.mem_cons_self hq]; simpa using this
      | false => cases hp : p a <;> simp <;> omega
theorem tours_sound {E : List (Tie α)} {ps : List α} {d : Tab α} (h : Sound E d) : ∀ n, Sound E (tours E ps d n)
  | 0 => h
  | n + 1 => tour_sound (fun t h => h) ps _ (tours_sound h n)
theorem tours_diag {E : List (Tie α)} {ps : List α} (hE : Pos E) {d : Tab α} (h : Sound E d) {l : α} (h0 : d l l = some 0) : ∀ n, tours E ps d n l l = some 0
  | 0 => h0
  | n + 1 => by
    obtain ⟨x, hx, l1⟩ := (tour_le E ps (tours E ps d n)).some (tours_diag hE h h0 n)
    have := (tours_sound (ps := ps) h (n + 1) _ _ _ hx).nonneg hE
    show tour E ps (tours E ps d n) l l = some 0
    rw [hx, show x = 0 by omega]
theorem tours_count {E : List (Tie α)} {ps : List α} (hE : Pos E) (hI : In E ps) {δ d : Tab α} (hδ : Exact E ps δ) (hs : Sound E d) {l : α} (hl : l ∈ ps) (h0 : d l l = some 0) : ∀ n, (ps.filter (open_ δ (tours E ps d n) l)).length ≤ ps.length - n
  | 0 => List.length_filter_le _ _
  | n + 1 => by
    have ih := tours_count hE hI hδ hs hl h0 n
    have s := tours_sound (ps := ps) hs n
    have z := tours_diag (ps := ps) hE hs h0 n
    have sub := open_step hE hI hδ s hl z
    by_cases ex : ∃ v ∈ ps, open_ δ (tours E ps d n) l v = true ∧ open_ δ (tour E ps (tours E ps d n)) l v = false
    · have := filter_lt ps sub ex
      show (ps.filter (open_ δ (tour E ps (tours E ps d n)) l)).length ≤ _
      omega
    · have all := open_less hE hI hδ s hl z fun v hv o => by
        cases q : open_ δ (tour E ps (tours E ps d n)) l v with
        | true => rfl
        | false => exact absurd ⟨v, hv, o, q⟩ ex
      have e : ps.filter (open_ δ (tour E ps (tours E ps d n)) l) = [] := by
        rw [List.filter_eq_nil_iff]
        intro v hv o
        have := sub v hv o
        rw [all v hv] at this
        cases this
      show (ps.filter (open_ δ (tour E ps (tours E ps d n)) l)).length ≤ _
      rw [e]
      exact Nat.zero_le _
theorem tours_exact {E : List (Tie α)} {ps : List α} (hE : Pos E) (hI : In E ps) {δ d : Tab α} (hδ : Exact E ps δ) (hs : Sound E d) (h0 : ∀ l ∈ ps, d l l = some 0) {p q : α} (hp : p ∈ ps) (hq : q ∈ ps) : tours E ps d ps.length p q = δ p q := by
  have c := tours_count hE hI hδ hs hp (h0 p hp) ps.length
  rw [Nat.sub_self] at c
  have e : open_ δ (tours E ps d ps.length) p q = false := by
    cases o : open_ δ (tours E ps d ps.length) p q with
    | false => rfl
    | true =>
      have : q ∈ ps.filter (open_ δ (tours E ps d ps.length) p) := List.mem_filter.mpr ⟨hq, o⟩
      have := List.length_pos_of_mem this
      omega
  cases h : δ p q with
  | none =>
    cases k : tours E ps d ps.length p q with
    | none => rfl
    | some x =>
      obtain ⟨y, hy, _⟩ := hδ.least p q x hp hq (tours_sound (ps := ps) hs _ _ _ _ k)
      rw [h] at hy
      cases hy
  | some x =>
    unfold open_ at e
    rw [h] at e
    simpa using e
end RPath

/-! what the laws over puppets share: loops and comprehensions over any walk, tuples of rows, bags -/
namespace RK
open PySem PySem.Spec PyProof.Rows L2 RZ
theorem none_of {H H' : Hp} {q : Addr} (e : Same H H') (h : H' q = none) : H q = none := by
  cases z : H q with
  | none => rfl
  | some o => rw [e _ _ z] at h; cases h
theorem seqL_same {K : PySem.W.Frag} {H H' : Hp} {p : Addr} {xs : List V} (e : Same H H') (h : SqL K H p xs) : SqL K H' p xs := by
  rcases h with (h | ⟨o, h⟩) | h
  · exact .inl (.inl (e _ _ h))
  · exact .inl (.inr ⟨o, e _ _ h⟩)
  · exact .inr h
theorem Kp.sameT {H H' : Hp} {b : Addr} (k : Kp b H H') : SameT H H' := fun c o h n => by
  obtain ⟨f, s, m, hb⟩ := k.bag
  exact k.keep c o (fun z => by rw [z, hb] at h; cases h; exact n _ rfl) h
theorem SameT.sqt {K : PySem.W.Frag} {H H' : Hp} {p : Addr} {xs : List V} (e : SameT H H') (h : SqT K H p xs) : SqT K H' p xs := by
  rcases h with (h | ⟨o, h⟩) | h
  · exact .inl (.inl (e.tup h))
  · exact .inl (.inr ⟨o, e _ _ h nofun⟩)
  · exact .inr h
theorem Kp.sqt {K : PySem.W.Frag} {H H' : Hp} {b p : Addr} {xs : List V} (k : Kp b H H') (h : SqT K H p xs) : SqT K H' p xs := k.sameT.sqt h
theorem bag_ne {H : Hp} {b l : Addr} (hb : Bag H b) (n : H l = none) : l ≠ b := fun z => by
  obtain ⟨f, s, m, h⟩ := hb
  rw [z, h] at n
  cases n
theorem kp_upd {H : Hp} {b : Addr} {f s n : Int} (h : Bag H b) : Kp b H (upd H b (.lst [.int f, .int s, .int n])) := ⟨h, ⟨f, s, n, upd_same⟩, fun c o hc e => by rw [upd_ne hc]; exact e⟩
theorem Kp.putNew {b D : Addr} {H G : Hp} {o : HO} (k : Kp b H G) (hD : H D = none) (n : D ≠ b) : Kp b H (upd G D o) := by
  obtain ⟨f, s, m, hb⟩ := k.bag'
  refine ⟨k.bag, ⟨f, s, m, by rw [upd_ne fun z => n z.symm]; exact hb⟩, fun c u hc h => ?_⟩
  rw [upd_ne (ne_of_none h hD)]
  exact k.keep c u hc h
theorem SameT.trans {H H1 H2 : Hp} (a : SameT H H1) (b : SameT H1 H2) : SameT H H2 := fun c o h n => b c o (a c o h n) n
theorem key {G : Prop} {R : Addr → Hp → Prop} (Inv : Addr → Hp → Prop) (h2 : (∀ D' H', Inv D' H' → R D' H') → G) (h1 : ∀ D' H', Inv D' H' → R D' H') : G := h2 h1
theorem keyV {G : Prop} {R : V → Hp → Prop} (Inv : V → Hp → Prop) (h2 : (∀ v H', Inv v H' → R v H') → G) (h1 : ∀ v H', Inv v H' → R v H') : G := h2 h1
theorem goGen {G : Hp → Prop} {H : Hp} (Pv : Hp → Prop) (h : Pv H) (k : ∀ H', Pv H' → G H') : G H := k H h
theorem room65 {k : Nat} {A : Around} (r : Room k A) : A.units + 65 < cLine := by have := r.un; omega
/-! ### walks -/
theorem walk_enumT {K : PySem.W.Frag} {a : Addr} {xs : List V} : Walk (IteT K a) xs.length (fun H => SqT K H a xs) (YPair (fun i => some (.int (i : Nat))) (fun i => xs[i]?)) where
  goes := fun i _ hi q => ⟨xs, xs[i], q, List.getElem?_eq_getElem hi⟩
  stops := fun _ q => ⟨xs, q, rfl⟩
  yields := fun i H v H' _ q ⟨T, x, h1, h2, h3, h4⟩ => ⟨T, _, x, h1, h2, h3, rfl, h4 xs q⟩
theorem walk_zipS {x y : Str} : Walk (ItzS x y) (min x.cps.size y.cps.size) (fun _ => True) (YPair (fun i => (x.cps[i]?).map fun c => V.str ⟨#[c]⟩) (fun i => (y.cps[i]?).map fun c => V.str ⟨#[c]⟩)) where
  goes := fun i _ hi _ => ⟨x.cps[i]'(by omega), y.cps[i]'(by omega), Array.getElem?_eq_getElem _, Array.getElem?_eq_getElem _⟩
  stops := fun _ _ => rfl
  yields := fun i H v H' _ _ ⟨T, c, d, h1, h2, h3, h4, h5⟩ => ⟨T, _, _, h1, h2, h3, by show (x.cps[i]?).map _ = _; rw [h4]; rfl, by show (y.cps[i]?).map _ = _; rw [h5]; rfl⟩
section
variable {K : PySem.W.Frag} {σ : L2.St} {H : Hp} {Q : VK} {g : TG} {te : TE} {vs : List Nat} {tb : TS} {D : Ends} {J : It} {n : Nat} {Gd : Hp → Prop} {Y : Nat → Hp → V → Hp → Prop}
def ForJ (g : TG) (tb : TS) (D : Ends) (σ : L2.St) (J : It) (H : Hp) : Prop := ∃ W : Nat → Nat → L2.St → Hp → Prop, (∃ m, W 0 m σ H) ∧ ∀ i m σ H, W i m σ H →
  (J.stop i H ∧ D.nx σ H) ∨ (J.go i H ∧ ∃ N : L2.St → Hp → Prop, (∀ σ' H', N σ' H' → ∃ m', m' < m ∧ W (i + 1) m' σ' H') ∧ ∀ x H', J.yld i H x H' → g x σ H' fun σ2 H2 => tb { D with nx := N, ct := N, bk := D.nx } σ2 H2)
theorem w_forJ {wi : TI} (h : wi σ H fun J H1 => ForJ g tb D σ J H1) : tFor wi g tb D σ H := h
theorem w_cm {wi : TI} {tt : TT} (h : wi σ H fun J H1 => CmpAt g tt te vs σ Q J H1) : tLc wi g tt te vs σ H Q := h
theorem w_iStr {td : TE} {R : It → Hp → Prop} (h : td σ H fun v H1 => ∃ x, v = .str x ∧ R (Its x) H1) : iStr td σ H R := h
theorem w_iTup {td : TE} {R : It → Hp → Prop} (h : td σ H fun v H1 => ∃ a, v = .ref a ∧ (∃ xs, SqT K H1 a xs) ∧ R (Itt K a) H1) : iTup K td σ H R := h
theorem w_iList {td : TE} {R : It → Hp → Prop} (h : td σ H fun v H1 => ∃ a, v = .ref a ∧ (∃ xs, SqL K H1 a xs) ∧ R (Itl K a) H1) : iList K td σ H R := h
theorem w_iEnumT {ta : TA} {R : It → Hp → Prop} (h : ta σ H fun vs H1 => ∃ a xs, vs = [.ref a] ∧ SqT K H1 a xs ∧ R (IteT K a) H1) : iEnumT K ta σ H R := h
theorem w_iZipS {ta : TA} {R : It → Hp → Prop} (h : ta σ H fun vs H1 => ∃ x y : Str, vs = [.str x, .str y] ∧ R (ItzS x y) H1) : iZipS ta σ H R := h
theorem w_iRng1 {ta : TA} {R : It → Hp → Prop} (h : ta σ H fun vs H1 => ∃ n : Int, vs = [.int n] ∧ -(2 ^ 62) ≤ n ∧ n < 2 ^ 62 ∧ R (Itr 0 n.toNat) H1) : iRng1 ta σ H R := h
/-- a loop, what stands told by Pv -/
theorem for_leaf (w : Walk J n Gd Y) (Pv : Nat → L2.St → Hp → Prop) (h0 : Pv 0 σ H) (hG : ∀ i σ H, i ≤ n → Pv i σ H → Gd H)
    (hs : ∀ i x σ H H', i < n → Pv i σ H → Y i H x H' → g x σ H' fun σ2 H2 => tb { D with nx := Pv (i + 1), ct := Pv (i + 1), bk := D.nx } σ2 H2) (hd : ∀ σ H, Pv n σ H → D.nx σ H) : ForJ g tb D σ J H := for_it w Pv h0 hG hs hd
theorem snoc_get {acc : List V} {i : Nat} {y : V} (hl : acc.length = i) {R : Nat → V → Prop} (ho : ∀ m v, acc[m]? = some v → R m v) (hy : R i y) : ∀ m v, (acc ++ [y])[m]? = some v → R m v := fun m v hv => by
  by_cases c : m < acc.length
  · rw [List.getElem?_append_left c] at hv
    exact ho m v hv
  · rw [List.getElem?_append_right (Nat.le_of_not_lt c)] at hv
    have e : m = acc.length := by
      have := (List.getElem?_eq_some_iff.mp hv).1
      simp at this
      omega
    subst e
    simp at hv
    subst hv
    rw [hl]
    exact hy
/-- [f(x) for x in ..]: each element leaves what stood, and gives what P says -/
theorem cmS (w : Walk J n Gd Y) (hn : n ≤ 1000) (hGd : ∀ H', Same H H' → Gd H') (P : Nat → V → Hp → Prop) (mono : ∀ i v G G', SameT G G' → P i v G → P i v G')
    (he : ∀ i x H1 H2, i < n → Same H H1 → Y i H1 x H2 → ∀ Q' : VK, (∀ v H3, Same H1 H3 → P i v H3 → Q' v H3) → g x (wipe σ vs) H2 fun σ2 H3 => wipe σ2 vs = wipe σ vs ∧ te σ2 H3 Q')
    (k : ∀ D ys H', H D = none → Same H H' → H' D = some (.lst ys) → ys.length = n → (∀ i v, ys[i]? = some v → P i v H') → Q (.ref D) H') : CmpAt g tYes te vs σ Q J H := fun D hD => by
  refine lc_it w (fun i G => ∃ acc, G D = some (.lst acc) ∧ acc.length = i ∧ Same H G ∧ ∀ m v, acc[m]? = some v → P m v G) ⟨[], upd_same, rfl, w_new hD, fun m v e => by simp at e⟩ (fun i G _ ⟨_, _, _, e, _⟩ => hGd G e) ?_ ?_
  · rintro i x G G' hi ⟨acc, h1, h2, e, hp⟩ hy
    refine he i x G G' hi e hy (fun y H4 => ∃ acc, H4 D = some (.lst acc) ∧ acc.length < sizeLine ∧ ∃ acc', upd H4 D (.lst (acc ++ [y])) D = some (.lst acc') ∧ acc'.length = i + 1 ∧ Same H (upd H4 D (.lst (acc ++ [y]))) ∧ ∀ m v, acc'[m]? = some v → P m v (upd H4 D (.lst (acc ++ [y])))) fun v H4 e4 pv => ?_
    have h3 := e4 _ _ h1
    refine ⟨acc, h3, Nat.lt_of_lt_of_le (show acc.length < 1001 by omega) (by decide), _, upd_same, by rw [List.length_append, h2]; rfl, RK.Same.updL (e.trans e4) hD, ?_⟩
    exact snoc_get h2 (R := fun m u => P m u (upd H4 D (.lst (acc ++ [v])))) (fun m u hu => mono m u H4 _ (SameT.upd h3) (mono m u G H4 (.of e4) (hp m u hu))) (mono _ _ H4 _ (SameT.upd h3) pv)
  · rintro G ⟨acc, h1, h2, e, hp⟩
    exact k D acc G hD e h1 h2 hp
/-- the same, where each element draws from the bag at b -/
theorem cmK {b : Addr} (hb : Bag H b) (w : Walk J n Gd Y) (hn : n ≤ 1000) (hGd : ∀ H', Kp b H H' → Gd H') (P : Nat → V → Hp → Prop) (mono : ∀ i v G G', SameT G G' → P i v G → P i v G')
    (he : ∀ i x H1 H2, i < n → Kp b H H1 → Y i H1 x H2 → ∀ Q' : VK, (∀ v H3, Kp b H1 H3 → P i v H3 → Q' v H3) → g x (wipe σ vs) H2 fun σ2 H3 => wipe σ2 vs = wipe σ vs ∧ te σ2 H3 Q')
    (k : ∀ D ys H', H D = none → Kp b H H' → H' D = some (.lst ys) → ys.length = n → (∀ i v, ys[i]? = some v → P i v H') → Q (.ref D) H') : CmpAt g tYes te vs σ Q J H := fun D hD => by
  have nD := bag_ne hb hD
  refine lc_it w (fun i G => ∃ acc, G D = some (.lst acc) ∧ acc.length = i ∧ Kp b H G ∧ ∀ m v, acc[m]? = some v → P m v G) ⟨[], upd_same, rfl, .of hb (w_new hD), fun m v e => by simp at e⟩ (fun i G _ ⟨_, _, _, e, _⟩ => hGd G e) ?_ ?_
  · rintro i x G G' hi ⟨acc, h1, h2, e, hp⟩ hy
    refine he i x G G' hi e hy (fun y H4 => ∃ acc, H4 D = some (.lst acc) ∧ acc.length < sizeLine ∧ ∃ acc', upd H4 D (.lst (acc ++ [y])) D = some (.lst acc') ∧ acc'.length = i + 1 ∧ Kp b H (upd H4 D (.lst (acc ++ [y]))) ∧ ∀ m v, acc'[m]? = some v → P m v (upd H4 D (.lst (acc ++ [y])))) fun v H4 e4 pv => ?_
    have h3 := e4.keep _ _ nD h1
    refine ⟨acc, h3, Nat.lt_of_lt_of_le (show acc.length < 1001 by omega) (by decide), _, upd_same, by rw [List.length_append, h2]; rfl, (e.trans e4).putNew hD nD, ?_⟩
    exact snoc_get h2 (R := fun m u => P m u (upd H4 D (.lst (acc ++ [v])))) (fun m u hu => mono m u H4 _ (SameT.upd h3) (mono m u G H4 e4.sameT (hp m u hu))) (mono _ _ H4 _ (SameT.upd h3) pv)
  · rintro G ⟨acc, h1, h2, e, hp⟩
    exact k D acc G hD e h1 h2 hp
theorem snoc_get2 {β : Type} {acc : List V} {us : List β} {y : V} {u : β} (hl : acc.length = us.length) {R : V → β → Prop} (ho : ∀ (m : Nat) (v : V) (w : β), acc[m]? = some v → us[m]? = some w → R v w) (hy : R y u) : ∀ (m : Nat) (v : V) (w : β), (acc ++ [y])[m]? = some v → (us ++ [u])[m]? = some w → R v w := fun m v w hv hw => by
  by_cases c : m < acc.length
  · rw [List.getElem?_append_left c] at hv
    rw [List.getElem?_append_left (by rw [← hl]; exact c)] at hw
    exact ho m v w hv hw
  · rw [List.getElem?_append_right (Nat.le_of_not_lt c)] at hv
    rw [List.getElem?_append_right (by rw [← hl]; exact Nat.le_of_not_lt c), ← hl] at hw
    generalize m - acc.length = j at hv hw
    cases j with
    | zero => cases hv; cases hw; exact hy
    | succ j => cases hv
/-- [f(x) for x in .. if ..]: of each z of zs what h tells, if it tells anything -/
theorem cmF {α β : Type} {tt : TT} (w : Walk J n Gd Y) (hn : n ≤ 1000) (hGd : ∀ H', Same H H' → Gd H') (zs : List α) (hz : zs.length = n) (h : α → Option β) (R : V → β → Hp → Prop) (mono : ∀ v u G G', SameT G G' → R v u G → R v u G')
    (he : ∀ i x z H1 H2, zs[i]? = some z → Same H H1 → Y i H1 x H2 → ∀ (Q' : VK) (N : Hp → Prop), (∀ v u H3, h z = some u → Same H1 H3 → R v u H3 → Q' v H3) → (h z = none → ∀ H3, Same H1 H3 → N H3) →
      g x (wipe σ vs) H2 fun σ2 H3 => wipe σ2 vs = wipe σ vs ∧ tt σ2 H3 fun b H4 => if b = true then te σ2 H4 Q' else N H4)
    (k : ∀ D ys H', H D = none → Same H H' → H' D = some (.lst ys) → ys.length = (zs.filterMap h).length → (∀ (i : Nat) (v : V) (u : β), ys[i]? = some v → (zs.filterMap h)[i]? = some u → R v u H') → Q (.ref D) H') : CmpAt g tt te vs σ Q J H := fun D hD => by
  refine lc_it w (fun i G => ∃ acc, G D = some (.lst acc) ∧ Same H G ∧ acc.length = ((zs.take i).filterMap h).length ∧ ∀ (m : Nat) (v : V) (u : β), acc[m]? = some v → ((zs.take i).filterMap h)[m]? = some u → R v u G) ⟨[], upd_same, w_new hD, rfl, fun m v u a => by simp at a⟩ (fun i G _ ⟨_, _, e, _⟩ => hGd G e) ?_ ?_
  · rintro i x G G' hi ⟨acc, h1, e, hl, hp⟩ hy
    have hzi : zs[i]? = some zs[i] := List.getElem?_eq_getElem (by omega)
    have tk : (zs.take (i + 1)).filterMap h = (zs.take i).filterMap h ++ [zs[i]].filterMap h := by rw [List.take_succ, hzi, List.filterMap_append]; rfl
    have len : acc.length ≤ i := by
      rw [hl]
      refine Nat.le_trans (List.length_filterMap_le _ _) ?_
      rw [List.length_take]
      omega
    refine he i x zs[i] G G' hzi e hy (fun y H4 => ∃ acc, H4 D = some (.lst acc) ∧ acc.length < sizeLine ∧ ∃ acc', upd H4 D (.lst (acc ++ [y])) D = some (.lst acc') ∧ Same H (upd H4 D (.lst (acc ++ [y]))) ∧ acc'.length = ((zs.take (i + 1)).filterMap h).length ∧ ∀ (m : Nat) (v : V) (u : β), acc'[m]? = some v → ((zs.take (i + 1)).filterMap h)[m]? = some u → R v u (upd H4 D (.lst (acc ++ [y]))))
      (fun H4 => ∃ acc, H4 D = some (.lst acc) ∧ Same H H4 ∧ acc.length = ((zs.take (i + 1)).filterMap h).length ∧ ∀ (m : Nat) (v : V) (u : β), acc[m]? = some v → ((zs.take (i + 1)).filterMap h)[m]? = some u → R v u H4) (fun v u H4 hu e4 r => ?_) (fun hu H4 e4 => ?_)
    · have h3 := e4 _ _ h1
      have tk2 : (zs.take (i + 1)).filterMap h = (zs.take i).filterMap h ++ [u] := by rw [tk, List.filterMap_cons, hu]; rfl
      refine ⟨acc, h3, Nat.lt_of_lt_of_le (show acc.length < 1001 by omega) (by decide), _, upd_same, RK.Same.updL (e.trans e4) hD, by rw [tk2, List.length_append, List.length_append, hl]; rfl, ?_⟩
      rw [tk2]
      exact snoc_get2 hl (R := fun v' u => R v' u (upd H4 D (.lst (acc ++ [v])))) (fun m v' u' a b => mono _ _ H4 _ (SameT.upd h3) (mono _ _ G H4 (.of e4) (hp m v' u' a b))) (mono _ _ H4 _ (SameT.upd h3) r)
    · have tk2 : (zs.take (i + 1)).filterMap h = (zs.take i).filterMap h := by rw [tk, List.filterMap_cons, hu]; exact List.append_nil _
      refine ⟨acc, e4 _ _ h1, e.trans e4, by rw [tk2]; exact hl, fun m v u a b => ?_⟩
      rw [tk2] at b
      exact mono _ _ G H4 (.of e4) (hp m v u a b)
  · rintro G ⟨acc, h1, e, hl, hp⟩
    rw [← hz, List.take_length] at hl hp
    exact k D acc G hD e h1 hl hp
/-- a dict by a comprehension -/
def DcAt (o0 : HO) (g : TG) (tt : TT) (tk tv : TE) (vs : List Nat) (σ : L2.St) (Q : VK) (J : It) (H1 : Hp) : Prop := ∀ D, H1 D = none → ∃ W : Nat → Nat → Hp → Prop, (∃ m, W 0 m (upd H1 D o0)) ∧ ∀ i m G, W i m G →
  (J.stop i G ∧ Q (.ref D) G) ∨ (J.go i G ∧ ∃ Nx : Hp → Prop, (∀ G', Nx G' → ∃ m', m' < m ∧ W (i + 1) m' G') ∧ ∀ x G', J.yld i G x G' → g x (wipe σ vs) G' fun σ2 H2 => wipe σ2 vs = wipe σ vs ∧ tt σ2 H2 fun b H3 =>
    if b = true then tk σ2 H3 fun y H4 => tv σ2 H4 fun z H5 => ∃ H6, DPut H5 D y z H6 ∧ Nx H6 else Nx H3)
theorem w_dc {o0 : HO} {wi : TI} {tt : TT} {tk tv : TE} (h : wi σ H fun J H1 => DcAt o0 g tt tk tv vs σ Q J H1) : tDcP o0 wi g tt tk tv vs σ H Q := h
theorem dc_leaf {o0 : HO} {tk tv : TE} (w : Walk J n Gd Y) (Pv : Addr → Nat → Hp → Prop) (h0 : ∀ D, H D = none → Pv D 0 (upd H D o0)) (hG : ∀ D i G, i ≤ n → Pv D i G → Gd G)
    (hs : ∀ D i x G G', i < n → Pv D i G → Y i G x G' → g x (wipe σ vs) G' fun σ2 H2 => wipe σ2 vs = wipe σ vs ∧ tk σ2 H2 fun y H4 => tv σ2 H4 fun z H5 => ∃ H6, DPut H5 D y z H6 ∧ Pv D (i + 1) H6) (hd : ∀ D G, H D = none → Pv D n G → Q (.ref D) G) :
    DcAt o0 g tYes tk tv vs σ Q J H := fun D hD => by
  refine ⟨fun i m G => m = n - i ∧ i ≤ n ∧ Pv D i G, ⟨n, by simp, Nat.zero_le _, h0 D hD⟩, ?_⟩
  rintro i m G ⟨rfl, hi, p⟩
  have q := hG D i G hi p
  by_cases lt : i < n
  · exact .inr ⟨w.goes i G lt q, Pv D (i + 1), fun G' p' => ⟨n - (i + 1), by omega, rfl, lt, p'⟩, fun x G' y => hs D i x G G' lt p (w.yields i G x G' lt q y)⟩
  · obtain rfl : i = n := by omega
    exact .inl ⟨w.stops G q, hd D G hD p⟩
/-- three, taken apart -/
theorem g_three {i j l : Nat} {q : Addr} {x y z : V} {Q : L2.St → Hp → Prop} (h : SqT K H q [x, y, z]) (k : Q (((σ.set i (some x)).set j (some y)).set l (some z)) H) : gTup K 3 (gCons (gName i) (gCons (gName j) (gCons (gName l) gNil))) (.ref q) σ H Q :=
  ⟨q, _, rfl, h, rfl, x, [y, z], rfl, y, [z], rfl, z, [], rfl, rfl, k⟩
theorem g_twoT {i j : Nat} {q : Addr} {x y : V} {Q : L2.St → Hp → Prop} (h : SqT K H q [x, y]) (k : Q ((σ.set i (some x)).set j (some y)) H) : gTup K 2 (gCons (gName i) (gCons (gName j) gNil)) (.ref q) σ H Q :=
  ⟨q, _, rfl, h, rfl, x, [y], rfl, y, [], rfl, rfl, k⟩
end
/-! ### all but one object stand -/
def But (D : Addr) (H H' : Hp) : Prop := ∀ c o, c ≠ D → H c = some o → H' c = some o
theorem But.refl (D : Addr) (H : Hp) : But D H H := fun _ _ _ h => h
theorem But.of {D : Addr} {H H' : Hp} (e : Same H H') : But D H H' := fun c o _ h => e c o h
theorem But.trans {D : Addr} {H H1 H2 : Hp} (a : But D H H1) (b : But D H1 H2) : But D H H2 := fun c o n h => b c o n (a c o n h)
theorem But.upd {D : Addr} {H H' : Hp} {o : HO} (a : But D H H') : But D H (upd H' D o) := fun c u n h => by rw [upd_ne n]; exact a c u n h
theorem But.same {D : Addr} {H H' : Hp} (a : But D H H') (h : H D = none) : Same H H' := fun c o q => a c o (ne_of_none q h) q
theorem But.sqt {K : PySem.W.Frag} {H H' : Hp} {D p : Addr} {xs : List V} {u : HO} (e : But D H H') (hD : H D = some u) (hu : ∀ ys, u ≠ .tup ys) (hf : ∀ o v, u ≠ .frz o v) (h : SqT K H p xs) : SqT K H' p xs := by
  rcases h with (h | ⟨o, h⟩) | h
  · exact .inl (.inl (e _ _ (fun z => by rw [z, hD] at h; cases h; exact hu _ rfl) h))
  · exact .inl (.inr ⟨o, e _ _ (fun z => by rw [z, hD] at h; cases h; exact hf _ _ rfl) h⟩)
  · exact .inr h
/-! ### a tuple of rows -/
/-- at t a tuple of tuples, whose values are L's -/
def Rws (K : PySem.W.Frag) (H : Hp) (t : Addr) (L : List (List V)) : Prop := ∃ as : List Addr, SqT K H t (as.map V.ref) ∧ as.length = L.length ∧ ∀ (i : Nat) (q : Addr) (u : List V), as[i]? = some q → L[i]? = some u → SqT K H q u
theorem Rws.sameT {K : PySem.W.Frag} {H H' : Hp} {t : Addr} {L : List (List V)} (r : Rws K H t L) (e : SameT H H') : Rws K H' t L := let ⟨as, h1, h2, h3⟩ := r; ⟨as, e.sqt h1, h2, fun i q u a b => e.sqt (h3 i q u a b)⟩
theorem Rws.same {K : PySem.W.Frag} {H H' : Hp} {t : Addr} {L : List (List V)} (r : Rws K H t L) (e : Same H H') : Rws K H' t L := r.sameT (.of e)
theorem Rws.kp {K : PySem.W.Frag} {H H' : Hp} {b t : Addr} {L : List (List V)} (r : Rws K H t L) (e : Kp b H H') : Rws K H' t L := r.sameT e.sameT
theorem rows_at {K : PySem.W.Frag} {H : Hp} {as : List Addr} {L : List (List V)} (hl : as.length = L.length) (h : ∀ (i : Nat) (q : Addr) (u : List V), as[i]? = some q → L[i]? = some u → SqT K H q u) {i : Nat} {x : V} (e : (as.map V.ref)[i]? = some x) : ∃ q u, x = .ref q ∧ L[i]? = some u ∧ SqT K H q u := by
  rw [List.getElem?_map] at e
  cases a : as[i]? with
  | none => rw [a] at e; cases e
  | some q =>
    rw [a] at e
    cases e
    have hi : i < L.length := by rw [← hl]; exact (List.getElem?_eq_some_iff.mp a).1
    exact ⟨q, L[i], rfl, List.getElem?_eq_getElem hi, h i q _ a (List.getElem?_eq_getElem hi)⟩
section
variable {K : PySem.W.Frag} {σ : L2.St} {H : Hp} {Q : VK} {ta tb tc : TE} {r r' : R2}
def GetL (a : Addr) (y : V) (H : Hp) (Q : VK) : Prop := ∃ o, DGet H a y o ∧ Q (o.getD .non) H
theorem w_dget1 {td ty : TE} (h : td σ H fun x H1 => ∃ a, x = .ref a ∧ IsD H1 a ∧ ty σ H1 fun y H2 => GetL a y H2 Q) : tDGet1 td ty σ H Q := h
theorem w_dget {td ty : TE} (h : td σ H fun x H1 => ty σ H1 fun y H2 => ∃ a v, x = .ref a ∧ DGet H2 a y (some v) ∧ Q v H2) : tDGet td ty σ H Q := h
theorem w_chain (h : ta σ H fun x H1 => tb σ H1 fun y H2 => r x y H2 fun z H3 => ∃ k, z = .bl k ∧ if k = true then tc σ H3 fun w' H4 => r' y w' H4 Q else Q (.bl false) H3) : tChain r r' ta tb tc σ H Q := h
theorem w_lenS {s : Str} (hs : s.cps.size ≤ 1000) (q : Q (.int (s.cps.size : Nat)) H) : rLen K [.str s] H Q := ⟨.str s, _, rfl, ⟨Nat.le_trans hs (by decide), rfl⟩, q⟩
/-- x is in a list of texts -/
theorem inV_strs (s : Str) (xs : List Str) : inV (.str s) (xs.map V.str) = decide (s ∈ xs) := by
  unfold inV
  rw [List.any_map, Bool.eq_iff_iff, List.any_eq_true, decide_eq_true_eq]
  refine ⟨fun ⟨y, hy, e⟩ => ?_, fun h => ⟨s, h, ?_⟩⟩
  · have e : (y == s) = true := e
    rw [← eq_of_beq e]
    exact hy
  · show (s == s) = true
    exact beq_self_eq_true s
theorem flat_strs (xs : List Str) : (xs.map V.str).all flatV = true := by
  rw [List.all_map, List.all_eq_true]
  intro x _
  rfl
theorem in_leaf {p : Addr} {s : Str} {xs : List Str} (h : SqL K H p (xs.map V.str) ∨ SqT K H p (xs.map V.str)) (q : Q (.bl (decide (s ∈ xs))) H) : rIn K false (.str s) (.ref p) H Q := ⟨p, _, rfl, h, rfl, flat_strs xs, by
  rw [inV_strs]
  exact q⟩
end
/-! ### letters and words -/
/-- one sign between two -/
def Sgn (lo hi : Nat) (s : Str) (c : Nat) : Prop := s = ⟨#[c]⟩ ∧ lo ≤ c ∧ c ≤ hi
theorem lt1 (x y : Nat) : decide (([x] : List Nat) < [y]) = decide (x < y) := by rw [StrLaws.lt_cons_cons, StrLaws.lt_nil_nil, Bool.and_false, Bool.or_false]
theorem cutS1 (s : Str) : (cutS s (some 1) none).cps.toList = s.cps.toList.drop 1 := by
  have hl : s.length = s.cps.toList.length := (Array.length_toList).symm
  show (((s.cps.toList.drop (HT.sIx s.length 0 (some 1))).take (HT.sIx s.length s.length none - HT.sIx s.length 0 (some 1))).toArray).toList = _
  rw [hl, show (some (1 : Int)) = some ((1 : Nat) : Int) from rfl, HT.sIx_nat, HT.sIx_none]
  generalize s.cps.toList = l
  cases l with
  | nil => rfl
  | cons x r =>
    rw [show min 1 (x :: r).length = 1 from by rw [List.length_cons]; omega]
    simp
theorem cutS1_at (s : Str) (i : Nat) : (cutS s (some 1) none).cps[i]? = s.cps[i + 1]? := by
  rw [← Array.getElem?_toList, cutS1, List.getElem?_drop, ← Array.getElem?_toList, Nat.add_comm]
/-- two to eight small letters -/
def Word (s : Str) : Prop := 2 ≤ s.cps.size ∧ s.cps.size ≤ 8 ∧ ∀ c ∈ s.cps.toList, 97 ≤ c ∧ c ≤ 122
end RK

namespace RK7
open PySem PySem.Spec L2 RK RZ StX
def top (i : Nat) : Stmt := PySem.Challenge.pw_slackstrings_k07_distances_and_ways.main.body.getD i (.Pass ⟨0, 0, 0, 0⟩)
abbrev s_is_whole : Stmt := top 11
theorem sc_is_whole : FnScope ["value"] ["value"] (defScope s_is_whole) := ⟨rfl, rfl, rfl, by decide +kernel, rfl, by decide +kernel, by decide +kernel⟩
abbrev s_is_number : Stmt := top 12
theorem sc_is_number : FnScope ["value"] ["value"] (defScope s_is_number) := ⟨rfl, rfl, rfl, by decide +kernel, rfl, by decide +kernel, by decide +kernel⟩
abbrev s_is_small_letter : Stmt := top 13
theorem sc_is_small_letter : FnScope ["value"] ["value"] (defScope s_is_small_letter) := ⟨rfl, rfl, rfl, by decide +kernel, rfl, by decide +kernel, by decide +kernel⟩
abbrev s_is_capital : Stmt := top 14
theorem sc_is_capital : FnScope ["value"] ["value"] (defScope s_is_capital) := ⟨rfl, rfl, rfl, by decide +kernel, rfl, by decide +kernel, by decide +kernel⟩
abbrev s_is_word : Stmt := top 15
theorem sc_is_word : FnScope ["value", "sign"] ["value"] (defScope s_is_word) := ⟨rfl, rfl, rfl, by decide +kernel, rfl, by decide +kernel, by decide +kernel⟩
abbrev s_is_row : Stmt := top 16
theorem sc_is_row : FnScope ["value", "least", "most"] ["value", "least", "most"] (defScope s_is_row) := ⟨rfl, rfl, rfl, by decide +kernel, rfl, by decide +kernel, by decide +kernel⟩
abbrev s_is_rising : Stmt := top 17
theorem sc_is_rising : FnScope ["signs", "one", "other"] ["signs"] (defScope s_is_rising) := ⟨rfl, rfl, rfl, by decide +kernel, rfl, by decide +kernel, by decide +kernel⟩
abbrev s_are_capitals : Stmt := top 18
theorem sc_are_capitals : FnScope ["value", "most", "sign"] ["value", "most"] (defScope s_are_capitals) := ⟨rfl, rfl, rfl, by decide +kernel, rfl, by decide +kernel, by decide +kernel⟩
abbrev s_is_one_of : Stmt := top 19
theorem sc_is_one_of : FnScope ["value", "strings"] ["value", "strings"] (defScope s_is_one_of) := ⟨rfl, rfl, rfl, by decide +kernel, rfl, by decide +kernel, by decide +kernel⟩
abbrev s_Puppet_init : Stmt := inClass (top 26) 0
theorem sc_Puppet_init : FnScope ["self", "parts", "ties", "hooks", "strings", "name", "_"] ["self", "parts", "ties", "hooks", "strings"] (defScope s_Puppet_init) := ⟨rfl, rfl, rfl, by decide +kernel, rfl, by decide +kernel, by decide +kernel⟩
abbrev s_check_parts : Stmt := top 27
theorem sc_check_parts : FnScope ["parts", "index", "part"] ["parts"] (defScope s_check_parts) := ⟨rfl, rfl, rfl, by decide +kernel, rfl, by decide +kernel, by decide +kernel⟩
abbrev s_check_ties : Stmt := top 28
theorem sc_check_ties : FnScope ["ties", "parts", "index", "tie"] ["ties", "parts"] (defScope s_check_ties) := ⟨rfl, rfl, rfl, by decide +kernel, rfl, by decide +kernel, by decide +kernel⟩
abbrev s_is_tie : Stmt := top 29
theorem sc_is_tie : FnScope ["value", "parts"] ["value", "parts"] (defScope s_is_tie) := ⟨rfl, rfl, rfl, by decide +kernel, rfl, by decide +kernel, by decide +kernel⟩
abbrev s_is_tied : Stmt := top 30
theorem sc_is_tied : FnScope ["part", "other", "ties", "one", "two", "_"] ["part", "other", "ties"] (defScope s_is_tied) := ⟨rfl, rfl, rfl, by decide +kernel, rfl, by decide +kernel, by decide +kernel⟩
abbrev s_check_strings : Stmt := top 31
theorem sc_check_strings : FnScope ["strings", "hooks", "parts", "index", "string"] ["strings", "hooks", "parts"] (defScope s_check_strings) := ⟨rfl, rfl, rfl, by decide +kernel, rfl, by decide +kernel, by decide +kernel⟩
abbrev s_is_string : Stmt := top 32
theorem sc_is_string : FnScope ["value", "hooks", "parts"] ["value", "hooks", "parts"] (defScope s_is_string) := ⟨rfl, rfl, rfl, by decide +kernel, rfl, by decide +kernel, by decide +kernel⟩
abbrev s_distances_of : Stmt := top 33
theorem sc_distances_of : FnScope ["parts", "ties", "found", "part", "other", "reach", "middle"] ["parts", "ties"] (defScope s_distances_of) := ⟨rfl, rfl, rfl, by decide +kernel, rfl, by decide +kernel, by decide +kernel⟩
abbrev s_shorten : Stmt := top 34
theorem sc_shorten : FnScope ["distances", "part", "middle", "other", "first", "second", "known"] ["distances", "part", "middle", "other"] (defScope s_shorten) := ⟨rfl, rfl, rfl, by decide +kernel, rfl, by decide +kernel, by decide +kernel⟩
abbrev s_Puppet_distance : Stmt := inClass (top 26) 2
theorem sc_Puppet_distance : FnScope ["self", "part", "other", "each"] ["self", "part", "other"] (defScope s_Puppet_distance) := ⟨rfl, rfl, rfl, by decide +kernel, rfl, by decide +kernel, by decide +kernel⟩
abbrev s_Puppet_has_way : Stmt := inClass (top 26) 3
theorem sc_Puppet_has_way : FnScope ["self", "hook", "part"] ["self", "hook", "part"] (defScope s_Puppet_has_way) := ⟨rfl, rfl, rfl, by decide +kernel, rfl, by decide +kernel, by decide +kernel⟩
abbrev s_Puppet_pulls : Stmt := inClass (top 26) 8
theorem sc_Puppet_pulls : FnScope ["self", "part", "ways", "name", "hook", "end", "way"] ["self", "part"] (defScope s_Puppet_pulls) := ⟨rfl, rfl, rfl, by decide +kernel, rfl, by decide +kernel, by decide +kernel⟩
abbrev s_Puppet_hooks_to : Stmt := inClass (top 26) 9
theorem sc_Puppet_hooks_to : FnScope ["self", "part", "_", "hook"] ["self", "part"] (defScope s_Puppet_hooks_to) := ⟨rfl, rfl, rfl, by decide +kernel, rfl, by decide +kernel, by decide +kernel⟩
abbrev s_bag : Stmt := top 36
theorem sc_bag : FnScope ["_law_cells", "_law_k", "_law_cell", "_law_seed", "_law_this", "_law_figures"] ["_law_cells", "_law_k"] (defScope s_bag) := ⟨rfl, rfl, rfl, by decide +kernel, rfl, by decide +kernel, by decide +kernel⟩
abbrev s_draw : Stmt := top 37
theorem sc_draw : FnScope ["_law_bag_here", "_law_wide", "_law_figure", "_law_held", "_law_times"] ["_law_bag_here", "_law_wide"] (defScope s_draw) := ⟨rfl, rfl, rfl, by decide +kernel, rfl, by decide +kernel, by decide +kernel⟩
abbrev s_one : Stmt := top 38
theorem sc_one : FnScope ["_law_bag_here", "_law_some"] ["_law_bag_here", "_law_some"] (defScope s_one) := ⟨rfl, rfl, rfl, by decide +kernel, rfl, by decide +kernel, by decide +kernel⟩
abbrev s_words : Stmt := top 39
theorem sc_words : FnScope ["_law_bag_here", "_law_many", "_law_found", "_law_turn", "_law_made", "_law_k"] ["_law_bag_here", "_law_many"] (defScope s_words) := ⟨rfl, rfl, rfl, by decide +kernel, rfl, by decide +kernel, by decide +kernel⟩
abbrev s_letters : Stmt := top 40
theorem sc_letters : FnScope ["_law_bag_here", "_law_pool", "_law_many", "_law_left", "_law_found", "_law_turn"] ["_law_bag_here", "_law_pool", "_law_many"] (defScope s_letters) := ⟨rfl, rfl, rfl, by decide +kernel, rfl, by decide +kernel, by decide +kernel⟩
abbrev s_cords : Stmt := top 41
theorem sc_cords : FnScope ["_law_bag_here", "_law_limbs", "_law_pairs", "_law_k", "_law_j", "_law_pair"] ["_law_bag_here", "_law_limbs"] (defScope s_cords) := ⟨rfl, rfl, rfl, by decide +kernel, rfl, by decide +kernel, by decide +kernel⟩
abbrev s_shape : Stmt := top 42
theorem sc_shape : FnScope ["_law_bag_here", "_law_limbs", "_law_pegs", "_law_called", "_law_lines", "_law_each"] ["_law_bag_here"] (defScope s_shape) := ⟨rfl, rfl, rfl, by decide +kernel, rfl, by decide +kernel, by decide +kernel⟩
abbrev s_far : Stmt := top 43
theorem sc_far : FnScope ["_law_shape_here", "_law_found", "_law_limb", "_law_turn", "_law_one_here", "_law_two", "_law_reach", "_law_near", "_law_away", "_law_far_here"] ["_law_shape_here"] (defScope s_far) := ⟨rfl, rfl, rfl, by decide +kernel, rfl, by decide +kernel, by decide +kernel⟩
abbrev s_right : Stmt := top 44
theorem sc_right : FnScope ["_law_bag_here", "_law_turn", "_law_shape_here", "_law_mine", "_law_far_here", "_law_one_here", "_law_two", "_law_due", "_law_found", "_law_peg", "_law_line"] ["_law_bag_here"] (defScope s_right) := ⟨rfl, rfl, rfl, by decide +kernel, rfl, by decide +kernel, by decide +kernel⟩
abbrev s_chain_right : Stmt := top 45
theorem sc_chain_right : FnScope ["_law_limbs", "_law_spans", "_law_cords_here", "_law_listed", "_law_mine", "_law_k", "_law_j", "_law_due"] [] (defScope s_chain_right) := ⟨rfl, rfl, rfl, by decide +kernel, rfl, by decide +kernel, by decide +kernel⟩
abbrev s_law : Stmt := top 46
theorem sc_law : FnScope ["_law_cells", "_law_cords_here", "_law_mine", "_law_found", "_law_k"] ["_law_cells"] (defScope s_law) := ⟨rfl, rfl, rfl, by decide +kernel, rfl, by decide +kernel, by decide +kernel⟩
structure Ad where
  C_Puppet : Addr
  f_is_whole : Addr
  d_is_whole : FuncData
  f_is_number : Addr
  d_is_number : FuncData
  f_is_small_letter : Addr
  d_is_small_letter : FuncData
  f_is_capital : Addr
  d_is_capital : FuncData
  f_is_word : Addr
  d_is_word : FuncData
  f_is_row : Addr
  d_is_row : FuncData
  f_is_rising : Addr
  d_is_rising : FuncData
  f_are_capitals : Addr
  d_are_capitals : FuncData
  f_is_one_of : Addr
  d_is_one_of : FuncData
  f_Puppet_init : Addr
  d_Puppet_init : FuncData
  f_check_parts : Addr
  d_check_parts : FuncData
  f_check_ties : Addr
  d_check_ties : FuncData
  f_is_tie : Addr
  d_is_tie : FuncData
  f_is_tied : Addr
  d_is_tied : FuncData
  f_check_strings : Addr
  d_check_strings : FuncData
  f_is_string : Addr
  d_is_string : FuncData
  f_distances_of : Addr
  d_distances_of : FuncData
  f_shorten : Addr
  d_shorten : FuncData
  f_Puppet_distance : Addr
  d_Puppet_distance : FuncData
  f_Puppet_has_way : Addr
  d_Puppet_has_way : FuncData
  f_Puppet_pulls : Addr
  d_Puppet_pulls : FuncData
  f_Puppet_hooks_to : Addr
  d_Puppet_hooks_to : FuncData
  f_bag : Addr
  d_bag : FuncData
  f_draw : Addr
  d_draw : FuncData
  f_one : Addr
  d_one : FuncData
  f_words : Addr
  d_words : FuncData
  f_letters : Addr
  d_letters : FuncData
  f_cords : Addr
  d_cords : FuncData
  f_shape : Addr
  d_shape : FuncData
  f_far : Addr
  d_far : FuncData
  f_right : Addr
  d_right : FuncData
  f_chain_right : Addr
  d_chain_right : FuncData
  f_law : Addr
  d_law : FuncData
  k_MOST_PARTS : Tok
  k_MOST_TIES : Tok
  k_MOST_HOOKS : Tok
  k_MOST_STRINGS : Tok
  k_MOST_AMOUNT : Tok

structure Txt (K : PySem.W.Frag) (mg : Str → Option Value) (a : Ad) : Prop where
  F_is_whole : Fun K "is_whole" "is_whole" s_is_whole a.f_is_whole a.d_is_whole
  b_is_whole : L2.Binds K a.d_is_whole ["value"] []
  m_is_whole : mg "is_whole" = some (.ref a.f_is_whole)
  F_is_number : Fun K "is_number" "is_number" s_is_number a.f_is_number a.d_is_number
  b_is_number : L2.Binds K a.d_is_number ["value"] []
  m_is_number : mg "is_number" = some (.ref a.f_is_number)
  F_is_small_letter : Fun K "is_small_letter" "is_small_letter" s_is_small_letter a.f_is_small_letter a.d_is_small_letter
  b_is_small_letter : L2.Binds K a.d_is_small_letter ["value"] []
  m_is_small_letter : mg "is_small_letter" = some (.ref a.f_is_small_letter)
  F_is_capital : Fun K "is_capital" "is_capital" s_is_capital a.f_is_capital a.d_is_capital
  b_is_capital : L2.Binds K a.d_is_capital ["value"] []
  m_is_capital : mg "is_capital" = some (.ref a.f_is_capital)
  F_is_word : Fun K "is_word" "is_word" s_is_word a.f_is_word a.d_is_word
  b_is_word : L2.Binds K a.d_is_word ["value"] []
  m_is_word : mg "is_word" = some (.ref a.f_is_word)
  F_is_row : Fun K "is_row" "is_row" s_is_row a.f_is_row a.d_is_row
  b_is_row : L2.Binds K a.d_is_row ["value", "least", "most"] []
  m_is_row : mg "is_row" = some (.ref a.f_is_row)
  F_is_rising : Fun K "is_rising" "is_rising" s_is_rising a.f_is_rising a.d_is_rising
  b_is_rising : L2.Binds K a.d_is_rising ["signs"] []
  m_is_rising : mg "is_rising" = some (.ref a.f_is_rising)
  F_are_capitals : Fun K "are_capitals" "are_capitals" s_are_capitals a.f_are_capitals a.d_are_capitals
  b_are_capitals : L2.Binds K a.d_are_capitals ["value", "most"] []
  m_are_capitals : mg "are_capitals" = some (.ref a.f_are_capitals)
  F_is_one_of : Fun K "is_one_of" "is_one_of" s_is_one_of a.f_is_one_of a.d_is_one_of
  b_is_one_of : L2.Binds K a.d_is_one_of ["value", "strings"] []
  m_is_one_of : mg "is_one_of" = some (.ref a.f_is_one_of)
  F_Puppet_init : Fun K "__init__" "Puppet.__init__" s_Puppet_init a.f_Puppet_init a.d_Puppet_init
  b_Puppet_init : L2.Binds K a.d_Puppet_init ["self", "parts", "ties", "hooks", "strings"] []
  me_Puppet_init : Meth K a.C_Puppet "__init__" a.f_Puppet_init
  F_check_parts : Fun K "check_parts" "check_parts" s_check_parts a.f_check_parts a.d_check_parts
  b_check_parts : L2.Binds K a.d_check_parts ["parts"] []
  m_check_parts : mg "check_parts" = some (.ref a.f_check_parts)
  F_check_ties : Fun K "check_ties" "check_ties" s_check_ties a.f_check_ties a.d_check_ties
  b_check_ties : L2.Binds K a.d_check_ties ["ties", "parts"] []
  m_check_ties : mg "check_ties" = some (.ref a.f_check_ties)
  F_is_tie : Fun K "is_tie" "is_tie" s_is_tie a.f_is_tie a.d_is_tie
  b_is_tie : L2.Binds K a.d_is_tie ["value", "parts"] []
  m_is_tie : mg "is_tie" = some (.ref a.f_is_tie)
  F_is_tied : Fun K "is_tied" "is_tied" s_is_tied a.f_is_tied a.d_is_tied
  b_is_tied : L2.Binds K a.d_is_tied ["part", "other", "ties"] []
  m_is_tied : mg "is_tied" = some (.ref a.f_is_tied)
  F_check_strings : Fun K "check_strings" "check_strings" s_check_strings a.f_check_strings a.d_check_strings
  b_check_strings : L2.Binds K a.d_check_strings ["strings", "hooks", "parts"] []
  m_check_strings : mg "check_strings" = some (.ref a.f_check_strings)
  F_is_string : Fun K "is_string" "is_string" s_is_string a.f_is_string a.d_is_string
  b_is_string : L2.Binds K a.d_is_string ["value", "hooks", "parts"] []
  m_is_string : mg "is_string" = some (.ref a.f_is_string)
  F_distances_of : Fun K "distances_of" "distances_of" s_distances_of a.f_distances_of a.d_distances_of
  b_distances_of : L2.Binds K a.d_distances_of ["parts", "ties"] []
  m_distances_of : mg "distances_of" = some (.ref a.f_distances_of)
  F_shorten : Fun K "shorten" "shorten" s_shorten a.f_shorten a.d_shorten
  b_shorten : L2.Binds K a.d_shorten ["distances", "part", "middle", "other"] []
  m_shorten : mg "shorten" = some (.ref a.f_shorten)
  F_Puppet_distance : Fun K "distance" "Puppet.distance" s_Puppet_distance a.f_Puppet_distance a.d_Puppet_distance
  b_Puppet_distance : L2.Binds K a.d_Puppet_distance ["self", "part", "other"] []
  me_Puppet_distance : Meth K a.C_Puppet "distance" a.f_Puppet_distance
  F_Puppet_has_way : Fun K "has_way" "Puppet.has_way" s_Puppet_has_way a.f_Puppet_has_way a.d_Puppet_has_way
  b_Puppet_has_way : L2.Binds K a.d_Puppet_has_way ["self", "hook", "part"] []
  me_Puppet_has_way : Meth K a.C_Puppet "has_way" a.f_Puppet_has_way
  F_Puppet_pulls : Fun K "pulls" "Puppet.pulls" s_Puppet_pulls a.f_Puppet_pulls a.d_Puppet_pulls
  b_Puppet_pulls : L2.Binds K a.d_Puppet_pulls ["self", "part"] []
  me_Puppet_pulls : Meth K a.C_Puppet "pulls" a.f_Puppet_pulls
  F_Puppet_hooks_to : Fun K "hooks_to" "Puppet.hooks_to" s_Puppet_hooks_to a.f_Puppet_hooks_to a.d_Puppet_hooks_to
  b_Puppet_hooks_to : L2.Binds K a.d_Puppet_hooks_to ["self", "part"] []
  me_Puppet_hooks_to : Meth K a.C_Puppet "hooks_to" a.f_Puppet_hooks_to
  F_bag : Fun K "_law_bag" "_law_bag" s_bag a.f_bag a.d_bag
  b_bag : L2.Binds K a.d_bag ["_law_cells", "_law_k"] []
  m_bag : mg "_law_bag" = some (.ref a.f_bag)
  F_draw : Fun K "_law_draw" "_law_draw" s_draw a.f_draw a.d_draw
  b_draw : L2.Binds K a.d_draw ["_law_bag_here", "_law_wide"] []
  m_draw : mg "_law_draw" = some (.ref a.f_draw)
  F_one : Fun K "_law_one" "_law_one" s_one a.f_one a.d_one
  b_one : L2.Binds K a.d_one ["_law_bag_here", "_law_some"] []
  m_one : mg "_law_one" = some (.ref a.f_one)
  F_words : Fun K "_law_words" "_law_words" s_words a.f_words a.d_words
  b_words : L2.Binds K a.d_words ["_law_bag_here", "_law_many"] []
  m_words : mg "_law_words" = some (.ref a.f_words)
  F_letters : Fun K "_law_letters" "_law_letters" s_letters a.f_letters a.d_letters
  b_letters : L2.Binds K a.d_letters ["_law_bag_here", "_law_pool", "_law_many"] []
  m_letters : mg "_law_letters" = some (.ref a.f_letters)
  F_cords : Fun K "_law_cords" "_law_cords" s_cords a.f_cords a.d_cords
  b_cords : L2.Binds K a.d_cords ["_law_bag_here", "_law_limbs"] []
  m_cords : mg "_law_cords" = some (.ref a.f_cords)
  F_shape : Fun K "_law_shape" "_law_shape" s_shape a.f_shape a.d_shape
  b_shape : L2.Binds K a.d_shape ["_law_bag_here"] []
  m_shape : mg "_law_shape" = some (.ref a.f_shape)
  F_far : Fun K "_law_far" "_law_far" s_far a.f_far a.d_far
  b_far : L2.Binds K a.d_far ["_law_shape_here"] []
  m_far : mg "_law_far" = some (.ref a.f_far)
  F_right : Fun K "_law_right" "_law_right" s_right a.f_right a.d_right
  b_right : L2.Binds K a.d_right ["_law_bag_here"] []
  m_right : mg "_law_right" = some (.ref a.f_right)
  F_chain_right : Fun K "_law_chain_right" "_law_chain_right" s_chain_right a.f_chain_right a.d_chain_right
  b_chain_right : L2.Binds K a.d_chain_right [] []
  m_chain_right : mg "_law_chain_right" = some (.ref a.f_chain_right)
  F_law : Fun K "law" "law" s_law a.f_law a.d_law
  b_law : L2.Binds K a.d_law ["_law_cells"] []
  m_law : mg "law" = some (.ref a.f_law)
  cl_Puppet : Cls K a.C_Puppet
  m_Puppet : mg "Puppet" = some (.ref a.C_Puppet)
  mk_Puppet : Mk K a.C_Puppet a.f_Puppet_init
  z_isinstance : mg "isinstance" = none
  z_int : mg "int" = none
  z_bool : mg "bool" = none
  z_len : mg "len" = none
  z_abs : mg "abs" = none
  z_range : mg "range" = none
  z_all : mg "all" = none
  z_any : mg "any" = none
  z_max : mg "max" = none
  z_min : mg "min" = none
  z_str : mg "str" = none
  z_tuple : mg "tuple" = none
  z_zip : mg "zip" = none
  z_list : mg "list" = none
  z_sorted : mg "sorted" = none
  z_enumerate : mg "enumerate" = none
  z_repr : mg "repr" = none
  z_sum : mg "sum" = none
  m_MOST_PARTS : mg "MOST_PARTS" = some (.int 6 a.k_MOST_PARTS)
  m_MOST_TIES : mg "MOST_TIES" = some (.int 10 a.k_MOST_TIES)
  m_MOST_HOOKS : mg "MOST_HOOKS" = some (.int 4 a.k_MOST_HOOKS)
  m_MOST_STRINGS : mg "MOST_STRINGS" = some (.int 6 a.k_MOST_STRINGS)
  m_MOST_AMOUNT : mg "MOST_AMOUNT" = some (.int 1000000 a.k_MOST_AMOUNT)
  n_parts : NoAttr K a.C_Puppet "parts"
  n_ties : NoAttr K a.C_Puppet "ties"
  n_hooks : NoAttr K a.C_Puppet "hooks"
  n_strings : NoAttr K a.C_Puppet "strings"
  n_names : NoAttr K a.C_Puppet "names"
  n_distances : NoAttr K a.C_Puppet "distances"

theorem all_mk {K : PySem.W.Frag} {h : Heap} {mg : Str → Option Value} (X : K.In h) (G : h.Ns mainGlobals mg)
    {C_Puppet f_is_whole f_is_number f_is_small_letter f_is_capital f_is_word f_is_row f_is_rising f_are_capitals f_is_one_of f_Puppet_init f_check_parts f_check_ties f_is_tie f_is_tied f_check_strings f_is_string f_distances_of f_shorten f_Puppet_distance f_Puppet_has_way f_Puppet_pulls f_Puppet_hooks_to f_bag f_draw f_one f_words f_letters f_cords f_shape f_far f_right f_chain_right f_law : Addr} {oc_is_whole kV_is_whole dc_is_whole pm_is_whole cd_is_whole ct_is_whole oc_is_number kV_is_number dc_is_number pm_is_number cd_is_number ct_is_number oc_is_small_letter kV_is_small_letter dc_is_small_letter pm_is_small_letter cd_is_small_letter ct_is_small_letter oc_is_capital kV_is_capital dc_is_capital pm_is_capital cd_is_capital ct_is_capital oc_is_word kV_is_word dc_is_word pm_is_word cd_is_word ct_is_word oc_is_row kV_is_row dc_is_row pm_is_row cd_is_row ct_is_row oc_is_rising kV_is_rising dc_is_rising pm_is_rising cd_is_rising ct_is_rising oc_are_capitals kV_are_capitals dc_are_capitals pm_are_capitals cd_are_capitals ct_are_capitals oc_is_one_of kV_is_one_of dc_is_one_of pm_is_one_of cd_is_one_of ct_is_one_of oc_Puppet_init kV_Puppet_init dc_Puppet_init pm_Puppet_init cd_Puppet_init ct_Puppet_init oc_check_parts kV_check_parts dc_check_parts pm_check_parts cd_check_parts ct_check_parts oc_check_ties kV_check_ties dc_check_ties pm_check_ties cd_check_ties ct_check_ties oc_is_tie kV_is_tie dc_is_tie pm_is_tie cd_is_tie ct_is_tie oc_is_tied kV_is_tied dc_is_tied pm_is_tied cd_is_tied ct_is_tied oc_check_strings kV_check_strings dc_check_strings pm_check_strings cd_check_strings ct_check_strings oc_is_string kV_is_string dc_is_string pm_is_string cd_is_string ct_is_string oc_distances_of kV_distances_of dc_distances_of pm_distances_of cd_distances_of ct_distances_of oc_shorten kV_shorten dc_shorten pm_shorten cd_shorten ct_shorten oc_Puppet_distance kV_Puppet_distance dc_Puppet_distance pm_Puppet_distance cd_Puppet_distance ct_Puppet_distance oc_Puppet_has_way kV_Puppet_has_way dc_Puppet_has_way pm_Puppet_has_way cd_Puppet_has_way ct_Puppet_has_way oc_Puppet_pulls kV_Puppet_pulls dc_Puppet_pulls pm_Puppet_pulls cd_Puppet_pulls ct_Puppet_pulls oc_Puppet_hooks_to kV_Puppet_hooks_to dc_Puppet_hooks_to pm_Puppet_hooks_to cd_Puppet_hooks_to ct_Puppet_hooks_to oc_bag kV_bag dc_bag pm_bag cd_bag ct_bag oc_draw kV_draw dc_draw pm_draw cd_draw ct_draw oc_one kV_one dc_one pm_one cd_one ct_one oc_words kV_words dc_words pm_words cd_words ct_words oc_letters kV_letters dc_letters pm_letters cd_letters ct_letters oc_cords kV_cords dc_cords pm_cords cd_cords ct_cords oc_shape kV_shape dc_shape pm_shape cd_shape ct_shape oc_far kV_far dc_far pm_far cd_far ct_far oc_right kV_right dc_right pm_right cd_right ct_right oc_chain_right kV_chain_right dc_chain_right pm_chain_right cd_chain_right ct_chain_right oc_law kV_law dc_law pm_law cd_law ct_law : Value} {od_is_whole an_is_whole od_is_number an_is_number od_is_small_letter an_is_small_letter od_is_capital an_is_capital od_is_word an_is_word od_is_row an_is_row od_is_rising an_is_rising od_are_capitals an_are_capitals od_is_one_of an_is_one_of od_Puppet_init an_Puppet_init od_check_parts an_check_parts od_check_ties an_check_ties od_is_tie an_is_tie od_is_tied an_is_tied od_check_strings an_check_strings od_is_string an_is_string od_distances_of an_distances_of od_shorten an_shorten od_Puppet_distance an_Puppet_distance od_Puppet_has_way an_Puppet_has_way od_Puppet_pulls an_Puppet_pulls od_Puppet_hooks_to an_Puppet_hooks_to od_bag an_bag od_draw an_draw od_one an_one od_words an_words od_letters an_letters od_cords an_cords od_shape an_shape od_far an_far od_right an_right od_chain_right an_chain_right od_law an_law : Option Addr} {sl_is_whole sl_is_number sl_is_small_letter sl_is_capital sl_is_word sl_is_row sl_is_rising sl_are_capitals sl_is_one_of sl_Puppet_init sl_check_parts sl_check_ties sl_is_tie sl_is_tied sl_check_strings sl_is_string sl_distances_of sl_shorten sl_Puppet_distance sl_Puppet_has_way sl_Puppet_pulls sl_Puppet_hooks_to sl_bag sl_draw sl_one sl_words sl_letters sl_cords sl_shape sl_far sl_right sl_chain_right sl_law : Array (Option Value)} {tg_MOST_PARTS tg_MOST_TIES tg_MOST_HOOKS tg_MOST_STRINGS tg_MOST_AMOUNT : Tok}
    (aC_Puppet : PySem.W.nsIn K mainGlobals "Puppet" = some (some (.ref C_Puppet)))
    (pg_Puppet : PySem.W.plainGet K C_Puppet Str.empty = true)
    (hd_Puppet : PySem.W.hasDictIn K C_Puppet = true)
    (po_Puppet : PySem.W.plainOver K C_Puppet = true)
    (sa_Puppet : PySem.W.findIn K (.ref C_Puppet) "__setattr__" = some (some (.builtin "object.__setattr__")))
    (mk_Puppet : PySem.W.makesIn K C_Puppet = true)
    (kc_Puppet : PySem.W.keepIn K (.ref C_Puppet) = true)
    (a_is_whole : PySem.W.nsIn K mainGlobals "is_whole" = some (some (.ref f_is_whole)))
    (l_is_whole : K.lookup f_is_whole = some ⟨oc_is_whole, od_is_whole, .func (PySem.W.fnOf "is_whole" "is_whole" (defArgs s_is_whole) (defBody s_is_whole) (defScope s_is_whole) .none kV_is_whole dc_is_whole pm_is_whole an_is_whole cd_is_whole ct_is_whole), sl_is_whole⟩) (c_is_whole : PySem.W.codeIn K cd_is_whole "is_whole" = true) (k_is_whole : PySem.W.keepIn K (.ref f_is_whole) = true)
    (a_is_number : PySem.W.nsIn K mainGlobals "is_number" = some (some (.ref f_is_number)))
    (l_is_number : K.lookup f_is_number = some ⟨oc_is_number, od_is_number, .func (PySem.W.fnOf "is_number" "is_number" (defArgs s_is_number) (defBody s_is_number) (defScope s_is_number) .none kV_is_number dc_is_number pm_is_number an_is_number cd_is_number ct_is_number), sl_is_number⟩) (c_is_number : PySem.W.codeIn K cd_is_number "is_number" = true) (k_is_number : PySem.W.keepIn K (.ref f_is_number) = true)
    (a_is_small_letter : PySem.W.nsIn K mainGlobals "is_small_letter" = some (some (.ref f_is_small_letter)))
    (l_is_small_letter : K.lookup f_is_small_letter = some ⟨oc_is_small_letter, od_is_small_letter, .func (PySem.W.fnOf "is_small_letter" "is_small_letter" (defArgs s_is_small_letter) (defBody s_is_small_letter) (defScope s_is_small_letter) .none kV_is_small_letter dc_is_small_letter pm_is_small_letter an_is_small_letter cd_is_small_letter ct_is_small_letter), sl_is_small_letter⟩) (c_is_small_letter : PySem.W.codeIn K cd_is_small_letter "is_small_letter" = true) (k_is_small_letter : PySem.W.keepIn K (.ref f_is_small_letter) = true)
    (a_is_capital : PySem.W.nsIn K mainGlobals "is_capital" = some (some (.ref f_is_capital)))
    (l_is_capital : K.lookup f_is_capital = some ⟨oc_is_capital, od_is_capital, .func (PySem.W.fnOf "is_capital" "is_capital" (defArgs s_is_capital) (defBody s_is_capital) (defScope s_is_capital) .none kV_is_capital dc_is_capital pm_is_capital an_is_capital cd_is_capital ct_is_capital), sl_is_capital⟩) (c_is_capital : PySem.W.codeIn K cd_is_capital "is_capital" = true) (k_is_capital : PySem.W.keepIn K (.ref f_is_capital) = true)
    (a_is_word : PySem.W.nsIn K mainGlobals "is_word" = some (some (.ref f_is_word)))
    (l_is_word : K.lookup f_is_word = some ⟨oc_is_word, od_is_word, .func (PySem.W.fnOf "is_word" "is_word" (defArgs s_is_word) (defBody s_is_word) (defScope s_is_word) .none kV_is_word dc_is_word pm_is_word an_is_word cd_is_word ct_is_word), sl_is_word⟩) (c_is_word : PySem.W.codeIn K cd_is_word "is_word" = true) (k_is_word : PySem.W.keepIn K (.ref f_is_word) = true)
    (a_is_row : PySem.W.nsIn K mainGlobals "is_row" = some (some (.ref f_is_row)))
    (l_is_row : K.lookup f_is_row = some ⟨oc_is_row, od_is_row, .func (PySem.W.fnOf "is_row" "is_row" (defArgs s_is_row) (defBody s_is_row) (defScope s_is_row) .none kV_is_row dc_is_row pm_is_row an_is_row cd_is_row ct_is_row), sl_is_row⟩) (c_is_row : PySem.W.codeIn K cd_is_row "is_row" = true) (k_is_row : PySem.W.keepIn K (.ref f_is_row) = true)
    (a_is_rising : PySem.W.nsIn K mainGlobals "is_rising" = some (some (.ref f_is_rising)))
    (l_is_rising : K.lookup f_is_rising = some ⟨oc_is_rising, od_is_rising, .func (PySem.W.fnOf "is_rising" "is_rising" (defArgs s_is_rising) (defBody s_is_rising) (defScope s_is_rising) .none kV_is_rising dc_is_rising pm_is_rising an_is_rising cd_is_rising ct_is_rising), sl_is_rising⟩) (c_is_rising : PySem.W.codeIn K cd_is_rising "is_rising" = true) (k_is_rising : PySem.W.keepIn K (.ref f_is_rising) = true)
    (a_are_capitals : PySem.W.nsIn K mainGlobals "are_capitals" = some (some (.ref f_are_capitals)))
    (l_are_capitals : K.lookup f_are_capitals = some ⟨oc_are_capitals, od_are_capitals, .func (PySem.W.fnOf "are_capitals" "are_capitals" (defArgs s_are_capitals) (defBody s_are_capitals) (defScope s_are_capitals) .none kV_are_capitals dc_are_capitals pm_are_capitals an_are_capitals cd_are_capitals ct_are_capitals), sl_are_capitals⟩) (c_are_capitals : PySem.W.codeIn K cd_are_capitals "are_capitals" = true) (k_are_capitals : PySem.W.keepIn K (.ref f_are_capitals) = true)
    (a_is_one_of : PySem.W.nsIn K mainGlobals "is_one_of" = some (some (.ref f_is_one_of)))
    (l_is_one_of : K.lookup f_is_one_of = some ⟨oc_is_one_of, od_is_one_of, .func (PySem.W.fnOf "is_one_of" "is_one_of" (defArgs s_is_one_of) (defBody s_is_one_of) (defScope s_is_one_of) .none kV_is_one_of dc_is_one_of pm_is_one_of an_is_one_of cd_is_one_of ct_is_one_of), sl_is_one_of⟩) (c_is_one_of : PySem.W.codeIn K cd_is_one_of "is_one_of" = true) (k_is_one_of : PySem.W.keepIn K (.ref f_is_one_of) = true)
    (a_Puppet_init : PySem.W.findIn K (.ref C_Puppet) "__init__" = some (some (.ref f_Puppet_init))) (i_Puppet_init : PySem.W.isFn K (.ref f_Puppet_init) = true)
    (l_Puppet_init : K.lookup f_Puppet_init = some ⟨oc_Puppet_init, od_Puppet_init, .func (PySem.W.fnOf "__init__" "Puppet.__init__" (defArgs s_Puppet_init) (defBody s_Puppet_init) (defScope s_Puppet_init) .none kV_Puppet_init dc_Puppet_init pm_Puppet_init an_Puppet_init cd_Puppet_init ct_Puppet_init), sl_Puppet_init⟩) (c_Puppet_init : PySem.W.codeIn K cd_Puppet_init "Puppet.__init__" = true) (k_Puppet_init : PySem.W.keepIn K (.ref f_Puppet_init) = true)
    (a_check_parts : PySem.W.nsIn K mainGlobals "check_parts" = some (some (.ref f_check_parts)))
    (l_check_parts : K.lookup f_check_parts = some ⟨oc_check_parts, od_check_parts, .func (PySem.W.fnOf "check_parts" "check_parts" (defArgs s_check_parts) (defBody s_check_parts) (defScope s_check_parts) .none kV_check_parts dc_check_parts pm_check_parts an_check_parts cd_check_parts ct_check_parts), sl_check_parts⟩) (c_check_parts : PySem.W.codeIn K cd_check_parts "check_parts" = true) (k_check_parts : PySem.W.keepIn K (.ref f_check_parts) = true)
    (a_check_ties : PySem.W.nsIn K mainGlobals "check_ties" = some (some (.ref f_check_ties)))
    (l_check_ties : K.lookup f_check_ties = some ⟨oc_check_ties, od_check_ties, .func (PySem.W.fnOf "check_ties" "check_ties" (defArgs s_check_ties) (defBody s_check_ties) (defScope s_check_ties) .none kV_check_ties dc_check_ties pm_check_ties an_check_ties cd_check_ties ct_check_ties), sl_check_ties⟩) (c_check_ties : PySem.W.codeIn K cd_check_ties "check_ties" = true) (k_check_ties : PySem.W.keepIn K (.ref f_check_ties) = true)
    (a_is_tie : PySem.W.nsIn K mainGlobals "is_tie" = some (some (.ref f_is_tie)))
    (l_is_tie : K.lookup f_is_tie = some ⟨oc_is_tie, od_is_tie, .func (PySem.W.fnOf "is_tie" "is_tie" (defArgs s_is_tie) (defBody s_is_tie) (defScope s_is_tie) .none kV_is_tie dc_is_tie pm_is_tie an_is_tie cd_is_tie ct_is_tie), sl_is_tie⟩) (c_is_tie : PySem.W.codeIn K cd_is_tie "is_tie" = true) (k_is_tie : PySem.W.keepIn K (.ref f_is_tie) = true)
    (a_is_tied : PySem.W.nsIn K mainGlobals "is_tied" = some (some (.ref f_is_tied)))
    (l_is_tied : K.lookup f_is_tied = some ⟨oc_is_tied, od_is_tied, .func (PySem.W.fnOf "is_tied" "is_tied" (defArgs s_is_tied) (defBody s_is_tied) (defScope s_is_tied) .none kV_is_tied dc_is_tied pm_is_tied an_is_tied cd_is_tied ct_is_tied), sl_is_tied⟩) (c_is_tied : PySem.W.codeIn K cd_is_tied "is_tied" = true) (k_is_tied : PySem.W.keepIn K (.ref f_is_tied) = true)
    (a_check_strings : PySem.W.nsIn K mainGlobals "check_strings" = some (some (.ref f_check_strings)))
    (l_check_strings : K.lookup f_check_strings = some ⟨oc_check_strings, od_check_strings, .func (PySem.W.fnOf "check_strings" "check_strings" (defArgs s_check_strings) (defBody s_check_strings) (defScope s_check_strings) .none kV_check_strings dc_check_strings pm_check_strings an_check_strings cd_check_strings ct_check_strings), sl_check_strings⟩) (c_check_strings : PySem.W.codeIn K cd_check_strings "check_strings" = true) (k_check_strings : PySem.W.keepIn K (.ref f_check_strings) = true)
    (a_is_string : PySem.W.nsIn K mainGlobals "is_string" = some (some (.ref f_is_string)))
    (l_is_string : K.lookup f_is_string = some ⟨oc_is_string, od_is_string, .func (PySem.W.fnOf "is_string" "is_string" (defArgs s_is_string) (defBody s_is_string) (defScope s_is_string) .none kV_is_string dc_is_string pm_is_string an_is_string cd_is_string ct_is_string), sl_is_string⟩) (c_is_string : PySem.W.codeIn K cd_is_string "is_string" = true) (k_is_string : PySem.W.keepIn K (.ref f_is_string) = true)
    (a_distances_of : PySem.W.nsIn K mainGlobals "distances_of" = some (some (.ref f_distances_of)))
    (l_distances_of : K.lookup f_distances_of = some ⟨oc_distances_of, od_distances_of, .func (PySem.W.fnOf "distances_of" "distances_of" (defArgs s_distances_of) (defBody s_distances_of) (defScope s_distances_of) .none kV_distances_of dc_distances_of pm_distances_of an_distances_of cd_distances_of ct_distances_of), sl_distances_of⟩) (c_distances_of : PySem.W.codeIn K cd_distances_of "distances_of" = true) (k_distances_of : PySem.W.keepIn K (.ref f_distances_of) = true)
    (a_shorten : PySem.W.nsIn K mainGlobals "shorten" = some (some (.ref f_shorten)))
    (l_shorten : K.lookup f_shorten = some ⟨oc_shorten, od_shorten, .func (PySem.W.fnOf "shorten" "shorten" (defArgs s_shorten) (defBody s_shorten) (defScope s_shorten) .none kV_shorten dc_shorten pm_shorten an_shorten cd_shorten ct_shorten), sl_shorten⟩) (c_shorten : PySem.W.codeIn K cd_shorten "shorten" = true) (k_shorten : PySem.W.keepIn K (.ref f_shorten) = true)
    (a_Puppet_distance : PySem.W.findIn K (.ref C_Puppet) "distance" = some (some (.ref f_Puppet_distance))) (i_Puppet_distance : PySem.W.isFn K (.ref f_Puppet_distance) = true)
    (l_Puppet_distance : K.lookup f_Puppet_distance = some ⟨oc_Puppet_distance, od_Puppet_distance, .func (PySem.W.fnOf "distance" "Puppet.distance" (defArgs s_Puppet_distance) (defBody s_Puppet_distance) (defScope s_Puppet_distance) .none kV_Puppet_distance dc_Puppet_distance pm_Puppet_distance an_Puppet_distance cd_Puppet_distance ct_Puppet_distance), sl_Puppet_distance⟩) (c_Puppet_distance : PySem.W.codeIn K cd_Puppet_distance "Puppet.distance" = true) (k_Puppet_distance : PySem.W.keepIn K (.ref f_Puppet_distance) = true)
    (a_Puppet_has_way : PySem.W.findIn K (.ref C_Puppet) "has_way" = some (some (.ref f_Puppet_has_way))) (i_Puppet_has_way : PySem.W.isFn K (.ref f_Puppet_has_way) = true)
    (l_Puppet_has_way : K.lookup f_Puppet_has_way = some ⟨oc_Puppet_has_way, od_Puppet_has_way, .func (PySem.W.fnOf "has_way" "Puppet.has_way" (defArgs s_Puppet_has_way) (defBody s_Puppet_has_way) (defScope s_Puppet_has_way) .none kV_Puppet_has_way dc_Puppet_has_way pm_Puppet_has_way an_Puppet_has_way cd_Puppet_has_way ct_Puppet_has_way), sl_Puppet_has_way⟩) (c_Puppet_has_way : PySem.W.codeIn K cd_Puppet_has_way "Puppet.has_way" = true) (k_Puppet_has_way : PySem.W.keepIn K (.ref f_Puppet_has_way) = true)
    (a_Puppet_pulls : PySem.W.findIn K (.ref C_Puppet) "pulls" = some (some (.ref f_Puppet_pulls))) (i_Puppet_pulls : PySem.W.isFn K (.ref f_Puppet_pulls) = true)
    (l_Puppet_pulls : K.lookup f_Puppet_pulls = some ⟨oc_Puppet_pulls, od_Puppet_pulls, .func (PySem.W.fnOf "pulls" "Puppet.pulls" (defArgs s_Puppet_pulls) (defBody s_Puppet_pulls) (defScope s_Puppet_pulls) .none kV_Puppet_pulls dc_Puppet_pulls pm_Puppet_pulls an_Puppet_pulls cd_Puppet_pulls ct_Puppet_pulls), sl_Puppet_pulls⟩) (c_Puppet_pulls : PySem.W.codeIn K cd_Puppet_pulls "Puppet.pulls" = true) (k_Puppet_pulls : PySem.W.keepIn K (.ref f_Puppet_pulls) = true)
    (a_Puppet_hooks_to : PySem.W.findIn K (.ref C_Puppet) "hooks_to" = some (some (.ref f_Puppet_hooks_to))) (i_Puppet_hooks_to : PySem.W.isFn K (.ref f_Puppet_hooks_to) = true)
    (l_Puppet_hooks_to : K.lookup f_Puppet_hooks_to = some ⟨oc_Puppet_hooks_to, od_Puppet_hooks_to, .func (PySem.W.fnOf "hooks_to" "Puppet.hooks_to" (defArgs s_Puppet_hooks_to) (defBody s_Puppet_hooks_to) (defScope s_Puppet_hooks_to) .none kV_Puppet_hooks_to dc_Puppet_hooks_to pm_Puppet_hooks_to an_Puppet_hooks_to cd_Puppet_hooks_to ct_Puppet_hooks_to), sl_Puppet_hooks_to⟩) (c_Puppet_hooks_to : PySem.W.codeIn K cd_Puppet_hooks_to "Puppet.hooks_to" = true) (k_Puppet_hooks_to : PySem.W.keepIn K (.ref f_Puppet_hooks_to) = true)
    (a_bag : PySem.W.nsIn K mainGlobals "_law_bag" = some (some (.ref f_bag)))
    (l_bag : K.lookup f_bag = some ⟨oc_bag, od_bag, .func (PySem.W.fnOf "_law_bag" "_law_bag" (defArgs s_bag) (defBody s_bag) (defScope s_bag) .none kV_bag dc_bag pm_bag an_bag cd_bag ct_bag), sl_bag⟩) (c_bag : PySem.W.codeIn K cd_bag "_law_bag" = true) (k_bag : PySem.W.keepIn K (.ref f_bag) = true)
    (a_draw : PySem.W.nsIn K mainGlobals "_law_draw" = some (some (.ref f_draw)))
    (l_draw : K.lookup f_draw = some ⟨oc_draw, od_draw, .func (PySem.W.fnOf "_law_draw" "_law_draw" (defArgs s_draw) (defBody s_draw) (defScope s_draw) .none kV_draw dc_draw pm_draw an_draw cd_draw ct_draw), sl_draw⟩) (c_draw : PySem.W.codeIn K cd_draw "_law_draw" = true) (k_draw : PySem.W.keepIn K (.ref f_draw) = true)
    (a_one : PySem.W.nsIn K mainGlobals "_law_one" = some (some (.ref f_one)))
    (l_one : K.lookup f_one = some ⟨oc_one, od_one, .func (PySem.W.fnOf "_law_one" "_law_one" (defArgs s_one) (defBody s_one) (defScope s_one) .none kV_one dc_one pm_one an_one cd_one ct_one), sl_one⟩) (c_one : PySem.W.codeIn K cd_one "_law_one" = true) (k_one : PySem.W.keepIn K (.ref f_one) = true)
    (a_words : PySem.W.nsIn K mainGlobals "_law_words" = some (some (.ref f_words)))
    (l_words : K.lookup f_words = some ⟨oc_words, od_words, .func (PySem.W.fnOf "_law_words" "_law_words" (defArgs s_words) (defBody s_words) (defScope s_words) .none kV_words dc_words pm_words an_words cd_words ct_words), sl_words⟩) (c_words : PySem.W.codeIn K cd_words "_law_words" = true) (k_words : PySem.W.keepIn K (.ref f_words) = true)
    (a_letters : PySem.W.nsIn K mainGlobals "_law_letters" = some (some (.ref f_letters)))
    (l_letters : K.lookup f_letters = some ⟨oc_letters, od_letters, .func (PySem.W.fnOf "_law_letters" "_law_letters" (defArgs s_letters) (defBody s_letters) (defScope s_letters) .none kV_letters dc_letters pm_letters an_letters cd_letters ct_letters), sl_letters⟩) (c_letters : PySem.W.codeIn K cd_letters "_law_letters" = true) (k_letters : PySem.W.keepIn K (.ref f_letters) = true)
    (a_cords : PySem.W.nsIn K mainGlobals "_law_cords" = some (some (.ref f_cords)))
    (l_cords : K.lookup f_cords = some ⟨oc_cords, od_cords, .func (PySem.W.fnOf "_law_cords" "_law_cords" (defArgs s_cords) (defBody s_cords) (defScope s_cords) .none kV_cords dc_cords pm_cords an_cords cd_cords ct_cords), sl_cords⟩) (c_cords : PySem.W.codeIn K cd_cords "_law_cords" = true) (k_cords : PySem.W.keepIn K (.ref f_cords) = true)
    (a_shape : PySem.W.nsIn K mainGlobals "_law_shape" = some (some (.ref f_shape)))
    (l_shape : K.lookup f_shape = some ⟨oc_shape, od_shape, .func (PySem.W.fnOf "_law_shape" "_law_shape" (defArgs s_shape) (defBody s_shape) (defScope s_shape) .none kV_shape dc_shape pm_shape an_shape cd_shape ct_shape), sl_shape⟩) (c_shape : PySem.W.codeIn K cd_shape "_law_shape" = true) (k_shape : PySem.W.keepIn K (.ref f_shape) = true)
    (a_far : PySem.W.nsIn K mainGlobals "_law_far" = some (some (.ref f_far)))
    (l_far : K.lookup f_far = some ⟨oc_far, od_far, .func (PySem.W.fnOf "_law_far" "_law_far" (defArgs s_far) (defBody s_far) (defScope s_far) .none kV_far dc_far pm_far an_far cd_far ct_far), sl_far⟩) (c_far : PySem.W.codeIn K cd_far "_law_far" = true) (k_far : PySem.W.keepIn K (.ref f_far) = true)
    (a_right : PySem.W.nsIn K mainGlobals "_law_right" = some (some (.ref f_right)))
    (l_right : K.lookup f_right = some ⟨oc_right, od_right, .func (PySem.W.fnOf "_law_right" "_law_right" (defArgs s_right) (defBody s_right) (defScope s_right) .none kV_right dc_right pm_right an_right cd_right ct_right), sl_right⟩) (c_right : PySem.W.codeIn K cd_right "_law_right" = true) (k_right : PySem.W.keepIn K (.ref f_right) = true)
    (a_chain_right : PySem.W.nsIn K mainGlobals "_law_chain_right" = some (some (.ref f_chain_right)))
    (l_chain_right : K.lookup f_chain_right = some ⟨oc_chain_right, od_chain_right, .func (PySem.W.fnOf "_law_chain_right" "_law_chain_right" (defArgs s_chain_right) (defBody s_chain_right) (defScope s_chain_right) .none kV_chain_right dc_chain_right pm_chain_right an_chain_right cd_chain_right ct_chain_right), sl_chain_right⟩) (c_chain_right : PySem.W.codeIn K cd_chain_right "_law_chain_right" = true) (k_chain_right : PySem.W.keepIn K (.ref f_chain_right) = true)
    (a_law : PySem.W.nsIn K mainGlobals "law" = some (some (.ref f_law)))
    (l_law : K.lookup f_law = some ⟨oc_law, od_law, .func (PySem.W.fnOf "law" "law" (defArgs s_law) (defBody s_law) (defScope s_law) .none kV_law dc_law pm_law an_law cd_law ct_law), sl_law⟩) (c_law : PySem.W.codeIn K cd_law "law" = true) (k_law : PySem.W.keepIn K (.ref f_law) = true)
    (z_isinstance : PySem.W.nsIn K mainGlobals "isinstance" = some none)
    (z_int : PySem.W.nsIn K mainGlobals "int" = some none)
    (z_bool : PySem.W.nsIn K mainGlobals "bool" = some none)
    (z_len : PySem.W.nsIn K mainGlobals "len" = some none)
    (z_abs : PySem.W.nsIn K mainGlobals "abs" = some none)
    (z_range : PySem.W.nsIn K mainGlobals "range" = some none)
    (z_all : PySem.W.nsIn K mainGlobals "all" = some none)
    (z_any : PySem.W.nsIn K mainGlobals "any" = some none)
    (z_max : PySem.W.nsIn K mainGlobals "max" = some none)
    (z_min : PySem.W.nsIn K mainGlobals "min" = some none)
    (z_str : PySem.W.nsIn K mainGlobals "str" = some none)
    (z_tuple : PySem.W.nsIn K mainGlobals "tuple" = some none)
    (z_zip : PySem.W.nsIn K mainGlobals "zip" = some none)
    (z_list : PySem.W.nsIn K mainGlobals "list" = some none)
    (z_sorted : PySem.W.nsIn K mainGlobals "sorted" = some none)
    (z_enumerate : PySem.W.nsIn K mainGlobals "enumerate" = some none)
    (z_repr : PySem.W.nsIn K mainGlobals "repr" = some none)
    (z_sum : PySem.W.nsIn K mainGlobals "sum" = some none)
    (g_MOST_PARTS : PySem.W.nsIn K mainGlobals "MOST_PARTS" = some (some (.int 6 tg_MOST_PARTS)))
    (g_MOST_TIES : PySem.W.nsIn K mainGlobals "MOST_TIES" = some (some (.int 10 tg_MOST_TIES)))
    (g_MOST_HOOKS : PySem.W.nsIn K mainGlobals "MOST_HOOKS" = some (some (.int 4 tg_MOST_HOOKS)))
    (g_MOST_STRINGS : PySem.W.nsIn K mainGlobals "MOST_STRINGS" = some (some (.int 6 tg_MOST_STRINGS)))
    (g_MOST_AMOUNT : PySem.W.nsIn K mainGlobals "MOST_AMOUNT" = some (some (.int 1000000 tg_MOST_AMOUNT)))
    (h_n_parts : PySem.W.findIn K (.ref C_Puppet) "parts" = some none)
    (h_n_ties : PySem.W.findIn K (.ref C_Puppet) "ties" = some none)
    (h_n_hooks : PySem.W.findIn K (.ref C_Puppet) "hooks" = some none)
    (h_n_strings : PySem.W.findIn K (.ref C_Puppet) "strings" = some none)
    (h_n_names : PySem.W.findIn K (.ref C_Puppet) "names" = some none)
    (h_n_distances : PySem.W.findIn K (.ref C_Puppet) "distances" = some none) :
    ∃ a : Ad, Txt K mg a :=
  ⟨{ k_MOST_PARTS := tg_MOST_PARTS, k_MOST_TIES := tg_MOST_TIES, k_MOST_HOOKS := tg_MOST_HOOKS, k_MOST_STRINGS := tg_MOST_STRINGS, k_MOST_AMOUNT := tg_MOST_AMOUNT, C_Puppet := C_Puppet, f_is_whole := f_is_whole, d_is_whole := PySem.W.fnOf "is_whole" "is_whole" (defArgs s_is_whole) (defBody s_is_whole) (defScope s_is_whole) .none kV_is_whole dc_is_whole pm_is_whole an_is_whole cd_is_whole ct_is_whole, f_is_number := f_is_number, d_is_number := PySem.W.fnOf "is_number" "is_number" (defArgs s_is_number) (defBody s_is_number) (defScope s_is_number) .none kV_is_number dc_is_number pm_is_number an_is_number cd_is_number ct_is_number, f_is_small_letter := f_is_small_letter, d_is_small_letter := PySem.W.fnOf "is_small_letter" "is_small_letter" (defArgs s_is_small_letter) (defBody s_is_small_letter) (defScope s_is_small_letter) .none kV_is_small_letter dc_is_small_letter pm_is_small_letter an_is_small_letter cd_is_small_letter ct_is_small_letter, f_is_capital := f_is_capital, d_is_capital := PySem.W.fnOf "is_capital" "is_capital" (defArgs s_is_capital) (defBody s_is_capital) (defScope s_is_capital) .none kV_is_capital dc_is_capital pm_is_capital an_is_capital cd_is_capital ct_is_capital, f_is_word := f_is_word, d_is_word := PySem.W.fnOf "is_word" "is_word" (defArgs s_is_word) (defBody s_is_word) (defScope s_is_word) .none kV_is_word dc_is_word pm_is_word an_is_word cd_is_word ct_is_word, f_is_row := f_is_row, d_is_row := PySem.W.fnOf "is_row" "is_row" (defArgs s_is_row) (defBody s_is_row) (defScope s_is_row) .none kV_is_row dc_is_row pm_is_row an_is_row cd_is_row ct_is_row, f_is_rising := f_is_rising, d_is_rising := PySem.W.fnOf "is_rising" "is_rising" (defArgs s_is_rising) (defBody s_is_rising) (defScope s_is_rising) .none kV_is_rising dc_is_rising pm_is_rising an_is_rising cd_is_rising ct_is_rising, f_are_capitals := f_are_capitals, d_are_capitals := PySem.W.fnOf "are_capitals" "are_capitals" (defArgs s_are_capitals) (defBody s_are_capitals) (defScope s_are_capitals) .none kV_are_capitals dc_are_capitals pm_are_capitals an_are_capitals cd_are_capitals ct_are_capitals, f_is_one_of := f_is_one_of, d_is_one_of := PySem.W.fnOf "is_one_of" "is_one_of" (defArgs s_is_one_of) (defBody s_is_one_of) (defScope s_is_one_of) .none kV_is_one_of dc_is_one_of pm_is_one_of an_is_one_of cd_is_one_of ct_is_one_of, f_Puppet_init := f_Puppet_init, d_Puppet_init := PySem.W.fnOf "__init__" "Puppet.__init__" (defArgs s_Puppet_init) (defBody s_Puppet_init) (defScope s_Puppet_init) .none kV_Puppet_init dc_Puppet_init pm_Puppet_init an_Puppet_init cd_Puppet_init ct_Puppet_init, f_check_parts := f_check_parts, d_check_parts := PySem.W.fnOf "check_parts" "check_parts" (defArgs s_check_parts) (defBody s_check_parts) (defScope s_check_parts) .none kV_check_parts dc_check_parts pm_check_parts an_check_parts cd_check_parts ct_check_parts, f_check_ties := f_check_ties, d_check_ties := PySem.W.fnOf "check_ties" "check_ties" (defArgs s_check_ties) (defBody s_check_ties) (defScope s_check_ties) .none kV_check_ties dc_check_ties pm_check_ties an_check_ties cd_check_ties ct_check_ties, f_is_tie := f_is_tie, d_is_tie := PySem.W.fnOf "is_tie" "is_tie" (defArgs s_is_tie) (defBody s_is_tie) (defScope s_is_tie) .none kV_is_tie dc_is_tie pm_is_tie an_is_tie cd_is_tie ct_is_tie, f_is_tied := f_is_tied, d_is_tied := PySem.W.fnOf "is_tied" "is_tied" (defArgs s_is_tied) (defBody s_is_tied) (defScope s_is_tied) .none kV_is_tied dc_is_tied pm_is_tied an_is_tied cd_is_tied ct_is_tied, f_check_strings := f_check_strings, d_check_strings := PySem.W.fnOf "check_strings" "check_strings" (defArgs s_check_strings) (defBody s_check_strings) (defScope s_check_strings) .none kV_check_strings dc_check_strings pm_check_strings an_check_strings cd_check_strings ct_check_strings, f_is_string := f_is_string, d_is_string := PySem.W.fnOf "is_string" "is_string" (defArgs s_is_string) (defBody s_is_string) (defScope s_is_string) .none kV_is_string dc_is_string pm_is_string an_is_string cd_is_string ct_is_string, f_distances_of := f_distances_of, d_distances_of := PySem.W.fnOf "distances_of" "distances_of" (defArgs s_distances_of) (defBody s_distances_of) (defScope s_distances_of) .none kV_distances_of dc_distances_of pm_distances_of an_distances_of cd_distances_of ct_distances_of, f_shorten := f_shorten, d_shorten := PySem.W.fnOf "shorten" "shorten" (defArgs s_shorten) (defBody s_shorten) (defScope s_shorten) .none kV_shorten dc_shorten pm_shorten an_shorten cd_shorten ct_shorten, f_Puppet_distance := f_Puppet_distance, d_Puppet_distance := PySem.W.fnOf "distance" "Puppet.distance" (defArgs s_Puppet_distance) (defBody s_Puppet_distance) (defScope s_Puppet_distance) .none kV_Puppet_distance dc_Puppet_distance pm_Puppet_distance an_Puppet_distance cd_Puppet_distance ct_Puppet_distance, f_Puppet_has_way := f_Puppet_has_way, d_Puppet_has_way := PySem.W.fnOf "has_way" "Puppet.has_way" (defArgs s_Puppet_has_way) (defBody s_Puppet_has_way) (defScope s_Puppet_has_way) .none kV_Puppet_has_way dc_Puppet_has_way pm_Puppet_has_way an_Puppet_has_way cd_Puppet_has_way ct_Puppet_has_way, f_Puppet_pulls := f_Puppet_pulls, d_Puppet_pulls := PySem.W.fnOf "pulls" "Puppet.pulls" (defArgs s_Puppet_pulls) (defBody s_Puppet_pulls) (defScope s_Puppet_pulls) .none kV_Puppet_pulls dc_Puppet_pulls pm_Puppet_pulls an_Puppet_pulls cd_Puppet_pulls ct_Puppet_pulls, f_Puppet_hooks_to := f_Puppet_hooks_to, d_Puppet_hooks_to := PySem.W.fnOf "hooks_to" "Puppet.hooks_to" (defArgs s_Puppet_hooks_to) (defBody s_Puppet_hooks_to) (defScope s_Puppet_hooks_to) .none kV_Puppet_hooks_to dc_Puppet_hooks_to pm_Puppet_hooks_to an_Puppet_hooks_to cd_Puppet_hooks_to ct_Puppet_hooks_to, f_bag := f_bag, d_bag := PySem.W.fnOf "_law_bag" "_law_bag" (defArgs s_bag) (defBody s_bag) (defScope s_bag) .none kV_bag dc_bag pm_bag an_bag cd_bag ct_bag, f_draw := f_draw, d_draw := PySem.W.fnOf "_law_draw" "_law_draw" (defArgs s_draw) (defBody s_draw) (defScope s_draw) .none kV_draw dc_draw pm_draw an_draw cd_draw ct_draw, f_one := f_one, d_one := PySem.W.fnOf "_law_one" "_law_one" (defArgs s_one) (defBody s_one) (defScope s_one) .none kV_one dc_one pm_one an_one cd_one ct_one, f_words := f_words, d_words := PySem.W.fnOf "_law_words" "_law_words" (defArgs s_words) (defBody s_words) (defScope s_words) .none kV_words dc_words pm_words an_words cd_words ct_words, f_letters := f_letters, d_letters := PySem.W.fnOf "_law_letters" "_law_letters" (defArgs s_letters) (defBody s_letters) (defScope s_letters) .none kV_letters dc_letters pm_letters an_letters cd_letters ct_letters, f_cords := f_cords, d_cords := PySem.W.fnOf "_law_cords" "_law_cords" (defArgs s_cords) (defBody s_cords) (defScope s_cords) .none kV_cords dc_cords pm_cords an_cords cd_cords ct_cords, f_shape := f_shape, d_shape := PySem.W.fnOf "_law_shape" "_law_shape" (defArgs s_shape) (defBody s_shape) (defScope s_shape) .none kV_shape dc_shape pm_shape an_shape cd_shape ct_shape, f_far := f_far, d_far := PySem.W.fnOf "_law_far" "_law_far" (defArgs s_far) (defBody s_far) (defScope s_far) .none kV_far dc_far pm_far an_far cd_far ct_far, f_right := f_right, d_right := PySem.W.fnOf "_law_right" "_law_right" (defArgs s_right) (defBody s_right) (defScope s_right) .none kV_right dc_right pm_right an_right cd_right ct_right, f_chain_right := f_chain_right, d_chain_right := PySem.W.fnOf "_law_chain_right" "_law_chain_right" (defArgs s_chain_right) (defBody s_chain_right) (defScope s_chain_right) .none kV_chain_right dc_chain_right pm_chain_right an_chain_right cd_chain_right ct_chain_right, f_law := f_law, d_law := PySem.W.fnOf "law" "law" (defArgs s_law) (defBody s_law) (defScope s_law) .none kV_law dc_law pm_law an_law cd_law ct_law : Ad }, {
    F_is_whole := fun_mk (st := s_is_whole) l_is_whole c_is_whole k_is_whole,
    b_is_whole := (fun_mk (st := s_is_whole) l_is_whole c_is_whole k_is_whole).binds (ps := ["value"]) fun _ _ _ _ _ _ us hl => match us, hl with | [_], _ => rfl,
    m_is_whole := PySem.W.mg_of X G a_is_whole,
    F_is_number := fun_mk (st := s_is_number) l_is_number c_is_number k_is_number,
    b_is_number := (fun_mk (st := s_is_number) l_is_number c_is_number k_is_number).binds (ps := ["value"]) fun _ _ _ _ _ _ us hl => match us, hl with | [_], _ => rfl,
    m_is_number := PySem.W.mg_of X G a_is_number,
    F_is_small_letter := fun_mk (st := s_is_small_letter) l_is_small_letter c_is_small_letter k_is_small_letter,
    b_is_small_letter := (fun_mk (st := s_is_small_letter) l_is_small_letter c_is_small_letter k_is_small_letter).binds (ps := ["value"]) fun _ _ _ _ _ _ us hl => match us, hl with | [_], _ => rfl,
    m_is_small_letter := PySem.W.mg_of X G a_is_small_letter,
    F_is_capital := fun_mk (st := s_is_capital) l_is_capital c_is_capital k_is_capital,
    b_is_capital := (fun_mk (st := s_is_capital) l_is_capital c_is_capital k_is_capital).binds (ps := ["value"]) fun _ _ _ _ _ _ us hl => match us, hl with | [_], _ => rfl,
    m_is_capital := PySem.W.mg_of X G a_is_capital,
    F_is_word := fun_mk (st := s_is_word) l_is_word c_is_word k_is_word,
    b_is_word := (fun_mk (st := s_is_word) l_is_word c_is_word k_is_word).binds (ps := ["value"]) fun _ _ _ _ _ _ us hl => match us, hl with | [_], _ => rfl,
    m_is_word := PySem.W.mg_of X G a_is_word,
    F_is_row := fun_mk (st := s_is_row) l_is_row c_is_row k_is_row,
    b_is_row := (fun_mk (st := s_is_row) l_is_row c_is_row k_is_row).binds (ps := ["value", "least", "most"]) fun _ _ _ _ _ _ us hl => match us, hl with | [_, _, _], _ => rfl,
    m_is_row := PySem.W.mg_of X G a_is_row,
    F_is_rising := fun_mk (st := s_is_rising) l_is_rising c_is_rising k_is_rising,
    b_is_rising := (fun_mk (st := s_is_rising) l_is_rising c_is_rising k_is_rising).binds (ps := ["signs"]) fun _ _ _ _ _ _ us hl => match us, hl with | [_], _ => rfl,
    m_is_rising := PySem.W.mg_of X G a_is_rising,
    F_are_capitals := fun_mk (st := s_are_capitals) l_are_capitals c_are_capitals k_are_capitals,
    b_are_capitals := (fun_mk (st := s_are_capitals) l_are_capitals c_are_capitals k_are_capitals).binds (ps := ["value", "most"]) fun _ _ _ _ _ _ us hl => match us, hl with | [_, _], _ => rfl,
    m_are_capitals := PySem.W.mg_of X G a_are_capitals,
    F_is_one_of := fun_mk (st := s_is_one_of) l_is_one_of c_is_one_of k_is_one_of,
    b_is_one_of := (fun_mk (st := s_is_one_of) l_is_one_of c_is_one_of k_is_one_of).binds (ps := ["value", "strings"]) fun _ _ _ _ _ _ us hl => match us, hl with | [_, _], _ => rfl,
    m_is_one_of := PySem.W.mg_of X G a_is_one_of,
    F_Puppet_init := fun_mk (st := s_Puppet_init) l_Puppet_init c_Puppet_init k_Puppet_init,
    b_Puppet_init := (fun_mk (st := s_Puppet_init) l_Puppet_init c_Puppet_init k_Puppet_init).binds (ps := ["self", "parts", "ties", "hooks", "strings"]) fun _ _ _ _ _ _ us hl => match us, hl with | [_, _, _, _, _], _ => rfl,
    me_Puppet_init := ⟨a_Puppet_init, i_Puppet_init, k_Puppet_init⟩,
    F_check_parts := fun_mk (st := s_check_parts) l_check_parts c_check_parts k_check_parts,
    b_check_parts := (fun_mk (st := s_check_parts) l_check_parts c_check_parts k_check_parts).binds (ps := ["parts"]) fun _ _ _ _ _ _ us hl => match us, hl with | [_], _ => rfl,
    m_check_parts := PySem.W.mg_of X G a_check_parts,
    F_check_ties := fun_mk (st := s_check_ties) l_check_ties c_check_ties k_check_ties,
    b_check_ties := (fun_mk (st := s_check_ties) l_check_ties c_check_ties k_check_ties).binds (ps := ["ties", "parts"]) fun _ _ _ _ _ _ us hl => match us, hl with | [_, _], _ => rfl,
    m_check_ties := PySem.W.mg_of X G a_check_ties,
    F_is_tie := fun_mk (st := s_is_tie) l_is_tie c_is_tie k_is_tie,
    b_is_tie := (fun_mk (st := s_is_tie) l_is_tie c_is_tie k_is_tie).binds (ps := ["value", "parts"]) fun _ _ _ _ _ _ us hl => match us, hl with | [_, _], _ => rfl,
    m_is_tie := PySem.W.mg_of X G a_is_tie,
    F_is_tied := fun_mk (st := s_is_tied) l_is_tied c_is_tied k_is_tied,
    b_is_tied := (fun_mk (st := s_is_tied) l_is_tied c_is_tied k_is_tied).binds (ps := ["part", "other", "ties"]) fun _ _ _ _ _ _ us hl => match us, hl with | [_, _, _], _ => rfl,
    m_is_tied := PySem.W.mg_of X G a_is_tied,
    F_check_strings := fun_mk (st := s_check_strings) l_check_strings c_check_strings k_check_strings,
    b_check_strings := (fun_mk (st := s_check_strings) l_check_strings c_check_strings k_check_strings).binds (ps := ["strings", "hooks", "parts"]) fun _ _ _ _ _ _ us hl => match us, hl with | [_, _, _], _ => rfl,
    m_check_strings := PySem.W.mg_of X G a_check_strings,
    F_is_string := fun_mk (st := s_is_string) l_is_string c_is_string k_is_string,
    b_is_string := (fun_mk (st := s_is_string) l_is_string c_is_string k_is_string).binds (ps := ["value", "hooks", "parts"]) fun _ _ _ _ _ _ us hl => match us, hl with | [_, _, _], _ => rfl,
    m_is_string := PySem.W.mg_of X G a_is_string,
    F_distances_of := fun_mk (st := s_distances_of) l_distances_of c_distances_of k_distances_of,
    b_distances_of := (fun_mk (st := s_distances_of) l_distances_of c_distances_of k_distances_of).binds (ps := ["parts", "ties"]) fun _ _ _ _ _ _ us hl => match us, hl with | [_, _], _ => rfl,
    m_distances_of := PySem.W.mg_of X G a_distances_of,
    F_shorten := fun_mk (st := s_shorten) l_shorten c_shorten k_shorten,
    b_shorten := (fun_mk (st := s_shorten) l_shorten c_shorten k_shorten).binds (ps := ["distances", "part", "middle", "other"]) fun _ _ _ _ _ _ us hl => match us, hl with | [_, _, _, _], _ => rfl,
    m_shorten := PySem.W.mg_of X G a_shorten,
    F_Puppet_distance := fun_mk (st := s_Puppet_distance) l_Puppet_distance c_Puppet_distance k_Puppet_distance,
    b_Puppet_distance := (fun_mk (st := s_Puppet_distance) l_Puppet_distance c_Puppet_distance k_Puppet_distance).binds (ps := ["self", "part", "other"]) fun _ _ _ _ _ _ us hl => match us, hl with | [_, _, _], _ => rfl,
    me_Puppet_distance := ⟨a_Puppet_distance, i_Puppet_distance, k_Puppet_distance⟩,
    F_Puppet_has_way := fun_mk (st := s_Puppet_has_way) l_Puppet_has_way c_Puppet_has_way k_Puppet_has_way,
    b_Puppet_has_way := (fun_mk (st := s_Puppet_has_way) l_Puppet_has_way c_Puppet_has_way k_Puppet_has_way).binds (ps := ["self", "hook", "part"]) fun _ _ _ _ _ _ us hl => match us, hl with | [_, _, _], _ => rfl,
    me_Puppet_has_way := ⟨a_Puppet_has_way, i_Puppet_has_way, k_Puppet_has_way⟩,
    F_Puppet_pulls := fun_mk (st := s_Puppet_pulls) l_Puppet_pulls c_Puppet_pulls k_Puppet_pulls,
    b_Puppet_pulls := (fun_mk (st := s_Puppet_pulls) l_Puppet_pulls c_Puppet_pulls k_Puppet_pulls).binds (ps := ["self", "part"]) fun _ _ _ _ _ _ us hl => match us, hl with | [_, _], _ => rfl,
    me_Puppet_pulls := ⟨a_Puppet_pulls, i_Puppet_pulls, k_Puppet_pulls⟩,
    F_Puppet_hooks_to := fun_mk (st := s_Puppet_hooks_to) l_Puppet_hooks_to c_Puppet_hooks_to k_Puppet_hooks_to,
    b_Puppet_hooks_to := (fun_mk (st := s_Puppet_hooks_to) l_Puppet_hooks_to c_Puppet_hooks_to k_Puppet_hooks_to).binds (ps := ["self", "part"]) fun _ _ _ _ _ _ us hl => match us, hl with | [_, _], _ => rfl,
    me_Puppet_hooks_to := ⟨a_Puppet_hooks_to, i_Puppet_hooks_to, k_Puppet_hooks_to⟩,
    F_bag := fun_mk (st := s_bag) l_bag c_bag k_bag,
    b_bag := (fun_mk (st := s_bag) l_bag c_bag k_bag).binds (ps := ["_law_cells", "_law_k"]) fun _ _ _ _ _ _ us hl => match us, hl with | [_, _], _ => rfl,
    m_bag := PySem.W.mg_of X G a_bag,
    F_draw := fun_mk (st := s_draw) l_draw c_draw k_draw,
    b_draw := (fun_mk (st := s_draw) l_draw c_draw k_draw).binds (ps := ["_law_bag_here", "_law_wide"]) fun _ _ _ _ _ _ us hl => match us, hl with | [_, _], _ => rfl,
    m_draw := PySem.W.mg_of X G a_draw,
    F_one := fun_mk (st := s_one) l_one c_one k_one,
    b_one := (fun_mk (st := s_one) l_one c_one k_one).binds (ps := ["_law_bag_here", "_law_some"]) fun _ _ _ _ _ _ us hl => match us, hl with | [_, _], _ => rfl,
    m_one := PySem.W.mg_of X G a_one,
    F_words := fun_mk (st := s_words) l_words c_words k_words,
    b_words := (fun_mk (st := s_words) l_words c_words k_words).binds (ps := ["_law_bag_here", "_law_many"]) fun _ _ _ _ _ _ us hl => match us, hl with | [_, _], _ => rfl,
    m_words := PySem.W.mg_of X G a_words,
    F_letters := fun_mk (st := s_letters) l_letters c_letters k_letters,
    b_letters := (fun_mk (st := s_letters) l_letters c_letters k_letters).binds (ps := ["_law_bag_here", "_law_pool", "_law_many"]) fun _ _ _ _ _ _ us hl => match us, hl with | [_, _, _], _ => rfl,
    m_letters := PySem.W.mg_of X G a_letters,
    F_cords := fun_mk (st := s_cords) l_cords c_cords k_cords,
    b_cords := (fun_mk (st := s_cords) l_cords c_cords k_cords).binds (ps := ["_law_bag_here", "_law_limbs"]) fun _ _ _ _ _ _ us hl => match us, hl with | [_, _], _ => rfl,
    m_cords := PySem.W.mg_of X G a_cords,
    F_shape := fun_mk (st := s_shape) l_shape c_shape k_shape,
    b_shape := (fun_mk (st := s_shape) l_shape c_shape k_shape).binds (ps := ["_law_bag_here"]) fun _ _ _ _ _ _ us hl => match us, hl with | [_], _ => rfl,
    m_shape := PySem.W.mg_of X G a_shape,
    F_far := fun_mk (st := s_far) l_far c_far k_far,
    b_far := (fun_mk (st := s_far) l_far c_far k_far).binds (ps := ["_law_shape_here"]) fun _ _ _ _ _ _ us hl => match us, hl with | [_], _ => rfl,
    m_far := PySem.W.mg_of X G a_far,
    F_right := fun_mk (st := s_right) l_right c_right k_right,
    b_right := (fun_mk (st := s_right) l_right c_right k_right).binds (ps := ["_law_bag_here"]) fun _ _ _ _ _ _ us hl => match us, hl with | [_], _ => rfl,
    m_right := PySem.W.mg_of X G a_right,
    F_chain_right := fun_mk (st := s_chain_right) l_chain_right c_chain_right k_chain_right,
    b_chain_right := (fun_mk (st := s_chain_right) l_chain_right c_chain_right k_chain_right).binds (ps := []) fun _ _ _ _ _ _ us hl => match us, hl with | [], _ => rfl,
    m_chain_right := PySem.W.mg_of X G a_chain_right,
    F_law := fun_mk (st := s_law) l_law c_law k_law,
    b_law := (fun_mk (st := s_law) l_law c_law k_law).binds (ps := ["_law_cells"]) fun _ _ _ _ _ _ us hl => match us, hl with | [_], _ => rfl,
    m_law := PySem.W.mg_of X G a_law,
    cl_Puppet := ⟨pg_Puppet, hd_Puppet, po_Puppet, sa_Puppet⟩,
    m_Puppet := PySem.W.mg_of X G aC_Puppet,
    mk_Puppet := ⟨mk_Puppet, a_Puppet_init, i_Puppet_init, kc_Puppet⟩,
    z_isinstance := PySem.W.mg_none_of X G z_isinstance,
    z_int := PySem.W.mg_none_of X G z_int,
    z_bool := PySem.W.mg_none_of X G z_bool,
    z_len := PySem.W.mg_none_of X G z_len,
    z_abs := PySem.W.mg_none_of X G z_abs,
    z_range := PySem.W.mg_none_of X G z_range,
    z_all := PySem.W.mg_none_of X G z_all,
    z_any := PySem.W.mg_none_of X G z_any,
    z_max := PySem.W.mg_none_of X G z_max,
    z_min := PySem.W.mg_none_of X G z_min,
    z_str := PySem.W.mg_none_of X G z_str,
    z_tuple := PySem.W.mg_none_of X G z_tuple,
    z_zip := PySem.W.mg_none_of X G z_zip,
    z_list := PySem.W.mg_none_of X G z_list,
    z_sorted := PySem.W.mg_none_of X G z_sorted,
    z_enumerate := PySem.W.mg_none_of X G z_enumerate,
    z_repr := PySem.W.mg_none_of X G z_repr,
    z_sum := PySem.W.mg_none_of X G z_sum,
    m_MOST_PARTS := PySem.W.mg_of X G g_MOST_PARTS,
    m_MOST_TIES := PySem.W.mg_of X G g_MOST_TIES,
    m_MOST_HOOKS := PySem.W.mg_of X G g_MOST_HOOKS,
    m_MOST_STRINGS := PySem.W.mg_of X G g_MOST_STRINGS,
    m_MOST_AMOUNT := PySem.W.mg_of X G g_MOST_AMOUNT,
    n_parts := h_n_parts,
    n_ties := h_n_ties,
    n_hooks := h_n_hooks,
    n_strings := h_n_strings,
    n_names := h_n_names,
    n_distances := h_n_distances }⟩

end RK7

local macro_rules | `(tactic| walk_at "at") => `(tactic| first | assumption | exact L2.upd_same | ((refine RK.Same.at (by assumption) ?_); walk_at "at") | ((refine RK.SameT.tup (RK.Grown.same (by assumption)) ?_); walk_at "at"))
local macro_rules | `(tactic| walk_at "s") => `(tactic| first
  | with_reducible refine RK.w_seq ?_
  | with_reducible refine RK.w_asg ?_
  | with_reducible refine RK.w_gn ?_
  | with_reducible refine RK.w_if ?_
  | with_reducible refine RK.w_ret ?_
  | with_reducible refine RK.w_next ?_
  | with_reducible refine RK.w_drop ?_
  | with_reducible refine RK.w_par ?_
  | with_reducible refine RK.w_two ?_
  | with_reducible refine RK.w_test ?_
  | with_reducible refine RK.w_tB ?_
  | with_reducible refine RK.w_bl ?_
  | with_reducible refine RK.w_not ?_
  | with_reducible refine RK.w_and ?_
  | with_reducible refine RK.w_or ?_
  | ((with_reducible refine' RK.w_var ?hv ?_); (case hv => exact rfl))
  | with_reducible refine RK.w_c ?_
  | with_reducible refine RK.w_op ?_
  | with_reducible refine RK.w_un ?_
  | with_reducible refine RK.w_I0 ?_
  | with_reducible refine RK.w_U ?_
  | with_reducible refine RK.w_nil ?_
  | with_reducible refine RK.w_cons ?_
  | with_reducible refine RK.w_andV ?_
  | with_reducible refine RK.w_orV ?_
  | with_reducible refine RK.w_notV ?_
  | with_reducible refine RK.w_CB ?_
  | with_reducible refine RK.w_call ?_
  | with_reducible refine RK.w_tup ?_
  | with_reducible refine RK.w_lst ?_
  | with_reducible refine RK.w_sub ?_
  | with_reducible refine RK.w_sfld ?_
  | with_reducible refine RK.w_meth ?_
  | with_reducible refine RK.w_methK ?_
  | with_reducible refine RK.w_make ?_
  | with_reducible refine RK.w_makeK ?_
  | with_reducible refine RK.w_BM ?_
  | with_reducible refine RK.w_sl ?_
  | with_reducible refine RK.w_po ?_
  | with_reducible refine RK.w_pt ?_
  | with_reducible refine RK.w_in ?_
  | with_reducible refine RK.w_fld ?_
  | with_reducible refine RK.w_forJ ?_
  | with_reducible refine RK.w_cm ?_
  | with_reducible refine RK.w_dget1 ?_
  | with_reducible refine RK.w_dget ?_
  | with_reducible refine RK.w_dc ?_
  | with_reducible refine RK.w_iStr ?_
  | with_reducible refine RK.w_iTup ?_
  | with_reducible refine RK.w_iList ?_
  | with_reducible refine RK.w_iEnumT ?_
  | with_reducible refine RK.w_iZipS ?_
  | with_reducible refine RK.w_iRng1 ?_
  | with_reducible refine RK.w_chain ?_
  | with_reducible refine RK.w_retN ?_
  | with_reducible refine RK.w_yes ?_
  | with_reducible refine RK.w_int ?_
  | with_reducible refine RK.w_intB ?_
  | with_reducible refine RK.w_abs ?_
  | with_reducible refine RK.w_max ?_
  | with_reducible refine RK.w_min ?_
  | with_reducible refine RK.w_gcd ?_
  | ((with_reducible refine RK.w_I ?hc ?_); (case hc => first | assumption | (show _ < _; omega) | exact RK.Sz.ok (by assumption) (by assumption) | exact RK.Sz.div (by assumption) (by assumption) | (show _ ∧ _; omega) | (show _ ∨ _; omega) | exact ⟨by decide, by decide, by decide⟩))
  | ((with_reducible refine' RK.w_ixL ?hh ?hi ?_); (case hh => walk_at "at"); (case hi => exact rfl))
  | ((with_reducible refine' RK.w_ixT ?hh ?hi ?_); (case hh => walk_at "at"); (case hi => exact rfl))
  | ((with_reducible refine' RK.w_setL ?hh ?hi ?_); (case hh => walk_at "at"); (case hi => exact rfl))
  | ((with_reducible refine RK.w_eq ?hh ?_); (case hh => exact rfl))
  | ((with_reducible refine RK.w_ne ?hh ?_); (case hh => exact rfl)))
local macro_rules | `(tactic| walk_at "r") => `(tactic| repeat walk_at "s")

namespace RK7
open PySem PySem.Spec L2 RK RZ StX PyProof.Rows
/-! ### kinds of values, of right ones -/
section
variable {P : Program} {w : World} {K : PySem.W.Frag} {mg : Str → Option Value} {base : Heap} {a : Ad}
def spWhole : Sp := fun vs H Q _ => ∃ i, vs = [.int i] ∧ Q (.bl true) H
theorem ok_is_whole (T : Txt K mg a) : FnOk P w K mg base CX0 1 a.f_is_whole a.d_is_whole ["value"] spWhole := by
  refine T.F_is_whole.ok sc_is_whole (fun vs H Q E h => ?_) (fun cdv A outer s H vs Q E hr h => ?_)
  · obtain ⟨i, rfl, _⟩ := h
    rfl
  · obtain ⟨i, rfl, k⟩ := h
    refine ⟨_, (pss_one (ps_ret (pe_and (pe_callB call_isi (by rfl) T.z_isinstance (by decide +kernel) (pa_cons (pv 0) (pa_cons (pe_bltn (v := .ty "int") (by rfl) T.z_int (by decide +kernel) rfl) pa_nil))) (pe_one (pe_not (pe_callB call_isi (by rfl) T.z_isinstance (by decide +kernel) (pa_cons (pv 0) (pa_cons (pe_bltn (v := .ty "bool") (by rfl) T.z_bool (by decide +kernel) rfl) pa_nil)))))))), ?_⟩
    walk_at "r"
    refine ⟨.int i, .ty "int", .type "int", .type "int", true, rfl, .ty _, .base (.int _), kit_ty (by decide +kernel), true, rfl, iteT ?_⟩
    walk_at "r"
    refine ⟨.int i, .ty "bool", .type "int", .type "bool", false, rfl, .ty _, .base (.int _), kit_ty (by decide +kernel), ?_⟩
    walk_at "r"
    exact k
def spNumber : Sp := fun vs H Q _ => ∃ i : Int, vs = [.int i] ∧ 0 ≤ i ∧ Q (.bl true) H
theorem ok_is_number (T : Txt K mg a) : FnOk P w K mg base CX0 2 a.f_is_number a.d_is_number ["value"] spNumber := by
  refine T.F_is_number.ok sc_is_number (fun vs H Q E h => ?_) (fun cdv A outer s H vs Q E hr h => ?_)
  · obtain ⟨i, rfl, _⟩ := h
    rfl
  · obtain ⟨i, rfl, h0, k⟩ := h
    refine ⟨_, (pss_one (ps_ret (pe_and (pe_call (ok_is_whole T) (hr.mono (by decide)) (by rfl) T.m_is_whole T.F_is_whole.kp T.b_is_whole .nil pass0 (pa_cons (pv 0) pa_nil)) (pe_one (pe_cmpR op_ge (pv 0) pe_int (nomark _)))))), ?_⟩
    walk_at "r"
    refine ⟨i, rfl, true, rfl, iteT ?_⟩
    walk_at "r"
    show Q (.bl (decide (0 ≤ i))) H
    rw [decide_eq_true h0]
    exact k
def spLetter : Sp := fun vs H Q _ => ∃ s c, vs = [.str s] ∧ Sgn 97 122 s c ∧ Q (.bl true) H
theorem ok_is_small_letter (T : Txt K mg a) : FnOk P w K mg base CX0 1 a.f_is_small_letter a.d_is_small_letter ["value"] spLetter := by
  refine T.F_is_small_letter.ok sc_is_small_letter (fun vs H Q E h => ?_) (fun cdv A outer s H vs Q E hr h => ?_)
  · obtain ⟨s, c, rfl, _⟩ := h
    rfl
  · obtain ⟨s, c, rfl, ⟨rfl, h1, h2⟩, k⟩ := h
    refine ⟨_, (pss_one (ps_ret (pe_and (pe_callB call_isi (by rfl) T.z_isinstance (by decide +kernel) (pa_cons (pv 0) (pa_cons (pe_bltn (v := .ty "str") (by rfl) T.z_str (by decide +kernel) rfl) pa_nil))) (pe_and (pe_cmpR op_eq (pe_callB cr_len (by rfl) T.z_len PySem.boot_len (pa_cons (pv 0) pa_nil)) pe_int (nomark _)) (pe_one (pe_chain op_le_str op_le_str pe_str (pv 0) pe_str)))))), ?_⟩
    walk_at "r"
    refine ⟨.str ⟨#[c]⟩, .ty "str", .type "str", .type "str", true, rfl, .ty _, .base (.str _), kit_ty (by decide +kernel), true, rfl, iteT ?_⟩
    walk_at "r"
    refine ⟨.str ⟨#[c]⟩, _, rfl, ⟨by show 1 ≤ sizeLine; decide, rfl⟩, ?_⟩
    walk_at "r"
    rw [if_pos (by rfl)]
    refine w_c ?_
    walk_at "r"
    refine ⟨"a", ⟨#[c]⟩, rfl, rfl, ?_⟩
    rw [show (("a" : Str)).cps.toList = [97] from by decide +kernel]
    show ∃ k, V.bl (!decide (([c] : List Nat) < [97])) = .bl k ∧ _
    rw [lt1, decide_eq_false (by omega)]
    refine ⟨true, rfl, iteT ?_⟩
    walk_at "r"
    refine ⟨⟨#[c]⟩, "z", rfl, rfl, ?_⟩
    rw [show (("z" : Str)).cps.toList = [122] from by decide +kernel]
    show Q (.bl (!decide (([122] : List Nat) < [c]))) H
    rw [lt1, decide_eq_false (by omega)]
    exact k
def spCapital : Sp := fun vs H Q _ => ∃ s c, vs = [.str s] ∧ Sgn 65 90 s c ∧ Q (.bl true) H
theorem ok_is_capital (T : Txt K mg a) : FnOk P w K mg base CX0 1 a.f_is_capital a.d_is_capital ["value"] spCapital := by
  refine T.F_is_capital.ok sc_is_capital (fun vs H Q E h => ?_) (fun cdv A outer s H vs Q E hr h => ?_)
  · obtain ⟨s, c, rfl, _⟩ := h
    rfl
  · obtain ⟨s, c, rfl, ⟨rfl, h1, h2⟩, k⟩ := h
    refine ⟨_, (pss_one (ps_ret (pe_and (pe_callB call_isi (by rfl) T.z_isinstance (by decide +kernel) (pa_cons (pv 0) (pa_cons (pe_bltn (v := .ty "str") (by rfl) T.z_str (by decide +kernel) rfl) pa_nil))) (pe_and (pe_cmpR op_eq (pe_callB cr_len (by rfl) T.z_len PySem.boot_len (pa_cons (pv 0) pa_nil)) pe_int (nomark _)) (pe_one (pe_chain op_le_str op_le_str pe_str (pv 0) pe_str)))))), ?_⟩
    walk_at "r"
    refine ⟨.str ⟨#[c]⟩, .ty "str", .type "str", .type "str", true, rfl, .ty _, .base (.str _), kit_ty (by decide +kernel), true, rfl, iteT ?_⟩
    walk_at "r"
    refine ⟨.str ⟨#[c]⟩, _, rfl, ⟨by show 1 ≤ sizeLine; decide, rfl⟩, ?_⟩
    walk_at "r"
    rw [if_pos (by rfl)]
    refine w_c ?_
    walk_at "r"
    refine ⟨"A", ⟨#[c]⟩, rfl, rfl, ?_⟩
    rw [show (("A" : Str)).cps.toList = [65] from by decide +kernel]
    show ∃ k, V.bl (!decide (([c] : List Nat) < [65])) = .bl k ∧ _
    rw [lt1, decide_eq_false (by omega)]
    refine ⟨true, rfl, iteT ?_⟩
    walk_at "r"
    refine ⟨⟨#[c]⟩, "Z", rfl, rfl, ?_⟩
    rw [show (("Z" : Str)).cps.toList = [90] from by decide +kernel]
    show Q (.bl (!decide (([90] : List Nat) < [c]))) H
    rw [lt1, decide_eq_false (by omega)]
    exact k
def spWord : Sp := fun vs H Q _ => ∃ s, vs = [.str s] ∧ Word s ∧ ∀ H', Same H H' → Q (.bl true) H'
theorem ok_is_word (T : Txt K mg a) : FnOk P w K mg base CX0 2 a.f_is_word a.d_is_word ["value"] spWord := by
  refine T.F_is_word.ok sc_is_word (fun vs H Q E h => ?_) (fun cdv A outer s H vs Q E hr h => ?_)
  · obtain ⟨s, rfl, _⟩ := h
    rfl
  · obtain ⟨s, rfl, ⟨h2, h8, hl⟩, k⟩ := h
    refine ⟨_, (pss_one (ps_ret (pe_and (pe_callB call_isi (by rfl) T.z_isinstance (by decide +kernel) (pa_cons (pv 0) (pa_cons (pe_bltn (v := .ty "str") (by rfl) T.z_str (by decide +kernel) rfl) pa_nil))) (pe_and (pe_chain op_le op_le pe_int (pe_callB cr_len (by rfl) T.z_len PySem.boot_len (pa_cons (pv 0) pa_nil)) pe_int) (pe_one (pe_callB (cr_all rfl) (by rfl) T.z_all (by decide +kernel) (pa_cons (pe_lc (own := [("sign", 1)]) (g := gName 1) (tt := tYes) rfl sc_is_word.nd (pi_str (pv 0)) (blkOk_by (own := [("sign", 1)]) (N := ["value", "sign"]) (sc := defScope s_is_word) (by decide +kernel)) (fun _ _ _ _ _ => pg_name (i := 1) sc_is_word.nd rfl (Or.inl rfl)) (fun _ _ _ _ _ => pts_nil) (fun _ _ _ _ _ => by exact (pe_call (ok_is_small_letter T) (hr.mono (by decide)) (by rfl) T.m_is_small_letter T.F_is_small_letter.kp T.b_is_small_letter .nil pass0 (pa_cons (pv 1) pa_nil)))) pa_nil))))))), ?_⟩
    walk_at "r"
    refine ⟨.str s, .ty "str", .type "str", .type "str", true, rfl, .ty _, .base (.str _), kit_ty (by decide +kernel), true, rfl, iteT ?_⟩
    walk_at "r"
    refine w_lenS (by omega) ?_
    walk_at "r"
    rw [decide_eq_true (show (2 : Int) ≤ (s.cps.size : Nat) by omega)]
    refine iteT ?_
    walk_at "r"
    rw [decide_eq_true (show ((s.cps.size : Nat) : Int) ≤ 8 by omega)]
    refine iteT ?_
    walk_at "r"
    refine ⟨s, rfl, cmS walk_str (by omega) (fun _ _ => trivial) (fun _ v _ => v = .bl true) (fun _ _ _ _ _ h => h) (fun i x H1 H2 hi e hy Q' kq => ?_) (fun D zs H1 n1 e1 h1 _ hP => ?_)⟩
    · obtain ⟨rfl, c, hc, rfl⟩ := hy
      refine ⟨rfl, ?_⟩
      walk_at "r"
      obtain ⟨l1, l2⟩ := hl c (Array.mem_toList_iff.mpr (Array.mem_of_getElem? hc))
      exact ⟨_, c, rfl, ⟨rfl, l1, l2⟩, kq _ _ (w_same _) rfl⟩
    walk_at "r"
    exact all_P h1 hP (k _ e1)
/-- so many items -/
def spRow (K : PySem.W.Frag) : Sp := fun vs H Q _ => ∃ t xs lo hi, vs = [.ref t, .int lo, .int hi] ∧ SqT K H t xs ∧ lo ≤ (xs.length : Int) ∧ (xs.length : Int) ≤ hi ∧ Q (.bl true) H
theorem ok_is_row (T : Txt K mg a) : FnOk P w K mg base CX0 1 a.f_is_row a.d_is_row ["value", "least", "most"] (spRow K) := by
  refine T.F_is_row.ok sc_is_row (fun vs H Q E h => ?_) (fun cdv A outer s H vs Q E hr h => ?_)
  · obtain ⟨t, xs, lo, hi, rfl, _⟩ := h
    rfl
  · obtain ⟨t, xs, lo, hi, rfl, ht, h1, h2, k⟩ := h
    refine ⟨_, (pss_one (ps_ret (pe_and (pe_callB call_isi (by rfl) T.z_isinstance (by decide +kernel) (pa_cons (pv 0) (pa_cons (pe_bltn (v := .ty "tuple") (by rfl) T.z_tuple (by decide +kernel) rfl) pa_nil))) (pe_one (pe_chain op_le op_le (pv 1) (pe_callB cr_len (by rfl) T.z_len PySem.boot_len (pa_cons (pv 0) pa_nil)) (pv 2)))))), ?_⟩
    walk_at "r"
    refine ⟨.ref t, .ty "tuple", .type "tuple", .type "tuple", true, rfl, .ty _, tyT ht, kit_ty (by decide +kernel), true, rfl, iteT ?_⟩
    walk_at "r"
    refine w_lenT ht ?_
    walk_at "r"
    rw [decide_eq_true h1]
    refine iteT ?_
    walk_at "r"
    show Q (.bl (decide ((xs.length : Int) ≤ hi))) H
    rw [decide_eq_true h2]
    exact k
theorem row_leaf {H : Hp} {Q : VK} {E : XK} {t : Addr} {xs : List V} {lo hi : Int} (ht : SqT K H t xs) (h1 : lo ≤ (xs.length : Int)) (h2 : (xs.length : Int) ≤ hi) (k : Q (.bl true) H) : spRow K [.ref t, .int lo, .int hi] H Q E := ⟨t, xs, lo, hi, rfl, ht, h1, h2, k⟩
/-- the signs rise -/
def Rise (s : Str) : Prop := ∀ (i c d : Nat), s.cps[i]? = some c → s.cps[i + 1]? = some d → c < d
def spRising : Sp := fun vs H Q _ => ∃ s, vs = [.str s] ∧ s.cps.size ≤ 100 ∧ Rise s ∧ ∀ H', Same H H' → Q (.bl true) H'
theorem ok_is_rising (T : Txt K mg a) : FnOk P w K mg base CX0 1 a.f_is_rising a.d_is_rising ["signs"] spRising := by
  refine T.F_is_rising.ok sc_is_rising (fun vs H Q E h => ?_) (fun cdv A outer s H vs Q E hr h => ?_)
  · obtain ⟨s, rfl, _⟩ := h
    rfl
  · obtain ⟨s, rfl, hs, up, k⟩ := h
    refine ⟨_, (pss_one (ps_ret (pe_callB (cr_all rfl) (by rfl) T.z_all (by decide +kernel) (pa_cons (pe_lc (own := [("one", 1), ("other", 2)]) (g := gTup K 2 (gCons (gName 1) (gCons (gName 2) (gNil)))) (tt := tYes) rfl sc_is_rising.nd (pi_zipS (by rfl) T.z_zip (pa_cons (pv 0) (pa_cons (pe_slice sl_str (pv 0) (po_some pe_int) po_none) pa_nil))) (blkOk_by (own := [("one", 1), ("other", 2)]) (N := ["signs", "one", "other"]) (sc := defScope s_is_rising) (by decide +kernel)) (fun _ _ _ _ _ => by exact pg_tup (n := 2) rfl (pgs_cons (pg_name (i := 1) sc_is_rising.nd rfl (Or.inl rfl)) (pgs_cons (pg_name (i := 2) sc_is_rising.nd rfl (Or.inl rfl)) pgs_nil))) (fun _ _ _ _ _ => pts_nil) (fun _ _ _ _ _ => by exact (pe_cmpR op_lt_str (pv 1) (pv 2) (nomark _)))) pa_nil)))), ?_⟩
    walk_at "r"
    refine ⟨s, rfl, Nat.le_trans hs (by decide), s, _, rfl, cmS walk_zipS (by omega) (fun _ _ => trivial) (fun _ v _ => v = .bl true) (fun _ _ _ _ _ h => h) (fun i x H1 H2 hi e hy Q' kq => ?_) (fun D zs H1 n1 e1 h1 _ hP => ?_)⟩
    · obtain ⟨p, x, y, rfl, np, rfl, hx, hy⟩ := hy
      obtain ⟨c, hc, rfl⟩ := Option.map_eq_some_iff.mp hx
      obtain ⟨d, hd, rfl⟩ := Option.map_eq_some_iff.mp hy
      rw [cutS1_at] at hd
      refine g_two upd_same ⟨rfl, ?_⟩
      walk_at "r"
      refine ⟨_, _, rfl, rfl, ?_⟩
      show Q' (.bl (decide (([c] : List Nat) < [d]))) _
      rw [lt1, decide_eq_true (up i c d hc hd)]
      exact kq _ _ (w_new np) rfl
    walk_at "r"
    exact all_P h1 hP (k _ e1)
/-- one to m capital letters, each above the one before -/
structure Caps (s : Str) : Prop where
  one : 1 ≤ s.cps.size
  few : s.cps.size ≤ 4
  cap : ∀ c ∈ s.cps.toList, 65 ≤ c ∧ c ≤ 90
  up : Rise s
def spCaps : Sp := fun vs H Q _ => ∃ s, vs = [.str s, .int 4] ∧ Caps s ∧ ∀ H', Same H H' → Q (.bl true) H'
theorem ok_are_capitals (T : Txt K mg a) : FnOk P w K mg base CX0 2 a.f_are_capitals a.d_are_capitals ["value", "most"] spCaps := by
  refine T.F_are_capitals.ok sc_are_capitals (fun vs H Q E h => ?_) (fun cdv A outer s H vs Q E hr h => ?_)
  · obtain ⟨s, rfl, _⟩ := h
    rfl
  · obtain ⟨s, rfl, hs, k⟩ := h
    have h1 := hs.one
    have h4 := hs.few
    refine ⟨_, (pss_cons (ps_if (PW.pt (pw_or (pt_not (pt_val (pe_callB call_isi (by rfl) T.z_isinstance (by decide +kernel) (pa_cons (pv 0) (pa_cons (pe_bltn (v := .ty "str") (by rfl) T.z_str (by decide +kernel) rfl) pa_nil))))) (pw_or1 (pt_not (pt_chain op_le op_le pe_int (pe_callB cr_len (by rfl) T.z_len PySem.boot_len (pa_cons (pv 0) pa_nil)) (pv 1)))))) (pss_one (ps_ret pe_bl)) pss_nil)
      (pss_one (ps_ret (pe_and (pe_callB (cr_all rfl) (by rfl) T.z_all (by decide +kernel) (pa_cons (pe_lc (own := [("sign", 2)]) (g := gName 2) (tt := tYes) rfl sc_are_capitals.nd (pi_str (pv 0)) (blkOk_by (own := [("sign", 2)]) (N := ["value", "most", "sign"]) (sc := defScope s_are_capitals) (by decide +kernel)) (fun _ _ _ _ _ => pg_name (i := 2) sc_are_capitals.nd rfl (Or.inl rfl)) (fun _ _ _ _ _ => pts_nil) (fun _ _ _ _ _ => by exact (pe_call (ok_is_capital T) (hr.mono (by decide)) (by rfl) T.m_is_capital T.F_is_capital.kp T.b_is_capital .nil pass0 (pa_cons (pv 2) pa_nil)))) pa_nil)) (pe_one (pe_call (ok_is_rising T) (hr.mono (by decide)) (by rfl) T.m_is_rising T.F_is_rising.kp T.b_is_rising .nil pass0 (pa_cons (pv 0) pa_nil))))))), ?_⟩
    walk_at "r"
    refine ⟨.str s, .ty "str", .type "str", .type "str", true, rfl, .ty _, .base (.str _), kit_ty (by decide +kernel), true, rfl, iteF ?_⟩
    walk_at "r"
    refine w_lenS (by omega) ?_
    walk_at "r"
    rw [decide_eq_true (show (1 : Int) ≤ (s.cps.size : Nat) by omega)]
    refine iteT ?_
    walk_at "r"
    rw [decide_eq_true (show ((s.cps.size : Nat) : Int) ≤ 4 by omega)]
    refine iteF ?_
    walk_at "r"
    refine ⟨s, rfl, cmS walk_str (by omega) (fun _ _ => trivial) (fun _ v _ => v = .bl true) (fun _ _ _ _ _ h => h) (fun i x H1 H2 hi e hy Q' kq => ?_) (fun D zs H1 n1 e1 h1 _ hP => ?_)⟩
    · obtain ⟨rfl, c, hc, rfl⟩ := hy
      refine ⟨rfl, ?_⟩
      walk_at "r"
      obtain ⟨l1, l2⟩ := hs.cap c (Array.mem_toList_iff.mpr (Array.mem_of_getElem? hc))
      exact ⟨_, c, rfl, ⟨rfl, l1, l2⟩, kq _ _ (w_same _) rfl⟩
    walk_at "r"
    refine all_P h1 hP ⟨true, rfl, iteT ?_⟩
    walk_at "r"
    exact ⟨s, rfl, by omega, hs.up, fun H2 e2 => k _ (e1.trans e2)⟩
/-- one of some texts in a tuple -/
def spOneOf (K : PySem.W.Frag) : Sp := fun vs H Q _ => ∃ (s : Str) (t : Addr) (xs : List Str), vs = [.str s, .ref t] ∧ SqT K H t (xs.map V.str) ∧ ∀ H', Same H H' → Q (.bl (decide (s ∈ xs))) H'
theorem ok_is_one_of (T : Txt K mg a) : FnOk P w K mg base CX0 1 a.f_is_one_of a.d_is_one_of ["value", "strings"] (spOneOf K) := by
  refine T.F_is_one_of.ok sc_is_one_of (fun vs H Q E h => ?_) (fun cdv A outer s H vs Q E hr h => ?_)
  · obtain ⟨s, t, xs, rfl, _⟩ := h
    rfl
  · obtain ⟨s, t, xs, rfl, ht, k⟩ := h
    refine ⟨_, (pss_one (ps_ret (pe_and (pe_callB call_isi (by rfl) T.z_isinstance (by decide +kernel) (pa_cons (pv 0) (pa_cons (pe_bltn (v := .ty "str") (by rfl) T.z_str (by decide +kernel) rfl) pa_nil))) (pe_one (pe_cmpR op_in_seq (pv 0) (pe_callTy call_list_of (by rfl) T.z_list (by decide +kernel) (pa_cons (pv 1) pa_nil)) (by rfl)))))), ?_⟩
    walk_at "r"
    refine ⟨.str s, .ty "str", .type "str", .type "str", true, rfl, .ty _, .base (.str _), kit_ty (by decide +kernel), true, rfl, iteT ?_⟩
    walk_at "r"
    refine ⟨t, _, rfl, .inr ht, fun l nl => ?_⟩
    walk_at "r"
    exact in_leaf (.inl (SqL.of upd_same)) (k _ (w_new nl))
theorem oneOf_leaf {H : Hp} {Q : VK} {E : XK} {s : Str} {t : Addr} {xs : List Str} (ht : SqT K H t (xs.map V.str)) (k : ∀ H', Same H H' → Q (.bl (decide (s ∈ xs))) H') : spOneOf K [.str s, .ref t] H Q E := ⟨s, t, xs, rfl, ht, k⟩
/-- one of a text's signs -/
def spOneOfS : Sp := fun vs H Q _ => ∃ (c : Nat) (s : Str), vs = [.str ⟨#[c]⟩, .str s] ∧ s.cps.size ≤ 100 ∧ ∀ H', Same H H' → Q (.bl (decide (c ∈ s.cps.toList))) H'
theorem ok_is_one_ofS (T : Txt K mg a) : FnOk P w K mg base CX0 1 a.f_is_one_of a.d_is_one_of ["value", "strings"] spOneOfS := by
  refine T.F_is_one_of.ok sc_is_one_of (fun vs H Q E h => ?_) (fun cdv A outer s H vs Q E hr h => ?_)
  · obtain ⟨c, s, rfl, _⟩ := h
    rfl
  · obtain ⟨c, s, rfl, hs, k⟩ := h
    refine ⟨_, (pss_one (ps_ret (pe_and (pe_callB call_isi (by rfl) T.z_isinstance (by decide +kernel) (pa_cons (pv 0) (pa_cons (pe_bltn (v := .ty "str") (by rfl) T.z_str (by decide +kernel) rfl) pa_nil))) (pe_one (pe_cmpR op_in_seq (pv 0) (pe_callTy (cr_listS rfl) (by rfl) T.z_list (by decide +kernel) (pa_cons (pv 1) pa_nil)) (by rfl)))))), ?_⟩
    walk_at "r"
    refine ⟨.str ⟨#[c]⟩, .ty "str", .type "str", .type "str", true, rfl, .ty _, .base (.str _), kit_ty (by decide +kernel), true, rfl, iteT ?_⟩
    walk_at "r"
    refine ⟨s, rfl, by omega, fun l nl => ?_⟩
    walk_at "r"
    have e : (s.cps.toList.map fun c => V.str ⟨#[c]⟩) = (s.cps.toList.map fun c => (⟨#[c]⟩ : Str)).map V.str := by rw [List.map_map]; rfl
    refine in_leaf (xs := s.cps.toList.map fun c => (⟨#[c]⟩ : Str)) (.inl (SqL.of (by rw [upd_same, e]))) ?_
    have q : decide ((⟨#[c]⟩ : Str) ∈ s.cps.toList.map fun c => (⟨#[c]⟩ : Str)) = decide (c ∈ s.cps.toList) := by
      rw [Bool.eq_iff_iff, decide_eq_true_eq, decide_eq_true_eq, List.mem_map]
      refine ⟨fun ⟨d, hd, z⟩ => ?_, fun h => ⟨c, h, rfl⟩⟩
      have z : d = c := by simpa using z
      rw [← z]
      exact hd
    rw [q]
    exact k _ (w_new nl)
theorem oneOfS_leaf {H : Hp} {Q : VK} {E : XK} {c : Nat} {s : Str} (hs : s.cps.size ≤ 100) (k : ∀ H', Same H H' → Q (.bl (decide (c ∈ s.cps.toList))) H') : spOneOfS [.str ⟨#[c]⟩, .str s] H Q E := ⟨c, s, rfl, hs, k⟩
end
end RK7


namespace RK7
open PySem PySem.Spec L2 RK RZ StX PyProof.Rows
/-! ### parts, ties, strings of right puppets -/
abbrev Tie3 := Str × Str × Int
def tieV (t : Tie3) : List V := [.str t.1, .str t.2.1, .int t.2.2]
abbrev Ln3 := Str × Str × Str
def lnV (s : Ln3) : List V := [.str s.1, .str s.2.1, .str s.2.2]
structure GoodParts (ps : List Str) : Prop where
  one : 1 ≤ ps.length
  few : ps.length ≤ 6
  word : ∀ p ∈ ps, Word p
  nd : ps.Nodup
def Meet (t u : Tie3) : Prop := (t.1 = u.1 ∧ t.2.1 = u.2.1) ∨ (t.1 = u.2.1 ∧ t.2.1 = u.1)
structure GoodTies (ps : List Str) (es : List Tie3) : Prop where
  few : es.length ≤ 10
  in1 : ∀ t ∈ es, t.1 ∈ ps
  in2 : ∀ t ∈ es, t.2.1 ∈ ps
  ne : ∀ t ∈ es, t.1 ≠ t.2.1
  pos : ∀ t ∈ es, 0 ≤ t.2.2
  most : ∀ t ∈ es, t.2.2 ≤ 1000000
  apart : es.Pairwise fun t u => ¬ Meet t u
structure GoodLns (ps : List Str) (hk : Str) (ls : List Ln3) : Prop where
  one : 1 ≤ ls.length
  few : ls.length ≤ 6
  let_ : ∀ s ∈ ls, ∃ c, Sgn 97 122 s.1 c
  hook : ∀ s ∈ ls, ∃ d, s.2.1 = ⟨#[d]⟩ ∧ d ∈ hk.cps.toList
  part : ∀ s ∈ ls, s.2.2 ∈ ps
  up : ∀ (i : Nat) (s u : Ln3), ls[i]? = some s → ls[i + 1]? = some u → s.1.cps.toList < u.1.cps.toList
section
variable {P : Program} {w : World} {K : PySem.W.Frag} {mg : Str → Option Value} {base : Heap} {a : Ad}
theorem cut_take (xs : List V) (i : Nat) (h : i ≤ xs.length) : cutV xs none (some ((i : Nat) : Int)) = xs.take i := by
  unfold cutV
  rw [HT.sIx_nat, HT.sIx_none, List.drop_zero, Nat.sub_zero, Nat.min_eq_left h]
theorem not_whole (xs : List V) (i : Nat) (h : i < xs.length) : ¬ (HT.sIx xs.length 0 none = 0 ∧ HT.sIx xs.length xs.length (some ((i : Nat) : Int)) = xs.length) := fun z => by
  have := z.2
  rw [HT.sIx_nat, Nat.min_eq_left (Nat.le_of_lt h)] at this
  omega
theorem nd_take {ps : List Str} (nd : ps.Nodup) {i : Nat} {p : Str} (h : ps[i]? = some p) : p ∉ ps.take i := fun hin => by
  have tk : ps.take (i + 1) = ps.take i ++ [p] := by rw [List.take_succ, h]; rfl
  have n2 : (ps.take (i + 1)).Nodup := nd.sublist (List.take_sublist _ _)
  rw [tk, List.nodup_append] at n2
  exact n2.2.2 p hin p List.mem_cons_self rfl
theorem map_at {α : Type} {f : α → V} {l : List α} {i : Nat} {x : V} (h : (l.map f)[i]? = some x) : ∃ p, l[i]? = some p ∧ x = f p := by
  rw [List.getElem?_map] at h
  cases e : l[i]? with
  | none => rw [e] at h; cases h
  | some p => rw [e] at h; exact ⟨p, rfl, (Option.some.inj h).symm⟩
theorem map_atL {α : Type} {f : α → List V} {l : List α} {i : Nat} {x : List V} (h : (l.map f)[i]? = some x) : ∃ p, l[i]? = some p ∧ f p = x := by
  rw [List.getElem?_map] at h
  cases e : l[i]? with
  | none => rw [e] at h; cases h
  | some p => rw [e] at h; exact ⟨p, rfl, Option.some.inj h⟩
def spCheckParts (K : PySem.W.Frag) : Sp := fun vs H Q _ => ∃ (t : Addr) (ps : List Str), vs = [.ref t] ∧ SqT K H t (ps.map V.str) ∧ GoodParts ps ∧ ∀ H', Same H H' → Q .non H'
theorem ok_check_parts (T : Txt K mg a) : FnOk P w K mg base CX0 3 a.f_check_parts a.d_check_parts ["parts"] (spCheckParts K) := by
  refine T.F_check_parts.ok sc_check_parts (fun vs H Q E h => ?_) (fun cdv A outer s H vs Q E hr h => ?_)
  · obtain ⟨t, ps, rfl, _⟩ := h
    rfl
  · obtain ⟨t, ps, rfl, ht, g, k⟩ := h
    have g1 := g.one
    have g6 := g.few
    refine ⟨_, (pss_cons (ps_if (pt_not (pt_val (pe_call (ok_is_row T) (hr.mono (by decide)) (by rfl) T.m_is_row T.F_is_row.kp T.b_is_row .nil pass0 (pa_cons (pv 0) (pa_cons pe_int (pa_cons (pe_glob (v := .int 6) rfl T.m_MOST_PARTS ⟨_, rfl⟩) pa_nil)))))) (pss_one ps_never) pss_nil)
      (pss_one (ps_for PassesOwn.never rfl (pi_enumT (by rfl) T.z_enumerate (pa_cons (pv 0) pa_nil)) (pg_tup rfl (pgs_cons (pg_name (i := 1) sc_check_parts.nd rfl (Or.inl rfl)) (pgs_cons (pg_name (i := 2) sc_check_parts.nd rfl (Or.inl rfl)) pgs_nil))) (pss_one (ps_if (PW.pt (pw_or (pt_not (pt_val (pe_call (ok_is_word T) (hr.mono (by decide)) (by rfl) T.m_is_word T.F_is_word.kp T.b_is_word .nil pass0 (pa_cons (pv 2) pa_nil)))) (pw_or1 (pt_cmpR op_in_seq (pv 2) (pe_slice sl_tup (pv 0) po_none (po_some (pv 1))) (by rfl))))) (pss_one ps_never) pss_nil))))), ?_⟩
    walk_at "r"
    refine row_leaf ht (by rw [List.length_map]; omega) (by rw [List.length_map]; omega) ?_
    refine ⟨true, rfl, iteF ?_⟩
    walk_at "r"
    refine ⟨t, _, rfl, ht, for_leaf walk_enumT (fun i σ' G => Same H G ∧ ∃ v1 v2 : Option V, σ' = [some (.ref t), v1, v2]) ⟨w_same _, _, _, rfl⟩ (fun i σ' G _ ⟨e, _⟩ => seqT_same e ht) ?_ ?_⟩
    · rintro i x σ' G G' hi ⟨e, v1, v2, rfl⟩ ⟨T', y, z, rfl, nT, rfl, hy, hz⟩
      cases hy
      obtain ⟨p, hp, rfl⟩ := map_at hz
      have mp := List.mem_of_getElem? hp
      refine g_two upd_same ?_
      have e1 := e.trans (w_new (o := .tup [.int (i : Nat), .str p]) nT)
      generalize upd G T' (.tup [.int (i : Nat), .str p]) = G1 at e1 ⊢
      walk_at "r"
      refine ⟨p, rfl, g.word p mp, fun G2 e2 => ?_⟩
      have ht2 := seqT_same (e1.trans e2) ht
      refine ⟨true, rfl, iteF ?_⟩
      walk_at "r"
      refine ⟨t, _, rfl, ht2, not_whole _ i (by rw [List.length_map] at hi ⊢; exact hi), fun q nq => ?_⟩
      rw [cut_take _ i (by rw [List.length_map] at hi ⊢; omega), ← List.map_take]
      refine in_leaf (.inr (SqT.of upd_same)) ?_
      rw [decide_eq_false (nd_take g.nd hp)]
      refine ⟨false, rfl, iteF ?_⟩
      walk_at "r"
      exact ⟨(e1.trans e2).trans (w_new nq), _, _, rfl⟩
    · rintro σ' G ⟨e, _⟩
      exact k G e
/-! ties -/
theorem any_F {Q : VK} {D : Addr} {ys : List V} {H : Hp} (h : H D = some (.lst ys)) (hP : ∀ (i : Nat) (v : V), ys[i]? = some v → v = .bl false) (q : Q (.bl false) H) : rAny K [.ref D] H Q := by
  have e : ys = (List.replicate ys.length false).map V.bl := by
    rw [List.map_replicate]
    exact List.eq_replicate_iff.mpr ⟨rfl, fun b hb => by obtain ⟨i, hi⟩ := List.mem_iff_getElem?.mp hb; exact hP i b hi⟩
  refine ⟨D, List.replicate ys.length false, rfl, by rw [← e]; exact SqL.of h, ?_⟩
  have : (List.replicate ys.length false).any id = false := by
    rw [List.any_eq_false]
    intro x hx
    rw [(List.mem_replicate.mp hx).2]
    decide
  rw [this]
  exact q
theorem dp_two {H : Hp} {p : Addr} {x y : Str} (h : SqT K H p [.str x, .str y]) : Dp K H (.ref p) (.tuple [.str x, .str y]) := .tup h (.cons (.str _) (.cons (.str _) .nil))
theorem word_ok {s : Str} (h : Word s) : PyData.strOk s = true := by
  unfold PyData.strOk
  rw [← Array.all_toList, List.all_eq_true]
  intro c hc
  have := h.2.2 c hc
  exact decide_eq_true (by omega)
def spTied (K : PySem.W.Frag) : Sp := fun vs H Q _ => ∃ (p q : Str) (t : Addr) (es : List Tie3), vs = [.str p, .str q, .ref t] ∧ Word p ∧ Word q ∧ Rws K H t (es.map tieV) ∧ es.length ≤ 10 ∧ (∀ e ∈ es, Word e.1 ∧ Word e.2.1) ∧ (∀ e ∈ es, ¬ Meet e (p, q, 0)) ∧ ∀ H', Same H H' → Q (.bl false) H'
theorem ok_is_tied (T : Txt K mg a) : FnOk P w K mg base CX0 1 a.f_is_tied a.d_is_tied ["part", "other", "ties"] (spTied K) := by
  refine T.F_is_tied.ok sc_is_tied (fun vs H Q E h => ?_) (fun cdv A outer s H vs Q E hr h => ?_)
  · obtain ⟨p, q, t, es, rfl, _⟩ := h
    rfl
  · obtain ⟨p, q, t, es, rfl, wp, wq, ⟨as, ht, hl, hrow⟩, few, we, no, k⟩ := h
    refine ⟨_, (pss_one (ps_ret (pe_callB (cr_any rfl) (by rfl) T.z_any (by decide +kernel) (pa_cons (pe_lc (own := [("one", 3), ("two", 4), ("_", 5)]) (g := gTup K 3 (gCons (gName 3) (gCons (gName 4) (gCons (gName 5) (gNil))))) (tt := tYes) rfl sc_is_tied.nd (pi_tup (pv 2)) (blkOk_by (own := [("one", 3), ("two", 4), ("_", 5)]) (N := ["part", "other", "ties", "one", "two", "_"]) (sc := defScope s_is_tied) (by decide +kernel)) (fun _ _ _ _ _ => by exact pg_tup (n := 3) rfl (pgs_cons (pg_name (i := 3) sc_is_tied.nd rfl (Or.inl rfl)) (pgs_cons (pg_name (i := 4) sc_is_tied.nd rfl (Or.inl rfl)) (pgs_cons (pg_name (i := 5) sc_is_tied.nd rfl (Or.inl rfl)) pgs_nil)))) (fun _ _ _ _ _ => pts_nil) (fun _ _ _ _ _ => by exact (pe_cmpR (show OpR _ _ (rInT K) from op_inT (room65 hr)) (pe_tup (pa_cons (pv 3) (pa_cons (pv 4) pa_nil))) (pe_tup (pa_cons (pe_tup (pa_cons (pv 0) (pa_cons (pv 1) pa_nil))) (pa_cons (pe_tup (pa_cons (pv 1) (pa_cons (pv 0) pa_nil))) pa_nil))) (by rfl)))) pa_nil)))), ?_⟩
    walk_at "r"
    refine ⟨t, rfl, ⟨_, ht⟩, cmS walk_tup (by rw [List.length_map, hl, List.length_map]; omega) (fun G e => seqT_same e ht) (fun _ v _ => v = .bl false) (fun _ _ _ _ _ h => h) (fun i x H1 H2 hi e hy Q' kq => ?_) (fun D zs H1 n1 e1 h1 _ hP => ?_)⟩
    · obtain ⟨rfl, hx⟩ := hy
      obtain ⟨r, u, rfl, hu, hr⟩ := rows_at hl hrow hx
      obtain ⟨e0, he, rfl⟩ : ∃ e0, es[i]? = some e0 ∧ tieV e0 = u := by
        rw [List.getElem?_map] at hu
        cases q : es[i]? with
        | none => rw [q] at hu; cases hu
        | some e0 => rw [q] at hu; exact ⟨e0, rfl, Option.some.inj hu⟩
      have me := List.mem_of_getElem? he
      obtain ⟨w1, w2⟩ := we e0 me
      refine g_three (seqT_same e hr) ⟨rfl, ?_⟩
      walk_at "r"
      refine w_newT (by show 2 ≤ 100000; decide) fun t3 H3 n3 e3 h3 => ?_
      walk_at "r"
      refine w_newT (by show 2 ≤ 100000; decide) fun t4 H4 n4 e4 h4 => ?_
      walk_at "r"
      refine w_newT (by show 2 ≤ 100000; decide) fun t5 H5 n5 e5 h5 => ?_
      walk_at "r"
      refine w_newT (by show 2 ≤ 100000; decide) fun t6 H6 n6 e6 h6 => ?_
      have lay : ∀ x y : Str, Word x → Word y → PyData.canLay0 (.tuple [.str x, .str y]) = true := fun x y hx hy => by
        show (PyData.strOk x && (PyData.strOk y && true)) = true
        rw [word_ok hx, word_ok hy]
        rfl
      refine ⟨.tuple [.str e0.1, .str e0.2.1], [.tuple [.str p, .str q], .tuple [.str q, .str p]], dp_two (SqT.of (e6 _ _ (e5 _ _ (e4 _ _ h3)))), .tup (SqT.of h6) (.cons (dp_two (SqT.of (e6 _ _ (e5 _ _ h4)))) (.cons (dp_two (SqT.of (e6 _ _ h5))) .nil)), ?_, ?_, ?_⟩
      · unfold SeqAt.shaped
        rw [lay _ _ w1 w2]
        rfl
      · unfold SeqAt.shaped
        rw [show PyData.canLay0 (.tuple [.tuple [.str p, .str q], .tuple [.str q, .str p]]) = (PyData.canLay0 (.tuple [.str p, .str q]) && (PyData.canLay0 (.tuple [.str q, .str p]) && true)) from rfl, lay _ _ wp wq, lay _ _ wq wp]
        rfl
      · have n := no e0 me
        have f : (([.tuple [.str p, .str q], .tuple [.str q, .str p]] : List PyData).any fun z => PyData.eqv z (.tuple [.str e0.1, .str e0.2.1])) = false := by
          show (((p == e0.1) && ((q == e0.2.1) && true)) || (((q == e0.1) && ((p == e0.2.1) && true)) || false)) = false
          rw [Bool.eq_false_iff]
          intro z
          simp only [Bool.or_eq_true, Bool.and_eq_true, beq_iff_eq, Bool.false_eq_true, or_false, and_true] at z
          exact n (z.elim (fun z => .inl ⟨z.1.symm, z.2.symm⟩) fun z => .inr ⟨z.1.symm, z.2.symm⟩)
        rw [f]
        exact kq _ _ (((e3.trans e4).trans e5).trans e6) rfl
    walk_at "r"
    exact any_F h1 hP (k _ e1)
def spTie (K : PySem.W.Frag) : Sp := fun vs H Q _ => ∃ (t u : Addr) (e : Tie3) (ps : List Str), vs = [.ref t, .ref u] ∧ SqT K H t (tieV e) ∧ SqT K H u (ps.map V.str) ∧ e.1 ∈ ps ∧ e.2.1 ∈ ps ∧ e.1 ≠ e.2.1 ∧ 0 ≤ e.2.2 ∧ e.2.2 ≤ 1000000 ∧ ∀ H', Same H H' → Q (.bl true) H'
theorem ok_is_tie (T : Txt K mg a) : FnOk P w K mg base CX0 3 a.f_is_tie a.d_is_tie ["value", "parts"] (spTie K) := by
  refine T.F_is_tie.ok sc_is_tie (fun vs H Q E h => ?_) (fun cdv A outer s H vs Q E hr h => ?_)
  · obtain ⟨t, u, e, ps, rfl, _⟩ := h
    rfl
  · obtain ⟨t, u, e, ps, rfl, ht, hu, m1, m2, ne, h0, h6, k⟩ := h
    refine ⟨_, (pss_cons (ps_if (PW.pt (pw_or (pt_not (pt_val (pe_call (ok_is_row T) (hr.mono (by decide)) (by rfl) T.m_is_row T.F_is_row.kp T.b_is_row .nil pass0 (pa_cons (pv 0) (pa_cons pe_int (pa_cons pe_int pa_nil)))))) (pw_or (pt_not (pt_val (pe_call (ok_is_one_of T) (hr.mono (by decide)) (by rfl) T.m_is_one_of T.F_is_one_of.kp T.b_is_one_of .nil pass0 (pa_cons (pe_ix ix_tup (pv 0) pe_int (fun _ _ => rfl)) (pa_cons (pv 1) pa_nil))))) (pw_or1 (pt_not (pt_val (pe_call (ok_is_one_of T) (hr.mono (by decide)) (by rfl) T.m_is_one_of T.F_is_one_of.kp T.b_is_one_of .nil pass0 (pa_cons (pe_ix ix_tup (pv 0) pe_int (fun _ _ => rfl)) (pa_cons (pv 1) pa_nil))))))))) (pss_one (ps_ret pe_bl)) pss_nil)
      (pss_one (ps_ret (pe_and (pe_cmpR op_ne (pe_ix ix_tup (pv 0) pe_int (fun _ _ => rfl)) (pe_ix ix_tup (pv 0) pe_int (fun _ _ => rfl)) (nomark _)) (pe_and (pe_call (ok_is_number T) (hr.mono (by decide)) (by rfl) T.m_is_number T.F_is_number.kp T.b_is_number .nil pass0 (pa_cons (pe_ix ix_tup (pv 0) pe_int (fun _ _ => rfl)) pa_nil)) (pe_one (pe_cmpR op_le (pe_ix ix_tup (pv 0) pe_int (fun _ _ => rfl)) (pe_glob (v := .int 1000000) rfl T.m_MOST_AMOUNT ⟨_, rfl⟩) (nomark _)))))))), ?_⟩
    walk_at "r"
    refine row_leaf ht (by show (3 : Int) ≤ 3; decide) (by show (3 : Int) ≤ 3; decide) ⟨true, rfl, iteF ?_⟩
    walk_at "r"
    refine ⟨t, _, 0, _, rfl, rfl, ht, rfl, ?_⟩
    walk_at "r"
    refine oneOf_leaf hu fun H1 e1 => ?_
    rw [decide_eq_true m1]
    refine ⟨true, rfl, iteF ?_⟩
    walk_at "r"
    refine ⟨t, _, 1, _, rfl, rfl, seqT_same e1 ht, rfl, ?_⟩
    walk_at "r"
    refine oneOf_leaf (seqT_same e1 hu) fun H2 e2 => ?_
    rw [decide_eq_true m2]
    refine ⟨true, rfl, iteF ?_⟩
    have ht2 := seqT_same (e1.trans e2) ht
    walk_at "r"
    refine ⟨t, _, 0, _, rfl, rfl, ht2, rfl, ?_⟩
    walk_at "r"
    refine ⟨t, _, 1, _, rfl, rfl, ht2, rfl, ?_⟩
    walk_at "r"
    refine w_iteN (fun _ => ?_) (fun z => absurd (V.str.inj z) ne)
    walk_at "r"
    refine ⟨t, _, 2, _, rfl, rfl, ht2, rfl, ?_⟩
    walk_at "r"
    refine ⟨e.2.2, rfl, h0, true, rfl, iteT ?_⟩
    walk_at "r"
    refine ⟨t, _, 2, _, rfl, rfl, ht2, rfl, ?_⟩
    walk_at "r"
    show Q (.bl (decide (e.2.2 ≤ 1000000))) H2
    rw [decide_eq_true h6]
    exact k _ (e1.trans e2)
theorem rows_take {H H' : Hp} {as : List Addr} {L : List (List V)} {q : Addr} (hl : as.length = L.length) (h : ∀ (i : Nat) (q : Addr) (u : List V), as[i]? = some q → L[i]? = some u → SqT K H q u) (e : Same H H') (i : Nat) (hq : H' q = some (.tup ((as.take i).map V.ref))) : Rws K H' q (L.take i) :=
  ⟨as.take i, SqT.of hq, by rw [List.length_take, List.length_take, hl], fun j r u a b => by
    rw [List.getElem?_take] at a b
    split at a
    · rename_i lt
      rw [if_pos lt] at b
      exact seqT_same e (h j r u a b)
    · cases a⟩
def spCheckTies (K : PySem.W.Frag) : Sp := fun vs H Q _ => ∃ (t u : Addr) (es : List Tie3) (ps : List Str), vs = [.ref t, .ref u] ∧ Rws K H t (es.map tieV) ∧ SqT K H u (ps.map V.str) ∧ GoodParts ps ∧ GoodTies ps es ∧ ∀ H', Same H H' → Q .non H'
theorem ok_check_ties (T : Txt K mg a) : FnOk P w K mg base CX0 4 a.f_check_ties a.d_check_ties ["ties", "parts"] (spCheckTies K) := by
  refine T.F_check_ties.ok sc_check_ties (fun vs H Q E h => ?_) (fun cdv A outer s H vs Q E hr h => ?_)
  · obtain ⟨t, u, es, ps, rfl, _⟩ := h
    rfl
  · obtain ⟨t, u, es, ps, rfl, ⟨as, ht, hl, hrow⟩, hu, gp, g, k⟩ := h
    have few := g.few
    have hl2 : as.length = es.length := by rw [hl, List.length_map]
    refine ⟨_, (pss_cons (ps_if (pt_not (pt_val (pe_call (ok_is_row T) (hr.mono (by decide)) (by rfl) T.m_is_row T.F_is_row.kp T.b_is_row .nil pass0 (pa_cons (pv 0) (pa_cons pe_int (pa_cons (pe_glob (v := .int 10) rfl T.m_MOST_TIES ⟨_, rfl⟩) pa_nil)))))) (pss_one ps_never) pss_nil)
      (pss_one (ps_for PassesOwn.never rfl (pi_enumT (by rfl) T.z_enumerate (pa_cons (pv 0) pa_nil)) (pg_tup rfl (pgs_cons (pg_name (i := 2) sc_check_ties.nd rfl (Or.inl rfl)) (pgs_cons (pg_name (i := 3) sc_check_ties.nd rfl (Or.inl rfl)) pgs_nil))) (pss_one (ps_if (PW.pt (pw_or (pt_not (pt_val (pe_call (ok_is_tie T) (hr.mono (by decide)) (by rfl) T.m_is_tie T.F_is_tie.kp T.b_is_tie .nil pass0 (pa_cons (pv 3) (pa_cons (pv 1) pa_nil))))) (pw_or1 (pt_val (pe_call (ok_is_tied T) (hr.mono (by decide)) (by rfl) T.m_is_tied T.F_is_tied.kp T.b_is_tied .nil pass0 (pa_cons (pe_ix ix_tup (pv 3) pe_int (fun _ _ => rfl)) (pa_cons (pe_ix ix_tup (pv 3) pe_int (fun _ _ => rfl)) (pa_cons (pe_slice sl_tup (pv 0) po_none (po_some (pv 2))) pa_nil)))))))) (pss_one ps_never) pss_nil))))), ?_⟩
    walk_at "r"
    refine row_leaf ht (by rw [List.length_map]; omega) (by rw [List.length_map]; omega) ?_
    refine ⟨true, rfl, iteF ?_⟩
    walk_at "r"
    refine ⟨t, _, rfl, ht, for_leaf walk_enumT (fun i σ' G => Same H G ∧ ∃ v1 v2 : Option V, σ' = [some (.ref t), some (.ref u), v1, v2]) ⟨w_same _, _, _, rfl⟩ (fun i σ' G _ ⟨e, _⟩ => seqT_same e ht) ?_ ?_⟩
    · rintro i x σ' G G' hi ⟨e, v1, v2, rfl⟩ ⟨T', y, z, rfl, nT, rfl, hy, hz⟩
      cases hy
      obtain ⟨r, v, rfl, hv, hrr⟩ := rows_at hl hrow hz
      obtain ⟨e0, he, rfl⟩ := map_atL hv
      have me := List.mem_of_getElem? he
      refine g_two upd_same ?_
      have e1 := e.trans (w_new (o := .tup [.int (i : Nat), .ref r]) nT)
      generalize upd G T' (.tup [.int (i : Nat), .ref r]) = G1 at e1 ⊢
      walk_at "r"
      refine ⟨r, u, e0, ps, rfl, seqT_same e1 hrr, seqT_same e1 hu, g.in1 _ me, g.in2 _ me, g.ne _ me, g.pos _ me, g.most _ me, fun G2 e2 => ?_⟩
      have e12 := e1.trans e2
      have hr2 := seqT_same e12 hrr
      refine ⟨true, rfl, iteF ?_⟩
      walk_at "r"
      refine ⟨r, _, 0, _, rfl, rfl, hr2, rfl, ?_⟩
      walk_at "r"
      refine ⟨r, _, 1, _, rfl, rfl, hr2, rfl, ?_⟩
      walk_at "r"
      refine ⟨t, _, rfl, seqT_same e12 ht, not_whole _ i hi, fun q nq => ?_⟩
      have hi2 : i < as.length := by rw [List.length_map] at hi; exact hi
      rw [cut_take _ i (Nat.le_of_lt hi), ← List.map_take]
      have e3 := e12.trans (w_new (o := .tup ((as.take i).map V.ref)) nq)
      have hq : upd G2 q (.tup ((as.take i).map V.ref)) q = some (.tup ((as.take i).map V.ref)) := upd_same
      generalize upd G2 q (.tup ((as.take i).map V.ref)) = G3 at e3 hq ⊢
      walk_at "r"
      have rw3 := rows_take hl hrow e3 i hq
      rw [← List.map_take] at rw3
      refine ⟨e0.1, e0.2.1, q, es.take i, rfl, gp.word _ (g.in1 _ me), gp.word _ (g.in2 _ me), rw3, by rw [List.length_take]; omega, fun f hf => ⟨gp.word _ (g.in1 _ (List.mem_of_mem_take hf)), gp.word _ (g.in2 _ (List.mem_of_mem_take hf))⟩, fun f hf => ?_, fun G4 e4 => ?_⟩
      · obtain ⟨j, hj⟩ := List.mem_iff_getElem?.mp hf
        rw [List.getElem?_take] at hj
        split at hj
        · rename_i lt
          obtain ⟨l1, x1⟩ := List.getElem?_eq_some_iff.mp hj
          obtain ⟨l2, x2⟩ := List.getElem?_eq_some_iff.mp he
          have := List.pairwise_iff_getElem.mp g.apart j i l1 l2 lt
          rw [x1, x2] at this
          exact this
        · cases hj
      · refine ⟨false, rfl, iteF ?_⟩
        walk_at "r"
        exact ⟨e3.trans e4, _, _, rfl⟩
    · rintro σ' G ⟨e, _⟩
      exact k G e
def spString (K : PySem.W.Frag) : Sp := fun vs H Q _ => ∃ (t u : Addr) (s : Ln3) (hk : Str) (ps : List Str), vs = [.ref t, .str hk, .ref u] ∧ SqT K H t (lnV s) ∧ hk.cps.size ≤ 4 ∧ SqT K H u (ps.map V.str) ∧ (∃ c, Sgn 97 122 s.1 c) ∧ (∃ d, s.2.1 = ⟨#[d]⟩ ∧ d ∈ hk.cps.toList) ∧ s.2.2 ∈ ps ∧ ∀ H', Same H H' → Q (.bl true) H'
theorem ok_is_string (T : Txt K mg a) : FnOk P w K mg base CX0 3 a.f_is_string a.d_is_string ["value", "hooks", "parts"] (spString K) := by
  refine T.F_is_string.ok sc_is_string (fun vs H Q E h => ?_) (fun cdv A outer s H vs Q E hr h => ?_)
  · obtain ⟨t, u, s, hk, ps, rfl, _⟩ := h
    rfl
  · obtain ⟨t, u, s, hk, ps, rfl, ht, h4, hu, ⟨c, hc⟩, ⟨d, hd, md⟩, mp, k⟩ := h
    refine ⟨_, (pss_one (ps_ret (pe_and (pe_call (ok_is_row T) (hr.mono (by decide)) (by rfl) T.m_is_row T.F_is_row.kp T.b_is_row .nil pass0 (pa_cons (pv 0) (pa_cons pe_int (pa_cons pe_int pa_nil)))) (pe_and (pe_call (ok_is_small_letter T) (hr.mono (by decide)) (by rfl) T.m_is_small_letter T.F_is_small_letter.kp T.b_is_small_letter .nil pass0 (pa_cons (pe_ix ix_tup (pv 0) pe_int (fun _ _ => rfl)) pa_nil)) (pe_and (pe_call (ok_is_one_ofS T) (hr.mono (by decide)) (by rfl) T.m_is_one_of T.F_is_one_of.kp T.b_is_one_of .nil pass0 (pa_cons (pe_ix ix_tup (pv 0) pe_int (fun _ _ => rfl)) (pa_cons (pv 1) pa_nil))) (pe_one (pe_call (ok_is_one_of T) (hr.mono (by decide)) (by rfl) T.m_is_one_of T.F_is_one_of.kp T.b_is_one_of .nil pass0 (pa_cons (pe_ix ix_tup (pv 0) pe_int (fun _ _ => rfl)) (pa_cons (pv 2) pa_nil))))))))), ?_⟩
    walk_at "r"
    refine row_leaf ht (by show (3 : Int) ≤ 3; decide) (by show (3 : Int) ≤ 3; decide) ⟨true, rfl, iteT ?_⟩
    walk_at "r"
    refine ⟨t, _, 0, _, rfl, rfl, ht, rfl, ?_⟩
    walk_at "r"
    refine ⟨s.1, c, rfl, hc, true, rfl, iteT ?_⟩
    walk_at "r"
    refine ⟨t, _, 1, .str ⟨#[d]⟩, rfl, rfl, ht, by rw [← hd]; rfl, ?_⟩
    walk_at "r"
    refine oneOfS_leaf (by omega) fun H1 e1 => ?_
    rw [decide_eq_true md]
    refine ⟨true, rfl, iteT ?_⟩
    walk_at "r"
    refine ⟨t, _, 2, _, rfl, rfl, seqT_same e1 ht, rfl, ?_⟩
    walk_at "r"
    refine oneOf_leaf (seqT_same e1 hu) fun H2 e2 => ?_
    rw [decide_eq_true mp]
    exact k _ (e1.trans e2)
def spCheckStrings (K : PySem.W.Frag) : Sp := fun vs H Q _ => ∃ (t u : Addr) (ls : List Ln3) (hk : Str) (ps : List Str), vs = [.ref t, .str hk, .ref u] ∧ Rws K H t (ls.map lnV) ∧ hk.cps.size ≤ 4 ∧ SqT K H u (ps.map V.str) ∧ GoodLns ps hk ls ∧ ∀ H', Same H H' → Q .non H'
theorem ok_check_strings (T : Txt K mg a) : FnOk P w K mg base CX0 4 a.f_check_strings a.d_check_strings ["strings", "hooks", "parts"] (spCheckStrings K) := by
  refine T.F_check_strings.ok sc_check_strings (fun vs H Q E h => ?_) (fun cdv A outer s H vs Q E hr h => ?_)
  · obtain ⟨t, u, ls, hk, ps, rfl, _⟩ := h
    rfl
  · obtain ⟨t, u, ls, hk, ps, rfl, ⟨as, ht, hl, hrow⟩, h4, hu, g, k⟩ := h
    have few := g.few
    have one := g.one
    have hl2 : as.length = ls.length := by rw [hl, List.length_map]
    refine ⟨_, (pss_cons (ps_if (pt_not (pt_val (pe_call (ok_is_row T) (hr.mono (by decide)) (by rfl) T.m_is_row T.F_is_row.kp T.b_is_row .nil pass0 (pa_cons (pv 0) (pa_cons pe_int (pa_cons (pe_glob (v := .int 6) rfl T.m_MOST_STRINGS ⟨_, rfl⟩) pa_nil)))))) (pss_one ps_never) pss_nil)
      (pss_one (ps_for PassesOwn.never rfl (pi_enumT (by rfl) T.z_enumerate (pa_cons (pv 0) pa_nil)) (pg_tup rfl (pgs_cons (pg_name (i := 3) sc_check_strings.nd rfl (Or.inl rfl)) (pgs_cons (pg_name (i := 4) sc_check_strings.nd rfl (Or.inl rfl)) pgs_nil))) (pss_one (ps_if (PW.pt (pw_or (pt_not (pt_val (pe_call (ok_is_string T) (hr.mono (by decide)) (by rfl) T.m_is_string T.F_is_string.kp T.b_is_string .nil pass0 (pa_cons (pv 4) (pa_cons (pv 1) (pa_cons (pv 2) pa_nil)))))) (pw_or1 (PW.pt (pw_and (pt_cmpR op_gt (pv 3) pe_int (nomark _)) (pw_and1 (pt_cmpR op_le_str (pe_ix ix_tup (pv 4) pe_int (fun _ _ => rfl)) (pe_ix ix_tup (pe_ix ix_tup (pv 0) (pe_op op_sub (pv 3) pe_int) (fun _ _ => rfl)) pe_int (fun _ _ => rfl)) (nomark _)))))))) (pss_one ps_never) pss_nil))))), ?_⟩
    walk_at "r"
    refine row_leaf ht (by rw [List.length_map]; omega) (by rw [List.length_map]; omega) ?_
    refine ⟨true, rfl, iteF ?_⟩
    walk_at "r"
    refine ⟨t, _, rfl, ht, for_leaf walk_enumT (fun i σ' G => Same H G ∧ ∃ v1 v2 : Option V, σ' = [some (.ref t), some (.str hk), some (.ref u), v1, v2]) ⟨w_same _, _, _, rfl⟩ (fun i σ' G _ ⟨e, _⟩ => seqT_same e ht) ?_ ?_⟩
    · rintro i x σ' G G' hi ⟨e, v1, v2, rfl⟩ ⟨T', y, z, rfl, nT, rfl, hy, hz⟩
      cases hy
      obtain ⟨r, v, rfl, hv, hrr⟩ := rows_at hl hrow hz
      obtain ⟨s0, he, rfl⟩ := map_atL hv
      have me := List.mem_of_getElem? he
      refine g_two upd_same ?_
      have e1 := e.trans (w_new (o := .tup [.int (i : Nat), .ref r]) nT)
      generalize upd G T' (.tup [.int (i : Nat), .ref r]) = G1 at e1 ⊢
      walk_at "r"
      refine ⟨r, u, s0, hk, ps, rfl, seqT_same e1 hrr, h4, seqT_same e1 hu, g.let_ _ me, g.hook _ me, g.part _ me, fun G2 e2 => ?_⟩
      have e12 := e1.trans e2
      refine ⟨true, rfl, iteF ?_⟩
      walk_at "r"
      refine w_iteD (fun z => ?_) (fun z => ?_)
      · walk_at "r"
        refine ⟨r, _, 0, _, rfl, rfl, seqT_same e12 hrr, rfl, ?_⟩
        walk_at "r"
        have hi2 : i - 1 < as.length := by rw [List.length_map] at hi; omega
        have hi3 : i - 1 < ls.length := by omega
        refine ⟨t, _, (i : Int) - 1, .ref as[i - 1], rfl, rfl, seqT_same e12 ht, ?_, ?_⟩
        · rw [show (i : Int) - 1 = ((i - 1 : Nat) : Int) by omega]
          exact atI_nat (by rw [List.getElem?_map, List.getElem?_eq_getElem hi2]; rfl)
        walk_at "r"
        have hlow : ls[i - 1]? = some ls[i - 1] := List.getElem?_eq_getElem hi3
        have hrow2 := hrow (i - 1) as[i - 1] (lnV ls[i - 1]) (List.getElem?_eq_getElem hi2) (by rw [List.getElem?_map, hlow]; rfl)
        refine ⟨_, _, 0, _, rfl, rfl, seqT_same e12 hrow2, rfl, ?_⟩
        walk_at "r"
        have up := g.up (i - 1) _ s0 hlow (by rw [show i - 1 + 1 = i by omega]; exact he)
        refine ⟨_, _, rfl, rfl, ?_⟩
        show ∃ k, V.bl (!decide (ls[i - 1].1.cps.toList < s0.1.cps.toList)) = .bl k ∧ _
        rw [decide_eq_true up]
        refine ⟨false, rfl, iteF ?_⟩
        walk_at "r"
        exact ⟨e12, _, _, rfl⟩
      · walk_at "r"
        refine iteF ?_
        walk_at "r"
        exact ⟨e12, _, _, rfl⟩
    · rintro σ' G ⟨e, _⟩
      exact k G e
end
end RK7


namespace RK7
open PySem PySem.Spec L2 RK RZ StX PyProof.Rows
/-! ### distances -/
abbrev Tb (kvs : List (List Key × V)) (d : RPath.Tab Str) : Prop := ∀ p q : Str, valV kvs [.inr p, .inr q] = (d p q).map V.int
theorem key2 {a b p q : Str} : ([.inr a, .inr b] : List Key) = [.inr p, .inr q] ↔ a = p ∧ b = q := by
  constructor
  · intro h
    injection h with h1 h2
    injection h2 with h2 _
    exact ⟨Sum.inr.inj h1, Sum.inr.inj h2⟩
  · rintro ⟨rfl, rfl⟩
    rfl
theorem Tb.put {kvs : List (List Key × V)} {d : RPath.Tab Str} (h : Tb kvs d) (p q : Str) (x : Int) : Tb (putK kvs [.inr p, .inr q] (.int x)) (RPath.put d p q x) := fun a b => by
  rw [valV_put]
  by_cases c : a = p ∧ b = q
  · rw [if_pos (key2.mpr c), c.1, c.2, RPath.put_same]
    rfl
  · rw [if_neg (fun z => c (key2.mp z)), RPath.put_ne d x c]
    exact h a b
section
variable {P : Program} {w : World} {K : PySem.W.Frag} {mg : Str → Option Value} {base : Heap} {a : Ad}
def opt (o : Option Int) : V := (o.map V.int).getD .non
theorem opt_non {o : Option Int} (h : opt o = .non) : o = none := by
  cases o with
  | none => rfl
  | some x => cases h
theorem opt_some {o : Option Int} (h : ¬ opt o = .non) : ∃ x, o = some x ∧ opt o = .int x := by
  cases o with
  | none => exact absurd rfl h
  | some x => exact ⟨x, rfl, rfl⟩
theorem isd_t {H : Hp} {D : Addr} {kvs : List (List Key × V)} (h : H D = some (.dT kvs)) : IsD H D := .inr ⟨kvs, .inl h⟩
theorem get_leaf {D b : Addr} {H : Hp} {Q : VK} {kvs : List (List Key × V)} {d : RPath.Tab Str} {p q : Str} (hD : H D = some (.dT kvs)) (h : Tb kvs d) (hb : H b = some (.tup [.str p, .str q])) (k : Q (opt (d p q)) H) : GetL D (.ref b) H Q :=
  ⟨_, DGet.t (k := [.inr p, .inr q]) hD hb, by rw [h]; exact k⟩
def spShorten : Sp := fun vs H Q _ => ∃ (D : Addr) (kvs : List (List Key × V)) (d : RPath.Tab Str) (p m q : Str), vs = [.ref D, .str p, .str m, .str q] ∧ H D = some (.dT kvs) ∧ Tb kvs d ∧ kvs.length ≤ 1000 ∧
  ∀ kvs' H', H' D = some (.dT kvs') → Tb kvs' (RPath.short d p m q) → kvs'.length ≤ kvs.length + 1 → But D H H' → Q .non H'
theorem ok_shorten (T : Txt K mg a) : FnOk P w K mg base CX0 1 a.f_shorten a.d_shorten ["distances", "part", "middle", "other"] spShorten := by
  refine T.F_shorten.ok sc_shorten (fun vs H Q E h => ?_) (fun cdv A outer s H vs Q E hr h => ?_)
  · obtain ⟨D, kvs, d, p, m, q, rfl, _⟩ := h
    rfl
  · obtain ⟨D, kvs, d, p, m, q, rfl, hD, tb, hz, k⟩ := h
    refine ⟨_, (pss_cons (ps_set (i := 4) sc_shorten.nd rfl (Or.inl rfl) (pe_dget1 (hu_of hr) (pv 0) (pe_tup (pa_cons (pv 1) (pa_cons (pv 2) pa_nil))) ⟨rfl, rfl, rfl, rfl⟩))
      (pss_cons (ps_set (i := 5) sc_shorten.nd rfl (Or.inl rfl) (pe_dget1 (hu_of hr) (pv 0) (pe_tup (pa_cons (pv 2) (pa_cons (pv 3) pa_nil))) ⟨rfl, rfl, rfl, rfl⟩))
      (pss_cons (ps_if (PW.pt (pw_or (pt_cmpR op_isN (pv 4) pe_non (nomark _)) (pw_or1 (pt_cmpR op_isN (pv 5) pe_non (nomark _))))) (pss_one ps_retN) pss_nil)
      (pss_cons (ps_set (i := 6) sc_shorten.nd rfl (Or.inl rfl) (pe_dget1 (hu_of hr) (pv 0) (pe_tup (pa_cons (pv 1) (pa_cons (pv 3) pa_nil))) ⟨rfl, rfl, rfl, rfl⟩))
      (pss_one (ps_if (PW.pt (pw_or (pt_cmpR op_isN (pv 6) pe_non (nomark _)) (pw_or1 (pt_cmpR op_lt (pe_op op_add (pv 4) (pv 5)) (pv 6) (nomark _))))) (pss_one (ps_asg (pe_op op_add (pv 4) (pv 5)) (pg_sub (pv 0) (pe_tup (pa_cons (pv 1) (pa_cons (pv 3) pa_nil))) (set_dict (hu_of hr))))) pss_nil)))))), ?_⟩
    walk_at "r"
    refine ⟨D, rfl, isd_t hD, ?_⟩
    walk_at "r"
    refine w_newT (by show 2 ≤ 100000; decide) fun t1 H1 n1 e1 h1 => ?_
    have hD1 := e1 _ _ hD
    refine get_leaf hD1 tb h1 ?_
    walk_at "r"
    refine ⟨D, rfl, isd_t hD1, ?_⟩
    walk_at "r"
    refine w_newT (by show 2 ≤ 100000; decide) fun t2 H2 n2 e2 h2 => ?_
    have hD2 := e2 _ _ hD1
    refine get_leaf hD2 tb h2 ?_
    walk_at "r"
    have e12 := e1.trans e2
    refine ⟨rfl, ?_⟩
    walk_at "r"
    have stays : ∀ {G : Hp}, RPath.short d p m q = d → Same H G → Q .non G := fun {G} z e => k kvs G (e _ _ hD) (by rw [z]; exact tb) (Nat.le_succ _) (.of e)
    refine w_iteD (fun z => ?_) (fun z => ?_)
    · have z0 := opt_non z
      walk_at "r"
      refine iteT ?_
      walk_at "r"
      exact stays (by unfold RPath.short; rw [z0]) e12
    · obtain ⟨x, hx, ox⟩ := opt_some z
      walk_at "r"
      refine ⟨rfl, ?_⟩
      walk_at "r"
      refine w_iteD (fun z => ?_) (fun z => ?_)
      · have z0 := opt_non z
        walk_at "r"
        exact stays (by unfold RPath.short; rw [hx, z0]) e12
      · obtain ⟨y, hy, oy⟩ := opt_some z
        walk_at "r"
        refine ⟨D, rfl, isd_t hD2, ?_⟩
        walk_at "r"
        refine w_newT (by show 2 ≤ 100000; decide) fun t3 H3 n3 e3 h3 => ?_
        have hD3 := e3 _ _ hD2
        refine get_leaf hD3 tb h3 ?_
        rw [ox, oy]
        walk_at "r"
        refine ⟨rfl, ?_⟩
        walk_at "r"
        have e13 := e12.trans e3
        have puts : RPath.short d p m q = RPath.put d p q (x + y) → ∀ {G : Hp}, Same H3 G → ∀ t4, G t4 = some (.tup [.str p, .str q]) → rSetD (.ref D) (.ref t4) (.int (x + y)) G fun G' => Q .non G' := fun z {G} e t4 h4 => by
          have hD4 := e _ _ hD3
          refine ⟨D, _, rfl, DPut.t (k := [.inr p, .inr q]) hD4 h4 (Nat.lt_of_le_of_lt hz (by decide)), ?_⟩
          exact k _ _ upd_same (by rw [z]; exact tb.put p q (x + y)) (length_putK ..) (But.upd (.of (e13.trans e)))
        refine w_iteD (fun z => ?_) (fun z => ?_)
        · have z0 := opt_non z
          refine iteT ?_
          walk_at "r"
          refine w_newT (by show 2 ≤ 100000; decide) fun t4 H4 n4 e4 h4 => ?_
          exact puts (by unfold RPath.short RPath.low; rw [hx, hy]; show (match d p q with | none => _ | some c => _) = _; rw [z0]) e4 t4 h4
        · obtain ⟨c, hc, oc⟩ := opt_some z
          rw [oc]
          walk_at "r"
          refine w_iteD (fun z => ?_) (fun z => ?_)
          · walk_at "r"
            refine w_newT (by show 2 ≤ 100000; decide) fun t4 H4 n4 e4 h4 => ?_
            exact puts (by unfold RPath.short RPath.low; rw [hx, hy]; show (match d p q with | none => _ | some c => _) = _; rw [hc]; exact if_pos z) e4 t4 h4
          · walk_at "r"
            exact stays (by unfold RPath.short RPath.low; rw [hx, hy]; show (match d p q with | none => _ | some c => _) = _; rw [hc]; exact if_neg z) e13
theorem shorten_leaf {H : Hp} {Q : VK} {E : XK} {D : Addr} {kvs : List (List Key × V)} {d : RPath.Tab Str} {p m q : Str} (hD : H D = some (.dT kvs)) (tb : Tb kvs d) (hz : kvs.length ≤ 1000)
    (k : ∀ kvs' H', H' D = some (.dT kvs') → Tb kvs' (RPath.short d p m q) → kvs'.length ≤ kvs.length + 1 → But D H H' → Q .non H') : spShorten [.ref D, .str p, .str m, .str q] H Q E := ⟨D, kvs, d, p, m, q, rfl, hD, tb, hz, k⟩
/-- a dict of distances stands at D -/
structure Dt (H : Hp) (D : Addr) (d : RPath.Tab Str) (n : Nat) : Prop where
  ex : ∃ kvs, H D = some (.dT kvs) ∧ Tb kvs d ∧ kvs.length ≤ n
theorem Dt.same {H H' : Hp} {D : Addr} {d : RPath.Tab Str} {n : Nat} (h : Dt H D d n) (e : Same H H') : Dt H' D d n := let ⟨kvs, a, b, c⟩ := h.ex; ⟨kvs, e _ _ a, b, c⟩
theorem Dt.mono {H : Hp} {D : Addr} {d : RPath.Tab Str} {n m : Nat} (h : Dt H D d n) (l : n ≤ m) : Dt H D d m := let ⟨kvs, a, b, c⟩ := h.ex; ⟨kvs, a, b, Nat.le_trans c l⟩
theorem Dt.eqT {H : Hp} {D : Addr} {d e : RPath.Tab Str} {n : Nat} (h : Dt H D d n) (z : d = e) : Dt H D e n := z ▸ h
theorem take_snoc {α : Type} {l : List α} {i : Nat} {x : α} (h : l[i]? = some x) : l.take (i + 1) = l.take i ++ [x] := by rw [List.take_succ, h]; rfl
theorem put_leafT {D b : Addr} {H : Hp} {R : Hp → Prop} {d : RPath.Tab Str} {p q : Str} {x : Int} {n : Nat} (h : Dt H D d n) (hn : n ≤ 1000) (hb : H b = some (.tup [.str p, .str q])) (k : ∀ H', Dt H' D (RPath.put d p q x) (n + 1) → But D H H' → R H') : rSetD (.ref D) (.ref b) (.int x) H R := by
  obtain ⟨kvs, hD, tb, hz⟩ := h.ex
  refine ⟨D, _, rfl, DPut.t (k := [.inr p, .inr q]) hD hb (Nat.lt_of_le_of_lt (Nat.le_trans hz hn) (by decide)), ?_⟩
  exact k _ ⟨_, upd_same, tb.put p q x, Nat.le_trans (length_putK ..) (Nat.succ_le_succ hz)⟩ (But.upd (.refl D H))
def spDists (K : PySem.W.Frag) : Sp := fun vs H Q _ => ∃ (t u : Addr) (ps : List Str) (es : List Tie3), vs = [.ref t, .ref u] ∧ SqT K H t (ps.map V.str) ∧ Rws K H u (es.map tieV) ∧ ps.length ≤ 6 ∧ es.length ≤ 10 ∧ ∀ D H', H D = none → Same H H' → Dt H' D (RPath.passes ps ps (RPath.ini ps es)) 400 → Q (.ref D) H'
theorem ok_distances_of (T : Txt K mg a) : FnOk P w K mg base CX0 2 a.f_distances_of a.d_distances_of ["parts", "ties"] (spDists K) := by
  refine T.F_distances_of.ok sc_distances_of (fun vs H Q E h => ?_) (fun cdv A outer s H vs Q E hr h => ?_)
  · obtain ⟨t, u, ps, es, rfl, _⟩ := h
    rfl
  · obtain ⟨t, u, ps, es, rfl, ht, ⟨as, hu, hl, hrow⟩, h6, h10, k⟩ := h
    have ml : (ps.map V.str).length = ps.length := List.length_map ..
    have hl2 : as.length = es.length := by rw [hl, List.length_map]
    refine ⟨_, (pss_cons (ps_setDc (i := 2) (o0 := .dT []) (.inr rfl) (hu_of hr) (own := [("part", 3)]) (g := gName 3) (tt := tYes) rfl sc_distances_of.nd rfl rfl (sw_trueD rfl rfl rfl (by decide +kernel)) (pi_tup (pv 0)) (blkOk_by (own := [("part", 3)]) (N := ["parts", "ties", "found", "part", "other", "reach", "middle"]) (sc := defScope s_distances_of) (by decide +kernel)) (fun _ _ _ _ _ => pg_name (i := 3) sc_distances_of.nd rfl (Or.inl rfl)) (fun _ _ _ _ _ => pts_nil) (fun _ _ _ _ _ => by exact (pe_tup (pa_cons (pv 3) (pa_cons (pv 3) pa_nil)))) (fun _ _ _ _ _ => by exact pe_int))
      (pss_cons (ps_for PassesOwn.never rfl (pi_tup (pv 1)) (pg_tup rfl (pgs_cons (pg_name (i := 3) sc_distances_of.nd rfl (Or.inl rfl)) (pgs_cons (pg_name (i := 4) sc_distances_of.nd rfl (Or.inl rfl)) (pgs_cons (pg_name (i := 5) sc_distances_of.nd rfl (Or.inl rfl)) pgs_nil)))) (pss_cons (ps_asg (pv 5) (pg_sub (pv 2) (pe_tup (pa_cons (pv 3) (pa_cons (pv 4) pa_nil))) (set_dict (hu_of hr))))
      (pss_one (ps_asg (pv 5) (pg_sub (pv 2) (pe_tup (pa_cons (pv 4) (pa_cons (pv 3) pa_nil))) (set_dict (hu_of hr)))))))
      (pss_cons (ps_for PassesOwn.never rfl (pi_tup (pv 0)) (pg_name (i := 6) sc_distances_of.nd rfl (Or.inl rfl)) (pss_one (ps_for PassesOwn.never rfl (pi_tup (pv 0)) (pg_name (i := 3) sc_distances_of.nd rfl (Or.inl rfl)) (pss_one (ps_for PassesOwn.never rfl (pi_tup (pv 0)) (pg_name (i := 4) sc_distances_of.nd rfl (Or.inl rfl)) (pss_one (ps_expr (pe_call (ok_shorten T) (hr.mono (by decide)) (by rfl) T.m_shorten T.F_shorten.kp T.b_shorten .nil pass0 (pa_cons (pv 2) (pa_cons (pv 3) (pa_cons (pv 6) (pa_cons (pv 4) pa_nil))))))))))))
      (pss_one (ps_ret (pv 2)))))), ?_⟩
    walk_at "r"
    refine ⟨t, rfl, ⟨_, ht⟩, dc_leaf (walk_tup (xs := ps.map V.str)) (fun D i G => H D = none ∧ But D H G ∧ Dt G D ((ps.take i).foldl (fun d p => RPath.put d p p 0) fun _ _ => none) i) (fun D nD => ⟨nD, But.upd (.refl D H), ⟨[], upd_same, fun _ _ => rfl, Nat.le_refl _⟩⟩) ?_ ?_ ?_⟩
    · rintro D i G _ ⟨nD, e, _⟩
      exact seqT_same (e.same nD) ht
    · rintro D i x G G' hi ⟨nD, e, dt⟩ ⟨rfl, hx⟩
      obtain ⟨p, hp, rfl⟩ := map_at hx
      refine ⟨rfl, ?_⟩
      walk_at "r"
      refine w_newT (by show 2 ≤ 100000; decide) fun t1 H1 n1 e1 h1 => ?_
      walk_at "r"
      obtain ⟨kvs, hD, tb, hz⟩ := (dt.same e1).ex
      have ib : i ≤ 6 := by omega
      refine ⟨_, DPut.t (k := [.inr p, .inr p]) hD h1 (Nat.lt_of_le_of_lt (show kvs.length ≤ 1000 by omega) (by decide)), nD, (e.trans (.of e1)).upd, ⟨_, upd_same, ?_, Nat.le_trans (length_putK ..) (Nat.succ_le_succ hz)⟩⟩
      rw [take_snoc hp, List.foldl_append]
      exact tb.put p p 0
    · rintro D G nD ⟨_, e, dt⟩
      rw [ml, List.take_length] at dt
      have dt : Dt G D (RPath.dia ps) ps.length := dt
      have sG := e.same nD
      walk_at "r"
      refine ⟨u, rfl, ⟨_, seqT_same sG hu⟩, for_leaf (walk_tup (xs := as.map V.ref)) (fun j σ' G => Same H G ∧ Dt G D ((es.take j).foldl RPath.tie2 (RPath.dia ps)) (6 + 2 * j) ∧ ∃ v3 v4 v5 v6 : Option V, σ' = [some (.ref t), some (.ref u), some (.ref D), v3, v4, v5, v6]) ⟨sG, dt.mono (by omega), _, _, _, _, rfl⟩ (fun j σ' G _ ⟨e, _⟩ => seqT_same e hu) ?_ ?_⟩
      · rintro j x σ' G G' hj ⟨e, dt, v3, v4, v5, v6, rfl⟩ ⟨rfl, hx⟩
        obtain ⟨r, v, rfl, hv, hrr⟩ := rows_at hl hrow hx
        obtain ⟨e0, he, rfl⟩ := map_atL hv
        have jb : j < 10 := by rw [List.length_map] at hj; omega
        refine g_three (seqT_same e hrr) ?_
        walk_at "r"
        refine w_newT (by show 2 ≤ 100000; decide) fun t1 H1 n1 e1 h1 => ?_
        refine put_leafT (dt.same e1) (by omega) h1 fun H2 dt2 b2 => ?_
        have e2 := (e.trans e1)
        have s2 : Same H H2 := fun c o h => b2 c o (ne_of_none h nD) (e2 c o h)
        walk_at "r"
        refine w_newT (by show 2 ≤ 100000; decide) fun t3 H3 n3 e3 h3 => ?_
        refine put_leafT (dt2.same e3) (by omega) h3 fun H4 dt4 b4 => ?_
        refine ⟨fun c o h => b4 c o (ne_of_none h nD) ((s2.trans e3) c o h), (dt4.eqT ?_).mono (by omega), _, _, _, _, rfl⟩
        rw [take_snoc he, List.foldl_append]
        rfl
      · rintro σ' G1 ⟨e1, dt1, v3, v4, v5, v6, rfl⟩
        rw [List.length_map, hl2, List.take_length] at dt1
        have dt1 : Dt G1 D (RPath.ini ps es) 26 := (show Dt G1 D (RPath.ini ps es) (6 + 2 * es.length) from dt1).mono (by omega)
        walk_at "r"
        refine ⟨t, rfl, ⟨_, seqT_same e1 ht⟩, for_leaf (walk_tup (xs := ps.map V.str)) (fun i σ' G => Same H G ∧ Dt G D (RPath.passes (ps.take i) ps (RPath.ini ps es)) (26 + 36 * i) ∧ ∃ v3 v4 v5 v6 : Option V, σ' = [some (.ref t), some (.ref u), some (.ref D), v3, v4, v5, v6]) ⟨e1, dt1, _, _, _, _, rfl⟩ (fun j σ' G _ ⟨e, _⟩ => seqT_same e ht) ?_ ?_⟩
        · rintro i x σ' G G' hi ⟨e, dt, w3, w4, w5, w6, rfl⟩ ⟨rfl, hx⟩
          obtain ⟨m, hm, rfl⟩ := map_at hx
          have ib : i < 6 := by rw [List.length_map] at hi; omega
          walk_at "r"
          refine ⟨t, rfl, ⟨_, seqT_same e ht⟩, for_leaf (walk_tup (xs := ps.map V.str)) (fun j σ' G => Same H G ∧ Dt G D (RPath.pass2 (ps.take j) ps (RPath.passes (ps.take i) ps (RPath.ini ps es)) m) (26 + 36 * i + 6 * j) ∧ ∃ v3 v4 v5 : Option V, σ' = [some (.ref t), some (.ref u), some (.ref D), v3, v4, v5, some (.str m)]) ⟨e, dt, _, _, _, rfl⟩ (fun j σ' G _ ⟨e, _⟩ => seqT_same e ht) ?_ ?_⟩
          · rintro j x σ' G2 G2' hj ⟨e2, dt2, x3, x4, x5, rfl⟩ ⟨rfl, hx⟩
            obtain ⟨p, hp, rfl⟩ := map_at hx
            have jb : j < 6 := by rw [List.length_map] at hj; omega
            walk_at "r"
            refine ⟨t, rfl, ⟨_, seqT_same e2 ht⟩, for_leaf (walk_tup (xs := ps.map V.str)) (fun l σ' G => Same H G ∧ Dt G D (RPath.pass1 (ps.take l) (RPath.pass2 (ps.take j) ps (RPath.passes (ps.take i) ps (RPath.ini ps es)) m) p m) (26 + 36 * i + 6 * j + l) ∧ ∃ v4 v5 : Option V, σ' = [some (.ref t), some (.ref u), some (.ref D), some (.str p), v4, v5, some (.str m)]) ⟨e2, dt2, _, _, rfl⟩ (fun j σ' G _ ⟨e, _⟩ => seqT_same e ht) ?_ ?_⟩
            · rintro l x σ' G3 G3' hl3 ⟨e3, dt3, y4, y5, rfl⟩ ⟨rfl, hx⟩
              obtain ⟨q, hq, rfl⟩ := map_at hx
              have lb : l < 6 := by rw [List.length_map] at hl3; omega
              obtain ⟨kvs, hD, tb, hz⟩ := dt3.ex
              walk_at "r"
              refine shorten_leaf hD tb (by omega) fun kvs' H4 hD4 tb4 hz4 b4 => ?_
              walk_at "r"
              refine ⟨fun c o h => b4 c o (ne_of_none h nD) (e3 c o h), ⟨kvs', hD4, ?_, by omega⟩, _, _, rfl⟩
              unfold RPath.pass1
              rw [take_snoc hq, List.foldl_append]
              exact tb4
            · rintro σ' G3 ⟨e3, dt3, y4, y5, rfl⟩
              rw [ml, List.take_length] at dt3
              refine ⟨e3, (dt3.eqT ?_).mono (by omega), _, _, _, rfl⟩
              unfold RPath.pass2
              rw [take_snoc hp, List.foldl_append]
              rfl
          · rintro σ' G2 ⟨e2, dt2, x3, x4, x5, rfl⟩
            rw [ml, List.take_length] at dt2
            refine ⟨e2, (dt2.eqT ?_).mono (by omega), _, _, _, _, rfl⟩
            unfold RPath.passes
            rw [take_snoc hm, List.foldl_append]
            rfl
        · rintro σ' G ⟨e, dt, w3, w4, w5, w6, rfl⟩
          rw [ml, List.take_length] at dt
          walk_at "r"
          exact k D G nD e (dt.mono (by omega))
end
end RK7


namespace RK7
open PySem PySem.Spec L2 RK RZ StX PyProof.Rows
/-! ### a puppet -/
theorem putF_new {f : Str} {v : V} : ∀ {fs : List (Str × V)}, f ∉ fs.map (·.1) → putF f v fs = fs ++ [(f, v)]
  | [], _ => rfl
  | (g, u) :: fs, h => by
    have h1 : ¬ g = f := fun z => h (by rw [← z]; exact List.mem_cons_self)
    have ih := putF_new (f := f) (v := v) (fs := fs) fun m => h (List.mem_cons_of_mem _ m)
    show (if g = f then _ else (g, u) :: putF f v fs) = _
    rw [if_neg h1, ih]
    rfl
abbrev dist (ps : List Str) (es : List Tie3) : RPath.Tab Str := RPath.passes ps ps (RPath.ini ps es)
def nmsL (ls : List Ln3) : Str := Txt.join "" (ls.map fun s => s.1)
def pfs (t u : Addr) (hk : Str) (l : Addr) (nm : Str) (D : Addr) : List (Str × V) := [(("parts" : Str), .ref t), (("ties" : Str), .ref u), (("hooks" : Str), .str hk), (("strings" : Str), .ref l), (("names" : Str), .str nm), (("distances" : Str), .ref D)]
structure GoodPup (ps : List Str) (es : List Tie3) (hk : Str) (ls : List Ln3) : Prop where
  parts : GoodParts ps
  ties : GoodTies ps es
  caps : Caps hk
  lns : GoodLns ps hk ls
structure Pup (K : PySem.W.Frag) (C : Addr) (H : Hp) (p : Addr) (ps : List Str) (es : List Tie3) (hk : Str) (ls : List Ln3) : Prop where
  ob : ∃ dx t u l D, H p = some (.ins C dx (pfs t u hk l (nmsL ls) D)) ∧ SqT K H t (ps.map V.str) ∧ Rws K H u (es.map tieV) ∧ Rws K H l (ls.map lnV) ∧ Dt H D (dist ps es) 400
  good : GoodPup ps es hk ls
theorem Pup.same {K : PySem.W.Frag} {C : Addr} {H H' : Hp} {p : Addr} {ps : List Str} {es : List Tie3} {hk : Str} {ls : List Ln3} (r : Pup K C H p ps es hk ls) (e : Same H H') : Pup K C H' p ps es hk ls :=
  let ⟨dx, t, u, l, D, h1, h2, h3, h4, h5⟩ := r.ob; ⟨⟨dx, t, u, l, D, e _ _ h1, seqT_same e h2, h3.same e, h4.same e, h5.same e⟩, r.good⟩
theorem Dt.kp {H H' : Hp} {D b : Addr} {d : RPath.Tab Str} {n : Nat} (h : Dt H D d n) (e : Kp b H H') : Dt H' D d n := by
  obtain ⟨kvs, h1, h2, h3⟩ := h.ex
  exact ⟨kvs, e.sameT D _ h1 nofun, h2, h3⟩
theorem Pup.kp {K : PySem.W.Frag} {C b : Addr} {H H' : Hp} {p : Addr} {ps : List Str} {es : List Tie3} {hk : Str} {ls : List Ln3} (r : Pup K C H p ps es hk ls) (e : Kp b H H') : Pup K C H' p ps es hk ls :=
  let ⟨dx, t, u, l, D, h1, h2, h3, h4, h5⟩ := r.ob; ⟨⟨dx, t, u, l, D, e.ins h1, e.sqt h2, h3.kp e, h4.kp e, h5.kp e⟩, r.good⟩
section
variable {P : Program} {w : World} {K : PySem.W.Frag} {mg : Str → Option Value} {base : Heap} {a : Ad}
theorem sf_leaf {f : Str} {y : V} {p C dx : Addr} {fs : List (Str × V)} {H : Hp} {N : Hp → Prop} (hp : H p = some (.ins C dx fs)) (cl : Cls K C) (na : NoAttr K C f) (hl : fs.length < 1000) (nw : f ∉ fs.map (·.1)) (k : ∀ H', H' p = some (.ins C dx (fs ++ [(f, y)])) → But p H H' → N H') : Sf K f y (.ref p) H N :=
  ⟨p, C, dx, fs, rfl, hp, cl, na, hl, k _ (by rw [upd_same, putF_new nw]) (But.upd (.refl p H))⟩
theorem But.rws {H H' : Hp} {D p : Addr} {L : List (List V)} {u : HO} (e : But D H H') (hD : H D = some u) (hu : ∀ ys, u ≠ .tup ys) (hf : ∀ o v, u ≠ .frz o v) (h : Rws K H p L) : Rws K H' p L :=
  let ⟨as, h1, h2, h3⟩ := h; ⟨as, e.sqt hD hu hf h1, h2, fun i q u a b => e.sqt hD hu hf (h3 i q u a b)⟩
theorem But.rwsI {H H' : Hp} {p t C dx : Addr} {fs : List (Str × V)} {L : List (List V)} (e : But p H H') (hp : H p = some (.ins C dx fs)) (h : Rws K H t L) : Rws K H' t L := But.rws e hp (fun _ z => by cases z) (fun _ _ z => by cases z) h
theorem But.sqtI {H H' : Hp} {p t C dx : Addr} {fs : List (Str × V)} {xs : List V} (e : But p H H') (hp : H p = some (.ins C dx fs)) (h : SqT K H t xs) : SqT K H' t xs := RK.But.sqt e hp (fun _ z => by cases z) (fun _ _ z => by cases z) h
def spPinit (K : PySem.W.Frag) (C : Addr) : Sp := fun vs H Q _ => ∃ (p dx t u l : Addr) (ps : List Str) (es : List Tie3) (hk : Str) (ls : List Ln3), vs = [.ref p, .ref t, .ref u, .str hk, .ref l] ∧ H p = some (.ins C dx []) ∧ SqT K H t (ps.map V.str) ∧ Rws K H u (es.map tieV) ∧ Rws K H l (ls.map lnV) ∧ GoodPup ps es hk ls ∧
  ∀ H', Pup K C H' p ps es hk ls → But p H H' → Q .non H'
theorem ok_Puppet_init (T : Txt K mg a) : FnOk P w K mg base CX0 5 a.f_Puppet_init a.d_Puppet_init ["self", "parts", "ties", "hooks", "strings"] (spPinit K a.C_Puppet) := by
  refine T.F_Puppet_init.ok sc_Puppet_init (fun vs H Q E h => ?_) (fun cdv A outer s H vs Q E hr h => ?_)
  · obtain ⟨p, dx, t, u, l, ps, es, hk, ls, rfl, _⟩ := h
    rfl
  · obtain ⟨p, dx, t, u, l, ps, es, hk, ls, rfl, hp, ht, hu, hl, g, k⟩ := h
    refine ⟨_, PSs.nox ((pss_cons (ps_expr (pe_call (ok_check_parts T) (hr.mono (by decide)) (by rfl) T.m_check_parts T.F_check_parts.kp T.b_check_parts .nil pass0 (pa_cons (pv 1) pa_nil)))
      (pss_cons (ps_expr (pe_call (ok_check_ties T) (hr.mono (by decide)) (by rfl) T.m_check_ties T.F_check_ties.kp T.b_check_ties .nil pass0 (pa_cons (pv 2) (pa_cons (pv 1) pa_nil))))
      (pss_cons (ps_if (pt_not (pt_val (pe_call (ok_are_capitals T) (hr.mono (by decide)) (by rfl) T.m_are_capitals T.F_are_capitals.kp T.b_are_capitals .nil pass0 (pa_cons (pv 3) (pa_cons (pe_glob (v := .int 4) rfl T.m_MOST_HOOKS ⟨_, rfl⟩) pa_nil))))) (pss_one ps_never) pss_nil)
      (pss_cons (ps_expr (pe_call (ok_check_strings T) (hr.mono (by decide)) (by rfl) T.m_check_strings T.F_check_strings.kp T.b_check_strings .nil pass0 (pa_cons (pv 4) (pa_cons (pv 3) (pa_cons (pv 1) pa_nil)))))
      (pss_cons (ps_fld (pv 0) (pv 1) rfl)
      (pss_cons (ps_fld (pv 0) (pv 2) rfl)
      (pss_cons (ps_fld (pv 0) (pv 3) rfl)
      (pss_cons (ps_fld (pv 0) (pv 4) rfl)
      (pss_cons (ps_fld (pv 0) (pe_join pe_str (pe_lc (own := [("name", 5), ("_", 6)]) (g := gTup K 3 (gCons (gName 5) (gCons (gName 6) (gCons (gName 6) (gNil))))) (tt := tYes) rfl sc_Puppet_init.nd (pi_tup (pv 4)) (blkOk_by (own := [("name", 5), ("_", 6)]) (N := ["self", "parts", "ties", "hooks", "strings", "name", "_"]) (sc := defScope s_Puppet_init) (by decide +kernel)) (fun _ _ _ _ _ => by exact pg_tup (n := 3) rfl (pgs_cons (pg_name (i := 5) sc_Puppet_init.nd rfl (Or.inl rfl)) (pgs_cons (pg_name (i := 6) sc_Puppet_init.nd rfl (Or.inl rfl)) (pgs_cons (pg_name (i := 6) sc_Puppet_init.nd rfl (Or.inl rfl)) pgs_nil)))) (fun _ _ _ _ _ => pts_nil) (fun _ _ _ _ _ => by exact (pv 5)))) rfl)
      (pss_one (ps_fld (pv 0) (pe_call (ok_distances_of T) (hr.mono (by decide)) (by rfl) T.m_distances_of T.F_distances_of.kp T.b_distances_of .nil pass0 (pa_cons (pv 1) (pa_cons (pv 2) pa_nil))) rfl)))))))))))), ?_⟩
    walk_at "r"
    refine ⟨t, ps, rfl, ht, g.parts, fun H1 e1 => ?_⟩
    walk_at "r"
    refine ⟨u, t, es, ps, rfl, hu.same e1, seqT_same e1 ht, g.parts, g.ties, fun H2 e2 => ?_⟩
    have e12 := e1.trans e2
    walk_at "r"
    refine ⟨hk, rfl, g.caps, fun H3 e3 => ?_⟩
    have e13 := e12.trans e3
    refine ⟨true, rfl, iteF ?_⟩
    walk_at "r"
    have h4 := g.caps.few
    refine ⟨l, t, ls, hk, ps, rfl, hl.same e13, by omega, seqT_same e13 ht, g.lns, fun H4 e4 => ?_⟩
    have e14 := e13.trans e4
    walk_at "r"
    refine sf_leaf (e14 _ _ hp) T.cl_Puppet T.n_parts (by show 0 < 1000; decide) (show ("parts" : Str) ∉ ([] : List Str) by decide +kernel) fun H5 p5 b5 => ?_
    walk_at "r"
    refine sf_leaf p5 T.cl_Puppet T.n_ties (by show 1 < 1000; decide) (show ("ties" : Str) ∉ (["parts"] : List Str) by decide +kernel) fun H6 p6 b6 => ?_
    walk_at "r"
    refine sf_leaf p6 T.cl_Puppet T.n_hooks (by show 2 < 1000; decide) (show ("hooks" : Str) ∉ (["parts", "ties"] : List Str) by decide +kernel) fun H7 p7 b7 => ?_
    walk_at "r"
    refine sf_leaf p7 T.cl_Puppet T.n_strings (by show 3 < 1000; decide) (show ("strings" : Str) ∉ (["parts", "ties", "hooks"] : List Str) by decide +kernel) fun H8 p8 b8 => ?_
    have b48 := ((b5.trans b6).trans b7).trans b8
    have pH4 := e14 _ _ hp
    have l8 := But.rwsI b48 pH4 (hl.same e14)
    obtain ⟨as, hl8, ll, lrow⟩ := id l8
    walk_at "r"
    have l1 := g.lns.few
    have ll2 : as.length = ls.length := by rw [ll, List.length_map]
    refine ⟨⟨_, rfl⟩, ?_⟩
    walk_at "r"
    refine ⟨l, rfl, ⟨_, hl8⟩, cmS (walk_tup (xs := as.map V.ref)) (by rw [List.length_map]; omega) (fun G e => seqT_same e hl8) (fun i v _ => ∃ s, ls[i]? = some s ∧ v = .str s.1) (fun _ _ _ _ _ h => h) (fun i x H1 H2 hi e hy Q' kq => ?_) (fun D9 ys H9 n9 e9 h9 hn9 hP => ?_)⟩
    · obtain ⟨rfl, hx⟩ := hy
      obtain ⟨r, v, rfl, hv, hrr⟩ := rows_at ll lrow hx
      obtain ⟨s0, he, rfl⟩ := map_atL hv
      refine g_three (seqT_same e hrr) ⟨rfl, ?_⟩
      walk_at "r"
      exact kq _ _ (w_same _) ⟨s0, he, rfl⟩
    have ey := eq_map (ps := ls) (fun s => V.str s.1) (by rw [hn9, List.length_map, ll2]) hP
    have ey2 : ys = (ls.map fun s => s.1).map V.str := by rw [ey, List.map_map]; rfl
    have sm : ((ls.map fun s => s.1).map fun x => x.length).sum ≤ (ls.map fun s => s.1).length * 1 := sum_le fun x hx => by
      obtain ⟨s, hs, rfl⟩ := List.mem_map.mp hx
      obtain ⟨c, e, _⟩ := g.lns.let_ s hs
      rw [e]
      exact Nat.le_refl 1
    rw [List.length_map] at sm
    refine ⟨"", D9, ls.map fun s => s.1, rfl, rfl, .inl (by rw [← ey2]; exact SqL.of h9), ?_, ?_⟩
    · show _ + _ * 0 ≤ _
      omega
    walk_at "r"
    refine sf_leaf (e9 _ _ p8) T.cl_Puppet T.n_names (by show 4 < 1000; decide) (show ("names" : Str) ∉ (["parts", "ties", "hooks", "strings"] : List Str) by decide +kernel) fun H10 p10 b10 => ?_
    have b410 : But p H4 H10 := (b48.trans (.of e9)).trans b10
    have t10 := But.sqtI b410 pH4 (seqT_same e14 ht)
    have u10 := But.rwsI b410 pH4 (hu.same e14)
    have l10 := But.rwsI b410 pH4 (hl.same e14)
    walk_at "r"
    refine ⟨t, u, ps, es, rfl, t10, u10, g.parts.few, g.ties.few, fun D H11 n11 e11 d11 => ?_⟩
    walk_at "r"
    refine sf_leaf (e11 _ _ p10) T.cl_Puppet T.n_distances (by show 5 < 1000; decide) (show ("distances" : Str) ∉ (["parts", "ties", "hooks", "strings", "names"] : List Str) by decide +kernel) fun H12 p12 b12 => ?_
    have b412 : But p H4 H12 := (b410.trans (.of e11)).trans b12
    have b : But p H H12 := (But.of e14).trans b412
    have pD : D ≠ p := fun z => by
      rw [z, p10] at n11
      cases n11
    refine k H12 ⟨⟨dx, t, u, l, D, p12, But.sqtI b hp ht, But.rwsI b hp hu, But.rwsI b hp hl, ?_⟩, g⟩ b
    obtain ⟨kvs, q1, q2, q3⟩ := d11.ex
    exact ⟨kvs, b12 D _ pD q1, q2, q3⟩
theorem mk_leaf {C : Addr} {H : Hp} {Q : VK} {t u l : Addr} {ps : List Str} {es : List Tie3} {hk : Str} {ls : List Ln3} (ht : SqT K H t (ps.map V.str)) (hu : Rws K H u (es.map tieV)) (hl : Rws K H l (ls.map lnV)) (g : GoodPup ps es hk ls)
    (k : ∀ p H', H p = none → Same H H' → Pup K C H' p ps es hk ls → Q (.ref p) H') : MkL C (spPinit K C) E0 [.ref t, .ref u, .str hk, .ref l] H Q := by
  intro p dx hp hdx hne
  have e0 : Same H (upd (upd H dx (.own p)) p (.ins C dx [])) := fun c o q => by
    rw [upd_ne (ne_of_none q hp), upd_ne (ne_of_none q hdx)]
    exact q
  refine ⟨p, dx, t, u, l, ps, es, hk, ls, rfl, upd_same, seqT_same e0 ht, hu.same e0, hl.same e0, g, fun H' r b => ⟨rfl, ?_⟩⟩
  exact k p H' hp (fun c o q => b c o (ne_of_none q hp) (e0 _ _ q)) r
/-! what a puppet tells of itself -/
theorem pfs_look (t u : Addr) (hk : Str) (l : Addr) (nm : Str) (D : Addr) : (pfs t u hk l nm D).lookup ("parts" : Str) = some (.ref t) ∧ (pfs t u hk l nm D).lookup ("ties" : Str) = some (.ref u) ∧ (pfs t u hk l nm D).lookup ("hooks" : Str) = some (.str hk) ∧ (pfs t u hk l nm D).lookup ("strings" : Str) = some (.ref l) ∧ (pfs t u hk l nm D).lookup ("names" : Str) = some (.str nm) ∧ (pfs t u hk l nm D).lookup ("distances" : Str) = some (.ref D) := by
  have k1 : (("ties" : Str) == ("parts" : Str)) = false := by decide +kernel
  have k2 : (("hooks" : Str) == ("parts" : Str)) = false := by decide +kernel
  have k3 : (("hooks" : Str) == ("ties" : Str)) = false := by decide +kernel
  have k4 : (("strings" : Str) == ("parts" : Str)) = false := by decide +kernel
  have k5 : (("strings" : Str) == ("ties" : Str)) = false := by decide +kernel
  have k6 : (("strings" : Str) == ("hooks" : Str)) = false := by decide +kernel
  have k7 : (("names" : Str) == ("parts" : Str)) = false := by decide +kernel
  have k8 : (("names" : Str) == ("ties" : Str)) = false := by decide +kernel
  have k9 : (("names" : Str) == ("hooks" : Str)) = false := by decide +kernel
  have k10 : (("names" : Str) == ("strings" : Str)) = false := by decide +kernel
  have k11 : (("distances" : Str) == ("parts" : Str)) = false := by decide +kernel
  have k12 : (("distances" : Str) == ("ties" : Str)) = false := by decide +kernel
  have k13 : (("distances" : Str) == ("hooks" : Str)) = false := by decide +kernel
  have k14 : (("distances" : Str) == ("strings" : Str)) = false := by decide +kernel
  have k15 : (("distances" : Str) == ("names" : Str)) = false := by decide +kernel
  refine ⟨?_, ?_, ?_, ?_, ?_, ?_⟩ <;> simp [pfs, List.lookup, k1, k2, k3, k4, k5, k6, k7, k8, k9, k10, k11, k12, k13, k14, k15]
theorem pfs_no (t u : Addr) (hk : Str) (l : Addr) (nm : Str) (D : Addr) {m : Str} (h : m ∉ (["parts", "ties", "hooks", "strings", "names", "distances"] : List Str)) : (pfs t u hk l nm D).lookup m = none := by
  rw [List.lookup_eq_none_iff]
  intro kv hkv
  have : kv.1 ∈ (pfs t u hk l nm D).map (·.1) := List.mem_map.mpr ⟨kv, hkv, rfl⟩
  rw [bne_iff_ne]
  intro z
  exact h (z ▸ this)
theorem parts_leaf (T : Txt K mg a) {H : Hp} {Q : VK} {p : Addr} {ps : List Str} {es : List Tie3} {hk : Str} {ls : List Ln3} (r : Pup K a.C_Puppet H p ps es hk ls) (k : ∀ t, SqT K H t (ps.map V.str) → Q (.ref t) H) : Fl K "parts" (.ref p) H Q := by
  obtain ⟨dx, t, u, l, D, h1, h2, _⟩ := r.ob
  exact ⟨p, _, dx, _, _, rfl, h1, T.cl_Puppet, T.n_parts, (pfs_look ..).1, k t h2⟩
theorem hooks_leaf (T : Txt K mg a) {H : Hp} {Q : VK} {p : Addr} {ps : List Str} {es : List Tie3} {hk : Str} {ls : List Ln3} (r : Pup K a.C_Puppet H p ps es hk ls) (k : Q (.str hk) H) : Fl K "hooks" (.ref p) H Q := by
  obtain ⟨dx, t, u, l, D, h1, _⟩ := r.ob
  exact ⟨p, _, dx, _, _, rfl, h1, T.cl_Puppet, T.n_hooks, (pfs_look ..).2.2.1, k⟩
theorem strings_leaf (T : Txt K mg a) {H : Hp} {Q : VK} {p : Addr} {ps : List Str} {es : List Tie3} {hk : Str} {ls : List Ln3} (r : Pup K a.C_Puppet H p ps es hk ls) (k : ∀ l, Rws K H l (ls.map lnV) → Q (.ref l) H) : Fl K "strings" (.ref p) H Q := by
  obtain ⟨dx, t, u, l, D, h1, _, _, h4, _⟩ := r.ob
  exact ⟨p, _, dx, _, _, rfl, h1, T.cl_Puppet, T.n_strings, (pfs_look ..).2.2.2.1, k l h4⟩
theorem dists_leaf (T : Txt K mg a) {H : Hp} {Q : VK} {p : Addr} {ps : List Str} {es : List Tie3} {hk : Str} {ls : List Ln3} (r : Pup K a.C_Puppet H p ps es hk ls) (k : ∀ D, Dt H D (dist ps es) 400 → Q (.ref D) H) : Fl K "distances" (.ref p) H Q := by
  obtain ⟨dx, t, u, l, D, h1, _, _, _, h5⟩ := r.ob
  exact ⟨p, _, dx, _, _, rfl, h1, T.cl_Puppet, T.n_distances, (pfs_look ..).2.2.2.2.2, k D h5⟩
theorem pup_ml {C : Addr} {H : Hp} {p : Addr} {ps : List Str} {es : List Tie3} {hk : Str} {ls : List Ln3} {m : Str} {R : Prop} (r : Pup K C H p ps es hk ls) (h : m ∉ (["parts", "ties", "hooks", "strings", "names", "distances"] : List Str)) (k : R) : Ml C m (.ref p) H R := by
  obtain ⟨dx, t, u, l, D, h1, _⟩ := r.ob
  exact ⟨p, dx, _, rfl, h1, pfs_no _ _ _ _ _ _ h, k⟩
/-- the distances are exact -/
theorem dist_exact {ps : List Str} {es : List Tie3} (g1 : GoodParts ps) (g : GoodTies ps es) : RPath.Exact es ps (dist ps es) :=
  RPath.passes_exact g.pos (fun t ht => ⟨g.in1 t ht, g.in2 t ht⟩) (RPath.ini_start g.ne g.apart)
end
end RK7


namespace RK7
open PySem PySem.Spec L2 RK RZ StX PyProof.Rows
/-! ### distances and ways, asked -/
section
variable {P : Program} {w : World} {K : PySem.W.Frag} {mg : Str → Option Value} {base : Heap} {a : Ad}
def spDistance (K : PySem.W.Frag) (C : Addr) : Sp := fun vs H Q _ => ∃ (p : Addr) (x y : Str) (ps : List Str) (es : List Tie3) (hk : Str) (ls : List Ln3), vs = [.ref p, .str x, .str y] ∧ Pup K C H p ps es hk ls ∧ x ∈ ps ∧ y ∈ ps ∧ ∀ H', Same H H' → Q (opt (dist ps es x y)) H'
theorem ok_Puppet_distance (T : Txt K mg a) : FnOk P w K mg base CX0 2 a.f_Puppet_distance a.d_Puppet_distance ["self", "part", "other"] (spDistance K a.C_Puppet) := by
  refine T.F_Puppet_distance.ok sc_Puppet_distance (fun vs H Q E h => ?_) (fun cdv A outer s H vs Q E hr h => ?_)
  · obtain ⟨p, x, y, ps, es, hk, ls, rfl, _⟩ := h
    rfl
  · obtain ⟨p, x, y, ps, es, hk, ls, rfl, r, hx, hy, k⟩ := h
    refine ⟨_, (pss_cons (ps_for PassesOwn.never rfl (pi_tup (pe_tup (pa_cons (pv 1) (pa_cons (pv 2) pa_nil)))) (pg_name (i := 3) sc_Puppet_distance.nd rfl (Or.inl rfl)) (pss_one (ps_if (pt_not (pt_val (pe_call (ok_is_one_of T) (hr.mono (by decide)) (by rfl) T.m_is_one_of T.F_is_one_of.kp T.b_is_one_of .nil pass0 (pa_cons (pv 3) (pa_cons (pe_fld (pv 0) rfl) pa_nil))))) (pss_one ps_never) pss_nil)))
      (pss_one (ps_ret (pe_dget1 (hu_of hr) (pe_fld (pv 0) rfl) (pe_tup (pa_cons (pv 1) (pa_cons (pv 2) pa_nil))) ⟨rfl, rfl, rfl, rfl⟩)))), ?_⟩
    walk_at "r"
    refine w_newT (by show 2 ≤ 100000; decide) fun t1 H1 n1 e1 h1 => ?_
    refine ⟨t1, rfl, ⟨_, SqT.of h1⟩, for_leaf (walk_tup (xs := [.str x, .str y])) (fun i σ' G => Same H G ∧ G t1 = some (.tup [.str x, .str y]) ∧ ∃ v3 : Option V, σ' = [some (.ref p), some (.str x), some (.str y), v3]) ⟨e1, h1, _, rfl⟩ (fun i σ' G _ ⟨_, h, _⟩ => SqT.of h) ?_ ?_⟩
    · rintro i z σ' G G' hi ⟨e, h, v3, rfl⟩ ⟨rfl, hz⟩
      obtain ⟨q, rfl, mq⟩ : ∃ q : Str, z = .str q ∧ q ∈ ps := by
        match i, hz with
        | 0, hz => cases hz; exact ⟨x, rfl, hx⟩
        | 1, hz => cases hz; exact ⟨y, rfl, hy⟩
      walk_at "r"
      refine parts_leaf T (r.same e) fun t ht => ?_
      walk_at "r"
      refine oneOf_leaf ht fun G2 e2 => ?_
      rw [decide_eq_true mq]
      refine ⟨true, rfl, iteF ?_⟩
      walk_at "r"
      exact ⟨e.trans e2, e2 _ _ h, _, rfl⟩
    · rintro σ' G ⟨e, h, v3, rfl⟩
      walk_at "r"
      refine dists_leaf T (r.same e) fun D hD => ?_
      obtain ⟨kvs, q1, q2, q3⟩ := hD.ex
      refine ⟨D, rfl, isd_t q1, ?_⟩
      walk_at "r"
      refine w_newT (by show 2 ≤ 100000; decide) fun t2 G2 n2 e2 h2 => ?_
      exact get_leaf (e2 _ _ q1) q2 h2 (k _ (e.trans e2))
/-- what pulls a part: the strings with a distance to it -/
def pull (ps : List Str) (es : List Tie3) (q : Str) (s : Ln3) : Option (Str × Str × Int) := (dist ps es s.2.2 q).map fun x => (s.1, s.2.1, x)
def puV (t : Str × Str × Int) : List V := [.str t.1, .str t.2.1, .int t.2.2]
def spPulls (K : PySem.W.Frag) (C : Addr) : Sp := fun vs H Q _ => ∃ (p : Addr) (q : Str) (ps : List Str) (es : List Tie3) (hk : Str) (ls : List Ln3), vs = [.ref p, .str q] ∧ Pup K C H p ps es hk ls ∧ q ∈ ps ∧
  ∀ D ys H', Same H H' → H' D = some (.lst ys) → ys.length = (ls.filterMap (pull ps es q)).length → (∀ (i : Nat) (v : V) (u : Str × Str × Int), ys[i]? = some v → (ls.filterMap (pull ps es q))[i]? = some u → ∃ r, v = .ref r ∧ SqT K H' r (puV u)) → Q (.ref D) H'
theorem ok_Puppet_pulls (T : Txt K mg a) : FnOk P w K mg base CX0 2 a.f_Puppet_pulls a.d_Puppet_pulls ["self", "part"] (spPulls K a.C_Puppet) := by
  refine T.F_Puppet_pulls.ok sc_Puppet_pulls (fun vs H Q E h => ?_) (fun cdv A outer s H vs Q E hr h => ?_)
  · obtain ⟨p, q, ps, es, hk, ls, rfl, _⟩ := h
    rfl
  · obtain ⟨p, q, ps, es, hk, ls, rfl, r, mq, k⟩ := h
    have few := r.good.lns.few
    refine ⟨_, (pss_cons (ps_if (pt_not (pt_val (pe_call (ok_is_one_of T) (hr.mono (by decide)) (by rfl) T.m_is_one_of T.F_is_one_of.kp T.b_is_one_of .nil pass0 (pa_cons (pv 1) (pa_cons (pe_fld (pv 0) rfl) pa_nil))))) (pss_one ps_never) pss_nil)
      (pss_cons (ps_setLc (i := 2) (own := [("name", 3), ("hook", 4), ("end", 5)]) (g := gTup K 3 (gCons (gName 3) (gCons (gName 4) (gCons (gName 5) (gNil))))) (tt := tYes) rfl sc_Puppet_pulls.nd rfl rfl (sw_true rfl rfl rfl (by decide +kernel)) (pi_tup (pe_fld (pv 0) rfl)) (blkOk_by (own := [("name", 3), ("hook", 4), ("end", 5)]) (N := ["self", "part", "ways", "name", "hook", "end", "way"]) (sc := defScope s_Puppet_pulls) (by decide +kernel)) (fun _ _ _ _ _ => by exact pg_tup (n := 3) rfl (pgs_cons (pg_name (i := 3) sc_Puppet_pulls.nd rfl (Or.inl rfl)) (pgs_cons (pg_name (i := 4) sc_Puppet_pulls.nd rfl (Or.inl rfl)) (pgs_cons (pg_name (i := 5) sc_Puppet_pulls.nd rfl (Or.inl rfl)) pgs_nil)))) (fun _ _ _ _ _ => pts_nil) (fun _ _ _ _ _ => by exact (pe_tup (pa_cons (pv 3) (pa_cons (pv 4) (pa_cons (pe_dget1 (by exact hu_of hr) (show PE _ _ (tFld K _ _) from pe_fld (pv 0) (by rfl)) (pe_tup (pa_cons (pv 5) (pa_cons (pv 1) pa_nil))) ⟨by rfl, by rfl, by rfl, by rfl⟩) pa_nil))))))
      (pss_one (ps_ret (pe_lc (own := [("way", 6)]) (g := gName 6) rfl sc_Puppet_pulls.nd (pi_list (pv 2)) (blkOk_by (own := [("way", 6)]) (N := ["self", "part", "ways", "name", "hook", "end", "way"]) (sc := defScope s_Puppet_pulls) (by decide +kernel)) (fun _ _ _ _ _ => pg_name (i := 6) sc_Puppet_pulls.nd rfl (Or.inl rfl)) (fun _ _ _ _ _ => (pts_one (pt_cmpR op_notN (pe_ix (show IxR _ (rIxT K) from ix_tup) (pv 6) pe_int (fun _ _ => rfl)) pe_non (nomark _)))) (fun _ _ _ _ _ => by exact (pv 6))))))), ?_⟩
    walk_at "r"
    refine parts_leaf T r fun t ht => ?_
    walk_at "r"
    refine oneOf_leaf ht fun H1 e1 => ?_
    rw [decide_eq_true mq]
    refine ⟨true, rfl, iteF ?_⟩
    walk_at "r"
    refine strings_leaf T (r.same e1) fun l hl => ?_
    obtain ⟨as, hl1, ll, lrow⟩ := hl
    have ll2 : as.length = ls.length := by rw [ll, List.length_map]
    refine ⟨l, rfl, ⟨_, hl1⟩, cmS (walk_tup (xs := as.map V.ref)) (by rw [List.length_map]; omega) (fun G e => seqT_same e hl1) (fun i v G => ∃ s r, ls[i]? = some s ∧ v = .ref r ∧ SqT K G r [.str s.1, .str s.2.1, opt (dist ps es s.2.2 q)]) (fun i v G G' e ⟨s, r, h1, h2, h3⟩ => ⟨s, r, h1, h2, e.sqt h3⟩) (fun i x G G' hi e hy Q' kq => ?_) (fun D2 ys H2 n2 e2 h2 hn2 hP => ?_)⟩
    · obtain ⟨rfl, hx⟩ := hy
      obtain ⟨c, v, rfl, hv, hrr⟩ := rows_at ll lrow hx
      obtain ⟨s0, he, rfl⟩ := map_atL hv
      refine g_three (seqT_same e hrr) ⟨rfl, ?_⟩
      walk_at "r"
      refine dists_leaf T ((r.same e1).same e) fun D hD => ?_
      obtain ⟨kvs, q1, q2, q3⟩ := hD.ex
      refine ⟨D, rfl, isd_t q1, ?_⟩
      walk_at "r"
      refine w_newT (by show 2 ≤ 100000; decide) fun t3 G2 n3 e3 h3 => ?_
      refine get_leaf (e3 _ _ q1) q2 h3 ?_
      walk_at "r"
      exact w_newT (by show 3 ≤ 100000; decide) fun t4 G3 n4 e4 h4 => kq _ _ (e3.trans e4) ⟨s0, t4, he, rfl, SqT.of h4⟩
    rw [List.length_map, ll2] at hn2
    walk_at "r"
    refine ⟨D2, rfl, ⟨ys, .inl (.inl h2)⟩, cmF (walk_list (xs := ys)) (by omega) (fun G e => .inl (.inl (e _ _ h2))) ls hn2.symm (pull ps es q) (fun v u G => ∃ r, v = .ref r ∧ SqT K G r (puV u)) (fun v u G G' e ⟨r, h1, h3⟩ => ⟨r, h1, e.sqt h3⟩) (fun i x s G G' hi e hy Q' N kq kn => ?_) (fun D3 zs H3 n3 e3 h3 hn3 hR => ?_)⟩
    · obtain ⟨rfl, hx⟩ := hy
      obtain ⟨s0, c, h4, rfl, h5⟩ := hP i x hx
      obtain rfl : s = s0 := by rw [hi] at h4; cases h4; rfl
      walk_at "r"
      cases z : dist ps es s.2.2 q with
      | none =>
        rw [z] at h5
        refine ⟨rfl, ?_⟩
        walk_at "r"
        refine ⟨c, _, 2, .non, rfl, rfl, seqT_same e h5, rfl, ?_⟩
        walk_at "r"
        exact ⟨rfl, false, rfl, iteF (kn (by show (dist ps es s.2.2 q).map _ = none; rw [z]; rfl) _ (Same.refl _))⟩
      | some d =>
        rw [z] at h5
        refine ⟨rfl, ?_⟩
        walk_at "r"
        refine ⟨c, _, 2, .int d, rfl, rfl, seqT_same e h5, rfl, ?_⟩
        walk_at "r"
        refine ⟨rfl, true, rfl, iteT ?_⟩
        walk_at "r"
        exact kq _ (s.1, s.2.1, d) _ (by show (dist ps es s.2.2 q).map _ = _; rw [z]; rfl) (Same.refl _) ⟨c, rfl, seqT_same e h5⟩
    exact k D3 zs H3 ((e1.trans e2).trans e3) h3 hn3 hR
def hookers (ps : List Str) (es : List Tie3) (q : Str) (ls : List Ln3) : List Str := (ls.filterMap (pull ps es q)).map fun t => t.2.1
def spHooksTo (K : PySem.W.Frag) (C : Addr) : Sp := fun vs H Q _ => ∃ (p : Addr) (q : Str) (ps : List Str) (es : List Tie3) (hk : Str) (ls : List Ln3), vs = [.ref p, .str q] ∧ Pup K C H p ps es hk ls ∧ q ∈ ps ∧
  ∀ D H', Same H H' → H' D = some (.lst ((hookers ps es q ls).map V.str)) → Q (.ref D) H'
theorem ok_Puppet_hooks_to (T : Txt K mg a) : FnOk P w K mg base CX0 3 a.f_Puppet_hooks_to a.d_Puppet_hooks_to ["self", "part"] (spHooksTo K a.C_Puppet) := by
  refine T.F_Puppet_hooks_to.ok sc_Puppet_hooks_to (fun vs H Q E h => ?_) (fun cdv A outer s H vs Q E hr h => ?_)
  · obtain ⟨p, q, ps, es, hk, ls, rfl, _⟩ := h
    rfl
  · obtain ⟨p, q, ps, es, hk, ls, rfl, r, mq, k⟩ := h
    have few := r.good.lns.few
    refine ⟨_, (pss_one (ps_ret (pe_lc (own := [("_", 2), ("hook", 3)]) (g := gTup K 3 (gCons (gName 2) (gCons (gName 3) (gCons (gName 2) (gNil))))) (tt := tYes) rfl sc_Puppet_hooks_to.nd (pi_list (pe_meth (pv 0) T.cl_Puppet T.me_Puppet_pulls (ok_Puppet_pulls T) (hr.mono (by decide)) T.b_Puppet_pulls .nil pass0 (pa_cons (pv 1) pa_nil))) (blkOk_by (own := [("_", 2), ("hook", 3)]) (N := ["self", "part", "_", "hook"]) (sc := defScope s_Puppet_hooks_to) (by decide +kernel)) (fun _ _ _ _ _ => by exact pg_tup (n := 3) rfl (pgs_cons (pg_name (i := 2) sc_Puppet_hooks_to.nd rfl (Or.inl rfl)) (pgs_cons (pg_name (i := 3) sc_Puppet_hooks_to.nd rfl (Or.inl rfl)) (pgs_cons (pg_name (i := 2) sc_Puppet_hooks_to.nd rfl (Or.inl rfl)) pgs_nil)))) (fun _ _ _ _ _ => pts_nil) (fun _ _ _ _ _ => by exact (pv 3))))), ?_⟩
    walk_at "r"
    refine pup_ml r (by decide) ?_
    walk_at "r"
    refine ⟨p, q, ps, es, hk, ls, rfl, r, mq, fun D ys H1 e1 h1 hn hP => ?_⟩
    have hn2 : ys.length ≤ 6 := by rw [hn]; exact Nat.le_trans (List.length_filterMap_le _ _) few
    refine ⟨D, rfl, ⟨ys, .inl (.inl h1)⟩, cmS (walk_list (xs := ys)) (by omega) (fun G e => .inl (.inl (e _ _ h1))) (fun i v G => ∃ u : Str × Str × Int, (ls.filterMap (pull ps es q))[i]? = some u ∧ v = .str u.2.1) (fun i v G G' e h => h) (fun i x G G' hi e hy Q' kq => ?_) (fun D2 zs H2 n2 e2 h2 hn2 hR => ?_)⟩
    · obtain ⟨rfl, hx⟩ := hy
      have hi2 : i < (ls.filterMap (pull ps es q)).length := by omega
      obtain ⟨c, rfl, h5⟩ := hP i x _ hx (List.getElem?_eq_getElem hi2)
      refine g_three (seqT_same e h5) ⟨rfl, ?_⟩
      walk_at "r"
      exact kq _ _ (Same.refl _) ⟨_, List.getElem?_eq_getElem hi2, rfl⟩
    refine k D2 H2 (e1.trans e2) ?_
    rw [h2, eq_map (ps := ls.filterMap (pull ps es q)) (fun u => V.str u.2.1) (by omega) hR, hookers, List.map_map]
    rfl
def spHasWay (K : PySem.W.Frag) (C : Addr) : Sp := fun vs H Q _ => ∃ (p : Addr) (c : Nat) (q : Str) (ps : List Str) (es : List Tie3) (hk : Str) (ls : List Ln3), vs = [.ref p, .str ⟨#[c]⟩, .str q] ∧ Pup K C H p ps es hk ls ∧ q ∈ ps ∧ c ∈ hk.cps.toList ∧
  ∀ H', Same H H' → Q (.bl (decide (⟨#[c]⟩ ∈ hookers ps es q ls))) H'
theorem ok_Puppet_has_way (T : Txt K mg a) : FnOk P w K mg base CX0 4 a.f_Puppet_has_way a.d_Puppet_has_way ["self", "hook", "part"] (spHasWay K a.C_Puppet) := by
  refine T.F_Puppet_has_way.ok sc_Puppet_has_way (fun vs H Q E h => ?_) (fun cdv A outer s H vs Q E hr h => ?_)
  · obtain ⟨p, c, q, ps, es, hk, ls, rfl, _⟩ := h
    rfl
  · obtain ⟨p, c, q, ps, es, hk, ls, rfl, r, mq, mc, k⟩ := h
    refine ⟨_, (pss_cons (ps_if (pt_not (pt_val (pe_call (ok_is_one_ofS T) (hr.mono (by decide)) (by rfl) T.m_is_one_of T.F_is_one_of.kp T.b_is_one_of .nil pass0 (pa_cons (pv 1) (pa_cons (pe_fld (pv 0) rfl) pa_nil))))) (pss_one ps_never) pss_nil)
      (pss_one (ps_ret (pe_cmpR op_in_seq (pv 1) (pe_meth (pv 0) T.cl_Puppet T.me_Puppet_hooks_to (ok_Puppet_hooks_to T) (hr.mono (by decide)) T.b_Puppet_hooks_to .nil pass0 (pa_cons (pv 2) pa_nil)) (by rfl))))), ?_⟩
    walk_at "r"
    refine hooks_leaf T r ?_
    walk_at "r"
    refine oneOfS_leaf (by have := r.good.caps.few; omega) fun H1 e1 => ?_
    rw [decide_eq_true mc]
    refine ⟨true, rfl, iteF ?_⟩
    walk_at "r"
    refine pup_ml (r.same e1) (by decide) ?_
    walk_at "r"
    refine ⟨p, q, ps, es, hk, ls, rfl, r.same e1, mq, fun D H2 e2 h2 => ?_⟩
    exact in_leaf (.inl (.inl (.inl h2))) (k _ (e1.trans e2))
end
end RK7


namespace RK7
open PySem PySem.Spec L2 RK RZ StX PyProof.Rows
section
variable {P : Program} {w : World} {K : PySem.W.Frag} {mg : Str → Option Value} {base : Heap} {a : Ad}
/-! ### the bag and its draws -/
def spBag (K : PySem.W.Frag) : Sp := fun vs H Q _ => ∃ (c : Addr) (ns : List Int) (i : Nat), vs = [.ref c, .int i] ∧ SqL K H c (ns.map V.int) ∧ i < 100 ∧ ∀ p H', H p = none → Same H H' → Bag H' p → Q (.ref p) H'
theorem ok_bag (T : Txt K mg a) : FnOk P w K mg base CX0 1 a.f_bag a.d_bag ["_law_cells", "_law_k"] (spBag K) := by
  refine T.F_bag.ok sc_bag (fun vs H Q E h => ?_) (fun cdv A outer s H vs Q E hr h => ?_)
  · obtain ⟨c, ns, i, rfl, _⟩ := h
    rfl
  · obtain ⟨c, ns, i, rfl, hS, hi, k⟩ := h
    refine ⟨_, (pss_cons (ps_par (i := 2) (j := 3) (by rfl) sc_bag.nd rfl rfl (by decide) rfl rfl (pa_cons (pe_ifExp (pt_cmpR op_lt (pv 1) (pe_callB cr_len (by rfl) T.z_len PySem.boot_len (pa_cons (pv 0) pa_nil)) (nomark _)) (pe_callTy cr_int1 (by rfl) T.z_int (by decide +kernel) (pa_cons (pe_ix ix_list (pv 0) (pv 1) (fun _ _ => rfl)) pa_nil)) pe_int) (pa_cons (pe_op op_mul pe_int (pe_op op_add (pv 1) pe_int)) pa_nil)) (by rfl))
      (pss_cons (ps_for PassesOwn.never rfl (pi_list (pe_slice sl_list (pv 0) po_none (po_some pe_int))) (pg_name (i := 4) sc_bag.nd rfl (Or.inl rfl)) (pss_one (ps_set (i := 3) sc_bag.nd rfl (Or.inl rfl) (pe_op op_mod (pe_callTy cr_int1 (by rfl) T.z_int (by decide +kernel) (pa_cons (pe_op op_add (pe_op op_add (pe_op op_mul (pv 3) pe_int) (pe_op op_mod (pe_callTy cr_int1 (by rfl) T.z_int (by decide +kernel) (pa_cons (pv 4) pa_nil)) pe_int)) (pe_op op_mul pe_int (pv 1))) pa_nil)) pe_int))))
      (pss_cons (ps_set (i := 5) sc_bag.nd rfl (Or.inl rfl) (pe_ifExp (PW.pt (pw_or (pt_cmpR op_lt (pv 2) pe_int (nomark _)) (pw_or1 (pt_cmpR op_ge (pv 2) (pe_op op_pow pe_int pe_int) (nomark _))))) (pe_callB cr_abs (by rfl) T.z_abs (by decide +kernel) (pa_cons (pv 2) pa_nil)) pe_int))
      (pss_one (ps_ret (pe_lst (pa_cons (pv 5) (pa_cons (pe_op op_mod (pe_callTy cr_int1 (by rfl) T.z_int (by decide +kernel) (pa_cons (pe_op op_add (pv 3) (pe_op op_mul pe_int (pe_op op_mod (pe_callTy cr_int1 (by rfl) T.z_int (by decide +kernel) (pa_cons (pv 2) pa_nil)) pe_int))) pa_nil)) pe_int) (pa_cons pe_int pa_nil))))))))), ?_⟩
    walk_at "r"
    refine w_cutI (fun _ => True) (fun Q' all => ?_) (fun z _ => ?_)
    · refine w_tIf ?_
      walk_at "r"
      refine w_lenL hS ?_
      walk_at "r"
      refine w_iteD (fun c => ?_) (fun c => ?_)
      · walk_at "r"
        have hi2 : i < ns.length := by rw [List.length_map] at c; omega
        refine ⟨_, _, (i : Int), .int (ns[i]), rfl, rfl, hS, atI_nat (by rw [List.getElem?_map, List.getElem?_eq_getElem hi2]; rfl), ?_⟩
        walk_at "r"
        exact all _ trivial
      · walk_at "r"
        exact all _ trivial
    walk_at "r"
    -- the first seven numbers
    obtain ⟨zs, hz⟩ : ∃ zs : List Int, cutV (ns.map V.int) none (some 7) = zs.map V.int := by
      unfold cutV
      exact ⟨(ns.drop _).take _, by rw [List.map_take, List.map_drop]⟩
    refine ⟨c, _, rfl, hS, fun p hp => ⟨p, rfl, ⟨_, SqL.of upd_same⟩, for_leaf (walk_list (K := K) (a := p) (xs := zs.map V.int))
      (fun j σ' H' => H' = upd H p (.lst (cutV (ns.map V.int) none (some 7))) ∧ ∃ (sd : Int) (v : Option V), σ' = [some (.ref c), some (.int i), some (.int z), some (.int sd), v, none]) ⟨rfl, _, _, rfl⟩ (fun j σ' H' _ ⟨e, _⟩ => ?_) ?_ ?_⟩⟩
    · rw [e, hz]
      exact SqL.of upd_same
    · rintro j y σ' H' H2 hj2 ⟨e, sd, v, rfl⟩ ⟨rfl, hj⟩
      subst e
      obtain ⟨x, hx, rfl⟩ : ∃ x, zs[j]? = some x ∧ V.int x = y := by
        rw [List.getElem?_map] at hj
        cases q : zs[j]? with
        | none => rw [q] at hj; cases hj
        | some x => rw [q] at hj; exact ⟨x, rfl, Option.some.inj hj⟩
      walk_at "r"
      exact ⟨rfl, _, _, rfl⟩
    · rintro σ' H' ⟨e, sd, v, rfl⟩
      subst e
      walk_at "r"
      refine w_cutI (fun _ => True) (fun Q' all => ?_) (fun f _ => ?_)
      · refine w_tIf ?_
        walk_at "r"
        refine w_ite (fun _ => ?_) (fun _ => ?_)
        · refine iteT ?_
          walk_at "r"
          exact all _ trivial
        · walk_at "r"
          refine w_ite (fun _ => ?_) (fun _ => ?_)
          · walk_at "r"
            exact all _ trivial
          · walk_at "r"
            exact all _ trivial
      walk_at "r"
      refine w_newL (by show 3 ≤ 100000; decide) fun q H2 hq e2 h2 => ?_
      refine k q H2 ?_ ((w_new hp).trans e2) ⟨_, _, _, h2⟩
      exact (w_new hp).free hq
def spDraw : Sp := fun vs H Q _ => ∃ (b : Addr) (n : Int), vs = [.ref b, .int n] ∧ Bag H b ∧ 0 < n ∧ n ≤ 10 ^ 12 ∧ ∀ r H', 0 ≤ r → r < n → Kp b H H' → Q (.int r) H'
theorem ok_draw (T : Txt K mg a) : FnOk P w K mg base CX0 1 a.f_draw a.d_draw ["_law_bag_here", "_law_wide"] spDraw := by
  refine T.F_draw.ok sc_draw (fun vs H Q E h => ?_) (fun cdv A outer s H vs Q E hr h => ?_)
  · obtain ⟨b, n, rfl, _⟩ := h
    rfl
  · obtain ⟨b, n, rfl, hb, h0, h1, k⟩ := h
    obtain ⟨f, sd, m, hH⟩ := id hb
    refine ⟨_, (pss_cons (ps_asg (pe_op op_add (pe_ix ix_list (pv 0) pe_int (fun _ _ => rfl)) pe_int) (pg_sub (pv 0) pe_int set_list))
      (pss_cons (ps_if (pt_cmpR op_gt (pe_ix ix_list (pv 0) pe_int (fun _ _ => rfl)) pe_int (nomark _)) (pss_cons (ps_set (i := 2) sc_draw.nd rfl (Or.inl rfl) (pe_op op_mod (pe_callTy cr_int1 (by rfl) T.z_int (by decide +kernel) (pa_cons (pe_ix ix_list (pv 0) pe_int (fun _ _ => rfl)) pa_nil)) (pv 1)))
      (pss_cons (ps_asg (pe_op op_fdivW (pe_ix ix_list (pv 0) pe_int (fun _ _ => rfl)) (pv 1)) (pg_sub (pv 0) pe_int set_list))
      (pss_one (ps_ret (pv 2))))) pss_nil)
      (pss_cons (ps_set (i := 3) sc_draw.nd rfl (Or.inl rfl) (pe_op op_add (pe_callTy cr_int1 (by rfl) T.z_int (by decide +kernel) (pa_cons (pe_ix ix_list (pv 0) pe_int (fun _ _ => rfl)) pa_nil)) (pe_op op_mul pe_int (pe_ix ix_list (pv 0) pe_int (fun _ _ => rfl)))))
      (pss_cons (ps_set (i := 4) sc_draw.nd rfl (Or.inl rfl) (pe_op op_add (pe_op op_mod (pe_callTy cr_int1 (by rfl) T.z_int (by decide +kernel) (pa_cons (pv 3) pa_nil)) pe_int) pe_int))
      (pss_cons (ps_asg (pe_op op_mod (pe_callTy cr_int1 (by rfl) T.z_int (by decide +kernel) (pa_cons (pe_op op_add (pe_op op_add (pe_op op_mul (pv 3) (pv 4)) (pe_op op_mul pe_int (pe_ix ix_list (pv 0) pe_int (fun _ _ => rfl)))) pe_int) pa_nil)) pe_int) (pg_sub (pv 0) pe_int set_list))
      (pss_one (ps_ret (pe_op op_mod (pe_op op_fdivW (pe_callTy cr_int1 (by rfl) T.z_int (by decide +kernel) (pa_cons (pe_ix ix_list (pv 0) pe_int (fun _ _ => rfl)) pa_nil)) pe_int) (pv 1))))))))), ?_⟩
    have c1 : CDivW f n := wide_div (b := 64) h0 (Nat.lt_of_le_of_lt (show n.natAbs ≤ 10 ^ 12 by omega) (by decide)) (by decide) (by decide)
    have c2 : CDivW 0 523 := wide_div (b := 64) (by decide) (by decide) (by decide) (by decide)
    walk_at "r"
    refine w_iteD (fun c => ?_) (fun c => ?_)
    all_goals
      walk_at "r"
      refine k _ _ (Int.emod_nonneg _ (by omega)) (Int.emod_lt_of_pos _ h0) ?_
      rw [upd_upd]
      exact kp_upd hb
theorem draw_leaf {H : Hp} {Q : VK} {E : XK} {b : Addr} {n : Int} (hb : Bag H b) (h0 : 0 < n) (h1 : n ≤ 10 ^ 12) (k : ∀ r H', 0 ≤ r → r < n → Kp b H H' → Q (.int r) H') : spDraw [.ref b, .int n] H Q E := ⟨b, n, rfl, hb, h0, h1, k⟩
theorem KpSqL {H H' : Hp} {b l : Addr} {xs : List V} (k : Kp b H H') (ne : l ≠ b) (h : SqL K H l xs) : SqL K H' l xs := by
  rcases h with (h | ⟨o, h⟩) | h
  · exact .inl (.inl (k.keep _ _ ne h))
  · exact .inl (.inr ⟨o, k.keep _ _ ne h⟩)
  · exact .inr h
/-- one of the list's values, at a drawn place -/
def spOne : Sp := fun vs H Q _ => ∃ (b l : Addr) (xs : List V), vs = [.ref b, .ref l] ∧ Bag H b ∧ H l = some (.lst xs) ∧ l ≠ b ∧ 0 < xs.length ∧ xs.length < 1000 ∧ ∀ v H', v ∈ xs → Kp b H H' → Q v H'
theorem ok_one (T : Txt K mg a) : FnOk P w K mg base CX0 2 a.f_one a.d_one ["_law_bag_here", "_law_some"] spOne := by
  refine T.F_one.ok sc_one (fun vs H Q E h => ?_) (fun cdv A outer s H vs Q E hr h => ?_)
  · obtain ⟨b, l, xs, rfl, _⟩ := h
    rfl
  · obtain ⟨b, l, xs, rfl, hb, hl, hne, h0, h1, k⟩ := h
    refine ⟨_, (pss_one (ps_ret (pe_ix ix_list (pv 1) (pe_call (ok_draw T) (hr.mono (by decide)) (by rfl) T.m_draw T.F_draw.kp T.b_draw .nil pass0 (pa_cons (pv 0) (pa_cons (pe_callB cr_len (by rfl) T.z_len PySem.boot_len (pa_cons (pv 1) pa_nil)) pa_nil))) (fun _ _ => rfl)))), ?_⟩
    walk_at "r"
    refine w_lenL (SqL.of hl) ?_
    walk_at "r"
    refine ⟨b, (xs.length : Int), rfl, hb, by omega, by omega, fun r H1 r0 r1 k1 => ?_⟩
    have hr2 : r.toNat < xs.length := by omega
    refine ⟨_, xs, r, xs[r.toNat], rfl, rfl, SqL.of (k1.keep _ _ hne hl), at_of (by omega) (List.getElem?_eq_getElem hr2), ?_⟩
    exact k _ H1 (List.getElem_mem hr2) k1
theorem one_leaf {H : Hp} {Q : VK} {E : XK} {b l : Addr} {xs : List V} (hb : Bag H b) (hl : H l = some (.lst xs)) (ne : l ≠ b) (h0 : 0 < xs.length) (h1 : xs.length < 1000) (k : ∀ v H', v ∈ xs → Kp b H H' → Q v H') : spOne [.ref b, .ref l] H Q E := ⟨b, l, xs, rfl, hb, hl, ne, h0, h1, k⟩
/-- one of a tuple's values -/
def spOneT (K : PySem.W.Frag) : Sp := fun vs H Q _ => ∃ (b t : Addr) (xs : List V), vs = [.ref b, .ref t] ∧ Bag H b ∧ SqT K H t xs ∧ 0 < xs.length ∧ xs.length < 1000 ∧ ∀ v H', v ∈ xs → Kp b H H' → Q v H'
theorem ok_oneT (T : Txt K mg a) : FnOk P w K mg base CX0 2 a.f_one a.d_one ["_law_bag_here", "_law_some"] (spOneT K) := by
  refine T.F_one.ok sc_one (fun vs H Q E h => ?_) (fun cdv A outer s H vs Q E hr h => ?_)
  · obtain ⟨b, l, xs, rfl, _⟩ := h
    rfl
  · obtain ⟨b, l, xs, rfl, hb, hl, h0, h1, k⟩ := h
    refine ⟨_, (pss_one (ps_ret (pe_ix ix_tup (pv 1) (pe_call (ok_draw T) (hr.mono (by decide)) (by rfl) T.m_draw T.F_draw.kp T.b_draw .nil pass0 (pa_cons (pv 0) (pa_cons (pe_callB cr_len (by rfl) T.z_len PySem.boot_len (pa_cons (pv 1) pa_nil)) pa_nil))) (fun _ _ => rfl)))), ?_⟩
    walk_at "r"
    refine w_lenT hl ?_
    walk_at "r"
    refine ⟨b, (xs.length : Int), rfl, hb, by omega, by omega, fun r H1 r0 r1 k1 => ?_⟩
    have hr2 : r.toNat < xs.length := by omega
    refine ⟨_, xs, r, xs[r.toNat], rfl, rfl, k1.sqt hl, at_of (by omega) (List.getElem?_eq_getElem hr2), ?_⟩
    exact k _ H1 (List.getElem_mem hr2) k1
theorem oneT_leaf {H : Hp} {Q : VK} {E : XK} {b t : Addr} {xs : List V} (hb : Bag H b) (ht : SqT K H t xs) (h0 : 0 < xs.length) (h1 : xs.length < 1000) (k : ∀ v H', v ∈ xs → Kp b H H' → Q v H') : spOneT K [.ref b, .ref t] H Q E := ⟨b, t, xs, rfl, hb, ht, h0, h1, k⟩
/-- one of a text's letters -/
def spOneS : Sp := fun vs H Q _ => ∃ (b : Addr) (s : Str), vs = [.ref b, .str s] ∧ Bag H b ∧ 0 < s.cps.size ∧ s.cps.size < 1000 ∧ ∀ c H', c ∈ s.cps.toList → Kp b H H' → Q (.str ⟨#[c]⟩) H'
theorem ok_oneS (T : Txt K mg a) : FnOk P w K mg base CX0 2 a.f_one a.d_one ["_law_bag_here", "_law_some"] spOneS := by
  refine T.F_one.ok sc_one (fun vs H Q E h => ?_) (fun cdv A outer s H vs Q E hr h => ?_)
  · obtain ⟨b, s, rfl, _⟩ := h
    rfl
  · obtain ⟨b, s, rfl, hb, h0, h1, k⟩ := h
    refine ⟨_, (pss_one (ps_ret (pe_ix ix_str (pv 1) (pe_call (ok_draw T) (hr.mono (by decide)) (by rfl) T.m_draw T.F_draw.kp T.b_draw .nil pass0 (pa_cons (pv 0) (pa_cons (pe_callB cr_len (by rfl) T.z_len PySem.boot_len (pa_cons (pv 1) pa_nil)) pa_nil))) (fun _ _ => rfl)))), ?_⟩
    walk_at "r"
    refine w_lenS (by omega) ?_
    walk_at "r"
    refine draw_leaf hb (by show (0 : Int) < (s.cps.size : Nat); omega) (by show ((s.cps.size : Nat) : Int) ≤ 10 ^ 12; omega) fun r H1 r0 r1 k1 => ?_
    have hr2 : r.toNat < s.cps.toList.length := by rw [Array.length_toList]; omega
    refine ⟨s, r, s.cps.toList[r.toNat], rfl, rfl, Nat.le_trans (Nat.le_of_lt h1) (by decide), (congrArg (atI _) (Int.toNat_of_nonneg r0).symm).trans (atI_nat (List.getElem?_eq_getElem hr2)), ?_⟩
    exact k _ H1 (List.getElem_mem hr2) k1
theorem oneS_leaf {H : Hp} {Q : VK} {E : XK} {b : Addr} {s : Str} (hb : Bag H b) (h0 : 0 < s.cps.size) (h1 : s.cps.size < 1000) (k : ∀ c H', c ∈ s.cps.toList → Kp b H H' → Q (.str ⟨#[c]⟩) H') : spOneS [.ref b, .str s] H Q E := ⟨b, s, rfl, hb, h0, h1, k⟩
/-! ### drawn words -/
theorem KpGrown {b D : Addr} {xs : List V} {H G G' : Hp} (k : Kp b H G) (hD : H D = none) (n : D ≠ b) (g : Grown D xs G G') : Kp b H G' := by
  obtain ⟨f, s, m, hb⟩ := k.bag'
  exact ⟨k.bag, ⟨f, s, m, g.keep _ _ (fun z => n z.symm) hb⟩, fun c u hc h => g.keep _ _ (ne_of_none h hD) (k.keep c u hc h)⟩
theorem w_m1 {σ : L2.St} {H : Hp} {Q : VK} {r : V → List V → Hp → VK → Prop} {to te : TE} (h : to σ H fun x H1 => (∃ a, x = .str a) ∧ te σ H1 fun y H2 => r x [y] H2 Q) : tM1 r to te σ H Q := h
theorem join_tl (parts : List Str) : TL.tl (Txt.join "" parts) = (parts.map TL.tl).flatten := by
  rw [TL.join_eq, TL.tl_join]
  induction parts with
  | nil => rfl
  | cons p r ih =>
    cases r with
    | nil => show TL.tl p = [TL.tl p].flatten; simp
    | cons q r =>
      rw [List.map_cons, List.flatten_cons, ← ih]
      rfl
def sg (c : Nat) : Str := ⟨#[c]⟩
theorem join_sg (cs : List Nat) : (Txt.join "" (cs.map sg)).cps.toList = cs := by
  have := join_tl (cs.map sg)
  show TL.tl (Txt.join "" (cs.map sg)) = cs
  rw [this, List.map_map]
  induction cs with
  | nil => rfl
  | cons c r ih => show [c] ++ ((r.map (TL.tl ∘ sg)).flatten) = c :: r; rw [ih (join_tl _)]; rfl
theorem sgs_of {ys : List V} {Pc : Nat → Prop} (h : ∀ (i : Nat) (v : V), ys[i]? = some v → ∃ c, v = .str (sg c) ∧ Pc c) : ∃ cs : List Nat, ys = (cs.map sg).map V.str ∧ cs.length = ys.length ∧ ∀ c ∈ cs, Pc c := by
  induction ys with
  | nil => exact ⟨[], rfl, rfl, fun c h => by cases h⟩
  | cons y r ih =>
    obtain ⟨c, rfl, hc⟩ := h 0 y rfl
    obtain ⟨cs, rfl, hl, hp⟩ := ih fun i v hv => h (i + 1) v hv
    refine ⟨c :: cs, rfl, by rw [List.length_cons, List.length_cons, hl], fun d hd => ?_⟩
    rcases List.mem_cons.mp hd with rfl | hd
    · exact hc
    · exact hp d hd
def poolW : List Nat := [97, 98, 99, 100, 101, 104, 107, 108, 109, 110, 111, 112, 114, 115, 116, 117, 119, 121, 122]
def spcW : List Nat := [102, 103, 105, 106, 113, 118, 120]
def Plain (s : Str) : Prop := ∀ c ∈ s.cps.toList, c ∈ poolW
def Spc (i : Nat) (s : Str) : Prop := ∃ r c, s.cps.toList = r ++ [c] ∧ spcW[i]? = some c
/-- the words so far: words, no two alike, each plain or ended by its own sign -/
structure Fine (ws : List Str) : Prop where
  word : ∀ w ∈ ws, Word w
  nd : ws.Nodup
  how : ∀ (i : Nat) (w : Str), ws[i]? = some w → Plain w ∨ Spc i w
theorem nodup_snoc {ws : List Str} {w : Str} (h : ws.Nodup) (n : w ∉ ws) : (ws ++ [w]).Nodup := List.nodup_append.mpr ⟨h, by simp, fun a ha b hb => by
  rw [List.mem_singleton] at hb
  subst hb
  exact fun z => n (z ▸ ha)⟩
theorem Fine.snoc {ws : List Str} {w : Str} (f : Fine ws) (hw : Word w) (n : w ∉ ws) (q : Plain w ∨ Spc ws.length w) : Fine (ws ++ [w]) := by
  refine ⟨fun x hx => ?_, nodup_snoc f.nd n, fun i x hx => ?_⟩
  · rcases List.mem_append.mp hx with h | h
    · exact f.word x h
    · rw [List.mem_singleton] at h
      exact h ▸ hw
  · by_cases c : i < ws.length
    · rw [List.getElem?_append_left c] at hx
      exact f.how i x hx
    · rw [List.getElem?_append_right (by omega)] at hx
      have e : i = ws.length := by
        have := (List.getElem?_eq_some_iff.mp hx).1
        simp at this
        omega
      subst e
      simp at hx
      subst hx
      exact q
theorem spc_inj : ∀ i j : Nat, i < 7 → j < 7 → ∀ c, spcW[i]? = some c → spcW[j]? = some c → i = j := by
  intro i j hi hj c h1 h2
  have nd : spcW.Nodup := by decide
  exact (List.getElem?_inj (l := spcW) (by exact hi) nd).mp (h1.trans h2.symm)
theorem spc_new {ws : List Str} {w : Str} (f : Fine ws) (q : Spc ws.length w) : w ∉ ws := fun m => by
  obtain ⟨i, hi⟩ := List.getElem?_of_mem m
  have li : i < ws.length := (List.getElem?_eq_some_iff.mp hi).1
  obtain ⟨r, c, e, hc⟩ := q
  have lc : ws.length < 7 := (List.getElem?_eq_some_iff.mp hc).1
  rcases f.how i w hi with p | ⟨r2, c2, e2, hc2⟩
  · have z := p c (by rw [e]; simp)
    have : c ∈ spcW := List.mem_of_getElem? hc
    revert z
    revert this
    clear hc e
    unfold spcW poolW
    intro h1 h2
    simp at h1 h2
    omega
  · have z : c = c2 := by
      rw [e] at e2
      have := congrArg List.getLast? e2
      simpa using this
    subst z
    have := spc_inj i ws.length (by omega) lc c hc2 hc
    omega
theorem cutS7 (s : Str) : (cutS s none (some 7)).cps.toList = s.cps.toList.take 7 := by
  have hl : s.length = s.cps.toList.length := (Array.length_toList).symm
  show (((s.cps.toList.drop (HT.sIx s.length 0 none)).take (HT.sIx s.length s.length (some 7) - HT.sIx s.length 0 none)).toArray).toList = _
  rw [hl, show (some (7 : Int)) = some ((7 : Nat) : Int) from rfl, HT.sIx_nat, HT.sIx_none]
  generalize s.cps.toList = l
  rw [List.drop_zero, Nat.sub_zero]
  by_cases c : 7 ≤ l.length
  · rw [Nat.min_eq_left c]
  · rw [Nat.min_eq_right (by omega), List.take_of_length_le (Nat.le_refl _), List.take_of_length_le (by omega)]
theorem at_sp {i c : Nat} (h : spcW[i]? = some c) : atI ("fgijqvx" : Str).cps.toList ((0 : Int) + (i : Int)) = some c := by
  rw [show (0 : Int) + (i : Int) = (i : Int) by omega]
  exact atI_nat h
def spWords (K : PySem.W.Frag) : Sp := fun vs H Q _ => ∃ (b : Addr) (m : Nat), vs = [.ref b, .int m] ∧ Bag H b ∧ 1 ≤ m ∧ m ≤ 6 ∧ ∀ t ws H', Kp b H H' → SqT K H' t (ws.map V.str) → ws.length = m → GoodParts ws → Q (.ref t) H'
theorem ok_words (T : Txt K mg a) : FnOk P w K mg base CX0 3 a.f_words a.d_words ["_law_bag_here", "_law_many"] (spWords K) := by
  refine T.F_words.ok sc_words (fun vs H Q E h => ?_) (fun cdv A outer s H vs Q E hr h => ?_)
  · obtain ⟨b, m, rfl, _⟩ := h
    rfl
  · obtain ⟨b, m, rfl, hb, h0, h1, k⟩ := h
    refine ⟨_, (pss_cons (ps_set (i := 2) sc_words.nd rfl (Or.inl rfl) (pe_lst pa_nil))
      (pss_cons (ps_for PassesOwn.never rfl (pi_range1 (by rfl) T.z_range (pa_cons (pv 1) pa_nil)) (pg_name (i := 3) sc_words.nd rfl (Or.inl rfl)) (pss_cons (ps_set (i := 4) sc_words.nd rfl (Or.inl rfl) (pe_join pe_str (pe_lc (own := [("_law_k", 5)]) (g := gName 5) (tt := tYes) rfl sc_words.nd (pi_range1 (by rfl) T.z_range (pa_cons (pe_op op_add pe_int (pe_call (ok_draw T) (hr.mono (by decide)) (by rfl) T.m_draw T.F_draw.kp T.b_draw .nil pass0 (pa_cons (pv 0) (pa_cons pe_int pa_nil)))) pa_nil)) (blkOk_by (own := [("_law_k", 5)]) (N := ["_law_bag_here", "_law_many", "_law_found", "_law_turn", "_law_made", "_law_k"]) (sc := defScope s_words) (by decide +kernel)) (fun _ _ _ _ _ => pg_name (i := 5) sc_words.nd rfl (Or.inl rfl)) (fun _ _ _ _ _ => pts_nil) (fun _ _ _ _ _ => by exact (pe_call (ok_oneS T) (hr.mono (by decide)) (by rfl) T.m_one T.F_one.kp T.b_one .nil pass0 (pa_cons (pv 0) (pa_cons pe_str pa_nil)))))))
      (pss_cons (ps_if (pt_cmpR op_in_seq (pv 4) (pv 2) (by rfl)) (pss_one (ps_set (i := 4) sc_words.nd rfl (Or.inl rfl) (pe_op op_add_str (pe_slice sl_str (pv 4) po_none (po_some pe_int)) (pe_ix ix_str pe_str (pv 3) (fun _ _ => rfl))))) pss_nil)
      (pss_one (ps_expr (pe_bm PySem.F.plainAttrs_list PySem.F.slot_list_append PySem.F.type_list_append mt_append (pv 2) (pa_cons (pv 4) pa_nil)))))))
      (pss_one (ps_ret (pe_callTy call_tuple_of (by rfl) T.z_tuple (by decide +kernel) (pa_cons (pv 2) pa_nil)))))), ?_⟩
    walk_at "r"
    refine w_newL (by show 0 ≤ 100000; decide) fun D H1 nD e1 h1 => ?_
    walk_at "r"
    have ne := bag_ne hb nD
    refine ⟨m, rfl, by omega, by omega, for_leaf (walk_range (lo := 0) (n := m)) (fun i σ' G => ∃ ws : List Str, Kp b H G ∧ G D = some (.lst (ws.map V.str)) ∧ ws.length = i ∧ Fine ws ∧ ∃ v3 v4 : Option V, σ' = [some (.ref b), some (.int m), some (.ref D), v3, v4, none]) ⟨[], .of hb e1, h1, rfl, ⟨fun w h => absurd h List.not_mem_nil, List.nodup_nil, fun i w h => by simp at h⟩, _, _, rfl⟩ (fun _ _ _ _ _ => trivial) ?_ ?_⟩
    · rintro i z σ' G G' hi ⟨ws, kp, h2, hl, fi, v3, v4, rfl⟩ ⟨rfl, rfl⟩
      walk_at "r"
      refine w_m1 ?_
      walk_at "r"
      refine ⟨⟨_, rfl⟩, ?_⟩
      walk_at "r"
      refine draw_leaf kp.bag' (by show (0 : Int) < 6; decide) (by show (6 : Int) ≤ 10 ^ 12; decide) fun r G2 r0 r1 k2 => ?_
      walk_at "r"
      have kp2 := kp.trans k2
      refine ⟨2 + r, rfl, by omega, by omega, cmK kp2.bag' (walk_range (lo := 0) (n := (2 + r).toNat)) (by omega) (fun _ _ => trivial) (fun _ v _ => ∃ c, v = .str (sg c) ∧ c ∈ poolW) (fun _ _ _ _ _ h => h) (fun j x G3 G4 hj k3 hy Q' kq => ?_) (fun L ys G3 nL k3 h3 hn hP => ?_)⟩
      · obtain ⟨rfl, rfl⟩ := hy
        walk_at "r"
        refine ⟨rfl, ?_⟩
        walk_at "r"
        exact oneS_leaf k3.bag' (by decide) (by decide) fun c G5 hc k5 => kq _ _ k5 ⟨c, rfl, hc⟩
      obtain ⟨cs, rfl, hl2, hcs⟩ := sgs_of hP
      walk_at "r"
      have hcl : cs.length ≤ 8 := by rw [hl2, hn]; omega
      have hcl2 : 2 ≤ cs.length := by rw [hl2, hn]; omega
      refine ⟨"", L, cs.map sg, rfl, rfl, .inl (.inl (.inl h3)), ?_, ?_⟩
      · have z : ∀ l : List Nat, ((l.map sg).map fun x => x.length).sum = l.length := fun l => by
          induction l with
          | nil => rfl
          | cons c r ih => rw [List.map_cons, List.map_cons, List.sum_cons, ih, List.length_cons]; show 1 + _ = _; omega
        rw [z]
        show _ + _ * 0 ≤ _
        omega
      have jl := join_sg cs
      revert jl
      generalize Txt.join "" (cs.map sg) = made
      intro jl
      have kp3 := kp2.trans k3
      have hD3 := k3.keep _ _ ne (k2.keep _ _ ne h2)
      have wd : Word made := by
        have e : made.cps.size = cs.length := by rw [← Array.length_toList, jl]
        refine ⟨by omega, by omega, fun c hc => ?_⟩
        rw [jl] at hc
        have := hcs c hc
        unfold poolW at this
        simp at this
        omega
      walk_at "r"
      refine in_leaf (.inl (.inl (.inl hD3))) ?_
      have wl : (ws.map V.str).length ≤ 1000 := by rw [List.length_map]; omega
      by_cases mm : made ∈ ws
      · rw [decide_eq_true mm]
        refine ⟨true, rfl, iteT ?_⟩
        walk_at "r"
        refine ⟨made, rfl, Nat.le_trans wd.2.1 (by decide), ?_⟩
        walk_at "r"
        have hi7 : i < spcW.length := by show i < 7; omega
        refine ⟨"fgijqvx", _, spcW[i], rfl, rfl, by decide, at_sp (List.getElem?_eq_getElem hi7), ?_⟩
        walk_at "r"
        have c7 : (cutS made none (some 7)).cps.toList = made.cps.toList.take 7 := cutS7 made
        have c8 : (cutS made none (some 7)).length ≤ 7 := by
          show (cutS made none (some 7)).cps.size ≤ 7
          rw [← Array.length_toList, c7, List.length_take]
          omega
        refine ⟨_, _, rfl, rfl, Nat.le_trans (show (cutS made none (some 7)).length + 1 ≤ 8 by omega) (by decide), ?_⟩
        walk_at "r"
        have tl2 : (cutS made none (some 7) ++ (⟨#[spcW[i]]⟩ : Str)).cps.toList = made.cps.toList.take 7 ++ [spcW[i]] := by
          have := TL.tl_append (cutS made none (some 7)) (⟨#[spcW[i]]⟩ : Str)
          rw [← c7]
          exact this
        revert tl2
        generalize cutS made none (some 7) ++ (⟨#[spcW[i]]⟩ : Str) = made2
        intro tl2
        refine ⟨.inl ⟨rfl, _, .inl (.inl hD3)⟩, ?_⟩
        walk_at "r"
        refine w_app hD3 wl fun G5 g => ?_
        have sp : Spc ws.length made2 := ⟨_, _, tl2, by rw [hl]; exact List.getElem?_eq_getElem hi7⟩
        have wd2 : Word made2 := by
          have e : made2.cps.size = (made.cps.toList.take 7).length + 1 := by rw [← Array.length_toList, tl2, List.length_append]; rfl
          have e2 : made.cps.size = cs.length := by rw [← Array.length_toList, jl]
          rw [List.length_take, Array.length_toList] at e
          refine ⟨by omega, by omega, fun c hc => ?_⟩
          rw [tl2] at hc
          rcases List.mem_append.mp hc with h | h
          · exact wd.2.2 c (List.mem_of_mem_take h)
          · rw [List.mem_singleton] at h
            rw [h]
            have : ∀ x ∈ spcW, 97 ≤ x ∧ x ≤ 122 := by decide
            exact this _ (List.getElem_mem hi7)
        exact ⟨ws ++ [made2], KpGrown kp3 nD ne g, by rw [g.at_, List.map_append]; rfl, by rw [List.length_append, hl]; rfl, fi.snoc wd2 (spc_new fi sp) (.inr sp), _, _, rfl⟩
      · rw [decide_eq_false mm]
        refine ⟨false, rfl, iteF ?_⟩
        walk_at "r"
        refine ⟨.inl ⟨rfl, _, .inl (.inl hD3)⟩, ?_⟩
        walk_at "r"
        refine w_app hD3 wl fun G5 g => ?_
        exact ⟨ws ++ [made], KpGrown kp3 nD ne g, by rw [g.at_, List.map_append]; rfl, by rw [List.length_append, hl]; rfl, fi.snoc wd mm (.inl fun c hc => hcs c (by rw [← jl]; exact hc)), _, _, rfl⟩
    · rintro σ' G ⟨ws, kp, h2, hl, fi, v3, v4, rfl⟩
      walk_at "r"
      refine ⟨D, _, rfl, .inl ⟨.inl (.inl h2), fun t nt => ?_⟩⟩
      subst hl
      exact k t ws _ (kp.trans (.of kp.bag' (w_new nt))) (SqT.of upd_same) rfl ⟨h0, h1, fi.word, fi.nd⟩/-! ### drawn letters -/
def sgV (l : List Nat) : List V := (l.map sg).map V.str
theorem sgV_eq (z : Str) : (z.cps.toList.map fun c => V.str ⟨#[c]⟩) = sgV z.cps.toList := by unfold sgV; rw [List.map_map]; rfl
theorem sgV_erase (l : List Nat) (k : Nat) : (sgV l).eraseIdx k = sgV (l.eraseIdx k) := by
  induction l generalizing k with
  | nil => rfl
  | cons c r ih =>
    cases k with
    | zero => rfl
    | succ k => show V.str (sg c) :: (sgV r).eraseIdx k = _; rw [ih]; rfl
theorem take_perm {l : List Nat} {k : Nat} (h : k < l.length) : ([l[k]] ++ l.eraseIdx k).Perm l := by
  induction l generalizing k with
  | nil => cases h
  | cons c r ih =>
    cases k with
    | zero => exact List.Perm.refl _
    | succ k =>
      have hk : k < r.length := by simpa using h
      have := ih hk
      show (r[k] :: c :: r.eraseIdx k).Perm (c :: r)
      exact (List.Perm.swap _ _ _).trans (List.Perm.cons c this)
theorem len_sgs (l : List Nat) : ((l.map sg).map fun x => x.length).sum = l.length := by
  induction l with
  | nil => rfl
  | cons c r ih => rw [List.map_cons, List.map_cons, List.sum_cons, ih, List.length_cons]; show 1 + _ = _; omega
theorem sgs_perm {ys : List Str} {l : List Nat} (h : ys.Perm (l.map sg)) : ∃ cs : List Nat, ys = cs.map sg ∧ cs.Perm l := by
  refine ⟨ys.map fun s => s.cps.toList.headD 0, ?_, ?_⟩
  · rw [List.map_map]
    have : ∀ y ∈ ys, (sg ∘ fun s : Str => s.cps.toList.headD 0) y = y := fun y hy => by
      obtain ⟨c, _, rfl⟩ := List.mem_map.mp (h.mem_iff.mp hy)
      rfl
    rw [List.map_congr_left this, List.map_id']
  · have := h.map fun s => s.cps.toList.headD 0
    rw [List.map_map, show ((fun s : Str => s.cps.toList.headD 0) ∘ sg) = id from rfl, List.map_id] at this
    exact this
theorem lt1c (x y : Nat) : ltCps [x] [y] = decide (x < y) := by
  show (decide (x < y) || (x == y && false)) = _
  rw [Bool.and_false, Bool.or_false]
theorem rise_from : ∀ (cs : List Nat) (p : Nat), risingS (sg p) (cs.map sg) = true → (p :: cs).Nodup → (p :: cs).Pairwise (· < ·)
  | [], p, _, _ => List.pairwise_singleton _ _
  | c :: r, p, h, nd => by
    have h : (!ltCps [c] [p] && risingS (sg c) (r.map sg)) = true := h
    rw [Bool.and_eq_true, lt1c, Bool.not_eq_true', decide_eq_false_iff_not] at h
    have nd2 := List.nodup_cons.mp nd
    have ih := rise_from r c h.2 nd2.2
    have lt : p < c := by
      have : p ≠ c := fun z => nd2.1 (by rw [z]; exact List.mem_cons_self ..)
      omega
    refine List.pairwise_cons.mpr ⟨fun x hx => ?_, ih⟩
    rcases List.mem_cons.mp hx with rfl | hx
    · exact lt
    · exact Nat.lt_trans lt ((List.pairwise_cons.mp ih).1 x hx)
theorem sgs_rise {cs : List Nat} (h : sortedS (cs.map sg) = true) (nd : cs.Nodup) : cs.Pairwise (· < ·) := by
  cases cs with
  | nil => exact List.Pairwise.nil
  | cons c r => exact rise_from r c h nd
/-- many different letters of the pool, in order -/
def spLetters : Sp := fun vs H Q _ => ∃ (b : Addr) (z : Str) (m : Nat), vs = [.ref b, .str z, .int m] ∧ Bag H b ∧ z.cps.toList.Nodup ∧ z.cps.size ≤ 20 ∧ m ≤ z.cps.size ∧ ∀ (s : Str) H', Kp b H H' → s.cps.size = m → (∀ c ∈ s.cps.toList, c ∈ z.cps.toList) → s.cps.toList.Pairwise (· < ·) → Q (.str s) H'
theorem ok_letters (T : Txt K mg a) : FnOk P w K mg base CX0 2 a.f_letters a.d_letters ["_law_bag_here", "_law_pool", "_law_many"] spLetters := by
  refine T.F_letters.ok sc_letters (fun vs H Q E h => ?_) (fun cdv A outer s H vs Q E hr h => ?_)
  · obtain ⟨b, z, m, rfl, _⟩ := h
    rfl
  · obtain ⟨b, z, m, rfl, hb, nd, sz, hm, k⟩ := h
    refine ⟨_, (pss_cons (ps_par (i := 3) (j := 4) (by rfl) sc_letters.nd rfl rfl (by decide) rfl rfl (pa_cons (pe_callTy (cr_listS rfl) (by rfl) T.z_list (by decide +kernel) (pa_cons (pv 1) pa_nil)) (pa_cons (pe_lst pa_nil) pa_nil)) (by rfl))
      (pss_cons (ps_for PassesOwn.never rfl (pi_range1 (by rfl) T.z_range (pa_cons (pv 2) pa_nil)) (pg_name (i := 5) sc_letters.nd rfl (Or.inl rfl)) (pss_one (ps_expr (pe_bm PySem.F.plainAttrs_list PySem.F.slot_list_append PySem.F.type_list_append mt_append (pv 4) (pa_cons (pe_bm PySem.F.plainAttrs_list PySem.F.slot_list_pop PySem.F.type_list_pop mt_popAt (pv 3) (pa_cons (pe_call (ok_draw T) (hr.mono (by decide)) (by rfl) T.m_draw T.F_draw.kp T.b_draw .nil pass0 (pa_cons (pv 0) (pa_cons (pe_callB cr_len (by rfl) T.z_len PySem.boot_len (pa_cons (pv 3) pa_nil)) pa_nil))) pa_nil)) pa_nil)))))
      (pss_one (ps_ret (pe_join pe_str (pe_callB cr_sortedS (by rfl) T.z_sorted (by decide +kernel) (pa_cons (pv 4) pa_nil))))))), ?_⟩
    walk_at "r"
    refine ⟨z, rfl, by omega, fun L nL => ?_⟩
    walk_at "r"
    refine w_newL (by show 0 ≤ 100000; decide) fun D H1 nD e1 h1 => ?_
    walk_at "r"
    have nD' : H D = none := by
      cases q : H D with
      | none => rfl
      | some o =>
        have : D ≠ L := fun z => by rw [z, nL] at q; cases q
        rw [upd_ne this, q] at nD
        cases nD
    have neDL : D ≠ L := fun z => by rw [z, upd_same] at nD; cases nD
    have nbL := bag_ne hb nL
    have nbD := bag_ne hb nD'
    refine ⟨m, rfl, by omega, by omega, for_leaf (walk_range (lo := 0) (n := m)) (fun i σ' G => ∃ lf fd : List Nat, Kp b H G ∧ G L = some (.lst (sgV lf)) ∧ G D = some (.lst (sgV fd)) ∧ fd.length = i ∧ (fd ++ lf).Perm z.cps.toList ∧ ∃ v5 : Option V, σ' = [some (.ref b), some (.str z), some (.int m), some (.ref L), some (.ref D), v5]) ⟨z.cps.toList, [], .of hb ((w_new nL).trans e1), by rw [e1 _ _ upd_same, sgV_eq], h1, rfl, List.Perm.refl _, _, rfl⟩ (fun _ _ _ _ _ => trivial) ?_ ?_⟩
    · rintro i y σ' G G' hi ⟨lf, fd, kp, hL, hD, hl, pm, v5, rfl⟩ ⟨rfl, rfl⟩
      have ln : fd.length + lf.length = z.cps.size := by rw [← List.length_append, pm.length_eq, Array.length_toList]
      walk_at "r"
      refine ⟨.inl ⟨rfl, _, .inl (.inl hD)⟩, ?_⟩
      walk_at "r"
      refine ⟨.inl ⟨rfl, _, .inl (.inl hL)⟩, ?_⟩
      walk_at "r"
      refine w_lenL (.inl (.inl hL)) ?_
      walk_at "r"
      have lL : (sgV lf).length = lf.length := by unfold sgV; rw [List.length_map, List.length_map]
      have lD : (sgV fd).length = fd.length := by unfold sgV; rw [List.length_map, List.length_map]
      refine draw_leaf kp.bag' (by omega) (by omega) fun r G2 r0 r1 k2 => ?_
      walk_at "r"
      have hr2 : r.toNat < lf.length := by omega
      have ix : ixN (sgV lf).length r = some r.toNat := by unfold ixN; rw [if_pos r0, if_pos r1]
      have hy : (sgV lf)[r.toNat]? = some (.str (sg lf[r.toNat])) := by unfold sgV; rw [List.getElem?_map, List.getElem?_map, List.getElem?_eq_getElem hr2]; rfl
      have hL2 := k2.keep _ _ nbL hL
      have hD2 := k2.keep _ _ nbD hD
      refine ⟨L, sgV lf, r, r.toNat, _, rfl, rfl, hL2, by omega, by omega, (ixN_seq ix).1, hy, ?_⟩
      walk_at "r"
      refine w_app (by rw [upd_ne neDL]; exact hD2) (by omega) fun G5 g => ?_
      have hL3 : G5 L = some (.lst (sgV (lf.eraseIdx r.toNat))) := by rw [← sgV_erase]; exact g.keep _ _ (fun z => neDL z.symm) upd_same
      exact ⟨lf.eraseIdx r.toNat, fd ++ [lf[r.toNat]], KpGrown ((kp.trans k2).putNew nL nbL) nD' nbD g, hL3, by rw [g.at_]; unfold sgV; rw [List.map_append, List.map_append]; rfl, by rw [List.length_append, hl]; rfl, (by rw [List.append_assoc]; exact (List.Perm.append_left fd (take_perm hr2)).trans pm), _, rfl⟩
    · rintro σ' G ⟨lf, fd, kp, hL, hD, hl, pm, v5, rfl⟩
      walk_at "r"
      refine w_m1 ?_
      walk_at "r"
      refine ⟨⟨_, rfl⟩, ?_⟩
      walk_at "r"
      refine ⟨D, fd.map sg, rfl, .inl (.inl hD), by rw [List.length_map]; omega, fun ys p pm2 srt np => ?_⟩
      obtain ⟨cs, rfl, pc⟩ := sgs_perm pm2
      refine ⟨"", p, cs.map sg, rfl, rfl, .inl (.inl (.inl upd_same)), by rw [len_sgs]; have := pc.length_eq; show _ + _ * 0 ≤ _; omega, ?_⟩
      have jl := join_sg cs
      revert jl
      generalize Txt.join "" (cs.map sg) = made
      intro jl
      have nd2 := pm.nodup_iff.mpr nd
      have nd3 := pc.nodup_iff.mpr (List.nodup_append.mp nd2).1
      refine k made _ (kp.trans (.of kp.bag' (w_new np))) ?_ ?_ ?_
      · rw [← Array.length_toList, jl, pc.length_eq, hl]
      · intro c hc
        rw [jl] at hc
        exact (pm.mem_iff).mp (List.mem_append_left _ (pc.mem_iff.mp hc))
      · rw [jl]
        exact sgs_rise srt nd3
theorem letters_leaf {H : Hp} {Q : VK} {E : XK} {b : Addr} {z : Str} {m : Nat} (hb : Bag H b) (nd : z.cps.toList.Nodup) (sz : z.cps.size ≤ 20) (hm : m ≤ z.cps.size) (k : ∀ (s : Str) H', Kp b H H' → s.cps.size = m → (∀ c ∈ s.cps.toList, c ∈ z.cps.toList) → s.cps.toList.Pairwise (· < ·) → Q (.str s) H') : spLetters [.ref b, .str z, .int m] H Q E := ⟨b, z, m, rfl, hb, nd, sz, hm, k⟩
theorem words_leaf {H : Hp} {Q : VK} {E : XK} {b : Addr} {m : Nat} (hb : Bag H b) (h0 : 1 ≤ m) (h1 : m ≤ 6) (k : ∀ t ws H', Kp b H H' → SqT K H' t (ws.map V.str) → ws.length = m → GoodParts ws → Q (.ref t) H') : spWords K [.ref b, .int m] H Q E := ⟨b, m, rfl, hb, h0, h1, k⟩
/-! ### drawn cords -/
structure Drawn (ps : List Str) (es : List Tie3) (k j : Nat) : Prop where
  few : es.length ≤ 10
  each : ∀ t ∈ es, ∃ (j' k' : Nat) (x y : Str), j' < k' ∧ (k' < k ∨ (k' = k ∧ j' < j)) ∧ ps[j']? = some x ∧ ps[k']? = some y ∧ ((t.1 = x ∧ t.2.1 = y) ∨ (t.1 = y ∧ t.2.1 = x)) ∧ 0 ≤ t.2.2 ∧ t.2.2 ≤ 20
  apart : es.Pairwise fun t u => ¬ Meet t u
theorem Drawn.next {ps : List Str} {es : List Tie3} {k j : Nat} (d : Drawn ps es k j) : Drawn ps es k (j + 1) := ⟨d.few, fun t h => let ⟨j', k', x, y, a, b, c⟩ := d.each t h; ⟨j', k', x, y, a, by omega, c⟩, d.apart⟩
theorem Drawn.line {ps : List Str} {es : List Tie3} {k : Nat} (d : Drawn ps es k k) : Drawn ps es (k + 1) 0 := ⟨d.few, fun t h => let ⟨j', k', x, y, a, b, c⟩ := d.each t h; ⟨j', k', x, y, a, by omega, c⟩, d.apart⟩
theorem Drawn.snoc {ps : List Str} {es : List Tie3} {k j : Nat} (d : Drawn ps es k j) (nd : ps.Nodup) (l : es.length < 10) (lt : j < k) {t : Tie3} {x y : Str} (hx : ps[j]? = some x) (hy : ps[k]? = some y) (ht : (t.1 = x ∧ t.2.1 = y) ∨ (t.1 = y ∧ t.2.1 = x)) (h0 : 0 ≤ t.2.2) (h1 : t.2.2 ≤ 20) : Drawn ps (es ++ [t]) k (j + 1) := by
  refine ⟨by rw [List.length_append]; exact l, fun u hu => ?_, List.pairwise_append.mpr ⟨d.apart, List.pairwise_singleton _ _, fun u hu v hv m => ?_⟩⟩
  · rcases List.mem_append.mp hu with h | h
    · exact d.next.each u h
    · rw [List.mem_singleton] at h
      subst h
      exact ⟨j, k, x, y, lt, by omega, hx, hy, ht, h0, h1⟩
  · rw [List.mem_singleton] at hv
    subst hv
    obtain ⟨j', k', x', y', a, b, hx', hy', e, _⟩ := d.each u hu
    have z : (x' = x ∧ y' = y) ∨ (x' = y ∧ y' = x) := by
      rcases e with ⟨e1, e2⟩ | ⟨e1, e2⟩ <;> rcases ht with ⟨t1, t2⟩ | ⟨t1, t2⟩ <;> rcases m with ⟨m1, m2⟩ | ⟨m1, m2⟩ <;> simp only [e1, e2, t1, t2] at m1 m2 <;> first | exact .inl ⟨m1, m2⟩ | exact .inl ⟨m2, m1⟩ | exact .inr ⟨m1, m2⟩ | exact .inr ⟨m2, m1⟩
    rcases z with ⟨z1, z2⟩ | ⟨z1, z2⟩
    · subst z1 z2
      have := nd_ix nd hx' hx
      have := nd_ix nd hy' hy
      omega
    · subst z1 z2
      have := nd_ix nd hx' hy
      have := nd_ix nd hy' hx
      omega
theorem Drawn.good {ps : List Str} {es : List Tie3} {k j : Nat} (d : Drawn ps es k j) (nd : ps.Nodup) : GoodTies ps es := by
  refine ⟨d.few, fun t h => ?_, fun t h => ?_, fun t h => ?_, fun t h => ?_, fun t h => ?_, d.apart⟩
  all_goals obtain ⟨j', k', x, y, a, b, hx, hy, e, h0, h1⟩ := d.each t h
  · rcases e with ⟨e1, e2⟩ | ⟨e1, e2⟩ <;> rw [e1]
    · exact List.mem_of_getElem? hx
    · exact List.mem_of_getElem? hy
  · rcases e with ⟨e1, e2⟩ | ⟨e1, e2⟩ <;> rw [e2]
    · exact List.mem_of_getElem? hy
    · exact List.mem_of_getElem? hx
  · intro z
    have xy : x = y := by
      rcases e with ⟨e1, e2⟩ | ⟨e1, e2⟩ <;> rw [e1, e2] at z
      · exact z
      · exact z.symm
    subst xy
    have := nd_ix nd hx hy
    omega
  · exact h0
  · omega
theorem w_cutV {te : TE} {σ : L2.St} {H : Hp} {Q : VK} (Inv : V → Hp → Prop) (h1 : ∀ Q' : VK, (∀ v H', Inv v H' → Q' v H') → te σ H Q') (h2 : ∀ v H', Inv v H' → Q v H') : te σ H Q := h1 Q h2
theorem walk_rng0 {n : Nat} : Walk (Itr 0 n) n (fun _ => True) (YFn fun i => .int (i : Nat)) where
  goes := fun i H hi q => (walk_range (lo := 0) (n := n)).goes i H hi q
  stops := fun H q => (walk_range (lo := 0) (n := n)).stops H q
  yields := fun i H v H' hi q y => by
    have := (walk_range (lo := 0) (n := n)).yields i H v H' hi q y
    refine ⟨this.1, this.2.trans ?_⟩
    show V.int (0 + (i : Int)) = V.int (i : Int)
    rw [Int.zero_add]
def spCords (K : PySem.W.Frag) : Sp := fun vs H Q _ => ∃ (b t : Addr) (ps : List Str), vs = [.ref b, .ref t] ∧ Bag H b ∧ SqT K H t (ps.map V.str) ∧ ps.Nodup ∧ ps.length ≤ 6 ∧ ∀ u es H', Kp b H H' → Rws K H' u (es.map tieV) → GoodTies ps es → (∀ t ∈ es, t.2.2 ≤ 20) → Q (.ref u) H'
theorem ok_cords (T : Txt K mg a) : FnOk P w K mg base CX0 3 a.f_cords a.d_cords ["_law_bag_here", "_law_limbs"] (spCords K) := by
  refine T.F_cords.ok sc_cords (fun vs H Q E h => ?_) (fun cdv A outer s H vs Q E hr h => ?_)
  · obtain ⟨b, t, ps, rfl, _⟩ := h
    rfl
  · obtain ⟨b, t, ps, rfl, hb, ht, nd, l6, k⟩ := h
    refine ⟨_, (pss_cons (ps_set (i := 2) sc_cords.nd rfl (Or.inl rfl) (pe_lst pa_nil))
      (pss_cons (ps_for PassesOwn.never rfl (pi_range1 (by rfl) T.z_range (pa_cons (pe_callB cr_len (by rfl) T.z_len PySem.boot_len (pa_cons (pv 1) pa_nil)) pa_nil)) (pg_name (i := 3) sc_cords.nd rfl (Or.inl rfl)) (pss_one (ps_for PassesOwn.never rfl (pi_range1 (by rfl) T.z_range (pa_cons (pv 3) pa_nil)) (pg_name (i := 4) sc_cords.nd rfl (Or.inl rfl)) (pss_one (ps_if (PW.pt (pw_and (pt_cmpR op_lt (pe_call (ok_draw T) (hr.mono (by decide)) (by rfl) T.m_draw T.F_draw.kp T.b_draw .nil pass0 (pa_cons (pv 0) (pa_cons pe_int pa_nil))) pe_int (nomark _)) (pw_and1 (pt_cmpR op_lt (pe_callB cr_len (by rfl) T.z_len PySem.boot_len (pa_cons (pv 2) pa_nil)) pe_int (nomark _))))) (pss_cons (ps_set (i := 5) sc_cords.nd rfl (Or.inl rfl) (pe_ifExp (pt_cmpR op_eq (pe_call (ok_draw T) (hr.mono (by decide)) (by rfl) T.m_draw T.F_draw.kp T.b_draw .nil pass0 (pa_cons (pv 0) (pa_cons pe_int pa_nil))) pe_int (nomark _)) (pe_tup (pa_cons (pe_ix ix_tup (pv 1) (pv 4) (fun _ _ => rfl)) (pa_cons (pe_ix ix_tup (pv 1) (pv 3) (fun _ _ => rfl)) pa_nil))) (pe_tup (pa_cons (pe_ix ix_tup (pv 1) (pv 3) (fun _ _ => rfl)) (pa_cons (pe_ix ix_tup (pv 1) (pv 4) (fun _ _ => rfl)) pa_nil)))))
      (pss_one (ps_expr (pe_bm PySem.F.plainAttrs_list PySem.F.slot_list_append PySem.F.type_list_append mt_append (pv 2) (pa_cons (pe_op op_catT (pv 5) (pe_tup (pa_cons (pe_call (ok_one T) (hr.mono (by decide)) (by rfl) T.m_one T.F_one.kp T.b_one .nil pass0 (pa_cons (pv 0) (pa_cons (pe_lst (pa_cons pe_int (pa_cons pe_int (pa_cons pe_int (pa_cons pe_int (pa_cons pe_int (pa_cons pe_int (pa_cons pe_int pa_nil)))))))) pa_nil))) pa_nil))) pa_nil))))) pss_nil)))))
      (pss_one (ps_ret (pe_callTy call_tuple_of (by rfl) T.z_tuple (by decide +kernel) (pa_cons (pv 2) pa_nil)))))), ?_⟩
    walk_at "r"
    refine w_newL (by show 0 ≤ 100000; decide) fun D H1 nD e1 h1 => ?_
    have nb := bag_ne hb nD
    have lps : (ps.map V.str).length = ps.length := List.length_map ..
    walk_at "r"
    refine w_lenT (seqT_same e1 ht) ?_
    walk_at "r"
    refine ⟨ps.length, by rw [lps], by omega, by omega, for_leaf (walk_rng0 (n := ps.length)) (fun i σ' G => ∃ (as : List Addr) (es : List Tie3) (v3 v4 v5 : Option V), σ' = [some (.ref b), some (.ref t), some (.ref D), v3, v4, v5] ∧ Kp b H G ∧ G D = some (.lst (as.map V.ref)) ∧ as.length = es.length ∧ (∀ (i : Nat) (q : Addr) (u : Tie3), as[i]? = some q → es[i]? = some u → SqT K G q (tieV u)) ∧ Drawn ps es i 0)
      ⟨[], [], _, _, _, rfl, .of hb e1, h1, rfl, fun i q u h => by simp at h, ⟨by decide, fun t h => absurd h List.not_mem_nil, List.Pairwise.nil⟩⟩ (fun _ _ _ _ _ => trivial) ?_ ?_⟩
    · rintro i y σ' G G' hi ⟨as, es, v3, v4, v5, rfl, kp, hD, ll, rows, dr⟩ ⟨rfl, rfl⟩
      walk_at "r"
      refine ⟨(i : Int), rfl, by omega, by omega, for_leaf (walk_rng0 (n := i)) (fun j σ' G => ∃ (as : List Addr) (es : List Tie3) (v4 v5 : Option V), σ' = [some (.ref b), some (.ref t), some (.ref D), some (.int i), v4, v5] ∧ Kp b H G ∧ G D = some (.lst (as.map V.ref)) ∧ as.length = es.length ∧ (∀ (i : Nat) (q : Addr) (u : Tie3), as[i]? = some q → es[i]? = some u → SqT K G q (tieV u)) ∧ Drawn ps es i j)
        ⟨as, es, _, _, rfl, kp, hD, ll, rows, dr⟩ (fun _ _ _ _ _ => trivial) ?_ ?_⟩
      · rintro j y σ' G G' hj ⟨as, es, v4, v5, rfl, kp, hD, ll, rows, dr⟩ ⟨rfl, rfl⟩
        walk_at "r"
        refine draw_leaf kp.bag' (by show (0 : Int) < 5; decide) (by show (5 : Int) ≤ 10 ^ 12; decide) fun r G2 r0 r1 k2 => ?_
        walk_at "r"
        have kp2 := kp.trans k2
        have hD2 := k2.keep _ _ nb hD
        have rows2 : ∀ (i : Nat) (q : Addr) (u : Tie3), as[i]? = some q → es[i]? = some u → SqT K G2 q (tieV u) := fun i q u a b => k2.sqt (rows i q u a b)
        have la : (as.map V.ref).length ≤ 10 := by rw [List.length_map, ll]; exact dr.few
        refine w_iteD (fun c => ?_) (fun c => ?_)
        · walk_at "r"
          refine w_lenL (.inl (.inl hD2)) ?_
          walk_at "r"
          refine w_iteD (fun c10 => ?_) (fun c10 => ?_)
          · walk_at "r"
            have hx : ps[j]? = some (ps[j]'(by omega)) := List.getElem?_eq_getElem (by omega)
            have hy : ps[i]? = some ps[i] := List.getElem?_eq_getElem hi
            revert hx hy
            generalize ps[j]'(by omega) = x
            generalize ps[i] = y
            intro hx hy
            have vx : (ps.map V.str)[j]? = some (.str x) := by rw [List.getElem?_map, hx]; rfl
            have vy : (ps.map V.str)[i]? = some (.str y) := by rw [List.getElem?_map, hy]; rfl
            have ht2 := kp2.sqt ht
            refine w_cutV (fun v G' => ∃ q xx yy, v = .ref q ∧ Kp b G2 G' ∧ SqT K G' q [.str xx, .str yy] ∧ ((xx = x ∧ yy = y) ∨ (xx = y ∧ yy = x))) (fun Q' all => ?_) (fun v G3 hv => ?_)
            · refine w_tIf ?_
              walk_at "r"
              refine draw_leaf k2.bag' (by show (0 : Int) < 2; decide) (by show (2 : Int) ≤ 10 ^ 12; decide) fun r G3 r0 r1 k3 => ?_
              walk_at "r"
              have t3 := k3.sqt ht2
              refine w_iteD (fun c => ?_) (fun c => ?_)
              · walk_at "r"
                refine ⟨t, _, j, .str x, rfl, rfl, t3, atI_nat vx, ?_⟩
                walk_at "r"
                refine ⟨t, _, i, .str y, rfl, rfl, t3, atI_nat vy, ?_⟩
                walk_at "r"
                exact w_newT (by show 2 ≤ 100000; decide) fun q G4 nq e4 h4 => all _ _ ⟨q, x, y, rfl, k3.trans (.of k3.bag' e4), SqT.of h4, .inl ⟨rfl, rfl⟩⟩
              · walk_at "r"
                refine ⟨t, _, i, .str y, rfl, rfl, t3, atI_nat vy, ?_⟩
                walk_at "r"
                refine ⟨t, _, j, .str x, rfl, rfl, t3, atI_nat vx, ?_⟩
                walk_at "r"
                exact w_newT (by show 2 ≤ 100000; decide) fun q G4 nq e4 h4 => all _ _ ⟨q, y, x, rfl, k3.trans (.of k3.bag' e4), SqT.of h4, .inr ⟨rfl, rfl⟩⟩
            obtain ⟨q, xx, yy, rfl, k3, hq, hxy⟩ := hv
            walk_at "r"
            have hD3 := k3.keep _ _ nb hD2
            refine ⟨.inl ⟨rfl, _, .inl (.inl hD3)⟩, ?_⟩
            walk_at "r"
            refine w_newL (by show 7 ≤ 100000; decide) fun w7 G4 n4 e4 h4 => ?_
            walk_at "r"
            have k4 := k3.trans (.of k3.bag' e4)
            refine one_leaf k4.bag' h4 (bag_ne k3.bag' n4) (by decide) (by decide) fun v G5 hv k5 => ?_
            obtain ⟨z, rfl, z0, z1⟩ : ∃ z : Int, v = .int z ∧ 0 ≤ z ∧ z ≤ 20 := by
              simp only [List.mem_cons, List.not_mem_nil, or_false] at hv
              rcases hv with rfl | rfl | rfl | rfl | rfl | rfl | rfl <;> exact ⟨_, rfl, by decide, by decide⟩
            walk_at "r"
            refine w_newT (by show 1 ≤ 100000; decide) fun o1 G6 n6 e6 h6 => ?_
            have k6 := (k4.trans k5).trans (.of k5.bag' e6)
            have q6 := seqT_same e6 (k5.sqt (seqT_same e4 hq))
            have hD6 := k6.keep _ _ nb hD2
            refine ⟨q, o1, _, _, rfl, rfl, q6, SqT.of h6, by simp, (by show 2 + 1 ≤ sizeLine; decide), fun z => (by cases z), fun _ q7 n7 => ?_⟩
            have k7 := kp2.trans (k6.trans (.of k6.bag' (w_new (o := .tup ([.str xx, .str yy] ++ [.int z])) n7)))
            have hD7 := (w_new (o := .tup ([.str xx, .str yy] ++ [.int z])) n7) _ _ hD6
            walk_at "r"
            refine w_app hD7 (by omega) fun G8 g => ?_
            have g8 : ∀ {p xs}, SqT K G2 p xs → SqT K G8 p xs := fun h => g.same.sqt (k6.sqt h |> seqT_same (w_new (o := .tup ([.str xx, .str yy] ++ [.int z])) n7))
            have q8 : SqT K G8 q7 (tieV (xx, yy, z)) := g.same.sqt (SqT.of upd_same)
            have hr : ∀ (i : Nat) (q : Addr) (u : Tie3), (as ++ [q7])[i]? = some q → (es ++ [(xx, yy, z)])[i]? = some u → SqT K G8 q (tieV u) := fun i' q' u' ha he => by
              have va : (as.map V.ref ++ [V.ref q7])[i']? = some (.ref q') := by
                rw [show as.map V.ref ++ [V.ref q7] = (as ++ [q7]).map V.ref by rw [List.map_append]; rfl, List.getElem?_map, ha]
                rfl
              obtain ⟨a', e', s'⟩ := snoc_get2 (R := fun v u => ∃ a, v = V.ref a ∧ SqT K G8 a (tieV u)) (acc := as.map V.ref) (us := es) (by rw [List.length_map, ll]) (fun m v w hv hw => by
                obtain ⟨a', ha', rfl⟩ : ∃ a', as[m]? = some a' ∧ V.ref a' = v := by
                  rw [List.getElem?_map] at hv
                  cases e : as[m]? with
                  | none => rw [e] at hv; cases hv
                  | some a' => rw [e] at hv; exact ⟨a', rfl, Option.some.inj hv⟩
                exact ⟨a', rfl, g8 (rows2 m a' w ha' hw)⟩) ⟨q7, rfl, q8⟩ i' _ u' va he
              cases e'
              exact s'
            refine ⟨as ++ [q7], es ++ [(xx, yy, z)], _, _, rfl, KpGrown k7 nD nb g, by rw [g.at_, List.map_append]; rfl, by rw [List.length_append, List.length_append, ll]; rfl, hr, dr.snoc nd ?_ hj hx hy hxy z0 z1⟩
            rw [List.length_map] at c10
            omega
          · exact ⟨as, es, _, _, rfl, kp2, hD2, ll, rows2, dr.next⟩
        · exact ⟨as, es, _, _, rfl, kp2, hD2, ll, rows2, dr.next⟩
      · rintro σ' G ⟨as, es, v4, v5, rfl, kp, hD, ll, rows, dr⟩
        exact ⟨as, es, _, _, _, rfl, kp, hD, ll, rows, dr.line⟩
    · rintro σ' G ⟨as, es, v3, v4, v5, rfl, kp, hD, ll, rows, dr⟩
      walk_at "r"
      refine ⟨D, _, rfl, .inl ⟨.inl (.inl hD), fun u nu => ?_⟩⟩
      have e9 := w_new (o := .tup (as.map V.ref)) nu
      exact k u es _ (kp.trans (.of kp.bag' e9)) ⟨as, SqT.of upd_same, by rw [List.length_map]; exact ll, fun i q v ha hv => by
        obtain ⟨w', hw, rfl⟩ := map_atL hv
        exact seqT_same e9 (rows i q w' ha hw)⟩ (dr.good nd) fun t ht => (let ⟨_, _, _, _, _, _, _, _, _, _, h⟩ := dr.each t ht; h)
theorem cords_leaf {H : Hp} {Q : VK} {E : XK} {b t : Addr} {ps : List Str} (hb : Bag H b) (ht : SqT K H t (ps.map V.str)) (nd : ps.Nodup) (l6 : ps.length ≤ 6) (k : ∀ u es H', Kp b H H' → Rws K H' u (es.map tieV) → GoodTies ps es → (∀ t ∈ es, t.2.2 ≤ 20) → Q (.ref u) H') : spCords K [.ref b, .ref t] H Q E := ⟨b, t, ps, rfl, hb, ht, nd, l6, k⟩
/-! ### drawn puppets -/
/-- at t a drawn shape -/
structure Shp (K : PySem.W.Frag) (H : Hp) (t : Addr) (ps : List Str) (es : List Tie3) (hk : Str) (ls : List Ln3) : Prop where
  at_ : ∃ tp te tl, SqT K H t [.ref tp, .ref te, .str hk, .ref tl] ∧ SqT K H tp (ps.map V.str) ∧ Rws K H te (es.map tieV) ∧ Rws K H tl (ls.map lnV)
  good : GoodPup ps es hk ls
  p4 : ps.length ≤ 4
  h3 : hk.cps.size ≤ 3
  l4 : ls.length ≤ 4
  r20 : ∀ t ∈ es, t.2.2 ≤ 20
theorem pick {α β : Type} {ys : List α} {R : Nat → α → β → Prop} (h : ∀ (i : Nat) (v : α), ys[i]? = some v → ∃ u, R i v u) : ∃ us : List β, us.length = ys.length ∧ ∀ (i : Nat) (v : α) (u : β), ys[i]? = some v → us[i]? = some u → R i v u := by
  induction ys generalizing R with
  | nil => exact ⟨[], rfl, fun i v u hv => by simp at hv⟩
  | cons y r ih =>
    obtain ⟨u0, h0⟩ := h 0 y rfl
    obtain ⟨us, hl, hu⟩ := ih (R := fun i v u => R (i + 1) v u) fun i v hv => h (i + 1) v hv
    refine ⟨u0 :: us, by rw [List.length_cons, List.length_cons, hl], fun i v u hv hu' => ?_⟩
    cases i with
    | zero => cases hv; cases hu'; exact h0
    | succ i => exact hu i v u hv hu'
def spShape (K : PySem.W.Frag) : Sp := fun vs H Q _ => ∃ (b : Addr), vs = [.ref b] ∧ Bag H b ∧ ∀ t ps es hk ls H', Kp b H H' → Shp K H' t ps es hk ls → Q (.ref t) H'
theorem ok_shape (T : Txt K mg a) : FnOk P w K mg base CX0 4 a.f_shape a.d_shape ["_law_bag_here"] (spShape K) := by
  refine T.F_shape.ok sc_shape (fun vs H Q E h => ?_) (fun cdv A outer s H vs Q E hr h => ?_)
  · obtain ⟨b, rfl, _⟩ := h
    rfl
  · obtain ⟨b, rfl, hb, k⟩ := h
    refine ⟨_, (pss_cons (ps_set (i := 1) sc_shape.nd rfl (Or.inr rfl) (pe_call (ok_words T) (hr.mono (by decide)) (by rfl) T.m_words T.F_words.kp T.b_words .nil pass0 (pa_cons (pv 0) (pa_cons (pe_op op_add pe_int (pe_call (ok_draw T) (hr.mono (by decide)) (by rfl) T.m_draw T.F_draw.kp T.b_draw .nil pass0 (pa_cons (pv 0) (pa_cons pe_int pa_nil)))) pa_nil))))
      (pss_cons (ps_set (i := 2) sc_shape.nd rfl (Or.inr rfl) (pe_call (ok_letters T) (hr.mono (by decide)) (by rfl) T.m_letters T.F_letters.kp T.b_letters .nil pass0 (pa_cons (pv 0) (pa_cons pe_str (pa_cons (pe_op op_add pe_int (pe_call (ok_draw T) (hr.mono (by decide)) (by rfl) T.m_draw T.F_draw.kp T.b_draw .nil pass0 (pa_cons (pv 0) (pa_cons pe_int pa_nil)))) pa_nil)))))
      (pss_cons (ps_set (i := 3) sc_shape.nd rfl (Or.inl rfl) (pe_call (ok_letters T) (hr.mono (by decide)) (by rfl) T.m_letters T.F_letters.kp T.b_letters .nil pass0 (pa_cons (pv 0) (pa_cons pe_str (pa_cons (pe_op op_add pe_int (pe_call (ok_draw T) (hr.mono (by decide)) (by rfl) T.m_draw T.F_draw.kp T.b_draw .nil pass0 (pa_cons (pv 0) (pa_cons pe_int pa_nil)))) pa_nil)))))
      (pss_cons (ps_set (i := 4) sc_shape.nd rfl (Or.inl rfl) (pe_callTy call_tuple_of (by rfl) T.z_tuple (by decide +kernel) (pa_cons (pe_lc (own := [("_law_each", 5)]) (g := gName 5) (tt := tYes) rfl sc_shape.nd (pi_str (pv 3)) (blkOk_by (own := [("_law_each", 5)]) (N := ["_law_bag_here", "_law_limbs", "_law_pegs", "_law_called", "_law_lines", "_law_each"]) (sc := defScope s_shape) (by decide +kernel)) (fun _ _ _ _ _ => pg_name (i := 5) sc_shape.nd rfl (Or.inl rfl)) (fun _ _ _ _ _ => pts_nil) (fun _ _ _ _ _ => by exact (pe_tup (pa_cons (pv 5) (pa_cons (pe_call (ok_oneS T) (hr.mono (by decide)) (by rfl) T.m_one T.F_one.kp T.b_one .nil pass0 (pa_cons (pv 0) (pa_cons (pv 2) pa_nil))) (pa_cons (pe_call (ok_oneT T) (hr.mono (by decide)) (by rfl) T.m_one T.F_one.kp T.b_one .nil pass0 (pa_cons (pv 0) (pa_cons (pv 1) pa_nil))) pa_nil)))))) pa_nil)))
      (pss_one (ps_ret (pe_tup (pa_cons (pv 1) (pa_cons (pe_call (ok_cords T) (hr.mono (by decide)) (by rfl) T.m_cords T.F_cords.kp T.b_cords .nil pass0 (pa_cons (pv 0) (pa_cons (pv 1) pa_nil))) (pa_cons (pv 2) (pa_cons (pv 4) pa_nil))))))))))), ?_⟩
    walk_at "r"
    refine draw_leaf hb (by show (0 : Int) < 4; decide) (by show (4 : Int) ≤ 10 ^ 12; decide) fun r H1 r0 r1 k1 => ?_
    obtain ⟨m1, rfl⟩ := Int.eq_ofNat_of_zero_le r0
    walk_at "r"
    refine words_leaf (m := 1 + m1) k1.bag' (by omega) (by omega) fun tp ps H2 k2 hp lps gp => ?_
    walk_at "r"
    refine draw_leaf k2.bag' (by show (0 : Int) < 3; decide) (by show (3 : Int) ≤ 10 ^ 12; decide) fun r H3 r0 r2 k3 => ?_
    obtain ⟨m2, rfl⟩ := Int.eq_ofNat_of_zero_le r0
    walk_at "r"
    refine letters_leaf (m := 1 + m2) k3.bag' (by decide) (by decide) (by show 1 + m2 ≤ 11; omega) fun hk H4 k4 lh ch uh => ?_
    walk_at "r"
    refine draw_leaf k4.bag' (by show (0 : Int) < 4; decide) (by show (4 : Int) ≤ 10 ^ 12; decide) fun r H5 r0 r3 k5 => ?_
    obtain ⟨m3, rfl⟩ := Int.eq_ofNat_of_zero_le r0
    walk_at "r"
    refine letters_leaf (m := 1 + m3) k5.bag' (by decide) (by decide) (by show 1 + m3 ≤ 11; omega) fun cl H6 k6 lc cc uc => ?_
    have hp6 := k6.sqt (k5.sqt (k4.sqt (k3.sqt hp)))
    walk_at "r"
    refine ⟨cl, rfl, cmK k6.bag' walk_str (by omega) (fun _ _ => trivial) (fun i v G => ∃ u : Addr × Ln3, v = .ref u.1 ∧ SqT K G u.1 (lnV u.2) ∧ (∃ c, cl.cps[i]? = some c ∧ u.2.1 = sg c) ∧ (∃ d, u.2.2.1 = sg d ∧ d ∈ hk.cps.toList) ∧ u.2.2.2 ∈ ps) (fun i v G G' e ⟨u, h1, h2, h3⟩ => ⟨u, h1, e.sqt h2, h3⟩) (fun i x G G' hi kG hy Q' kq => ?_) (fun L ys H7 nL k7 h7 hn hP => ?_)⟩
    · obtain ⟨rfl, c, hc, rfl⟩ := hy
      refine ⟨rfl, ?_⟩
      walk_at "r"
      refine oneS_leaf kG.bag' (by omega) (by omega) fun d G2 hd k2 => ?_
      walk_at "r"
      refine oneT_leaf k2.bag' (k2.sqt (kG.sqt hp6)) (by rw [List.length_map]; omega) (by rw [List.length_map]; omega) fun v G3 hv k3 => ?_
      obtain ⟨q, mq, rfl⟩ := List.mem_map.mp hv
      walk_at "r"
      exact w_newT (by show 3 ≤ 100000; decide) fun u G4 n4 e4 h4 => kq _ _ ((k2.trans k3).trans (.of k3.bag' e4)) ⟨(u, sg c, sg d, q), rfl, SqT.of h4, ⟨c, hc, rfl⟩, ⟨d, rfl, hd⟩, mq⟩
    obtain ⟨us, lus, hus⟩ := pick hP
    have eys : ys = (us.map Prod.fst).map V.ref := List.ext_getElem? fun i => by
      rw [List.getElem?_map, List.getElem?_map]
      cases ey : ys[i]? with
      | none =>
        have : us[i]? = none := List.getElem?_eq_none_iff.mpr (by rw [lus]; exact List.getElem?_eq_none_iff.mp ey)
        rw [this]
        rfl
      | some v =>
        have hi : i < us.length := by rw [lus]; exact (List.getElem?_eq_some_iff.mp ey).1
        have eu := List.getElem?_eq_getElem hi
        rw [eu]
        exact congrArg some (hus i v _ ey eu).1
    have lsp : ∀ (i : Nat) (s : Ln3), (us.map Prod.snd)[i]? = some s → ∃ q, (us.map Prod.fst)[i]? = some q ∧ SqT K H7 q (lnV s) ∧ (∃ c, cl.cps[i]? = some c ∧ s.1 = sg c) ∧ (∃ d, s.2.1 = sg d ∧ d ∈ hk.cps.toList) ∧ s.2.2 ∈ ps := fun i s hs => by
      rw [List.getElem?_map] at hs
      cases eu : us[i]? with
      | none => rw [eu] at hs; cases hs
      | some u =>
        rw [eu] at hs
        cases hs
        have hi : i < ys.length := by rw [← lus]; exact (List.getElem?_eq_some_iff.mp eu).1
        have := hus i _ u (List.getElem?_eq_getElem hi) eu
        exact ⟨u.1, by rw [List.getElem?_map, eu]; rfl, this.2⟩
    walk_at "r"
    refine ⟨L, _, rfl, .inl ⟨.inl (.inl h7), fun tl n8 => ?_⟩⟩
    have e8 := w_new (o := .tup ys) n8
    have k8 : Kp b H6 (upd H7 tl (.tup ys)) := k7.trans (.of k7.bag' e8)
    walk_at "r"
    refine cords_leaf k8.bag' (k8.sqt hp6) gp.nd gp.few fun te es H9 k9 hes ges r20 => ?_
    walk_at "r"
    refine w_newT (by show 4 ≤ 100000; decide) fun t H10 n10 e10 h10 => ?_
    have ht9 : SqT K H9 tl (((us.map Prod.fst)).map V.ref) := by rw [← eys]; exact k9.sqt (SqT.of upd_same)
    refine k t ps es hk (us.map Prod.snd) H10 ((((((k1.trans k2).trans k3).trans k4).trans k5).trans k6).trans ((k8.trans k9).trans (.of k9.bag' e10))) ⟨⟨tp, te, tl, SqT.of h10, seqT_same e10 (k9.sqt (k8.sqt hp6)), hes.same e10, ⟨us.map Prod.fst, seqT_same e10 ht9, by rw [List.length_map, List.length_map, List.length_map], fun i q v ha hv => ?_⟩⟩, ⟨gp, ges, ?_, ?_⟩, by omega, by omega, ?_, r20⟩
    · rw [List.getElem?_map] at hv
      cases es' : (us.map Prod.snd)[i]? with
      | none => rw [es'] at hv; cases hv
      | some s =>
        rw [es'] at hv
        cases hv
        obtain ⟨q', hq', hs, _⟩ := lsp i s es'
        rw [ha] at hq'
        cases hq'
        exact seqT_same e10 (k9.sqt (seqT_same e8 hs))
    · refine ⟨by omega, by omega, fun c hc => ?_, fun i c d hc hd => ?_⟩
      · have := ch c hc
        have all : ∀ x ∈ ("ADFHKMPRSTW" : Str).cps.toList, 65 ≤ x ∧ x ≤ 90 := by decide
        exact all c this
      · have := List.pairwise_iff_getElem.mp uh i (i + 1) (by have := (Array.getElem?_eq_some_iff.mp hc).1; rw [Array.length_toList]; exact this) (by have := (Array.getElem?_eq_some_iff.mp hd).1; rw [Array.length_toList]; exact this) (by omega)
        obtain ⟨_, rfl⟩ := Array.getElem?_eq_some_iff.mp hc
        obtain ⟨_, rfl⟩ := Array.getElem?_eq_some_iff.mp hd
        simpa using this
    · have len : (us.map Prod.snd).length = 1 + m3 := by rw [List.length_map, lus, hn, lc]
      refine ⟨by omega, by omega, fun s hs => ?_, fun s hs => ?_, fun s hs => ?_, fun i s u hs hu => ?_⟩
      · obtain ⟨i, hi⟩ := List.getElem?_of_mem hs
        obtain ⟨_, _, _, ⟨c, hc, e⟩, _⟩ := lsp i s hi
        have mc := cc c (Array.mem_toList_iff.mpr (Array.mem_of_getElem? hc))
        have all : ∀ x ∈ ("abcefgmnxyz" : Str).cps.toList, 97 ≤ x ∧ x ≤ 122 := by decide
        exact ⟨c, e, (all c mc).1, (all c mc).2⟩
      · obtain ⟨i, hi⟩ := List.getElem?_of_mem hs
        obtain ⟨_, _, _, _, ⟨d, e, md⟩, _⟩ := lsp i s hi
        exact ⟨d, e, md⟩
      · obtain ⟨i, hi⟩ := List.getElem?_of_mem hs
        exact (lsp i s hi).choose_spec.2.2.2.2
      · obtain ⟨_, _, _, ⟨c, hc, e⟩, _⟩ := lsp i s hs
        obtain ⟨_, _, _, ⟨d, hd, e'⟩, _⟩ := lsp (i + 1) u hu
        have := List.pairwise_iff_getElem.mp uc i (i + 1) (by have := (Array.getElem?_eq_some_iff.mp hc).1; rw [Array.length_toList]; exact this) (by have := (Array.getElem?_eq_some_iff.mp hd).1; rw [Array.length_toList]; exact this) (by omega)
        obtain ⟨_, rfl⟩ := Array.getElem?_eq_some_iff.mp hc
        obtain ⟨_, rfl⟩ := Array.getElem?_eq_some_iff.mp hd
        rw [e, e']
        exact of_decide_eq_true ((lt1 _ _).trans (decide_eq_true (by simpa using this)))
    · rw [List.length_map, lus, hn, lc]
      omega
theorem shape_leaf {H : Hp} {Q : VK} {E : XK} {b : Addr} (hb : Bag H b) (k : ∀ t ps es hk ls H', Kp b H H' → Shp K H' t ps es hk ls → Q (.ref t) H') : spShape K [.ref b] H Q E := ⟨b, rfl, hb, k⟩
theorem Shp.kp {H H' : Hp} {b t : Addr} {ps : List Str} {es : List Tie3} {hk : Str} {ls : List Ln3} (s : Shp K H t ps es hk ls) (e : SameT H H') : Shp K H' t ps es hk ls :=
  let ⟨tp, te, tl, h1, h2, h3, h4⟩ := s.at_; ⟨⟨tp, te, tl, e.sqt h1, e.sqt h2, h3.sameT e, h4.sameT e⟩, s.good, s.p4, s.h3, s.l4, s.r20⟩
end
end RK7


namespace RK7
open PySem PySem.Spec L2 RK RZ StX PyProof.Rows
section
variable {P : Program} {w : World} {K : PySem.W.Frag} {mg : Str → Option Value} {base : Heap} {a : Ad}
/-! ### distances are symmetric, and not too large -/
theorem wk_symm {E : List Tie3} {p q : Str} {n : Int} (h : RPath.Wk E p q n) : RPath.Wk E q p n := by
  induction h with
  | nil => exact .nil _
  | @fwd u v n w _ m ih =>
    have := RPath.Wk.cat (.bwd (.nil v) m) ih
    rw [show n + w = 0 + w + n by omega]
    exact this
  | @bwd u v n w _ m ih =>
    have := RPath.Wk.cat (.fwd (.nil v) m) ih
    rw [show n + w = 0 + w + n by omega]
    exact this
theorem dist_symm {ps : List Str} {es : List Tie3} (g1 : GoodParts ps) (g : GoodTies ps es) {p q : Str} (hp : p ∈ ps) (hq : q ∈ ps) : dist ps es p q = dist ps es q p :=
  (dist_exact g1 g).uniq (e := fun a b => dist ps es b a) ⟨fun p q x e => wk_symm ((dist_exact g1 g).sound _ _ _ e), fun p q n hp hq w => (dist_exact g1 g).least q p n hq hp (wk_symm w)⟩ hp hq
def Bd (k : Nat) (d : RPath.Tab Str) : Prop := ∀ p q x, d p q = some x → x ≤ ((2 ^ k : Nat) : Int)
theorem pow_up {j k : Nat} (h : j ≤ k) {x : Int} (l : x ≤ ((2 ^ j : Nat) : Int)) : x ≤ ((2 ^ k : Nat) : Int) := Int.le_trans l (Int.ofNat_le.mpr (Nat.pow_le_pow_right (by decide) h))
theorem Bd.up {j k : Nat} {d : RPath.Tab Str} (b : Bd j d) (h : j ≤ k) : Bd k d := fun p q x e => pow_up h (b p q x e)
theorem Bd.put {k : Nat} {d : RPath.Tab Str} (b : Bd k d) {p q : Str} {x : Int} (h : x ≤ ((2 ^ k : Nat) : Int)) : Bd k (RPath.put d p q x) := fun a c y e => by
  by_cases z : a = p ∧ c = q
  · rw [z.1, z.2, RPath.put_same] at e
    cases e
    exact h
  · rw [RPath.put_ne d x z] at e
    exact b a c y e
theorem Bd.short {k : Nat} {d : RPath.Tab Str} (b : Bd k d) (p m q : Str) : Bd (k + 1) (RPath.short d p m q) := by
  have up := b.up (Nat.le_succ k)
  unfold RPath.short
  cases h1 : d p m with
  | none => exact up
  | some x =>
    cases h2 : d m q with
    | none => exact up
    | some y =>
      have s : x + y ≤ ((2 ^ (k + 1) : Nat) : Int) := by
        have := b _ _ _ h1
        have := b _ _ _ h2
        rw [Nat.pow_succ]
        omega
      show Bd (k + 1) (RPath.low d p q (x + y))
      unfold RPath.low
      cases h3 : d p q with
      | none => exact up.put s
      | some c =>
        show Bd (k + 1) (if x + y < c then _ else _)
        by_cases l : x + y < c
        · rw [if_pos l]
          exact up.put s
        · rw [if_neg l]
          exact up
theorem bd_fold {β : Type} (f : RPath.Tab Str → β → RPath.Tab Str) (c : Nat) (h : ∀ d b k, Bd k d → Bd (k + c) (f d b)) : ∀ (l : List β) (d : RPath.Tab Str) (k : Nat), Bd k d → Bd (k + c * l.length) (l.foldl f d)
  | [], d, k, b => b
  | x :: l, d, k, b => by
    have := bd_fold f c h l (f d x) (k + c) (h d x k b)
    rw [show k + c + c * l.length = k + c * (x :: l).length by rw [List.length_cons, Nat.mul_succ]; omega] at this
    exact this
theorem dist_bd {ps : List Str} {es : List Tie3} (g1 : GoodParts ps) (g : GoodTies ps es) : Bd 300 (dist ps es) := by
  have b0 : Bd 20 (RPath.dia ps) := fun p q x e => by
    rw [RPath.dia_at] at e
    by_cases c : p = q ∧ p ∈ ps
    · rw [if_pos c] at e
      cases e
      exact Int.ofNat_nonneg _
    · rw [if_neg c] at e
      cases e
  have b1 : Bd 20 (RPath.ini ps es) := by
    have : ∀ (l : List Tie3) (d : RPath.Tab Str), (∀ t ∈ l, t.2.2 ≤ 1000000) → Bd 20 d → Bd 20 (l.foldl RPath.tie2 d) := fun l => by
      induction l with
      | nil => exact fun d _ b => b
      | cons t l ih =>
        intro d hl b
        have h1 : t.2.2 ≤ ((2 ^ 20 : Nat) : Int) := Int.le_trans (hl t List.mem_cons_self) (by decide)
        exact ih _ (fun u hu => hl u (List.mem_cons_of_mem _ hu)) ((b.put h1).put h1)
    exact this es _ g.most b0
  have n1 := g1.few
  have p1 : ∀ d p m k, Bd k d → Bd (k + 6) (RPath.pass1 ps d p m) := fun d p m k b => (bd_fold (fun d q => RPath.short d p m q) 1 (fun d q k b => b.short p m q) ps d k b).up (by omega)
  have p2 : ∀ d m k, Bd k d → Bd (k + 36) (RPath.pass2 ps ps d m) := fun d m k b => (bd_fold (fun d p => RPath.pass1 ps d p m) 6 (fun d p k b => p1 d p m k b) ps d k b).up (by omega)
  exact (bd_fold (fun d m => RPath.pass2 ps ps d m) 36 (fun d m k b => p2 d m k b) ps _ 20 b1).up (by omega)
theorem w_din {σ : L2.St} {H : Hp} {Q : VK} {td ty : TE} (h : ty σ H fun y H1 => td σ H1 fun x H2 => ∃ a o, x = .ref a ∧ DGet H2 a y o ∧ Q (.bl o.isSome) H2) : tDIn ty td σ H Q := h
theorem w_dnin {σ : L2.St} {H : Hp} {Q : VK} {td ty : TE} (h : ty σ H fun y H1 => td σ H1 fun x H2 => ∃ a o, x = .ref a ∧ DGet H2 a y o ∧ Q (.bl (!o.isSome)) H2) : tDNotIn ty td σ H Q := h
theorem w_dnewT {σ : L2.St} {H : Hp} {Q : VK} (h : ∀ p, H p = none → Q (.ref p) (upd H p (.dT []))) : tDNewT σ H Q := h
local macro_rules | `(tactic| walk_at "s") => `(tactic| first | with_reducible refine w_din ?_ | with_reducible refine w_dnin ?_)
theorem in_leafT {D b : Addr} {H : Hp} {R : Option V → Prop} {d : RPath.Tab Str} {p q : Str} {n : Nat} (h : Dt H D d n) (hb : H b = some (.tup [.str p, .str q])) (k : R ((d p q).map V.int)) : ∃ a o, V.ref D = .ref a ∧ DGet H a (.ref b) o ∧ R o := by
  obtain ⟨kvs, hD, tb, hz⟩ := h.ex
  exact ⟨D, _, rfl, DGet.t (k := [.inr p, .inr q]) hD hb, by rw [tb]; exact k⟩
theorem sub_leafT {D b : Addr} {H : Hp} {R : V → Prop} {d : RPath.Tab Str} {p q : Str} {n : Nat} {x : Int} (h : Dt H D d n) (hb : H b = some (.tup [.str p, .str q])) (e : d p q = some x) (k : R (.int x)) : ∃ a v, V.ref D = .ref a ∧ DGet H a (.ref b) (some v) ∧ R v := by
  obtain ⟨kvs, hD, tb, hz⟩ := h.ex
  refine ⟨D, .int x, rfl, ?_, k⟩
  have := DGet.t (k := [.inr p, .inr q]) hD hb
  rw [tb, e] at this
  exact this
/-! ### what the laws reckon for themselves: the least sums, by rounds -/
/-- the two halves of a tie, one behind the other -/
def stp (d : RPath.Tab Str) (p : Str) (u : Tie3) : Nat → RPath.Tab Str
  | 0 => d
  | 1 => RPath.relax d p u.1 u.2.1 u.2.2
  | _ => RPath.both d p u
def spFar (K : PySem.W.Frag) : Sp := fun vs H Q _ => ∃ (t : Addr) (ps : List Str) (es : List Tie3) (hk : Str) (ls : List Ln3), vs = [.ref t] ∧ Shp K H t ps es hk ls ∧
  ∀ D d H', H D = none → Same H H' → Dt H' D d 800 → (∀ p q, p ∈ ps → q ∈ ps → d p q = dist ps es p q) → Q (.ref D) H'
theorem ok_far (T : Txt K mg a) : FnOk P w K mg base CX0 1 a.f_far a.d_far ["_law_shape_here"] (spFar K) := by
  refine T.F_far.ok sc_far (fun vs H Q E h => ?_) (fun cdv A outer s H vs Q E hr h => ?_)
  · obtain ⟨t, ps, es, hk, ls, rfl, _⟩ := h
    rfl
  · obtain ⟨t, ps, es, hk, ls, rfl, sh, k⟩ := h
    obtain ⟨tp, te, tl, ht, hp, ⟨as, hu, hl, hrow⟩, _⟩ := id sh.at_
    have ml : (ps.map V.str).length = ps.length := List.length_map ..
    have hl2 : as.length = es.length := by rw [hl, List.length_map]
    have h6 := sh.good.parts.few
    have h10 := sh.good.ties.few
    refine ⟨_, (pss_cons (ps_set (i := 1) sc_far.nd rfl (Or.inl rfl) pe_dnewT)
      (pss_cons (ps_for PassesOwn.never rfl (pi_tup (pe_ix ix_tup (pv 0) pe_int (fun _ _ => rfl))) (pg_name (i := 2) sc_far.nd rfl (Or.inl rfl)) (pss_one (ps_asg pe_int (pg_sub (pv 1) (pe_tup (pa_cons (pv 2) (pa_cons (pv 2) pa_nil))) (set_dict (hu_of hr))))))
      (pss_cons (ps_for PassesOwn.never rfl (pi_range1 (by rfl) T.z_range (pa_cons (pe_callB cr_len (by rfl) T.z_len PySem.boot_len (pa_cons (pe_ix ix_tup (pv 0) pe_int (fun _ _ => rfl)) pa_nil)) pa_nil)) (pg_name (i := 3) sc_far.nd rfl (Or.inl rfl)) (pss_one (ps_for PassesOwn.never rfl (pi_tup (pe_ix ix_tup (pv 0) pe_int (fun _ _ => rfl))) (pg_tup rfl (pgs_cons (pg_name (i := 4) sc_far.nd rfl (Or.inl rfl)) (pgs_cons (pg_name (i := 5) sc_far.nd rfl (Or.inl rfl)) (pgs_cons (pg_name (i := 6) sc_far.nd rfl (Or.inl rfl)) pgs_nil)))) (pss_one (ps_for PassesOwn.never rfl (pi_tup (pe_ix ix_tup (pv 0) pe_int (fun _ _ => rfl))) (pg_name (i := 2) sc_far.nd rfl (Or.inl rfl)) (pss_one (ps_for PassesOwn.never rfl (pi_list (pe_lst (pa_cons (pe_tup (pa_cons (pv 4) (pa_cons (pv 5) pa_nil))) (pa_cons (pe_tup (pa_cons (pv 5) (pa_cons (pv 4) pa_nil))) pa_nil)))) (pg_tup rfl (pgs_cons (pg_name (i := 7) sc_far.nd rfl (Or.inl rfl)) (pgs_cons (pg_name (i := 8) sc_far.nd rfl (Or.inl rfl)) pgs_nil))) (pss_one (ps_if (pt_cmp (pc_din (hu_of hr) (pe_tup (pa_cons (pv 2) (pa_cons (pv 7) pa_nil))) (pv 1))) (pss_cons (ps_set (i := 9) sc_far.nd rfl (Or.inl rfl) (pe_op op_add (pe_dget (hu_of hr) (pv 1) (pe_tup (pa_cons (pv 2) (pa_cons (pv 7) pa_nil))) (fun _ _ => rfl)) (pv 6)))
      (pss_one (ps_if (PW.pt (pw_or (pt_cmp (pc_dnotin (hu_of hr) (pe_tup (pa_cons (pv 2) (pa_cons (pv 8) pa_nil))) (pv 1))) (pw_or1 (pt_cmpR op_lt (pv 9) (pe_dget (hu_of hr) (pv 1) (pe_tup (pa_cons (pv 2) (pa_cons (pv 8) pa_nil))) (fun _ _ => rfl)) (nomark _))))) (pss_one (ps_asg (pv 9) (pg_sub (pv 1) (pe_tup (pa_cons (pv 2) (pa_cons (pv 8) pa_nil))) (set_dict (hu_of hr))))) pss_nil))) pss_nil)))))))))
      (pss_one (ps_ret (pv 1)))))), ?_⟩
    walk_at "r"
    refine w_dnewT fun D nD => ?_
    have eD := w_new (o := .dT []) nD
    walk_at "r"
    refine ⟨t, _, 0, .ref tp, rfl, rfl, seqT_same eD ht, rfl, tp, rfl, ⟨_, seqT_same eD hp⟩, for_leaf (walk_tup (xs := ps.map V.str)) (fun i σ' G => Same H G ∧ Dt G D ((ps.take i).foldl (fun d p => RPath.put d p p 0) fun _ _ => none) i ∧ ∃ v2, σ' = [some (.ref t), some (.ref D), v2, none, none, none, none, none, none, none]) ⟨eD, ⟨[], upd_same, fun _ _ => rfl, Nat.le_refl _⟩, _, rfl⟩ (fun i σ' G _ ⟨e, _⟩ => seqT_same e hp) ?_ ?_⟩
    · rintro i x σ' G G' hi ⟨e, dt, v2, rfl⟩ ⟨rfl, hx⟩
      obtain ⟨p, hpp, rfl⟩ := map_at hx
      walk_at "r"
      refine w_newT (by show 2 ≤ 100000; decide) fun t1 H1 n1 e1 h1 => ?_
      have ib : i < 6 := by omega
      refine put_leafT (dt.same e1) (by omega) h1 fun H2 dt2 b2 => ?_
      refine ⟨fun c o h => b2 c o (ne_of_none h nD) ((e.trans e1) c o h), dt2.eqT ?_, _, rfl⟩
      rw [take_snoc hpp, List.foldl_append]
      rfl
    rintro σ' G0 ⟨e0, dt0, v2, rfl⟩
    rw [ml, List.take_length] at dt0
    have dt0 : Dt G0 D (RPath.dia ps) 6 := (show Dt G0 D (RPath.dia ps) ps.length from dt0).mono h6
    walk_at "r"
    refine ⟨t, _, 0, .ref tp, rfl, rfl, seqT_same e0 ht, rfl, ?_⟩
    walk_at "r"
    refine w_lenT (seqT_same e0 hp) ?_
    walk_at "r"
    refine ⟨ps.length, by rw [ml], by omega, by omega, for_leaf (walk_rng0 (n := ps.length)) (fun i σ' G => Same H G ∧ Dt G D (RPath.tours es ps (RPath.dia ps) i) (6 + 120 * i) ∧ ∃ v2 v3 v4 v5 v6 v7 v8 v9, σ' = [some (.ref t), some (.ref D), v2, v3, v4, v5, v6, v7, v8, v9]) ⟨e0, dt0, _, _, _, _, _, _, _, _, rfl⟩ (fun _ _ _ _ _ => trivial) ?_ ?_⟩
    · rintro i x σ' G G' hi ⟨e, dt, v2, v3, v4, v5, v6, v7, v8, v9, rfl⟩ ⟨rfl, rfl⟩
      have ib : i < 6 := by omega
      walk_at "r"
      refine ⟨t, _, 1, .ref te, rfl, rfl, seqT_same e ht, rfl, te, rfl, ⟨_, seqT_same e hu⟩, for_leaf (walk_tup (xs := as.map V.ref)) (fun j σ' G => Same H G ∧ Dt G D (RPath.tour (es.take j) ps (RPath.tours es ps (RPath.dia ps) i)) (6 + 120 * i + 12 * j) ∧ ∃ v2 v3 v4 v5 v6 v7 v8 v9, σ' = [some (.ref t), some (.ref D), v2, v3, v4, v5, v6, v7, v8, v9]) ⟨e, dt, _, _, _, _, _, _, _, _, rfl⟩ (fun j σ' G _ ⟨e, _⟩ => seqT_same e hu) ?_ ?_⟩
      · rintro j x σ' G G' hj ⟨e, dt, v2, v3, v4, v5, v6, v7, v8, v9, rfl⟩ ⟨rfl, hx⟩
        obtain ⟨r, v, rfl, hv, hrr⟩ := rows_at hl hrow hx
        obtain ⟨u, hu', rfl⟩ := map_atL hv
        have jb : j < 10 := by rw [List.length_map] at hj; omega
        refine g_three (seqT_same e hrr) ?_
        walk_at "r"
        refine ⟨t, _, 0, .ref tp, rfl, rfl, seqT_same e ht, rfl, tp, rfl, ⟨_, seqT_same e hp⟩, for_leaf (walk_tup (xs := ps.map V.str)) (fun l σ' G => Same H G ∧ Dt G D (RPath.tour1 (ps.take l) (RPath.tour (es.take j) ps (RPath.tours es ps (RPath.dia ps) i)) u) (6 + 120 * i + 12 * j + 2 * l) ∧ ∃ v2 v7 v8 v9, σ' = [some (.ref t), some (.ref D), v2, v3, some (.str u.1), some (.str u.2.1), some (.int u.2.2), v7, v8, v9]) ⟨e, dt, _, _, _, _, rfl⟩ (fun j σ' G _ ⟨e, _⟩ => seqT_same e hp) ?_ ?_⟩
        · rintro l x σ' G G' hl3 ⟨e, dt, v2, v7, v8, v9, rfl⟩ ⟨rfl, hx⟩
          obtain ⟨p, hpp, rfl⟩ := map_at hx
          have lb : l < 6 := by rw [List.length_map] at hl3; omega
          walk_at "r"
          refine w_newT (by show 2 ≤ 100000; decide) fun t1 H1 n1 e1 h1 => ?_
          walk_at "r"
          refine w_newT (by show 2 ≤ 100000; decide) fun t2 H2 n2 e2 h2 => ?_
          walk_at "r"
          refine w_newL (by show 2 ≤ 100000; decide) fun L H3 n3 e3 h3 => ?_
          have e03 := e.trans ((e1.trans e2).trans e3)
          have dt3 := dt.same ((e1.trans e2).trans e3)
          have h1' := e3 _ _ (e2 _ _ h1)
          have h2' := e3 _ _ h2
          have ed : RPath.tour1 (ps.take (l + 1)) (RPath.tour (es.take j) ps (RPath.tours es ps (RPath.dia ps) i)) u = RPath.both (RPath.tour1 (ps.take l) (RPath.tour (es.take j) ps (RPath.tours es ps (RPath.dia ps) i)) u) p u := by
            unfold RPath.tour1
            rw [take_snoc hpp, List.foldl_append]
            rfl
          rw [ed]
          revert dt3
          generalize RPath.tour1 (ps.take l) (RPath.tour (es.take j) ps (RPath.tours es ps (RPath.dia ps) i)) u = d
          intro dt3
          have hD3 : ∃ kvs, H3 D = some (.dT kvs) := let ⟨kvs, a, _⟩ := dt3.ex; ⟨kvs, a⟩
          refine ⟨L, rfl, ⟨_, .inl (.inl h3)⟩, for_leaf (walk_list (xs := [.ref t1, .ref t2])) (fun m σ' G => But D H3 G ∧ Dt G D (stp d p u m) (6 + 120 * i + 12 * j + 2 * l + m) ∧ ∃ v7 v8 v9, σ' = [some (.ref t), some (.ref D), some (.str p), v3, some (.str u.1), some (.str u.2.1), some (.int u.2.2), v7, v8, v9]) ⟨.refl D H3, dt3, _, _, _, rfl⟩ (fun m σ' G _ ⟨b, _⟩ => .inl (.inl (b _ _ (fun z => by obtain ⟨kvs, a⟩ := hD3; rw [z, a] at h3; cases h3) h3))) ?_ ?_⟩
          · rintro m z σ' G G' hm ⟨b, dt, v7, v8, v9, rfl⟩ ⟨rfl, hz⟩
            obtain ⟨q, x, y, rfl, hq, hs⟩ : ∃ q x y, z = .ref q ∧ H3 q = some (.tup [.str x, .str y]) ∧ stp d p u (m + 1) = RPath.relax (stp d p u m) p x y u.2.2 := by
              match m, hz with
              | 0, hz => cases hz; exact ⟨t1, _, _, rfl, h1', rfl⟩
              | 1, hz => cases hz; exact ⟨t2, _, _, rfl, h2', rfl⟩
            have mb : m < 2 := hm
            have qD : q ≠ D := fun z => by obtain ⟨kvs, a⟩ := hD3; rw [z, a] at hq; cases hq
            rw [hs]
            revert dt
            generalize stp d p u m = c
            intro dt
            refine g_twoT (SqT.of (b _ _ qD hq)) ?_
            walk_at "r"
            refine w_newT (by show 2 ≤ 100000; decide) fun k1 G1 m1 f1 g1 => ?_
            walk_at "r"
            refine in_leafT (dt.same f1) g1 ?_
            cases ex : c p x with
            | none =>
              refine ⟨false, rfl, iteF ?_⟩
              walk_at "r"
              exact ⟨b.trans (.of f1), ((dt.same f1).eqT (by unfold RPath.relax; rw [ex])).mono (by omega), _, _, _, rfl⟩
            | some a =>
              refine ⟨true, rfl, iteT ?_⟩
              walk_at "r"
              refine w_newT (by show 2 ≤ 100000; decide) fun k2 G2 m2 f2 g2 => ?_
              refine sub_leafT (dt.same (f1.trans f2)) g2 ex ?_
              walk_at "r"
              refine w_newT (by show 2 ≤ 100000; decide) fun k3 G3 m3 f3 g3 => ?_
              walk_at "r"
              have f13 := (f1.trans f2).trans f3
              refine in_leafT (dt.same f13) g3 ?_
              have rx : RPath.relax c p x y u.2.2 = RPath.low c p y (a + u.2.2) := by unfold RPath.relax; rw [ex]
              rw [rx]
              cases ey : c p y with
              | none =>
                refine ⟨true, rfl, iteT (iteT ?_)⟩
                walk_at "r"
                refine w_newT (by show 2 ≤ 100000; decide) fun k4 G4 m4 f4 g4 => ?_
                refine put_leafT (dt.same (f13.trans f4)) (by omega) g4 fun G5 dt5 b5 => ?_
                exact ⟨(b.trans (.of (f13.trans f4))).trans b5, (dt5.eqT (by unfold RPath.low; rw [ey])).mono (by omega), _, _, _, rfl⟩
              | some o =>
                refine ⟨false, rfl, iteF ?_⟩
                walk_at "r"
                refine w_newT (by show 2 ≤ 100000; decide) fun k4 G4 m4 f4 g4 => ?_
                refine sub_leafT (dt.same (f13.trans f4)) g4 ey ?_
                walk_at "r"
                refine w_iteD (fun lt => ?_) (fun lt => ?_)
                · walk_at "r"
                  refine w_newT (by show 2 ≤ 100000; decide) fun k5 G5 m5 f5 g5 => ?_
                  refine put_leafT (dt.same ((f13.trans f4).trans f5)) (by omega) g5 fun G6 dt6 b6 => ?_
                  exact ⟨(b.trans (.of ((f13.trans f4).trans f5))).trans b6, (dt6.eqT (by unfold RPath.low; rw [ey]; exact (if_pos lt).symm)).mono (by omega), _, _, _, rfl⟩
                · exact ⟨b.trans (.of (f13.trans f4)), ((dt.same (f13.trans f4)).eqT (by unfold RPath.low; rw [ey]; exact (if_neg lt).symm)).mono (by omega), _, _, _, rfl⟩
          · rintro σ' G ⟨b, dt, v7, v8, v9, rfl⟩
            refine ⟨fun c o h => b c o (ne_of_none h nD) (e03 c o h), dt, _, _, _, _, rfl⟩
        · rintro σ' G ⟨e, dt, v2, v7, v8, v9, rfl⟩
          rw [ml, List.take_length] at dt
          refine ⟨e, (dt.eqT ?_).mono (by omega), _, _, _, _, _, _, _, _, rfl⟩
          unfold RPath.tour
          rw [take_snoc hu', List.foldl_append]
          rfl
      · rintro σ' G ⟨e, dt, v2, v3, v4, v5, v6, v7, v8, v9, rfl⟩
        rw [List.length_map, hl2, List.take_length] at dt
        exact ⟨e, (dt.eqT rfl).mono (by omega), _, _, _, _, _, _, _, _, rfl⟩
    · rintro σ' G ⟨e, dt, v2, v3, v4, v5, v6, v7, v8, v9, rfl⟩
      walk_at "r"
      refine k D _ G nD e (dt.mono (by omega)) fun p q mp mq => ?_
      refine RPath.tours_exact sh.good.ties.pos (fun t ht => ⟨sh.good.ties.in1 t ht, sh.good.ties.in2 t ht⟩) (dist_exact sh.good.parts sh.good.ties) (fun p q x e => ?_) (fun l hl => ?_) mp mq
      · rw [RPath.dia_at] at e
        by_cases c : p = q ∧ p ∈ ps
        · rw [if_pos c] at e
          cases e
          rw [c.1]
          exact .nil _
        · rw [if_neg c] at e
          cases e
      · rw [RPath.dia_at, if_pos ⟨rfl, hl⟩]
end
end RK7


namespace RK7
open PySem PySem.Spec L2 RK RZ StX PyProof.Rows
section
variable {P : Program} {w : World} {K : PySem.W.Frag} {mg : Str → Option Value} {base : Heap} {a : Ad}
local macro_rules | `(tactic| walk_at "s") => `(tactic| first | with_reducible refine w_din ?_ | with_reducible refine w_dnin ?_)
theorem kb_Puppet_distance (T : Txt K mg a) : KBn K a.d_Puppet_distance ["self", "part", "other"] 1 ["other", "part"] (fun us ws => match us, ws with | [s], [o, p] => [s, p, o] | _, _ => []) (fun vs zs => match vs, zs with | [s], [o, p] => [s, p, o] | _, _ => []) := by
  obtain ⟨oc, od, kV, doc, pm, an, cdv, ct, osl, e, _⟩ := T.F_Puppet_distance.ex
  rw [e]
  exact ⟨fun s us ws _ h1 h2 => match us, ws, h1, h2 with | [_], [_, _], _, _ => .of_eq rfl, fun r1 r2 => by
    cases r1 with
    | nil => exact .nil
    | cons r1 r1' => cases r1' with
      | cons _ _ => exact .nil
      | nil => cases r2 with
        | nil => exact .nil
        | cons q1 r2 => cases r2 with
          | nil => exact .nil
          | cons q2 r2 => cases r2 with
            | nil => exact .cons r1 (.cons q2 (.cons q1 .nil))
            | cons _ _ => exact .nil⟩
theorem kb_Puppet_has_way (T : Txt K mg a) : KBn K a.d_Puppet_has_way ["self", "hook", "part"] 1 ["part", "hook"] (fun us ws => match us, ws with | [s], [o, p] => [s, p, o] | _, _ => []) (fun vs zs => match vs, zs with | [s], [o, p] => [s, p, o] | _, _ => []) := by
  obtain ⟨oc, od, kV, doc, pm, an, cdv, ct, osl, e, _⟩ := T.F_Puppet_has_way.ex
  rw [e]
  exact ⟨fun s us ws _ h1 h2 => match us, ws, h1, h2 with | [_], [_, _], _, _ => .of_eq rfl, fun r1 r2 => by
    cases r1 with
    | nil => exact .nil
    | cons r1 r1' => cases r1' with
      | cons _ _ => exact .nil
      | nil => cases r2 with
        | nil => exact .nil
        | cons q1 r2 => cases r2 with
          | nil => exact .nil
          | cons q2 r2 => cases r2 with
            | nil => exact .cons r1 (.cons q2 (.cons q1 .nil))
            | cons _ _ => exact .nil⟩
/-- a small value, and the data it is -/
def SmV (v : V) (d : PyData) : Prop := (v = .non ∧ d = .none) ∨ (∃ b, v = .bl b ∧ d = .bool b) ∨ ∃ i : Int, v = .int i ∧ d = .int i ∧ i.natAbs.log2 < 1900
def optD (o : Option Int) : PyData := match o with | none => .none | some x => .int x
theorem SmV.dp {K : PySem.W.Frag} {H : Hp} {v : V} {d : PyData} (s : SmV v d) : Dp K H v d := by
  rcases s with ⟨rfl, rfl⟩ | ⟨b, rfl, rfl⟩ | ⟨i, rfl, rfl, _⟩
  · exact .non
  · exact .bl b
  · exact .int i
theorem SmV.ok {v : V} {d : PyData} (s : SmV v d) : d.showable = true ∧ d.hasDict = false ∧ d.depth ≤ 1 ∧ d.shown.length ≤ 1901 := by
  rcases s with ⟨rfl, rfl⟩ | ⟨b, rfl, rfl⟩ | ⟨i, rfl, rfl, h⟩
  · exact ⟨by simp [PyData.showable], by simp [PyData.hasDict], by simp [PyData.depth], by simp only [PyData.shown]; decide⟩
  · exact ⟨by simp [PyData.showable], by simp [PyData.hasDict], by simp [PyData.depth], by cases b <;> simp only [PyData.shown] <;> decide⟩
  · refine ⟨by simp only [PyData.showable, decide_eq_true_eq]; omega, by simp [PyData.hasDict], by simp [PyData.depth], ?_⟩
    have := int_text_length_le (k := 1900) (by decide) h
    simp only [PyData.shown]
    exact Nat.le_trans (Nat.le_of_eq (PySem.ofString_length _)) this
theorem repr_two {K : PySem.W.Frag} {H : Hp} {Q : VK} {l : Addr} {v1 v2 : V} {d1 d2 : PyData} (h : H l = some (.lst [v1, v2])) (s1 : SmV v1 d1) (s2 : SmV v2 d2) (q : Q (.str (PyData.list [d1, d2]).shown) H) : rReprD K [.ref l] H Q := by
  obtain ⟨a1, a2, a3, a4⟩ := s1.ok
  obtain ⟨b1, b2, b3, b4⟩ := s2.ok
  refine ⟨.ref l, .list [d1, d2], rfl, .lst (SqL.of h) (.cons s1.dp (.cons s2.dp .nil)), ?_, ?_, ?_, ?_, q⟩
  · simp [PyData.showable, PyData.showableAll, a1, b1]
  · simp [PyData.hasDict, PyData.hasDictAll, a2, b2]
  · have e : (PyData.list [d1, d2]).depth = max d1.depth (max d2.depth 0) + 1 := by simp [PyData.depth, PyData.depthAll]
    rw [e]
    omega
  · have e : (PyData.list [d1, d2]).shown.length = d1.shown.length + d2.shown.length + 4 := by
      simp only [PyData.shown, PyData.shownAll]
      show ("[" ++ ("" : Str) ++ d1.shown ++ (", " : Str) ++ d2.shown ++ "]" : Str).length = _
      simp only [Str.length_append]
      show 1 + 0 + _ + 2 + _ + 1 = _
      omega
    rw [e]
    exact Nat.le_trans (show _ ≤ 4000 by omega) (by decide)
theorem sm_opt {ps : List Str} {es : List Tie3} (g1 : GoodParts ps) (g : GoodTies ps es) (p q : Str) : SmV (opt (dist ps es p q)) (optD (dist ps es p q)) := by
  cases e : dist ps es p q with
  | none => exact .inl ⟨rfl, rfl⟩
  | some x =>
    refine .inr (.inr ⟨x, rfl, rfl, ?_⟩)
    have h0 := (dist_exact g1 g).nonneg g.pos e
    have h1 := dist_bd g1 g p q x e
    have h2 : x.natAbs ≤ 2 ^ 300 := by omega
    by_cases z : x.natAbs = 0
    · rw [z]; decide
    · exact (Nat.log2_lt z).mpr (Nat.lt_of_le_of_lt h2 (Nat.pow_lt_pow_right (by decide) (by decide)))
theorem ne_self {x : V} {A B : Prop} (h : B) : if (!decide (x = x)) = true then A else B := by
  rw [decide_eq_true rfl]
  exact iteF h
/-- the string hangs at that hook and pulls the part -/
def hooked (ps : List Str) (es : List Tie3) (x : Str) (c : Nat) (s : Ln3) : Option Ln3 := if s.2.1 = sg c ∧ (dist ps es s.2.2 x).isSome = true then some s else none
theorem hooked_iff {ps : List Str} {es : List Tie3} {x : Str} {c : Nat} {ls : List Ln3} : decide ((0 : Int) < ((ls.filterMap (hooked ps es x c)).length : Int)) = decide (sg c ∈ hookers ps es x ls) := by
  rw [decide_eq_decide]
  have h1 : (0 : Int) < ((ls.filterMap (hooked ps es x c)).length : Int) ↔ ∃ s, s ∈ ls.filterMap (hooked ps es x c) := by
    rw [Int.natCast_pos]
    exact List.length_pos_iff_exists_mem
  rw [h1]
  constructor
  · rintro ⟨s, hs⟩
    obtain ⟨u, mu, hu⟩ := List.mem_filterMap.mp hs
    unfold hooked at hu
    by_cases c' : u.2.1 = sg c ∧ (dist ps es u.2.2 x).isSome = true
    · obtain ⟨y, hy⟩ := Option.isSome_iff_exists.mp c'.2
      exact List.mem_map.mpr ⟨(u.1, u.2.1, y), List.mem_filterMap.mpr ⟨u, mu, by show (dist ps es u.2.2 x).map _ = _; rw [hy]; rfl⟩, c'.1⟩
    · rw [if_neg c'] at hu
      cases hu
  · intro h
    obtain ⟨v, hv, e⟩ := List.mem_map.mp h
    obtain ⟨u, mu, hu⟩ := List.mem_filterMap.mp hv
    have hu : (dist ps es u.2.2 x).map (fun y => (u.1, u.2.1, y)) = some v := hu
    cases hy : dist ps es u.2.2 x with
    | none => rw [hy] at hu; cases hu
    | some y =>
      rw [hy] at hu
      cases hu
      exact ⟨u, List.mem_filterMap.mpr ⟨u, mu, by unfold hooked; rw [if_pos ⟨e, by rw [hy]; rfl⟩]⟩⟩
def spRight : Sp := fun vs H Q _ => ∃ b, vs = [.ref b] ∧ Bag H b ∧ ∀ H', Kp b H H' → Q (.bl true) H'
theorem ok_right (T : Txt K mg a) : FnOkG P w K mg base CX0 8 a.f_right a.d_right ["_law_bag_here"] spRight := by
  refine funG T.F_right sc_right (fun vs H Q E h => ?_) (fun cdv A outer s H vs Q E hG hr h => ?_)
  · obtain ⟨b, rfl, _⟩ := h
    rfl
  · obtain ⟨b, rfl, hb, k⟩ := h
    refine ⟨_, PSs.nox ((pss_cons (ps_for PassesOwn.never rfl (pi_range1 (by rfl) T.z_range (pa_cons pe_int pa_nil)) (pg_name (i := 1) sc_right.nd rfl (Or.inl rfl)) (pss_cons (ps_set (i := 2) sc_right.nd rfl (Or.inl rfl) (pe_call (ok_shape T) (hr.mono (by decide)) (by rfl) T.m_shape T.F_shape.kp T.b_shape .nil pass0 (pa_cons (pv 0) pa_nil)))
      (pss_cons (ps_asg (pe_tup (pa_cons (pe_make T.mk_Puppet (ok_Puppet_init T) (hr.mono (by decide)) (by rfl) T.m_Puppet T.b_Puppet_init .nil pass0 (pa_cons (pe_ix ix_tup (pv 2) pe_int (fun _ _ => rfl)) (pa_cons (pe_ix ix_tup (pv 2) pe_int (fun _ _ => rfl)) (pa_cons (pe_ix ix_tup (pv 2) pe_int (fun _ _ => rfl)) (pa_cons (pe_ix ix_tup (pv 2) pe_int (fun _ _ => rfl)) pa_nil))))) (pa_cons (pe_call (ok_far T) (hr.mono (by decide)) (by rfl) T.m_far T.F_far.kp T.b_far .nil pass0 (pa_cons (pv 2) pa_nil)) pa_nil))) (pg_tup rfl (pgs_cons (pg_name (i := 3) sc_right.nd rfl (Or.inl rfl)) (pgs_cons (pg_name (i := 4) sc_right.nd rfl (Or.inr rfl)) pgs_nil))))
      (pss_one (ps_for PassesOwn.never rfl (pi_tup (pe_ix ix_tup (pv 2) pe_int (fun _ _ => rfl))) (pg_name (i := 5) sc_right.nd rfl (Or.inr rfl)) (pss_cons (ps_for PassesOwn.never rfl (pi_tup (pe_ix ix_tup (pv 2) pe_int (fun _ _ => rfl))) (pg_name (i := 6) sc_right.nd rfl (Or.inl rfl)) (pss_cons (ps_set (i := 7) sc_right.nd rfl (Or.inl rfl) (pe_dget1 (hu_of hr) (pv 4) (pe_tup (pa_cons (pv 5) (pa_cons (pv 6) pa_nil))) ⟨rfl, rfl, rfl, rfl⟩))
      (pss_cons (ps_set (i := 8) sc_right.nd rfl (Or.inl rfl) (pe_lst (pa_cons (pe_meth (pv 3) T.cl_Puppet T.me_Puppet_distance (ok_Puppet_distance T) (hr.mono (by decide)) T.b_Puppet_distance .nil pass0 (pa_cons (pv 5) (pa_cons (pv 6) pa_nil))) (pa_cons (pe_methK (pv 3) T.cl_Puppet T.me_Puppet_distance (ok_Puppet_distance T) (hr.mono (by decide)) (kb_Puppet_distance T) pass0 (pk_cons (pv 5) (pk_cons (pv 6) pk_nil))) pa_nil))))
      (pss_one (ps_if (pt_cmpR op_ne (pe_callB (cr_reprD hG hr.units) (by rfl) T.z_repr (by decide +kernel) (pa_cons (pv 8) pa_nil)) (pe_callB (cr_reprD hG hr.units) (by rfl) T.z_repr (by decide +kernel) (pa_cons (pe_lst (pa_cons (pv 7) (pa_cons (pv 7) pa_nil))) pa_nil)) (nomark _)) (pss_one (ps_ret pe_bl)) pss_nil)))))
      (pss_one (ps_for PassesOwn.never rfl (pi_str (pe_ix ix_tup (pv 2) pe_int (fun _ _ => rfl))) (pg_name (i := 9) sc_right.nd rfl (Or.inr rfl)) (pss_cons (ps_set (i := 7) sc_right.nd rfl (Or.inl rfl) (pe_cmpR op_gt (pe_callB cr_len (by rfl) T.z_len PySem.boot_len (pa_cons (pe_lc (own := [("_law_line", 10)]) (g := gName 10) rfl sc_right.nd (pi_tup (pe_ix ix_tup (pv 2) pe_int (fun _ _ => rfl))) (blkOk_by (own := [("_law_line", 10)]) (N := ["_law_bag_here", "_law_turn", "_law_shape_here", "_law_mine", "_law_far_here", "_law_one_here", "_law_two", "_law_due", "_law_found", "_law_peg", "_law_line"]) (sc := defScope s_right) (by decide +kernel)) (fun _ _ _ _ _ => pg_name (i := 10) sc_right.nd rfl (Or.inl rfl)) (fun _ _ _ _ _ => (pts_one (PW.pt (pw_and (pt_cmpR op_eq (pe_ix (show IxR _ (rIxT K) from ix_tup) (pv 10) pe_int (fun _ _ => rfl)) (pv 9) (nomark _)) (pw_and1 (pt_cmp (pc_din (hu_of hr) (pe_tup (pa_cons (pe_ix (show IxR _ (rIxT K) from ix_tup) (pv 10) pe_int (fun _ _ => rfl)) (pa_cons (pv 5) pa_nil))) (pv 4)))))))) (fun _ _ _ _ _ => by exact (pv 10))) pa_nil)) pe_int (nomark _)))
      (pss_one (ps_if (pt_cmpR op_ne (pe_callB (cr_reprD hG hr.units) (by rfl) T.z_repr (by decide +kernel) (pa_cons (pe_lst (pa_cons (pe_meth (pv 3) T.cl_Puppet T.me_Puppet_has_way (ok_Puppet_has_way T) (hr.mono (by decide)) T.b_Puppet_has_way .nil pass0 (pa_cons (pv 9) (pa_cons (pv 5) pa_nil))) (pa_cons (pe_methK (pv 3) T.cl_Puppet T.me_Puppet_has_way (ok_Puppet_has_way T) (hr.mono (by decide)) (kb_Puppet_has_way T) pass0 (pk_cons (pv 5) (pk_cons (pv 9) pk_nil))) pa_nil))) pa_nil)) (pe_callB (cr_reprD hG hr.units) (by rfl) T.z_repr (by decide +kernel) (pa_cons (pe_lst (pa_cons (pv 7) (pa_cons (pv 7) pa_nil))) pa_nil)) (nomark _)) (pss_one (ps_ret pe_bl)) pss_nil)))))))))))
      (pss_one (ps_ret pe_bl)))), ?_⟩
    walk_at "r"
    refine ⟨3, rfl, by decide, by decide, for_leaf (walk_rng0 (n := 3)) (fun i σ' G => Kp b H G ∧ ∃ v1 v2 v3 v4 v5 v6 v7 v8 v9 : Option V, σ' = [some (.ref b), v1, v2, v3, v4, v5, v6, v7, v8, v9, none]) ⟨.refl hb, _, _, _, _, _, _, _, _, _, rfl⟩ (fun _ _ _ _ _ => trivial) ?_ ?_⟩
    · rintro i z σ' G0 G0' hi ⟨kp, v1, v2, v3, v4, v5, v6, v7, v8, v9, rfl⟩ ⟨rfl, rfl⟩
      walk_at "r"
      refine shape_leaf kp.bag' fun t ps es hk ls H1 k1 sh => ?_
      have kp1 := kp.trans k1
      obtain ⟨tp, te, tl, ht, hp, hu, hl⟩ := id sh.at_
      walk_at "r"
      refine ⟨t, _, 0, .ref tp, rfl, rfl, ht, rfl, ?_⟩
      walk_at "r"
      refine ⟨t, _, 1, .ref te, rfl, rfl, ht, rfl, ?_⟩
      walk_at "r"
      refine ⟨t, _, 2, .str hk, rfl, rfl, ht, rfl, ?_⟩
      walk_at "r"
      refine ⟨t, _, 3, .ref tl, rfl, rfl, ht, rfl, ?_⟩
      walk_at "r"
      refine mk_leaf hp hu hl sh.good fun p H2 np e2 pup => ?_
      walk_at "r"
      refine ⟨t, ps, es, hk, ls, rfl, sh.kp (b := b) (.of e2), fun D d H3 nD e3 dt dd => ?_⟩
      walk_at "r"
      refine w_newT (by show 2 ≤ 100000; decide) fun t2 H4 n4 e4 h4 => ?_
      refine g_twoT (SqT.of h4) ?_
      walk_at "r"
      have e14 := (e2.trans e3).trans e4
      have pup4 := pup.same (e3.trans e4)
      have dt4 := dt.same e4
      have ht4 := seqT_same e14 ht
      have hp4 := seqT_same e14 hp
      have hl4 := hl.same e14
      have kp4 := kp1.trans (.of kp1.bag' e14)
      have g1 := sh.good.parts
      have g2 := sh.good.ties
      refine ⟨t, _, 0, .ref tp, rfl, rfl, ht4, rfl, tp, rfl, ⟨_, hp4⟩, for_leaf (walk_tup (xs := ps.map V.str)) (fun j σ' G => Same H4 G ∧ ∃ v5 v6 v7 v8 v9 : Option V, σ' = [some (.ref b), some (.int (i : Int)), some (.ref t), some (.ref p), some (.ref D), v5, v6, v7, v8, v9, none]) ⟨w_same _, _, _, _, _, _, rfl⟩ (fun j σ' G _ ⟨e, _⟩ => seqT_same e hp4) ?_ ?_⟩
      · rintro j z σ' G G' hj ⟨e, v5, v6, v7, v8, v9, rfl⟩ ⟨rfl, hx⟩
        obtain ⟨x, hxx, rfl⟩ := map_at hx
        have mx := List.mem_of_getElem? hxx
        walk_at "r"
        refine ⟨t, _, 0, .ref tp, rfl, rfl, seqT_same e ht4, rfl, tp, rfl, ⟨_, seqT_same e hp4⟩, for_leaf (walk_tup (xs := ps.map V.str)) (fun j σ' G => Same H4 G ∧ ∃ v6 v7 v8 v9 : Option V, σ' = [some (.ref b), some (.int (i : Int)), some (.ref t), some (.ref p), some (.ref D), some (.str x), v6, v7, v8, v9, none]) ⟨e, _, _, _, _, rfl⟩ (fun j σ' G _ ⟨e, _⟩ => seqT_same e hp4) ?_ ?_⟩
        · rintro l z σ' G G' hl9 ⟨e, v6, v7, v8, v9, rfl⟩ ⟨rfl, hx⟩
          obtain ⟨y, hyy, rfl⟩ := map_at hx
          have my := List.mem_of_getElem? hyy
          walk_at "r"
          obtain ⟨kvs, q1, q2, q3⟩ := (dt4.same e).ex
          refine ⟨D, rfl, isd_t q1, ?_⟩
          walk_at "r"
          refine w_newT (by show 2 ≤ 100000; decide) fun t5 H5 n5 e5 h5 => ?_
          refine get_leaf (e5 _ _ q1) q2 h5 ?_
          rw [dd x y mx my]
          walk_at "r"
          refine pup_ml (pup4.same (e.trans e5)) (by decide) ?_
          walk_at "r"
          refine ⟨p, x, y, ps, es, hk, ls, rfl, pup4.same (e.trans e5), mx, my, fun H6 e6 => ?_⟩
          walk_at "r"
          refine pup_ml (pup4.same ((e.trans e5).trans e6)) (by decide) ?_
          walk_at "r"
          refine ⟨rfl, p, y, x, ps, es, hk, ls, rfl, pup4.same ((e.trans e5).trans e6), my, mx, fun H7 e7 => ?_⟩
          rw [dist_symm g1 g2 my mx]
          walk_at "r"
          refine w_newL (by show 2 ≤ 100000; decide) fun l8 H8 n8 e8 h8 => ?_
          walk_at "r"
          have so := sm_opt g1 g2 x y
          refine repr_two h8 so so ?_
          walk_at "r"
          refine w_newL (by show 2 ≤ 100000; decide) fun l9 H9 n9 e9 h9 => ?_
          walk_at "r"
          refine repr_two h9 so so ?_
          walk_at "r"
          refine ne_self ?_
          exact ⟨((((e.trans e5).trans e6).trans e7).trans e8).trans e9, _, _, _, _, rfl⟩
        rintro σ' G ⟨e, v6, v7, v8, v9, rfl⟩
        walk_at "r"
        refine ⟨t, _, 2, .str hk, rfl, rfl, seqT_same e ht4, rfl, hk, rfl, for_leaf walk_str (fun j σ' G => Same H4 G ∧ ∃ v6 v7 v8 v9 : Option V, σ' = [some (.ref b), some (.int (i : Int)), some (.ref t), some (.ref p), some (.ref D), some (.str x), v6, v7, v8, v9, none]) ⟨e, _, _, _, _, rfl⟩ (fun _ _ _ _ _ => trivial) ?_ ?_⟩
        · rintro l z σ' G G' hl9 ⟨e, v6, v7, v8, v9, rfl⟩ ⟨rfl, c, hc, rfl⟩
          have mc : c ∈ hk.cps.toList := Array.mem_toList_iff.mpr (Array.mem_of_getElem? hc)
          walk_at "r"
          refine ⟨t, _, 3, .ref tl, rfl, rfl, seqT_same e ht4, rfl, ?_⟩
          obtain ⟨as, hl5, ll, lrow⟩ := hl4.same e
          have ll2 : as.length = ls.length := by rw [ll, List.length_map]
          have l4 := sh.l4
          refine ⟨tl, rfl, ⟨_, hl5⟩, cmF (walk_tup (xs := as.map V.ref)) (by rw [List.length_map]; omega) (fun G e => seqT_same e hl5) ls (by rw [List.length_map, ll2]) (hooked ps es x c) (fun _ _ _ => True) (fun _ _ _ _ _ h => h) (fun m z s G2 G3 hs e2 hy Q' N kq kn => ?_) (fun L ys H5 n5 e5 h5 hn5 _ => ?_)⟩
          · obtain ⟨rfl, hz⟩ := hy
            obtain ⟨r, v, rfl, hv, hrr⟩ := rows_at ll lrow hz
            obtain ⟨s', he, rfl⟩ := map_atL hv
            obtain rfl : s = s' := by rw [hs] at he; exact Option.some.inj he
            have ms := List.mem_of_getElem? hs
            have hr2 := seqT_same e2 hrr
            refine ⟨rfl, ?_⟩
            walk_at "r"
            refine ⟨r, _, 1, .str s.2.1, rfl, rfl, hr2, rfl, ?_⟩
            walk_at "r"
            have e3 := e.trans e2
            refine w_iteD (fun c1 => ?_) (fun c1 => ?_)
            · have c1' : s.2.1 = sg c := by injection c1
              walk_at "r"
              refine ⟨r, _, 2, .str s.2.2, rfl, rfl, hr2, rfl, ?_⟩
              walk_at "r"
              refine w_newT (by show 2 ≤ 100000; decide) fun k1 G4 n4 e4 g4 => ?_
              walk_at "r"
              refine in_leafT (dt4.same (e3.trans e4)) g4 ?_
              rw [dd s.2.2 x (sh.good.lns.part s ms) mx]
              cases z : dist ps es s.2.2 x with
              | none => exact ⟨false, rfl, iteF (kn (by unfold hooked; rw [if_neg (fun q => by rw [z] at q; cases q.2)]) _ e4)⟩
              | some y =>
                refine ⟨true, rfl, iteT ?_⟩
                walk_at "r"
                exact kq _ s _ (by unfold hooked; rw [if_pos ⟨c1', by rw [z]; rfl⟩]) e4 trivial
            · exact iteF (kn (by unfold hooked; rw [if_neg (fun q => c1 (congrArg V.str q.1))]) _ (w_same _))
          walk_at "r"
          refine w_lenL (.inl (.inl h5)) ?_
          walk_at "r"
          have dv : decide ((0 : Int) < (ys.length : Int)) = decide (sg c ∈ hookers ps es x ls) := by rw [hn5]; exact hooked_iff
          rw [dv]
          have pup5 := pup4.same (e.trans e5)
          refine pup_ml pup5 (by decide) ?_
          walk_at "r"
          refine ⟨p, c, x, ps, es, hk, ls, rfl, pup5, mx, mc, fun H6 e6 => ?_⟩
          walk_at "r"
          refine pup_ml (pup5.same e6) (by decide) ?_
          walk_at "r"
          refine ⟨rfl, p, c, x, ps, es, hk, ls, rfl, pup5.same e6, mx, mc, fun H7 e7 => ?_⟩
          walk_at "r"
          refine w_newL (by show 2 ≤ 100000; decide) fun l8 H8 n8 e8 h8 => ?_
          walk_at "r"
          have so : SmV (.bl (decide (sg c ∈ hookers ps es x ls))) (.bool (decide (sg c ∈ hookers ps es x ls))) := .inr (.inl ⟨_, rfl, rfl⟩)
          refine repr_two h8 so so ?_
          walk_at "r"
          refine w_newL (by show 2 ≤ 100000; decide) fun l9 H9 n9 e9 h9 => ?_
          walk_at "r"
          refine repr_two h9 so so ?_
          walk_at "r"
          refine ne_self ?_
          exact ⟨((((e.trans e5).trans e6).trans e7).trans e8).trans e9, _, _, _, _, rfl⟩
        · rintro σ' G ⟨e, v6, v7, v8, v9, rfl⟩
          exact ⟨e, _, _, _, _, _, rfl⟩
      · rintro σ' G ⟨e, v5, v6, v7, v8, v9, rfl⟩
        exact ⟨kp4.trans (.of kp4.bag' e), _, _, _, _, _, _, _, _, _, rfl⟩
    · rintro σ' G ⟨kp, v1, v2, v3, v4, v5, v6, v7, v8, v9, rfl⟩
      walk_at "r"
      exact k G kp
end
end RK7


namespace RK7
open PySem PySem.Spec L2 RK RZ StX PyProof.Rows
section
variable {P : Program} {w : World} {K : PySem.W.Frag} {mg : Str → Option Value} {base : Heap} {a : Ad}
/-! ### distances, known by a height for each part -/
/-- no walk is shorter than what the heights say -/
theorem pot_le {E : List Tie3} {pot : Str → Int} (h : ∀ t ∈ E, pot t.2.1 - pot t.1 ≤ t.2.2 ∧ pot t.1 - pot t.2.1 ≤ t.2.2) {p q : Str} {n : Int} (w : RPath.Wk E p q n) : pot q - pot p ≤ n := by
  induction w with
  | nil => omega
  | @fwd u v n w _ m ih => have := (h _ m).1; simp only at this; omega
  | @bwd u v n w _ m ih => have := (h _ m).2; simp only at this; omega
theorem dist_eq {ps : List Str} {es : List Tie3} (g1 : GoodParts ps) (g : GoodTies ps es) (pot : Str → Int) (h : ∀ t ∈ es, pot t.2.1 - pot t.1 ≤ t.2.2 ∧ pot t.1 - pot t.2.1 ≤ t.2.2) {p q : Str} {n : Int} (hp : p ∈ ps) (hq : q ∈ ps) (w : RPath.Wk es p q n) (hn : pot q - pot p = n) : dist ps es p q = some n := by
  obtain ⟨x, hx, l⟩ := (dist_exact g1 g).least p q n hp hq w
  have := pot_le h ((dist_exact g1 g).sound p q x hx)
  rw [hx, show x = n by omega]
/-! ### the chain of six, and the five parts of the law itself -/
instance (t u : Tie3) : Decidable (Meet t u) := by unfold Meet; infer_instance
instance (s : Str) : Decidable (Word s) := by unfold Word; infer_instance
def Lx : Nat → Str
  | 0 => "aa" | 1 => "bb" | 2 => "cc" | 3 => "dd" | 4 => "ee" | _ => "ff"
def Sx : Nat → Int
  | 0 => 0 | 1 => 1 | 2 => 11 | 3 => 111 | 4 => 1111 | _ => 11111
def lims : List Str := ["aa", "bb", "cc", "dd", "ee", "ff"]
def ces : List Tie3 := [("bb", "aa", 1), ("cc", "bb", 10), ("dd", "cc", 100), ("ee", "dd", 1000), ("ff", "ee", 10000)]
def lns1 : List Ln3 := [("s", "X", "aa")]
def potC (s : Str) : Int := if s = "aa" then 0 else if s = "bb" then 1 else if s = "cc" then 11 else if s = "dd" then 111 else if s = "ee" then 1111 else 11111
def orders : List (List Str) := [lims, ["ff", "ee", "dd", "cc", "bb", "aa"], ["bb", "dd", "ff", "aa", "cc", "ee"], ["aa", "dd", "bb", "ee", "cc", "ff"]]
theorem ces_at : ∀ i : Fin 5, (Lx (i.val + 1), Lx i.val, Sx (i.val + 1) - Sx i.val) ∈ ces := by decide +kernel
theorem wkC (j : Nat) : ∀ n, j + n < 6 → RPath.Wk ces (Lx j) (Lx (j + n)) (Sx (j + n) - Sx j)
  | 0, _ => by rw [Nat.add_zero, Int.sub_self]; exact .nil _
  | n + 1, h => by
    have m := ces_at ⟨j + n, by omega⟩
    have := RPath.Wk.bwd (wkC j n (by omega)) m
    rw [show Sx (j + (n + 1)) - Sx j = Sx (j + n) - Sx j + (Sx (j + n + 1) - Sx (j + n)) by rw [show j + (n + 1) = j + n + 1 from rfl]; omega]
    exact this
theorem pot_at : ∀ i : Fin 6, potC (Lx i.val) = Sx i.val := by decide +kernel
theorem potC_ok : ∀ t ∈ ces, potC t.2.1 - potC t.1 ≤ t.2.2 ∧ potC t.1 - potC t.2.1 ≤ t.2.2 := by decide +kernel
theorem parts_ok {ps : List Str} (h : (decide (1 ≤ ps.length) && decide (ps.length ≤ 6) && decide (∀ p ∈ ps, Word p) && decide ps.Nodup) = true) : GoodParts ps := by
  simp only [Bool.and_eq_true, decide_eq_true_eq] at h
  exact ⟨h.1.1.1, h.1.1.2, h.1.2, h.2⟩
theorem ties_ok {ps : List Str} {es : List Tie3} (h : (decide (es.length ≤ 10) && decide (∀ t ∈ es, t.1 ∈ ps) && decide (∀ t ∈ es, t.2.1 ∈ ps) && decide (∀ t ∈ es, t.1 ≠ t.2.1) && decide (∀ t ∈ es, 0 ≤ t.2.2) && decide (∀ t ∈ es, t.2.2 ≤ 1000000) && decide (es.Pairwise fun t u => ¬ Meet t u)) = true) : GoodTies ps es := by
  simp only [Bool.and_eq_true, decide_eq_true_eq] at h
  exact ⟨h.1.1.1.1.1.1, h.1.1.1.1.1.2, h.1.1.1.1.2, h.1.1.1.2, h.1.1.2, h.1.2, h.2⟩
theorem ord_parts : ∀ ps ∈ orders, GoodParts ps := by
  intro ps h
  simp only [orders, List.mem_cons, List.not_mem_nil, or_false] at h
  rcases h with rfl | rfl | rfl | rfl <;> exact parts_ok (by decide +kernel)
theorem ord_ties : ∀ ps ∈ orders, GoodTies ps ces := by
  intro ps h
  simp only [orders, List.mem_cons, List.not_mem_nil, or_false] at h
  rcases h with rfl | rfl | rfl | rfl <;> exact ties_ok (by decide +kernel)
theorem ord_in : ∀ ps ∈ orders, ∀ i : Fin 6, Lx i.val ∈ ps := by
  intro ps h
  simp only [orders, List.mem_cons, List.not_mem_nil, or_false] at h
  rcases h with rfl | rfl | rfl | rfl <;> decide +kernel
theorem caps1 : Caps "X" := ⟨by decide, by decide, by decide, fun i c d h1 h2 => by
  have := (Array.getElem?_eq_some_iff.mp h2).1
  have : i + 1 < 1 := this
  omega⟩
theorem lns_1 {ps : List Str} (h : ("aa" : Str) ∈ ps) : GoodLns ps "X" lns1 := by
  refine ⟨by decide, by decide, fun s m => ?_, fun s m => ?_, fun s m => ?_, fun i s u h1 h2 => by cases h2⟩ <;> obtain rfl := List.mem_singleton.mp m
  · exact ⟨115, by decide +kernel, by decide, by decide⟩
  · exact ⟨88, by decide +kernel, by decide⟩
  · exact h
theorem ord_good : ∀ ps ∈ orders, GoodPup ps ces "X" lns1 := fun ps h => ⟨ord_parts ps h, ord_ties ps h, caps1, lns_1 (ord_in ps h 0)⟩
theorem ord_dist {ps : List Str} (h : ps ∈ orders) {j k : Nat} (hj : j ≤ k) (hk : k < 6) : dist ps ces (Lx j) (Lx k) = some (Sx k - Sx j) := by
  have w := wkC j (k - j) (by omega)
  rw [show j + (k - j) = k by omega] at w
  exact dist_eq (ord_parts ps h) (ord_ties ps h) potC potC_ok (ord_in ps h ⟨j, by omega⟩) (ord_in ps h ⟨k, hk⟩) w (by rw [pot_at ⟨k, hk⟩, pot_at ⟨j, by omega⟩])
def limV : List V := lims.map V.str
def spnV : List V := [.int 1, .int 10, .int 100, .int 1000, .int 10000]
theorem lim_at : ∀ i : Fin 6, lims[i.val]? = some (Lx i.val) := by decide +kernel
theorem limV_at {i : Nat} (h : i < 6) : limV[i]? = some (.str (Lx i)) := by
  unfold limV
  rw [List.getElem?_map, lim_at ⟨i, h⟩]
  rfl
theorem spnV_at {i : Nat} (h : i < 5) : spnV[i]? = some (.int (Sx (i + 1) - Sx i)) := by
  rcases (show i = 0 ∨ i = 1 ∨ i = 2 ∨ i = 3 ∨ i = 4 by omega) with rfl | rfl | rfl | rfl | rfl <;> rfl
theorem cesV_at {i : Nat} (h : i < 5) : ces[i]? = some (Lx (i + 1), Lx i, Sx (i + 1) - Sx i) := by
  rcases (show i = 0 ∨ i = 1 ∨ i = 2 ∨ i = 3 ∨ i = 4 by omega) with rfl | rfl | rfl | rfl | rfl <;> rfl
def StpL (K : PySem.W.Frag) (x : V) (l u o : Option Int) (H4 : Hp) (Q : VK) : Prop := ∃ a xs st, x = .ref a ∧ o = some st ∧ st ≠ 0 ∧ st ≠ 1 ∧ SqT K H4 a xs ∧ (stepAt xs l u st).length ≤ sizeLine ∧ ∀ p, H4 p = none → Q (.ref p) (upd H4 p (.tup (stepAt xs l u st)))
theorem w_slStep {σ : L2.St} {H : Hp} {Q : VK} {te : TE} {tl th ts : TO} (h : te σ H fun x H1 => tl σ H1 fun l H2 => th σ H2 fun u H3 => ts σ H3 fun o H4 => StpL K x l u o H4 Q) : tSlStep K te tl th ts σ H Q := h
theorem step_leaf {H : Hp} {Q : VK} {a : Addr} {xs ys : List V} {l u : Option Int} {st : Int} (h : SqT K H a xs) (n0 : st ≠ 0) (n1 : st ≠ 1) (e : stepAt xs l u st = ys) (hy : ys.length ≤ 1000) (k : ∀ p H', Same H H' → H' p = some (.tup ys) → Q (.ref p) H') : StpL K (.ref a) l u (some st) H Q := by
  subst e
  exact ⟨a, xs, st, rfl, rfl, n0, n1, h, Nat.le_trans hy (by decide), fun p hp => k p _ (w_new hp) upd_same⟩
theorem cat_leaf {H : Hp} {Q : VK} {p q : Addr} {xs ys : List V} (hx : SqT K H p xs) (hy : SqT K H q ys) (nx : xs ≠ []) (ny : ys ≠ []) (l : xs.length + ys.length ≤ 1000) (k : ∀ r H', Same H H' → H' r = some (.tup (xs ++ ys)) → Q (.ref r) H') : rCatT K (.ref p) (.ref q) H Q :=
  ⟨p, q, xs, ys, rfl, rfl, hx, hy, nx, Nat.le_trans l (by decide), fun z => absurd z ny, fun _ r hr => k r _ (w_new hr) upd_same⟩
local macro_rules | `(tactic| walk_at "s") => `(tactic| with_reducible refine w_slStep ?_)
theorem nel_leaf {H : Hp} {Q : VK} {l m : Addr} {xs : List V} {ds : List PyData} (h1 : H l = some (.lst xs)) (h2 : H m = some (.lst xs)) (d : DpAll K H xs ds) (sh : SeqAt.shaped (.list ds) = true) (q : Q (.bl false) H) : rNeD K (.ref l) (.ref m) H Q :=
  ⟨.list ds, .list ds, .lst (SqL.of h1) d, .lst (SqL.of h2) d, sh, sh, by rw [SeqAt.eqv_refl _ (SeqAt.canLay_of_shaped sh)]; exact q⟩
theorem cutV_jk (xs : List V) {j k : Nat} (h : j ≤ k) (hk : k ≤ xs.length) : cutV xs (some (j : Int)) (some (k : Int)) = (xs.drop j).take (k - j) := by
  unfold cutV
  rw [HT.sIx_nat, HT.sIx_nat, Nat.min_eq_left hk, Nat.min_eq_left (show j ≤ xs.length by omega)]
def spns : List Int := [1, 10, 100, 1000, 10000]
theorem sums : ∀ k : Fin 6, ∀ j : Fin 6, j.val ≤ k.val → ((spns.drop j.val).take (k.val - j.val)).sum = Sx k.val - Sx j.val := by decide +kernel
theorem sum_cut {j k : Nat} (h : j ≤ k) (hk : k < 6) : cutV spnV (some (j : Int)) (some (k : Int)) = ((spns.drop j).take (k - j)).map V.int := by
  rw [cutV_jk spnV h (by show k ≤ 5; omega), List.map_take, List.map_drop]
  rfl
def spChain : Sp := fun vs H Q _ => vs = [] ∧ ∀ H', Same H H' → Q (.bl true) H'
theorem ok_chain_right (T : Txt K mg a) : FnOk P w K mg base CX0 8 a.f_chain_right a.d_chain_right [] spChain := by
  refine T.F_chain_right.ok sc_chain_right (fun vs H Q E h => ?_) (fun cdv A outer s H vs Q E hr h => ?_)
  · obtain ⟨rfl, _⟩ := h
    rfl
  · obtain ⟨rfl, k⟩ := h
    refine ⟨_, (pss_cons (ps_asg (pe_tup (pa_cons (pe_tup (pa_cons pe_str (pa_cons pe_str (pa_cons pe_str (pa_cons pe_str (pa_cons pe_str (pa_cons pe_str pa_nil))))))) (pa_cons (pe_lst (pa_cons pe_int (pa_cons pe_int (pa_cons pe_int (pa_cons pe_int (pa_cons pe_int pa_nil)))))) pa_nil))) (pg_tup rfl (pgs_cons (pg_name (i := 0) sc_chain_right.nd rfl (Or.inr rfl)) (pgs_cons (pg_name (i := 1) sc_chain_right.nd rfl (Or.inr rfl)) pgs_nil))))
      (pss_cons (ps_set (i := 2) sc_chain_right.nd rfl (Or.inl rfl) (pe_callTy call_tuple_of (by rfl) T.z_tuple (by decide +kernel) (pa_cons (pe_lc (own := [("_law_k", 5)]) (g := gName 5) (tt := tYes) rfl sc_chain_right.nd (pi_range1 (by rfl) T.z_range (pa_cons pe_int pa_nil)) (blkOk_by (own := [("_law_k", 5)]) (N := ["_law_limbs", "_law_spans", "_law_cords_here", "_law_listed", "_law_mine", "_law_k", "_law_j", "_law_due"]) (sc := defScope s_chain_right) (by decide +kernel)) (fun _ _ _ _ _ => pg_name (i := 5) sc_chain_right.nd rfl (Or.inl rfl)) (fun _ _ _ _ _ => pts_nil) (fun _ _ _ _ _ => by exact (pe_tup (pa_cons (pe_ix (show IxR _ (rIxT K) from ix_tup) (pv 0) (pe_op op_add (pv 5) pe_int) (fun _ _ => rfl)) (pa_cons (pe_ix (show IxR _ (rIxT K) from ix_tup) (pv 0) (pv 5) (fun _ _ => rfl)) (pa_cons (pe_ix (show IxR _ (rIxL K) from ix_list) (pv 1) (pv 5) (fun _ _ => rfl)) pa_nil)))))) pa_nil)))
      (pss_cons (ps_for PassesOwn.never rfl (pi_list (pe_lst (pa_cons (pv 0) (pa_cons (pe_sliceStep (pv 0) po_none po_none (po_some (pe_un un_neg pe_int))) (pa_cons (pe_op op_catT (pe_sliceStep (pv 0) (po_some pe_int) po_none (po_some pe_int)) (pe_sliceStep (pv 0) po_none po_none (po_some pe_int))) (pa_cons (pe_op op_catT (pe_op op_catT (pe_sliceStep (pv 0) po_none po_none (po_some pe_int)) (pe_sliceStep (pv 0) (po_some pe_int) po_none (po_some pe_int))) (pe_sliceStep (pv 0) (po_some pe_int) po_none (po_some pe_int))) pa_nil)))))) (pg_name (i := 3) sc_chain_right.nd rfl (Or.inl rfl)) (pss_cons (ps_set (i := 4) sc_chain_right.nd rfl (Or.inl rfl) (pe_make T.mk_Puppet (ok_Puppet_init T) (hr.mono (by decide)) (by rfl) T.m_Puppet T.b_Puppet_init .nil pass0 (pa_cons (pv 3) (pa_cons (pv 2) (pa_cons pe_str (pa_cons (pe_tup (pa_cons (pe_tup (pa_cons pe_str (pa_cons pe_str (pa_cons pe_str pa_nil)))) pa_nil)) pa_nil))))))
      (pss_cons (ps_for PassesOwn.never rfl (pi_range1 (by rfl) T.z_range (pa_cons pe_int pa_nil)) (pg_name (i := 5) sc_chain_right.nd rfl (Or.inl rfl)) (pss_one (ps_for PassesOwn.never rfl (pi_range1 (by rfl) T.z_range (pa_cons (pe_op op_add (pv 5) pe_int) pa_nil)) (pg_name (i := 6) sc_chain_right.nd rfl (Or.inl rfl)) (pss_cons (ps_set (i := 7) sc_chain_right.nd rfl (Or.inl rfl) (pe_callB (cr_sum rfl) (by rfl) T.z_sum (by decide +kernel) (pa_cons (pe_slice sl_list (pv 1) (po_some (pv 6)) (po_some (pv 5))) pa_nil)))
      (pss_one (ps_if (pt_cmpR (op_neD hr.units) (pe_lst (pa_cons (pe_meth (pv 4) T.cl_Puppet T.me_Puppet_distance (ok_Puppet_distance T) (hr.mono (by decide)) T.b_Puppet_distance .nil pass0 (pa_cons (pe_ix ix_tup (pv 0) (pv 6) (fun _ _ => rfl)) (pa_cons (pe_ix ix_tup (pv 0) (pv 5) (fun _ _ => rfl)) pa_nil))) (pa_cons (pe_meth (pv 4) T.cl_Puppet T.me_Puppet_distance (ok_Puppet_distance T) (hr.mono (by decide)) T.b_Puppet_distance .nil pass0 (pa_cons (pe_ix ix_tup (pv 0) (pv 5) (fun _ _ => rfl)) (pa_cons (pe_ix ix_tup (pv 0) (pv 6) (fun _ _ => rfl)) pa_nil))) pa_nil))) (pe_lst (pa_cons (pv 7) (pa_cons (pv 7) pa_nil))) (nomark _)) (pss_one (ps_ret pe_bl)) pss_nil))))))
      (pss_one (ps_if (pt_not (pt_val (pe_meth (pv 4) T.cl_Puppet T.me_Puppet_has_way (ok_Puppet_has_way T) (hr.mono (by decide)) T.b_Puppet_has_way .nil pass0 (pa_cons pe_str (pa_cons pe_str pa_nil))))) (pss_one (ps_ret pe_bl)) pss_nil)))))
      (pss_one (ps_ret pe_bl))))), ?_⟩
    walk_at "r"
    refine w_newT (by show 6 ≤ 100000; decide) fun tm H1 n1 e1 h1 => ?_
    walk_at "r"
    refine w_newL (by show 5 ≤ 100000; decide) fun tn H2 n2 e2 h2 => ?_
    walk_at "r"
    refine w_newT (by show 2 ≤ 100000; decide) fun t3 H3 n3 e3 h3 => ?_
    refine g_twoT (SqT.of h3) ?_
    have hm : SqT K H3 tm limV := seqT_same (e2.trans e3) (SqT.of h1)
    have hn : SqL K H3 tn spnV := .inl (.inl (e3 _ _ h2))
    have e13 := (e1.trans e2).trans e3
    walk_at "r"
    refine ⟨5, rfl, by decide, by decide, cmS (walk_rng0 (n := 5)) (by decide) (fun _ _ => trivial) (fun i v G => ∃ r u, ces[i]? = some u ∧ v = .ref r ∧ SqT K G r (tieV u)) (fun i v G G' e ⟨r, u, h1, h2, h3⟩ => ⟨r, u, h1, h2, e.sqt h3⟩) (fun i x G G' hi e hy Q' kq => ?_) (fun D ys H4 n4 e4 h4 hn4 hP => ?_)⟩
    · obtain ⟨rfl, rfl⟩ := hy
      refine ⟨rfl, ?_⟩
      walk_at "r"
      refine ⟨tm, _, (i : Int) + 1, .str (Lx (i + 1)), rfl, rfl, seqT_same e hm, at_of (j := i + 1) rfl (limV_at (by omega)), ?_⟩
      walk_at "r"
      refine ⟨tm, _, (i : Int), .str (Lx i), rfl, rfl, seqT_same e hm, atI_nat (limV_at (by omega)), ?_⟩
      walk_at "r"
      refine ⟨tn, _, (i : Int), .int (Sx (i + 1) - Sx i), rfl, rfl, seqL_same e hn, atI_nat (spnV_at hi), ?_⟩
      walk_at "r"
      exact w_newT (by show 3 ≤ 100000; decide) fun t5 G4 n5 e5 h5 => kq _ _ e5 ⟨t5, _, cesV_at hi, rfl, SqT.of h5⟩
    walk_at "r"
    refine ⟨D, _, rfl, .inl ⟨.inl (.inl h4), fun tc n5 => ?_⟩⟩
    have e5 := w_new (o := .tup ys) n5
    obtain ⟨as, rfl, las, has⟩ := refs_of (ps := ces) (R := fun q u => SqT K H4 q (tieV u)) hn4 (fun i v hv => by obtain ⟨r, u, h1, h2, h3⟩ := hP i v hv; exact ⟨r, u, h1, h2, h3⟩)
    have hc : Rws K (upd H4 tc (.tup (as.map V.ref))) tc (ces.map tieV) := ⟨as, SqT.of upd_same, by rw [List.length_map, las], fun i q v ha hv => by
      obtain ⟨u, hu, rfl⟩ := map_atL hv
      exact seqT_same e5 (has i q u ha hu)⟩
    have e35 := e4.trans e5
    generalize upd H4 tc (.tup (as.map V.ref)) = H5 at *
    have hm5 := seqT_same e35 hm
    have hn5 := seqL_same e35 hn
    have e05 := e13.trans e35
    walk_at "r"
    refine step_leaf (l := none) (u := none) (st := -1) (ys := (["ff", "ee", "dd", "cc", "bb", "aa"] : List Str).map V.str) hm5 (by decide) (by decide) (by rfl) (by decide) fun o1 G1 f1 g1 => ?_
    walk_at "r"
    refine step_leaf (l := some 1) (u := none) (st := 2) (ys := (["bb", "dd", "ff"] : List Str).map V.str) (seqT_same f1 hm5) (by decide) (by decide) (by rfl) (by decide) fun a2 G2 f2 g2 => ?_
    walk_at "r"
    refine step_leaf (l := none) (u := none) (st := 2) (ys := (["aa", "cc", "ee"] : List Str).map V.str) (seqT_same (f1.trans f2) hm5) (by decide) (by decide) (by rfl) (by decide) fun b2 G3 f3 g3 => ?_
    walk_at "r"
    refine cat_leaf (SqT.of (f3 _ _ g2)) (SqT.of g3) (by decide) (by decide) (by decide) fun o2 G4 f4 g4 => ?_
    have f14 := ((f1.trans f2).trans f3).trans f4
    walk_at "r"
    refine step_leaf (l := none) (u := none) (st := 3) (ys := (["aa", "dd"] : List Str).map V.str) (seqT_same f14 hm5) (by decide) (by decide) (by rfl) (by decide) fun a3 G5 f5 g5 => ?_
    walk_at "r"
    refine step_leaf (l := some 1) (u := none) (st := 3) (ys := (["bb", "ee"] : List Str).map V.str) (seqT_same (f14.trans f5) hm5) (by decide) (by decide) (by rfl) (by decide) fun b3 G6 f6 g6 => ?_
    walk_at "r"
    refine cat_leaf (SqT.of (f6 _ _ g5)) (SqT.of g6) (by decide) (by decide) (by decide) fun c3 G7 f7 g7 => ?_
    have f17 := ((f14.trans f5).trans f6).trans f7
    walk_at "r"
    refine step_leaf (l := some 2) (u := none) (st := 3) (ys := (["cc", "ff"] : List Str).map V.str) (seqT_same f17 hm5) (by decide) (by decide) (by rfl) (by decide) fun d3 G8 f8 g8 => ?_
    walk_at "r"
    refine cat_leaf (SqT.of (f8 _ _ g7)) (SqT.of g8) (by decide) (by decide) (by decide) fun o3 G9 f9 g9 => ?_
    have f19 := (f17.trans f8).trans f9
    walk_at "r"
    refine w_newL (by show 4 ≤ 100000; decide) fun lo G10 n10 f10 h10 => ?_
    walk_at "r"
    have f110 := f19.trans f10
    have all : ∀ (i : Nat) (v : V), ([.ref tm, .ref o1, .ref o2, .ref o3] : List V)[i]? = some v → ∃ q ps, v = .ref q ∧ ps ∈ orders ∧ SqT K G10 q (ps.map V.str) := fun i v hv => by
      match i, hv with
      | 0, hv => cases hv; exact ⟨tm, lims, rfl, by decide +kernel, seqT_same f110 hm5⟩
      | 1, hv => cases hv; exact ⟨o1, _, rfl, by decide +kernel, seqT_same ((((((((((f2.trans f3).trans f4).trans f5).trans f6).trans f7).trans f8).trans f9).trans f10))) (SqT.of g1)⟩
      | 2, hv => cases hv; exact ⟨o2, ["bb", "dd", "ff", "aa", "cc", "ee"], rfl, by decide +kernel, seqT_same (((((f5.trans f6).trans f7).trans f8).trans f9).trans f10) (SqT.of g4)⟩
      | 3, hv => cases hv; exact ⟨o3, ["aa", "dd", "bb", "ee", "cc", "ff"], rfl, by decide +kernel, seqT_same f10 (SqT.of g9)⟩
    have hc10 := hc.same f110
    have hm10 := seqT_same f110 hm5
    have hn10 := seqL_same f110 hn5
    have e010 := e05.trans f110
    refine ⟨lo, rfl, ⟨_, .inl (.inl h10)⟩, for_leaf (walk_list (xs := [.ref tm, .ref o1, .ref o2, .ref o3])) (fun i σ' G => Same G10 G ∧ ∃ v3 v4 v5 v6 v7 : Option V, σ' = [some (.ref tm), some (.ref tn), some (.ref tc), v3, v4, v5, v6, v7]) ⟨w_same _, _, _, _, _, _, rfl⟩ (fun i σ' G _ ⟨e, _⟩ => .inl (.inl (e _ _ h10))) ?_ ?_⟩
    · rintro i v σ' G G' hi ⟨e, v3, v4, v5, v6, v7, rfl⟩ ⟨rfl, hv⟩
      obtain ⟨q, ps, rfl, mo, hq⟩ := all i v hv
      walk_at "r"
      refine w_newT (by show 3 ≤ 100000; decide) fun r1 G1 m1 f1 g1 => ?_
      walk_at "r"
      refine w_newT (by show 1 ≤ 100000; decide) fun r2 G2 m2 f2 g2 => ?_
      walk_at "r"
      have f02 := e.trans (f1.trans f2)
      have hl : Rws K G2 r2 (lns1.map lnV) := ⟨[r1], SqT.of g2, rfl, fun i q v ha hv => by
        match i, ha, hv with
        | 0, ha, hv => cases ha; cases hv; exact seqT_same f2 (SqT.of g1)⟩
      refine mk_leaf (seqT_same f02 hq) (hc10.same f02) hl (ord_good ps mo) fun p G3 m3 f3 pup => ?_
      have f03 := f02.trans f3
      walk_at "r"
      refine ⟨6, rfl, by decide, by decide, for_leaf (walk_rng0 (n := 6)) (fun i σ' G => Same G3 G ∧ ∃ v5 v6 v7 : Option V, σ' = [some (.ref tm), some (.ref tn), some (.ref tc), some (.ref q), some (.ref p), v5, v6, v7]) ⟨w_same _, _, _, _, rfl⟩ (fun _ _ _ _ _ => trivial) ?_ ?_⟩
      · rintro kk v σ' G G' hk ⟨eb, v5, v6, v7, rfl⟩ ⟨rfl, rfl⟩
        walk_at "r"
        refine ⟨(kk : Int) + 1, rfl, by omega, by omega, for_leaf (walk_rng0 (n := ((kk : Int) + 1).toNat)) (fun i σ' G => Same G3 G ∧ ∃ v6 v7 : Option V, σ' = [some (.ref tm), some (.ref tn), some (.ref tc), some (.ref q), some (.ref p), some (.int (kk : Int)), v6, v7]) ⟨eb, _, _, rfl⟩ (fun _ _ _ _ _ => trivial) ?_ ?_⟩
        · rintro j v σ' G G' hj ⟨eb, v6, v7, rfl⟩ ⟨rfl, rfl⟩
          have hj2 : j ≤ kk := by omega
          walk_at "r"
          refine ⟨tn, spnV, rfl, seqL_same (f03.trans eb) hn10, fun u1 x1 => ?_⟩
          rw [sum_cut hj2 hk]
          have y1 := w_new (o := .lst (((spns.drop j).take (kk - j)).map V.int)) x1
          walk_at "r"
          refine ⟨u1, _, rfl, SqL.of upd_same, ?_⟩
          rw [sums ⟨kk, hk⟩ ⟨j, by omega⟩ hj2]
          have eb1 := eb.trans y1
          generalize upd _ u1 _ = B1 at *
          have hmB := seqT_same (f03.trans eb1) hm10
          walk_at "r"
          have mj := ord_in ps mo ⟨j, by omega⟩
          have mk := ord_in ps mo ⟨kk, hk⟩
          have gp := ord_parts ps mo
          have gt := ord_ties ps mo
          have dv := ord_dist mo hj2 hk
          refine pup_ml (pup.same eb1) (by decide) ?_
          walk_at "r"
          refine ⟨tm, _, (j : Int), .str (Lx j), rfl, rfl, hmB, atI_nat (limV_at (by omega)), ?_⟩
          walk_at "r"
          refine ⟨tm, _, (kk : Int), .str (Lx kk), rfl, rfl, hmB, atI_nat (limV_at hk), ?_⟩
          walk_at "r"
          refine ⟨p, _, _, ps, ces, "X", lns1, rfl, pup.same eb1, mj, mk, fun B2 eb2 => ?_⟩
          rw [dv]
          walk_at "r"
          refine pup_ml (pup.same (eb1.trans eb2)) (by decide) ?_
          walk_at "r"
          refine ⟨tm, _, (kk : Int), .str (Lx kk), rfl, rfl, seqT_same eb2 hmB, atI_nat (limV_at hk), ?_⟩
          walk_at "r"
          refine ⟨tm, _, (j : Int), .str (Lx j), rfl, rfl, seqT_same eb2 hmB, atI_nat (limV_at (by omega)), ?_⟩
          walk_at "r"
          refine ⟨p, _, _, ps, ces, "X", lns1, rfl, pup.same (eb1.trans eb2), mk, mj, fun B3 eb3 => ?_⟩
          rw [dist_symm gp gt mk mj, dv]
          walk_at "r"
          refine w_newL (by show 2 ≤ 100000; decide) fun l4 B4 z4 eb4 i4 => ?_
          walk_at "r"
          refine w_newL (by show 2 ≤ 100000; decide) fun l5 B5 z5 eb5 i5 => ?_
          walk_at "r"
          refine nel_leaf (eb5 _ _ i4) i5 (.cons (.int _) (.cons (.int _) .nil)) (by simp [SeqAt.shaped, PyData.canLay0, PyData.canLayAll0, PyData.depth, PyData.depthAll]) ?_
          walk_at "r"
          refine iteF ?_
          walk_at "r"
          exact ⟨(((eb1.trans eb2).trans eb3).trans eb4).trans eb5, _, _, rfl⟩
        · rintro σ' G ⟨eb, v6, v7, rfl⟩
          exact ⟨eb, _, _, _, rfl⟩
      · rintro σ' G ⟨eb, v5, v6, v7, rfl⟩
        walk_at "r"
        refine pup_ml (pup.same eb) (by decide) ?_
        walk_at "r"
        have hx : sg 88 ∈ hookers ps ces "ff" lns1 := by
          have d := ord_dist mo (j := 0) (k := 5) (by decide) (by decide)
          refine List.mem_map.mpr ⟨("s", "X", Sx 5 - Sx 0), List.mem_filterMap.mpr ⟨("s", "X", "aa"), List.mem_singleton.mpr rfl, ?_⟩, by decide +kernel⟩
          show (dist ps ces (Lx 0) (Lx 5)).map _ = _
          rw [d]
          rfl
        refine ⟨p, 88, "ff", ps, ces, "X", lns1, (by rw [show ("X" : Str) = ⟨#[88]⟩ by decide +kernel]; rfl), pup.same eb, ord_in ps mo ⟨5, by decide⟩, by decide, fun G4 f4 => ?_⟩
        rw [show decide ((⟨#[88]⟩ : Str) ∈ hookers ps ces "ff" lns1) = true from decide_eq_true hx]
        refine ⟨true, rfl, iteF ?_⟩
        walk_at "r"
        exact ⟨(f03.trans eb).trans f4, _, _, _, _, _, rfl⟩
    · rintro σ' G ⟨e, v3, v4, v5, v6, v7, rfl⟩
      walk_at "r"
      exact k _ (e010.trans e)
end
end RK7


namespace RK7
open PySem PySem.Spec L2 RK RZ StX PyProof.Rows
section
variable {P : Program} {w : World} {K : PySem.W.Frag} {mg : Str → Option Value} {base : Heap} {a : Ad}
def ps5 : List Str := ["aa", "bb", "cc", "dd", "ee"]
def es4 : List Tie3 := [("aa", "bb", 5), ("cc", "bb", 0), ("dd", "aa", 2), ("cc", "aa", 9)]
def sX : Ln3 := ("s", "X", "dd")
def tY : Ln3 := ("t", "Y", "ee")
def lns2 : List Ln3 := [sX, tY]
theorem g5 : GoodParts ps5 := parts_ok (by decide +kernel)
theorem g4 : GoodTies ps5 es4 := ties_ok (by decide +kernel)
theorem caps2 : Caps "XY" := ⟨by decide, by decide, by decide, fun i c d h1 h2 => by
  have l := (Array.getElem?_eq_some_iff.mp h2).1
  have l : i + 1 < 2 := l
  obtain rfl : i = 0 := by omega
  cases h1
  cases h2
  decide⟩
theorem l2 : GoodLns ps5 "XY" lns2 := by
  have two : ∀ s ∈ lns2, s = sX ∨ s = tY := fun s m => by
    simp only [lns2, List.mem_cons, List.not_mem_nil, or_false] at m
    exact m
  refine ⟨by decide, by decide, fun s m => ?_, fun s m => ?_, fun s m => ?_, fun i s u h1 h2 => ?_⟩
  · rcases two s m with rfl | rfl
    · exact ⟨115, by decide +kernel, by decide, by decide⟩
    · exact ⟨116, by decide +kernel, by decide, by decide⟩
  · rcases two s m with rfl | rfl
    · exact ⟨88, by decide +kernel, by decide⟩
    · exact ⟨89, by decide +kernel, by decide⟩
  · rcases two s m with rfl | rfl <;> decide +kernel
  · match i, h1, h2 with
    | 0, h1, h2 => cases h1; cases h2; decide +kernel
theorem g7 : GoodPup ps5 es4 "XY" lns2 := ⟨g5, g4, caps2, l2⟩
def potL (s : Str) : Int := if s = "aa" then 5 else if s = "dd" then 7 else 0
theorem potL_ok : ∀ t ∈ es4, potL t.2.1 - potL t.1 ≤ t.2.2 ∧ potL t.1 - potL t.2.1 ≤ t.2.2 := by decide +kernel
theorem mCB : (("cc" : Str), ("bb" : Str), (0 : Int)) ∈ es4 := by decide +kernel
theorem mAB : (("aa" : Str), ("bb" : Str), (5 : Int)) ∈ es4 := by decide +kernel
theorem mDA : (("dd" : Str), ("aa" : Str), (2 : Int)) ∈ es4 := by decide +kernel
theorem wCA : RPath.Wk es4 "cc" "aa" 5 := by
  show RPath.Wk es4 "cc" "aa" (0 + 0 + 5)
  exact .bwd (.fwd (.nil ("cc" : Str)) mCB) mAB
theorem wCD : RPath.Wk es4 "cc" "dd" 7 := by
  show RPath.Wk es4 "cc" "dd" (5 + 2)
  exact .bwd wCA mDA
theorem dCD : dist ps5 es4 "cc" "dd" = some 7 := dist_eq g5 g4 potL potL_ok (by decide +kernel) (by decide +kernel) wCD (by decide +kernel)
theorem dAC : dist ps5 es4 "aa" "cc" = some 5 := (dist_symm g5 g4 (by decide +kernel) (by decide +kernel)).trans (dist_eq g5 g4 potL potL_ok (by decide +kernel) (by decide +kernel) wCA (by decide +kernel))
theorem alone : ∀ t ∈ es4, t.1 ≠ "ee" ∧ t.2.1 ≠ "ee" := by decide +kernel
theorem wEE {q : Str} {n : Int} (h : RPath.Wk es4 "ee" q n) : q = "ee" := by
  induction h with
  | nil => rfl
  | fwd _ m ih => exact absurd ih (alone _ m).1
  | bwd _ m ih => exact absurd ih (alone _ m).2
theorem dE {q : Str} (h : q ≠ "ee") : dist ps5 es4 "ee" q = none := by
  cases e : dist ps5 es4 "ee" q with
  | none => rfl
  | some x => exact absurd (wEE ((dist_exact g5 g4).sound _ _ _ e)) h
theorem dEE : dist ps5 es4 "ee" "ee" = some 0 := (dist_exact g5 g4).diag g4.pos (by decide +kernel)
theorem hookers2 : hookers ps5 es4 "cc" lns2 = [("X" : Str)] := by
  have d1 : dist ps5 es4 "dd" "cc" = some 7 := (dist_symm g5 g4 (by decide +kernel) (by decide +kernel)).trans dCD
  have d2 : dist ps5 es4 "ee" "cc" = none := dE (by decide +kernel)
  have p1 : pull ps5 es4 "cc" sX = some (("s" : Str), ("X" : Str), (7 : Int)) := by show (dist ps5 es4 "dd" "cc").map _ = _; rw [d1]; rfl
  have p2 : pull ps5 es4 "cc" tY = none := by show (dist ps5 es4 "ee" "cc").map _ = _; rw [d2]; rfl
  unfold hookers lns2
  rw [List.filterMap_cons, p1, List.filterMap_cons, p2]
  rfl
def spLaw (K : PySem.W.Frag) : Sp := fun vs H Q _ => ∃ (c : Addr) (ns : List Int), vs = [.ref c] ∧ SqL K H c (ns.map V.int) ∧ ns.length ≤ 63 ∧ ∀ H', Q (.bl true) H'
theorem ok_law (T : Txt K mg a) : FnOkG P w K mg base CX0 40 a.f_law a.d_law ["_law_cells"] (spLaw K) := by
  refine funG T.F_law sc_law (fun vs H Q E h => ?_) (fun cdv A outer s H vs Q E hG hr h => ?_)
  · obtain ⟨c, ns, rfl, _⟩ := h
    rfl
  · obtain ⟨c, ns, rfl, hcs, hl, k⟩ := h
    refine ⟨_, PSs.nox ((pss_cons (ps_set (i := 1) sc_law.nd rfl (Or.inl rfl) (pe_tup (pa_cons (pe_tup (pa_cons pe_str (pa_cons pe_str (pa_cons pe_int pa_nil)))) (pa_cons (pe_tup (pa_cons pe_str (pa_cons pe_str (pa_cons pe_int pa_nil)))) (pa_cons (pe_tup (pa_cons pe_str (pa_cons pe_str (pa_cons pe_int pa_nil)))) (pa_cons (pe_tup (pa_cons pe_str (pa_cons pe_str (pa_cons pe_int pa_nil)))) pa_nil))))))
      (pss_cons (ps_set (i := 2) sc_law.nd rfl (Or.inl rfl) (pe_make T.mk_Puppet (ok_Puppet_init T) (hr.mono (by decide)) (by rfl) T.m_Puppet T.b_Puppet_init .nil pass0 (pa_cons (pe_tup (pa_cons pe_str (pa_cons pe_str (pa_cons pe_str (pa_cons pe_str (pa_cons pe_str pa_nil)))))) (pa_cons (pv 1) (pa_cons pe_str (pa_cons (pe_tup (pa_cons (pe_tup (pa_cons pe_str (pa_cons pe_str (pa_cons pe_str pa_nil)))) (pa_cons (pe_tup (pa_cons pe_str (pa_cons pe_str (pa_cons pe_str pa_nil)))) pa_nil))) pa_nil))))))
      (pss_cons (ps_set (i := 3) sc_law.nd rfl (Or.inl rfl) (pe_lst (pa_cons (pe_meth (pv 2) T.cl_Puppet T.me_Puppet_distance (ok_Puppet_distance T) (hr.mono (by decide)) T.b_Puppet_distance .nil pass0 (pa_cons pe_str (pa_cons pe_str pa_nil))) (pa_cons (pe_meth (pv 2) T.cl_Puppet T.me_Puppet_distance (ok_Puppet_distance T) (hr.mono (by decide)) T.b_Puppet_distance .nil pass0 (pa_cons pe_str (pa_cons pe_str pa_nil))) (pa_cons (pe_meth (pv 2) T.cl_Puppet T.me_Puppet_distance (ok_Puppet_distance T) (hr.mono (by decide)) T.b_Puppet_distance .nil pass0 (pa_cons pe_str (pa_cons pe_str pa_nil))) (pa_cons (pe_meth (pv 2) T.cl_Puppet T.me_Puppet_distance (ok_Puppet_distance T) (hr.mono (by decide)) T.b_Puppet_distance .nil pass0 (pa_cons pe_str (pa_cons pe_str pa_nil))) pa_nil))))))
      (pss_cons (ps_if (PW.pt (pw_or (pt_cmpR (op_neD hr.units) (pv 3) (pe_lst (pa_cons pe_int (pa_cons pe_int (pa_cons pe_non (pa_cons pe_int pa_nil))))) (nomark _)) (pw_or1 (pt_cmpR (op_neD hr.units) (pe_lst (pa_cons (pe_meth (pv 2) T.cl_Puppet T.me_Puppet_has_way (ok_Puppet_has_way T) (hr.mono (by decide)) T.b_Puppet_has_way .nil pass0 (pa_cons pe_str (pa_cons pe_str pa_nil))) (pa_cons (pe_meth (pv 2) T.cl_Puppet T.me_Puppet_has_way (ok_Puppet_has_way T) (hr.mono (by decide)) T.b_Puppet_has_way .nil pass0 (pa_cons pe_str (pa_cons pe_str pa_nil))) pa_nil))) (pe_lst (pa_cons pe_bl (pa_cons pe_bl pa_nil))) (nomark _))))) (pss_one (ps_ret pe_bl)) pss_nil)
      (pss_cons (ps_if (pt_not (pt_val (pe_call0 (ok_chain_right T) (hr.mono (by decide)) (by rfl) T.m_chain_right T.F_chain_right.kp T.b_chain_right .nil pass0))) (pss_one (ps_ret pe_bl)) pss_nil)
      (pss_one (ps_ret (pe_callB (cr_all rfl) (by rfl) T.z_all (by decide +kernel) (pa_cons (pe_lc (own := [("_law_k", 4)]) (g := gName 4) (tt := tYes) rfl sc_law.nd (pi_range1 (by rfl) T.z_range (pa_cons (pe_callB (cr_max2 rfl) (by rfl) T.z_max (by decide +kernel) (pa_cons pe_int (pa_cons (pe_callB (cr_min2 rfl) (by rfl) T.z_min (by decide +kernel) (pa_cons (pe_callB cr_len (by rfl) T.z_len PySem.boot_len (pa_cons (pv 0) pa_nil)) (pa_cons pe_int pa_nil))) pa_nil))) pa_nil)) (blkOk_by (own := [("_law_k", 4)]) (N := ["_law_cells", "_law_cords_here", "_law_mine", "_law_found", "_law_k"]) (sc := defScope s_law) (by decide +kernel)) (fun _ _ _ _ _ => pg_name (i := 4) sc_law.nd rfl (Or.inl rfl)) (fun _ _ _ _ _ => pts_nil) (fun _ _ _ _ _ => by exact (pe_callG (ok_right T) hG (hr.mono (by decide)) (by rfl) T.m_right T.F_right.kp T.b_right pass0 (pa_cons (pe_call (ok_bag T) (hr.mono (by decide)) (by rfl) T.m_bag T.F_bag.kp T.b_bag .nil pass0 (pa_cons (pv 0) (pa_cons (pv 4) pa_nil))) pa_nil)))) pa_nil)))))))))), ?_⟩
    walk_at "r"
    refine w_newT (by show 3 ≤ 100000; decide) fun a1 H1 n1 e1 i1 => ?_
    walk_at "r"
    refine w_newT (by show 3 ≤ 100000; decide) fun a2 H2 n2 e2 i2 => ?_
    walk_at "r"
    refine w_newT (by show 3 ≤ 100000; decide) fun a3 H3 n3 e3 i3 => ?_
    walk_at "r"
    refine w_newT (by show 3 ≤ 100000; decide) fun a4 H4 n4 e4 i4 => ?_
    walk_at "r"
    refine w_newT (by show 4 ≤ 100000; decide) fun tc H5 n5 e5 i5 => ?_
    walk_at "r"
    refine w_newT (by show 5 ≤ 100000; decide) fun tp H6 n6 e6 i6 => ?_
    walk_at "r"
    refine w_newT (by show 3 ≤ 100000; decide) fun a7 H7 n7 e7 i7 => ?_
    walk_at "r"
    refine w_newT (by show 3 ≤ 100000; decide) fun a8 H8 n8 e8 i8 => ?_
    walk_at "r"
    refine w_newT (by show 2 ≤ 100000; decide) fun tl H9 n9 e9 i9 => ?_
    walk_at "r"
    have e69 := (e7.trans e8).trans e9
    have e59 := e6.trans e69
    have hp : SqT K H9 tp (ps5.map V.str) := seqT_same e69 (SqT.of i6)
    have hu : Rws K H9 tc (es4.map tieV) := ⟨[a1, a2, a3, a4], seqT_same e59 (SqT.of i5), rfl, fun i q v ha hv => by
      match i, ha, hv with
      | 0, ha, hv => cases ha; cases hv; exact seqT_same ((((e2.trans e3).trans e4).trans e5).trans e59) (SqT.of i1)
      | 1, ha, hv => cases ha; cases hv; exact seqT_same (((e3.trans e4).trans e5).trans e59) (SqT.of i2)
      | 2, ha, hv => cases ha; cases hv; exact seqT_same ((e4.trans e5).trans e59) (SqT.of i3)
      | 3, ha, hv => cases ha; cases hv; exact seqT_same (e5.trans e59) (SqT.of i4)⟩
    have hl9 : Rws K H9 tl (lns2.map lnV) := ⟨[a7, a8], SqT.of i9, rfl, fun i q v ha hv => by
      match i, ha, hv with
      | 0, ha, hv => cases ha; cases hv; exact seqT_same (e8.trans e9) (SqT.of i7)
      | 1, ha, hv => cases ha; cases hv; exact seqT_same e9 (SqT.of i8)⟩
    have e09 := ((((e1.trans e2).trans e3).trans e4).trans e5).trans e59
    refine mk_leaf hp hu hl9 g7 fun p G0 m0 f0 pup => ?_
    have e0 := e09.trans f0
    walk_at "r"
    refine pup_ml pup (by decide) ?_
    walk_at "r"
    refine ⟨p, "cc", "dd", ps5, es4, "XY", lns2, rfl, pup, by decide +kernel, by decide +kernel, fun G1 f1 => ?_⟩
    rw [dCD]
    walk_at "r"
    refine pup_ml (pup.same f1) (by decide) ?_
    walk_at "r"
    refine ⟨p, "aa", "cc", ps5, es4, "XY", lns2, rfl, (pup.same f1), by decide +kernel, by decide +kernel, fun G2 f2 => ?_⟩
    rw [dAC]
    walk_at "r"
    refine pup_ml (pup.same (f1.trans f2)) (by decide) ?_
    walk_at "r"
    refine ⟨p, "ee", "aa", ps5, es4, "XY", lns2, rfl, (pup.same (f1.trans f2)), by decide +kernel, by decide +kernel, fun G3 f3 => ?_⟩
    rw [dE (by decide +kernel)]
    walk_at "r"
    refine pup_ml (pup.same ((f1.trans f2).trans f3)) (by decide) ?_
    walk_at "r"
    refine ⟨p, "ee", "ee", ps5, es4, "XY", lns2, rfl, (pup.same ((f1.trans f2).trans f3)), by decide +kernel, by decide +kernel, fun G4 f4 => ?_⟩
    rw [dEE]
    walk_at "r"
    refine w_newL (by show 4 ≤ 100000; decide) fun l5 G5 m5 f5 j5 => ?_
    walk_at "r"
    refine w_newL (by show 4 ≤ 100000; decide) fun l6 G6 m6 f6 j6 => ?_
    walk_at "r"
    refine nel_leaf (f6 _ _ j5) j6 (.cons (.int 7) (.cons (.int 5) (.cons .non (.cons (.int 0) .nil)))) (by decide +kernel) ?_
    walk_at "r"
    have f06 := (((((f1.trans f2).trans f3).trans f4).trans f5).trans f6)
    refine iteF ?_
    walk_at "r"
    refine pup_ml (pup.same f06) (by decide) ?_
    walk_at "r"
    refine ⟨p, 88, "cc", ps5, es4, "XY", lns2, (by rw [show ("X" : Str) = ⟨#[88]⟩ by decide +kernel]; rfl), pup.same f06, by decide +kernel, by decide, fun G7 f7 => ?_⟩
    rw [hookers2, show decide ((⟨#[88]⟩ : Str) ∈ [("X" : Str)]) = true by decide +kernel]
    walk_at "r"
    refine pup_ml (pup.same (f06.trans f7)) (by decide) ?_
    walk_at "r"
    refine ⟨p, 89, "cc", ps5, es4, "XY", lns2, (by rw [show ("Y" : Str) = ⟨#[89]⟩ by decide +kernel]; rfl), pup.same (f06.trans f7), by decide +kernel, by decide, fun G8 f8 => ?_⟩
    rw [hookers2, show decide ((⟨#[89]⟩ : Str) ∈ [("X" : Str)]) = false by decide +kernel]
    walk_at "r"
    refine w_newL (by show 2 ≤ 100000; decide) fun l9 G9 m9 f9 j9 => ?_
    walk_at "r"
    refine w_newL (by show 2 ≤ 100000; decide) fun l10 G10 m10 f10 j10 => ?_
    walk_at "r"
    refine nel_leaf (f10 _ _ j9) j10 (.cons (.bl true) (.cons (.bl false) .nil)) (by decide +kernel) ?_
    walk_at "r"
    refine iteF ?_
    walk_at "r"
    refine ⟨rfl, fun G11 f11 => ?_⟩
    refine ⟨true, rfl, iteF ?_⟩
    walk_at "r"
    have sq : SqL K G11 c (ns.map V.int) := seqL_same (e0.trans ((((f06.trans f7).trans f8).trans f9).trans (f10.trans f11))) hcs
    refine w_lenL sq ?_
    walk_at "r"
    have nn : ∀ z : Int, z ≤ 63 → (if (if (6 : Int) < z then (6 : Int) else z) > 2 then (if (6 : Int) < z then (6 : Int) else z) else 2) ≤ 6 ∧ 2 ≤ (if (if (6 : Int) < z then (6 : Int) else z) > 2 then (if (6 : Int) < z then (6 : Int) else z) else 2) := fun z hz => by split <;> (try split) <;> omega
    obtain ⟨b1, b2⟩ := nn ((ns.map V.int).length : Int) (by rw [List.length_map]; omega)
    refine ⟨_, rfl, ?_, ?_, ?_⟩
    · omega
    · omega
    refine cmS walk_rng0 (by omega) (fun _ _ => trivial) (fun i v _ => v = .bl true) (fun _ _ _ _ _ h => h) (fun i x G G' hi e hy Q' kq => ?_) (fun D ys G12 n12 f12 h12 hn12 hP => ?_)
    · obtain ⟨rfl, rfl⟩ := hy
      refine ⟨rfl, ?_⟩
      walk_at "r"
      refine ⟨c, ns, i, rfl, seqL_same e sq, by omega, fun b B1 nb eb bag => ?_⟩
      walk_at "r"
      exact ⟨b, rfl, bag, fun B2 k2 => kq _ _ (fun x o hx => k2.keep _ _ (ne_of_none hx nb) (eb _ _ hx)) rfl⟩
    walk_at "r"
    exact all_P h12 hP (k _)
end
end RK7

namespace RK7
open PySem PySem.Spec PyProof.Rows L2 RK
theorem walk {l : PySem.W.OpenLaw} {q : Program} {loose : List Str} {XP : (Str → Option Value) → Heap → Prop} {YP : World → Heap → Prop} {d : DefRec} {K : Params → PySem.W.Frag} (hn : l.most = some 63) (hdf : d.params.defaults = []) (hd : d.name = "law")
    (hY : ∀ (w : World) (h : Heap), YP w h → (K w.params).In h)
    (F : ∀ (w : World) (mg : Str → Option Value) (h : Heap), (K w.params).In h → h.Ns mainGlobals mg → ∃ a : Ad, Txt (K w.params) mg a) :
    PySem.W.WalkO q loose XP YP l.row.toRowW d [] (fun f vs => PySem.call f vs) :=
  RK.walk_G (n := 63) (k := 40) (x := "_law_cells") (CX := fun _ => CX0) hn (by decide) hdf ⟨rfl, by decide, by decide⟩ hY (fun w mg fa h Y KX G hmg recs => by
    obtain ⟨a, T⟩ := F w mg h KX G
    rw [hd, T.m_law] at hmg
    cases hmg
    refine ⟨a.d_law, [], spLaw (K w.params), fun p hp => absurd hp List.not_mem_nil, fun p hp => absurd hp List.not_mem_nil, fun p hp => absurd hp List.not_mem_nil, fun s u => ?_, fun H c ns hl _ _ hS => ⟨c, ns, rfl, hS, hl, fun _ => rfl⟩, fun base _ _ _ => ok_law T⟩
    obtain ⟨oc, od, kV, doc, pm, an, cdv, ct, osl, e, _, _⟩ := T.F_law.ex
    rw [e]
    exact .of_eq rfl) fun _ _ _ _ _ z => z
end RK7
open PySem PySem.W PyProof.Rows
set_option maxRecDepth 100000 in
set_option maxHeartbeats 0 in
theorem PySem.Challenge.cw_slackstrings_k07_distances_and_ways_holds : PySem.Challenge.rw_slackstrings_k07_distances_and_ways.Holds := by
  w_on; o_law; k_head; (case hw => w_witness2)
  k_fill
  refine RK7.walk (l := PySem.Challenge.rw_slackstrings_k07_distances_and_ways) rfl rfl rfl (fun w h Y => by first | exact PySem.W.kIn_of Y | exact PySem.W.km_in_of Y) ?F
  case F =>
    intro w mg h KX G
    refine' RK7.all_mk KX G ?aC_Puppet ?pg_Puppet ?hd_Puppet ?po_Puppet ?sa_Puppet ?mk_Puppet ?kc_Puppet ?a_is_whole ?l_is_whole ?c_is_whole ?k_is_whole ?a_is_number ?l_is_number ?c_is_number ?k_is_number ?a_is_small_letter ?l_is_small_letter ?c_is_small_letter ?k_is_small_letter ?a_is_capital ?l_is_capital ?c_is_capital ?k_is_capital ?a_is_word ?l_is_word ?c_is_word ?k_is_word ?a_is_row ?l_is_row ?c_is_row ?k_is_row ?a_is_rising ?l_is_rising ?c_is_rising ?k_is_rising ?a_are_capitals ?l_are_capitals ?c_are_capitals ?k_are_capitals ?a_is_one_of ?l_is_one_of ?c_is_one_of ?k_is_one_of ?a_Puppet_init ?i_Puppet_init ?l_Puppet_init ?c_Puppet_init ?k_Puppet_init ?a_check_parts ?l_check_parts ?c_check_parts ?k_check_parts ?a_check_ties ?l_check_ties ?c_check_ties ?k_check_ties ?a_is_tie ?l_is_tie ?c_is_tie ?k_is_tie ?a_is_tied ?l_is_tied ?c_is_tied ?k_is_tied ?a_check_strings ?l_check_strings ?c_check_strings ?k_check_strings ?a_is_string ?l_is_string ?c_is_string ?k_is_string ?a_distances_of ?l_distances_of ?c_distances_of ?k_distances_of ?a_shorten ?l_shorten ?c_shorten ?k_shorten ?a_Puppet_distance ?i_Puppet_distance ?l_Puppet_distance ?c_Puppet_distance ?k_Puppet_distance ?a_Puppet_has_way ?i_Puppet_has_way ?l_Puppet_has_way ?c_Puppet_has_way ?k_Puppet_has_way ?a_Puppet_pulls ?i_Puppet_pulls ?l_Puppet_pulls ?c_Puppet_pulls ?k_Puppet_pulls ?a_Puppet_hooks_to ?i_Puppet_hooks_to ?l_Puppet_hooks_to ?c_Puppet_hooks_to ?k_Puppet_hooks_to ?a_bag ?l_bag ?c_bag ?k_bag ?a_draw ?l_draw ?c_draw ?k_draw ?a_one ?l_one ?c_one ?k_one ?a_words ?l_words ?c_words ?k_words ?a_letters ?l_letters ?c_letters ?k_letters ?a_cords ?l_cords ?c_cords ?k_cords ?a_shape ?l_shape ?c_shape ?k_shape ?a_far ?l_far ?c_far ?k_far ?a_right ?l_right ?c_right ?k_right ?a_chain_right ?l_chain_right ?c_chain_right ?k_chain_right ?a_law ?l_law ?c_law ?k_law ?z_isinstance ?z_int ?z_bool ?z_len ?z_abs ?z_range ?z_all ?z_any ?z_max ?z_min ?z_str ?z_tuple ?z_zip ?z_list ?z_sorted ?z_enumerate ?z_repr ?z_sum ?g_MOST_PARTS ?g_MOST_TIES ?g_MOST_HOOKS ?g_MOST_STRINGS ?g_MOST_AMOUNT ?h_n_parts ?h_n_ties ?h_n_hooks ?h_n_strings ?h_n_names ?h_n_distances
    (case aC_Puppet => first | k_is | rfl)
    (case pg_Puppet => first | k_is | rfl)
    (case hd_Puppet => first | k_is | rfl)
    (case po_Puppet => first | k_is | rfl)
    (case sa_Puppet => first | k_is | rfl)
    (case mk_Puppet => first | k_is | rfl)
    (case kc_Puppet => first | k_is | rfl)
    (case a_is_whole => first | k_is | rfl)
    (case l_is_whole => first | k_is | rfl)
    (case c_is_whole => first | k_is | rfl)
    (case k_is_whole => first | k_is | rfl)
    (case a_is_number => first | k_is | rfl)
    (case l_is_number => first | k_is | rfl)
    (case c_is_number => first | k_is | rfl)
    (case k_is_number => first | k_is | rfl)
    (case a_is_small_letter => first | k_is | rfl)
    (case l_is_small_letter => first | k_is | rfl)
    (case c_is_small_letter => first | k_is | rfl)
    (case k_is_small_letter => first | k_is | rfl)
    (case a_is_capital => first | k_is | rfl)
    (case l_is_capital => first | k_is | rfl)
    (case c_is_capital => first | k_is | rfl)
    (case k_is_capital => first | k_is | rfl)
    (case a_is_word => first | k_is | rfl)
    (case l_is_word => first | k_is | rfl)
    (case c_is_word => first | k_is | rfl)
    (case k_is_word => first | k_is | rfl)
    (case a_is_row => first | k_is | rfl)
    (case l_is_row => first | k_is | rfl)
    (case c_is_row => first | k_is | rfl)
    (case k_is_row => first | k_is | rfl)
    (case a_is_rising => first | k_is | rfl)
    (case l_is_rising => first | k_is | rfl)
    (case c_is_rising => first | k_is | rfl)
    (case k_is_rising => first | k_is | rfl)
    (case a_are_capitals => first | k_is | rfl)
    (case l_are_capitals => first | k_is | rfl)
    (case c_are_capitals => first | k_is | rfl)
    (case k_are_capitals => first | k_is | rfl)
    (case a_is_one_of => first | k_is | rfl)
    (case l_is_one_of => first | k_is | rfl)
    (case c_is_one_of => first | k_is | rfl)
    (case k_is_one_of => first | k_is | rfl)
    (case a_Puppet_init => first | k_is | rfl)
    (case i_Puppet_init => first | k_is | rfl)
    (case l_Puppet_init => first | k_is | rfl)
    (case c_Puppet_init => first | k_is | rfl)
    (case k_Puppet_init => first | k_is | rfl)
    (case a_check_parts => first | k_is | rfl)
    (case l_check_parts => first | k_is | rfl)
    (case c_check_parts => first | k_is | rfl)
    (case k_check_parts => first | k_is | rfl)
    (case a_check_ties => first | k_is | rfl)
    (case l_check_ties => first | k_is | rfl)
    (case c_check_ties => first | k_is | rfl)
    (case k_check_ties => first | k_is | rfl)
    (case a_is_tie => first | k_is | rfl)
    (case l_is_tie => first | k_is | rfl)
    (case c_is_tie => first | k_is | rfl)
    (case k_is_tie => first | k_is | rfl)
    (case a_is_tied => first | k_is | rfl)
    (case l_is_tied => first | k_is | rfl)
    (case c_is_tied => first | k_is | rfl)
    (case k_is_tied => first | k_is | rfl)
    (case a_check_strings => first | k_is | rfl)
    (case l_check_strings => first | k_is | rfl)
    (case c_check_strings => first | k_is | rfl)
    (case k_check_strings => first | k_is | rfl)
    (case a_is_string => first | k_is | rfl)
    (case l_is_string => first | k_is | rfl)
    (case c_is_string => first | k_is | rfl)
    (case k_is_string => first | k_is | rfl)
    (case a_distances_of => first | k_is | rfl)
    (case l_distances_of => first | k_is | rfl)
    (case c_distances_of => first | k_is | rfl)
    (case k_distances_of => first | k_is | rfl)
    (case a_shorten => first | k_is | rfl)
    (case l_shorten => first | k_is | rfl)
    (case c_shorten => first | k_is | rfl)
    (case k_shorten => first | k_is | rfl)
    (case a_Puppet_distance => first | k_is | rfl)
    (case i_Puppet_distance => first | k_is | rfl)
    (case l_Puppet_distance => first | k_is | rfl)
    (case c_Puppet_distance => first | k_is | rfl)
    (case k_Puppet_distance => first | k_is | rfl)
    (case a_Puppet_has_way => first | k_is | rfl)
    (case i_Puppet_has_way => first | k_is | rfl)
    (case l_Puppet_has_way => first | k_is | rfl)
    (case c_Puppet_has_way => first | k_is | rfl)
    (case k_Puppet_has_way => first | k_is | rfl)
    (case a_Puppet_pulls => first | k_is | rfl)
    (case i_Puppet_pulls => first | k_is | rfl)
    (case l_Puppet_pulls => first | k_is | rfl)
    (case c_Puppet_pulls => first | k_is | rfl)
    (case k_Puppet_pulls => first | k_is | rfl)
    (case a_Puppet_hooks_to => first | k_is | rfl)
    (case i_Puppet_hooks_to => first | k_is | rfl)
    (case l_Puppet_hooks_to => first | k_is | rfl)
    (case c_Puppet_hooks_to => first | k_is | rfl)
    (case k_Puppet_hooks_to => first | k_is | rfl)
    (case a_bag => first | k_is | rfl)
    (case l_bag => first | k_is | rfl)
    (case c_bag => first | k_is | rfl)
    (case k_bag => first | k_is | rfl)
    (case a_draw => first | k_is | rfl)
    (case l_draw => first | k_is | rfl)
    (case c_draw => first | k_is | rfl)
    (case k_draw => first | k_is | rfl)
    (case a_one => first | k_is | rfl)
    (case l_one => first | k_is | rfl)
    (case c_one => first | k_is | rfl)
    (case k_one => first | k_is | rfl)
    (case a_words => first | k_is | rfl)
    (case l_words => first | k_is | rfl)
    (case c_words => first | k_is | rfl)
    (case k_words => first | k_is | rfl)
    (case a_letters => first | k_is | rfl)
    (case l_letters => first | k_is | rfl)
    (case c_letters => first | k_is | rfl)
    (case k_letters => first | k_is | rfl)
    (case a_cords => first | k_is | rfl)
    (case l_cords => first | k_is | rfl)
    (case c_cords => first | k_is | rfl)
    (case k_cords => first | k_is | rfl)
    (case a_shape => first | k_is | rfl)
    (case l_shape => first | k_is | rfl)
    (case c_shape => first | k_is | rfl)
    (case k_shape => first | k_is | rfl)
    (case a_far => first | k_is | rfl)
    (case l_far => first | k_is | rfl)
    (case c_far => first | k_is | rfl)
    (case k_far => first | k_is | rfl)
    (case a_right => first | k_is | rfl)
    (case l_right => first | k_is | rfl)
    (case c_right => first | k_is | rfl)
    (case k_right => first | k_is | rfl)
    (case a_chain_right => first | k_is | rfl)
    (case l_chain_right => first | k_is | rfl)
    (case c_chain_right => first | k_is | rfl)
    (case k_chain_right => first | k_is | rfl)
    (case a_law => first | k_is | rfl)
    (case l_law => first | k_is | rfl)
    (case c_law => first | k_is | rfl)
    (case k_law => first | k_is | rfl)
    (case z_isinstance => first | k_is | rfl)
    (case z_int => first | k_is | rfl)
    (case z_bool => first | k_is | rfl)
    (case z_len => first | k_is | rfl)
    (case z_abs => first | k_is | rfl)
    (case z_range => first | k_is | rfl)
    (case z_all => first | k_is | rfl)
    (case z_any => first | k_is | rfl)
    (case z_max => first | k_is | rfl)
    (case z_min => first | k_is | rfl)
    (case z_str => first | k_is | rfl)
    (case z_tuple => first | k_is | rfl)
    (case z_zip => first | k_is | rfl)
    (case z_list => first | k_is | rfl)
    (case z_sorted => first | k_is | rfl)
    (case z_enumerate => first | k_is | rfl)
    (case z_repr => first | k_is | rfl)
    (case z_sum => first | k_is | rfl)
    (case g_MOST_PARTS => first | k_is | rfl)
    (case g_MOST_TIES => first | k_is | rfl)
    (case g_MOST_HOOKS => first | k_is | rfl)
    (case g_MOST_STRINGS => first | k_is | rfl)
    (case g_MOST_AMOUNT => first | k_is | rfl)
    (case h_n_parts => first | k_is | rfl)
    (case h_n_ties => first | k_is | rfl)
    (case h_n_hooks => first | k_is | rfl)
    (case h_n_strings => first | k_is | rfl)
    (case h_n_names => first | k_is | rfl)
    (case h_n_distances => first | k_is | rfl)
