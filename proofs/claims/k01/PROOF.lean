import PyProof.Rows.All
import HandS.Defaults
import HandS.ForMost
import HandS.Gcd
import HandS.IsInst
import HandS.MakeKw
import HandS.MakeKwOnly
import HandS.SlotsOwn
import HandS.Wide
import KE.KOpsOwn
import OpenK.AllK
import PyProof.InstNe
import PyProof.Rows.EqMixed
import PyProof.StrReplace2
import Wide.All
import Wide.FinOn
import PySem.Challenge.RW_slackstrings_k01_ratios_reckoned
set_option Elab.async false
set_option linter.all false
set_option maxRecDepth 100000
set_option maxHeartbeats 4000000
/-! Own operators of a class, over the layer. -/
namespace PySem.RkX
open PySem PySem.W
section
variable {prog : Program} {w : World} {A : Around} {E : Value → Shared → Prop} {s : Shared} {K : Frag} {x C L f : Addr} {h₀ : Heap} {m : Str → Option Value} {ox : Obj} {od : Option Obj}

/-- int op instance, int's own slot declines -/
theorem bin_IO {op : Operator} {i : Int} {t : Tok} {id : String} {g0 : Addr} {Q : Value → Shared → Prop} (X : K.In s.heap) (I : InstAt s.heap x ox C od) (hc : selfFirst K C = true)
    (hs : findIn K (.ref C) (PySem.dunder op.info.2) = some (some (.ref g0))) (hr : findIn K (.ref C) (dunderR op.info.2) = some (some (.ref f))) (hf : isFn K (.ref f) = true)
    (hsub : subIn K (.ref C) (.type "int") = some false) (fillsT : fillsNumberSlot (.type "int") op.info.2 = pure true) (slot : Slot "int" (PySem.dunder op.info.2) id)
    (hd : ∀ Q : Value → Shared → Prop, Q .notImplemented s → wpAny (model prog w) A (call (.builtin id) [.int i t, .ref x]) Q E s)
    (h : wpAny (model prog w) A (call (.ref f) [.ref x, .int i t]) (CmpBack Q) E s) : wpAny (model prog w) A (binaryOp op (.int i t) (.ref x)) Q E s := by
  obtain ⟨cd, rest, hcd, hm⟩ := ksp_first hc
  rcases hi : op.info with ⟨sym, nm'⟩
  rw [hi] at hs hr fillsT slot
  dsimp only at hs hr fillsT slot
  have one := ksp_try X I hr hf h
  have two : wpAny (model prog w) A (tryMethod (.int i t) (PySem.dunder nm') (.ref x)) (fun r s' => r = none ∧ s' = s) E s :=
    wpAny_tryMethod_declines (typeIs_int s i t) slot (hd _ ⟨rfl, rfl, rfl⟩)
  obtain ⟨hh, g, d, tt, os⟩ := s
  have L1 : Looks (model prog w) hh (typeOf (.ref x)) (.ref C) := I.type
  have L2 : Looks (model prog w) hh (typeOf (.int i t)) (.type "int") := Looks.of_pure rfl
  have L3 : Looks (model prog w) hh (fillsNumberSlot (.ref C) nm') true := fills_K X hcd hm hs
  have L4 : Looks (model prog w) hh (fillsNumberSlot (.type "int") nm') true := Looks.of_pure fillsT
  have L5 : Looks (model prog w) hh (isSubtype (.ref C) (.type "int")) false := looks_subIn X hsub
  have L7 : Looks (model prog w) hh (numberSlotInPython (.type "int") nm') false := Looks.of_pure rfl
  have hne : (Value.type "int" == Value.ref C) = false := Bool.eq_false_iff.mpr fun q => by cases beq_iff_eq.mp q
  simp only [binaryOp, hi]
  refine wpAny_holding (wpAny_bind ?_)
  unfold binaryOp1
  refine wpAny_bind (L2.at (wpAny_bind (L1.at (wpAny_bind (L4.at ?_)))))
  simp only [hne, Bool.false_eq_true, if_false]
  ksp_lk
  refine wpAny_mono two (fun r s' hr' => ?_) fun _ _ e => e
  obtain ⟨rfl, rfl⟩ := hr'
  ksp_lk
  refine wpAny_mono one (fun r s' hr' => ?_) fun _ _ e => e
  obtain ⟨v, rfl, hq⟩ := hr'
  ksp_lk
  exact hq

/-- int == instance: int's own __eq__ declines, the class's one is asked -/
theorem eq_IO {i : Int} {t : Tok} {Q : Value → Shared → Prop} (hu : A.units < cLine) (X : K.In s.heap) (I : InstAt s.heap x ox C od)
    (hs : findIn K (.ref C) "__eq__" = some (some (.ref f))) (hf : isFn K (.ref f) = true) (hsub : subIn K (.ref C) (.type "int") = some false)
    (hd : ∀ Q : Value → Shared → Prop, Q .notImplemented s → wpAny (model prog w) A (call (.builtin "int.__eq__") [.int i t, .ref x]) Q E s)
    (h : wpAny (model prog w) A (call (.ref f) [.ref x, .int i t]) (CmpBack Q) E s) : wpAny (model prog w) A (richCompare .Eq (.int i t) (.ref x)) Q E s := by
  have one : wpAny (model prog w) A (tryCompare (.ref x) "__eq__" (.int i t)) (fun r s' => ∃ v, r = some v ∧ Q v s') E s := by
    unfold tryCompare
    refine wpAny_bind (ifBound_K X I hs hf (wpAny_mono h (fun v s' hv => ?_) fun _ _ e => e))
    cases v <;> first | exact hv.elim | exact wpAny_pure ⟨_, rfl, hv⟩
  have two : wpAny (model prog w) A (tryCompare (.int i t) "__eq__" (.ref x)) (fun r s' => r = none ∧ s' = s) E s :=
    wpAny_tryCompare_declines (typeIs_int s i t) F.slot_int_eq (hd _ ⟨rfl, rfl, rfl⟩)
  have L2 : Looks (model prog w) s.heap (typeOf (.int i t)) (.type "int") := Looks.of_pure rfl
  have hne0 : (Value.type "int" == Value.ref C) = false := Bool.eq_false_iff.mpr fun q => by cases beq_iff_eq.mp q
  have hne : (Value.type "int" != Value.ref C) = true := by
    rw [bne, hne0]
    rfl
  unfold richCompare
  simp only [(typeIs_int s i t).oneThing_none]
  refine wpAny_holding (wpAny_bind (wpAny_cRoomFor hu ?_))
  rw [show cmpInfo .Eq = ("==", ("__eq__" : Str), ("__eq__" : Str)) from rfl]
  dsimp only
  refine wpAny_bind (L2.here (wpAny_bind (I.type.here ?_)))
  simp only [hne, if_true]
  refine wpAny_bind ((looks_subIn X hsub).here ?_)
  simp only [Bool.false_eq_true, if_false, Bool.not_false, if_true]
  refine wpAny_bind (wpAny_mono two (fun r s' hr' => ?_) fun _ _ e => e)
  obtain ⟨rfl, rfl⟩ := hr'
  refine wpAny_bind (wpAny_mono one (fun r s' hr' => ?_) fun _ _ e => e)
  obtain ⟨v, rfl, hq⟩ := hr'
  exact wpAny_pure hq

/-- int's slots decline an object that holds no int -/
def NoPrim (h : Heap) (x : Addr) : Prop := ∃ o, h.get? x = some o ∧ ∀ i t, o.data ≠ .prim (.int i t)
theorem asInt_ref {Q : Option Int → Shared → Prop} {M : Model} (h : NoPrim s.heap x) (q : Q none s) : wpAny M A (asInt? (.ref x)) Q E s := by
  obtain ⟨o, ho, hn⟩ := h
  unfold asInt?
  refine wpAny_bind (wpAny_load ho ?_)
  split
  · rename_i i t e
    exact absurd e (hn i t)
  · exact wpAny_pure q

/-- instance != instance: object's own __ne__ asks the class's __eq__ -/
theorem ne_entry {y : Addr} {Q : Fin → Shared → Prop} (hu : A.units < cLine) (X : K.In s.heap) (I : InstAt s.heap x ox C od) (hs : findIn K (.ref C) "__eq__" = some (some (.ref f))) (hf : isFn K (.ref f) = true)
    (h : wpAny (model prog w) A (call (.ref f) [.ref x, .ref y]) (fun v s' => ∃ b, v = .bool b ∧ Q (.done (.ret (.bool (!b)))) s') E s) :
    wpAny (model prog w) A (Builtin.«object.__ne__» ⟨[.ref x, .ref y], []⟩) Q E s := by
  have one : wpAny (model prog w) A (callSpecialIfBound? (.ref x) "__eq__" [.ref y]) (fun r s' => ∃ b, r = some (.bool b) ∧ Q (.done (.ret (.bool (!b)))) s') E s :=
    ifBound_K X I hs hf (wpAny_mono h (fun v s' ⟨b, e, q⟩ => ⟨b, by rw [e], q⟩) fun _ _ e => e)
  obtain ⟨hp, g, d, tk, os⟩ := s
  unfold Builtin.«object.__ne__»
  repeat (first
    | with_reducible refine wpAny_cRoomFor hu ?_
    | (refine wpAny_bind (m := callSpecialIfBound? (.ref x) (Str.ofString "__eq__") [.ref y]) (wpAny_mono one (fun r s' hr => by
          obtain ⟨b, rfl, hq⟩ := hr
          repeat (first | exact hq | exact wpAny_pure hq | exact wpAny_truthy_bool hq | (refine wpAny_bind (m := truthy (.bool _)) (wpAny_truthy_bool ?_)) | wp_step)) fun _ _ e => e))
    | wp_step)
theorem ne_check {y : Addr} {Q : Unit → Shared → Prop} {M : Model} (X : K.In s.heap) (I : InstAt s.heap x ox C od) (hob : subIn K (.ref C) (.type "object") = some true) (hq : Q () s) :
    wpAny M A (checkBuiltinCall "object.__ne__" ⟨[.ref x, .ref y], []⟩) Q E s := by
  have ha := F.cmpArgs_ne (.ref x) (.ref y)
  simp only [checkBuiltinCall, F.cmpKind_ne, F.cmpSplit_ne]
  refine wpAny_bind ?_
  unfold isInstance
  refine wpAny_bind (I.type.here ((looks_subIn X hob).here ?_))
  cases hsig : Manifest.signature? "object.__ne__" with
  | none => repeat (first | exact hq | exact wpAny_pure hq | wp_step)
  | some sig =>
    simp only [argsOk, hsig] at ha
    have h2 : Bind.checkArgs "object.__ne__" sig ⟨[.ref x, .ref y], []⟩ = pure () := ha
    repeat (first | exact hq | exact wpAny_pure hq | (rw [h2]; exact wpAny_pure hq) | wp_step)
theorem ne_OO {y : Addr} {Q : Value → Shared → Prop} (hu : A.units + 1 < cLine) (X : K.In s.heap) (I : InstAt s.heap x ox C od) (hy : Looks (model prog w) s.heap (typeOf (.ref y)) (.ref C))
    (hs : findIn K (.ref C) "__eq__" = some (some (.ref f))) (hf : isFn K (.ref f) = true) (hn : findIn K (.ref C) "__ne__" = some (some (.builtin "object.__ne__"))) (hob : subIn K (.ref C) (.type "object") = some true)
    (h : wpAny (model prog w) A.in1 (call (.ref f) [.ref x, .ref y]) (fun v s' => ∃ b, v = .bool b ∧ Q (.bool (!b)) s') E s) : wpAny (model prog w) A (richCompare .NotEq (.ref x) (.ref y)) Q E s := by
  have called : wpAny (model prog w) A (call (.builtin "object.__ne__") [.ref x, .ref y]) (fun v s' => ∃ b, v = .bool b ∧ Q (.bool b) s') E s := by
    refine wpAny_call (codeAny_call_builtin F.cmp_object.ne.plain F.cmpEntry_ne (ne_check X I hob ?_))
    refine ne_entry (A := A.in1) hu X I hs hf (wpAny_mono h (fun v s' hv => ?_) fun _ _ e => e)
    obtain ⟨b, rfl, hq⟩ := hv
    exact ⟨b, rfl, _, rfl, hq⟩
  have bound : wpAny (model prog w) A (callSpecialIfBound? (.ref x) "__ne__" [.ref y]) (fun r s' => ∃ b, r = some (.bool b) ∧ Q (.bool b) s') E s := by
    simp only [callSpecialIfBound?, bindSpecialIfBound?]
    refine wpAny_holding (wpAny_bind (wpAny_bind (wpAny_bind (I.type.here ((looks_findIn X hn).here ?_)))))
    have sb := F.cmp_object.ne.bind
    simp only [sb]
    refine wpAny_bind (wpAny_askSetting (wpAny_ite ?_))
    have fin : wpAny (model prog w) A (call (.builtin "object.__ne__") ([.ref x] ++ [.ref y]) >>= fun v => pure (some v)) (fun r s' => ∃ b, r = some (.bool b) ∧ Q (.bool b) s') E s :=
      wpAny_bind (wpAny_mono called (fun v s' h' => wpAny_pure (by obtain ⟨b, rfl, q⟩ := h'; exact ⟨b, rfl, q⟩)) fun _ _ h' => h')
    split
    · exact wpAny_bind (wpAny_pure (wpAny_pure fin))
    · exact wpAny_tryCatch (wpAny_bind (wpAny_pure (wpAny_pure fin)))
  have one : wpAny (model prog w) A (tryCompare (.ref x) "__ne__" (.ref y)) (fun r s' => ∃ b, r = some (.bool b) ∧ Q (.bool b) s') E s := by
    unfold tryCompare
    refine wpAny_bind (wpAny_mono bound (fun r s' hr => ?_) fun _ _ e => e)
    obtain ⟨b, rfl, q⟩ := hr
    exact wpAny_pure ⟨b, rfl, q⟩
  unfold richCompare
  simp only [oneThing_ref]
  refine wpAny_holding (wpAny_bind (wpAny_cRoomFor (Nat.lt_of_succ_lt hu) ?_))
  rw [cmpInfo_NotEq]
  dsimp only
  refine wpAny_bind (I.type.here (wpAny_bind (hy.here ?_)))
  rw [show (Value.ref C != Value.ref C) = false from by simp]
  simp only [Bool.false_eq_true, if_false]
  refine wpAny_bind (wpAny_pure ?_)
  simp only [Bool.false_eq_true, if_false]
  refine wpAny_bind (wpAny_mono one (fun r s' hr => ?_) fun _ _ e => e)
  obtain ⟨b, rfl, q⟩ := hr
  exact wpAny_pure q
end
section
variable {x : Addr} (a : Int) (t : Tok)
theorem dec_add : GivesAt (fun s => NoPrim s.heap x) (Builtin.«int.__add__» ⟨[.int a t, .ref x], []⟩) (.val .notImplemented) := by
  intro prog w A R s hP h
  obtain ⟨hp, g, d, tk, os⟩ := s
  wp_walk
  obtain ⟨o, ho, hn⟩ := hP
  refine wpAny_load ho ?_
  split
  · rename_i i t e
    exact absurd e (hn i t)
  · wp_walk
    exact h
theorem dec_sub : GivesAt (fun s => NoPrim s.heap x) (Builtin.«int.__sub__» ⟨[.int a t, .ref x], []⟩) (.val .notImplemented) := by
  intro prog w A R s hP h
  obtain ⟨hp, g, d, tk, os⟩ := s
  wp_walk
  obtain ⟨o, ho, hn⟩ := hP
  refine wpAny_load ho ?_
  split
  · rename_i i t e
    exact absurd e (hn i t)
  · wp_walk
    exact h
theorem dec_mul : GivesAt (fun s => NoPrim s.heap x) (Builtin.«int.__mul__» ⟨[.int a t, .ref x], []⟩) (.val .notImplemented) := by
  intro prog w A R s hP h
  obtain ⟨hp, g, d, tk, os⟩ := s
  wp_walk
  obtain ⟨o, ho, hn⟩ := hP
  refine wpAny_load ho ?_
  split
  · rename_i i t e
    exact absurd e (hn i t)
  · wp_walk
    exact h
theorem dec_eq : GivesAt (fun s => NoPrim s.heap x) (Builtin.«int.__eq__» ⟨[.int a t, .ref x], []⟩) (.val .notImplemented) := by
  intro prog w A R s hP h
  obtain ⟨hp, g, d, tk, os⟩ := s
  wp_walk
  obtain ⟨o, ho, hn⟩ := hP
  refine wpAny_load ho ?_
  split
  · rename_i i t e
    exact absurd e (hn i t)
  · wp_walk
    exact h
end
end PySem.RkX

namespace RK
open PySem PySem.Spec PyProof.Rows L2

/-! ### rules for own operators, by values -/
section
variable {X : Cx} {CX : CXT} {n : Nat} {C f g0 : Addr} {fd : FuncData} {ps : List Str} {sp : Sp} {E : XK}
theorem inst_at {pins : List (Addr × Obj)} {σ : L2.St} {H : Hp} {s : Shared} {a dx : Addr} {fs : List (Str × V)} (I : Inv X pins σ H s) (h : H a = some (.ins C dx fs)) : ∃ od, PySem.W.InstAt s.heap a (PySem.W.instObj C dx) C (some od) := by
  obtain ⟨mA, J, _⟩ := ins_get I.hok h
  obtain ⟨od, J, _⟩ := J.look
  exact ⟨od, J⟩
theorem inst_np {h : Heap} {a dx : Addr} {od : Option Obj} (J : PySem.W.InstAt h a (PySem.W.instObj C dx) C od) : PySem.RkX.NoPrim h a := ⟨_, J.at_, fun i t e => nomatch e⟩
/-- a op b, both instances of the class at C -/
def rOwn2 (C : Addr) (sp : Sp) (E : XK) : R2 := fun x y H Q => ∃ a b dx fs dy gs, x = .ref a ∧ y = .ref b ∧ H a = some (.ins C dx fs) ∧ H b = some (.ins C dy gs) ∧ sp [x, y] H Q E
theorem op_own2 {op : Operator} (hc : PySem.W.selfFirst X.K C = true) (hs : PySem.W.findIn X.K (.ref C) (PySem.dunder op.info.2) = some (some (.ref f))) (hf : PySem.W.isFn X.K (.ref f) = true)
    (F : FnOk X.prog X.w X.K X.mg X.base CX n f fd ps sp) (hr : Room n X.A) (hb : Binds X.K fd ps []) (hx : Passes CX X E) : OpR X (binaryOp op) (rOwn2 C sp E) := by
  intro pins s σ H x y v u Q I rx ry h
  obtain ⟨a, b, dx, fs, dy, gs, rfl, rfl, ha, hb', q⟩ := h
  cases (show v = Value.ref a from rx)
  cases (show u = Value.ref b from ry)
  obtain ⟨od, J⟩ := inst_at I ha
  obtain ⟨od', J'⟩ := inst_at I hb'
  obtain ⟨m, hF⟩ := I.fr
  refine PySem.W.binop_K hF I.ok.mod.kin J J'.type hc hs hf ?_
  refine wpAny_mono (run_fn (vs := [V.ref a, V.ref b]) F hr hb .nil hx I (.cons rfl (.cons rfl .nil)) q) (fun w s' z => ?_) fun _ _ x => x
  obtain ⟨z', H', I', rz, qz⟩ := z
  exact SlX.cmpback rz ⟨z', H', I', rz, qz⟩
/-- a op int -/
def rOwnI (C : Addr) (sp : Sp) (E : XK) : R2 := fun x y H Q => ∃ a dx fs i, x = .ref a ∧ y = .int i ∧ H a = some (.ins C dx fs) ∧ sp [x, y] H Q E
theorem op_ownI {op : Operator} {fo ro rc : Option Value} (hc : PySem.W.selfFirst X.K C = true) (hs : PySem.W.findIn X.K (.ref C) (PySem.dunder op.info.2) = some (some (.ref f))) (hf : PySem.W.isFn X.K (.ref f) = true)
    (hr' : PySem.W.findIn X.K (.ref C) (dunderR op.info.2) = some rc) (hp : rc = none ∨ ∃ g : Addr, rc = some (.ref g))
    (h1 : PySem.W.findIn X.K (.type "int") (PySem.dunder op.info.2) = some fo) (h2 : PySem.W.findIn X.K (.type "int") (dunderR op.info.2) = some ro) (hsub : PySem.W.subIn X.K (.type "int") (.ref C) = some false)
    (F : FnOk X.prog X.w X.K X.mg X.base CX n f fd ps sp) (hr : Room n X.A) (hb : Binds X.K fd ps []) (hx : Passes CX X E) : OpR X (binaryOp op) (rOwnI C sp E) := by
  intro pins s σ H x y v u Q I rx ry h
  obtain ⟨a, dx, fs, i, rfl, rfl, ha, q⟩ := h
  cases (show v = Value.ref a from rx)
  obtain ⟨t, rfl⟩ := (show ∃ t, u = Value.int i t from ry)
  obtain ⟨od, J⟩ := inst_at I ha
  obtain ⟨m, hF⟩ := I.fr
  refine PySem.W.ksp_binT hF I.ok.mod.kin J rfl hc hs hf hr' hp h1 h2 hsub ?_
  refine wpAny_mono (run_fn (vs := [V.ref a, V.int i]) F hr hb .nil hx I (.cons rfl (.cons ⟨t, rfl⟩ .nil)) q) (fun w s' z => ?_) fun _ _ x => x
  obtain ⟨z', H', I', rz, qz⟩ := z
  exact SlX.cmpback rz ⟨z', H', I', rz, qz⟩
/-- int op a: by the class's reflected def -/
def rIOwn (C : Addr) (sp : Sp) (E : XK) : R2 := fun x y H Q => ∃ a dx fs i, x = .int i ∧ y = .ref a ∧ H a = some (.ins C dx fs) ∧ sp [y, x] H Q E
theorem op_Iown {op : Operator} {id : String} {B : Builtin} (hc : PySem.W.selfFirst X.K C = true) (hs : PySem.W.findIn X.K (.ref C) (PySem.dunder op.info.2) = some (some (.ref g0)))
    (hr' : PySem.W.findIn X.K (.ref C) (dunderR op.info.2) = some (some (.ref f))) (hf : PySem.W.isFn X.K (.ref f) = true) (hsub : PySem.W.subIn X.K (.ref C) (.type "int") = some false)
    (fillsT : fillsNumberSlot (.type "int") op.info.2 = pure true) (slot : Slot "int" (PySem.dunder op.info.2) id) (entry : entryFor table id = some B) (args : ∀ a b : Value, argsOk id ⟨[a, b], []⟩)
    (dec : ∀ (i : Int) (t : Tok) (x : Addr), GivesAt (fun s => PySem.RkX.NoPrim s.heap x) (B ⟨[.int i t, .ref x], []⟩) (.val .notImplemented))
    (F : FnOk X.prog X.w X.K X.mg X.base CX n f fd ps sp) (hr : Room n X.A) (hb : Binds X.K fd ps []) (hx : Passes CX X E) : OpR X (binaryOp op) (rIOwn C sp E) := by
  intro pins s σ H x y v u Q I rx ry h
  obtain ⟨a, dx, fs, i, rfl, rfl, ha, q⟩ := h
  obtain ⟨t, rfl⟩ := (show ∃ t, v = Value.int i t from rx)
  cases (show u = Value.ref a from ry)
  obtain ⟨od, J⟩ := inst_at I ha
  refine PySem.RkX.bin_IO I.kIn J hc hs hr' hf hsub fillsT slot (fun Q' q' => call_givesAt slot (typeIs_int s i t) entry (args _ _) (dec i t a) (inst_np J) q') ?_
  refine wpAny_mono (run_fn (vs := [V.ref a, V.int i]) F hr hb .nil hx I (.cons rfl (.cons ⟨t, rfl⟩ .nil)) q) (fun w s' z => ?_) fun _ _ x => x
  obtain ⟨z', H', I', rz, qz⟩ := z
  exact SlX.cmpback rz ⟨z', H', I', rz, qz⟩
/-- -a -/
def rNegO (C : Addr) (sp : Sp) (E : XK) : V → Hp → VK → Prop := fun x H Q => ∃ a dx fs, x = .ref a ∧ H a = some (.ins C dx fs) ∧ sp [x] H Q E
theorem un_negO (hs : PySem.W.findIn X.K (.ref C) "__neg__" = some (some (.ref f))) (hf : PySem.W.isFn X.K (.ref f) = true)
    (F : FnOk X.prog X.w X.K X.mg X.base CX n f fd ps sp) (hr : Room n X.A) (hb : Binds X.K fd ps []) (hx : Passes CX X E) : UnR X (unaryOp .USub) (rNegO C sp E) := by
  intro pins s σ H x v Q I rx h
  obtain ⟨a, dx, fs, rfl, ha, q⟩ := h
  cases (show v = Value.ref a from rx)
  obtain ⟨od, J⟩ := inst_at I ha
  obtain ⟨m, hF⟩ := I.fr
  exact PySem.W.ksp_neg hF I.ok.mod.kin J hs hf (run_fn (vs := [V.ref a]) F hr hb .nil hx I (.cons rfl .nil) q)
/-- a == anything of a known type -/
def rEqO (K : PySem.W.Frag) (C : Addr) (sp : Sp) (E : XK) : R2 := fun x y H Q => ∃ a dx fs t, x = .ref a ∧ H a = some (.ins C dx fs) ∧ TyX K H y t ∧ PySem.W.notFirst K C t = true ∧ sp [x, y] H Q E
theorem op_eqO (hs : PySem.W.findIn X.K (.ref C) "__eq__" = some (some (.ref f))) (hf : PySem.W.isFn X.K (.ref f) = true)
    (F : FnOk X.prog X.w X.K X.mg X.base CX n f fd ps sp) (hr : Room n X.A) (hb : Binds X.K fd ps []) (hx : Passes CX X E) : OpR X (compareOp .Eq) (rEqO X.K C sp E) := by
  intro pins s σ H x y v u Q I rx ry h
  obtain ⟨a, dx, fs, t, rfl, ha, ty, hn, q⟩ := h
  cases (show v = Value.ref a from rx)
  obtain ⟨od, J⟩ := inst_at I ha
  obtain ⟨m, hF⟩ := I.fr
  obtain ⟨P, Z, p, _⟩ := kit_of I ry ty
  refine PySem.W.cmp_K (op := .Eq) (tb := t) hr.units0 hF I.ok.mod.kin J (Z.ty _ _ I.kIn p) hn hs hf ?_
  refine wpAny_mono (run_fn (vs := [V.ref a, y]) F hr hb .nil hx I (.cons rfl (.cons ry .nil)) q) (fun w s' z => ?_) fun _ _ x => x
  obtain ⟨z', H', I', rz, qz⟩ := z
  exact SlX.cmpback rz ⟨z', H', I', rz, qz⟩
/-- int == a -/
theorem op_eqIO (hs : PySem.W.findIn X.K (.ref C) "__eq__" = some (some (.ref f))) (hf : PySem.W.isFn X.K (.ref f) = true) (hsub : PySem.W.subIn X.K (.ref C) (.type "int") = some false)
    (F : FnOk X.prog X.w X.K X.mg X.base CX n f fd ps sp) (hr : Room n X.A) (hb : Binds X.K fd ps []) (hx : Passes CX X E) : OpR X (compareOp .Eq) (rIOwn C sp E) := by
  intro pins s σ H x y v u Q I rx ry h
  obtain ⟨a, dx, fs, i, rfl, rfl, ha, q⟩ := h
  obtain ⟨t, rfl⟩ := (show ∃ t, v = Value.int i t from rx)
  cases (show u = Value.ref a from ry)
  obtain ⟨od, J⟩ := inst_at I ha
  refine PySem.RkX.eq_IO hr.units0 I.kIn J hs hf hsub (fun Q' q' => call_givesAt PySem.F.slot_int_eq (typeIs_int s i t) PySem.F.entry_int_eq (PySem.F.args_int_eq_2 _ _) (PySem.RkX.dec_eq i t) (inst_np J) q') ?_
  refine wpAny_mono (run_fn (vs := [V.ref a, V.int i]) F hr hb .nil hx I (.cons rfl (.cons ⟨t, rfl⟩ .nil)) q) (fun w s' z => ?_) fun _ _ x => x
  obtain ⟨z', H', I', rz, qz⟩ := z
  exact SlX.cmpback rz ⟨z', H', I', rz, qz⟩
/-- a != b by the class's own == -/
def rNeO (C : Addr) (sp : Sp) (E : XK) : R2 := fun x y H Q => ∃ a b dx fs dy gs, x = .ref a ∧ y = .ref b ∧ H a = some (.ins C dx fs) ∧ H b = some (.ins C dy gs) ∧ sp [x, y] H (fun v H' => ∃ k, v = .bl k ∧ Q (.bl (!k)) H') E
theorem op_neO (hs : PySem.W.findIn X.K (.ref C) "__eq__" = some (some (.ref f))) (hf : PySem.W.isFn X.K (.ref f) = true) (hn : PySem.W.findIn X.K (.ref C) "__ne__" = some (some (.builtin "object.__ne__"))) (hob : PySem.W.subIn X.K (.ref C) (.type "object") = some true)
    (F : FnOk X.prog X.w X.K X.mg X.base CX n f fd ps sp) (hr : Room (n + 1) X.A) (hb : Binds X.K fd ps []) (hx : Passes CX X E) : OpR X (compareOp .NotEq) (rNeO C sp E) := by
  intro pins s σ H x y v u Q I rx ry h
  obtain ⟨a, b, dx, fs, dy, gs, rfl, rfl, ha, hb', q⟩ := h
  cases (show v = Value.ref a from rx)
  cases (show u = Value.ref b from ry)
  obtain ⟨od, J⟩ := inst_at I ha
  obtain ⟨od', J'⟩ := inst_at I hb'
  have hu : X.A.units + 1 < cLine := Nat.lt_of_le_of_lt (Nat.add_le_add_left (by decide : 1 ≤ 64) _) hr.units
  show wpAny (model X.prog X.w) X.A (richCompare .NotEq (.ref a) (.ref b)) (EP X pins σ Q) X.xe s
  refine PySem.RkX.ne_OO hu I.kIn J J'.type hs hf hn hob ?_
  have hr1 : Room n X.A.in1 := hr.in1
  have r2 : Vals [V.ref a, V.ref b] [Value.ref a, Value.ref b] := .cons rfl (.cons rfl .nil)
  have hl := F.len _ _ _ _ q
  refine wpAny_call (codeAny_mono (F.run X.A.in1 X.stack s H ⟨[.ref a, .ref b], []⟩ [.ref a, .ref b] [.ref a, .ref b] _ E hr1 I.env0.in1 (by
    have := hb s [.ref a, .ref b] I.kIn (by simpa using hl)
    simpa using this) r2 q) fun r s' hq => ?_)
  cases r with
  | error e => exact hx pins σ H s e s' I hq
  | ok fl =>
    cases fl with
    | ret w =>
      obtain ⟨z, H', I', rz, k, ez, qz⟩ := I.after hq
      subst ez
      cases rz
      exact ⟨k, rfl, .bl (!k), H', I', rfl, qz⟩
    | next => exact False.elim hq
    | brk => exact False.elim hq
    | cont => exact False.elim hq
/-- o.m(k = v, ..) -/
def tMethK (C : Addr) (m : Str) (ks : List Str) (sp : Sp) (gV : List V → List V → List V) (E : XK) (ta : TE) (tk : TA) : TE := fun σ H Q => ta σ H fun x H1 => ∃ a dx fs, x = .ref a ∧ H1 a = some (.ins C dx fs) ∧ fs.lookup m = none ∧
  tk σ H1 fun zs H2 => zs.length = ks.length ∧ sp (gV [x] zs) H2 Q E
theorem pe_methK {pl : Sem Bool} {o : Expr} {m : Str} {apos pos : Pos} {kws : List Keyword} {ta : TE} {tk : TA} {ks : List Str} {g : List Value → List Value → List Value} {gV : List V → List V → List V} (he : PE X o ta) (c : Cls X.K C) (hm : Meth X.K C m f)
    (F : FnOk X.prog X.w X.K X.mg X.base CX n f fd ps sp) (hr : Room n X.A) (hb : KBn X.K fd ps 1 ks g gV) (hx : Passes CX X E) (hkw : PK X kws tk)
    (hall : (backToKw pos (keywordEach kws X.env)).all (·.1.isSome) = true := by rfl) (hks : (backToKw pos (keywordEach kws X.env)).filterMap (·.1) = ks := by rfl)
    (hpl : ((backTo pos (starEach [] X.env)).any (·.1) || (backToKw pos (keywordEach kws X.env)).any (·.1.isNone)) = false := by rfl)
    (ht : eval (.Call (.Attribute o m apos) [] kws pos) X.env = (do
      let ov ← eval o X.env
      standAt apos.atName
      let (f, first) ← holding [ov] (getMethod ov m pl)
      callWith pos f first (backTo pos (starEach [] X.env)) (backToKw pos (keywordEach kws X.env))) := by rfl) :
    PE X (.Call (.Attribute o m apos) [] kws pos) (tMethK C m ks sp gV E ta tk) := by
  refine ⟨fun pins s σ H Q I h => ?_⟩
  refine PySem.W.methodCall_KW (pl := pl) (thn (he.run pins s σ H _ I h) fun u s1 ⟨x, H1, I1, rx, a, dx, fs, ex, ea, l, q⟩ => ?_) ht
  subst ex
  obtain rfl : u = Value.ref a := rx
  refine getmeth_ok I1 ea c hm l ?_
  refine PySem.W.callWith_KW0 (first := [.ref a]) (h₀ := X.base) I1.ok.mod.kin hm.kp hall ?_ hpl
  refine thn (hkw.run pos pins s1 σ H1 _ I1 q) fun ws s2 ⟨zs, H2, I2, rz, l2, q2⟩ => ⟨I2.kIn, ?_⟩
  rw [hks]
  exact run_fnN (us := [.ref a]) (vs := [.ref a]) F hr hb hx I2 (.cons rfl .nil) rz rfl l2 q2
/-- // by a divisor of any sign, below 2 ^ 9000 -/
def CDivZ (_ j : Int) : Prop := j ≠ 0 ∧ j.natAbs.log2 < 9000
theorem op_fdivZ : OpR X (binaryOp .FloorDiv) (rI CDivZ fun i j => .int (i.fdiv j)) := opI fun i j _ _ _ _ _ hc q => floordiv_int hc.1 q (.inl (PyProof.noPylong_of_log2 hc.2))
end
end RK

namespace RK
open PySem PySem.Spec PyProof.Rows L2

/-! ### readings, a step at a time -/
section
variable {K : PySem.W.Frag} {D : Ends} {σ : L2.St} {H : Hp} {t u : TS} {te ta tb : TE} {c tt uu : TT} {ag ar : TA} {g : TG} {Q : VK} {v x y : V} {i j : Nat} {E : XK} {sp : Sp} {dvs : List V} {R : Prop}
theorem w_seq (h : t { D with nx := u D } σ H) : tSeq t u D σ H := h
theorem w_asg (h : te σ H fun x H1 => g x σ H1 D.nx) : tAsg te g D σ H := h
theorem w_gn {Q : L2.St → Hp → Prop} (h : Q (σ.set i (some v)) H) : gName i v σ H Q := h
theorem w_if (h : c σ H fun b H1 => if b = true then t D σ H1 else u D σ H1) : tIfS c t u D σ H := h
theorem w_ret (h : te σ H D.rt) : tRet te D σ H := h
theorem w_retN (h : D.rt .non H) : tRetN D σ H := h
theorem w_next (h : D.nx σ H) : tNext D σ H := h
theorem w_drop (h : te σ H fun _ H1 => D.nx σ H1) : tDrop te D σ H := h
theorem w_par (h : ag σ H fun vs H1 => ∃ v w, vs = [v, w] ∧ D.nx ((σ.set i (some v)).set j (some w)) H1) : tPar i j ag D σ H := h
theorem w_two {P : V → V → Prop} {v w : V} (h : P v w) : ∃ a b, ([v, w] : List V) = [a, b] ∧ P a b := ⟨v, w, rfl, h⟩
theorem w_test {Q : Bool → Hp → Prop} (h : te σ H fun x H' => ∃ k, x = .bl k ∧ Q k H') : tTest te σ H Q := h
theorem w_tB {Q : Bool → Hp → Prop} (h : te σ H fun x H' => ∃ k, x = .bl k ∧ Q k H') : tB te σ H Q := h
theorem w_bl {P : Bool → Prop} {b : Bool} (h : P b) : ∃ k, V.bl b = V.bl k ∧ P k := ⟨b, rfl, h⟩
theorem w_not {Q : Bool → Hp → Prop} (h : tt σ H fun c H1 => Q (!c) H1) : tNot tt σ H Q := h
theorem w_and {Q : Bool → Hp → Prop} (h : tt σ H fun c H1 => if c = true then uu σ H1 Q else Q false H1) : tAnd tt uu σ H Q := h
theorem w_or {Q : Bool → Hp → Prop} (h : tt σ H fun c H1 => if c = true then Q true H1 else uu σ H1 Q) : tOr tt uu σ H Q := h
theorem w_var (h : σ[i]? = some (some v)) (q : Q v H) : tVar i σ H Q := ⟨v, h, q⟩
theorem w_c (q : Q v H) : tC v σ H Q := q
theorem w_op {r : R2} (h : ta σ H fun x H1 => tb σ H1 fun y H2 => r x y H2 Q) : tOp r ta tb σ H Q := h
theorem w_un {r : V → Hp → VK → Prop} (h : ta σ H fun x H1 => r x H1 Q) : tUn r ta σ H Q := h
theorem w_I0 {gg : Int → Int → V} {a b : Int} (q : Q (gg a b) H) : rI0 gg (.int a) (.int b) H Q := ⟨a, b, rfl, rfl, q⟩
theorem w_I {C : Int → Int → Prop} {gg : Int → Int → V} {a b : Int} (hc : C a b) (q : Q (gg a b) H) : rI C gg (.int a) (.int b) H Q := ⟨a, b, rfl, rfl, hc, q⟩
theorem w_U {gg : Int → V} {a : Int} (q : Q (gg a) H) : rU gg (.int a) H Q := ⟨a, rfl, q⟩
theorem w_tIf (h : tt σ H fun c H1 => if c = true then ta σ H1 Q else tb σ H1 Q) : tIf tt ta tb σ H Q := h
/-- a cut: what the value and the heap are, then what is done with them -/
theorem w_cut (P : V → Hp → Prop) (h : ∀ Q' : VK, (∀ v H', P v H' → Q' v H') → te σ H Q') (all : ∀ v H', P v H' → Q v H') : te σ H Q := h Q all
/-- an int, the heap as it is -/
theorem w_cutI (P : Int → Prop) (h : ∀ Q' : VK, (∀ z, P z → Q' (.int z) H) → te σ H Q') (all : ∀ z, P z → Q (.int z) H) : te σ H Q := h Q all
theorem w_cutA (P : List V → Hp → Prop) {Q : List V → Hp → Prop} (h : ∀ Q' : List V → Hp → Prop, (∀ v H', P v H' → Q' v H') → ag σ H Q') (all : ∀ v H', P v H' → Q v H') : ag σ H Q := h Q all
theorem s_cut (P : L2.St → Hp → Prop) (h : ∀ N : L2.St → Hp → Prop, (∀ σ' H', P σ' H' → N σ' H') → t { D with nx := N } σ H) (all : ∀ σ' H', P σ' H' → D.nx σ' H') : t D σ H := h D.nx all
theorem w_nil {Q : List V → Hp → Prop} (q : Q [] H) : tNil σ H Q := q
theorem w_cons {Q : List V → Hp → Prop} (h : te σ H fun x H1 => ar σ H1 fun xs H2 => Q (x :: xs) H2) : tCons te ar σ H Q := h
theorem w_andV (h : ta σ H fun x H1 => ∃ c, x = .bl c ∧ if c = true then tb σ H1 Q else Q (.bl false) H1) : tAndV ta tb σ H Q := h
theorem w_orV (h : ta σ H fun x H1 => ∃ c, x = .bl c ∧ if c = true then Q (.bl true) H1 else tb σ H1 Q) : tOrV ta tb σ H Q := h
theorem w_notV (h : ta σ H fun x H1 => ∃ c, x = .bl c ∧ Q (.bl (!c)) H1) : tNotV ta σ H Q := h
theorem w_CB {r : List V → Hp → VK → Prop} (h : ag σ H fun vs H1 => r vs H1 Q) : tCB r ag σ H Q := h
theorem w_call (h : ag σ H fun vs H1 => sp (vs ++ dvs) H1 Q E) : tCall sp dvs E ag σ H Q := h
theorem w_same (H : Hp) : Same H H := fun _ _ h => h
/-- a new object: what stood stands -/
theorem w_new {p : Addr} {o : HO} (h : H p = none) : Same H (upd H p o) := fun b u e => by
  rw [upd_ne (ne_of_none e h)]
  exact e
/-! leaves: a new object -/
def NewT (xs : List V) (H : Hp) (Q : VK) : Prop := xs.length ≤ sizeLine ∧ ∀ p, H p = none → Q (.ref p) (upd H p (.tup xs))
def NewL (xs : List V) (H : Hp) (Q : VK) : Prop := xs.length ≤ sizeLine ∧ ∀ p, H p = none → Q (.ref p) (upd H p (.lst xs))
theorem w_newT {xs : List V} (hl : xs.length ≤ 100000) (h : ∀ p H2, H p = none → Same H H2 → H2 p = some (.tup xs) → Q (.ref p) H2) : NewT xs H Q :=
  ⟨Nat.le_trans hl (by decide), fun p hp => h p _ hp (w_new hp) upd_same⟩
theorem w_newL {xs : List V} (hl : xs.length ≤ 100000) (h : ∀ p H2, H p = none → Same H H2 → H2 p = some (.lst xs) → Q (.ref p) H2) : NewL xs H Q :=
  ⟨Nat.le_trans hl (by decide), fun p hp => h p _ hp (w_new hp) upd_same⟩
theorem w_tup (h : ag σ H fun xs H1 => NewT xs H1 Q) : tTup ag σ H Q := h
theorem w_lst (h : ag σ H fun xs H1 => NewL xs H1 Q) : tLst ag σ H Q := h
def Fl (K : PySem.W.Frag) (f : Str) (x : V) (H : Hp) (Q : VK) : Prop := ∃ a C dx fs v, x = .ref a ∧ H a = some (.ins C dx fs) ∧ Cls K C ∧ NoAttr K C f ∧ fs.lookup f = some v ∧ Q v H
theorem w_fld {f : Str} (h : te σ H fun x H1 => Fl K f x H1 Q) : tFld K te f σ H Q := h
/-- what is asked at a store into a field, at a method's call, at a making -/
def Sf (K : PySem.W.Frag) (f : Str) (y x : V) (H : Hp) (N : Hp → Prop) : Prop := ∃ a C dx fs, x = .ref a ∧ H a = some (.ins C dx fs) ∧ Cls K C ∧ NoAttr K C f ∧ fs.length < 1000 ∧ N (upd H a (.ins C dx (putF f y fs)))
theorem w_sfld {tv : TE} {f : Str} (h : tv σ H fun y H1 => ta σ H1 fun x H2 => Sf K f y x H2 (D.nx σ)) : sFld K ta tv f D σ H := h
def Ml (C : Addr) (m : Str) (x : V) (H : Hp) (R : Prop) : Prop := ∃ a dx fs, x = .ref a ∧ H a = some (.ins C dx fs) ∧ fs.lookup m = none ∧ R
theorem w_meth {C : Addr} {m : Str} (h : te σ H fun x H1 => Ml C m x H1 (ag σ H1 fun vs H2 => sp (x :: (vs ++ dvs)) H2 Q E)) : tMeth C m sp dvs E te ag σ H Q := h
theorem w_methK {C : Addr} {m : Str} {ks : List Str} {gV : List V → List V → List V} (h : te σ H fun x H1 => Ml C m x H1 (ag σ H1 fun zs H2 => zs.length = ks.length ∧ sp (gV [x] zs) H2 Q E)) : tMethK C m ks sp gV E te ag σ H Q := h
def MkL (C : Addr) (sp : Sp) (E : XK) (vs : List V) (H : Hp) (Q : VK) : Prop := ∀ x dx, H x = none → H dx = none → dx ≠ x → sp (.ref x :: vs) (upd (upd H dx (.own x)) x (.ins C dx [])) (fun v H2 => v = .non ∧ Q (.ref x) H2) E
theorem w_make {C : Addr} (h : ag σ H fun vs H1 => MkL C sp E (vs ++ dvs) H1 Q) : tMake C sp dvs E ag σ H Q := h
def MkK (C : Addr) (n m : Nat) (sp : Sp) (gV : List V → List V → List V) (E : XK) (vs zs : List V) (H : Hp) (Q : VK) : Prop := vs.length = n ∧ zs.length = m ∧ ∀ x dx, H x = none → H dx = none → dx ≠ x → sp (gV (.ref x :: vs) zs) (upd (upd H dx (.own x)) x (.ins C dx [])) (fun v H3 => v = .non ∧ Q (.ref x) H3) E
theorem w_makeK {C : Addr} {n m : Nat} {gV : List V → List V → List V} (h : ag σ H fun vs H1 => ar σ H1 fun zs H2 => MkK C n m sp gV E vs zs H2 Q) : tMakeK C n m sp gV E ag ar σ H Q := h
theorem w_BM {T : String} {r : V → List V → Hp → VK → Prop} (h : te σ H fun x H1 => tyV K T x H1 ∧ ag σ H1 fun xs H2 => r x xs H2 Q) : tBM K T r te ag σ H Q := h
theorem w_sl {r : V → Option Int → Option Int → Hp → VK → Prop} {tl th : TO} (h : te σ H fun x H1 => tl σ H1 fun l H2 => th σ H2 fun u H3 => r x l u H3 Q) : tSl r te tl th σ H Q := h
theorem w_po {Q : Option Int → Hp → Prop} (q : Q none H) : tNoPart σ H Q := q
theorem w_pt {Q : Option Int → Hp → Prop} (h : te σ H fun x H1 => ∃ i, x = .int i ∧ Q (some i) H1) : tPart te σ H Q := h
theorem w_in {P : Int → Prop} {i : Int} (h : P i) : ∃ k, V.int i = V.int k ∧ P k := ⟨i, rfl, h⟩
theorem w_yes {Q : Bool → Hp → Prop} (q : Q true H) : tYes σ H Q := q
theorem w_ixL {p : Addr} {xs : List V} {a : Int} (h : H p = some (.lst xs)) (ha : atI xs a = some v) (q : Q v H) : rIxL K (.ref p) (.int a) H Q := ⟨p, xs, a, v, rfl, rfl, SqL.of h, ha, q⟩
theorem w_ixT {p : Addr} {xs : List V} {a : Int} (h : H p = some (.tup xs)) (ha : atI xs a = some v) (q : Q v H) : rIxT K (.ref p) (.int a) H Q := ⟨p, xs, a, v, rfl, rfl, SqT.of h, ha, q⟩
theorem w_sub {to ti : TE} {ts : TSet} {Q : L2.St → Hp → Prop} (h : to σ H fun o H1 => ti σ H1 fun i H2 => ts o i v H2 fun H3 => Q σ H3) : gSub to ti ts v σ H Q := h
theorem w_setL {Q : Hp → Prop} {p : Addr} {xs : List V} {a : Int} {j : Nat} (h : H p = some (.lst xs)) (hj : ixN xs.length a = some j) (q : Q (upd H p (.lst (xs.set j v)))) : rSetL (.ref p) (.int a) v H Q := ⟨p, xs, a, j, rfl, rfl, h, hj, q⟩
theorem w_eq (hs : scal x y = true) (q : Q (.bl (decide (x = y))) H) : rEq x y H Q := ⟨hs, q⟩
theorem w_ne (hs : scal x y = true) (q : Q (.bl (!decide (x = y))) H) : rNe x y H Q := ⟨hs, q⟩
/-! built-ins under names -/
def rInt1 : List V → Hp → VK → Prop := fun xs H Q => (∃ i, xs = [.int i] ∧ Q (.int i) H) ∨ ∃ k, xs = [.bl k] ∧ Q (.int (if k then 1 else 0)) H
theorem cr_int1 {X : Cx} : CallR X (.type "int") rInt1 := call_int1
theorem w_int {a : Int} (q : Q (.int a) H) : rInt1 [.int a] H Q := .inl ⟨a, rfl, q⟩
theorem w_intB {b : Bool} (q : Q (.int (if b then 1 else 0)) H) : rInt1 [.bl b] H Q := .inr ⟨b, rfl, q⟩
def rAbs1 : List V → Hp → VK → Prop := fun xs H Q => ∃ i, xs = [.int i] ∧ Q (.int (if i < 0 then -i else i)) H
theorem cr_abs {X : Cx} : CallR X (.builtin "abs") rAbs1 := call_abs
theorem w_abs {a : Int} (q : Q (.int (if a < 0 then -a else a)) H) : rAbs1 [.int a] H Q := ⟨a, rfl, q⟩
def rMax2 : List V → Hp → VK → Prop := fun xs H Q => ∃ i j, xs = [.int i, .int j] ∧ Q (.int (if j > i then j else i)) H
theorem cr_max2 {X : Cx} (hc : X.calm = true) : CallR X (.builtin "max") rMax2 := call_max2 hc
theorem w_max {a b : Int} (q : Q (.int (if b > a then b else a)) H) : rMax2 [.int a, .int b] H Q := ⟨a, b, rfl, q⟩
def rMin2 : List V → Hp → VK → Prop := fun xs H Q => ∃ i j, xs = [.int i, .int j] ∧ Q (.int (if j < i then j else i)) H
theorem cr_min2 {X : Cx} (hc : X.calm = true) : CallR X (.builtin "min") rMin2 := call_min2 hc
theorem w_min {a b : Int} (q : Q (.int (if b < a then b else a)) H) : rMin2 [.int a, .int b] H Q := ⟨a, b, rfl, q⟩
def rLen (K : PySem.W.Frag) : List V → Hp → VK → Prop := fun xs H Q => ∃ x n, xs = [x] ∧ LenV K x H n ∧ Q (.int n) H
theorem cr_len {X : Cx} : CallR X (.builtin "len") (rLen X.K) := call_len
theorem w_lenL {p : Addr} {xs : List V} (h : SqL K H p xs) (q : Q (.int xs.length) H) : rLen K [.ref p] H Q := ⟨_, _, rfl, .inl ⟨xs, h, rfl⟩, q⟩
theorem w_lenT {p : Addr} {xs : List V} (h : SqT K H p xs) (q : Q (.int xs.length) H) : rLen K [.ref p] H Q := ⟨_, _, rfl, .inr ⟨xs, h, rfl⟩, q⟩
theorem w_gcd {a b : Int} (q : Q (.int ((Nat.gcd a.natAbs b.natAbs : Nat) : Int)) H) : rGcd [.int a, .int b] H Q := ⟨a, b, rfl, q⟩
/-! tests -/
theorem w_ite {b : Bool} {A B : Prop} (h1 : b = true → A) (h2 : b = false → B) : if b = true then A else B := by
  cases b with
  | true => rw [if_pos rfl]; exact h1 rfl
  | false => rw [if_neg Bool.false_ne_true]; exact h2 rfl
theorem w_iteD {p A B : Prop} [Decidable p] (h1 : p → A) (h2 : ¬ p → B) : if decide p = true then A else B :=
  w_ite (fun e => h1 (of_decide_eq_true e)) fun e => h2 (of_decide_eq_false e)
theorem w_iteN {p A B : Prop} [Decidable p] (h1 : ¬ p → A) (h2 : p → B) : if (!decide p) = true then A else B :=
  w_ite (fun e => h1 (of_decide_eq_false (by simpa using e))) fun e => h2 (of_decide_eq_true (by simpa using e))
end
/-! ### sizes -/
def Sz (k : Nat) (x : Int) : Prop := x.natAbs < 2 ^ k
theorem Sz.mono {k j : Nat} {x : Int} (h : Sz k x) (hk : k ≤ j) : Sz j x := Nat.lt_of_lt_of_le h (Nat.pow_le_pow_right (by decide) hk)
theorem Sz.mul {k j : Nat} {x y : Int} (h : Sz k x) (h' : Sz j y) : Sz (k + j) (x * y) := wide_lt h h'
theorem Sz.neg {k : Nat} {x : Int} (h : Sz k x) : Sz k (-x) := by unfold Sz; rw [Int.natAbs_neg]; exact h
theorem Sz.ok {k j : Nat} {x y : Int} (h : Sz k x) (h' : Sz j y) (hk : k + j ≤ 900000 := by decide) : CMulW x y := wide_mul (h.mono (Nat.le_succ k)) (h'.mono (Nat.le_succ j)) (Nat.succ_pos _) (Nat.succ_pos _) (by omega)
theorem Sz.of {k : Nat} {x : Int} (h : x.natAbs < 2 ^ k) : Sz k x := h
theorem Sz.small {k : Nat} {x : Int} (h : x.natAbs < 1048576) (hk : 20 ≤ k := by decide) : Sz k x := Sz.mono (k := 20) h hk
theorem Sz.one {k : Nat} (h : 1 ≤ k := by decide) : Sz k 1 := Sz.mono (k := 1) (by show (1 : Int).natAbs < 2 ^ 1; decide) h
theorem Sz.div {k : Nat} {i j : Int} (h : 0 < j) (hz : Sz k j) (hk : k ≤ 8000 := by decide) : CDivW i j := wide_div h (hz.mono (Nat.le_succ k)) (Nat.succ_pos _) (by omega)
theorem Sz.le {k : Nat} {x y : Int} (h : Sz k y) (hx : x.natAbs ≤ y.natAbs) : Sz k x := Nat.lt_of_le_of_lt hx h
theorem Sz.add {k : Nat} {x y : Int} (h : Sz k x) (h' : Sz k y) : Sz (k + 1) (x + y) := by
  unfold Sz at *
  have : (x + y).natAbs ≤ x.natAbs + y.natAbs := Int.natAbs_add_le x y
  rw [Nat.pow_succ]
  omega
theorem Sz.sub {k : Nat} {x y : Int} (h : Sz k x) (h' : Sz k y) : Sz (k + 1) (x - y) := by
  rw [Int.sub_eq_add_neg]
  exact h.add h'.neg
/-! ### what is kept -/
theorem Same.at {H H' : Hp} {a : Addr} {o : HO} (e : Same H H') (h : H a = some o) : H' a = some o := e a o h
/-- a law's bag of numbers -/
def Bag (H : Hp) (b : Addr) : Prop := ∃ f s n : Int, H b = some (.lst [.int f, .int s, .int n])
/-- all is kept but the bag's numbers -/
structure Kp (b : Addr) (H H' : Hp) : Prop where
  bag : Bag H b
  bag' : Bag H' b
  keep : ∀ c o, c ≠ b → H c = some o → H' c = some o
theorem Bag.same {H H' : Hp} {b : Addr} (h : Bag H b) (e : Same H H') : Bag H' b := let ⟨f, s, n, h⟩ := h; ⟨f, s, n, e _ _ h⟩
theorem Kp.of {H H' : Hp} {b : Addr} (h : Bag H b) (e : Same H H') : Kp b H H' := ⟨h, h.same e, fun c o _ q => e c o q⟩
theorem Kp.refl {H : Hp} {b : Addr} (h : Bag H b) : Kp b H H := .of h (w_same H)
theorem Kp.trans {H H1 H2 : Hp} {b : Addr} (a : Kp b H H1) (c : Kp b H1 H2) : Kp b H H2 := ⟨a.bag, c.bag', fun x o n q => c.keep x o n (a.keep x o n q)⟩
theorem Kp.same {H H1 H2 : Hp} {b : Addr} (a : Kp b H H1) (c : Same H1 H2) : Kp b H H2 := a.trans (.of a.bag' c)
theorem Kp.tup {H H' : Hp} {b a : Addr} {xs : List V} (k : Kp b H H') (h : H a = some (.tup xs)) : H' a = some (.tup xs) := by
  obtain ⟨f, s, n, hb⟩ := k.bag
  exact k.keep a _ (ne_of h hb (by intro z; cases z)) h
theorem Kp.ins {H H' : Hp} {b a C dx : Addr} {fs : List (Str × V)} (k : Kp b H H') (h : H a = some (.ins C dx fs)) : H' a = some (.ins C dx fs) := by
  obtain ⟨f, s, n, hb⟩ := k.bag
  exact k.keep a _ (ne_of h hb (by intro z; cases z)) h
theorem Kp.free {H H' : Hp} {b p : Addr} (k : Kp b H H') (h : H' p = none) : H p = none := by
  cases q : H p with
  | none => rfl
  | some o =>
    by_cases e : p = b
    · obtain ⟨f, s, n, hb⟩ := k.bag'
      rw [e, hb] at h
      cases h
    · rw [k.keep p o e q] at h
      cases h
theorem Kp.seq {K : PySem.W.Frag} {H H' : Hp} {b a : Addr} {xs : List V} (k : Kp b H H') (hne : a ≠ b) (h : SqL K H a xs) : SqL K H' a xs := by
  rcases h with (h | ⟨o, h⟩) | h
  · exact .inl (.inl (k.keep _ _ hne h))
  · exact .inl (.inr ⟨o, k.keep _ _ hne h⟩)
  · exact .inr h
/-! ### comprehensions -/
section
variable {K : PySem.W.Frag} {σ : L2.St} {H : Hp} {Q : VK} {tl te : TE} {g : TG} {tt : TT} {vs : List Nat} {tb : TS} {D : Ends} {j : Nat}
/-- the comprehension, the loop, when the list is there -/
def LcS (K : PySem.W.Frag) (g : TG) (tt : TT) (te : TE) (vs : List Nat) (σ : L2.St) (x : V) (H : Hp) (Q : VK) : Prop := tLc (iList K (tC x)) g tt te vs σ H Q
def ForS (K : PySem.W.Frag) (g : TG) (tb : TS) (D : Ends) (σ : L2.St) (x : V) (H : Hp) : Prop := tFor (iList K (tC x)) g tb D σ H
theorem w_lcL (h : tl σ H fun x H1 => LcS K g tt te vs σ x H1 Q) : tLc (iList K tl) g tt te vs σ H Q := h
theorem w_forL (h : tl σ H fun x H1 => ForS K g tb D σ x H1) : tFor (iList K tl) g tb D σ H := h
/-- what is no list stands as it stood -/
def SameT (H H' : Hp) : Prop := ∀ c o, H c = some o → (∀ xs, o ≠ .lst xs) → H' c = some o
theorem SameT.of {H H' : Hp} (e : Same H H') : SameT H H' := fun c o h _ => e c o h
theorem SameT.upd {H : Hp} {p : Addr} {xs : List V} {o : HO} (h : H p = some (.lst xs)) : SameT H (upd H p o) := fun c u e n => by
  have hc : c ≠ p := fun z => by rw [z, h] at e; cases e; exact n xs rfl
  rw [upd_ne hc]
  exact e
theorem SameT.tup {H H' : Hp} {p : Addr} {xs : List V} (e : SameT H H') (h : H p = some (.tup xs)) : H' p = some (.tup xs) := e p _ h fun _ z => nomatch z
theorem SameT.ins {H H' : Hp} {p C dx : Addr} {fs : List (Str × V)} (e : SameT H H') (h : H p = some (.ins C dx fs)) : H' p = some (.ins C dx fs) := e p _ h fun _ z => nomatch z
/-- a list grows by one -/
structure Grown (l : Addr) (xs : List V) (H H' : Hp) : Prop where
  at_ : H' l = some (.lst xs)
  keep : ∀ c o, c ≠ l → H c = some o → H' c = some o
  same : SameT H H'
theorem w_app {l : Addr} {xs : List V} {y : V} (h : H l = some (.lst xs)) (hl : xs.length ≤ 1000) (k : ∀ H', Grown l (xs ++ [y]) H H' → Q .non H') : rAppend (.ref l) [y] H Q :=
  ⟨l, xs, y, rfl, rfl, h, Nat.lt_of_le_of_lt hl (by decide), k _ ⟨upd_same, fun c o hc e => by rw [upd_ne hc]; exact e, SameT.upd h⟩⟩
theorem Same.updL {H H' : Hp} {p : Addr} {o : HO} (e : Same H H') (h : H p = none) : Same H (upd H' p o) := fun c u q => by
  rw [upd_ne (ne_of_none q h)]
  exact e c u q
/-- [f(x) for x in a list]: each element leaves what stood, and gives what P says -/
theorem lc_each {l : Addr} {xs : List V} (P : Nat → V → Hp → Prop) (mono : ∀ i v H H', SameT H H' → P i v H → P i v H') (hl : H l = some (.lst xs)) (hlen : xs.length ≤ 1000)
    (hw : ∀ x, wipe ((wipe σ vs).set j (some x)) vs = wipe σ vs)
    (he : ∀ i x H', xs[i]? = some x → Same H H' → ∀ Q' : VK, (∀ v H'', Same H' H'' → P i v H'' → Q' v H'') → te ((wipe σ vs).set j (some x)) H' Q')
    (k : ∀ D ys H', H D = none → Same H H' → H' D = some (.lst ys) → ys.length = xs.length → (∀ i v, ys[i]? = some v → P i v H') → Q (.ref D) H') : LcS K (gName j) tYes te vs σ (.ref l) H Q := by
  refine ⟨l, rfl, ⟨_, SqL.of hl⟩, fun Dl hD => ?_⟩
  refine lc_list (K := K) (a := l) (xs := xs) (fun i H' => ∃ acc, H' Dl = some (.lst acc) ∧ acc.length = i ∧ Same H H' ∧ ∀ m v, acc[m]? = some v → P m v H') ⟨[], upd_same, rfl, w_new hD, fun m v e => by simp at e⟩
    (fun i H' _ ⟨acc, _, _, e, _⟩ => SqL.of (e _ _ hl)) ?_ ?_
  · rintro i x H' hx ⟨acc, h1, h2, e, hp⟩
    refine ⟨hw x, ?_⟩
    refine w_yes ?_
    rw [if_pos rfl]
    refine he i x H' hx e _ fun v H2 e2 pv => ?_
    have hi : i < xs.length := (List.getElem?_eq_some_iff.mp hx).1
    have h3 : H2 Dl = some (.lst acc) := e2 _ _ h1
    refine ⟨acc, h3, Nat.lt_of_lt_of_le (show acc.length < 1001 by omega) (by decide), acc ++ [v], upd_same, by rw [List.length_append, h2]; rfl, RK.Same.updL (e.trans e2) hD, fun m u hu => ?_⟩
    by_cases hm : m < acc.length
    · rw [List.getElem?_append_left hm] at hu
      exact mono m u H2 _ (SameT.upd h3) (mono m u H' H2 (.of e2) (hp m u hu))
    · rw [List.getElem?_append_right (by omega)] at hu
      have em : m = acc.length := by
        have := (List.getElem?_eq_some_iff.mp hu).1
        simp at this
        omega
      subst em
      simp at hu
      subst hu
      exact mono _ _ H2 _ (SameT.upd h3) (by rw [h2]; exact pv)
  · rintro H' ⟨acc, h1, h2, e, hp⟩
    exact k Dl acc H' hD e h1 h2 hp
/-- [f(i) for i in range(n)] -/
theorem lc_rng {lo : Int} {n : Nat} {W : TI} (P : Nat → V → Hp → Prop) (mono : ∀ i v H H', SameT H H' → P i v H → P i v H') (hn : n ≤ 1000) (hwi : ∀ R : It → Hp → Prop, R (Itr lo n) H → W σ H R)
    (hw : ∀ x, wipe ((wipe σ vs).set j (some x)) vs = wipe σ vs)
    (he : ∀ i H', i < n → Same H H' → ∀ Q' : VK, (∀ v H'', Same H' H'' → P i v H'' → Q' v H'') → te ((wipe σ vs).set j (some (.int (lo + i)))) H' Q')
    (k : ∀ D ys H', H D = none → Same H H' → H' D = some (.lst ys) → ys.length = n → (∀ i v, ys[i]? = some v → P i v H') → Q (.ref D) H') : tLc W (gName j) tYes te vs σ H Q := by
  refine hwi _ fun Dl hD => ?_
  refine lc_range (lo := lo) (n := n) (fun i H' => ∃ acc, H' Dl = some (.lst acc) ∧ acc.length = i ∧ Same H H' ∧ ∀ m v, acc[m]? = some v → P m v H') ⟨[], upd_same, rfl, w_new hD, fun m v e => by simp at e⟩ ?_ ?_
  · rintro i H' hi ⟨acc, h1, h2, e, hp⟩
    refine ⟨hw _, ?_⟩
    refine w_yes ?_
    rw [if_pos rfl]
    refine he i H' hi e _ fun v H2 e2 pv => ?_
    have h3 : H2 Dl = some (.lst acc) := e2 _ _ h1
    refine ⟨acc, h3, Nat.lt_of_lt_of_le (show acc.length < 1001 by omega) (by decide), acc ++ [v], upd_same, by rw [List.length_append, h2]; rfl, RK.Same.updL (e.trans e2) hD, fun m u hu => ?_⟩
    by_cases hm : m < acc.length
    · rw [List.getElem?_append_left hm] at hu
      exact mono m u H2 _ (SameT.upd h3) (mono m u H' H2 (.of e2) (hp m u hu))
    · rw [List.getElem?_append_right (by omega)] at hu
      have em : m = acc.length := by
        have := (List.getElem?_eq_some_iff.mp hu).1
        simp at this
        omega
      subst em
      simp at hu
      subst hu
      exact mono _ _ H2 _ (SameT.upd h3) (by rw [h2]; exact pv)
  · rintro H' ⟨acc, h1, h2, e, hp⟩
    exact k Dl acc H' hD e h1 h2 hp
end
end RK

/-! lowest terms, plain -/
namespace RK
/-- x, y are u, l in lowest terms (l not 0), y above 0 -/
structure Nrm (u l x y : Int) : Prop where
  pos : 0 < y
  cop : Int.gcd x y = 1
  eq : x * l = u * y
theorem dvd_of_cop {x y z : Int} (c : Int.gcd x y = 1) (h : y ∣ x * z) : y ∣ z := by
  have h' : y.natAbs ∣ x.natAbs * z.natAbs := by rw [← Int.natAbs_mul]; exact Int.natAbs_dvd_natAbs.mpr h
  exact Int.natAbs_dvd_natAbs.mp (Nat.Coprime.dvd_of_dvd_mul_left (show Nat.Coprime y.natAbs x.natAbs from by rw [Nat.coprime_comm]; exact c) h')
theorem nrm_uniq0 {x y x' y' : Int} (h1 : 0 < y) (h2 : 0 < y') (c1 : Int.gcd x y = 1) (c2 : Int.gcd x' y' = 1) (e : x * y' = x' * y) : x = x' ∧ y = y' := by
  have d1 : y ∣ y' := by
    have : y ∣ x * y' := ⟨x', by rw [e, Int.mul_comm]⟩
    exact dvd_of_cop c1 this
  have d2 : y' ∣ y := by
    have : y' ∣ x' * y := ⟨x, by rw [← e, Int.mul_comm]⟩
    exact dvd_of_cop c2 this
  have ey : y = y' := Int.le_antisymm (Int.le_of_dvd h2 d1) (Int.le_of_dvd h1 d2)
  subst ey
  exact ⟨Int.eq_of_mul_eq_mul_right (by omega) e, rfl⟩
theorem Nrm.uniq {u l u' l' x y x' y' : Int} (a : Nrm u l x y) (b : Nrm u' l' x' y') (hl : l ≠ 0) (hl' : l' ≠ 0) (e : u * l' = u' * l) : x = x' ∧ y = y' := by
  refine nrm_uniq0 a.pos b.pos a.cop b.cop ?_
  have h1 := a.eq
  have h2 := b.eq
  have k : l * l' * (x * y') = l * l' * (x' * y) := by grind
  exact Int.eq_of_mul_eq_mul_left (Int.mul_ne_zero hl hl') k
/-- dividing by the greatest common divisor -/
theorem nrm_div {u l : Int} (hl : 0 < l) : Nrm u l (u / (Int.gcd u l : Int)) (l / (Int.gcd u l : Int)) := by
  have g0 : 0 < Int.gcd u l := Int.gcd_pos_of_ne_zero_right u (by omega)
  have d1 : ((Int.gcd u l : Nat) : Int) ∣ u := Int.gcd_dvd_left ..
  have d2 : ((Int.gcd u l : Nat) : Int) ∣ l := Int.gcd_dvd_right ..
  generalize hg : ((Int.gcd u l : Nat) : Int) = g at *
  have gp : 0 < g := by omega
  obtain ⟨a, ha⟩ := d1
  obtain ⟨b, hb⟩ := d2
  have ea : u / g = a := by rw [ha]; exact Int.mul_ediv_cancel_left a (by omega)
  have eb : l / g = b := by rw [hb]; exact Int.mul_ediv_cancel_left b (by omega)
  refine ⟨?_, ?_, ?_⟩
  · rw [eb]
    have : 0 < b * g := by rw [Int.mul_comm]; omega
    exact Int.pos_of_mul_pos_left this gp
  · have := Int.gcd_ediv_gcd_ediv_gcd (i := u) (j := l) g0
    rw [hg] at this
    exact this
  · rw [ea, eb, ha, hb]
    grind
theorem nrm_low {u l d : Int} (hl : l ≠ 0) (hd : d = if 0 < l then (Int.gcd u l : Int) else 0 - (Int.gcd u l : Int)) : Nrm u l (u.fdiv d) (l.fdiv d) ∧ d ≠ 0 := by
  have g0 : 0 < Int.gcd u l := Int.gcd_pos_of_ne_zero_right u hl
  have d1 : ((Int.gcd u l : Nat) : Int) ∣ u := Int.gcd_dvd_left ..
  have d2 : ((Int.gcd u l : Nat) : Int) ∣ l := Int.gcd_dvd_right ..
  have hc := Int.gcd_ediv_gcd_ediv_gcd (i := u) (j := l) g0
  generalize hg : ((Int.gcd u l : Nat) : Int) = g at *
  have gp : 0 < g := by omega
  obtain ⟨x, hx⟩ := d1
  obtain ⟨y, hy⟩ := d2
  rw [hx, hy, Int.mul_ediv_cancel_left x (by omega), Int.mul_ediv_cancel_left y (by omega)] at hc
  by_cases h : 0 < l
  · rw [if_pos h] at hd
    rw [hd]
    have ex : u.fdiv g = x := by rw [hx]; exact Int.mul_fdiv_cancel_left x (by omega)
    have ey : l.fdiv g = y := by rw [hy]; exact Int.mul_fdiv_cancel_left y (by omega)
    refine ⟨⟨?_, ?_, ?_⟩, by omega⟩
    · rw [ey]
      exact Int.pos_of_mul_pos_left (show 0 < y * g by rw [Int.mul_comm]; omega) gp
    · rw [ex, ey]
      exact hc
    · rw [ex, ey, hx, hy]
      grind
  · rw [if_neg h] at hd
    have ed : d = -g := by omega
    subst ed
    have ex : u.fdiv (-g) = -x := by rw [hx, show g * x = (-g) * (-x) by grind]; exact Int.mul_fdiv_cancel_left _ (by omega)
    have ey : l.fdiv (-g) = -y := by rw [hy, show g * y = (-g) * (-y) by grind]; exact Int.mul_fdiv_cancel_left _ (by omega)
    refine ⟨⟨?_, ?_, ?_⟩, by omega⟩
    · rw [ey]
      exact Int.pos_of_mul_pos_left (show 0 < -y * g by grind) gp
    · rw [ex, ey]
      show Nat.gcd (-x).natAbs (-y).natAbs = 1
      rw [Int.natAbs_neg, Int.natAbs_neg]
      exact hc
    · rw [ex, ey, hx, hy]
      grind
theorem Nrm.dvd {u l x y : Int} (n : Nrm u l x y) : y ∣ l ∧ x ∣ u := by
  have c := n.cop
  refine ⟨dvd_of_cop c ⟨u, by rw [n.eq, Int.mul_comm]⟩, ?_⟩
  refine dvd_of_cop (x := y) (by rw [Int.gcd_comm]; exact c) ⟨l, by rw [n.eq, Int.mul_comm]⟩
theorem Nrm.le {u l x y : Int} (n : Nrm u l x y) (hl : l ≠ 0) : y.natAbs ≤ l.natAbs ∧ x.natAbs ≤ u.natAbs := by
  obtain ⟨d1, d2⟩ := n.dvd
  refine ⟨Nat.le_of_dvd (by omega) (Int.natAbs_dvd_natAbs.mpr d1), ?_⟩
  by_cases h : u = 0
  · have e := n.eq
    rw [h, Int.zero_mul] at e
    rcases Int.mul_eq_zero.mp e with z | z
    · rw [z]
      exact Nat.zero_le _
    · exact absurd z hl
  · exact Nat.le_of_dvd (by omega) (Int.natAbs_dvd_natAbs.mpr d2)
theorem cmp_same {A B X Y M N : Int} (hM : 0 < M) (hN : 0 < N) (h1 : A * M = X * N) (h2 : B * M = Y * N) : (A = B ↔ X = Y) ∧ (A < B ↔ X < Y) := by
  refine ⟨⟨fun e => ?_, fun e => ?_⟩, ⟨fun e => ?_, fun e => ?_⟩⟩
  · exact Int.eq_of_mul_eq_mul_right (show N ≠ 0 by omega) (by rw [← h1, ← h2, e])
  · exact Int.eq_of_mul_eq_mul_right (show M ≠ 0 by omega) (by rw [h1, h2, e])
  · exact Int.lt_of_mul_lt_mul_right (by rw [← h1, ← h2]; exact Int.mul_lt_mul_of_pos_right e hM) (show 0 ≤ N by omega)
  · exact Int.lt_of_mul_lt_mul_right (by rw [h1, h2]; exact Int.mul_lt_mul_of_pos_right e hN) (show 0 ≤ M by omega)
theorem gcd_step {x y : Int} (h : 0 ≤ x) (_ : 0 < y) : Int.gcd y (x % y) = Int.gcd x y := by
  show Nat.gcd y.natAbs (x % y).natAbs = Nat.gcd x.natAbs y.natAbs
  rw [Nat.gcd_comm x.natAbs, Nat.gcd_rec y.natAbs x.natAbs, Nat.gcd_comm, Int.natAbs_emod_of_nonneg h]
theorem gcd_abs (u l : Int) : Int.gcd (if u < 0 then -u else u) (if l < 0 then -l else l) = Int.gcd u l := by
  have e : ∀ z : Int, (if z < 0 then -z else z).natAbs = z.natAbs := fun z => by split <;> omega
  show Nat.gcd _ _ = Nat.gcd _ _
  rw [e, e]
end RK

namespace RK1
open PySem PySem.Spec L2 RK
def top (i : Nat) : Stmt := PySem.Challenge.pw_slackstrings_k01_ratios_reckoned.main.body.getD i (.Pass ⟨0, 0, 0, 0⟩)
abbrev s_is_whole : Stmt := top 6
theorem sc_is_whole : FnScope ["value"] ["value"] (defScope s_is_whole) := ⟨rfl, rfl, rfl, by decide +kernel, rfl, by decide +kernel, by decide +kernel⟩
abbrev s_Ratio_init : Stmt := inClass (top 8) 0
theorem sc_Ratio_init : FnScope ["self", "top", "bottom", "shared"] ["self", "top", "bottom"] (defScope s_Ratio_init) := ⟨rfl, rfl, rfl, by decide +kernel, rfl, by decide +kernel, by decide +kernel⟩
abbrev s_Ratio_eq : Stmt := inClass (top 8) 1
theorem sc_Ratio_eq : FnScope ["self", "other", "beside"] ["self", "other"] (defScope s_Ratio_eq) := ⟨rfl, rfl, rfl, by decide +kernel, rfl, by decide +kernel, by decide +kernel⟩
abbrev s_Ratio_neg : Stmt := inClass (top 8) 3
theorem sc_Ratio_neg : FnScope ["self"] ["self"] (defScope s_Ratio_neg) := ⟨rfl, rfl, rfl, by decide +kernel, rfl, by decide +kernel, by decide +kernel⟩
abbrev s_Ratio_add : Stmt := inClass (top 8) 4
theorem sc_Ratio_add : FnScope ["self", "other", "beside"] ["self", "other"] (defScope s_Ratio_add) := ⟨rfl, rfl, rfl, by decide +kernel, rfl, by decide +kernel, by decide +kernel⟩
abbrev s_Ratio_radd : Stmt := inClass (top 8) 5
theorem sc_Ratio_radd : FnScope ["self", "other"] ["self", "other"] (defScope s_Ratio_radd) := ⟨rfl, rfl, rfl, by decide +kernel, rfl, by decide +kernel, by decide +kernel⟩
abbrev s_Ratio_sub : Stmt := inClass (top 8) 6
theorem sc_Ratio_sub : FnScope ["self", "other"] ["self", "other"] (defScope s_Ratio_sub) := ⟨rfl, rfl, rfl, by decide +kernel, rfl, by decide +kernel, by decide +kernel⟩
abbrev s_Ratio_rsub : Stmt := inClass (top 8) 7
theorem sc_Ratio_rsub : FnScope ["self", "other"] ["self", "other"] (defScope s_Ratio_rsub) := ⟨rfl, rfl, rfl, by decide +kernel, rfl, by decide +kernel, by decide +kernel⟩
abbrev s_Ratio_mul : Stmt := inClass (top 8) 8
theorem sc_Ratio_mul : FnScope ["self", "other", "beside"] ["self", "other"] (defScope s_Ratio_mul) := ⟨rfl, rfl, rfl, by decide +kernel, rfl, by decide +kernel, by decide +kernel⟩
abbrev s_Ratio_rmul : Stmt := inClass (top 8) 9
theorem sc_Ratio_rmul : FnScope ["self", "other"] ["self", "other"] (defScope s_Ratio_rmul) := ⟨rfl, rfl, rfl, by decide +kernel, rfl, by decide +kernel, by decide +kernel⟩
abbrev s_Ratio_compared : Stmt := inClass (top 8) 10
theorem sc_Ratio_compared : FnScope ["self", "other", "beside", "here", "there"] ["self", "other"] (defScope s_Ratio_compared) := ⟨rfl, rfl, rfl, by decide +kernel, rfl, by decide +kernel, by decide +kernel⟩
abbrev s_Ratio_over : Stmt := inClass (top 8) 11
theorem sc_Ratio_over : FnScope ["self", "other", "beside"] ["self", "other"] (defScope s_Ratio_over) := ⟨rfl, rfl, rfl, by decide +kernel, rfl, by decide +kernel, by decide +kernel⟩
abbrev s_is_fraction : Stmt := top 9
theorem sc_is_fraction : FnScope ["value"] ["value"] (defScope s_is_fraction) := ⟨rfl, rfl, rfl, by decide +kernel, rfl, by decide +kernel, by decide +kernel⟩
abbrev s_as_ratio : Stmt := top 10
theorem sc_as_ratio : FnScope ["fraction"] ["fraction"] (defScope s_as_ratio) := ⟨rfl, rfl, rfl, by decide +kernel, rfl, by decide +kernel, by decide +kernel⟩
abbrev s_bag : Stmt := top 14
theorem sc_bag : FnScope ["_law_cells", "_law_k", "_law_cell", "_law_seed", "_law_this", "_law_figures"] ["_law_cells", "_law_k"] (defScope s_bag) := ⟨rfl, rfl, rfl, by decide +kernel, rfl, by decide +kernel, by decide +kernel⟩
abbrev s_draw : Stmt := top 15
theorem sc_draw : FnScope ["_law_bag_here", "_law_wide", "_law_figure", "_law_held", "_law_times"] ["_law_bag_here", "_law_wide"] (defScope s_draw) := ⟨rfl, rfl, rfl, by decide +kernel, rfl, by decide +kernel, by decide +kernel⟩
abbrev s_one : Stmt := top 16
theorem sc_one : FnScope ["_law_bag_here", "_law_some"] ["_law_bag_here", "_law_some"] (defScope s_one) := ⟨rfl, rfl, rfl, by decide +kernel, rfl, by decide +kernel, by decide +kernel⟩
abbrev s_lowest : Stmt := top 17
theorem sc_lowest : FnScope ["_law_upper", "_law_lower", "_law_one_here", "_law_two", "_law_by"] ["_law_upper", "_law_lower"] (defScope s_lowest) := ⟨rfl, rfl, rfl, by decide +kernel, rfl, by decide +kernel, by decide +kernel⟩
abbrev s_pair : Stmt := top 18
theorem sc_pair : FnScope ["_law_bag_here", "_law_upper"] ["_law_bag_here"] (defScope s_pair) := ⟨rfl, rfl, rfl, by decide +kernel, rfl, by decide +kernel, by decide +kernel⟩
abbrev s_parts : Stmt := top 19
theorem sc_parts : FnScope ["_law_made"] ["_law_made"] (defScope s_parts) := ⟨rfl, rfl, rfl, by decide +kernel, rfl, by decide +kernel, by decide +kernel⟩
abbrev s_pair_right : Stmt := top 20
theorem sc_pair_right : FnScope ["_law_one_here", "_law_two", "_law_mine", "_law_mate", "_law_cross", "_law_found", "_law_both", "_law_due", "_law_order", "_law_each"] ["_law_one_here", "_law_two"] (defScope s_pair_right) := ⟨rfl, rfl, rfl, by decide +kernel, rfl, by decide +kernel, by decide +kernel⟩
abbrev s_whole_right : Stmt := top 21
theorem sc_whole_right : FnScope ["_law_one_here", "_law_many", "_law_mine", "_law_here", "_law_some", "_law_due", "_law_k"] ["_law_one_here", "_law_many"] (defScope s_whole_right) := ⟨rfl, rfl, rfl, by decide +kernel, rfl, by decide +kernel, by decide +kernel⟩
abbrev s_right : Stmt := top 22
theorem sc_right : FnScope ["_law_bag_here", "_law_turn", "_law_one_here", "_law_two"] ["_law_bag_here"] (defScope s_right) := ⟨rfl, rfl, rfl, by decide +kernel, rfl, by decide +kernel, by decide +kernel⟩
abbrev s_law : Stmt := top 23
theorem sc_law : FnScope ["_law_cells", "_law_half", "_law_k"] ["_law_cells"] (defScope s_law) := ⟨rfl, rfl, rfl, by decide +kernel, rfl, by decide +kernel, by decide +kernel⟩
structure Ad where
  C_Ratio : Addr
  f_is_whole : Addr
  d_is_whole : FuncData
  f_Ratio_init : Addr
  d_Ratio_init : FuncData
  f_Ratio_eq : Addr
  d_Ratio_eq : FuncData
  f_Ratio_neg : Addr
  d_Ratio_neg : FuncData
  f_Ratio_add : Addr
  d_Ratio_add : FuncData
  f_Ratio_radd : Addr
  d_Ratio_radd : FuncData
  f_Ratio_sub : Addr
  d_Ratio_sub : FuncData
  f_Ratio_rsub : Addr
  d_Ratio_rsub : FuncData
  f_Ratio_mul : Addr
  d_Ratio_mul : FuncData
  f_Ratio_rmul : Addr
  d_Ratio_rmul : FuncData
  f_Ratio_compared : Addr
  d_Ratio_compared : FuncData
  f_Ratio_over : Addr
  d_Ratio_over : FuncData
  f_is_fraction : Addr
  d_is_fraction : FuncData
  f_as_ratio : Addr
  d_as_ratio : FuncData
  f_bag : Addr
  d_bag : FuncData
  f_draw : Addr
  d_draw : FuncData
  f_one : Addr
  d_one : FuncData
  f_lowest : Addr
  d_lowest : FuncData
  f_pair : Addr
  d_pair : FuncData
  f_parts : Addr
  d_parts : FuncData
  f_pair_right : Addr
  d_pair_right : FuncData
  f_whole_right : Addr
  d_whole_right : FuncData
  f_right : Addr
  d_right : FuncData
  f_law : Addr
  d_law : FuncData

structure Txt (K : PySem.W.Frag) (mg : Str → Option Value) (a : Ad) : Prop where
  F_is_whole : Fun K "is_whole" "is_whole" s_is_whole a.f_is_whole a.d_is_whole
  b_is_whole : L2.Binds K a.d_is_whole ["value"] []
  m_is_whole : mg "is_whole" = some (.ref a.f_is_whole)
  F_Ratio_init : FunD K "__init__" "Ratio.__init__" (defArgs s_Ratio_init) (defBody s_Ratio_init) (defScope s_Ratio_init) [.int 1] [] a.f_Ratio_init a.d_Ratio_init
  me_Ratio_init : Meth K a.C_Ratio "__init__" a.f_Ratio_init
  F_Ratio_eq : Fun K "__eq__" "Ratio.__eq__" s_Ratio_eq a.f_Ratio_eq a.d_Ratio_eq
  b_Ratio_eq : L2.Binds K a.d_Ratio_eq ["self", "other"] []
  me_Ratio_eq : Meth K a.C_Ratio "__eq__" a.f_Ratio_eq
  F_Ratio_neg : Fun K "__neg__" "Ratio.__neg__" s_Ratio_neg a.f_Ratio_neg a.d_Ratio_neg
  b_Ratio_neg : L2.Binds K a.d_Ratio_neg ["self"] []
  me_Ratio_neg : Meth K a.C_Ratio "__neg__" a.f_Ratio_neg
  F_Ratio_add : Fun K "__add__" "Ratio.__add__" s_Ratio_add a.f_Ratio_add a.d_Ratio_add
  b_Ratio_add : L2.Binds K a.d_Ratio_add ["self", "other"] []
  me_Ratio_add : Meth K a.C_Ratio "__add__" a.f_Ratio_add
  F_Ratio_radd : Fun K "__radd__" "Ratio.__radd__" s_Ratio_radd a.f_Ratio_radd a.d_Ratio_radd
  b_Ratio_radd : L2.Binds K a.d_Ratio_radd ["self", "other"] []
  me_Ratio_radd : Meth K a.C_Ratio "__radd__" a.f_Ratio_radd
  F_Ratio_sub : Fun K "__sub__" "Ratio.__sub__" s_Ratio_sub a.f_Ratio_sub a.d_Ratio_sub
  b_Ratio_sub : L2.Binds K a.d_Ratio_sub ["self", "other"] []
  me_Ratio_sub : Meth K a.C_Ratio "__sub__" a.f_Ratio_sub
  F_Ratio_rsub : Fun K "__rsub__" "Ratio.__rsub__" s_Ratio_rsub a.f_Ratio_rsub a.d_Ratio_rsub
  b_Ratio_rsub : L2.Binds K a.d_Ratio_rsub ["self", "other"] []
  me_Ratio_rsub : Meth K a.C_Ratio "__rsub__" a.f_Ratio_rsub
  F_Ratio_mul : Fun K "__mul__" "Ratio.__mul__" s_Ratio_mul a.f_Ratio_mul a.d_Ratio_mul
  b_Ratio_mul : L2.Binds K a.d_Ratio_mul ["self", "other"] []
  me_Ratio_mul : Meth K a.C_Ratio "__mul__" a.f_Ratio_mul
  F_Ratio_rmul : Fun K "__rmul__" "Ratio.__rmul__" s_Ratio_rmul a.f_Ratio_rmul a.d_Ratio_rmul
  b_Ratio_rmul : L2.Binds K a.d_Ratio_rmul ["self", "other"] []
  me_Ratio_rmul : Meth K a.C_Ratio "__rmul__" a.f_Ratio_rmul
  F_Ratio_compared : Fun K "compared" "Ratio.compared" s_Ratio_compared a.f_Ratio_compared a.d_Ratio_compared
  b_Ratio_compared : L2.Binds K a.d_Ratio_compared ["self", "other"] []
  me_Ratio_compared : Meth K a.C_Ratio "compared" a.f_Ratio_compared
  F_Ratio_over : Fun K "over" "Ratio.over" s_Ratio_over a.f_Ratio_over a.d_Ratio_over
  b_Ratio_over : L2.Binds K a.d_Ratio_over ["self", "other"] []
  me_Ratio_over : Meth K a.C_Ratio "over" a.f_Ratio_over
  F_is_fraction : Fun K "is_fraction" "is_fraction" s_is_fraction a.f_is_fraction a.d_is_fraction
  b_is_fraction : L2.Binds K a.d_is_fraction ["value"] []
  m_is_fraction : mg "is_fraction" = some (.ref a.f_is_fraction)
  F_as_ratio : Fun K "as_ratio" "as_ratio" s_as_ratio a.f_as_ratio a.d_as_ratio
  b_as_ratio : L2.Binds K a.d_as_ratio ["fraction"] []
  m_as_ratio : mg "as_ratio" = some (.ref a.f_as_ratio)
  F_bag : Fun K "_law_bag" "_law_bag" s_bag a.f_bag a.d_bag
  b_bag : L2.Binds K a.d_bag ["_law_cells", "_law_k"] []
  m_bag : mg "_law_bag" = some (.ref a.f_bag)
  F_draw : Fun K "_law_draw" "_law_draw" s_draw a.f_draw a.d_draw
  b_draw : L2.Binds K a.d_draw ["_law_bag_here", "_law_wide"] []
  m_draw : mg "_law_draw" = some (.ref a.f_draw)
  F_one : Fun K "_law_one" "_law_one" s_one a.f_one a.d_one
  b_one : L2.Binds K a.d_one ["_law_bag_here", "_law_some"] []
  m_one : mg "_law_one" = some (.ref a.f_one)
  F_lowest : Fun K "_law_lowest" "_law_lowest" s_lowest a.f_lowest a.d_lowest
  b_lowest : L2.Binds K a.d_lowest ["_law_upper", "_law_lower"] []
  m_lowest : mg "_law_lowest" = some (.ref a.f_lowest)
  F_pair : Fun K "_law_pair" "_law_pair" s_pair a.f_pair a.d_pair
  b_pair : L2.Binds K a.d_pair ["_law_bag_here"] []
  m_pair : mg "_law_pair" = some (.ref a.f_pair)
  F_parts : Fun K "_law_parts" "_law_parts" s_parts a.f_parts a.d_parts
  b_parts : L2.Binds K a.d_parts ["_law_made"] []
  m_parts : mg "_law_parts" = some (.ref a.f_parts)
  F_pair_right : Fun K "_law_pair_right" "_law_pair_right" s_pair_right a.f_pair_right a.d_pair_right
  b_pair_right : L2.Binds K a.d_pair_right ["_law_one_here", "_law_two"] []
  m_pair_right : mg "_law_pair_right" = some (.ref a.f_pair_right)
  F_whole_right : Fun K "_law_whole_right" "_law_whole_right" s_whole_right a.f_whole_right a.d_whole_right
  b_whole_right : L2.Binds K a.d_whole_right ["_law_one_here", "_law_many"] []
  m_whole_right : mg "_law_whole_right" = some (.ref a.f_whole_right)
  F_right : Fun K "_law_right" "_law_right" s_right a.f_right a.d_right
  b_right : L2.Binds K a.d_right ["_law_bag_here"] []
  m_right : mg "_law_right" = some (.ref a.f_right)
  F_law : Fun K "law" "law" s_law a.f_law a.d_law
  b_law : L2.Binds K a.d_law ["_law_cells"] []
  m_law : mg "law" = some (.ref a.f_law)
  cl_Ratio : Cls K a.C_Ratio
  m_Ratio : mg "Ratio" = some (.ref a.C_Ratio)
  mk_Ratio : Mk K a.C_Ratio a.f_Ratio_init
  z_isinstance : mg "isinstance" = none
  z_int : mg "int" = none
  z_bool : mg "bool" = none
  z_len : mg "len" = none
  z_abs : mg "abs" = none
  z_range : mg "range" = none
  z_all : mg "all" = none
  z_max : mg "max" = none
  z_min : mg "min" = none
  m_gcd : mg "gcd" = some (.builtin "math.gcd")
  nT : NoAttr K a.C_Ratio "top"
  nB : NoAttr K a.C_Ratio "bottom"
  iA : PySem.W.findIn K (.ref a.C_Ratio) "__class__" = some (some (.builtin "object.__class__"))
  iN : PySem.W.specialIn K (.builtin "object.__class__") "__get__" = some (some (.builtin "getset_descriptor.__get__"))
  iT : PySem.W.takesIn K (.builtin "object.__class__") = some true
  iM : PySem.W.mroIn K a.C_Ratio (.type "object") = some true
  kRI : PySem.W.kitOne K (.ref a.C_Ratio) (.type "int") = some false
  kRR : PySem.W.kitOne K (.ref a.C_Ratio) (.ref a.C_Ratio) = some true
  kIR : PySem.W.kitOne K (.type "int") (.ref a.C_Ratio) = some false
  kBR : PySem.W.kitOne K (.type "bool") (.ref a.C_Ratio) = some false
  kTR : PySem.W.kitOne K (.type "tuple") (.ref a.C_Ratio) = some false
  sf : PySem.W.selfFirst K a.C_Ratio = true
  ne : PySem.W.findIn K (.ref a.C_Ratio) "__ne__" = some (some (.builtin "object.__ne__"))
  ob : PySem.W.subIn K (.ref a.C_Ratio) (.type "object") = some true
  sRI : PySem.W.subIn K (.ref a.C_Ratio) (.type "int") = some false
  sIR : PySem.W.subIn K (.type "int") (.ref a.C_Ratio) = some false
  nfI : PySem.W.notFirst K a.C_Ratio (.type "int") = true
  nfB : PySem.W.notFirst K a.C_Ratio (.type "bool") = true
  nfT : PySem.W.notFirst K a.C_Ratio (.type "tuple") = true
  nfR : PySem.W.notFirst K a.C_Ratio (.ref a.C_Ratio) = true
  iAdd : ∃ x, PySem.W.findIn K (.type "int") "__add__" = some x
  iRadd : ∃ x, PySem.W.findIn K (.type "int") "__radd__" = some x
  iSub : ∃ x, PySem.W.findIn K (.type "int") "__sub__" = some x
  iRsub : ∃ x, PySem.W.findIn K (.type "int") "__rsub__" = some x
  iMul : ∃ x, PySem.W.findIn K (.type "int") "__mul__" = some x
  iRmul : ∃ x, PySem.W.findIn K (.type "int") "__rmul__" = some x

theorem all_mk {K : PySem.W.Frag} {h : Heap} {mg : Str → Option Value} (X : K.In h) (G : h.Ns mainGlobals mg)
    {C_Ratio f_is_whole f_Ratio_init T_Ratio_init f_Ratio_eq f_Ratio_neg f_Ratio_add f_Ratio_radd f_Ratio_sub f_Ratio_rsub f_Ratio_mul f_Ratio_rmul f_Ratio_compared f_Ratio_over f_is_fraction f_as_ratio f_bag f_draw f_one f_lowest f_pair f_parts f_pair_right f_whole_right f_right f_law : Addr} {oc_is_whole kV_is_whole dc_is_whole pm_is_whole cd_is_whole ct_is_whole oc_Ratio_init kV_Ratio_init dc_Ratio_init pm_Ratio_init cd_Ratio_init ct_Ratio_init tc_Ratio_init oc_Ratio_eq kV_Ratio_eq dc_Ratio_eq pm_Ratio_eq cd_Ratio_eq ct_Ratio_eq oc_Ratio_neg kV_Ratio_neg dc_Ratio_neg pm_Ratio_neg cd_Ratio_neg ct_Ratio_neg oc_Ratio_add kV_Ratio_add dc_Ratio_add pm_Ratio_add cd_Ratio_add ct_Ratio_add oc_Ratio_radd kV_Ratio_radd dc_Ratio_radd pm_Ratio_radd cd_Ratio_radd ct_Ratio_radd oc_Ratio_sub kV_Ratio_sub dc_Ratio_sub pm_Ratio_sub cd_Ratio_sub ct_Ratio_sub oc_Ratio_rsub kV_Ratio_rsub dc_Ratio_rsub pm_Ratio_rsub cd_Ratio_rsub ct_Ratio_rsub oc_Ratio_mul kV_Ratio_mul dc_Ratio_mul pm_Ratio_mul cd_Ratio_mul ct_Ratio_mul oc_Ratio_rmul kV_Ratio_rmul dc_Ratio_rmul pm_Ratio_rmul cd_Ratio_rmul ct_Ratio_rmul oc_Ratio_compared kV_Ratio_compared dc_Ratio_compared pm_Ratio_compared cd_Ratio_compared ct_Ratio_compared oc_Ratio_over kV_Ratio_over dc_Ratio_over pm_Ratio_over cd_Ratio_over ct_Ratio_over oc_is_fraction kV_is_fraction dc_is_fraction pm_is_fraction cd_is_fraction ct_is_fraction oc_as_ratio kV_as_ratio dc_as_ratio pm_as_ratio cd_as_ratio ct_as_ratio oc_bag kV_bag dc_bag pm_bag cd_bag ct_bag oc_draw kV_draw dc_draw pm_draw cd_draw ct_draw oc_one kV_one dc_one pm_one cd_one ct_one oc_lowest kV_lowest dc_lowest pm_lowest cd_lowest ct_lowest oc_pair kV_pair dc_pair pm_pair cd_pair ct_pair oc_parts kV_parts dc_parts pm_parts cd_parts ct_parts oc_pair_right kV_pair_right dc_pair_right pm_pair_right cd_pair_right ct_pair_right oc_whole_right kV_whole_right dc_whole_right pm_whole_right cd_whole_right ct_whole_right oc_right kV_right dc_right pm_right cd_right ct_right oc_law kV_law dc_law pm_law cd_law ct_law : Value} {od_is_whole an_is_whole od_Ratio_init an_Ratio_init td_Ratio_init od_Ratio_eq an_Ratio_eq od_Ratio_neg an_Ratio_neg od_Ratio_add an_Ratio_add od_Ratio_radd an_Ratio_radd od_Ratio_sub an_Ratio_sub od_Ratio_rsub an_Ratio_rsub od_Ratio_mul an_Ratio_mul od_Ratio_rmul an_Ratio_rmul od_Ratio_compared an_Ratio_compared od_Ratio_over an_Ratio_over od_is_fraction an_is_fraction od_as_ratio an_as_ratio od_bag an_bag od_draw an_draw od_one an_one od_lowest an_lowest od_pair an_pair od_parts an_parts od_pair_right an_pair_right od_whole_right an_whole_right od_right an_right od_law an_law : Option Addr} {sl_is_whole sl_Ratio_init ts_Ratio_init sl_Ratio_eq sl_Ratio_neg sl_Ratio_add sl_Ratio_radd sl_Ratio_sub sl_Ratio_rsub sl_Ratio_mul sl_Ratio_rmul sl_Ratio_compared sl_Ratio_over sl_is_fraction sl_as_ratio sl_bag sl_draw sl_one sl_lowest sl_pair sl_parts sl_pair_right sl_whole_right sl_right sl_law : Array (Option Value)} {tk0 : Tok} {tn_Ratio_init : Nat} {xiAdd xiRadd xiSub xiRsub xiMul xiRmul : Option Value}
    (aC_Ratio : PySem.W.nsIn K mainGlobals "Ratio" = some (some (.ref C_Ratio)))
    (pg_Ratio : PySem.W.plainGet K C_Ratio Str.empty = true)
    (hd_Ratio : PySem.W.hasDictIn K C_Ratio = true)
    (po_Ratio : PySem.W.plainOver K C_Ratio = true)
    (sa_Ratio : PySem.W.findIn K (.ref C_Ratio) "__setattr__" = some (some (.builtin "object.__setattr__")))
    (mk_Ratio : PySem.W.makesIn K C_Ratio = true)
    (kc_Ratio : PySem.W.keepIn K (.ref C_Ratio) = true)
    (a_is_whole : PySem.W.nsIn K mainGlobals "is_whole" = some (some (.ref f_is_whole)))
    (l_is_whole : K.lookup f_is_whole = some ⟨oc_is_whole, od_is_whole, .func (PySem.W.fnOf "is_whole" "is_whole" (defArgs s_is_whole) (defBody s_is_whole) (defScope s_is_whole) .none kV_is_whole dc_is_whole pm_is_whole an_is_whole cd_is_whole ct_is_whole), sl_is_whole⟩) (c_is_whole : PySem.W.codeIn K cd_is_whole "is_whole" = true) (k_is_whole : PySem.W.keepIn K (.ref f_is_whole) = true)
    (a_Ratio_init : PySem.W.findIn K (.ref C_Ratio) "__init__" = some (some (.ref f_Ratio_init))) (i_Ratio_init : PySem.W.isFn K (.ref f_Ratio_init) = true)
    (l_Ratio_init : K.lookup f_Ratio_init = some ⟨oc_Ratio_init, od_Ratio_init, .func (PySem.W.fnOf "__init__" "Ratio.__init__" (defArgs s_Ratio_init) (defBody s_Ratio_init) (defScope s_Ratio_init) (.ref T_Ratio_init) kV_Ratio_init dc_Ratio_init pm_Ratio_init an_Ratio_init cd_Ratio_init ct_Ratio_init), sl_Ratio_init⟩) (c_Ratio_init : PySem.W.codeIn K cd_Ratio_init "Ratio.__init__" = true) (k_Ratio_init : PySem.W.keepIn K (.ref f_Ratio_init) = true)
    (t_Ratio_init : K.lookup T_Ratio_init = some ⟨tc_Ratio_init, td_Ratio_init, .seq #[.int 1 tk0] tn_Ratio_init, ts_Ratio_init⟩)
    (a_Ratio_eq : PySem.W.findIn K (.ref C_Ratio) "__eq__" = some (some (.ref f_Ratio_eq))) (i_Ratio_eq : PySem.W.isFn K (.ref f_Ratio_eq) = true)
    (l_Ratio_eq : K.lookup f_Ratio_eq = some ⟨oc_Ratio_eq, od_Ratio_eq, .func (PySem.W.fnOf "__eq__" "Ratio.__eq__" (defArgs s_Ratio_eq) (defBody s_Ratio_eq) (defScope s_Ratio_eq) .none kV_Ratio_eq dc_Ratio_eq pm_Ratio_eq an_Ratio_eq cd_Ratio_eq ct_Ratio_eq), sl_Ratio_eq⟩) (c_Ratio_eq : PySem.W.codeIn K cd_Ratio_eq "Ratio.__eq__" = true) (k_Ratio_eq : PySem.W.keepIn K (.ref f_Ratio_eq) = true)
    (a_Ratio_neg : PySem.W.findIn K (.ref C_Ratio) "__neg__" = some (some (.ref f_Ratio_neg))) (i_Ratio_neg : PySem.W.isFn K (.ref f_Ratio_neg) = true)
    (l_Ratio_neg : K.lookup f_Ratio_neg = some ⟨oc_Ratio_neg, od_Ratio_neg, .func (PySem.W.fnOf "__neg__" "Ratio.__neg__" (defArgs s_Ratio_neg) (defBody s_Ratio_neg) (defScope s_Ratio_neg) .none kV_Ratio_neg dc_Ratio_neg pm_Ratio_neg an_Ratio_neg cd_Ratio_neg ct_Ratio_neg), sl_Ratio_neg⟩) (c_Ratio_neg : PySem.W.codeIn K cd_Ratio_neg "Ratio.__neg__" = true) (k_Ratio_neg : PySem.W.keepIn K (.ref f_Ratio_neg) = true)
    (a_Ratio_add : PySem.W.findIn K (.ref C_Ratio) "__add__" = some (some (.ref f_Ratio_add))) (i_Ratio_add : PySem.W.isFn K (.ref f_Ratio_add) = true)
    (l_Ratio_add : K.lookup f_Ratio_add = some ⟨oc_Ratio_add, od_Ratio_add, .func (PySem.W.fnOf "__add__" "Ratio.__add__" (defArgs s_Ratio_add) (defBody s_Ratio_add) (defScope s_Ratio_add) .none kV_Ratio_add dc_Ratio_add pm_Ratio_add an_Ratio_add cd_Ratio_add ct_Ratio_add), sl_Ratio_add⟩) (c_Ratio_add : PySem.W.codeIn K cd_Ratio_add "Ratio.__add__" = true) (k_Ratio_add : PySem.W.keepIn K (.ref f_Ratio_add) = true)
    (a_Ratio_radd : PySem.W.findIn K (.ref C_Ratio) "__radd__" = some (some (.ref f_Ratio_radd))) (i_Ratio_radd : PySem.W.isFn K (.ref f_Ratio_radd) = true)
    (l_Ratio_radd : K.lookup f_Ratio_radd = some ⟨oc_Ratio_radd, od_Ratio_radd, .func (PySem.W.fnOf "__radd__" "Ratio.__radd__" (defArgs s_Ratio_radd) (defBody s_Ratio_radd) (defScope s_Ratio_radd) .none kV_Ratio_radd dc_Ratio_radd pm_Ratio_radd an_Ratio_radd cd_Ratio_radd ct_Ratio_radd), sl_Ratio_radd⟩) (c_Ratio_radd : PySem.W.codeIn K cd_Ratio_radd "Ratio.__radd__" = true) (k_Ratio_radd : PySem.W.keepIn K (.ref f_Ratio_radd) = true)
    (a_Ratio_sub : PySem.W.findIn K (.ref C_Ratio) "__sub__" = some (some (.ref f_Ratio_sub))) (i_Ratio_sub : PySem.W.isFn K (.ref f_Ratio_sub) = true)
    (l_Ratio_sub : K.lookup f_Ratio_sub = some ⟨oc_Ratio_sub, od_Ratio_sub, .func (PySem.W.fnOf "__sub__" "Ratio.__sub__" (defArgs s_Ratio_sub) (defBody s_Ratio_sub) (defScope s_Ratio_sub) .none kV_Ratio_sub dc_Ratio_sub pm_Ratio_sub an_Ratio_sub cd_Ratio_sub ct_Ratio_sub), sl_Ratio_sub⟩) (c_Ratio_sub : PySem.W.codeIn K cd_Ratio_sub "Ratio.__sub__" = true) (k_Ratio_sub : PySem.W.keepIn K (.ref f_Ratio_sub) = true)
    (a_Ratio_rsub : PySem.W.findIn K (.ref C_Ratio) "__rsub__" = some (some (.ref f_Ratio_rsub))) (i_Ratio_rsub : PySem.W.isFn K (.ref f_Ratio_rsub) = true)
    (l_Ratio_rsub : K.lookup f_Ratio_rsub = some ⟨oc_Ratio_rsub, od_Ratio_rsub, .func (PySem.W.fnOf "__rsub__" "Ratio.__rsub__" (defArgs s_Ratio_rsub) (defBody s_Ratio_rsub) (defScope s_Ratio_rsub) .none kV_Ratio_rsub dc_Ratio_rsub pm_Ratio_rsub an_Ratio_rsub cd_Ratio_rsub ct_Ratio_rsub), sl_Ratio_rsub⟩) (c_Ratio_rsub : PySem.W.codeIn K cd_Ratio_rsub "Ratio.__rsub__" = true) (k_Ratio_rsub : PySem.W.keepIn K (.ref f_Ratio_rsub) = true)
    (a_Ratio_mul : PySem.W.findIn K (.ref C_Ratio) "__mul__" = some (some (.ref f_Ratio_mul))) (i_Ratio_mul : PySem.W.isFn K (.ref f_Ratio_mul) = true)
    (l_Ratio_mul : K.lookup f_Ratio_mul = some ⟨oc_Ratio_mul, od_Ratio_mul, .func (PySem.W.fnOf "__mul__" "Ratio.__mul__" (defArgs s_Ratio_mul) (defBody s_Ratio_mul) (defScope s_Ratio_mul) .none kV_Ratio_mul dc_Ratio_mul pm_Ratio_mul an_Ratio_mul cd_Ratio_mul ct_Ratio_mul), sl_Ratio_mul⟩) (c_Ratio_mul : PySem.W.codeIn K cd_Ratio_mul "Ratio.__mul__" = true) (k_Ratio_mul : PySem.W.keepIn K (.ref f_Ratio_mul) = true)
    (a_Ratio_rmul : PySem.W.findIn K (.ref C_Ratio) "__rmul__" = some (some (.ref f_Ratio_rmul))) (i_Ratio_rmul : PySem.W.isFn K (.ref f_Ratio_rmul) = true)
    (l_Ratio_rmul : K.lookup f_Ratio_rmul = some ⟨oc_Ratio_rmul, od_Ratio_rmul, .func (PySem.W.fnOf "__rmul__" "Ratio.__rmul__" (defArgs s_Ratio_rmul) (defBody s_Ratio_rmul) (defScope s_Ratio_rmul) .none kV_Ratio_rmul dc_Ratio_rmul pm_Ratio_rmul an_Ratio_rmul cd_Ratio_rmul ct_Ratio_rmul), sl_Ratio_rmul⟩) (c_Ratio_rmul : PySem.W.codeIn K cd_Ratio_rmul "Ratio.__rmul__" = true) (k_Ratio_rmul : PySem.W.keepIn K (.ref f_Ratio_rmul) = true)
    (a_Ratio_compared : PySem.W.findIn K (.ref C_Ratio) "compared" = some (some (.ref f_Ratio_compared))) (i_Ratio_compared : PySem.W.isFn K (.ref f_Ratio_compared) = true)
    (l_Ratio_compared : K.lookup f_Ratio_compared = some ⟨oc_Ratio_compared, od_Ratio_compared, .func (PySem.W.fnOf "compared" "Ratio.compared" (defArgs s_Ratio_compared) (defBody s_Ratio_compared) (defScope s_Ratio_compared) .none kV_Ratio_compared dc_Ratio_compared pm_Ratio_compared an_Ratio_compared cd_Ratio_compared ct_Ratio_compared), sl_Ratio_compared⟩) (c_Ratio_compared : PySem.W.codeIn K cd_Ratio_compared "Ratio.compared" = true) (k_Ratio_compared : PySem.W.keepIn K (.ref f_Ratio_compared) = true)
    (a_Ratio_over : PySem.W.findIn K (.ref C_Ratio) "over" = some (some (.ref f_Ratio_over))) (i_Ratio_over : PySem.W.isFn K (.ref f_Ratio_over) = true)
    (l_Ratio_over : K.lookup f_Ratio_over = some ⟨oc_Ratio_over, od_Ratio_over, .func (PySem.W.fnOf "over" "Ratio.over" (defArgs s_Ratio_over) (defBody s_Ratio_over) (defScope s_Ratio_over) .none kV_Ratio_over dc_Ratio_over pm_Ratio_over an_Ratio_over cd_Ratio_over ct_Ratio_over), sl_Ratio_over⟩) (c_Ratio_over : PySem.W.codeIn K cd_Ratio_over "Ratio.over" = true) (k_Ratio_over : PySem.W.keepIn K (.ref f_Ratio_over) = true)
    (a_is_fraction : PySem.W.nsIn K mainGlobals "is_fraction" = some (some (.ref f_is_fraction)))
    (l_is_fraction : K.lookup f_is_fraction = some ⟨oc_is_fraction, od_is_fraction, .func (PySem.W.fnOf "is_fraction" "is_fraction" (defArgs s_is_fraction) (defBody s_is_fraction) (defScope s_is_fraction) .none kV_is_fraction dc_is_fraction pm_is_fraction an_is_fraction cd_is_fraction ct_is_fraction), sl_is_fraction⟩) (c_is_fraction : PySem.W.codeIn K cd_is_fraction "is_fraction" = true) (k_is_fraction : PySem.W.keepIn K (.ref f_is_fraction) = true)
    (a_as_ratio : PySem.W.nsIn K mainGlobals "as_ratio" = some (some (.ref f_as_ratio)))
    (l_as_ratio : K.lookup f_as_ratio = some ⟨oc_as_ratio, od_as_ratio, .func (PySem.W.fnOf "as_ratio" "as_ratio" (defArgs s_as_ratio) (defBody s_as_ratio) (defScope s_as_ratio) .none kV_as_ratio dc_as_ratio pm_as_ratio an_as_ratio cd_as_ratio ct_as_ratio), sl_as_ratio⟩) (c_as_ratio : PySem.W.codeIn K cd_as_ratio "as_ratio" = true) (k_as_ratio : PySem.W.keepIn K (.ref f_as_ratio) = true)
    (a_bag : PySem.W.nsIn K mainGlobals "_law_bag" = some (some (.ref f_bag)))
    (l_bag : K.lookup f_bag = some ⟨oc_bag, od_bag, .func (PySem.W.fnOf "_law_bag" "_law_bag" (defArgs s_bag) (defBody s_bag) (defScope s_bag) .none kV_bag dc_bag pm_bag an_bag cd_bag ct_bag), sl_bag⟩) (c_bag : PySem.W.codeIn K cd_bag "_law_bag" = true) (k_bag : PySem.W.keepIn K (.ref f_bag) = true)
    (a_draw : PySem.W.nsIn K mainGlobals "_law_draw" = some (some (.ref f_draw)))
    (l_draw : K.lookup f_draw = some ⟨oc_draw, od_draw, .func (PySem.W.fnOf "_law_draw" "_law_draw" (defArgs s_draw) (defBody s_draw) (defScope s_draw) .none kV_draw dc_draw pm_draw an_draw cd_draw ct_draw), sl_draw⟩) (c_draw : PySem.W.codeIn K cd_draw "_law_draw" = true) (k_draw : PySem.W.keepIn K (.ref f_draw) = true)
    (a_one : PySem.W.nsIn K mainGlobals "_law_one" = some (some (.ref f_one)))
    (l_one : K.lookup f_one = some ⟨oc_one, od_one, .func (PySem.W.fnOf "_law_one" "_law_one" (defArgs s_one) (defBody s_one) (defScope s_one) .none kV_one dc_one pm_one an_one cd_one ct_one), sl_one⟩) (c_one : PySem.W.codeIn K cd_one "_law_one" = true) (k_one : PySem.W.keepIn K (.ref f_one) = true)
    (a_lowest : PySem.W.nsIn K mainGlobals "_law_lowest" = some (some (.ref f_lowest)))
    (l_lowest : K.lookup f_lowest = some ⟨oc_lowest, od_lowest, .func (PySem.W.fnOf "_law_lowest" "_law_lowest" (defArgs s_lowest) (defBody s_lowest) (defScope s_lowest) .none kV_lowest dc_lowest pm_lowest an_lowest cd_lowest ct_lowest), sl_lowest⟩) (c_lowest : PySem.W.codeIn K cd_lowest "_law_lowest" = true) (k_lowest : PySem.W.keepIn K (.ref f_lowest) = true)
    (a_pair : PySem.W.nsIn K mainGlobals "_law_pair" = some (some (.ref f_pair)))
    (l_pair : K.lookup f_pair = some ⟨oc_pair, od_pair, .func (PySem.W.fnOf "_law_pair" "_law_pair" (defArgs s_pair) (defBody s_pair) (defScope s_pair) .none kV_pair dc_pair pm_pair an_pair cd_pair ct_pair), sl_pair⟩) (c_pair : PySem.W.codeIn K cd_pair "_law_pair" = true) (k_pair : PySem.W.keepIn K (.ref f_pair) = true)
    (a_parts : PySem.W.nsIn K mainGlobals "_law_parts" = some (some (.ref f_parts)))
    (l_parts : K.lookup f_parts = some ⟨oc_parts, od_parts, .func (PySem.W.fnOf "_law_parts" "_law_parts" (defArgs s_parts) (defBody s_parts) (defScope s_parts) .none kV_parts dc_parts pm_parts an_parts cd_parts ct_parts), sl_parts⟩) (c_parts : PySem.W.codeIn K cd_parts "_law_parts" = true) (k_parts : PySem.W.keepIn K (.ref f_parts) = true)
    (a_pair_right : PySem.W.nsIn K mainGlobals "_law_pair_right" = some (some (.ref f_pair_right)))
    (l_pair_right : K.lookup f_pair_right = some ⟨oc_pair_right, od_pair_right, .func (PySem.W.fnOf "_law_pair_right" "_law_pair_right" (defArgs s_pair_right) (defBody s_pair_right) (defScope s_pair_right) .none kV_pair_right dc_pair_right pm_pair_right an_pair_right cd_pair_right ct_pair_right), sl_pair_right⟩) (c_pair_right : PySem.W.codeIn K cd_pair_right "_law_pair_right" = true) (k_pair_right : PySem.W.keepIn K (.ref f_pair_right) = true)
    (a_whole_right : PySem.W.nsIn K mainGlobals "_law_whole_right" = some (some (.ref f_whole_right)))
    (l_whole_right : K.lookup f_whole_right = some ⟨oc_whole_right, od_whole_right, .func (PySem.W.fnOf "_law_whole_right" "_law_whole_right" (defArgs s_whole_right) (defBody s_whole_right) (defScope s_whole_right) .none kV_whole_right dc_whole_right pm_whole_right an_whole_right cd_whole_right ct_whole_right), sl_whole_right⟩) (c_whole_right : PySem.W.codeIn K cd_whole_right "_law_whole_right" = true) (k_whole_right : PySem.W.keepIn K (.ref f_whole_right) = true)
    (a_right : PySem.W.nsIn K mainGlobals "_law_right" = some (some (.ref f_right)))
    (l_right : K.lookup f_right = some ⟨oc_right, od_right, .func (PySem.W.fnOf "_law_right" "_law_right" (defArgs s_right) (defBody s_right) (defScope s_right) .none kV_right dc_right pm_right an_right cd_right ct_right), sl_right⟩) (c_right : PySem.W.codeIn K cd_right "_law_right" = true) (k_right : PySem.W.keepIn K (.ref f_right) = true)
    (a_law : PySem.W.nsIn K mainGlobals "law" = some (some (.ref f_law)))
    (l_law : K.lookup f_law = some ⟨oc_law, od_law, .func (PySem.W.fnOf "law" "law" (defArgs s_law) (defBody s_law) (defScope s_law) .none kV_law dc_law pm_law an_law cd_law ct_law), sl_law⟩) (c_law : PySem.W.codeIn K cd_law "law" = true) (k_law : PySem.W.keepIn K (.ref f_law) = true)
    (z_isinstance : PySem.W.nsIn K mainGlobals "isinstance" = some none)
    (z_int : PySem.W.nsIn K mainGlobals "int" = some none)
    (z_bool : PySem.W.nsIn K mainGlobals "bool" = some none)
    (z_len : PySem.W.nsIn K mainGlobals "len" = some none)
    (z_abs : PySem.W.nsIn K mainGlobals "abs" = some none)
    (z_range : PySem.W.nsIn K mainGlobals "range" = some none)
    (z_all : PySem.W.nsIn K mainGlobals "all" = some none)
    (z_max : PySem.W.nsIn K mainGlobals "max" = some none)
    (z_min : PySem.W.nsIn K mainGlobals "min" = some none)
    (g_gcd : PySem.W.nsIn K mainGlobals "gcd" = some (some (.builtin "math.gcd")))
    (h_nT : PySem.W.findIn K (.ref C_Ratio) "top" = some none)
    (h_nB : PySem.W.findIn K (.ref C_Ratio) "bottom" = some none)
    (h_iA : PySem.W.findIn K (.ref C_Ratio) "__class__" = some (some (.builtin "object.__class__")))
    (h_iN : PySem.W.specialIn K (.builtin "object.__class__") "__get__" = some (some (.builtin "getset_descriptor.__get__")))
    (h_iT : PySem.W.takesIn K (.builtin "object.__class__") = some true)
    (h_iM : PySem.W.mroIn K C_Ratio (.type "object") = some true)
    (h_kRI : PySem.W.kitOne K (.ref C_Ratio) (.type "int") = some false)
    (h_kRR : PySem.W.kitOne K (.ref C_Ratio) (.ref C_Ratio) = some true)
    (h_kIR : PySem.W.kitOne K (.type "int") (.ref C_Ratio) = some false)
    (h_kBR : PySem.W.kitOne K (.type "bool") (.ref C_Ratio) = some false)
    (h_kTR : PySem.W.kitOne K (.type "tuple") (.ref C_Ratio) = some false)
    (h_sf : PySem.W.selfFirst K C_Ratio = true)
    (h_ne : PySem.W.findIn K (.ref C_Ratio) "__ne__" = some (some (.builtin "object.__ne__")))
    (h_ob : PySem.W.subIn K (.ref C_Ratio) (.type "object") = some true)
    (h_sRI : PySem.W.subIn K (.ref C_Ratio) (.type "int") = some false)
    (h_sIR : PySem.W.subIn K (.type "int") (.ref C_Ratio) = some false)
    (h_nfI : PySem.W.notFirst K C_Ratio (.type "int") = true)
    (h_nfB : PySem.W.notFirst K C_Ratio (.type "bool") = true)
    (h_nfT : PySem.W.notFirst K C_Ratio (.type "tuple") = true)
    (h_nfR : PySem.W.notFirst K C_Ratio (.ref C_Ratio) = true)
    (h_iAdd : PySem.W.findIn K (.type "int") "__add__" = some xiAdd)
    (h_iRadd : PySem.W.findIn K (.type "int") "__radd__" = some xiRadd)
    (h_iSub : PySem.W.findIn K (.type "int") "__sub__" = some xiSub)
    (h_iRsub : PySem.W.findIn K (.type "int") "__rsub__" = some xiRsub)
    (h_iMul : PySem.W.findIn K (.type "int") "__mul__" = some xiMul)
    (h_iRmul : PySem.W.findIn K (.type "int") "__rmul__" = some xiRmul) :
    ∃ a : Ad, Txt K mg a :=
  ⟨{ C_Ratio := C_Ratio, f_is_whole := f_is_whole, d_is_whole := PySem.W.fnOf "is_whole" "is_whole" (defArgs s_is_whole) (defBody s_is_whole) (defScope s_is_whole) .none kV_is_whole dc_is_whole pm_is_whole an_is_whole cd_is_whole ct_is_whole, f_Ratio_init := f_Ratio_init, d_Ratio_init := PySem.W.fnOf "__init__" "Ratio.__init__" (defArgs s_Ratio_init) (defBody s_Ratio_init) (defScope s_Ratio_init) (.ref T_Ratio_init) kV_Ratio_init dc_Ratio_init pm_Ratio_init an_Ratio_init cd_Ratio_init ct_Ratio_init, f_Ratio_eq := f_Ratio_eq, d_Ratio_eq := PySem.W.fnOf "__eq__" "Ratio.__eq__" (defArgs s_Ratio_eq) (defBody s_Ratio_eq) (defScope s_Ratio_eq) .none kV_Ratio_eq dc_Ratio_eq pm_Ratio_eq an_Ratio_eq cd_Ratio_eq ct_Ratio_eq, f_Ratio_neg := f_Ratio_neg, d_Ratio_neg := PySem.W.fnOf "__neg__" "Ratio.__neg__" (defArgs s_Ratio_neg) (defBody s_Ratio_neg) (defScope s_Ratio_neg) .none kV_Ratio_neg dc_Ratio_neg pm_Ratio_neg an_Ratio_neg cd_Ratio_neg ct_Ratio_neg, f_Ratio_add := f_Ratio_add, d_Ratio_add := PySem.W.fnOf "__add__" "Ratio.__add__" (defArgs s_Ratio_add) (defBody s_Ratio_add) (defScope s_Ratio_add) .none kV_Ratio_add dc_Ratio_add pm_Ratio_add an_Ratio_add cd_Ratio_add ct_Ratio_add, f_Ratio_radd := f_Ratio_radd, d_Ratio_radd := PySem.W.fnOf "__radd__" "Ratio.__radd__" (defArgs s_Ratio_radd) (defBody s_Ratio_radd) (defScope s_Ratio_radd) .none kV_Ratio_radd dc_Ratio_radd pm_Ratio_radd an_Ratio_radd cd_Ratio_radd ct_Ratio_radd, f_Ratio_sub := f_Ratio_sub, d_Ratio_sub := PySem.W.fnOf "__sub__" "Ratio.__sub__" (defArgs s_Ratio_sub) (defBody s_Ratio_sub) (defScope s_Ratio_sub) .none kV_Ratio_sub dc_Ratio_sub pm_Ratio_sub an_Ratio_sub cd_Ratio_sub ct_Ratio_sub, f_Ratio_rsub := f_Ratio_rsub, d_Ratio_rsub := PySem.W.fnOf "__rsub__" "Ratio.__rsub__" (defArgs s_Ratio_rsub) (defBody s_Ratio_rsub) (defScope s_Ratio_rsub) .none kV_Ratio_rsub dc_Ratio_rsub pm_Ratio_rsub an_Ratio_rsub cd_Ratio_rsub ct_Ratio_rsub, f_Ratio_mul := f_Ratio_mul, d_Ratio_mul := PySem.W.fnOf "__mul__" "Ratio.__mul__" (defArgs s_Ratio_mul) (defBody s_Ratio_mul) (defScope s_Ratio_mul) .none kV_Ratio_mul dc_Ratio_mul pm_Ratio_mul an_Ratio_mul cd_Ratio_mul ct_Ratio_mul, f_Ratio_rmul := f_Ratio_rmul, d_Ratio_rmul := PySem.W.fnOf "__rmul__" "Ratio.__rmul__" (defArgs s_Ratio_rmul) (defBody s_Ratio_rmul) (defScope s_Ratio_rmul) .none kV_Ratio_rmul dc_Ratio_rmul pm_Ratio_rmul an_Ratio_rmul cd_Ratio_rmul ct_Ratio_rmul, f_Ratio_compared := f_Ratio_compared, d_Ratio_compared := PySem.W.fnOf "compared" "Ratio.compared" (defArgs s_Ratio_compared) (defBody s_Ratio_compared) (defScope s_Ratio_compared) .none kV_Ratio_compared dc_Ratio_compared pm_Ratio_compared an_Ratio_compared cd_Ratio_compared ct_Ratio_compared, f_Ratio_over := f_Ratio_over, d_Ratio_over := PySem.W.fnOf "over" "Ratio.over" (defArgs s_Ratio_over) (defBody s_Ratio_over) (defScope s_Ratio_over) .none kV_Ratio_over dc_Ratio_over pm_Ratio_over an_Ratio_over cd_Ratio_over ct_Ratio_over, f_is_fraction := f_is_fraction, d_is_fraction := PySem.W.fnOf "is_fraction" "is_fraction" (defArgs s_is_fraction) (defBody s_is_fraction) (defScope s_is_fraction) .none kV_is_fraction dc_is_fraction pm_is_fraction an_is_fraction cd_is_fraction ct_is_fraction, f_as_ratio := f_as_ratio, d_as_ratio := PySem.W.fnOf "as_ratio" "as_ratio" (defArgs s_as_ratio) (defBody s_as_ratio) (defScope s_as_ratio) .none kV_as_ratio dc_as_ratio pm_as_ratio an_as_ratio cd_as_ratio ct_as_ratio, f_bag := f_bag, d_bag := PySem.W.fnOf "_law_bag" "_law_bag" (defArgs s_bag) (defBody s_bag) (defScope s_bag) .none kV_bag dc_bag pm_bag an_bag cd_bag ct_bag, f_draw := f_draw, d_draw := PySem.W.fnOf "_law_draw" "_law_draw" (defArgs s_draw) (defBody s_draw) (defScope s_draw) .none kV_draw dc_draw pm_draw an_draw cd_draw ct_draw, f_one := f_one, d_one := PySem.W.fnOf "_law_one" "_law_one" (defArgs s_one) (defBody s_one) (defScope s_one) .none kV_one dc_one pm_one an_one cd_one ct_one, f_lowest := f_lowest, d_lowest := PySem.W.fnOf "_law_lowest" "_law_lowest" (defArgs s_lowest) (defBody s_lowest) (defScope s_lowest) .none kV_lowest dc_lowest pm_lowest an_lowest cd_lowest ct_lowest, f_pair := f_pair, d_pair := PySem.W.fnOf "_law_pair" "_law_pair" (defArgs s_pair) (defBody s_pair) (defScope s_pair) .none kV_pair dc_pair pm_pair an_pair cd_pair ct_pair, f_parts := f_parts, d_parts := PySem.W.fnOf "_law_parts" "_law_parts" (defArgs s_parts) (defBody s_parts) (defScope s_parts) .none kV_parts dc_parts pm_parts an_parts cd_parts ct_parts, f_pair_right := f_pair_right, d_pair_right := PySem.W.fnOf "_law_pair_right" "_law_pair_right" (defArgs s_pair_right) (defBody s_pair_right) (defScope s_pair_right) .none kV_pair_right dc_pair_right pm_pair_right an_pair_right cd_pair_right ct_pair_right, f_whole_right := f_whole_right, d_whole_right := PySem.W.fnOf "_law_whole_right" "_law_whole_right" (defArgs s_whole_right) (defBody s_whole_right) (defScope s_whole_right) .none kV_whole_right dc_whole_right pm_whole_right an_whole_right cd_whole_right ct_whole_right, f_right := f_right, d_right := PySem.W.fnOf "_law_right" "_law_right" (defArgs s_right) (defBody s_right) (defScope s_right) .none kV_right dc_right pm_right an_right cd_right ct_right, f_law := f_law, d_law := PySem.W.fnOf "law" "law" (defArgs s_law) (defBody s_law) (defScope s_law) .none kV_law dc_law pm_law an_law cd_law ct_law : Ad }, {
    F_is_whole := fun_mk (st := s_is_whole) l_is_whole c_is_whole k_is_whole,
    b_is_whole := (fun_mk (st := s_is_whole) l_is_whole c_is_whole k_is_whole).binds (ps := ["value"]) fun _ _ _ _ _ _ us hl => match us, hl with | [_], _ => rfl,
    m_is_whole := PySem.W.mg_of X G a_is_whole,
    F_Ratio_init := ⟨⟨_, _, _, _, _, _, _, _, _, _, rfl, l_Ratio_init, c_Ratio_init, .inr ⟨(fun h => nomatch h), _, _, [.int 1 tk0], _, rfl, t_Ratio_init, rfl, .cons ⟨_, rfl⟩ (.nil)⟩, .inl rfl⟩, k_Ratio_init⟩,
    me_Ratio_init := ⟨a_Ratio_init, i_Ratio_init, k_Ratio_init⟩,
    F_Ratio_eq := fun_mk (st := s_Ratio_eq) l_Ratio_eq c_Ratio_eq k_Ratio_eq,
    b_Ratio_eq := (fun_mk (st := s_Ratio_eq) l_Ratio_eq c_Ratio_eq k_Ratio_eq).binds (ps := ["self", "other"]) fun _ _ _ _ _ _ us hl => match us, hl with | [_, _], _ => rfl,
    me_Ratio_eq := ⟨a_Ratio_eq, i_Ratio_eq, k_Ratio_eq⟩,
    F_Ratio_neg := fun_mk (st := s_Ratio_neg) l_Ratio_neg c_Ratio_neg k_Ratio_neg,
    b_Ratio_neg := (fun_mk (st := s_Ratio_neg) l_Ratio_neg c_Ratio_neg k_Ratio_neg).binds (ps := ["self"]) fun _ _ _ _ _ _ us hl => match us, hl with | [_], _ => rfl,
    me_Ratio_neg := ⟨a_Ratio_neg, i_Ratio_neg, k_Ratio_neg⟩,
    F_Ratio_add := fun_mk (st := s_Ratio_add) l_Ratio_add c_Ratio_add k_Ratio_add,
    b_Ratio_add := (fun_mk (st := s_Ratio_add) l_Ratio_add c_Ratio_add k_Ratio_add).binds (ps := ["self", "other"]) fun _ _ _ _ _ _ us hl => match us, hl with | [_, _], _ => rfl,
    me_Ratio_add := ⟨a_Ratio_add, i_Ratio_add, k_Ratio_add⟩,
    F_Ratio_radd := fun_mk (st := s_Ratio_radd) l_Ratio_radd c_Ratio_radd k_Ratio_radd,
    b_Ratio_radd := (fun_mk (st := s_Ratio_radd) l_Ratio_radd c_Ratio_radd k_Ratio_radd).binds (ps := ["self", "other"]) fun _ _ _ _ _ _ us hl => match us, hl with | [_, _], _ => rfl,
    me_Ratio_radd := ⟨a_Ratio_radd, i_Ratio_radd, k_Ratio_radd⟩,
    F_Ratio_sub := fun_mk (st := s_Ratio_sub) l_Ratio_sub c_Ratio_sub k_Ratio_sub,
    b_Ratio_sub := (fun_mk (st := s_Ratio_sub) l_Ratio_sub c_Ratio_sub k_Ratio_sub).binds (ps := ["self", "other"]) fun _ _ _ _ _ _ us hl => match us, hl with | [_, _], _ => rfl,
    me_Ratio_sub := ⟨a_Ratio_sub, i_Ratio_sub, k_Ratio_sub⟩,
    F_Ratio_rsub := fun_mk (st := s_Ratio_rsub) l_Ratio_rsub c_Ratio_rsub k_Ratio_rsub,
    b_Ratio_rsub := (fun_mk (st := s_Ratio_rsub) l_Ratio_rsub c_Ratio_rsub k_Ratio_rsub).binds (ps := ["self", "other"]) fun _ _ _ _ _ _ us hl => match us, hl with | [_, _], _ => rfl,
    me_Ratio_rsub := ⟨a_Ratio_rsub, i_Ratio_rsub, k_Ratio_rsub⟩,
    F_Ratio_mul := fun_mk (st := s_Ratio_mul) l_Ratio_mul c_Ratio_mul k_Ratio_mul,
    b_Ratio_mul := (fun_mk (st := s_Ratio_mul) l_Ratio_mul c_Ratio_mul k_Ratio_mul).binds (ps := ["self", "other"]) fun _ _ _ _ _ _ us hl => match us, hl with | [_, _], _ => rfl,
    me_Ratio_mul := ⟨a_Ratio_mul, i_Ratio_mul, k_Ratio_mul⟩,
    F_Ratio_rmul := fun_mk (st := s_Ratio_rmul) l_Ratio_rmul c_Ratio_rmul k_Ratio_rmul,
    b_Ratio_rmul := (fun_mk (st := s_Ratio_rmul) l_Ratio_rmul c_Ratio_rmul k_Ratio_rmul).binds (ps := ["self", "other"]) fun _ _ _ _ _ _ us hl => match us, hl with | [_, _], _ => rfl,
    me_Ratio_rmul := ⟨a_Ratio_rmul, i_Ratio_rmul, k_Ratio_rmul⟩,
    F_Ratio_compared := fun_mk (st := s_Ratio_compared) l_Ratio_compared c_Ratio_compared k_Ratio_compared,
    b_Ratio_compared := (fun_mk (st := s_Ratio_compared) l_Ratio_compared c_Ratio_compared k_Ratio_compared).binds (ps := ["self", "other"]) fun _ _ _ _ _ _ us hl => match us, hl with | [_, _], _ => rfl,
    me_Ratio_compared := ⟨a_Ratio_compared, i_Ratio_compared, k_Ratio_compared⟩,
    F_Ratio_over := fun_mk (st := s_Ratio_over) l_Ratio_over c_Ratio_over k_Ratio_over,
    b_Ratio_over := (fun_mk (st := s_Ratio_over) l_Ratio_over c_Ratio_over k_Ratio_over).binds (ps := ["self", "other"]) fun _ _ _ _ _ _ us hl => match us, hl with | [_, _], _ => rfl,
    me_Ratio_over := ⟨a_Ratio_over, i_Ratio_over, k_Ratio_over⟩,
    F_is_fraction := fun_mk (st := s_is_fraction) l_is_fraction c_is_fraction k_is_fraction,
    b_is_fraction := (fun_mk (st := s_is_fraction) l_is_fraction c_is_fraction k_is_fraction).binds (ps := ["value"]) fun _ _ _ _ _ _ us hl => match us, hl with | [_], _ => rfl,
    m_is_fraction := PySem.W.mg_of X G a_is_fraction,
    F_as_ratio := fun_mk (st := s_as_ratio) l_as_ratio c_as_ratio k_as_ratio,
    b_as_ratio := (fun_mk (st := s_as_ratio) l_as_ratio c_as_ratio k_as_ratio).binds (ps := ["fraction"]) fun _ _ _ _ _ _ us hl => match us, hl with | [_], _ => rfl,
    m_as_ratio := PySem.W.mg_of X G a_as_ratio,
    F_bag := fun_mk (st := s_bag) l_bag c_bag k_bag,
    b_bag := (fun_mk (st := s_bag) l_bag c_bag k_bag).binds (ps := ["_law_cells", "_law_k"]) fun _ _ _ _ _ _ us hl => match us, hl with | [_, _], _ => rfl,
    m_bag := PySem.W.mg_of X G a_bag,
    F_draw := fun_mk (st := s_draw) l_draw c_draw k_draw,
    b_draw := (fun_mk (st := s_draw) l_draw c_draw k_draw).binds (ps := ["_law_bag_here", "_law_wide"]) fun _ _ _ _ _ _ us hl => match us, hl with | [_, _], _ => rfl,
    m_draw := PySem.W.mg_of X G a_draw,
    F_one := fun_mk (st := s_one) l_one c_one k_one,
    b_one := (fun_mk (st := s_one) l_one c_one k_one).binds (ps := ["_law_bag_here", "_law_some"]) fun _ _ _ _ _ _ us hl => match us, hl with | [_, _], _ => rfl,
    m_one := PySem.W.mg_of X G a_one,
    F_lowest := fun_mk (st := s_lowest) l_lowest c_lowest k_lowest,
    b_lowest := (fun_mk (st := s_lowest) l_lowest c_lowest k_lowest).binds (ps := ["_law_upper", "_law_lower"]) fun _ _ _ _ _ _ us hl => match us, hl with | [_, _], _ => rfl,
    m_lowest := PySem.W.mg_of X G a_lowest,
    F_pair := fun_mk (st := s_pair) l_pair c_pair k_pair,
    b_pair := (fun_mk (st := s_pair) l_pair c_pair k_pair).binds (ps := ["_law_bag_here"]) fun _ _ _ _ _ _ us hl => match us, hl with | [_], _ => rfl,
    m_pair := PySem.W.mg_of X G a_pair,
    F_parts := fun_mk (st := s_parts) l_parts c_parts k_parts,
    b_parts := (fun_mk (st := s_parts) l_parts c_parts k_parts).binds (ps := ["_law_made"]) fun _ _ _ _ _ _ us hl => match us, hl with | [_], _ => rfl,
    m_parts := PySem.W.mg_of X G a_parts,
    F_pair_right := fun_mk (st := s_pair_right) l_pair_right c_pair_right k_pair_right,
    b_pair_right := (fun_mk (st := s_pair_right) l_pair_right c_pair_right k_pair_right).binds (ps := ["_law_one_here", "_law_two"]) fun _ _ _ _ _ _ us hl => match us, hl with | [_, _], _ => rfl,
    m_pair_right := PySem.W.mg_of X G a_pair_right,
    F_whole_right := fun_mk (st := s_whole_right) l_whole_right c_whole_right k_whole_right,
    b_whole_right := (fun_mk (st := s_whole_right) l_whole_right c_whole_right k_whole_right).binds (ps := ["_law_one_here", "_law_many"]) fun _ _ _ _ _ _ us hl => match us, hl with | [_, _], _ => rfl,
    m_whole_right := PySem.W.mg_of X G a_whole_right,
    F_right := fun_mk (st := s_right) l_right c_right k_right,
    b_right := (fun_mk (st := s_right) l_right c_right k_right).binds (ps := ["_law_bag_here"]) fun _ _ _ _ _ _ us hl => match us, hl with | [_], _ => rfl,
    m_right := PySem.W.mg_of X G a_right,
    F_law := fun_mk (st := s_law) l_law c_law k_law,
    b_law := (fun_mk (st := s_law) l_law c_law k_law).binds (ps := ["_law_cells"]) fun _ _ _ _ _ _ us hl => match us, hl with | [_], _ => rfl,
    m_law := PySem.W.mg_of X G a_law,
    cl_Ratio := ⟨pg_Ratio, hd_Ratio, po_Ratio, sa_Ratio⟩,
    m_Ratio := PySem.W.mg_of X G aC_Ratio,
    mk_Ratio := ⟨mk_Ratio, a_Ratio_init, i_Ratio_init, kc_Ratio⟩,
    z_isinstance := PySem.W.mg_none_of X G z_isinstance,
    z_int := PySem.W.mg_none_of X G z_int,
    z_bool := PySem.W.mg_none_of X G z_bool,
    z_len := PySem.W.mg_none_of X G z_len,
    z_abs := PySem.W.mg_none_of X G z_abs,
    z_range := PySem.W.mg_none_of X G z_range,
    z_all := PySem.W.mg_none_of X G z_all,
    z_max := PySem.W.mg_none_of X G z_max,
    z_min := PySem.W.mg_none_of X G z_min,
    m_gcd := PySem.W.mg_of X G g_gcd,
    nT := h_nT,
    nB := h_nB,
    iA := h_iA,
    iN := h_iN,
    iT := h_iT,
    iM := h_iM,
    kRI := h_kRI,
    kRR := h_kRR,
    kIR := h_kIR,
    kBR := h_kBR,
    kTR := h_kTR,
    sf := h_sf,
    ne := h_ne,
    ob := h_ob,
    sRI := h_sRI,
    sIR := h_sIR,
    nfI := h_nfI,
    nfB := h_nfB,
    nfT := h_nfT,
    nfR := h_nfR,
    iAdd := ⟨_, h_iAdd⟩,
    iRadd := ⟨_, h_iRadd⟩,
    iSub := ⟨_, h_iSub⟩,
    iRsub := ⟨_, h_iRsub⟩,
    iMul := ⟨_, h_iMul⟩,
    iRmul := ⟨_, h_iRmul⟩ }⟩

end RK1

local macro_rules | `(tactic| walk_at "at") => `(tactic| first | assumption | exact L2.upd_same | ((refine RK.Same.at (by assumption) ?_); walk_at "at") | ((refine RK.SameT.tup (RK.Grown.same (by assumption)) ?_); walk_at "at"))
local macro_rules | `(tactic| walk_at "s") => `(tactic| first
  | with_reducible refine RK.w_seq ?_
  | with_reducible refine RK.w_asg ?_
  | with_reducible refine RK.w_gn ?_
  | with_reducible refine RK.w_if ?_
  | with_reducible refine RK.w_ret ?_
  | with_reducible refine RK.w_next ?_
  | with_reducible refine RK.w_drop ?_
  | with_reducible refine RK.w_par ?_
  | with_reducible refine RK.w_two ?_
  | with_reducible refine RK.w_test ?_
  | with_reducible refine RK.w_tB ?_
  | with_reducible refine RK.w_bl ?_
  | with_reducible refine RK.w_not ?_
  | with_reducible refine RK.w_and ?_
  | with_reducible refine RK.w_or ?_
  | ((with_reducible refine' RK.w_var ?hv ?_); (case hv => exact rfl))
  | with_reducible refine RK.w_c ?_
  | with_reducible refine RK.w_op ?_
  | with_reducible refine RK.w_un ?_
  | with_reducible refine RK.w_I0 ?_
  | with_reducible refine RK.w_U ?_
  | with_reducible refine RK.w_nil ?_
  | with_reducible refine RK.w_cons ?_
  | with_reducible refine RK.w_andV ?_
  | with_reducible refine RK.w_orV ?_
  | with_reducible refine RK.w_notV ?_
  | with_reducible refine RK.w_CB ?_
  | with_reducible refine RK.w_call ?_
  | with_reducible refine RK.w_tup ?_
  | with_reducible refine RK.w_lst ?_
  | with_reducible refine RK.w_sub ?_
  | with_reducible refine RK.w_sfld ?_
  | with_reducible refine RK.w_meth ?_
  | with_reducible refine RK.w_methK ?_
  | with_reducible refine RK.w_make ?_
  | with_reducible refine RK.w_makeK ?_
  | with_reducible refine RK.w_BM ?_
  | with_reducible refine RK.w_sl ?_
  | with_reducible refine RK.w_po ?_
  | with_reducible refine RK.w_pt ?_
  | with_reducible refine RK.w_in ?_
  | with_reducible refine RK.w_fld ?_
  | with_reducible refine RK.w_lcL ?_
  | with_reducible refine RK.w_forL ?_
  | with_reducible refine RK.w_retN ?_
  | with_reducible refine RK.w_yes ?_
  | with_reducible refine RK.w_int ?_
  | with_reducible refine RK.w_intB ?_
  | with_reducible refine RK.w_abs ?_
  | with_reducible refine RK.w_max ?_
  | with_reducible refine RK.w_min ?_
  | with_reducible refine RK.w_gcd ?_
  | ((with_reducible refine RK.w_I ?hc ?_); (case hc => first | assumption | (show _ < _; omega) | exact RK.Sz.ok (by assumption) (by assumption) | exact RK.Sz.div (by assumption) (by assumption) | (show _ ∧ _; omega) | (show _ ∨ _; omega) | exact ⟨by decide, by decide, by decide⟩))
  | ((with_reducible refine' RK.w_ixL ?hh ?hi ?_); (case hh => walk_at "at"); (case hi => exact rfl))
  | ((with_reducible refine' RK.w_ixT ?hh ?hi ?_); (case hh => walk_at "at"); (case hi => exact rfl))
  | ((with_reducible refine' RK.w_setL ?hh ?hi ?_); (case hh => walk_at "at"); (case hi => exact rfl))
  | ((with_reducible refine RK.w_eq ?hh ?_); (case hh => exact rfl))
  | ((with_reducible refine RK.w_ne ?hh ?_); (case hh => exact rfl)))
local macro_rules | `(tactic| walk_at "r") => `(tactic| repeat walk_at "s")

namespace RK1
open PySem PySem.Spec L2 RK
/-! ### values -/
def rfs (t b : Int) : List (Str × V) := [(("top" : Str), .int t), (("bottom" : Str), .int b)]
theorem rfs_top (t b : Int) : (rfs t b).lookup ("top" : Str) = some (.int t) := by simp [rfs, List.lookup]
theorem rfs_bot (t b : Int) : (rfs t b).lookup ("bottom" : Str) = some (.int b) := by
  have h : (("bottom" : Str) == ("top" : Str)) = false := by decide +kernel
  simp [rfs, List.lookup, h]
theorem rfs_no (t b : Int) {m : Str} (h1 : (m == ("top" : Str)) = false) (h2 : (m == ("bottom" : Str)) = false) : (rfs t b).lookup m = none := by simp [rfs, List.lookup, h1, h2]
theorem rfs_put (t b : Int) : putF "bottom" (.int b) (putF "top" (.int t) []) = rfs t b := by
  have k : ¬ (("top" : Str) = "bottom") := by decide +kernel
  show (if ("top" : Str) = "bottom" then [(("top" : Str), V.int b)] else (("top" : Str), V.int t) :: putF "bottom" (V.int b) []) = rfs t b
  rw [if_neg k]
  all_goals rfl
/-- a Ratio stands at p: t / b in lowest terms -/
structure Rat (C : Addr) (H : Hp) (p : Addr) (t b : Int) : Prop where
  ob : ∃ dx, H p = some (.ins C dx (rfs t b))
  pos : 0 < b
  cop : Int.gcd t b = 1
theorem Rat.same {C : Addr} {H H' : Hp} {p : Addr} {t b : Int} (r : Rat C H p t b) (e : Same H H') : Rat C H' p t b := let ⟨dx, h⟩ := r.ob; ⟨⟨dx, e _ _ h⟩, r.pos, r.cop⟩
theorem Rat.sameT {C : Addr} {H H' : Hp} {p : Addr} {t b : Int} (r : Rat C H p t b) (e : SameT H H') : Rat C H' p t b := let ⟨dx, h⟩ := r.ob; ⟨⟨dx, e.ins h⟩, r.pos, r.cop⟩
theorem Rat.kp {C : Addr} {H H' : Hp} {p bg : Addr} {t b : Int} (r : Rat C H p t b) (e : Kp bg H H') : Rat C H' p t b := let ⟨dx, h⟩ := r.ob; ⟨⟨dx, e.ins h⟩, r.pos, r.cop⟩
/-- a fraction: an int, or a Ratio -/
def Frn (C : Addr) (H : Hp) (x : V) (t b : Int) : Prop := (x = .int t ∧ b = 1) ∨ ∃ p, x = .ref p ∧ Rat C H p t b
theorem Frn.pos {C : Addr} {H : Hp} {x : V} {t b : Int} (f : Frn C H x t b) : 0 < b := by
  rcases f with ⟨_, e⟩ | ⟨p, _, r⟩
  · omega
  · exact r.pos
theorem Frn.cop {C : Addr} {H : Hp} {x : V} {t b : Int} (f : Frn C H x t b) : Int.gcd t b = 1 := by
  rcases f with ⟨_, e⟩ | ⟨p, _, r⟩
  · rw [e]; exact Int.gcd_one_right ..
  · exact r.cop
section
variable {P : Program} {w : World} {K : PySem.W.Frag} {mg : Str → Option Value} {base : Heap} {a : Ad}
theorem ins_ty (T : Txt K mg a) {H : Hp} {p : Addr} {t b : Int} (r : Rat a.C_Ratio H p t b) : TyX K H (.ref p) (.ref a.C_Ratio) := by
  obtain ⟨dx, h⟩ := r.ob
  exact .base (.ins h T.cl_Ratio T.iA T.iN T.iT T.iM)
/-- what is neither an int nor a Ratio -/
def NotFr (K : PySem.W.Frag) (C : Addr) (H : Hp) (x : V) : Prop := ∃ t b1 b2, TyX K H x t ∧ PySem.W.kitOne K t (.ref C) = some false ∧ PySem.W.kitOne K t (.type "int") = some b1 ∧ PySem.W.kitOne K t (.type "bool") = some b2 ∧ (b1 && !b2) = false
def spWhole (K : PySem.W.Frag) : Sp := fun vs H Q _ => ∃ x t b1 b2, vs = [x] ∧ TyX K H x t ∧ PySem.W.kitOne K t (.type "int") = some b1 ∧ PySem.W.kitOne K t (.type "bool") = some b2 ∧ Q (.bl (b1 && !b2)) H
theorem ok_is_whole (T : Txt K mg a) : FnOk P w K mg base CX0 1 a.f_is_whole a.d_is_whole ["value"] (spWhole K) := by
  refine T.F_is_whole.ok sc_is_whole (fun vs H Q E h => ?_) (fun cdv A outer s H vs Q E hr h => ?_)
  · obtain ⟨x, t, b1, b2, rfl, _⟩ := h
    rfl
  · obtain ⟨x, t, b1, b2, rfl, ty, h1, h2, k⟩ := h
    refine ⟨_, (pss_one (ps_ret (pe_and (pe_callB call_isi (by rfl) T.z_isinstance (by decide +kernel) (pa_cons (pv 0) (pa_cons (pe_bltn (v := .ty "int") (by rfl) T.z_int (by decide +kernel) rfl) pa_nil))) (pe_one (pe_not (pe_callB call_isi (by rfl) T.z_isinstance (by decide +kernel) (pa_cons (pv 0) (pa_cons (pe_bltn (v := .ty "bool") (by rfl) T.z_bool (by decide +kernel) rfl) pa_nil)))))))), ?_⟩
    walk_at "r"
    refine ⟨x, .ty "int", t, .type "int", b1, rfl, .ty _, ty, h1, b1, rfl, ?_⟩
    cases b1 with
    | false => exact iteF k
    | true =>
      refine iteT ?_
      walk_at "r"
      exact ⟨x, .ty "bool", t, .type "bool", b2, rfl, .ty _, ty, h2, b2, rfl, by simpa using k⟩
theorem whole_int {K : PySem.W.Frag} {H : Hp} {Q : VK} {E : XK} {i : Int} (q : Q (.bl true) H) : spWhole K [.int i] H Q E :=
  ⟨.int i, .type "int", true, false, rfl, .base (.int i), kit_ty (by decide +kernel), kit_ty (by decide +kernel), q⟩
/-! ### making -/
def spInit (C : Addr) : Sp := fun vs H Q _ => ∃ (p dx : Addr) (t b : Int), vs = [.ref p, .int t, .int b] ∧ H p = some (.ins C dx []) ∧ 0 < b ∧ Sz 8000 b ∧
  ∀ H' x y, H' p = some (.ins C dx (rfs x y)) → (∀ c o, c ≠ p → H c = some o → H' c = some o) → Nrm t b x y → Q .non H'
theorem ok_Ratio_init (T : Txt K mg a) : FnOk P w K mg base CX0 2 a.f_Ratio_init a.d_Ratio_init ["self", "top", "bottom"] (spInit a.C_Ratio) := by
  refine T.F_Ratio_init.ok sc_Ratio_init (fun vs H Q E h => ?_) (fun cdv A outer s H vs Q E hr h => ?_)
  · obtain ⟨p, dx, t, b, rfl, _⟩ := h
    rfl
  · obtain ⟨p, dx, t, b, rfl, hp, h0, hz, k⟩ := h
    refine ⟨_, PSs.nox ((pss_cons (ps_if (pt_not (pt_val (pe_call (ok_is_whole T) (hr.mono (by decide)) (by rfl) T.m_is_whole T.F_is_whole.kp T.b_is_whole .nil pass0 (pa_cons (pv 1) pa_nil)))) (pss_one ps_never) pss_nil)
      (pss_cons (ps_if (PW.pt (pw_or (pt_not (pt_val (pe_call (ok_is_whole T) (hr.mono (by decide)) (by rfl) T.m_is_whole T.F_is_whole.kp T.b_is_whole .nil pass0 (pa_cons (pv 2) pa_nil)))) (pw_or1 (pt_cmpR op_lt (pv 2) pe_int (nomark _))))) (pss_one ps_never) pss_nil)
      (pss_cons (ps_set (i := 3) sc_Ratio_init.nd rfl (Or.inl rfl) (pe_callBfun cr_gcd rfl T.m_gcd (pa_cons (pv 1) (pa_cons (pv 2) pa_nil))))
      (pss_cons (ps_fld (pv 0) (pe_op op_fdivW (pv 1) (pv 3)) rfl)
      (pss_one (ps_fld (pv 0) (pe_op op_fdivW (pv 2) (pv 3)) rfl))))))), ?_⟩
    have hN := nrm_div (u := t) h0
    have g0 : 0 < Int.gcd t b := Int.gcd_pos_of_ne_zero_right t (by omega)
    have gle : (Int.gcd t b : Int) ≤ b := Int.le_of_dvd h0 (Int.gcd_dvd_right ..)
    have gz : CDivW 0 (Int.gcd t b : Int) := wide_div (by omega) (wide_le (by omega) gle hz) (by decide) (by decide)
    walk_at "r"
    refine whole_int ?_
    walk_at "r"
    refine iteF ?_
    walk_at "r"
    refine whole_int ?_
    walk_at "r"
    refine iteF ?_
    walk_at "r"
    rw [decide_eq_false (by omega)]
    refine iteF ?_
    walk_at "r"
    refine ⟨p, _, dx, _, rfl, hp, T.cl_Ratio, T.nT, by decide, ?_⟩
    walk_at "r"
    refine ⟨p, _, dx, _, rfl, upd_same, T.cl_Ratio, T.nB, by show 1 < 1000; decide, ?_⟩
    rw [upd_upd]
    exact k _ (t / (Int.gcd t b : Int)) (b / (Int.gcd t b : Int)) (Eq.trans upd_same (congrArg (fun l => some (HO.ins a.C_Ratio dx l)) (rfs_put _ _))) (fun c o hc e => by rw [upd_ne hc]; exact e) hN
theorem bd_Ratio (T : Txt K mg a) : L2.Binds K a.d_Ratio_init ["self", "top", "bottom"] [] := by
  obtain ⟨ds, v, b⟩ := T.F_Ratio_init.binds1 (ps := ["self", "top", "bottom"]) 3 1 (by simp) rfl (fun _ _ _ _ _ _ _ us its h1 h2 => match us, its, h1, h2 with | [_, _, _], [_], _, _ => ⟨_, rfl, rfl⟩)
  cases v
  exact b
theorem bd1_Ratio (T : Txt K mg a) : ∃ ds, L2.Vals [.int 1] ds ∧ L2.Binds K a.d_Ratio_init ["self", "top", "bottom"] ds :=
  T.F_Ratio_init.binds1 (ps := ["self", "top", "bottom"]) 2 0 (by simp) rfl (fun _ _ _ _ _ _ _ us its h1 h2 => match us, its, h1, h2 with | [_, _], [_], _, _ => ⟨_, rfl, rfl⟩)
theorem mk_leaf {C : Addr} {H : Hp} {Q : VK} {t b : Int} (h0 : 0 < b) (hz : Sz 8000 b) (k : ∀ p H' x y, H p = none → Same H H' → Rat C H' p x y → Nrm t b x y → Q (.ref p) H') : MkL C (spInit C) E0 [.int t, .int b] H Q := by
  intro p dx hp hdx hne
  refine ⟨p, dx, t, b, rfl, upd_same, h0, hz, fun H' x y e kp n => ⟨rfl, ?_⟩⟩
  refine k p H' x y hp (fun c o q => kp c o (ne_of_none q hp) ?_) ⟨⟨dx, e⟩, n.pos, n.cop⟩ n
  rw [upd_ne (ne_of_none q hp), upd_ne (ne_of_none q hdx)]
  exact q
theorem mk1_leaf {C : Addr} {H : Hp} {Q : VK} {t : Int} (k : ∀ p H', H p = none → Same H H' → Rat C H' p t 1 → Q (.ref p) H') : MkL C (spInit C) E0 [.int t, .int 1] H Q :=
  mk_leaf (by decide) Sz.one fun p H' x y hp e r n => by
    have z := n.uniq (u' := t) (l' := 1) (x' := t) (y' := 1) ⟨by decide, Int.gcd_one_right .., rfl⟩ (by decide) (by decide) rfl
    obtain ⟨rfl, rfl⟩ := z
    exact k p H' hp e r
/-! ### what is a fraction -/
def spFrac (K : PySem.W.Frag) (C : Addr) : Sp := fun vs H Q _ => ∃ x, vs = [x] ∧ ((∃ t b, Frn C H x t b ∧ Q (.bl true) H) ∨ (NotFr K C H x ∧ Q (.bl false) H))
theorem ok_is_fraction (T : Txt K mg a) : FnOk P w K mg base CX0 3 a.f_is_fraction a.d_is_fraction ["value"] (spFrac K a.C_Ratio) := by
  refine T.F_is_fraction.ok sc_is_fraction (fun vs H Q E h => ?_) (fun cdv A outer s H vs Q E hr h => ?_)
  · obtain ⟨x, rfl, _⟩ := h
    rfl
  · obtain ⟨x, rfl, h⟩ := h
    refine ⟨_, (pss_one (ps_ret (pe_or (pe_callB call_isi (by rfl) T.z_isinstance (by decide +kernel) (pa_cons (pv 0) (pa_cons (pe_glob (v := .ref a.C_Ratio) rfl T.m_Ratio rfl) pa_nil))) (pe_one (pe_call (ok_is_whole T) (hr.mono (by decide)) (by rfl) T.m_is_whole T.F_is_whole.kp T.b_is_whole .nil pass0 (pa_cons (pv 0) pa_nil)))))), ?_⟩
    walk_at "r"
    rcases h with ⟨t, b, f, k⟩ | ⟨⟨t, b1, b2, ty, h1, h2, h3, h4⟩, k⟩
    · rcases f with ⟨rfl, _⟩ | ⟨p, rfl, r⟩
      · refine ⟨_, .ref a.C_Ratio, .type "int", .ref a.C_Ratio, false, rfl, .own _, .base (.int t), T.kIR, false, rfl, ?_⟩
        refine iteF ?_
        walk_at "r"
        exact whole_int k
      · exact ⟨_, .ref a.C_Ratio, .ref a.C_Ratio, .ref a.C_Ratio, true, rfl, .own _, ins_ty T r, T.kRR, true, rfl, iteT k⟩
    · refine ⟨_, .ref a.C_Ratio, t, .ref a.C_Ratio, false, rfl, .own _, ty, h1, false, rfl, ?_⟩
      refine iteF ?_
      walk_at "r"
      exact ⟨x, t, b1, b2, rfl, ty, h2, h3, by rw [h4]; exact k⟩
/-- the Ratio of a fraction -/
def spAs (C : Addr) : Sp := fun vs H Q _ => ∃ x t b, vs = [x] ∧ Frn C H x t b ∧ ∀ p H', Same H H' → Rat C H' p t b → Q (.ref p) H'
theorem ok_as_ratio (T : Txt K mg a) : FnOk P w K mg base CX0 4 a.f_as_ratio a.d_as_ratio ["fraction"] (spAs a.C_Ratio) := by
  refine T.F_as_ratio.ok sc_as_ratio (fun vs H Q E h => ?_) (fun cdv A outer s H vs Q E hr h => ?_)
  · obtain ⟨x, t, b, rfl, _⟩ := h
    rfl
  · obtain ⟨x, t, b, rfl, f, k⟩ := h
    obtain ⟨ds, vd1, bd1⟩ := bd1_Ratio T
    refine ⟨_, (pss_cons (ps_if (pt_val (pe_callB call_isi (by rfl) T.z_isinstance (by decide +kernel) (pa_cons (pv 0) (pa_cons (pe_glob (v := .ref a.C_Ratio) rfl T.m_Ratio rfl) pa_nil)))) (pss_one (ps_ret (pv 0))) pss_nil)
      (pss_one (ps_ret (pe_make T.mk_Ratio (ok_Ratio_init T) (hr.mono (by decide)) (by rfl) T.m_Ratio bd1 vd1 pass0 (pa_cons (pv 0) pa_nil))))), ?_⟩
    walk_at "r"
    rcases f with ⟨rfl, rfl⟩ | ⟨p, rfl, r⟩
    · refine ⟨_, .ref a.C_Ratio, .type "int", .ref a.C_Ratio, false, rfl, .own _, .base (.int t), T.kIR, false, rfl, ?_⟩
      refine iteF ?_
      walk_at "r"
      exact mk1_leaf fun p H' _ e r => k p H' e r
    · refine ⟨_, .ref a.C_Ratio, .ref a.C_Ratio, .ref a.C_Ratio, true, rfl, .own _, ins_ty T r, T.kRR, true, rfl, iteT ?_⟩
      walk_at "r"
      exact k p H (w_same H) r
/-! ### the fields -/
theorem top_leaf (T : Txt K mg a) {H : Hp} {Q : VK} {p : Addr} {t b : Int} (r : Rat a.C_Ratio H p t b) (q : Q (.int t) H) : Fl K "top" (.ref p) H Q := by
  obtain ⟨dx, h⟩ := r.ob
  exact ⟨p, _, dx, _, _, rfl, h, T.cl_Ratio, T.nT, rfs_top _ _, q⟩
theorem bot_leaf (T : Txt K mg a) {H : Hp} {Q : VK} {p : Addr} {t b : Int} (r : Rat a.C_Ratio H p t b) (q : Q (.int b) H) : Fl K "bottom" (.ref p) H Q := by
  obtain ⟨dx, h⟩ := r.ob
  exact ⟨p, _, dx, _, _, rfl, h, T.cl_Ratio, T.nB, rfs_bot _ _, q⟩
theorem frac_leaf {K : PySem.W.Frag} {C : Addr} {H : Hp} {Q : VK} {E : XK} {x : V} {t b : Int} (f : Frn C H x t b) (q : Q (.bl true) H) : spFrac K C [x] H Q E := ⟨x, rfl, .inl ⟨t, b, f, q⟩⟩
theorem as_leaf {C : Addr} {H : Hp} {Q : VK} {E : XK} {x : V} {t b : Int} (f : Frn C H x t b) (q : ∀ p H', Same H H' → Rat C H' p t b → Q (.ref p) H') : spAs C [x] H Q E := ⟨x, t, b, rfl, f, q⟩
local macro_rules | `(tactic| walk_at "f") => `(tactic| first
  | ((refine' top_leaf (by assumption) ?hr ?_); (case hr => first | assumption | exact Rat.same (by assumption) (by assumption)); walk_at "r")
  | ((refine' bot_leaf (by assumption) ?hr ?_); (case hr => first | assumption | exact Rat.same (by assumption) (by assumption)); walk_at "r"))
/-! ### the operators -/
def spBin (C : Addr) (f g : Int → Int → Int → Int → Int) : Sp := fun vs H Q _ => ∃ p x t b t2 b2, vs = [.ref p, x] ∧ Rat C H p t b ∧ Frn C H x t2 b2 ∧ Sz 1000 t ∧ Sz 1000 b ∧ Sz 1000 t2 ∧ Sz 1000 b2 ∧
  ∀ q H' u l, Same H H' → Rat C H' q u l → Nrm (f t b t2 b2) (g t b t2 b2) u l → Q (.ref q) H'
abbrev spAdd (C : Addr) : Sp := spBin C (fun t b t2 b2 => t * b2 + t2 * b) fun _ b _ b2 => b * b2
theorem ok_Ratio_add (T : Txt K mg a) : FnOk P w K mg base CX0 5 a.f_Ratio_add a.d_Ratio_add ["self", "other"] (spAdd a.C_Ratio) := by
  refine T.F_Ratio_add.ok sc_Ratio_add (fun vs H Q E h => ?_) (fun cdv A outer s H vs Q E hr h => ?_)
  · obtain ⟨p, x, t, b, t2, b2, rfl, _⟩ := h
    rfl
  · obtain ⟨p, x, t, b, t2, b2, rfl, r, f, z1, z2, z3, z4, k⟩ := h
    refine ⟨_, (pss_cons (ps_if (pt_not (pt_val (pe_call (ok_is_fraction T) (hr.mono (by decide)) (by rfl) T.m_is_fraction T.F_is_fraction.kp T.b_is_fraction .nil pass0 (pa_cons (pv 1) pa_nil)))) (pss_one ps_never) pss_nil)
      (pss_cons (ps_set (i := 2) sc_Ratio_add.nd rfl (Or.inl rfl) (pe_call (ok_as_ratio T) (hr.mono (by decide)) (by rfl) T.m_as_ratio T.F_as_ratio.kp T.b_as_ratio .nil pass0 (pa_cons (pv 1) pa_nil)))
      (pss_one (ps_ret (pe_make T.mk_Ratio (ok_Ratio_init T) (hr.mono (by decide)) (by rfl) T.m_Ratio (bd_Ratio T) .nil pass0 (pa_cons (pe_op op_add (pe_op op_mulW (pe_fld (pv 0) rfl) (pe_fld (pv 2) rfl)) (pe_op op_mulW (pe_fld (pv 2) rfl) (pe_fld (pv 0) rfl))) (pa_cons (pe_op op_mulW (pe_fld (pv 0) rfl) (pe_fld (pv 2) rfl)) pa_nil))))))), ?_⟩
    walk_at "r"
    refine frac_leaf f ?_
    walk_at "r"
    refine iteF ?_
    walk_at "r"
    refine as_leaf f fun p2 H1 e1 r2 => ?_
    have r1 := r.same e1
    walk_at "r"
    repeat walk_at "f"
    exact mk_leaf (Int.mul_pos r.pos r2.pos) ((z2.mul z4).mono (by decide)) fun q H2 u l _ e2 r3 n => k q H2 u l (e1.trans e2) r3 n
section
variable {X : Cx}
theorem oAddqq (T : Txt X.K X.mg a) (hr : Room 5 X.A) : OpR X (binaryOp .Add) (rOwn2 a.C_Ratio (spAdd a.C_Ratio) E0) := op_own2 T.sf T.me_Ratio_add.at_ T.me_Ratio_add.fn (ok_Ratio_add T) hr T.b_Ratio_add pass0
end
theorem own2_leaf {C : Addr} {H : Hp} {Q : VK} {p q : Addr} {t b t2 b2 : Int} {f g : Int → Int → Int → Int → Int} (r : Rat C H p t b) (r2 : Rat C H q t2 b2) (z1 : Sz 1000 t) (z2 : Sz 1000 b) (z3 : Sz 1000 t2) (z4 : Sz 1000 b2)
    (k : ∀ q H' u l, Same H H' → Rat C H' q u l → Nrm (f t b t2 b2) (g t b t2 b2) u l → Q (.ref q) H') : rOwn2 C (spBin C f g) E0 (.ref p) (.ref q) H Q := by
  obtain ⟨dx, h1⟩ := r.ob
  obtain ⟨dy, h2⟩ := r2.ob
  exact ⟨p, q, dx, _, dy, _, rfl, rfl, h1, h2, p, .ref q, t, b, t2, b2, rfl, r, .inr ⟨q, rfl, r2⟩, z1, z2, z3, z4, k⟩
def spNeg (C : Addr) : Sp := fun vs H Q _ => ∃ p t b, vs = [.ref p] ∧ Rat C H p t b ∧ Sz 1000 b ∧ ∀ q H', Same H H' → Rat C H' q (-t) b → Q (.ref q) H'
theorem ok_Ratio_neg (T : Txt K mg a) : FnOk P w K mg base CX0 4 a.f_Ratio_neg a.d_Ratio_neg ["self"] (spNeg a.C_Ratio) := by
  refine T.F_Ratio_neg.ok sc_Ratio_neg (fun vs H Q E h => ?_) (fun cdv A outer s H vs Q E hr h => ?_)
  · obtain ⟨p, t, b, rfl, _⟩ := h
    rfl
  · obtain ⟨p, t, b, rfl, r, z, k⟩ := h
    refine ⟨_, (pss_one (ps_ret (pe_make T.mk_Ratio (ok_Ratio_init T) (hr.mono (by decide)) (by rfl) T.m_Ratio (bd_Ratio T) .nil pass0 (pa_cons (pe_un un_neg (pe_fld (pv 0) rfl)) (pa_cons (pe_fld (pv 0) rfl) pa_nil))))), ?_⟩
    walk_at "r"
    repeat walk_at "f"
    refine mk_leaf r.pos (z.mono (by decide)) fun q H2 u l _ e2 r3 n => ?_
    have m : Nrm (-t) b (-t) b := ⟨r.pos, by show Nat.gcd (-t).natAbs b.natAbs = 1; rw [Int.natAbs_neg]; exact r.cop, rfl⟩
    obtain ⟨rfl, rfl⟩ := n.uniq m (by have := r.pos; omega) (by have := r.pos; omega) rfl
    exact k q H2 e2 r3
theorem oNeg {X : Cx} (T : Txt X.K X.mg a) (hr : Room 4 X.A) : UnR X (unaryOp .USub) (rNegO a.C_Ratio (spNeg a.C_Ratio) E0) := un_negO T.me_Ratio_neg.at_ T.me_Ratio_neg.fn (ok_Ratio_neg T) hr T.b_Ratio_neg pass0
theorem neg_leaf {C : Addr} {H : Hp} {Q : VK} {p : Addr} {t b : Int} (r : Rat C H p t b) (z : Sz 1000 b) (k : ∀ q H', Same H H' → Rat C H' q (-t) b → Q (.ref q) H') : rNegO C (spNeg C) E0 (.ref p) H Q := by
  obtain ⟨dx, h1⟩ := r.ob
  exact ⟨p, dx, _, rfl, h1, p, t, b, rfl, r, z, k⟩
abbrev spMul (C : Addr) : Sp := spBin C (fun t b t2 b2 => t * t2) fun t b t2 b2 => b * b2
theorem ok_Ratio_mul (T : Txt K mg a) : FnOk P w K mg base CX0 5 a.f_Ratio_mul a.d_Ratio_mul ["self", "other"] (spMul a.C_Ratio) := by
  refine T.F_Ratio_mul.ok sc_Ratio_mul (fun vs H Q E h => ?_) (fun cdv A outer s H vs Q E hr h => ?_)
  · obtain ⟨p, x, t, b, t2, b2, rfl, _⟩ := h
    rfl
  · obtain ⟨p, x, t, b, t2, b2, rfl, r, f, z1, z2, z3, z4, k⟩ := h
    refine ⟨_, (pss_cons (ps_if (pt_not (pt_val (pe_call (ok_is_fraction T) (hr.mono (by decide)) (by rfl) T.m_is_fraction T.F_is_fraction.kp T.b_is_fraction .nil pass0 (pa_cons (pv 1) pa_nil)))) (pss_one ps_never) pss_nil)
      (pss_cons (ps_set (i := 2) sc_Ratio_mul.nd rfl (Or.inl rfl) (pe_call (ok_as_ratio T) (hr.mono (by decide)) (by rfl) T.m_as_ratio T.F_as_ratio.kp T.b_as_ratio .nil pass0 (pa_cons (pv 1) pa_nil)))
      (pss_one (ps_ret (pe_make T.mk_Ratio (ok_Ratio_init T) (hr.mono (by decide)) (by rfl) T.m_Ratio (bd_Ratio T) .nil pass0 (pa_cons (pe_op op_mulW (pe_fld (pv 0) rfl) (pe_fld (pv 2) rfl)) (pa_cons (pe_op op_mulW (pe_fld (pv 0) rfl) (pe_fld (pv 2) rfl)) pa_nil))))))), ?_⟩
    walk_at "r"
    refine frac_leaf f ?_
    walk_at "r"
    refine iteF ?_
    walk_at "r"
    refine as_leaf f fun p2 H1 e1 r2 => ?_
    have r1 := r.same e1
    walk_at "r"
    repeat walk_at "f"
    exact mk_leaf (Int.mul_pos r.pos r2.pos) ((z2.mul z4).mono (by decide)) fun q H2 u l _ e2 r3 n => k q H2 u l (e1.trans e2) r3 n
theorem oMultqq {X : Cx} (T : Txt X.K X.mg a) (hr : Room 5 X.A) : OpR X (binaryOp .Mult) (rOwn2 a.C_Ratio (spMul a.C_Ratio) E0) := op_own2 T.sf T.me_Ratio_mul.at_ T.me_Ratio_mul.fn (ok_Ratio_mul T) hr T.b_Ratio_mul pass0
abbrev spRadd (C : Addr) : Sp := spBin C (fun t b t2 b2 => t2 * b + t * b2) fun t b t2 b2 => b2 * b
theorem ok_Ratio_radd (T : Txt K mg a) : FnOk P w K mg base CX0 6 a.f_Ratio_radd a.d_Ratio_radd ["self", "other"] (spRadd a.C_Ratio) := by
  refine T.F_Ratio_radd.ok sc_Ratio_radd (fun vs H Q E h => ?_) (fun cdv A outer s H vs Q E hr h => ?_)
  · obtain ⟨p, x, t, b, t2, b2, rfl, _⟩ := h
    rfl
  · obtain ⟨p, x, t, b, t2, b2, rfl, r, f, z1, z2, z3, z4, k⟩ := h
    refine ⟨_, (pss_cons (ps_if (pt_not (pt_val (pe_call (ok_is_fraction T) (hr.mono (by decide)) (by rfl) T.m_is_fraction T.F_is_fraction.kp T.b_is_fraction .nil pass0 (pa_cons (pv 1) pa_nil)))) (pss_one ps_never) pss_nil)
      (pss_one (ps_ret (pe_op (oAddqq T (hr.mono (by decide))) (pe_call (ok_as_ratio T) (hr.mono (by decide)) (by rfl) T.m_as_ratio T.F_as_ratio.kp T.b_as_ratio .nil pass0 (pa_cons (pv 1) pa_nil)) (pv 0))))), ?_⟩
    walk_at "r"
    refine frac_leaf f ?_
    walk_at "r"
    refine iteF ?_
    walk_at "r"
    refine as_leaf f fun p2 H1 e1 r2 => ?_
    have r1 := r.same e1
    walk_at "r"
    exact own2_leaf r2 r1 z3 z4 z1 z2 fun q H2 u l e2 r3 n => k q H2 u l (e1.trans e2) r3 n
abbrev spRmul (C : Addr) : Sp := spBin C (fun t b t2 b2 => t2 * t) fun t b t2 b2 => b2 * b
theorem ok_Ratio_rmul (T : Txt K mg a) : FnOk P w K mg base CX0 6 a.f_Ratio_rmul a.d_Ratio_rmul ["self", "other"] (spRmul a.C_Ratio) := by
  refine T.F_Ratio_rmul.ok sc_Ratio_rmul (fun vs H Q E h => ?_) (fun cdv A outer s H vs Q E hr h => ?_)
  · obtain ⟨p, x, t, b, t2, b2, rfl, _⟩ := h
    rfl
  · obtain ⟨p, x, t, b, t2, b2, rfl, r, f, z1, z2, z3, z4, k⟩ := h
    refine ⟨_, (pss_cons (ps_if (pt_not (pt_val (pe_call (ok_is_fraction T) (hr.mono (by decide)) (by rfl) T.m_is_fraction T.F_is_fraction.kp T.b_is_fraction .nil pass0 (pa_cons (pv 1) pa_nil)))) (pss_one ps_never) pss_nil)
      (pss_one (ps_ret (pe_op (oMultqq T (hr.mono (by decide))) (pe_call (ok_as_ratio T) (hr.mono (by decide)) (by rfl) T.m_as_ratio T.F_as_ratio.kp T.b_as_ratio .nil pass0 (pa_cons (pv 1) pa_nil)) (pv 0))))), ?_⟩
    walk_at "r"
    refine frac_leaf f ?_
    walk_at "r"
    refine iteF ?_
    walk_at "r"
    refine as_leaf f fun p2 H1 e1 r2 => ?_
    have r1 := r.same e1
    walk_at "r"
    exact own2_leaf r2 r1 z3 z4 z1 z2 fun q H2 u l e2 r3 n => k q H2 u l (e1.trans e2) r3 n
abbrev spSub (C : Addr) : Sp := spBin C (fun t b t2 b2 => t * b2 + -t2 * b) fun t b t2 b2 => b * b2
theorem ok_Ratio_sub (T : Txt K mg a) : FnOk P w K mg base CX0 6 a.f_Ratio_sub a.d_Ratio_sub ["self", "other"] (spSub a.C_Ratio) := by
  refine T.F_Ratio_sub.ok sc_Ratio_sub (fun vs H Q E h => ?_) (fun cdv A outer s H vs Q E hr h => ?_)
  · obtain ⟨p, x, t, b, t2, b2, rfl, _⟩ := h
    rfl
  · obtain ⟨p, x, t, b, t2, b2, rfl, r, f, z1, z2, z3, z4, k⟩ := h
    refine ⟨_, (pss_cons (ps_if (pt_not (pt_val (pe_call (ok_is_fraction T) (hr.mono (by decide)) (by rfl) T.m_is_fraction T.F_is_fraction.kp T.b_is_fraction .nil pass0 (pa_cons (pv 1) pa_nil)))) (pss_one ps_never) pss_nil)
      (pss_one (ps_ret (pe_op (oAddqq T (hr.mono (by decide))) (pv 0) (pe_un (oNeg T (hr.mono (by decide))) (pe_call (ok_as_ratio T) (hr.mono (by decide)) (by rfl) T.m_as_ratio T.F_as_ratio.kp T.b_as_ratio .nil pass0 (pa_cons (pv 1) pa_nil))))))), ?_⟩
    walk_at "r"
    refine frac_leaf f ?_
    walk_at "r"
    refine iteF ?_
    walk_at "r"
    refine as_leaf f fun p2 H1 e1 r2 => ?_
    have r1 := r.same e1
    walk_at "r"
    refine neg_leaf r2 z4 fun p3 H3 e3 r3 => ?_
    exact own2_leaf (r1.same e3) r3 z1 z2 z3.neg z4 fun q H2 u l e2 r3 n => k q H2 u l ((e1.trans e3).trans e2) r3 n
theorem oSubqq {X : Cx} (T : Txt X.K X.mg a) (hr : Room 6 X.A) : OpR X (binaryOp .Sub) (rOwn2 a.C_Ratio (spSub a.C_Ratio) E0) := op_own2 T.sf T.me_Ratio_sub.at_ T.me_Ratio_sub.fn (ok_Ratio_sub T) hr T.b_Ratio_sub pass0
abbrev spRsub (C : Addr) : Sp := spBin C (fun t b t2 b2 => t2 * b + -t * b2) fun t b t2 b2 => b2 * b
theorem ok_Ratio_rsub (T : Txt K mg a) : FnOk P w K mg base CX0 7 a.f_Ratio_rsub a.d_Ratio_rsub ["self", "other"] (spRsub a.C_Ratio) := by
  refine T.F_Ratio_rsub.ok sc_Ratio_rsub (fun vs H Q E h => ?_) (fun cdv A outer s H vs Q E hr h => ?_)
  · obtain ⟨p, x, t, b, t2, b2, rfl, _⟩ := h
    rfl
  · obtain ⟨p, x, t, b, t2, b2, rfl, r, f, z1, z2, z3, z4, k⟩ := h
    refine ⟨_, (pss_cons (ps_if (pt_not (pt_val (pe_call (ok_is_fraction T) (hr.mono (by decide)) (by rfl) T.m_is_fraction T.F_is_fraction.kp T.b_is_fraction .nil pass0 (pa_cons (pv 1) pa_nil)))) (pss_one ps_never) pss_nil)
      (pss_one (ps_ret (pe_op (oSubqq T (hr.mono (by decide))) (pe_call (ok_as_ratio T) (hr.mono (by decide)) (by rfl) T.m_as_ratio T.F_as_ratio.kp T.b_as_ratio .nil pass0 (pa_cons (pv 1) pa_nil)) (pv 0))))), ?_⟩
    walk_at "r"
    refine frac_leaf f ?_
    walk_at "r"
    refine iteF ?_
    walk_at "r"
    refine as_leaf f fun p2 H1 e1 r2 => ?_
    have r1 := r.same e1
    walk_at "r"
    exact own2_leaf r2 r1 z3 z4 z1 z2 fun q H2 u l e2 r3 n => k q H2 u l (e1.trans e2) r3 n
/-! ### comparisons -/
def spEq (K : PySem.W.Frag) (C : Addr) : Sp := fun vs H Q _ => ∃ p x t b, vs = [.ref p, x] ∧ Rat C H p t b ∧ ((∃ t2 b2, Frn C H x t2 b2 ∧ ∀ k H', Same H H' → (k = true ↔ t = t2 ∧ b = b2) → Q (.bl k) H') ∨ (NotFr K C H x ∧ Q (.bl false) H))
theorem ok_Ratio_eq (T : Txt K mg a) : FnOk P w K mg base CX0 5 a.f_Ratio_eq a.d_Ratio_eq ["self", "other"] (spEq K a.C_Ratio) := by
  refine T.F_Ratio_eq.ok sc_Ratio_eq (fun vs H Q E h => ?_) (fun cdv A outer s H vs Q E hr h => ?_)
  · obtain ⟨p, x, t, b, rfl, _⟩ := h
    rfl
  · obtain ⟨p, x, t, b, rfl, r, h⟩ := h
    refine ⟨_, (pss_cons (ps_if (pt_not (pt_val (pe_call (ok_is_fraction T) (hr.mono (by decide)) (by rfl) T.m_is_fraction T.F_is_fraction.kp T.b_is_fraction .nil pass0 (pa_cons (pv 1) pa_nil)))) (pss_one (ps_ret pe_bl)) pss_nil)
      (pss_cons (ps_set (i := 2) sc_Ratio_eq.nd rfl (Or.inl rfl) (pe_call (ok_as_ratio T) (hr.mono (by decide)) (by rfl) T.m_as_ratio T.F_as_ratio.kp T.b_as_ratio .nil pass0 (pa_cons (pv 1) pa_nil)))
      (pss_one (ps_ret (pe_and (pe_cmpR op_eq (pe_fld (pv 0) rfl) (pe_fld (pv 2) rfl) (nomark _)) (pe_one (pe_cmpR op_eq (pe_fld (pv 0) rfl) (pe_fld (pv 2) rfl) (nomark _)))))))), ?_⟩
    walk_at "r"
    rcases h with ⟨t2, b2, f, k⟩ | ⟨nf, k⟩
    · refine frac_leaf f ?_
      walk_at "r"
      refine iteF ?_
      walk_at "r"
      refine as_leaf f fun p2 H1 e1 r2 => ?_
      have r1 := r.same e1
      walk_at "r"
      repeat walk_at "f"
      refine w_iteD (fun c => ?_) (fun c => ?_)
      · walk_at "r"
        repeat walk_at "f"
        refine k _ H1 e1 ?_
        rw [decide_eq_true_iff]
        exact ⟨fun c2 => ⟨V.int.inj c, V.int.inj c2⟩, fun c2 => by rw [c2.2]⟩
      · exact k false H1 e1 ⟨fun z => Bool.noConfusion z, fun c2 => absurd (by rw [c2.1]) c⟩
    · refine ⟨x, rfl, .inr ⟨nf, ?_⟩⟩
      walk_at "r"
      exact iteT k
theorem oEqq {X : Cx} (T : Txt X.K X.mg a) (hr : Room 5 X.A) : OpR X (compareOp .Eq) (rEqO X.K a.C_Ratio (spEq X.K a.C_Ratio) E0) := op_eqO T.me_Ratio_eq.at_ T.me_Ratio_eq.fn (ok_Ratio_eq T) hr T.b_Ratio_eq pass0
abbrev oEqqq := @oEqq
abbrev oEqqi := @oEqq
abbrev oEqqb := @oEqq
abbrev oEqqT := @oEqq
def spCmp (C : Addr) : Sp := fun vs H Q _ => ∃ p x t b t2 b2, vs = [.ref p, x] ∧ Rat C H p t b ∧ Frn C H x t2 b2 ∧ Sz 1000 t ∧ Sz 1000 b ∧ Sz 1000 t2 ∧ Sz 1000 b2 ∧
  ∀ H', Same H H' → Q (.int (if t * b2 = t2 * b then 0 else if t2 * b < t * b2 then 1 else -1)) H'
theorem ok_Ratio_compared (T : Txt K mg a) : FnOk P w K mg base CX0 5 a.f_Ratio_compared a.d_Ratio_compared ["self", "other"] (spCmp a.C_Ratio) := by
  refine T.F_Ratio_compared.ok sc_Ratio_compared (fun vs H Q E h => ?_) (fun cdv A outer s H vs Q E hr h => ?_)
  · obtain ⟨p, x, t, b, t2, b2, rfl, _⟩ := h
    rfl
  · obtain ⟨p, x, t, b, t2, b2, rfl, r, f, z1, z2, z3, z4, k⟩ := h
    refine ⟨_, (pss_cons (ps_if (pt_not (pt_val (pe_call (ok_is_fraction T) (hr.mono (by decide)) (by rfl) T.m_is_fraction T.F_is_fraction.kp T.b_is_fraction .nil pass0 (pa_cons (pv 1) pa_nil)))) (pss_one ps_never) pss_nil)
      (pss_cons (ps_set (i := 2) sc_Ratio_compared.nd rfl (Or.inl rfl) (pe_call (ok_as_ratio T) (hr.mono (by decide)) (by rfl) T.m_as_ratio T.F_as_ratio.kp T.b_as_ratio .nil pass0 (pa_cons (pv 1) pa_nil)))
      (pss_cons (ps_set (i := 3) sc_Ratio_compared.nd rfl (Or.inl rfl) (pe_op op_mulW (pe_fld (pv 0) rfl) (pe_fld (pv 2) rfl)))
      (pss_cons (ps_set (i := 4) sc_Ratio_compared.nd rfl (Or.inl rfl) (pe_op op_mulW (pe_fld (pv 2) rfl) (pe_fld (pv 0) rfl)))
      (pss_cons (ps_if (pt_cmpR op_eq (pv 3) (pv 4) (nomark _)) (pss_one (ps_ret pe_int)) pss_nil)
      (pss_one (ps_ret (pe_ifExp (pt_cmpR op_gt (pv 3) (pv 4) (nomark _)) pe_int (pe_un un_neg pe_int))))))))), ?_⟩
    walk_at "r"
    refine frac_leaf f ?_
    walk_at "r"
    refine iteF ?_
    walk_at "r"
    refine as_leaf f fun p2 H1 e1 r2 => ?_
    have r1 := r.same e1
    have k1 := k H1 e1
    walk_at "r"
    repeat walk_at "f"
    refine w_iteD (fun c => ?_) (fun c => ?_)
    · walk_at "r"
      rw [if_pos (V.int.inj c)] at k1
      exact k1
    · rw [if_neg fun z => c (congrArg V.int z)] at k1
      walk_at "r"
      refine w_tIf ?_
      walk_at "r"
      refine w_iteD (fun c2 => ?_) (fun c2 => ?_)
      · walk_at "r"
        rw [if_pos c2] at k1
        exact k1
      · walk_at "r"
        rw [if_neg c2] at k1
        exact k1
def spOver (C : Addr) : Sp := fun vs H Q _ => ∃ p x t b t2 b2, vs = [.ref p, x] ∧ Rat C H p t b ∧ Frn C H x t2 b2 ∧ Sz 1000 t ∧ Sz 1000 b ∧ Sz 1000 t2 ∧ Sz 1000 b2 ∧ t2 ≠ 0 ∧
  ∀ q H' u l, Same H H' → Rat C H' q u l → Nrm (t * b2) (t2 * b) u l → Q (.ref q) H'
theorem ok_Ratio_over (T : Txt K mg a) : FnOk P w K mg base CX0 6 a.f_Ratio_over a.d_Ratio_over ["self", "other"] (spOver a.C_Ratio) := by
  refine T.F_Ratio_over.ok sc_Ratio_over (fun vs H Q E h => ?_) (fun cdv A outer s H vs Q E hr h => ?_)
  · obtain ⟨p, x, t, b, t2, b2, rfl, _⟩ := h
    rfl
  · obtain ⟨p, x, t, b, t2, b2, rfl, r, f, z1, z2, z3, z4, n0, k⟩ := h
    refine ⟨_, (pss_cons (ps_if (PW.pt (pw_or (pt_not (pt_val (pe_call (ok_is_fraction T) (hr.mono (by decide)) (by rfl) T.m_is_fraction T.F_is_fraction.kp T.b_is_fraction .nil pass0 (pa_cons (pv 1) pa_nil)))) (pw_or1 (pt_cmpR (OpR.or op_eq (oEqqi T (hr.mono (by decide)))) (pv 1) pe_int (nomark _))))) (pss_one ps_never) pss_nil)
      (pss_cons (ps_set (i := 2) sc_Ratio_over.nd rfl (Or.inl rfl) (pe_call (ok_as_ratio T) (hr.mono (by decide)) (by rfl) T.m_as_ratio T.F_as_ratio.kp T.b_as_ratio .nil pass0 (pa_cons (pv 1) pa_nil)))
      (pss_cons (ps_if (pt_cmpR op_lt (pe_fld (pv 2) rfl) pe_int (nomark _)) (pss_one (ps_ret (pe_make T.mk_Ratio (ok_Ratio_init T) (hr.mono (by decide)) (by rfl) T.m_Ratio (bd_Ratio T) .nil pass0 (pa_cons (pe_op op_mulW (pe_un un_neg (pe_fld (pv 0) rfl)) (pe_fld (pv 2) rfl)) (pa_cons (pe_op op_mulW (pe_un un_neg (pe_fld (pv 2) rfl)) (pe_fld (pv 0) rfl)) pa_nil))))) pss_nil)
      (pss_one (ps_ret (pe_make T.mk_Ratio (ok_Ratio_init T) (hr.mono (by decide)) (by rfl) T.m_Ratio (bd_Ratio T) .nil pass0 (pa_cons (pe_op op_mulW (pe_fld (pv 0) rfl) (pe_fld (pv 2) rfl)) (pa_cons (pe_op op_mulW (pe_fld (pv 2) rfl) (pe_fld (pv 0) rfl)) pa_nil)))))))), ?_⟩
    walk_at "r"
    refine frac_leaf f ?_
    walk_at "r"
    refine iteF ?_
    walk_at "r"
    rcases f with ⟨rfl, rfl⟩ | ⟨p0, rfl, r0⟩
    · refine .inl ⟨rfl, ?_⟩
      walk_at "r"
      rw [decide_eq_false (fun z => n0 (V.int.inj z))]
      refine iteF ?_
      walk_at "r"
      refine as_leaf (.inl ⟨rfl, rfl⟩) fun p2 H2 e2 r2 => ?_
      have r1 := r.same ((w_same H).trans e2)
      walk_at "r"
      repeat walk_at "f"
      refine w_iteD (fun c => ?_) (fun c => ?_)
      · have y1 := z1.neg
        have y3 := z3.neg
        walk_at "r"
        repeat walk_at "f"
        refine mk_leaf (Int.mul_pos (by omega) r1.pos) ((y3.mul z2).mono (by decide)) fun q H3 u l _ e3 r3 n => ?_
        refine k q H3 u l (((w_same H).trans e2).trans e3) r3 ⟨n.pos, n.cop, ?_⟩
        have := n.eq
        grind
      · walk_at "r"
        repeat walk_at "f"
        exact mk_leaf (Int.mul_pos (by omega) r1.pos) ((z3.mul z2).mono (by decide)) fun q H3 u l _ e3 r3 n => k q H3 u l (((w_same H).trans e2).trans e3) r3 n
    · obtain ⟨dx, h0⟩ := r0.ob
      refine .inr ⟨p0, dx, _, .type "int", rfl, h0, .base (.int 0), T.nfI, p0, .int 0, t2, b2, rfl, r0, .inl ⟨0, 1, .inl ⟨rfl, rfl⟩, fun kk H1 e1 hk => ?_⟩⟩
      have ek : kk = false := by
        cases kk with
        | false => rfl
        | true => exact absurd (hk.mp rfl).1 n0
      subst ek
      walk_at "r"
      refine iteF ?_
      walk_at "r"
      refine as_leaf (.inr ⟨p0, rfl, r0.same e1⟩) fun p2 H2 e2 r2 => ?_
      have r1 := r.same (e1.trans e2)
      walk_at "r"
      repeat walk_at "f"
      refine w_iteD (fun c => ?_) (fun c => ?_)
      · have y1 := z1.neg
        have y3 := z3.neg
        walk_at "r"
        repeat walk_at "f"
        refine mk_leaf (Int.mul_pos (by omega) r1.pos) ((y3.mul z2).mono (by decide)) fun q H3 u l _ e3 r3 n => ?_
        refine k q H3 u l ((e1.trans e2).trans e3) r3 ⟨n.pos, n.cop, ?_⟩
        have := n.eq
        grind
      · walk_at "r"
        repeat walk_at "f"
        exact mk_leaf (Int.mul_pos (by omega) r1.pos) ((z3.mul z2).mono (by decide)) fun q H3 u l _ e3 r3 n => k q H3 u l ((e1.trans e2).trans e3) r3 n
end
end RK1


namespace RK1
open PySem PySem.Spec L2 RK
section
variable {P : Program} {w : World} {K : PySem.W.Frag} {mg : Str → Option Value} {base : Heap} {a : Ad}
theorem kp_upd {H : Hp} {b : Addr} {f s n : Int} (h : Bag H b) : Kp b H (upd H b (.lst [.int f, .int s, .int n])) := ⟨h, ⟨f, s, n, upd_same⟩, fun c o hc e => by rw [upd_ne hc]; exact e⟩
/-! ### the bag and its draws -/
def spBag (K : PySem.W.Frag) : Sp := fun vs H Q _ => ∃ (c : Addr) (ns : List Int) (i : Nat), vs = [.ref c, .int i] ∧ SqL K H c (ns.map V.int) ∧ i < 100 ∧ ∀ p H', H p = none → Same H H' → Bag H' p → Q (.ref p) H'
theorem ok_bag (T : Txt K mg a) : FnOk P w K mg base CX0 1 a.f_bag a.d_bag ["_law_cells", "_law_k"] (spBag K) := by
  refine T.F_bag.ok sc_bag (fun vs H Q E h => ?_) (fun cdv A outer s H vs Q E hr h => ?_)
  · obtain ⟨c, ns, i, rfl, _⟩ := h
    rfl
  · obtain ⟨c, ns, i, rfl, hS, hi, k⟩ := h
    refine ⟨_, (pss_cons (ps_par (i := 2) (j := 3) (by rfl) sc_bag.nd rfl rfl (by decide) rfl rfl (pa_cons (pe_ifExp (pt_cmpR op_lt (pv 1) (pe_callB cr_len (by rfl) T.z_len PySem.boot_len (pa_cons (pv 0) pa_nil)) (nomark _)) (pe_callTy cr_int1 (by rfl) T.z_int (by decide +kernel) (pa_cons (pe_ix ix_list (pv 0) (pv 1) (fun _ _ => rfl)) pa_nil)) pe_int) (pa_cons (pe_op op_mul pe_int (pe_op op_add (pv 1) pe_int)) pa_nil)) (by rfl))
      (pss_cons (ps_for PassesOwn.never rfl (pi_list (pe_slice sl_list (pv 0) po_none (po_some pe_int))) (pg_name (i := 4) sc_bag.nd rfl (Or.inl rfl)) (pss_one (ps_set (i := 3) sc_bag.nd rfl (Or.inl rfl) (pe_op op_mod (pe_callTy cr_int1 (by rfl) T.z_int (by decide +kernel) (pa_cons (pe_op op_add (pe_op op_add (pe_op op_mul (pv 3) pe_int) (pe_op op_mod (pe_callTy cr_int1 (by rfl) T.z_int (by decide +kernel) (pa_cons (pv 4) pa_nil)) pe_int)) (pe_op op_mul pe_int (pv 1))) pa_nil)) pe_int))))
      (pss_cons (ps_set (i := 5) sc_bag.nd rfl (Or.inl rfl) (pe_ifExp (PW.pt (pw_or (pt_cmpR op_lt (pv 2) pe_int (nomark _)) (pw_or1 (pt_cmpR op_ge (pv 2) (pe_op op_pow pe_int pe_int) (nomark _))))) (pe_callB cr_abs (by rfl) T.z_abs (by decide +kernel) (pa_cons (pv 2) pa_nil)) pe_int))
      (pss_one (ps_ret (pe_lst (pa_cons (pv 5) (pa_cons (pe_op op_mod (pe_callTy cr_int1 (by rfl) T.z_int (by decide +kernel) (pa_cons (pe_op op_add (pv 3) (pe_op op_mul pe_int (pe_op op_mod (pe_callTy cr_int1 (by rfl) T.z_int (by decide +kernel) (pa_cons (pv 2) pa_nil)) pe_int))) pa_nil)) pe_int) (pa_cons pe_int pa_nil))))))))), ?_⟩
    walk_at "r"
    refine w_cutI (fun _ => True) (fun Q' all => ?_) (fun z _ => ?_)
    · refine w_tIf ?_
      walk_at "r"
      refine w_lenL hS ?_
      walk_at "r"
      refine w_iteD (fun c => ?_) (fun c => ?_)
      · walk_at "r"
        have hi2 : i < ns.length := by rw [List.length_map] at c; omega
        refine ⟨_, _, (i : Int), .int (ns[i]), rfl, rfl, hS, atI_nat (by rw [List.getElem?_map, List.getElem?_eq_getElem hi2]; rfl), ?_⟩
        walk_at "r"
        exact all _ trivial
      · walk_at "r"
        exact all _ trivial
    walk_at "r"
    -- the first seven numbers
    obtain ⟨zs, hz⟩ : ∃ zs : List Int, cutV (ns.map V.int) none (some 7) = zs.map V.int := by
      unfold cutV
      exact ⟨(ns.drop _).take _, by rw [List.map_take, List.map_drop]⟩
    refine ⟨c, _, rfl, hS, fun p hp => ⟨p, rfl, ⟨_, SqL.of upd_same⟩, for_list (K := K) (a := p) (xs := zs.map V.int)
      (fun j σ' H' => H' = upd H p (.lst (cutV (ns.map V.int) none (some 7))) ∧ ∃ (sd : Int) (v : Option V), σ' = [some (.ref c), some (.int i), some (.int z), some (.int sd), v, none]) ⟨rfl, _, _, rfl⟩ (fun j σ' H' _ ⟨e, _⟩ => ?_) ?_ ?_⟩⟩
    · rw [e, hz]
      exact SqL.of upd_same
    · rintro j y σ' H' hj ⟨e, sd, v, rfl⟩
      subst e
      obtain ⟨x, hx, rfl⟩ : ∃ x, zs[j]? = some x ∧ V.int x = y := by
        rw [List.getElem?_map] at hj
        cases q : zs[j]? with
        | none => rw [q] at hj; cases hj
        | some x => rw [q] at hj; exact ⟨x, rfl, Option.some.inj hj⟩
      walk_at "r"
      exact ⟨rfl, _, _, rfl⟩
    · rintro σ' H' ⟨e, sd, v, rfl⟩
      subst e
      walk_at "r"
      refine w_cutI (fun _ => True) (fun Q' all => ?_) (fun f _ => ?_)
      · refine w_tIf ?_
        walk_at "r"
        refine w_ite (fun _ => ?_) (fun _ => ?_)
        · refine iteT ?_
          walk_at "r"
          exact all _ trivial
        · walk_at "r"
          refine w_ite (fun _ => ?_) (fun _ => ?_)
          · walk_at "r"
            exact all _ trivial
          · walk_at "r"
            exact all _ trivial
      walk_at "r"
      refine w_newL (by show 3 ≤ 100000; decide) fun q H2 hq e2 h2 => ?_
      refine k q H2 ?_ ((w_new hp).trans e2) ⟨_, _, _, h2⟩
      exact (w_new hp).free hq
def spDraw : Sp := fun vs H Q _ => ∃ (b : Addr) (n : Int), vs = [.ref b, .int n] ∧ Bag H b ∧ 0 < n ∧ n < 1073741824 ∧ ∀ r H', 0 ≤ r → r < n → Kp b H H' → Q (.int r) H'
theorem ok_draw (T : Txt K mg a) : FnOk P w K mg base CX0 1 a.f_draw a.d_draw ["_law_bag_here", "_law_wide"] spDraw := by
  refine T.F_draw.ok sc_draw (fun vs H Q E h => ?_) (fun cdv A outer s H vs Q E hr h => ?_)
  · obtain ⟨b, n, rfl, _⟩ := h
    rfl
  · obtain ⟨b, n, rfl, hb, h0, h1, k⟩ := h
    obtain ⟨f, sd, m, hH⟩ := id hb
    refine ⟨_, (pss_cons (ps_asg (pe_op op_add (pe_ix ix_list (pv 0) pe_int (fun _ _ => rfl)) pe_int) (pg_sub (pv 0) pe_int set_list))
      (pss_cons (ps_if (pt_cmpR op_gt (pe_ix ix_list (pv 0) pe_int (fun _ _ => rfl)) pe_int (nomark _)) (pss_cons (ps_set (i := 2) sc_draw.nd rfl (Or.inl rfl) (pe_op op_mod (pe_callTy cr_int1 (by rfl) T.z_int (by decide +kernel) (pa_cons (pe_ix ix_list (pv 0) pe_int (fun _ _ => rfl)) pa_nil)) (pv 1)))
      (pss_cons (ps_asg (pe_op op_fdiv (pe_ix ix_list (pv 0) pe_int (fun _ _ => rfl)) (pv 1)) (pg_sub (pv 0) pe_int set_list))
      (pss_one (ps_ret (pv 2))))) pss_nil)
      (pss_cons (ps_set (i := 3) sc_draw.nd rfl (Or.inl rfl) (pe_op op_add (pe_callTy cr_int1 (by rfl) T.z_int (by decide +kernel) (pa_cons (pe_ix ix_list (pv 0) pe_int (fun _ _ => rfl)) pa_nil)) (pe_op op_mul pe_int (pe_ix ix_list (pv 0) pe_int (fun _ _ => rfl)))))
      (pss_cons (ps_set (i := 4) sc_draw.nd rfl (Or.inl rfl) (pe_op op_add (pe_op op_mod (pe_callTy cr_int1 (by rfl) T.z_int (by decide +kernel) (pa_cons (pv 3) pa_nil)) pe_int) pe_int))
      (pss_cons (ps_asg (pe_op op_mod (pe_callTy cr_int1 (by rfl) T.z_int (by decide +kernel) (pa_cons (pe_op op_add (pe_op op_add (pe_op op_mul (pv 3) (pv 4)) (pe_op op_mul pe_int (pe_ix ix_list (pv 0) pe_int (fun _ _ => rfl)))) pe_int) pa_nil)) pe_int) (pg_sub (pv 0) pe_int set_list))
      (pss_one (ps_ret (pe_op op_mod (pe_op op_fdiv (pe_callTy cr_int1 (by rfl) T.z_int (by decide +kernel) (pa_cons (pe_ix ix_list (pv 0) pe_int (fun _ _ => rfl)) pa_nil)) pe_int) (pv 1))))))))), ?_⟩
    walk_at "r"
    refine w_iteD (fun c => ?_) (fun c => ?_)
    all_goals
      walk_at "r"
      refine k _ _ (Int.emod_nonneg _ (by omega)) (Int.emod_lt_of_pos _ h0) ?_
      rw [upd_upd]
      exact kp_upd hb
/-- one of the list's values, at a drawn place -/
def spOne : Sp := fun vs H Q _ => ∃ (b l : Addr) (xs : List V), vs = [.ref b, .ref l] ∧ Bag H b ∧ H l = some (.lst xs) ∧ l ≠ b ∧ 0 < xs.length ∧ xs.length < 1000 ∧ ∀ v H', v ∈ xs → Kp b H H' → Q v H'
theorem ok_one (T : Txt K mg a) : FnOk P w K mg base CX0 2 a.f_one a.d_one ["_law_bag_here", "_law_some"] spOne := by
  refine T.F_one.ok sc_one (fun vs H Q E h => ?_) (fun cdv A outer s H vs Q E hr h => ?_)
  · obtain ⟨b, l, xs, rfl, _⟩ := h
    rfl
  · obtain ⟨b, l, xs, rfl, hb, hl, hne, h0, h1, k⟩ := h
    refine ⟨_, (pss_one (ps_ret (pe_ix ix_list (pv 1) (pe_call (ok_draw T) (hr.mono (by decide)) (by rfl) T.m_draw T.F_draw.kp T.b_draw .nil pass0 (pa_cons (pv 0) (pa_cons (pe_callB cr_len (by rfl) T.z_len PySem.boot_len (pa_cons (pv 1) pa_nil)) pa_nil))) (fun _ _ => rfl)))), ?_⟩
    walk_at "r"
    refine w_lenL (SqL.of hl) ?_
    walk_at "r"
    refine ⟨b, (xs.length : Int), rfl, hb, by omega, by omega, fun r H1 r0 r1 k1 => ?_⟩
    have hr2 : r.toNat < xs.length := by omega
    refine ⟨_, xs, r, xs[r.toNat], rfl, rfl, SqL.of (k1.keep _ _ hne hl), at_of (by omega) (List.getElem?_eq_getElem hr2), ?_⟩
    exact k _ H1 (List.getElem_mem hr2) k1
/-! ### lowest terms by the law's own -/
def spLowest : Sp := fun vs H Q _ => ∃ (u l : Int), vs = [.int u, .int l] ∧ l ≠ 0 ∧ Sz 3000 u ∧ Sz 3000 l ∧ ∀ p H' x y, H p = none → Same H H' → H' p = some (.tup [.int x, .int y]) → Nrm u l x y → Q (.ref p) H'
theorem ok_lowest (T : Txt K mg a) : FnOk P w K mg base CX0 1 a.f_lowest a.d_lowest ["_law_upper", "_law_lower"] spLowest := by
  refine T.F_lowest.ok sc_lowest (fun vs H Q E h => ?_) (fun cdv A outer s H vs Q E hr h => ?_)
  · obtain ⟨u, l, rfl, _⟩ := h
    rfl
  · obtain ⟨u, l, rfl, hl, zu, zl, k⟩ := h
    refine ⟨_, (pss_cons (ps_par (i := 2) (j := 3) (by rfl) sc_lowest.nd rfl rfl (by decide) rfl rfl (pa_cons (pe_callB cr_abs (by rfl) T.z_abs (by decide +kernel) (pa_cons (pv 0) pa_nil)) (pa_cons (pe_callB cr_abs (by rfl) T.z_abs (by decide +kernel) (pa_cons (pv 1) pa_nil)) pa_nil)) (by rfl))
      (pss_cons (ps_while PassesOwn.never (pt_cmpR op_gt (pv 3) pe_int (nomark _)) (pss_one (ps_par (i := 2) (j := 3) (by rfl) sc_lowest.nd rfl rfl (by decide) rfl rfl (pa_cons (pv 3) (pa_cons (pe_op op_mod (pe_callTy cr_int1 (by rfl) T.z_int (by decide +kernel) (pa_cons (pv 2) pa_nil)) (pv 3)) pa_nil)) (by rfl))))
      (pss_cons (ps_set (i := 4) sc_lowest.nd rfl (Or.inl rfl) (pe_ifExp (pt_cmpR op_gt (pv 1) pe_int (nomark _)) (pv 2) (pe_op op_sub pe_int (pv 2))))
      (pss_one (ps_ret (pe_tup (pa_cons (pe_op op_fdivZ (pv 0) (pv 4)) (pa_cons (pe_op op_fdivZ (pv 1) (pv 4)) pa_nil)))))))), ?_⟩
    walk_at "r"
    refine ⟨fun m σ' H' => H' = H ∧ ∃ x y : Int, σ' = [some (.int u), some (.int l), some (.int x), some (.int y), none] ∧ 0 ≤ x ∧ 0 ≤ y ∧ Int.gcd x y = Int.gcd u l ∧ m = y.toNat, ⟨_, rfl, _, _, rfl, by split <;> omega, by split <;> omega, gcd_abs u l, rfl⟩, ?_⟩
    rintro m σ' H' ⟨e, x, y, rfl, h0, h1, hg, rfl⟩
    subst e
    walk_at "r"
    refine w_iteD (fun c => ?_) (fun c => ?_)
    · refine ⟨fun σ' H2 => H2 = H' ∧ ∃ x' y' : Int, σ' = [some (.int u), some (.int l), some (.int x'), some (.int y'), none] ∧ 0 ≤ x' ∧ 0 ≤ y' ∧ Int.gcd x' y' = Int.gcd u l ∧ y'.toNat < y.toNat, ?_, ?_⟩
      · rintro σ' H2 ⟨e, x', y', rfl, a1, a2, a3, a4⟩
        exact ⟨_, a4, e, x', y', rfl, a1, a2, a3, rfl⟩
      · walk_at "r"
        have b1 := Int.emod_nonneg x (show y ≠ 0 by omega)
        have b2 := Int.emod_lt_of_pos x c
        exact ⟨rfl, y, x % y, rfl, h1, b1, (gcd_step h0 c).trans hg, by omega⟩
    · have ey : y = 0 := by omega
      subst ey
      have ex : x = (Int.gcd u l : Int) := by
        rw [← hg, Int.gcd_zero_right]
        omega
      have gle : (Int.gcd u l : Int).natAbs ≤ l.natAbs := by
        have := Nat.le_of_dvd (by omega) (Nat.gcd_dvd_right u.natAbs l.natAbs)
        exact this
      walk_at "r"
      refine w_cutI (fun d => d = if 0 < l then (Int.gcd u l : Int) else 0 - (Int.gcd u l : Int)) (fun Q' all => ?_) (fun d hd => ?_)
      · refine w_tIf ?_
        walk_at "r"
        refine w_iteD (fun c2 => ?_) (fun c2 => ?_)
        · walk_at "r"
          exact all _ (by rw [if_pos c2, ex])
        · walk_at "r"
          exact all _ (by rw [if_neg c2, ex])
      · obtain ⟨n, d0⟩ := nrm_low hl hd
        have zd : Sz 3000 d := zl.le (by rw [hd]; split <;> omega)
        have cd : ∀ i, CDivZ i d := fun i => ⟨d0, Nat.lt_of_lt_of_le (PySem.Flt.log2_lt_of (by decide) zd) (by decide)⟩
        have cu := cd u
        have cl := cd l
        walk_at "r"
        exact w_newT (by show 2 ≤ 100000; decide) fun q H2 hq e2 h2 => k q H2 _ _ hq e2 h2 n
def spParts (C : Addr) : Sp := fun vs H Q _ => ∃ p t b, vs = [.ref p] ∧ Rat C H p t b ∧ ∀ q H', H q = none → Same H H' → H' q = some (.tup [.int t, .int b]) → Q (.ref q) H'
theorem ok_parts (T : Txt K mg a) : FnOk P w K mg base CX0 1 a.f_parts a.d_parts ["_law_made"] (spParts a.C_Ratio) := by
  refine T.F_parts.ok sc_parts (fun vs H Q E h => ?_) (fun cdv A outer s H vs Q E hr h => ?_)
  · obtain ⟨p, t, b, rfl, _⟩ := h
    rfl
  · obtain ⟨p, t, b, rfl, r, k⟩ := h
    refine ⟨_, (pss_one (ps_ret (pe_tup (pa_cons (pe_fld (pv 0) rfl) (pa_cons (pe_fld (pv 0) rfl) pa_nil))))), ?_⟩
    walk_at "r"
    refine top_leaf T r ?_
    walk_at "r"
    refine bot_leaf T r ?_
    walk_at "r"
    exact w_newT (by show 2 ≤ 100000; decide) k
/-- a pair of numbers: any of up to nine figures, and one from 1 to 60 -/
def spPair : Sp := fun vs H Q _ => ∃ b, vs = [.ref b] ∧ Bag H b ∧ ∀ p H' u l, H p = none → Kp b H H' → H' p = some (.tup [.int u, .int l]) → u.natAbs < 1000000000 → 0 < l → l ≤ 60 → Q (.ref p) H'
theorem ok_pair (T : Txt K mg a) : FnOk P w K mg base CX0 3 a.f_pair a.d_pair ["_law_bag_here"] spPair := by
  refine T.F_pair.ok sc_pair (fun vs H Q E h => ?_) (fun cdv A outer s H vs Q E hr h => ?_)
  · obtain ⟨b, rfl, _⟩ := h
    rfl
  · obtain ⟨b, rfl, hb, k⟩ := h
    refine ⟨_, (pss_cons (ps_set (i := 1) sc_pair.nd rfl (Or.inl rfl) (pe_call (ok_one T) (hr.mono (by decide)) (by rfl) T.m_one T.F_one.kp T.b_one .nil pass0 (pa_cons (pv 0) (pa_cons (pe_lst (pa_cons pe_int (pa_cons pe_int (pa_cons (pe_call (ok_draw T) (hr.mono (by decide)) (by rfl) T.m_draw T.F_draw.kp T.b_draw .nil pass0 (pa_cons (pv 0) (pa_cons pe_int pa_nil))) (pa_cons (pe_call (ok_draw T) (hr.mono (by decide)) (by rfl) T.m_draw T.F_draw.kp T.b_draw .nil pass0 (pa_cons (pv 0) (pa_cons (pe_op op_pow pe_int pe_int) pa_nil))) pa_nil))))) pa_nil))))
      (pss_one (ps_ret (pe_tup (pa_cons (pe_op op_mulW (pv 1) (pe_call (ok_one T) (hr.mono (by decide)) (by rfl) T.m_one T.F_one.kp T.b_one .nil pass0 (pa_cons (pv 0) (pa_cons (pe_lst (pa_cons pe_int (pa_cons pe_int (pa_cons (pe_op op_sub pe_int pe_int) pa_nil)))) pa_nil)))) (pa_cons (pe_call (ok_one T) (hr.mono (by decide)) (by rfl) T.m_one T.F_one.kp T.b_one .nil pass0 (pa_cons (pv 0) (pa_cons (pe_lst (pa_cons pe_int (pa_cons pe_int (pa_cons pe_int (pa_cons pe_int (pa_cons pe_int (pa_cons pe_int (pa_cons (pe_op op_add pe_int (pe_call (ok_draw T) (hr.mono (by decide)) (by rfl) T.m_draw T.F_draw.kp T.b_draw .nil pass0 (pa_cons (pv 0) (pa_cons pe_int pa_nil)))) pa_nil)))))))) pa_nil))) pa_nil)))))), ?_⟩
    walk_at "r"
    refine ⟨b, 90, rfl, hb, by decide, by decide, fun r1 H1 r10 r11 k1 => ?_⟩
    walk_at "r"
    refine ⟨b, _, rfl, k1.bag', by decide, by decide, fun r2 H2 r20 r21 k2 => ?_⟩
    have r22 : r2 < 1000000000 := r21
    walk_at "r"
    refine w_newL (by show 4 ≤ 100000; decide) fun l1 H3 n3 e3 h3 => ?_
    have b3 := k2.bag'.same e3
    obtain ⟨_, _, _, hb2⟩ := k2.bag'
    walk_at "r"
    refine ⟨b, l1, _, rfl, b3, h3, (fun z => by rw [z, hb2] at n3; cases n3), by show 0 < 4; decide, by show 4 < 1000; decide, fun v H4 hv k4 => ?_⟩
    obtain ⟨u, rfl, hu⟩ : ∃ z, v = V.int z ∧ z.natAbs < 1000000000 := by
      simp only [List.mem_cons, List.not_mem_nil, or_false] at hv
      rcases hv with rfl | rfl | rfl | rfl
      all_goals first | exact ⟨_, rfl, by decide⟩ | exact ⟨_, rfl, by omega⟩ | exact ⟨_, rfl, .inl rfl⟩ | exact ⟨_, rfl, .inr rfl⟩ | exact ⟨_, rfl, by decide, by decide⟩ | exact ⟨_, rfl, by omega, by omega⟩
    walk_at "r"
    refine w_newL (by show 3 ≤ 100000; decide) fun l2 H5 n5 e5 h5 => ?_
    have b5 := k4.bag'.same e5
    obtain ⟨_, _, _, hb4⟩ := k4.bag'
    walk_at "r"
    refine ⟨b, l2, _, rfl, b5, h5, (fun z => by rw [z, hb4] at n5; cases n5), by show 0 < 3; decide, by show 3 < 1000; decide, fun v H6 hv k6 => ?_⟩
    obtain ⟨sg, rfl, hs⟩ : ∃ z, v = V.int z ∧ (z = 1 ∨ z = -1) := by
      simp only [List.mem_cons, List.not_mem_nil, or_false] at hv
      rcases hv with rfl | rfl | rfl
      all_goals first | exact ⟨_, rfl, by decide⟩ | exact ⟨_, rfl, by omega⟩ | exact ⟨_, rfl, .inl rfl⟩ | exact ⟨_, rfl, .inr rfl⟩ | exact ⟨_, rfl, by decide, by decide⟩ | exact ⟨_, rfl, by omega, by omega⟩
    have zu : Sz 1000 u := Sz.mono (k := 30) (Nat.lt_of_lt_of_le hu (by decide)) (by decide)
    have zs : Sz 1000 sg := Sz.small (by omega)
    walk_at "r"
    refine ⟨b, 60, rfl, k6.bag', by decide, by decide, fun r3 H7 r30 r31 k7 => ?_⟩
    walk_at "r"
    refine w_newL (by show 7 ≤ 100000; decide) fun l3 H8 n8 e8 h8 => ?_
    have b8 := k7.bag'.same e8
    obtain ⟨_, _, _, hb7⟩ := k7.bag'
    walk_at "r"
    refine ⟨b, l3, _, rfl, b8, h8, (fun z => by rw [z, hb7] at n8; cases n8), by show 0 < 7; decide, by show 7 < 1000; decide, fun v H9 hv k9 => ?_⟩
    obtain ⟨l, rfl, hl0, hl1⟩ : ∃ z, v = V.int z ∧ 0 < z ∧ z ≤ 60 := by
      simp only [List.mem_cons, List.not_mem_nil, or_false] at hv
      rcases hv with rfl | rfl | rfl | rfl | rfl | rfl | rfl
      all_goals first | exact ⟨_, rfl, by decide⟩ | exact ⟨_, rfl, by omega⟩ | exact ⟨_, rfl, .inl rfl⟩ | exact ⟨_, rfl, .inr rfl⟩ | exact ⟨_, rfl, by decide, by decide⟩ | exact ⟨_, rfl, by omega, by omega⟩
    walk_at "r"
    have kk : Kp b H H9 := (((((k1.trans k2).same e3).trans k4).same e5).trans k6).trans ((k7.same e8).trans k9)
    exact w_newT (by show 2 ≤ 100000; decide) fun q H10 n10 e10 h10 => k q H10 _ _ (kk.free n10) (kk.same e10) h10 (by rcases hs with rfl | rfl <;> omega) hl0 hl1
end
end RK1


local macro_rules | `(tactic| walk_at "rat") => `(tactic| first | assumption | ((refine' RK1.Rat.same ?hr (by assumption)); (case hr => walk_at "rat")) | ((refine' RK1.Rat.sameT ?hr (RK.Grown.same (by assumption))); (case hr => walk_at "rat")))
namespace RK1
open PySem PySem.Spec L2 RK
section
variable {P : Program} {w : World} {K : PySem.W.Frag} {mg : Str → Option Value} {base : Heap} {a : Ad}
theorem oNotEqqq {X : Cx} (T : Txt X.K X.mg a) (hr : Room 6 X.A) : OpR X (compareOp .NotEq) (rNeO a.C_Ratio (spEq X.K a.C_Ratio) E0) := op_neO T.me_Ratio_eq.at_ T.me_Ratio_eq.fn T.ne T.ob (ok_Ratio_eq T) hr T.b_Ratio_eq pass0
theorem ord_eq {X Y M N : Int} (h : M = N ↔ X = Y) (h1 : M < N ↔ X < Y) :
    (if X = Y then (0 : Int) else if Y < X then 1 else -1) = (if decide (N < M) = true then (1 : Int) else 0) - (if decide (M < N) = true then (1 : Int) else 0) := by
  simp only [decide_eq_true_eq]
  split
  · rename_i e
    have := h.mpr e
    rw [if_neg (by omega), if_neg (by omega)]
    rfl
  · rename_i ne
    have n2 : M ≠ N := fun e => ne (h.mp e)
    split
    · rename_i l
      have n3 : ¬ M < N := fun e => by have := h1.mp e; omega
      rw [if_pos (by omega), if_neg n3]
      rfl
    · rename_i l
      have n3 : M < N := h1.mpr (by omega)
      rw [if_neg (by omega), if_pos n3]
      rfl
/-- Ratio(bottom = .., top = ..) -/
def gK {α : Type} : List α → List α → List α → List α
  | [s], _, [b, t] => [s, t, b]
  | _, _, _ => []
theorem kbR (T : Txt K mg a) : ∃ its : List Value, KBn K a.d_Ratio_init ["self", "top", "bottom"] 1 ["bottom", "top"] (fun us ws => gK us its ws) (fun vs zs => gK vs [.int 1] zs) := by
  refine T.F_Ratio_init.kbindsD (ps := ["self", "top", "bottom"]) 1 ["bottom", "top"] gK (by simp) (fun {vs ds zs us its ws} r1 _ r3 => ?_) (fun _ _ _ _ _ _ _ us its ws h1 h2 h3 => match us, its, ws, h1, h2, h3 with | [_], [_], [_, _], _, _, _ => ⟨_, rfl, rfl⟩)
  cases r1 with
  | nil => exact .nil
  | cons r1 r1' =>
    cases r1' with
    | cons _ _ => exact .nil
    | nil =>
      cases r3 with
      | nil => exact .nil
      | cons r3 r3' =>
        cases r3' with
        | nil => exact .nil
        | cons r4 r4' =>
          cases r4' with
          | nil => exact .cons r1 (.cons r4 (.cons r3 .nil))
          | cons _ _ => exact .nil
theorem mkk_leaf {C : Addr} {H : Hp} {Q : VK} {t b : Int} (h0 : 0 < b) (hz : Sz 8000 b) (k : ∀ p H' x y, H p = none → Same H H' → Rat C H' p x y → Nrm t b x y → Q (.ref p) H') :
    MkK C 0 2 (spInit C) (fun vs zs => gK vs [.int 1] zs) E0 [] [.int b, .int t] H Q := ⟨rfl, rfl, mk_leaf h0 hz k⟩
/-! two tuples of two -/
theorem dp2 {H : Hp} {p : Addr} {x y : Int} (h : H p = some (.tup [.int x, .int y])) : Dp K H (.ref p) (.tuple [.int x, .int y]) := .tup (SqT.of h) (.cons (.int _) (.cons (.int _) .nil))
theorem ne2 {H : Hp} {Q : VK} {p q : Addr} {x y : Int} (h : H p = some (.tup [.int x, .int y])) (h2 : H q = some (.tup [.int x, .int y])) (k : Q (.bl false) H) : rNeD K (.ref p) (.ref q) H Q :=
  ⟨_, _, dp2 h, dp2 h2, rfl, rfl, by rw [SeqAt.eqv_refl _ (by rfl)]; exact k⟩
theorem eq2 {H : Hp} {Q : VK} {p q : Addr} {x y : Int} (h : H p = some (.tup [.int x, .int y])) (h2 : H q = some (.tup [.int x, .int y])) (k : Q (.bl true) H) : rEqD K (.ref p) (.ref q) H Q :=
  ⟨_, _, dp2 h, dp2 h2, rfl, rfl, by rw [SeqAt.eqv_refl _ (by rfl)]; exact k⟩
theorem eqq_leaf (T : Txt K mg a) {H : Hp} {Q : VK} {p q : Addr} {t b t2 b2 : Int} (r : Rat a.C_Ratio H p t b) (r2 : Rat a.C_Ratio H q t2 b2) (k : ∀ k H', Same H H' → (k = true ↔ t = t2 ∧ b = b2) → Q (.bl k) H') :
    rEqO K a.C_Ratio (spEq K a.C_Ratio) E0 (.ref p) (.ref q) H Q := by
  obtain ⟨dx, h⟩ := r.ob
  exact ⟨p, dx, _, .ref a.C_Ratio, rfl, h, ins_ty T r2, T.nfR, p, .ref q, t, b, rfl, r, .inl ⟨t2, b2, .inr ⟨q, rfl, r2⟩, k⟩⟩
theorem neq_leaf {H : Hp} {Q : VK} {p q : Addr} {t b t2 b2 : Int} (r : Rat a.C_Ratio H p t b) (r2 : Rat a.C_Ratio H q t2 b2) (k : ∀ k H', Same H H' → (k = true ↔ t = t2 ∧ b = b2) → Q (.bl (!k)) H') :
    rNeO a.C_Ratio (spEq K a.C_Ratio) E0 (.ref p) (.ref q) H Q := by
  obtain ⟨dx, h⟩ := r.ob
  obtain ⟨dy, h2⟩ := r2.ob
  exact ⟨p, q, dx, _, dy, _, rfl, rfl, h, h2, p, .ref q, t, b, rfl, r, .inl ⟨t2, b2, .inr ⟨q, rfl, r2⟩, fun k' H' e i => ⟨k', rfl, k k' H' e i⟩⟩⟩
theorem parts_leaf {C : Addr} {H : Hp} {Q : VK} {E : XK} {p : Addr} {t b : Int} (r : Rat C H p t b) (k : ∀ q H', H q = none → Same H H' → H' q = some (.tup [.int t, .int b]) → Q (.ref q) H') : spParts C [.ref p] H Q E := ⟨p, t, b, rfl, r, k⟩
theorem low_leaf {H : Hp} {Q : VK} {E : XK} {u l : Int} (hl : l ≠ 0) (z1 : Sz 3000 u) (z2 : Sz 3000 l) (k : ∀ p H' x y, H p = none → Same H H' → H' p = some (.tup [.int x, .int y]) → Nrm u l x y → Q (.ref p) H') : spLowest [.int u, .int l] H Q E := ⟨u, l, rfl, hl, z1, z2, k⟩
def spPairRight : Sp := fun vs H Q _ => ∃ (p1 p2 : Addr) (A B C D : Int), vs = [.ref p1, .ref p2] ∧ H p1 = some (.tup [.int A, .int B]) ∧ H p2 = some (.tup [.int C, .int D]) ∧ A.natAbs < 1000000000 ∧ C.natAbs < 1000000000 ∧ 0 < B ∧ B ≤ 60 ∧ 0 < D ∧ D ≤ 60 ∧
  ∀ H', Same H H' → Q (.bl true) H'
theorem ok_pair_right (T : Txt K mg a) : FnOk P w K mg base CX0 9 a.f_pair_right a.d_pair_right ["_law_one_here", "_law_two"] spPairRight := by
  refine T.F_pair_right.ok sc_pair_right (fun vs H Q E h => ?_) (fun cdv A outer s H vs Q E hr h => ?_)
  · obtain ⟨p1, p2, A, B, C, D, rfl, _⟩ := h
    rfl
  · obtain ⟨p1, p2, A, B, C, D, rfl, hp1, hp2, zA, zC, B0, B1, D0, D1, k⟩ := h
    obtain ⟨its, kb_Ratio⟩ := kbR T
    refine ⟨_, (pss_cons (ps_par (i := 2) (j := 3) (by rfl) sc_pair_right.nd rfl rfl (by decide) rfl rfl (pa_cons (pe_make T.mk_Ratio (ok_Ratio_init T) (hr.mono (by decide)) (by rfl) T.m_Ratio (bd_Ratio T) .nil pass0 (pa_cons (pe_ix ix_tup (pv 0) pe_int (fun _ _ => rfl)) (pa_cons (pe_ix ix_tup (pv 0) pe_int (fun _ _ => rfl)) pa_nil))) (pa_cons (pe_makeK0 T.mk_Ratio (ok_Ratio_init T) (hr.mono (by decide)) (by rfl) T.m_Ratio kb_Ratio pass0 (pk_cons (pe_ix ix_tup (pv 1) pe_int (fun _ _ => rfl)) (pk_cons (pe_ix ix_tup (pv 1) pe_int (fun _ _ => rfl)) pk_nil))) pa_nil)) (by rfl))
      (pss_cons (ps_if (PW.pt (pw_or (pt_cmpR (op_neD hr.units) (pe_call (ok_parts T) (hr.mono (by decide)) (by rfl) T.m_parts T.F_parts.kp T.b_parts .nil pass0 (pa_cons (pv 2) pa_nil)) (pe_call (ok_lowest T) (hr.mono (by decide)) (by rfl) T.m_lowest T.F_lowest.kp T.b_lowest .nil pass0 (pa_cons (pe_ix ix_tup (pv 0) pe_int (fun _ _ => rfl)) (pa_cons (pe_ix ix_tup (pv 0) pe_int (fun _ _ => rfl)) pa_nil))) (nomark _)) (pw_or1 (pt_cmpR (op_neD hr.units) (pe_call (ok_parts T) (hr.mono (by decide)) (by rfl) T.m_parts T.F_parts.kp T.b_parts .nil pass0 (pa_cons (pv 3) pa_nil)) (pe_call (ok_lowest T) (hr.mono (by decide)) (by rfl) T.m_lowest T.F_lowest.kp T.b_lowest .nil pass0 (pa_cons (pe_ix ix_tup (pv 1) pe_int (fun _ _ => rfl)) (pa_cons (pe_ix ix_tup (pv 1) pe_int (fun _ _ => rfl)) pa_nil))) (nomark _))))) (pss_one (ps_ret pe_bl)) pss_nil)
      (pss_cons (ps_set (i := 4) sc_pair_right.nd rfl (Or.inl rfl) (pe_tup (pa_cons (pe_op op_mulW (pe_ix ix_tup (pv 0) pe_int (fun _ _ => rfl)) (pe_ix ix_tup (pv 1) pe_int (fun _ _ => rfl))) (pa_cons (pe_op op_mulW (pe_ix ix_tup (pv 1) pe_int (fun _ _ => rfl)) (pe_ix ix_tup (pv 0) pe_int (fun _ _ => rfl))) pa_nil))))
      (pss_cons (ps_setLc (i := 5) (own := [("_law_each", 9)]) (g := gName 9) (tt := tYes) rfl sc_pair_right.nd rfl rfl (sw_true rfl rfl rfl (by decide +kernel)) (pi_list (pe_lst (pa_cons (pe_op (oAddqq T (hr.mono (by decide))) (pv 2) (pv 3)) (pa_cons (pe_op (oSubqq T (hr.mono (by decide))) (pv 2) (pv 3)) (pa_cons (pe_op (oMultqq T (hr.mono (by decide))) (pv 2) (pv 3)) (pa_cons (pe_un (oNeg T (hr.mono (by decide))) (pv 2)) pa_nil)))))) (blkOk_by (own := [("_law_each", 9)]) (N := ["_law_one_here", "_law_two", "_law_mine", "_law_mate", "_law_cross", "_law_found", "_law_both", "_law_due", "_law_order", "_law_each"]) (sc := defScope s_pair_right) (by decide +kernel)) (fun _ _ _ _ _ => pg_name (i := 9) sc_pair_right.nd rfl (Or.inl rfl)) (fun _ _ _ _ _ => pts_nil) (fun _ _ _ _ _ => by exact (pe_call (ok_parts T) (hr.mono (by decide)) (by rfl) T.m_parts T.F_parts.kp T.b_parts .nil pass0 (pa_cons (pv 9) pa_nil))))
      (pss_cons (ps_set (i := 6) sc_pair_right.nd rfl (Or.inl rfl) (pe_op op_mulW (pe_ix ix_tup (pv 0) pe_int (fun _ _ => rfl)) (pe_ix ix_tup (pv 1) pe_int (fun _ _ => rfl))))
      (pss_cons (ps_set (i := 7) sc_pair_right.nd rfl (Or.inl rfl) (pe_lst (pa_cons (pe_call (ok_lowest T) (hr.mono (by decide)) (by rfl) T.m_lowest T.F_lowest.kp T.b_lowest .nil pass0 (pa_cons (pe_op op_add (pe_ix ix_tup (pv 4) pe_int (fun _ _ => rfl)) (pe_ix ix_tup (pv 4) pe_int (fun _ _ => rfl))) (pa_cons (pv 6) pa_nil))) (pa_cons (pe_call (ok_lowest T) (hr.mono (by decide)) (by rfl) T.m_lowest T.F_lowest.kp T.b_lowest .nil pass0 (pa_cons (pe_op op_sub (pe_ix ix_tup (pv 4) pe_int (fun _ _ => rfl)) (pe_ix ix_tup (pv 4) pe_int (fun _ _ => rfl))) (pa_cons (pv 6) pa_nil))) pa_nil))))
      (pss_cons (ps_expr (pe_bm PySem.F.plainAttrs_list PySem.F.slot_list_append PySem.F.type_list_append mt_append (pv 7) (pa_cons (pe_call (ok_lowest T) (hr.mono (by decide)) (by rfl) T.m_lowest T.F_lowest.kp T.b_lowest .nil pass0 (pa_cons (pe_op op_mulW (pe_ix ix_tup (pv 0) pe_int (fun _ _ => rfl)) (pe_ix ix_tup (pv 1) pe_int (fun _ _ => rfl))) (pa_cons (pv 6) pa_nil))) pa_nil)))
      (pss_cons (ps_expr (pe_bm PySem.F.plainAttrs_list PySem.F.slot_list_append PySem.F.type_list_append mt_append (pv 7) (pa_cons (pe_call (ok_lowest T) (hr.mono (by decide)) (by rfl) T.m_lowest T.F_lowest.kp T.b_lowest .nil pass0 (pa_cons (pe_op op_sub pe_int (pe_ix ix_tup (pv 0) pe_int (fun _ _ => rfl))) (pa_cons (pe_ix ix_tup (pv 0) pe_int (fun _ _ => rfl)) pa_nil))) pa_nil)))
      (pss_cons (ps_set (i := 8) sc_pair_right.nd rfl (Or.inl rfl) (pe_op op_sub (pe_callTy cr_int1 (by rfl) T.z_int (by decide +kernel) (pa_cons (pe_cmpR op_gt (pe_ix ix_tup (pv 4) pe_int (fun _ _ => rfl)) (pe_ix ix_tup (pv 4) pe_int (fun _ _ => rfl)) (nomark _)) pa_nil)) (pe_callTy cr_int1 (by rfl) T.z_int (by decide +kernel) (pa_cons (pe_cmpR op_lt (pe_ix ix_tup (pv 4) pe_int (fun _ _ => rfl)) (pe_ix ix_tup (pv 4) pe_int (fun _ _ => rfl)) (nomark _)) pa_nil))))
      (pss_cons (ps_if (PW.pt (pw_or (pt_cmpR (op_neD hr.units) (pv 5) (pv 7) (nomark _)) (pw_or1 (pt_cmpR op_ne (pe_meth (pv 2) T.cl_Ratio T.me_Ratio_compared (ok_Ratio_compared T) (hr.mono (by decide)) T.b_Ratio_compared .nil pass0 (pa_cons (pv 3) pa_nil)) (pv 8) (nomark _))))) (pss_one (ps_ret pe_bl)) pss_nil)
      (pss_cons (ps_if (PW.pt (pw_or (pt_cmpR op_ne (pe_cmpR (oEqqq T (hr.mono (by decide))) (pv 2) (pv 3) (nomark _)) (pe_cmpR op_eq (pe_ix ix_tup (pv 4) pe_int (fun _ _ => rfl)) (pe_ix ix_tup (pv 4) pe_int (fun _ _ => rfl)) (nomark _)) (nomark _)) (pw_or1 (pt_cmpR op_eq (pe_cmpR (oNotEqqq T (hr.mono (by decide))) (pv 2) (pv 3) (nomark _)) (pe_cmpR (oEqqq T (hr.mono (by decide))) (pv 2) (pv 3) (nomark _)) (nomark _))))) (pss_one (ps_ret pe_bl)) pss_nil)
      (pss_cons (ps_if (pt_cmpR op_eq (pe_ix ix_tup (pv 1) pe_int (fun _ _ => rfl)) pe_int (nomark _)) (pss_one (ps_ret pe_bl)) pss_nil)
      (pss_one (ps_ret (pe_cmpR (op_eqD hr.units) (pe_call (ok_parts T) (hr.mono (by decide)) (by rfl) T.m_parts T.F_parts.kp T.b_parts .nil pass0 (pa_cons (pe_meth (pv 2) T.cl_Ratio T.me_Ratio_over (ok_Ratio_over T) (hr.mono (by decide)) T.b_Ratio_over .nil pass0 (pa_cons (pv 3) pa_nil)) pa_nil)) (pe_call (ok_lowest T) (hr.mono (by decide)) (by rfl) T.m_lowest T.F_lowest.kp T.b_lowest .nil pass0 (pa_cons (pe_ix ix_tup (pv 4) pe_int (fun _ _ => rfl)) (pa_cons (pe_op op_mulW (pe_ix ix_tup (pv 0) pe_int (fun _ _ => rfl)) (pe_ix ix_tup (pv 1) pe_int (fun _ _ => rfl))) pa_nil))) (nomark _)))))))))))))))), ?_⟩
    have yA : Sz 40 A := Nat.lt_of_lt_of_le zA (by decide)
    have yC : Sz 40 C := Nat.lt_of_lt_of_le zC (by decide)
    have yB : Sz 40 B := Sz.small (by omega)
    have yD : Sz 40 D := Sz.small (by omega)
    walk_at "r"
    refine mk_leaf B0 (yB.mono (by decide)) fun m H1 t1 b1 _ e1 r1 n1 => ?_
    walk_at "r"
    refine mkk_leaf D0 (yD.mono (by decide)) fun m2 H2 t2 b2 _ e2 r2 n2 => ?_
    have s1 : Sz 1000 t1 := (yA.le (n1.le (by omega)).2).mono (by decide)
    have s2 : Sz 1000 b1 := (yB.le (n1.le (by omega)).1).mono (by decide)
    have s3 : Sz 1000 t2 := (yC.le (n2.le (by omega)).2).mono (by decide)
    have s4 : Sz 1000 b2 := (yD.le (n2.le (by omega)).1).mono (by decide)
    have w1 := yA.mono (show 40 ≤ 3000 by decide)
    have w2 := yB.mono (show 40 ≤ 3000 by decide)
    have w3 := yC.mono (show 40 ≤ 3000 by decide)
    have w4 := yD.mono (show 40 ≤ 3000 by decide)
    walk_at "r"
    -- both are in lowest terms
    refine parts_leaf (by walk_at "rat") fun q3 H3 _ e3 h3 => ?_
    walk_at "r"
    refine low_leaf (by omega) w1 w2 fun q4 H4 x y _ e4 h4 n4 => ?_
    obtain ⟨rfl, rfl⟩ := n1.uniq n4 (by omega) (by omega) rfl
    refine ne2 (by walk_at "at") h4 ?_
    walk_at "r"
    refine iteF ?_
    walk_at "r"
    refine parts_leaf (by walk_at "rat") fun q5 H5 _ e5 h5 => ?_
    walk_at "r"
    refine low_leaf (by omega) w3 w4 fun q6 H6 x y _ e6 h6 n6 => ?_
    obtain ⟨rfl, rfl⟩ := n2.uniq n6 (by omega) (by omega) rfl
    refine ne2 (by walk_at "at") h6 ?_
    walk_at "r"
    refine iteF ?_
    walk_at "r"
    -- the cross products
    refine w_newT (by show 2 ≤ 100000; decide) fun c7 H7 _ e7 h7 => ?_
    walk_at "r"
    have R1 : Rat a.C_Ratio H7 m t1 b1 := by walk_at "rat"
    have R2 : Rat a.C_Ratio H7 m2 t2 b2 := by walk_at "rat"
    refine own2_leaf R1 R2 s1 s2 s3 s4 fun qa Ha ua la ea ra na => ?_
    walk_at "r"
    refine own2_leaf (by walk_at "rat") (by walk_at "rat") s1 s2 s3 s4 fun qs Hs us ls es rs ns => ?_
    walk_at "r"
    refine own2_leaf (by walk_at "rat") (by walk_at "rat") s1 s2 s3 s4 fun qm Hm um lm em rm nm => ?_
    walk_at "r"
    refine neg_leaf (by walk_at "rat") s2 fun qn Hn en rn => ?_
    walk_at "r"
    refine w_newL (by show 4 ≤ 100000; decide) fun l8 H8 _ e8 h8 => ?_
    walk_at "r"
    have rats : ∀ (i : Nat) (x : V), ([V.ref qa, V.ref qs, V.ref qm, V.ref qn] : List V)[i]? = some x → ∃ q t b, x = V.ref q ∧ ([(ua, la), (us, ls), (um, lm), (-t1, b1)] : List (Int × Int))[i]? = some (t, b) ∧ Rat a.C_Ratio H8 q t b := by
      intro i x hx
      match i, hx with
      | 0, hx => cases hx; exact ⟨_, _, _, rfl, rfl, by walk_at "rat"⟩
      | 1, hx => cases hx; exact ⟨_, _, _, rfl, rfl, by walk_at "rat"⟩
      | 2, hx => cases hx; exact ⟨_, _, _, rfl, rfl, by walk_at "rat"⟩
      | 3, hx => cases hx; exact ⟨_, _, _, rfl, rfl, by walk_at "rat"⟩
    refine lc_each (fun i v H' => ∀ t b, ([(ua, la), (us, ls), (um, lm), (-t1, b1)] : List (Int × Int))[i]? = some (t, b) → ∃ q, v = V.ref q ∧ H' q = some (.tup [.int t, .int b])) (fun i v H H' e h t b ht => ?_) h8 (by show 4 ≤ 1000; decide) (fun _ => rfl) (fun i x H' hx e' Q' kq => ?_) (fun D9 ys H9 n9 e9 h9 hlen hP => ?_)
    · obtain ⟨q, rfl, hq⟩ := h t b ht
      exact ⟨q, rfl, e.tup hq⟩
    · obtain ⟨q, t, b, rfl, ht, r⟩ := rats i x hx
      walk_at "r"
      refine parts_leaf (r.same e') fun q' H'' _ e'' h'' => ?_
      refine kq _ _ e'' fun t' b' ht' => ?_
      rw [ht] at ht'
      cases ht'
      exact ⟨q', rfl, h''⟩
    · obtain ⟨v0, v1, v2, v3, rfl⟩ : ∃ v0 v1 v2 v3, ys = [v0, v1, v2, v3] := match ys, hlen with | [_, _, _, _], _ => ⟨_, _, _, _, rfl⟩
      obtain ⟨f0, rfl, hf0⟩ := hP 0 _ rfl _ _ rfl
      obtain ⟨f1, rfl, hf1⟩ := hP 1 _ rfl _ _ rfl
      obtain ⟨f2, rfl, hf2⟩ := hP 2 _ rfl _ _ rfl
      obtain ⟨f3, rfl, hf3⟩ := hP 3 _ rfl _ _ rfl
      have BD : B * D ≠ 0 := Int.mul_ne_zero (by omega) (by omega)
      have yBD : Sz 3000 (B * D) := (yB.mul yD).mono (by decide)
      have z1 : Sz 3000 (A * D + C * B) := ((yA.mul yD).add (yC.mul yB)).mono (by decide)
      have z2 : Sz 3000 (A * D - C * B) := ((yA.mul yD).sub (yC.mul yB)).mono (by decide)
      have z3 : Sz 3000 (A * C) := (yA.mul yC).mono (by decide)
      have z4 : Sz 3000 (0 - A) := by rw [Int.zero_sub]; exact w1.neg
      have q1 := n1.eq
      have q2 := n2.eq
      have bb : b1 * b2 ≠ 0 := Int.mul_ne_zero (by have := n1.pos; omega) (by have := n2.pos; omega)
      walk_at "r"
      refine low_leaf BD z1 yBD fun g0 H10 x y _ e10 g10 m10 => ?_
      obtain ⟨rfl, rfl⟩ := na.uniq m10 bb BD (by grind)
      walk_at "r"
      refine low_leaf BD z2 yBD fun g1 H11 x y _ e11 g11 m11 => ?_
      obtain ⟨rfl, rfl⟩ := ns.uniq m11 bb BD (by grind)
      walk_at "r"
      refine w_newL (by show 2 ≤ 100000; decide) fun l12 H12 n12 e12 h12 => ?_
      have hF : H12 D9 = some (.lst [.ref f0, .ref f1, .ref f2, .ref f3]) := by walk_at "at"
      have hne : D9 ≠ l12 := ne_of_none (show H11 D9 = some (.lst [.ref f0, .ref f1, .ref f2, .ref f3]) by walk_at "at") n12
      walk_at "r"
      refine ⟨.inl ⟨rfl, _, SqL.of h12⟩, ?_⟩
      walk_at "r"
      refine low_leaf BD z3 yBD fun g2 H13 x y _ e13 g13 m13 => ?_
      obtain ⟨rfl, rfl⟩ := nm.uniq m13 bb BD (by grind)
      walk_at "r"
      refine w_app (e13 _ _ h12) (by show 2 ≤ 1000; decide) fun H14 G14 => ?_
      have P14 : H14 p1 = some (.tup [.int A, .int B]) := G14.same.tup (by walk_at "at")
      walk_at "r"
      refine ⟨.inl ⟨rfl, _, SqL.of G14.at_⟩, ?_⟩
      walk_at "r"
      refine low_leaf (by omega) z4 w2 fun g3 H15 x y _ e15 g15 m15 => ?_
      have nn : Nrm (-A) B (-t1) b1 := ⟨n1.pos, by show Nat.gcd (-t1).natAbs b1.natAbs = 1; rw [Int.natAbs_neg]; exact n1.cop, by have := n1.eq; grind⟩
      obtain ⟨rfl, rfl⟩ := nn.uniq m15 (by omega) (by omega) (by grind)
      walk_at "r"
      refine w_app (e15 _ _ G14.at_) (by show 3 ≤ 1000; decide) fun H16 G16 => ?_
      have P16a : H16 p1 = some (.tup [.int A, .int B]) := G16.same.tup (e15 _ _ P14)
      have P16b : H16 p2 = some (.tup [.int C, .int D]) := G16.same.tup (e15 _ _ (G14.same.tup (by walk_at "at")))
      have P16c : H16 c7 = some (.tup [.int (A * D), .int (C * B)]) := G16.same.tup (e15 _ _ (G14.same.tup (by walk_at "at")))
      have G16a : ∀ q l, H13 q = some (.tup l) → H16 q = some (.tup l) := fun q l h => G16.same.tup (e15 _ _ (G14.same.tup h))
      have hF16 : H16 D9 = some (.lst [.ref f0, .ref f1, .ref f2, .ref f3]) := G16.keep _ _ hne (e15 _ _ (G14.keep _ _ hne (e13 _ _ hF)))
      have S16 : Same H H16 := fun c o hc => by
        have h11 : H11 c = some o := by walk_at "at"
        have cn := ne_of_none h11 n12
        exact G16.keep _ _ cn (e15 _ _ (G14.keep _ _ cn (e13 _ _ (e12 _ _ h11))))
      walk_at "r"
      -- the two lists are the same data
      refine ⟨.list [.tuple [.int ua, .int la], .tuple [.int us, .int ls], .tuple [.int um, .int lm], .tuple [.int (-t1), .int b1]], _,
        .lst (SqL.of hF16) (.cons (dp2 (G16a _ _ (by walk_at "at"))) (.cons (dp2 (G16a _ _ (by walk_at "at"))) (.cons (dp2 (G16a _ _ (by walk_at "at"))) (.cons (dp2 (G16a _ _ (by walk_at "at"))) .nil)))),
        .lst (SqL.of G16.at_) (.cons (dp2 (G16a _ _ (by walk_at "at"))) (.cons (dp2 (G16a _ _ (by walk_at "at"))) (.cons (dp2 (G16a _ _ (by walk_at "at"))) (.cons (dp2 (G16.same.tup (by walk_at "at"))) .nil)))), rfl, rfl, ?_⟩
      rw [SeqAt.eqv_refl _ (by rfl)]
      walk_at "r"
      refine iteF ?_
      walk_at "r"
      -- compared
      have R1' : Rat a.C_Ratio H16 m t1 b1 := by walk_at "rat"
      have R2' : Rat a.C_Ratio H16 m2 t2 b2 := by walk_at "rat"
      obtain ⟨dm, hm⟩ := R1'.ob
      refine ⟨m, dm, _, rfl, hm, rfs_no _ _ (by decide +kernel) (by decide +kernel), ?_⟩
      walk_at "r"
      refine ⟨m, .ref m2, t1, b1, t2, b2, rfl, R1', .inr ⟨m2, rfl, R2'⟩, s1, s2, s3, s4, fun H17 e17 => ?_⟩
      have ck := cmp_same (A := A * D) (B := C * B) (X := t1 * b2) (Y := t2 * b1) (M := b1 * b2) (N := B * D) (Int.mul_pos n1.pos n2.pos) (Int.mul_pos B0 D0) (by grind) (by grind)
      have oe := ord_eq ck.1 ck.2
      walk_at "r"
      refine iteNS (congrArg V.int oe) ?_
      walk_at "r"
      have eqv : (t1 = t2 ∧ b1 = b2) ↔ A * D = C * B := by
        constructor
        · rintro ⟨rfl, rfl⟩
          grind
        · intro e
          exact n1.uniq n2 (by omega) (by omega) (by grind)
      refine eqq_leaf T (R1'.same e17) (R2'.same e17) fun k1 H18 e18 i1 => ?_
      obtain rfl : k1 = decide (A * D = C * B) := by
        rw [Bool.eq_iff_iff, i1, eqv, decide_eq_true_iff]
      walk_at "r"
      rw [if_neg (by simp)]
      walk_at "r"
      refine neq_leaf (R1'.same (e17.trans e18)) (R2'.same (e17.trans e18)) fun k2 H19 e19 i2 => ?_
      obtain rfl : k2 = decide (A * D = C * B) := by
        rw [Bool.eq_iff_iff, i2, eqv, decide_eq_true_iff]
      walk_at "r"
      refine eqq_leaf T (R1'.same ((e17.trans e18).trans e19)) (R2'.same ((e17.trans e18).trans e19)) fun k3 H20 e20 i3 => ?_
      obtain rfl : k3 = decide (A * D = C * B) := by
        rw [Bool.eq_iff_iff, i3, eqv, decide_eq_true_iff]
      walk_at "r"
      rw [if_neg (by simp)]
      walk_at "r"
      by_cases hC : C = 0
      · rw [if_pos (by simp [hC])]
        walk_at "r"
        exact k _ (S16.trans (((e17.trans e18).trans e19).trans e20))
      · rw [if_neg (by simp [hC])]
        walk_at "r"
        have e20' := ((e17.trans e18).trans e19).trans e20
        have R1'' := R1'.same e20'
        have R2'' := R2'.same e20'
        obtain ⟨dm2, hm2⟩ := R1''.ob
        refine ⟨m, dm2, _, rfl, hm2, rfs_no _ _ (by decide +kernel) (by decide +kernel), ?_⟩
        walk_at "r"
        have t20 : t2 ≠ 0 := fun e => hC (by have := n2.pos; have q := n2.eq; rw [e, Int.zero_mul] at q; exact (Int.mul_eq_zero.mp q.symm).resolve_right (by omega))
        refine ⟨m, .ref m2, t1, b1, t2, b2, rfl, R1'', .inr ⟨m2, rfl, R2''⟩, s1, s2, s3, s4, t20, fun q21 H21 u l e21 r21 n21 => ?_⟩
        walk_at "r"
        refine parts_leaf r21 fun q22 H22 _ e22 h22 => ?_
        have e22' := (e20'.trans e21).trans e22
        have P16c' := e22' _ _ P16c
        have P16a' := e22' _ _ P16a
        have P16b' := e22' _ _ P16b
        have BC : B * C ≠ 0 := Int.mul_ne_zero (by omega) hC
        walk_at "r"
        refine low_leaf BC ((yA.mul yD).mono (by decide)) ((yB.mul yC).mono (by decide)) fun q23 H23 x y _ e23 h23 n23 => ?_
        obtain ⟨rfl, rfl⟩ := n21.uniq n23 (Int.mul_ne_zero t20 (by have := n1.pos; omega)) BC (by grind)
        refine eq2 (e23 _ _ h22) h23 ?_
        exact k _ (S16.trans (e22'.trans e23))
end
end RK1


namespace RK1
open PySem PySem.Spec L2 RK
section
variable {P : Program} {w : World} {K : PySem.W.Frag} {mg : Str → Option Value} {base : Heap} {a : Ad}
theorem oAddqi {X : Cx} (T : Txt X.K X.mg a) (hr : Room 5 X.A) : OpR X (binaryOp .Add) (rOwnI a.C_Ratio (spAdd a.C_Ratio) E0) := by
  obtain ⟨_, h1⟩ := T.iAdd
  obtain ⟨_, h2⟩ := T.iRadd
  exact op_ownI T.sf T.me_Ratio_add.at_ T.me_Ratio_add.fn T.me_Ratio_radd.at_ (.inr ⟨_, rfl⟩) h1 h2 T.sIR (ok_Ratio_add T) hr T.b_Ratio_add pass0
theorem oSubqi {X : Cx} (T : Txt X.K X.mg a) (hr : Room 6 X.A) : OpR X (binaryOp .Sub) (rOwnI a.C_Ratio (spSub a.C_Ratio) E0) := by
  obtain ⟨_, h1⟩ := T.iSub
  obtain ⟨_, h2⟩ := T.iRsub
  exact op_ownI T.sf T.me_Ratio_sub.at_ T.me_Ratio_sub.fn T.me_Ratio_rsub.at_ (.inr ⟨_, rfl⟩) h1 h2 T.sIR (ok_Ratio_sub T) hr T.b_Ratio_sub pass0
theorem oMultqi {X : Cx} (T : Txt X.K X.mg a) (hr : Room 5 X.A) : OpR X (binaryOp .Mult) (rOwnI a.C_Ratio (spMul a.C_Ratio) E0) := by
  obtain ⟨_, h1⟩ := T.iMul
  obtain ⟨_, h2⟩ := T.iRmul
  exact op_ownI T.sf T.me_Ratio_mul.at_ T.me_Ratio_mul.fn T.me_Ratio_rmul.at_ (.inr ⟨_, rfl⟩) h1 h2 T.sIR (ok_Ratio_mul T) hr T.b_Ratio_mul pass0
theorem oAddiq {X : Cx} (T : Txt X.K X.mg a) (hr : Room 6 X.A) : OpR X (binaryOp .Add) (rIOwn a.C_Ratio (spRadd a.C_Ratio) E0) :=
  op_Iown T.sf T.me_Ratio_add.at_ T.me_Ratio_radd.at_ T.me_Ratio_radd.fn T.sRI PySem.F.fills_int_add PySem.F.slot_int_add PySem.F.entry_int_add PySem.F.args_int_add_2 (fun i t x => PySem.RkX.dec_add i t) (ok_Ratio_radd T) hr T.b_Ratio_radd pass0
theorem oSubiq {X : Cx} (T : Txt X.K X.mg a) (hr : Room 7 X.A) : OpR X (binaryOp .Sub) (rIOwn a.C_Ratio (spRsub a.C_Ratio) E0) :=
  op_Iown T.sf T.me_Ratio_sub.at_ T.me_Ratio_rsub.at_ T.me_Ratio_rsub.fn T.sRI PySem.F.fills_int_sub PySem.F.slot_int_sub PySem.F.entry_int_sub PySem.F.args_int_sub_2 (fun i t x => PySem.RkX.dec_sub i t) (ok_Ratio_rsub T) hr T.b_Ratio_rsub pass0
theorem oMultiq {X : Cx} (T : Txt X.K X.mg a) (hr : Room 6 X.A) : OpR X (binaryOp .Mult) (rIOwn a.C_Ratio (spRmul a.C_Ratio) E0) :=
  op_Iown T.sf T.me_Ratio_mul.at_ T.me_Ratio_rmul.at_ T.me_Ratio_rmul.fn T.sRI PySem.F.fills_int_mul PySem.F.slot_int_mul PySem.F.entry_int_mul PySem.F.args_int_mul_2 (fun i t x => PySem.RkX.dec_mul i t) (ok_Ratio_rmul T) hr T.b_Ratio_rmul pass0
theorem oEqiq {X : Cx} (T : Txt X.K X.mg a) (hr : Room 5 X.A) : OpR X (compareOp .Eq) (rIOwn a.C_Ratio (spEq X.K a.C_Ratio) E0) := op_eqIO T.me_Ratio_eq.at_ T.me_Ratio_eq.fn T.sRI (ok_Ratio_eq T) hr T.b_Ratio_eq pass0
theorem kb_Ratio_compared (T : Txt K mg a) : KBn K a.d_Ratio_compared ["self", "other"] 1 ["other"] (fun us ws => us ++ ws) (fun vs zs => vs ++ zs) := by
  obtain ⟨oc, od, kV, doc, pm, an, cdv, ct, osl, e, _⟩ := T.F_Ratio_compared.ex
  rw [e]
  exact ⟨fun s us ws _ h1 h2 => match us, ws, h1, h2 with | [_], [_], _, _ => .of_eq rfl, fun r1 r2 => r1.append r2⟩
theorem kb_Ratio_over (T : Txt K mg a) : KBn K a.d_Ratio_over ["self", "other"] 1 ["other"] (fun us ws => us ++ ws) (fun vs zs => vs ++ zs) := by
  obtain ⟨oc, od, kV, doc, pm, an, cdv, ct, osl, e, _⟩ := T.F_Ratio_over.ex
  rw [e]
  exact ⟨fun s us ws _ h1 h2 => match us, ws, h1, h2 with | [_], [_], _, _ => .of_eq rfl, fun r1 r2 => r1.append r2⟩
theorem ownI_leaf {C : Addr} {H : Hp} {Q : VK} {p : Addr} {t b n : Int} {f g : Int → Int → Int → Int → Int} (r : Rat C H p t b) (z1 : Sz 1000 t) (z2 : Sz 1000 b) (z3 : Sz 1000 n)
    (k : ∀ q H' u l, Same H H' → Rat C H' q u l → Nrm (f t b n 1) (g t b n 1) u l → Q (.ref q) H') : rOwnI C (spBin C f g) E0 (.ref p) (.int n) H Q := by
  obtain ⟨dx, h1⟩ := r.ob
  exact ⟨p, dx, _, n, rfl, rfl, h1, p, .int n, t, b, n, 1, rfl, r, .inl ⟨rfl, rfl⟩, z1, z2, z3, Sz.one, k⟩
theorem Iown_leaf {C : Addr} {H : Hp} {Q : VK} {p : Addr} {t b n : Int} {f g : Int → Int → Int → Int → Int} (r : Rat C H p t b) (z1 : Sz 1000 t) (z2 : Sz 1000 b) (z3 : Sz 1000 n)
    (k : ∀ q H' u l, Same H H' → Rat C H' q u l → Nrm (f t b n 1) (g t b n 1) u l → Q (.ref q) H') : rIOwn C (spBin C f g) E0 (.int n) (.ref p) H Q := by
  obtain ⟨dx, h1⟩ := r.ob
  exact ⟨p, dx, _, n, rfl, rfl, h1, p, .int n, t, b, n, 1, rfl, r, .inl ⟨rfl, rfl⟩, z1, z2, z3, Sz.one, k⟩
theorem eqi_leaf (T : Txt K mg a) {H : Hp} {Q : VK} {p : Addr} {t b n : Int} (r : Rat a.C_Ratio H p t b) (k : ∀ k H', Same H H' → (k = true ↔ t = n ∧ b = 1) → Q (.bl k) H') :
    rEqO K a.C_Ratio (spEq K a.C_Ratio) E0 (.ref p) (.int n) H Q := by
  obtain ⟨dx, h⟩ := r.ob
  exact ⟨p, dx, _, .type "int", rfl, h, .base (.int _), T.nfI, p, .int n, t, b, rfl, r, .inl ⟨n, 1, .inl ⟨rfl, rfl⟩, k⟩⟩
theorem ieq_leaf {H : Hp} {Q : VK} {p : Addr} {t b n : Int} (r : Rat a.C_Ratio H p t b) (k : ∀ k H', Same H H' → (k = true ↔ t = n ∧ b = 1) → Q (.bl k) H') :
    rIOwn a.C_Ratio (spEq K a.C_Ratio) E0 (.int n) (.ref p) H Q := by
  obtain ⟨dx, h⟩ := r.ob
  exact ⟨p, dx, _, n, rfl, rfl, h, p, .int n, t, b, rfl, r, .inl ⟨n, 1, .inl ⟨rfl, rfl⟩, k⟩⟩
theorem _root_.RK.Nrm.to {u l u' l' x y : Int} (n : Nrm u l x y) (h : u * l' = u' * l) (hl : l ≠ 0) : Nrm u' l' x y :=
  ⟨n.pos, n.cop, Int.eq_of_mul_eq_mul_right hl (by have := n.eq; grind)⟩
theorem atI_z {α : Type} {xs : List α} {i : Nat} {v : α} (h : xs[i]? = some v) : atI xs (0 + (i : Int)) = some v := by
  have hl := (List.getElem?_eq_some_iff.mp h).1
  unfold atI ixN
  rw [if_pos (by omega), if_pos (by omega)]
  show xs[(0 + (i : Int)).toNat]? = some v
  rw [Int.zero_add, Int.toNat_natCast]
  exact h
theorem eqT_leaf (T : Txt K mg a) {H : Hp} {Q : VK} {p q : Addr} {t b : Int} {xs : List V} (r : Rat a.C_Ratio H p t b) (h : H q = some (.tup xs)) (k : Q (.bl false) H) :
    rEqO K a.C_Ratio (spEq K a.C_Ratio) E0 (.ref p) (.ref q) H Q := by
  obtain ⟨dx, hp⟩ := r.ob
  exact ⟨p, dx, _, .type "tuple", rfl, hp, .base (.tup h), T.nfT, p, .ref q, t, b, rfl, r, .inr ⟨⟨.type "tuple", false, false, .base (.tup h), T.kTR, rfl, rfl, rfl⟩, k⟩⟩
/-- for a name over range: the other names stay -/
theorem w_forR {W : TI} {lo : Int} {n j : Nat} {tb : TS} {D : Ends} {σ : L2.St} {H : Hp} (Iv : Nat → Hp → Prop) (o0 : Option V) (hj : σ = σ.set j o0) (hwi : ∀ R : It → Hp → Prop, R (Itr lo n) H → W σ H R) (h0 : Iv 0 H)
    (hs : ∀ i H', i < n → Iv i H' → tb { D with nx := fun σ' H' => Iv (i + 1) H' ∧ ∃ o, σ' = σ.set j o, ct := fun σ' H' => Iv (i + 1) H' ∧ ∃ o, σ' = σ.set j o, bk := D.nx } (σ.set j (some (.int (lo + i)))) H')
    (hd : ∀ o H', Iv n H' → D.nx (σ.set j o) H') : tFor W (gName j) tb D σ H :=
  hwi _ (for_range (fun i σ' H' => Iv i H' ∧ ∃ o, σ' = σ.set j o) ⟨h0, o0, hj⟩ (fun i σ' H' hi ⟨h, o, e⟩ => by
    subst e
    show tb _ ((σ.set j o).set j _) H'
    rw [List.set_set]
    exact hs i H' hi h) fun σ' H' ⟨h, o, e⟩ => by
    subst e
    exact hd o H' h)
def spWholeRight : Sp := fun vs H Q _ => ∃ (p1 : Addr) (A B N : Int), vs = [.ref p1, .int N] ∧ H p1 = some (.tup [.int A, .int B]) ∧ A.natAbs < 1000000000 ∧ N.natAbs < 1000000000 ∧ 0 < B ∧ B ≤ 60 ∧
  ∀ H', Same H H' → Q (.bl true) H'
theorem ok_whole_right (T : Txt K mg a) : FnOk P w K mg base CX0 9 a.f_whole_right a.d_whole_right ["_law_one_here", "_law_many"] spWholeRight := by
  refine T.F_whole_right.ok sc_whole_right (fun vs H Q E h => ?_) (fun cdv A outer s H vs Q E hr h => ?_)
  · obtain ⟨p1, A, B, N, rfl, _⟩ := h
    rfl
  · obtain ⟨p1, A, B, N, rfl, hp1, zA, zN, B0, B1, k⟩ := h
    refine ⟨_, (pss_cons (ps_par (i := 2) (j := 3) (by rfl) sc_whole_right.nd rfl rfl (by decide) rfl rfl (pa_cons (pe_make T.mk_Ratio (ok_Ratio_init T) (hr.mono (by decide)) (by rfl) T.m_Ratio (bd_Ratio T) .nil pass0 (pa_cons (pe_ix ix_tup (pv 0) pe_int (fun _ _ => rfl)) (pa_cons (pe_ix ix_tup (pv 0) pe_int (fun _ _ => rfl)) pa_nil))) (pa_cons (pe_op op_mulW (pv 1) (pe_ix ix_tup (pv 0) pe_int (fun _ _ => rfl))) pa_nil)) (by rfl))
      (pss_cons (ps_set (i := 4) sc_whole_right.nd rfl (Or.inl rfl) (pe_lst (pa_cons (pe_op (oAddqi T (hr.mono (by decide))) (pv 2) (pv 1)) (pa_cons (pe_op (oAddiq T (hr.mono (by decide))) (pv 1) (pv 2)) (pa_cons (pe_op (oSubqi T (hr.mono (by decide))) (pv 2) (pv 1)) (pa_cons (pe_op (oSubiq T (hr.mono (by decide))) (pv 1) (pv 2)) (pa_cons (pe_op (oMultqi T (hr.mono (by decide))) (pv 2) (pv 1)) (pa_cons (pe_op (oMultiq T (hr.mono (by decide))) (pv 1) (pv 2)) pa_nil))))))))
      (pss_cons (ps_set (i := 5) sc_whole_right.nd rfl (Or.inl rfl) (pe_lst (pa_cons (pe_op op_add (pe_ix ix_tup (pv 0) pe_int (fun _ _ => rfl)) (pv 3)) (pa_cons (pe_op op_add (pe_ix ix_tup (pv 0) pe_int (fun _ _ => rfl)) (pv 3)) (pa_cons (pe_op op_sub (pe_ix ix_tup (pv 0) pe_int (fun _ _ => rfl)) (pv 3)) (pa_cons (pe_op op_sub (pv 3) (pe_ix ix_tup (pv 0) pe_int (fun _ _ => rfl))) (pa_cons (pe_op op_mulW (pe_ix ix_tup (pv 0) pe_int (fun _ _ => rfl)) (pv 1)) (pa_cons (pe_op op_mulW (pe_ix ix_tup (pv 0) pe_int (fun _ _ => rfl)) (pv 1)) pa_nil))))))))
      (pss_cons (ps_for PassesOwn.never rfl (pi_range1 (by rfl) T.z_range (pa_cons pe_int pa_nil)) (pg_name (i := 6) sc_whole_right.nd rfl (Or.inl rfl)) (pss_one (ps_if (pt_cmpR (op_neD hr.units) (pe_call (ok_parts T) (hr.mono (by decide)) (by rfl) T.m_parts T.F_parts.kp T.b_parts .nil pass0 (pa_cons (pe_ix ix_list (pv 4) (pv 6) (fun _ _ => rfl)) pa_nil)) (pe_call (ok_lowest T) (hr.mono (by decide)) (by rfl) T.m_lowest T.F_lowest.kp T.b_lowest .nil pass0 (pa_cons (pe_ix ix_list (pv 5) (pv 6) (fun _ _ => rfl)) (pa_cons (pe_ix ix_tup (pv 0) pe_int (fun _ _ => rfl)) pa_nil))) (nomark _)) (pss_one (ps_ret pe_bl)) pss_nil)))
      (pss_cons (ps_if (pt_cmpR op_ne (pe_methK (pv 2) T.cl_Ratio T.me_Ratio_compared (ok_Ratio_compared T) (hr.mono (by decide)) (kb_Ratio_compared T) pass0 (pk_cons (pv 1) pk_nil)) (pe_op op_sub (pe_callTy cr_int1 (by rfl) T.z_int (by decide +kernel) (pa_cons (pe_cmpR op_gt (pe_ix ix_tup (pv 0) pe_int (fun _ _ => rfl)) (pv 3) (nomark _)) pa_nil)) (pe_callTy cr_int1 (by rfl) T.z_int (by decide +kernel) (pa_cons (pe_cmpR op_lt (pe_ix ix_tup (pv 0) pe_int (fun _ _ => rfl)) (pv 3) (nomark _)) pa_nil))) (nomark _)) (pss_one (ps_ret pe_bl)) pss_nil)
      (pss_cons (ps_if (PW.pt (pw_or (pt_cmpR (op_neD hr.units) (pe_lst (pa_cons (pe_cmpR (oEqqi T (hr.mono (by decide))) (pv 2) (pv 1) (nomark _)) (pa_cons (pe_cmpR (oEqiq T (hr.mono (by decide))) (pv 1) (pv 2) (nomark _)) pa_nil))) (pe_op op_rep (pe_lst (pa_cons (pe_cmpR op_eq (pe_ix ix_tup (pv 0) pe_int (fun _ _ => rfl)) (pv 3) (nomark _)) pa_nil)) pe_int) (nomark _)) (pw_or1 (pt_cmpR (oEqqT T (hr.mono (by decide))) (pv 2) (pe_tup (pa_cons (pe_fld (pv 2) rfl) (pa_cons (pe_fld (pv 2) rfl) pa_nil))) (nomark _))))) (pss_one (ps_ret pe_bl)) pss_nil)
      (pss_cons (ps_if (pt_cmpR op_eq (pv 1) pe_int (nomark _)) (pss_one (ps_ret pe_bl)) pss_nil)
      (pss_one (ps_ret (pe_cmpR (op_eqD hr.units) (pe_call (ok_parts T) (hr.mono (by decide)) (by rfl) T.m_parts T.F_parts.kp T.b_parts .nil pass0 (pa_cons (pe_methK (pv 2) T.cl_Ratio T.me_Ratio_over (ok_Ratio_over T) (hr.mono (by decide)) (kb_Ratio_over T) pass0 (pk_cons (pv 1) pk_nil)) pa_nil)) (pe_call (ok_lowest T) (hr.mono (by decide)) (by rfl) T.m_lowest T.F_lowest.kp T.b_lowest .nil pass0 (pa_cons (pe_ix ix_tup (pv 0) pe_int (fun _ _ => rfl)) (pa_cons (pe_op op_mulW (pe_ix ix_tup (pv 0) pe_int (fun _ _ => rfl)) (pv 1)) pa_nil))) (nomark _))))))))))), ?_⟩
    have yA : Sz 40 A := Nat.lt_of_lt_of_le zA (by decide)
    have yN : Sz 40 N := Nat.lt_of_lt_of_le zN (by decide)
    have yB : Sz 40 B := Sz.small (by omega)
    walk_at "r"
    refine mk_leaf B0 (yB.mono (by decide)) fun m H1 t1 b1 _ e1 r1 n1 => ?_
    walk_at "r"
    have s1 : Sz 1000 t1 := (yA.le (n1.le (by omega)).2).mono (by decide)
    have s2 : Sz 1000 b1 := (yB.le (n1.le (by omega)).1).mono (by decide)
    have s3 : Sz 1000 N := yN.mono (by decide)
    have q1 := n1.eq
    have p1' := n1.pos
    have bb : b1 * 1 ≠ 0 := by omega
    have bb' : 1 * b1 ≠ 0 := by omega
    refine ownI_leaf (by walk_at "rat") s1 s2 s3 fun f0 H2 u0 l0 e2 x0 m0 => ?_
    walk_at "r"
    refine Iown_leaf (by walk_at "rat") s1 s2 s3 fun f1 H3 u1 l1 e3 x1 m1 => ?_
    walk_at "r"
    refine ownI_leaf (by walk_at "rat") s1 s2 s3 fun f2 H4 u2 l2 e4 x2 m2 => ?_
    walk_at "r"
    refine Iown_leaf (by walk_at "rat") s1 s2 s3 fun f3 H5 u3 l3 e5 x3 m3 => ?_
    walk_at "r"
    refine ownI_leaf (by walk_at "rat") s1 s2 s3 fun f4 H6 u4 l4 e6 x4 m4 => ?_
    walk_at "r"
    refine Iown_leaf (by walk_at "rat") s1 s2 s3 fun f5 H7 u5 l5 e7 x5 m5 => ?_
    walk_at "r"
    refine w_newL (by show 6 ≤ 100000; decide) fun l8 H8 _ e8 h8 => ?_
    walk_at "r"
    refine w_newL (by show 6 ≤ 100000; decide) fun l9 H9 _ e9 h9 => ?_
    have w0 : Nrm (A + N * B) B u0 l0 := m0.to (by grind) bb
    have w1 : Nrm (A + N * B) B u1 l1 := m1.to (by grind) bb'
    have w2 : Nrm (A - N * B) B u2 l2 := m2.to (by grind) bb
    have w3 : Nrm (N * B - A) B u3 l3 := m3.to (by grind) bb'
    have w4 : Nrm (A * N) B u4 l4 := m4.to (by grind) bb
    have w5 : Nrm (A * N) B u5 l5 := m5.to (by grind) bb'
    have yNB := yN.mul yB
    have z0 : Sz 3000 (A + N * B) := (Sz.add (yA.mono (by decide)) yNB).mono (by decide)
    have z2 : Sz 3000 (A - N * B) := (Sz.sub (yA.mono (by decide)) yNB).mono (by decide)
    have z3 : Sz 3000 (N * B - A) := (yNB.sub (yA.mono (by decide))).mono (by decide)
    have z4 : Sz 3000 (A * N) := (yA.mul yN).mono (by decide)
    have all : ∀ i : Nat, i < 6 → ∃ q u l d, ([.ref f0, .ref f1, .ref f2, .ref f3, .ref f4, .ref f5] : List V)[i]? = some (.ref q) ∧ ([.int (A + N * B), .int (A + N * B), .int (A - N * B), .int (N * B - A), .int (A * N), .int (A * N)] : List V)[i]? = some (.int d) ∧
        Rat a.C_Ratio H9 q u l ∧ Nrm d B u l ∧ Sz 3000 d := fun i hi => match i, hi with
      | 0, _ => ⟨_, _, _, _, rfl, rfl, by walk_at "rat", w0, z0⟩
      | 1, _ => ⟨_, _, _, _, rfl, rfl, by walk_at "rat", w1, z0⟩
      | 2, _ => ⟨_, _, _, _, rfl, rfl, by walk_at "rat", w2, z2⟩
      | 3, _ => ⟨_, _, _, _, rfl, rfl, by walk_at "rat", w3, z3⟩
      | 4, _ => ⟨_, _, _, _, rfl, rfl, by walk_at "rat", w4, z4⟩
      | 5, _ => ⟨_, _, _, _, rfl, rfl, by walk_at "rat", w5, z4⟩
    have R9 : Rat a.C_Ratio H9 m t1 b1 := by walk_at "rat"
    have P9 : H9 p1 = some (.tup [.int A, .int B]) := by walk_at "at"
    have S9 : Same H H9 := fun c o hc => by walk_at "at"
    walk_at "r"
    refine w_forR (lo := 0) (n := 6) (fun _ H' => Same H9 H') none rfl (fun R h => ⟨6, rfl, by decide, by decide, h⟩) (w_same H9) (fun i Hi hi ei => ?_) (fun o H10 e10 => ?_)
    · have ei : Same H9 Hi := ei
      obtain ⟨q, u, l, d, ex, ey, rq, nq, zq⟩ := all i hi
      have h8i : Hi l8 = _ := ei _ _ (e9 _ _ h8)
      have h9i : Hi l9 = _ := ei _ _ h9
      walk_at "r"
      refine w_ixL h8i (atI_z ex) ?_
      walk_at "r"
      refine parts_leaf (rq.same ei) fun q9 H11 _ e11 h11 => ?_
      walk_at "r"
      refine w_ixL (e11 _ _ h9i) (atI_z ey) ?_
      walk_at "r"
      refine low_leaf (by omega) zq (yB.mono (by decide)) fun q10 H12 x y _ e12 h12 n12 => ?_
      obtain ⟨rfl, rfl⟩ := nq.uniq n12 (by omega) (by omega) rfl
      refine ne2 (by walk_at "at") h12 ?_
      walk_at "r"
      refine iteF ?_
      walk_at "r"
      exact ⟨(ei.trans e11).trans e12, _, rfl⟩
    · have e10 : Same H9 H10 := e10
      walk_at "r"
      have R10 : Rat a.C_Ratio H10 m t1 b1 := R9.same e10
      obtain ⟨dm, hm⟩ := R10.ob
      refine ⟨m, dm, _, rfl, hm, rfs_no _ _ (by decide +kernel) (by decide +kernel), ?_⟩
      walk_at "r"
      refine ⟨rfl, m, .int N, t1, b1, N, 1, rfl, R10, .inl ⟨rfl, rfl⟩, s1, s2, s3, Sz.one, fun H11 e11 => ?_⟩
      have P11 : H11 p1 = some (.tup [.int A, .int B]) := e11 _ _ (e10 _ _ P9)
      have ck := cmp_same (A := A) (B := N * B) (X := t1 * 1) (Y := N * b1) (M := b1) (N := B) (by omega) (by omega) (by grind) (by grind)
      have oe := ord_eq ck.1 ck.2
      walk_at "r"
      refine iteNS (congrArg V.int oe) ?_
      walk_at "r"
      have eqv : (t1 = N ∧ b1 = 1) ↔ A = N * B := by
        constructor
        · rintro ⟨rfl, rfl⟩
          grind
        · intro e
          exact n1.uniq (u' := N) (l' := 1) (x' := N) (y' := 1) ⟨by decide, Int.gcd_one_right .., rfl⟩ (by omega) (by decide) (by grind)
      have R11 : Rat a.C_Ratio H11 m t1 b1 := R10.same e11
      refine eqi_leaf T R11 fun k1 H12 e12 i1 => ?_
      obtain rfl : k1 = decide (A = N * B) := by
        rw [Bool.eq_iff_iff, i1, eqv, decide_eq_true_iff]
      walk_at "r"
      have R12 : Rat a.C_Ratio H12 m t1 b1 := R11.same e12
      refine ieq_leaf R12 fun k1 H13 e13 i1 => ?_
      obtain rfl : k1 = decide (A = N * B) := by
        rw [Bool.eq_iff_iff, i1, eqv, decide_eq_true_iff]
      walk_at "r"
      refine w_newL (by show 2 ≤ 100000; decide) fun l14 H14 _ e14 h14 => ?_
      have P14 : H14 p1 = some (.tup [.int A, .int B]) := e14 _ _ (e13 _ _ (e12 _ _ P11))
      walk_at "r"
      rw [show decide (V.int A = V.int (N * B)) = decide (A = N * B) from by simp]
      refine w_newL (by show 1 ≤ 100000; decide) fun l15 H15 _ e15 h15 => ?_
      walk_at "r"
      refine ⟨l15, 2, _, rfl, rfl, h15, by decide, by decide, by show 1 * 2 ≤ sizeLine; decide, fun l16 n16 => ?_⟩
      have e16 := w_new (o := .lst (List.replicate (2 : Int).toNat [V.bl (decide (A = N * B))]).flatten) n16
      show rNeD K _ _ _ _
      have h16 : upd H15 l16 (.lst [V.bl (decide (A = N * B)), V.bl (decide (A = N * B))]) l16 = some (.lst [V.bl (decide (A = N * B)), V.bl (decide (A = N * B))]) := upd_same
      refine ⟨.list [.bool (decide (A = N * B)), .bool (decide (A = N * B))], _, .lst (SqL.of (e16 _ _ (e15 _ _ h14))) (.cons (.bl _) (.cons (.bl _) .nil)), .lst (SqL.of h16) (.cons (.bl _) (.cons (.bl _) .nil)), rfl, rfl, ?_⟩
      rw [SeqAt.eqv_refl _ (by rfl)]
      have R16 := (((R12.same e13).same e14).same e15).same e16
      have P16 := e16 _ _ (e15 _ _ P14)
      walk_at "r"
      refine iteF ?_
      walk_at "r"
      refine top_leaf T R16 ?_
      walk_at "r"
      refine bot_leaf T R16 ?_
      walk_at "r"
      refine w_newT (by show 2 ≤ 100000; decide) fun l17 H17 _ e17 h17 => ?_
      walk_at "r"
      refine eqT_leaf T (R16.same e17) h17 ?_
      have R17 := R16.same e17
      have P17 := e17 _ _ P16
      have S17 : Same H H17 := (((((((S9.trans e10).trans e11).trans e12).trans e13).trans e14).trans e15).trans e16).trans e17
      walk_at "r"
      refine iteF ?_
      walk_at "r"
      by_cases hN : N = 0
      · rw [if_pos (by simp [hN])]
        walk_at "r"
        exact k _ S17
      · rw [if_neg (by simp [hN])]
        walk_at "r"
        obtain ⟨dm2, hm2⟩ := R17.ob
        refine ⟨m, dm2, _, rfl, hm2, rfs_no _ _ (by decide +kernel) (by decide +kernel), ?_⟩
        walk_at "r"
        refine ⟨rfl, m, .int N, t1, b1, N, 1, rfl, R17, .inl ⟨rfl, rfl⟩, s1, s2, s3, Sz.one, hN, fun q21 H21 u l e21 r21 n21 => ?_⟩
        walk_at "r"
        refine parts_leaf r21 fun q22 H22 _ e22 h22 => ?_
        have P22 := e22 _ _ (e21 _ _ P17)
        have BN : B * N ≠ 0 := Int.mul_ne_zero (by omega) hN
        walk_at "r"
        refine low_leaf BN (yA.mono (by decide)) ((yB.mul yN).mono (by decide)) fun q23 H23 x y _ e23 h23 n23 => ?_
        obtain ⟨rfl, rfl⟩ := n21.uniq n23 (Int.mul_ne_zero hN (by omega)) BN (by grind)
        refine eq2 (e23 _ _ h22) h23 ?_
        exact k _ (((S17.trans e21).trans e22).trans e23)
end
end RK1


namespace RK1
open PySem PySem.Spec L2 RK
section
variable {P : Program} {w : World} {K : PySem.W.Frag} {mg : Str → Option Value} {base : Heap} {a : Ad}
theorem w_forA {W : TI} {lo : Int} {n : Nat} {g : TG} {tb : TS} {D : Ends} {σ : L2.St} {H : Hp} (Pv : Nat → L2.St → Hp → Prop) (hwi : ∀ R : It → Hp → Prop, R (Itr lo n) H → W σ H R) (h0 : Pv 0 σ H)
    (hs : ∀ i σ H, i < n → Pv i σ H → g (.int (lo + i)) σ H fun σ2 H2 => tb { D with nx := Pv (i + 1), ct := Pv (i + 1), bk := D.nx } σ2 H2) (hd : ∀ σ H, Pv n σ H → D.nx σ H) : tFor W g tb D σ H := hwi _ (for_range Pv h0 hs hd)
theorem pair_leaf {H : Hp} {Q : VK} {E : XK} {b : Addr} (h : Bag H b) (k : ∀ p H' u l, H p = none → Kp b H H' → H' p = some (.tup [.int u, .int l]) → u.natAbs < 1000000000 → 0 < l → l ≤ 60 → Q (.ref p) H') : spPair [.ref b] H Q E := ⟨b, rfl, h, k⟩
def spRight : Sp := fun vs H Q _ => ∃ b, vs = [.ref b] ∧ Bag H b ∧ ∀ H', Kp b H H' → Q (.bl true) H'
theorem ok_right (T : Txt K mg a) : FnOk P w K mg base CX0 10 a.f_right a.d_right ["_law_bag_here"] spRight := by
  refine T.F_right.ok sc_right (fun vs H Q E h => ?_) (fun cdv A outer s H vs Q E hr h => ?_)
  · obtain ⟨b, rfl, _⟩ := h
    rfl
  · obtain ⟨b, rfl, hb, k⟩ := h
    refine ⟨_, (pss_cons (ps_for PassesOwn.never rfl (pi_range1 (by rfl) T.z_range (pa_cons pe_int pa_nil)) (pg_name (i := 1) sc_right.nd rfl (Or.inl rfl)) (pss_cons (ps_par (i := 2) (j := 3) (by rfl) sc_right.nd rfl rfl (by decide) rfl rfl (pa_cons (pe_call (ok_pair T) (hr.mono (by decide)) (by rfl) T.m_pair T.F_pair.kp T.b_pair .nil pass0 (pa_cons (pv 0) pa_nil)) (pa_cons (pe_call (ok_pair T) (hr.mono (by decide)) (by rfl) T.m_pair T.F_pair.kp T.b_pair .nil pass0 (pa_cons (pv 0) pa_nil)) pa_nil)) (by rfl))
      (pss_one (ps_if (PW.pt (pw_or (pt_not (pt_val (pe_call (ok_pair_right T) (hr.mono (by decide)) (by rfl) T.m_pair_right T.F_pair_right.kp T.b_pair_right .nil pass0 (pa_cons (pv 2) (pa_cons (pv 3) pa_nil))))) (pw_or1 (pt_not (pt_val (pe_call (ok_whole_right T) (hr.mono (by decide)) (by rfl) T.m_whole_right T.F_whole_right.kp T.b_whole_right .nil pass0 (pa_cons (pv 2) (pa_cons (pe_ix ix_tup (pv 3) pe_int (fun _ _ => rfl)) pa_nil)))))))) (pss_one (ps_ret pe_bl)) pss_nil))))
      (pss_one (ps_ret pe_bl))), ?_⟩
    walk_at "r"
    refine w_forA (lo := 0) (n := 10) (fun _ σ' H' => Kp b H H' ∧ ∃ o1 o2 o3, σ' = [some (.ref b), o1, o2, o3]) (fun R h => ⟨10, rfl, by decide, by decide, h⟩) ⟨.refl hb, none, none, none, rfl⟩ (fun i σ' Hi hi ⟨ki, o1, o2, o3, es⟩ => ?_) (fun σ' Hi ⟨ki, o1, o2, o3, es⟩ => ?_)
    · subst es
      show tSeq _ _ _ _ _
      walk_at "r"
      refine pair_leaf ki.bag' fun p1 H1 A B _ k1 h1 zA B0 B1 => ?_
      walk_at "r"
      refine pair_leaf k1.bag' fun p2 H2 C D _ k2 h2 zC D0 D1 => ?_
      have h12 := k2.tup h1
      walk_at "r"
      refine ⟨p1, p2, A, B, C, D, rfl, h12, h2, zA, zC, B0, B1, D0, D1, fun H3 e3 => ?_⟩
      walk_at "r"
      rw [if_neg (by decide)]
      walk_at "r"
      refine ⟨p1, A, B, C, rfl, e3 _ _ h12, zA, zC, B0, B1, fun H4 e4 => ?_⟩
      walk_at "r"
      rw [if_neg (by decide)]
      walk_at "r"
      exact ⟨(((ki.trans k1).trans k2).same e3).same e4, _, _, _, rfl⟩
    · subst es
      walk_at "r"
      exact k _ ki
theorem right_leaf {H : Hp} {Q : VK} {E : XK} {b : Addr} (h : Bag H b) (k : ∀ H', Kp b H H' → Q (.bl true) H') : spRight [.ref b] H Q E := ⟨b, rfl, h, k⟩
theorem eqb_leaf (T : Txt K mg a) {H : Hp} {Q : VK} {p : Addr} {t b : Int} {z : Bool} (r : Rat a.C_Ratio H p t b) (k : Q (.bl false) H) :
    rEqO K a.C_Ratio (spEq K a.C_Ratio) E0 (.ref p) (.bl z) H Q := by
  obtain ⟨dx, hp⟩ := r.ob
  exact ⟨p, dx, _, .type "bool", rfl, hp, .base (.bl z), T.nfB, p, .bl z, t, b, rfl, r, .inr ⟨⟨.type "bool", true, true, .base (.bl z), T.kBR, rfl, rfl, rfl⟩, k⟩⟩
theorem seq_same {H H' : Hp} {p : Addr} {xs : List V} (e : Same H H') (h : SqL K H p xs) : SqL K H' p xs := by
  rcases h with (h | ⟨o, h⟩) | h
  · exact .inl (.inl (e _ _ h))
  · exact .inl (.inr ⟨o, e _ _ h⟩)
  · exact .inr h
theorem all_true {K : PySem.W.Frag} {H : Hp} {Q : VK} {D : Addr} {ys : List V} (h : H D = some (.lst ys)) (hP : ∀ (i : Nat) (v : V), ys[i]? = some v → v = .bl true) (q : Q (.bl true) H) : rAll K [.ref D] H Q := by
  have e : ys = (List.replicate ys.length true).map V.bl := by
    rw [List.map_replicate]
    exact List.eq_replicate_iff.mpr ⟨rfl, fun b hb => by obtain ⟨i, hi⟩ := List.mem_iff_getElem?.mp hb; exact hP i b hi⟩
  refine ⟨D, List.replicate ys.length true, rfl, by rw [← e]; exact SqL.of h, ?_⟩
  rw [show (List.replicate ys.length true).all id = true from List.all_eq_true.mpr fun x hx => (List.mem_replicate.mp hx).2]
  exact q
def spLaw (K : PySem.W.Frag) : Sp := fun vs H Q _ => ∃ (c : Addr) (ns : List Int), vs = [.ref c] ∧ SqL K H c (ns.map V.int) ∧ ns.length ≤ 63 ∧ ∀ H', Q (.bl true) H'
theorem ok_law (T : Txt K mg a) : FnOk P w K mg base CX0 40 a.f_law a.d_law ["_law_cells"] (spLaw K) := by
  refine T.F_law.ok sc_law (fun vs H Q E h => ?_) (fun cdv A outer s H vs Q E hr h => ?_)
  · obtain ⟨c, ns, rfl, _⟩ := h
    rfl
  · obtain ⟨c, ns, rfl, hc, hl, k⟩ := h
    obtain ⟨ds, vd1, bd1⟩ := bd1_Ratio T
    refine ⟨_, (pss_cons (ps_set (i := 1) sc_law.nd rfl (Or.inl rfl) (pe_make T.mk_Ratio (ok_Ratio_init T) (hr.mono (by decide)) (by rfl) T.m_Ratio (bd_Ratio T) .nil pass0 (pa_cons pe_int (pa_cons pe_int pa_nil))))
      (pss_cons (ps_if (pt_cmpR (op_neD hr.units) (pe_lst (pa_cons (pe_fld (pv 1) rfl) (pa_cons (pe_fld (pv 1) rfl) (pa_cons (pe_fld (pe_make T.mk_Ratio (ok_Ratio_init T) (hr.mono (by decide)) (by rfl) T.m_Ratio (bd_Ratio T) .nil pass0 (pa_cons pe_int (pa_cons pe_int pa_nil))) rfl) (pa_cons (pe_cmpR (oEqqb T (hr.mono (by decide))) (pe_make T.mk_Ratio (ok_Ratio_init T) (hr.mono (by decide)) (by rfl) T.m_Ratio bd1 vd1 pass0 (pa_cons pe_int pa_nil)) pe_bl (nomark _)) (pa_cons (pe_cmpR (oEqqi T (hr.mono (by decide))) (pe_make T.mk_Ratio (ok_Ratio_init T) (hr.mono (by decide)) (by rfl) T.m_Ratio (bd_Ratio T) .nil pass0 (pa_cons pe_int (pa_cons pe_int pa_nil))) pe_int (nomark _)) pa_nil)))))) (pe_lst (pa_cons pe_int (pa_cons pe_int (pa_cons pe_int (pa_cons pe_bl (pa_cons pe_bl pa_nil)))))) (nomark _)) (pss_one (ps_ret pe_bl)) pss_nil)
      (pss_one (ps_ret (pe_callB (cr_all rfl) (by rfl) T.z_all (by decide +kernel) (pa_cons (pe_lc (own := [("_law_k", 2)]) (g := gName 2) (tt := tYes) rfl sc_law.nd (pi_range1 (by rfl) T.z_range (pa_cons (pe_callB (cr_max2 rfl) (by rfl) T.z_max (by decide +kernel) (pa_cons pe_int (pa_cons (pe_callB (cr_min2 rfl) (by rfl) T.z_min (by decide +kernel) (pa_cons (pe_callB cr_len (by rfl) T.z_len PySem.boot_len (pa_cons (pv 0) pa_nil)) (pa_cons pe_int pa_nil))) pa_nil))) pa_nil)) (blkOk_by (own := [("_law_k", 2)]) (N := ["_law_cells", "_law_half", "_law_k"]) (sc := defScope s_law) (by decide +kernel)) (fun _ _ _ _ _ => pg_name (i := 2) sc_law.nd rfl (Or.inl rfl)) (fun _ _ _ _ _ => pts_nil) (fun _ _ _ _ _ => by exact (pe_call (ok_right T) (hr.mono (by decide)) (by rfl) T.m_right T.F_right.kp T.b_right .nil pass0 (pa_cons (pe_call (ok_bag T) (hr.mono (by decide)) (by rfl) T.m_bag T.F_bag.kp T.b_bag .nil pass0 (pa_cons (pv 0) (pa_cons (pv 2) pa_nil))) pa_nil)))) pa_nil)))))), ?_⟩
    walk_at "r"
    refine mk_leaf (by decide) (Sz.small (by decide)) fun p1 H1 x y _ e1 r1 m1 => ?_
    obtain ⟨rfl, rfl⟩ := m1.uniq (u' := 6) (l' := 12) (x' := 1) (y' := 2) ⟨by decide, by decide, by decide⟩ (by decide) (by decide) rfl
    walk_at "r"
    refine top_leaf T r1 ?_
    walk_at "r"
    refine bot_leaf T r1 ?_
    walk_at "r"
    refine mk_leaf (by decide) (Sz.small (by decide)) fun p2 H2 x y _ e2 r2 m2 => ?_
    obtain ⟨rfl, rfl⟩ := m2.uniq (u' := 0) (l' := 7) (x' := 0) (y' := 1) ⟨by decide, by decide, by decide⟩ (by decide) (by decide) rfl
    walk_at "r"
    refine bot_leaf T r2 ?_
    walk_at "r"
    refine mk1_leaf fun p3 H3 _ e3 r3 => ?_
    walk_at "r"
    refine eqb_leaf T r3 ?_
    walk_at "r"
    refine mk_leaf (by decide) (Sz.small (by decide)) fun p4 H4 x y _ e4 r4 m4 => ?_
    obtain ⟨rfl, rfl⟩ := m4.uniq (u' := 4) (l' := 2) (x' := 2) (y' := 1) ⟨by decide, by decide, by decide⟩ (by decide) (by decide) rfl
    walk_at "r"
    refine eqi_leaf T r4 fun k5 H5 e5 i5 => ?_
    obtain rfl : k5 = true := i5.mpr ⟨rfl, rfl⟩
    walk_at "r"
    refine w_newL (by show 5 ≤ 100000; decide) fun l6 H6 n6 e6 h6 => ?_
    walk_at "r"
    refine w_newL (by show 5 ≤ 100000; decide) fun l7 H7 n7 e7 h7 => ?_
    refine ⟨.list [.int 1, .int 2, .int 1, .bool false, .bool true], _, .lst (SqL.of (e7 _ _ h6)) (.cons (.int _) (.cons (.int _) (.cons (.int _) (.cons (.bl _) (.cons (.bl _) .nil))))),
      .lst (SqL.of h7) (.cons (.int _) (.cons (.int _) (.cons (.int _) (.cons (.bl _) (.cons (.bl _) .nil))))), rfl, rfl, ?_⟩
    rw [SeqAt.eqv_refl _ (by rfl)]
    walk_at "r"
    refine iteF ?_
    walk_at "r"
    have c7 : Same H H7 := (((((e1.trans e2).trans e3).trans e4).trans e5).trans e6).trans e7
    have sq7 : SqL K H7 c (ns.map V.int) := seq_same c7 hc
    refine lc_rng (lo := 0) (n := (if (if (6 : Int) < ((ns.map V.int).length : Int) then (6 : Int) else ((ns.map V.int).length : Int)) > 2 then (if (6 : Int) < ((ns.map V.int).length : Int) then (6 : Int) else ((ns.map V.int).length : Int)) else 2).toNat) (fun i v _ => v = .bl true) (fun _ _ _ _ _ h => h) (by split <;> (try split) <;> omega) (fun R h => ?_) (fun _ => rfl) (fun i H' hi e' Q' kq => ?_) (fun D ys H8 _ e8 h8 hl8 hP => ?_)
    · show tCons _ _ _ _ _
      walk_at "r"
      refine w_lenL sq7 ?_
      walk_at "r"
      exact ⟨_, rfl, by split <;> (try split) <;> omega, by split <;> (try split) <;> omega, h⟩
    · walk_at "r"
      refine ⟨c, ns, i, by rw [Int.zero_add]; rfl, seq_same e' sq7, by revert hi; split <;> (try split) <;> omega, fun b H8 hb e8 bag => ?_⟩
      walk_at "r"
      exact right_leaf bag fun H9 k9 => kq _ _ (fun x o hx => k9.keep _ _ (ne_of_none hx hb) (e8 _ _ hx)) rfl
    · walk_at "r"
      exact all_true h8 hP (k _)
end
end RK1

namespace RK1
open PySem PySem.Spec L2 RK
theorem walk {l : PySem.W.OpenLaw} {q : Program} {loose : List Str} {XP : (Str → Option Value) → Heap → Prop} {YP : World → Heap → Prop} {d : DefRec} {K : Params → PySem.W.Frag} (hn : l.most = some 63) (hdf : d.params.defaults = []) (hd : d.name = "law")
    (hY : ∀ (w : World) (h : Heap), YP w h → (K w.params).In h)
    (F : ∀ (w : World) (mg : Str → Option Value) (h : Heap), (K w.params).In h → h.Ns mainGlobals mg → ∃ a : Ad, Txt (K w.params) mg a) :
    PySem.W.WalkO q loose XP YP l.row.toRowW d [] (fun f vs => PySem.call f vs) :=
  L2.walk_of (n := 63) (k := 40) (x := "_law_cells") (CX := fun _ => CX0) (sp := fun w => spLaw (K w.params)) hn (by decide) hdf ⟨rfl, by decide, by decide⟩ hY (fun w mg fa h KX G hmg => by
    obtain ⟨a, T⟩ := F w mg h KX G
    rw [hd, T.m_law] at hmg
    cases hmg
    refine ⟨a.d_law, fun s u => ?_, fun base _ _ => ok_law T⟩
    obtain ⟨oc, od, kV, doc, pm, an, cdv, ct, osl, e, _, _⟩ := T.F_law.ex
    rw [e]
    exact .of_eq rfl) (fun _ _ a ns hl _ hS => ⟨a, ns, rfl, hS, hl, fun _ => rfl⟩) fun _ _ _ _ _ z => z
end RK1
open PySem PySem.W PyProof.Rows
set_option maxRecDepth 100000 in
set_option maxHeartbeats 0 in
theorem PySem.Challenge.cw_slackstrings_k01_ratios_reckoned_holds : PySem.Challenge.rw_slackstrings_k01_ratios_reckoned.Holds := by
  w_on; o_law; k_head; (case hw => w_witness2)
  k_fill
  refine RK1.walk (l := PySem.Challenge.rw_slackstrings_k01_ratios_reckoned) rfl rfl rfl (fun w h Y => PySem.W.kIn_of Y) ?F
  case F =>
    intro w mg h KX G
    refine' RK1.all_mk KX G ?aC_Ratio ?pg_Ratio ?hd_Ratio ?po_Ratio ?sa_Ratio ?mk_Ratio ?kc_Ratio ?a_is_whole ?l_is_whole ?c_is_whole ?k_is_whole ?a_Ratio_init ?i_Ratio_init ?l_Ratio_init ?c_Ratio_init ?k_Ratio_init ?t_Ratio_init ?a_Ratio_eq ?i_Ratio_eq ?l_Ratio_eq ?c_Ratio_eq ?k_Ratio_eq ?a_Ratio_neg ?i_Ratio_neg ?l_Ratio_neg ?c_Ratio_neg ?k_Ratio_neg ?a_Ratio_add ?i_Ratio_add ?l_Ratio_add ?c_Ratio_add ?k_Ratio_add ?a_Ratio_radd ?i_Ratio_radd ?l_Ratio_radd ?c_Ratio_radd ?k_Ratio_radd ?a_Ratio_sub ?i_Ratio_sub ?l_Ratio_sub ?c_Ratio_sub ?k_Ratio_sub ?a_Ratio_rsub ?i_Ratio_rsub ?l_Ratio_rsub ?c_Ratio_rsub ?k_Ratio_rsub ?a_Ratio_mul ?i_Ratio_mul ?l_Ratio_mul ?c_Ratio_mul ?k_Ratio_mul ?a_Ratio_rmul ?i_Ratio_rmul ?l_Ratio_rmul ?c_Ratio_rmul ?k_Ratio_rmul ?a_Ratio_compared ?i_Ratio_compared ?l_Ratio_compared ?c_Ratio_compared ?k_Ratio_compared ?a_Ratio_over ?i_Ratio_over ?l_Ratio_over ?c_Ratio_over ?k_Ratio_over ?a_is_fraction ?l_is_fraction ?c_is_fraction ?k_is_fraction ?a_as_ratio ?l_as_ratio ?c_as_ratio ?k_as_ratio ?a_bag ?l_bag ?c_bag ?k_bag ?a_draw ?l_draw ?c_draw ?k_draw ?a_one ?l_one ?c_one ?k_one ?a_lowest ?l_lowest ?c_lowest ?k_lowest ?a_pair ?l_pair ?c_pair ?k_pair ?a_parts ?l_parts ?c_parts ?k_parts ?a_pair_right ?l_pair_right ?c_pair_right ?k_pair_right ?a_whole_right ?l_whole_right ?c_whole_right ?k_whole_right ?a_right ?l_right ?c_right ?k_right ?a_law ?l_law ?c_law ?k_law ?z_isinstance ?z_int ?z_bool ?z_len ?z_abs ?z_range ?z_all ?z_max ?z_min ?g_gcd ?h_nT ?h_nB ?h_iA ?h_iN ?h_iT ?h_iM ?h_kRI ?h_kRR ?h_kIR ?h_kBR ?h_kTR ?h_sf ?h_ne ?h_ob ?h_sRI ?h_sIR ?h_nfI ?h_nfB ?h_nfT ?h_nfR ?h_iAdd ?h_iRadd ?h_iSub ?h_iRsub ?h_iMul ?h_iRmul
    (case aC_Ratio => first | k_is | rfl)
    (case pg_Ratio => first | k_is | rfl)
    (case hd_Ratio => first | k_is | rfl)
    (case po_Ratio => first | k_is | rfl)
    (case sa_Ratio => first | k_is | rfl)
    (case mk_Ratio => first | k_is | rfl)
    (case kc_Ratio => first | k_is | rfl)
    (case a_is_whole => first | k_is | rfl)
    (case l_is_whole => first | k_is | rfl)
    (case c_is_whole => first | k_is | rfl)
    (case k_is_whole => first | k_is | rfl)
    (case a_Ratio_init => first | k_is | rfl)
    (case i_Ratio_init => first | k_is | rfl)
    (case l_Ratio_init => first | k_is | rfl)
    (case c_Ratio_init => first | k_is | rfl)
    (case k_Ratio_init => first | k_is | rfl)
    (case t_Ratio_init => first | k_is | rfl)
    (case a_Ratio_eq => first | k_is | rfl)
    (case i_Ratio_eq => first | k_is | rfl)
    (case l_Ratio_eq => first | k_is | rfl)
    (case c_Ratio_eq => first | k_is | rfl)
    (case k_Ratio_eq => first | k_is | rfl)
    (case a_Ratio_neg => first | k_is | rfl)
    (case i_Ratio_neg => first | k_is | rfl)
    (case l_Ratio_neg => first | k_is | rfl)
    (case c_Ratio_neg => first | k_is | rfl)
    (case k_Ratio_neg => first | k_is | rfl)
    (case a_Ratio_add => first | k_is | rfl)
    (case i_Ratio_add => first | k_is | rfl)
    (case l_Ratio_add => first | k_is | rfl)
    (case c_Ratio_add => first | k_is | rfl)
    (case k_Ratio_add => first | k_is | rfl)
    (case a_Ratio_radd => first | k_is | rfl)
    (case i_Ratio_radd => first | k_is | rfl)
    (case l_Ratio_radd => first | k_is | rfl)
    (case c_Ratio_radd => first | k_is | rfl)
    (case k_Ratio_radd => first | k_is | rfl)
    (case a_Ratio_sub => first | k_is | rfl)
    (case i_Ratio_sub => first | k_is | rfl)
    (case l_Ratio_sub => first | k_is | rfl)
    (case c_Ratio_sub => first | k_is | rfl)
    (case k_Ratio_sub => first | k_is | rfl)
    (case a_Ratio_rsub => first | k_is | rfl)
    (case i_Ratio_rsub => first | k_is | rfl)
    (case l_Ratio_rsub => first | k_is | rfl)
    (case c_Ratio_rsub => first | k_is | rfl)
    (case k_Ratio_rsub => first | k_is | rfl)
    (case a_Ratio_mul => first | k_is | rfl)
    (case i_Ratio_mul => first | k_is | rfl)
    (case l_Ratio_mul => first | k_is | rfl)
    (case c_Ratio_mul => first | k_is | rfl)
    (case k_Ratio_mul => first | k_is | rfl)
    (case a_Ratio_rmul => first | k_is | rfl)
    (case i_Ratio_rmul => first | k_is | rfl)
    (case l_Ratio_rmul => first | k_is | rfl)
    (case c_Ratio_rmul => first | k_is | rfl)
    (case k_Ratio_rmul => first | k_is | rfl)
    (case a_Ratio_compared => first | k_is | rfl)
    (case i_Ratio_compared => first | k_is | rfl)
    (case l_Ratio_compared => first | k_is | rfl)
    (case c_Ratio_compared => first | k_is | rfl)
    (case k_Ratio_compared => first | k_is | rfl)
    (case a_Ratio_over => first | k_is | rfl)
    (case i_Ratio_over => first | k_is | rfl)
    (case l_Ratio_over => first | k_is | rfl)
    (case c_Ratio_over => first | k_is | rfl)
    (case k_Ratio_over => first | k_is | rfl)
    (case a_is_fraction => first | k_is | rfl)
    (case l_is_fraction => first | k_is | rfl)
    (case c_is_fraction => first | k_is | rfl)
    (case k_is_fraction => first | k_is | rfl)
    (case a_as_ratio => first | k_is | rfl)
    (case l_as_ratio => first | k_is | rfl)
    (case c_as_ratio => first | k_is | rfl)
    (case k_as_ratio => first | k_is | rfl)
    (case a_bag => first | k_is | rfl)
    (case l_bag => first | k_is | rfl)
    (case c_bag => first | k_is | rfl)
    (case k_bag => first | k_is | rfl)
    (case a_draw => first | k_is | rfl)
    (case l_draw => first | k_is | rfl)
    (case c_draw => first | k_is | rfl)
    (case k_draw => first | k_is | rfl)
    (case a_one => first | k_is | rfl)
    (case l_one => first | k_is | rfl)
    (case c_one => first | k_is | rfl)
    (case k_one => first | k_is | rfl)
    (case a_lowest => first | k_is | rfl)
    (case l_lowest => first | k_is | rfl)
    (case c_lowest => first | k_is | rfl)
    (case k_lowest => first | k_is | rfl)
    (case a_pair => first | k_is | rfl)
    (case l_pair => first | k_is | rfl)
    (case c_pair => first | k_is | rfl)
    (case k_pair => first | k_is | rfl)
    (case a_parts => first | k_is | rfl)
    (case l_parts => first | k_is | rfl)
    (case c_parts => first | k_is | rfl)
    (case k_parts => first | k_is | rfl)
    (case a_pair_right => first | k_is | rfl)
    (case l_pair_right => first | k_is | rfl)
    (case c_pair_right => first | k_is | rfl)
    (case k_pair_right => first | k_is | rfl)
    (case a_whole_right => first | k_is | rfl)
    (case l_whole_right => first | k_is | rfl)
    (case c_whole_right => first | k_is | rfl)
    (case k_whole_right => first | k_is | rfl)
    (case a_right => first | k_is | rfl)
    (case l_right => first | k_is | rfl)
    (case c_right => first | k_is | rfl)
    (case k_right => first | k_is | rfl)
    (case a_law => first | k_is | rfl)
    (case l_law => first | k_is | rfl)
    (case c_law => first | k_is | rfl)
    (case k_law => first | k_is | rfl)
    (case z_isinstance => first | k_is | rfl)
    (case z_int => first | k_is | rfl)
    (case z_bool => first | k_is | rfl)
    (case z_len => first | k_is | rfl)
    (case z_abs => first | k_is | rfl)
    (case z_range => first | k_is | rfl)
    (case z_all => first | k_is | rfl)
    (case z_max => first | k_is | rfl)
    (case z_min => first | k_is | rfl)
    (case g_gcd => first | k_is | rfl)
    (case h_nT => first | k_is | rfl)
    (case h_nB => first | k_is | rfl)
    (case h_iA => first | k_is | rfl)
    (case h_iN => first | k_is | rfl)
    (case h_iT => first | k_is | rfl)
    (case h_iM => first | k_is | rfl)
    (case h_kRI => first | k_is | rfl)
    (case h_kRR => first | k_is | rfl)
    (case h_kIR => first | k_is | rfl)
    (case h_kBR => first | k_is | rfl)
    (case h_kTR => first | k_is | rfl)
    (case h_sf => first | k_is | rfl)
    (case h_ne => first | k_is | rfl)
    (case h_ob => first | k_is | rfl)
    (case h_sRI => first | k_is | rfl)
    (case h_sIR => first | k_is | rfl)
    (case h_nfI => first | k_is | rfl)
    (case h_nfB => first | k_is | rfl)
    (case h_nfT => first | k_is | rfl)
    (case h_nfR => first | k_is | rfl)
    (case h_iAdd => first | k_is | rfl)
    (case h_iRadd => first | k_is | rfl)
    (case h_iSub => first | k_is | rfl)
    (case h_iRsub => first | k_is | rfl)
    (case h_iMul => first | k_is | rfl)
    (case h_iRmul => first | k_is | rfl)
