import PyProof.Rows.All
import HandS.ClsMeth
import HandS.Comp
import HandS.Conv
import HandS.Defaults
import HandS.EndOwn
import HandS.EndTab
import HandS.Ends
import HandS.Exc
import HandS.ExcField
import HandS.ExcInit
import HandS.ExcIs
import HandS.ExcValue
import HandS.FStr
import HandS.ForMost
import HandS.Gcd
import HandS.HotCalls
import HandS.IsInst
import HandS.Iter
import HandS.Lambda
import HandS.MakeKw
import HandS.MakeKwOnly
import HandS.RaiseMore
import HandS.ReplaceDef
import HandS.ReplaceLit
import HandS.SetFor
import HandS.SlotsOwn
import HandS.Small
import HandS.Star
import HandS.Text
import HandS.TupAny
import HandS.Wide
import HandS.Zip
import KE.KOpsOwn
import KE.KTryMore
import OpenK.AllK
import PyProof.CallFns
import PyProof.CallStr
import PyProof.EqKinds
import PyProof.InstNe
import PyProof.MeetsStr3
import PyProof.ReprRoads
import PyProof.Rows.EqMixed
import PyProof.StrHeap
import PyProof.StrReplace2
import Wide.All
import Wide.FinOn
import OpenK.AllK
import Wide.All
import Wide.FinOn
import PySem.Challenge.RW_slackstrings_k04_forms_reckoned
set_option Elab.async false
set_option linter.all false
set_option maxRecDepth 100000
set_option maxHeartbeats 4000000
/-! Own operators of a class, over the layer. -/
namespace PySem.RkX
open PySem PySem.W
section
variable {prog : Program} {w : World} {A : Around} {E : Value → Shared → Prop} {s : Shared} {K : Frag} {x C L f : Addr} {h₀ : Heap} {m : Str → Option Value} {ox : Obj} {od : Option Obj}

/-- int op instance, int's own slot declines -/
theorem bin_IO {op : Operator} {i : Int} {t : Tok} {id : String} {g0 : Addr} {Q : Value → Shared → Prop} (X : K.In s.heap) (I : InstAt s.heap x ox C od) (hc : selfFirst K C = true)
    (hs : findIn K (.ref C) (PySem.dunder op.info.2) = some (some (.ref g0))) (hr : findIn K (.ref C) (dunderR op.info.2) = some (some (.ref f))) (hf : isFn K (.ref f) = true)
    (hsub : subIn K (.ref C) (.type "int") = some false) (fillsT : fillsNumberSlot (.type "int") op.info.2 = pure true) (slot : Slot "int" (PySem.dunder op.info.2) id)
    (hd : ∀ Q : Value → Shared → Prop, Q .notImplemented s → wpAny (model prog w) A (call (.builtin id) [.int i t, .ref x]) Q E s)
    (h : wpAny (model prog w) A (call (.ref f) [.ref x, .int i t]) (CmpBack Q) E s) : wpAny (model prog w) A (binaryOp op (.int i t) (.ref x)) Q E s := by
  obtain ⟨cd, rest, hcd, hm⟩ := ksp_first hc
  rcases hi : op.info with ⟨sym, nm'⟩
  rw [hi] at hs hr fillsT slot
  dsimp only at hs hr fillsT slot
  have one := ksp_try X I hr hf h
  have two : wpAny (model prog w) A (tryMethod (.int i t) (PySem.dunder nm') (.ref x)) (fun r s' => r = none ∧ s' = s) E s :=
    wpAny_tryMethod_declines (typeIs_int s i t) slot (hd _ ⟨rfl, rfl, rfl⟩)
  obtain ⟨hh, g, d, tt, os⟩ := s
  have L1 : Looks (model prog w) hh (typeOf (.ref x)) (.ref C) := I.type
  have L2 : Looks (model prog w) hh (typeOf (.int i t)) (.type "int") := Looks.of_pure rfl
  have L3 : Looks (model prog w) hh (fillsNumberSlot (.ref C) nm') true := fills_K X hcd hm hs
  have L4 : Looks (model prog w) hh (fillsNumberSlot (.type "int") nm') true := Looks.of_pure fillsT
  have L5 : Looks (model prog w) hh (isSubtype (.ref C) (.type "int")) false := looks_subIn X hsub
  have L7 : Looks (model prog w) hh (numberSlotInPython (.type "int") nm') false := Looks.of_pure rfl
  have hne : (Value.type "int" == Value.ref C) = false := Bool.eq_false_iff.mpr fun q => by cases beq_iff_eq.mp q
  simp only [binaryOp, hi]
  refine wpAny_holding (wpAny_bind ?_)
  unfold binaryOp1
  refine wpAny_bind (L2.at (wpAny_bind (L1.at (wpAny_bind (L4.at ?_)))))
  simp only [hne, Bool.false_eq_true, if_false]
  ksp_lk
  refine wpAny_mono two (fun r s' hr' => ?_) fun _ _ e => e
  obtain ⟨rfl, rfl⟩ := hr'
  ksp_lk
  refine wpAny_mono one (fun r s' hr' => ?_) fun _ _ e => e
  obtain ⟨v, rfl, hq⟩ := hr'
  ksp_lk
  exact hq

/-- int == instance: int's own __eq__ declines, the class's one is asked -/
theorem eq_IO {i : Int} {t : Tok} {Q : Value → Shared → Prop} (hu : A.units < cLine) (X : K.In s.heap) (I : InstAt s.heap x ox C od)
    (hs : findIn K (.ref C) "__eq__" = some (some (.ref f))) (hf : isFn K (.ref f) = true) (hsub : subIn K (.ref C) (.type "int") = some false)
    (hd : ∀ Q : Value → Shared → Prop, Q .notImplemented s → wpAny (model prog w) A (call (.builtin "int.__eq__") [.int i t, .ref x]) Q E s)
    (h : wpAny (model prog w) A (call (.ref f) [.ref x, .int i t]) (CmpBack Q) E s) : wpAny (model prog w) A (richCompare .Eq (.int i t) (.ref x)) Q E s := by
  have one : wpAny (model prog w) A (tryCompare (.ref x) "__eq__" (.int i t)) (fun r s' => ∃ v, r = some v ∧ Q v s') E s := by
    unfold tryCompare
    refine wpAny_bind (ifBound_K X I hs hf (wpAny_mono h (fun v s' hv => ?_) fun _ _ e => e))
    cases v <;> first | exact hv.elim | exact wpAny_pure ⟨_, rfl, hv⟩
  have two : wpAny (model prog w) A (tryCompare (.int i t) "__eq__" (.ref x)) (fun r s' => r = none ∧ s' = s) E s :=
    wpAny_tryCompare_declines (typeIs_int s i t) F.slot_int_eq (hd _ ⟨rfl, rfl, rfl⟩)
  have L2 : Looks (model prog w) s.heap (typeOf (.int i t)) (.type "int") := Looks.of_pure rfl
  have hne0 : (Value.type "int" == Value.ref C) = false := Bool.eq_false_iff.mpr fun q => by cases beq_iff_eq.mp q
  have hne : (Value.type "int" != Value.ref C) = true := by
    rw [bne, hne0]
    rfl
  unfold richCompare
  simp only [(typeIs_int s i t).oneThing_none]
  refine wpAny_holding (wpAny_bind (wpAny_cRoomFor hu ?_))
  rw [show cmpInfo .Eq = ("==", ("__eq__" : Str), ("__eq__" : Str)) from rfl]
  dsimp only
  refine wpAny_bind (L2.here (wpAny_bind (I.type.here ?_)))
  simp only [hne, if_true]
  refine wpAny_bind ((looks_subIn X hsub).here ?_)
  simp only [Bool.false_eq_true, if_false, Bool.not_false, if_true]
  refine wpAny_bind (wpAny_mono two (fun r s' hr' => ?_) fun _ _ e => e)
  obtain ⟨rfl, rfl⟩ := hr'
  refine wpAny_bind (wpAny_mono one (fun r s' hr' => ?_) fun _ _ e => e)
  obtain ⟨v, rfl, hq⟩ := hr'
  exact wpAny_pure hq

/-- int's slots decline an object that holds no int -/
def NoPrim (h : Heap) (x : Addr) : Prop := ∃ o, h.get? x = some o ∧ ∀ i t, o.data ≠ .prim (.int i t)
theorem asInt_ref {Q : Option Int → Shared → Prop} {M : Model} (h : NoPrim s.heap x) (q : Q none s) : wpAny M A (asInt? (.ref x)) Q E s := by
  obtain ⟨o, ho, hn⟩ := h
  unfold asInt?
  refine wpAny_bind (wpAny_load ho ?_)
  split
  · rename_i i t e
    exact absurd e (hn i t)
  · exact wpAny_pure q

/-- instance != instance: object's own __ne__ asks the class's __eq__ -/
theorem ne_entry {y : Addr} {Q : Fin → Shared → Prop} (hu : A.units < cLine) (X : K.In s.heap) (I : InstAt s.heap x ox C od) (hs : findIn K (.ref C) "__eq__" = some (some (.ref f))) (hf : isFn K (.ref f) = true)
    (h : wpAny (model prog w) A (call (.ref f) [.ref x, .ref y]) (fun v s' => ∃ b, v = .bool b ∧ Q (.done (.ret (.bool (!b)))) s') E s) :
    wpAny (model prog w) A (Builtin.«object.__ne__» ⟨[.ref x, .ref y], []⟩) Q E s := by
  have one : wpAny (model prog w) A (callSpecialIfBound? (.ref x) "__eq__" [.ref y]) (fun r s' => ∃ b, r = some (.bool b) ∧ Q (.done (.ret (.bool (!b)))) s') E s :=
    ifBound_K X I hs hf (wpAny_mono h (fun v s' ⟨b, e, q⟩ => ⟨b, by rw [e], q⟩) fun _ _ e => e)
  obtain ⟨hp, g, d, tk, os⟩ := s
  unfold Builtin.«object.__ne__»
  repeat (first
    | with_reducible refine wpAny_cRoomFor hu ?_
    | (refine wpAny_bind (m := callSpecialIfBound? (.ref x) (Str.ofString "__eq__") [.ref y]) (wpAny_mono one (fun r s' hr => by
          obtain ⟨b, rfl, hq⟩ := hr
          repeat (first | exact hq | exact wpAny_pure hq | exact wpAny_truthy_bool hq | (refine wpAny_bind (m := truthy (.bool _)) (wpAny_truthy_bool ?_)) | wp_step)) fun _ _ e => e))
    | wp_step)
theorem ne_check {y : Addr} {Q : Unit → Shared → Prop} {M : Model} (X : K.In s.heap) (I : InstAt s.heap x ox C od) (hob : subIn K (.ref C) (.type "object") = some true) (hq : Q () s) :
    wpAny M A (checkBuiltinCall "object.__ne__" ⟨[.ref x, .ref y], []⟩) Q E s := by
  have ha := F.cmpArgs_ne (.ref x) (.ref y)
  simp only [checkBuiltinCall, F.cmpKind_ne, F.cmpSplit_ne]
  refine wpAny_bind ?_
  unfold isInstance
  refine wpAny_bind (I.type.here ((looks_subIn X hob).here ?_))
  cases hsig : Manifest.signature? "object.__ne__" with
  | none => repeat (first | exact hq | exact wpAny_pure hq | wp_step)
  | some sig =>
    simp only [argsOk, hsig] at ha
    have h2 : Bind.checkArgs "object.__ne__" sig ⟨[.ref x, .ref y], []⟩ = pure () := ha
    repeat (first | exact hq | exact wpAny_pure hq | (rw [h2]; exact wpAny_pure hq) | wp_step)
theorem ne_OO {y : Addr} {Q : Value → Shared → Prop} (hu : A.units + 1 < cLine) (X : K.In s.heap) (I : InstAt s.heap x ox C od) (hy : Looks (model prog w) s.heap (typeOf (.ref y)) (.ref C))
    (hs : findIn K (.ref C) "__eq__" = some (some (.ref f))) (hf : isFn K (.ref f) = true) (hn : findIn K (.ref C) "__ne__" = some (some (.builtin "object.__ne__"))) (hob : subIn K (.ref C) (.type "object") = some true)
    (h : wpAny (model prog w) A.in1 (call (.ref f) [.ref x, .ref y]) (fun v s' => ∃ b, v = .bool b ∧ Q (.bool (!b)) s') E s) : wpAny (model prog w) A (richCompare .NotEq (.ref x) (.ref y)) Q E s := by
  have called : wpAny (model prog w) A (call (.builtin "object.__ne__") [.ref x, .ref y]) (fun v s' => ∃ b, v = .bool b ∧ Q (.bool b) s') E s := by
    refine wpAny_call (codeAny_call_builtin F.cmp_object.ne.plain F.cmpEntry_ne (ne_check X I hob ?_))
    refine ne_entry (A := A.in1) hu X I hs hf (wpAny_mono h (fun v s' hv => ?_) fun _ _ e => e)
    obtain ⟨b, rfl, hq⟩ := hv
    exact ⟨b, rfl, _, rfl, hq⟩
  have bound : wpAny (model prog w) A (callSpecialIfBound? (.ref x) "__ne__" [.ref y]) (fun r s' => ∃ b, r = some (.bool b) ∧ Q (.bool b) s') E s := by
    simp only [callSpecialIfBound?, bindSpecialIfBound?]
    refine wpAny_holding (wpAny_bind (wpAny_bind (wpAny_bind (I.type.here ((looks_findIn X hn).here ?_)))))
    have sb := F.cmp_object.ne.bind
    simp only [sb]
    refine wpAny_bind (wpAny_askSetting (wpAny_ite ?_))
    have fin : wpAny (model prog w) A (call (.builtin "object.__ne__") ([.ref x] ++ [.ref y]) >>= fun v => pure (some v)) (fun r s' => ∃ b, r = some (.bool b) ∧ Q (.bool b) s') E s :=
      wpAny_bind (wpAny_mono called (fun v s' h' => wpAny_pure (by obtain ⟨b, rfl, q⟩ := h'; exact ⟨b, rfl, q⟩)) fun _ _ h' => h')
    split
    · exact wpAny_bind (wpAny_pure (wpAny_pure fin))
    · exact wpAny_tryCatch (wpAny_bind (wpAny_pure (wpAny_pure fin)))
  have one : wpAny (model prog w) A (tryCompare (.ref x) "__ne__" (.ref y)) (fun r s' => ∃ b, r = some (.bool b) ∧ Q (.bool b) s') E s := by
    unfold tryCompare
    refine wpAny_bind (wpAny_mono bound (fun r s' hr => ?_) fun _ _ e => e)
    obtain ⟨b, rfl, q⟩ := hr
    exact wpAny_pure ⟨b, rfl, q⟩
  unfold richCompare
  simp only [oneThing_ref]
  refine wpAny_holding (wpAny_bind (wpAny_cRoomFor (Nat.lt_of_succ_lt hu) ?_))
  rw [cmpInfo_NotEq]
  dsimp only
  refine wpAny_bind (I.type.here (wpAny_bind (hy.here ?_)))
  rw [show (Value.ref C != Value.ref C) = false from by simp]
  simp only [Bool.false_eq_true, if_false]
  refine wpAny_bind (wpAny_pure ?_)
  simp only [Bool.false_eq_true, if_false]
  refine wpAny_bind (wpAny_mono one (fun r s' hr => ?_) fun _ _ e => e)
  obtain ⟨b, rfl, q⟩ := hr
  exact wpAny_pure q
end
section
variable {x : Addr} (a : Int) (t : Tok)
theorem dec_add : GivesAt (fun s => NoPrim s.heap x) (Builtin.«int.__add__» ⟨[.int a t, .ref x], []⟩) (.val .notImplemented) := by
  intro prog w A R s hP h
  obtain ⟨hp, g, d, tk, os⟩ := s
  wp_walk
  obtain ⟨o, ho, hn⟩ := hP
  refine wpAny_load ho ?_
  split
  · rename_i i t e
    exact absurd e (hn i t)
  · wp_walk
    exact h
theorem dec_sub : GivesAt (fun s => NoPrim s.heap x) (Builtin.«int.__sub__» ⟨[.int a t, .ref x], []⟩) (.val .notImplemented) := by
  intro prog w A R s hP h
  obtain ⟨hp, g, d, tk, os⟩ := s
  wp_walk
  obtain ⟨o, ho, hn⟩ := hP
  refine wpAny_load ho ?_
  split
  · rename_i i t e
    exact absurd e (hn i t)
  · wp_walk
    exact h
theorem dec_mul : GivesAt (fun s => NoPrim s.heap x) (Builtin.«int.__mul__» ⟨[.int a t, .ref x], []⟩) (.val .notImplemented) := by
  intro prog w A R s hP h
  obtain ⟨hp, g, d, tk, os⟩ := s
  wp_walk
  obtain ⟨o, ho, hn⟩ := hP
  refine wpAny_load ho ?_
  split
  · rename_i i t e
    exact absurd e (hn i t)
  · wp_walk
    exact h
theorem dec_eq : GivesAt (fun s => NoPrim s.heap x) (Builtin.«int.__eq__» ⟨[.int a t, .ref x], []⟩) (.val .notImplemented) := by
  intro prog w A R s hP h
  obtain ⟨hp, g, d, tk, os⟩ := s
  wp_walk
  obtain ⟨o, ho, hn⟩ := hP
  refine wpAny_load ho ?_
  split
  · rename_i i t e
    exact absurd e (hn i t)
  · wp_walk
    exact h
end
end PySem.RkX

namespace RK
open PySem PySem.Spec PyProof.Rows L2

/-! ### rules for own operators, by values -/
section
variable {X : Cx} {CX : CXT} {n : Nat} {C f g0 : Addr} {fd : FuncData} {ps : List Str} {sp : Sp} {E : XK}
theorem inst_at {pins : List (Addr × Obj)} {σ : L2.St} {H : Hp} {s : Shared} {a dx : Addr} {fs : List (Str × V)} (I : Inv X pins σ H s) (h : H a = some (.ins C dx fs)) : ∃ od, PySem.W.InstAt s.heap a (PySem.W.instObj C dx) C (some od) := by
  obtain ⟨mA, J, _⟩ := ins_get I.hok h
  obtain ⟨od, J, _⟩ := J.look
  exact ⟨od, J⟩
theorem inst_np {h : Heap} {a dx : Addr} {od : Option Obj} (J : PySem.W.InstAt h a (PySem.W.instObj C dx) C od) : PySem.RkX.NoPrim h a := ⟨_, J.at_, fun i t e => nomatch e⟩
/-- a op b, both instances of the class at C -/
def rOwn2 (C : Addr) (sp : Sp) (E : XK) : R2 := fun x y H Q => ∃ a b dx fs dy gs, x = .ref a ∧ y = .ref b ∧ H a = some (.ins C dx fs) ∧ H b = some (.ins C dy gs) ∧ sp [x, y] H Q E
theorem op_own2 {op : Operator} (hc : PySem.W.selfFirst X.K C = true) (hs : PySem.W.findIn X.K (.ref C) (PySem.dunder op.info.2) = some (some (.ref f))) (hf : PySem.W.isFn X.K (.ref f) = true)
    (F : FnOk X.prog X.w X.K X.mg X.base CX n f fd ps sp) (hr : Room n X.A) (hb : Binds X.K fd ps []) (hx : Passes CX X E) : OpR X (binaryOp op) (rOwn2 C sp E) := by
  intro pins s σ H x y v u Q I rx ry h
  obtain ⟨a, b, dx, fs, dy, gs, rfl, rfl, ha, hb', q⟩ := h
  cases (show v = Value.ref a from rx)
  cases (show u = Value.ref b from ry)
  obtain ⟨od, J⟩ := inst_at I ha
  obtain ⟨od', J'⟩ := inst_at I hb'
  obtain ⟨m, hF⟩ := I.fr
  refine PySem.W.binop_K hF I.ok.mod.kin J J'.type hc hs hf ?_
  refine wpAny_mono (run_fn (vs := [V.ref a, V.ref b]) F hr hb .nil hx I (.cons rfl (.cons rfl .nil)) q) (fun w s' z => ?_) fun _ _ x => x
  obtain ⟨z', H', I', rz, qz⟩ := z
  exact SlX.cmpback rz ⟨z', H', I', rz, qz⟩
/-- a op int -/
def rOwnI (C : Addr) (sp : Sp) (E : XK) : R2 := fun x y H Q => ∃ a dx fs i, x = .ref a ∧ y = .int i ∧ H a = some (.ins C dx fs) ∧ sp [x, y] H Q E
theorem op_ownI {op : Operator} {fo ro rc : Option Value} (hc : PySem.W.selfFirst X.K C = true) (hs : PySem.W.findIn X.K (.ref C) (PySem.dunder op.info.2) = some (some (.ref f))) (hf : PySem.W.isFn X.K (.ref f) = true)
    (hr' : PySem.W.findIn X.K (.ref C) (dunderR op.info.2) = some rc) (hp : rc = none ∨ ∃ g : Addr, rc = some (.ref g))
    (h1 : PySem.W.findIn X.K (.type "int") (PySem.dunder op.info.2) = some fo) (h2 : PySem.W.findIn X.K (.type "int") (dunderR op.info.2) = some ro) (hsub : PySem.W.subIn X.K (.type "int") (.ref C) = some false)
    (F : FnOk X.prog X.w X.K X.mg X.base CX n f fd ps sp) (hr : Room n X.A) (hb : Binds X.K fd ps []) (hx : Passes CX X E) : OpR X (binaryOp op) (rOwnI C sp E) := by
  intro pins s σ H x y v u Q I rx ry h
  obtain ⟨a, dx, fs, i, rfl, rfl, ha, q⟩ := h
  cases (show v = Value.ref a from rx)
  obtain ⟨t, rfl⟩ := (show ∃ t, u = Value.int i t from ry)
  obtain ⟨od, J⟩ := inst_at I ha
  obtain ⟨m, hF⟩ := I.fr
  refine PySem.W.ksp_binT hF I.ok.mod.kin J rfl hc hs hf hr' hp h1 h2 hsub ?_
  refine wpAny_mono (run_fn (vs := [V.ref a, V.int i]) F hr hb .nil hx I (.cons rfl (.cons ⟨t, rfl⟩ .nil)) q) (fun w s' z => ?_) fun _ _ x => x
  obtain ⟨z', H', I', rz, qz⟩ := z
  exact SlX.cmpback rz ⟨z', H', I', rz, qz⟩
/-- int op a: by the class's reflected def -/
def rIOwn (C : Addr) (sp : Sp) (E : XK) : R2 := fun x y H Q => ∃ a dx fs i, x = .int i ∧ y = .ref a ∧ H a = some (.ins C dx fs) ∧ sp [y, x] H Q E
theorem op_Iown {op : Operator} {id : String} {B : Builtin} (hc : PySem.W.selfFirst X.K C = true) (hs : PySem.W.findIn X.K (.ref C) (PySem.dunder op.info.2) = some (some (.ref g0)))
    (hr' : PySem.W.findIn X.K (.ref C) (dunderR op.info.2) = some (some (.ref f))) (hf : PySem.W.isFn X.K (.ref f) = true) (hsub : PySem.W.subIn X.K (.ref C) (.type "int") = some false)
    (fillsT : fillsNumberSlot (.type "int") op.info.2 = pure true) (slot : Slot "int" (PySem.dunder op.info.2) id) (entry : entryFor table id = some B) (args : ∀ a b : Value, argsOk id ⟨[a, b], []⟩)
    (dec : ∀ (i : Int) (t : Tok) (x : Addr), GivesAt (fun s => PySem.RkX.NoPrim s.heap x) (B ⟨[.int i t, .ref x], []⟩) (.val .notImplemented))
    (F : FnOk X.prog X.w X.K X.mg X.base CX n f fd ps sp) (hr : Room n X.A) (hb : Binds X.K fd ps []) (hx : Passes CX X E) : OpR X (binaryOp op) (rIOwn C sp E) := by
  intro pins s σ H x y v u Q I rx ry h
  obtain ⟨a, dx, fs, i, rfl, rfl, ha, q⟩ := h
  obtain ⟨t, rfl⟩ := (show ∃ t, v = Value.int i t from rx)
  cases (show u = Value.ref a from ry)
  obtain ⟨od, J⟩ := inst_at I ha
  refine PySem.RkX.bin_IO I.kIn J hc hs hr' hf hsub fillsT slot (fun Q' q' => call_givesAt slot (typeIs_int s i t) entry (args _ _) (dec i t a) (inst_np J) q') ?_
  refine wpAny_mono (run_fn (vs := [V.ref a, V.int i]) F hr hb .nil hx I (.cons rfl (.cons ⟨t, rfl⟩ .nil)) q) (fun w s' z => ?_) fun _ _ x => x
  obtain ⟨z', H', I', rz, qz⟩ := z
  exact SlX.cmpback rz ⟨z', H', I', rz, qz⟩
/-- -a -/
def rNegO (C : Addr) (sp : Sp) (E : XK) : V → Hp → VK → Prop := fun x H Q => ∃ a dx fs, x = .ref a ∧ H a = some (.ins C dx fs) ∧ sp [x] H Q E
theorem un_negO (hs : PySem.W.findIn X.K (.ref C) "__neg__" = some (some (.ref f))) (hf : PySem.W.isFn X.K (.ref f) = true)
    (F : FnOk X.prog X.w X.K X.mg X.base CX n f fd ps sp) (hr : Room n X.A) (hb : Binds X.K fd ps []) (hx : Passes CX X E) : UnR X (unaryOp .USub) (rNegO C sp E) := by
  intro pins s σ H x v Q I rx h
  obtain ⟨a, dx, fs, rfl, ha, q⟩ := h
  cases (show v = Value.ref a from rx)
  obtain ⟨od, J⟩ := inst_at I ha
  obtain ⟨m, hF⟩ := I.fr
  exact PySem.W.ksp_neg hF I.ok.mod.kin J hs hf (run_fn (vs := [V.ref a]) F hr hb .nil hx I (.cons rfl .nil) q)
/-- a == anything of a known type -/
def rEqO (K : PySem.W.Frag) (C : Addr) (sp : Sp) (E : XK) : R2 := fun x y H Q => ∃ a dx fs t, x = .ref a ∧ H a = some (.ins C dx fs) ∧ TyX K H y t ∧ PySem.W.notFirst K C t = true ∧ sp [x, y] H Q E
theorem op_eqO (hs : PySem.W.findIn X.K (.ref C) "__eq__" = some (some (.ref f))) (hf : PySem.W.isFn X.K (.ref f) = true)
    (F : FnOk X.prog X.w X.K X.mg X.base CX n f fd ps sp) (hr : Room n X.A) (hb : Binds X.K fd ps []) (hx : Passes CX X E) : OpR X (compareOp .Eq) (rEqO X.K C sp E) := by
  intro pins s σ H x y v u Q I rx ry h
  obtain ⟨a, dx, fs, t, rfl, ha, ty, hn, q⟩ := h
  cases (show v = Value.ref a from rx)
  obtain ⟨od, J⟩ := inst_at I ha
  obtain ⟨m, hF⟩ := I.fr
  obtain ⟨P, Z, p, _⟩ := kit_of I ry ty
  refine PySem.W.cmp_K (op := .Eq) (tb := t) hr.units0 hF I.ok.mod.kin J (Z.ty _ _ I.kIn p) hn hs hf ?_
  refine wpAny_mono (run_fn (vs := [V.ref a, y]) F hr hb .nil hx I (.cons rfl (.cons ry .nil)) q) (fun w s' z => ?_) fun _ _ x => x
  obtain ⟨z', H', I', rz, qz⟩ := z
  exact SlX.cmpback rz ⟨z', H', I', rz, qz⟩
/-- int == a -/
theorem op_eqIO (hs : PySem.W.findIn X.K (.ref C) "__eq__" = some (some (.ref f))) (hf : PySem.W.isFn X.K (.ref f) = true) (hsub : PySem.W.subIn X.K (.ref C) (.type "int") = some false)
    (F : FnOk X.prog X.w X.K X.mg X.base CX n f fd ps sp) (hr : Room n X.A) (hb : Binds X.K fd ps []) (hx : Passes CX X E) : OpR X (compareOp .Eq) (rIOwn C sp E) := by
  intro pins s σ H x y v u Q I rx ry h
  obtain ⟨a, dx, fs, i, rfl, rfl, ha, q⟩ := h
  obtain ⟨t, rfl⟩ := (show ∃ t, v = Value.int i t from rx)
  cases (show u = Value.ref a from ry)
  obtain ⟨od, J⟩ := inst_at I ha
  refine PySem.RkX.eq_IO hr.units0 I.kIn J hs hf hsub (fun Q' q' => call_givesAt PySem.F.slot_int_eq (typeIs_int s i t) PySem.F.entry_int_eq (PySem.F.args_int_eq_2 _ _) (PySem.RkX.dec_eq i t) (inst_np J) q') ?_
  refine wpAny_mono (run_fn (vs := [V.ref a, V.int i]) F hr hb .nil hx I (.cons rfl (.cons ⟨t, rfl⟩ .nil)) q) (fun w s' z => ?_) fun _ _ x => x
  obtain ⟨z', H', I', rz, qz⟩ := z
  exact SlX.cmpback rz ⟨z', H', I', rz, qz⟩
/-- a != b by the class's own == -/
def rNeO (C : Addr) (sp : Sp) (E : XK) : R2 := fun x y H Q => ∃ a b dx fs dy gs, x = .ref a ∧ y = .ref b ∧ H a = some (.ins C dx fs) ∧ H b = some (.ins C dy gs) ∧ sp [x, y] H (fun v H' => ∃ k, v = .bl k ∧ Q (.bl (!k)) H') E
theorem op_neO (hs : PySem.W.findIn X.K (.ref C) "__eq__" = some (some (.ref f))) (hf : PySem.W.isFn X.K (.ref f) = true) (hn : PySem.W.findIn X.K (.ref C) "__ne__" = some (some (.builtin "object.__ne__"))) (hob : PySem.W.subIn X.K (.ref C) (.type "object") = some true)
    (F : FnOk X.prog X.w X.K X.mg X.base CX n f fd ps sp) (hr : Room (n + 1) X.A) (hb : Binds X.K fd ps []) (hx : Passes CX X E) : OpR X (compareOp .NotEq) (rNeO C sp E) := by
  intro pins s σ H x y v u Q I rx ry h
  obtain ⟨a, b, dx, fs, dy, gs, rfl, rfl, ha, hb', q⟩ := h
  cases (show v = Value.ref a from rx)
  cases (show u = Value.ref b from ry)
  obtain ⟨od, J⟩ := inst_at I ha
  obtain ⟨od', J'⟩ := inst_at I hb'
  have hu : X.A.units + 1 < cLine := Nat.lt_of_le_of_lt (Nat.add_le_add_left (by decide : 1 ≤ 64) _) hr.units
  show wpAny (model X.prog X.w) X.A (richCompare .NotEq (.ref a) (.ref b)) (EP X pins σ Q) X.xe s
  refine PySem.RkX.ne_OO hu I.kIn J J'.type hs hf hn hob ?_
  have hr1 : Room n X.A.in1 := hr.in1
  have r2 : Vals [V.ref a, V.ref b] [Value.ref a, Value.ref b] := .cons rfl (.cons rfl .nil)
  have hl := F.len _ _ _ _ q
  refine wpAny_call (codeAny_mono (F.run X.A.in1 X.stack s H ⟨[.ref a, .ref b], []⟩ [.ref a, .ref b] [.ref a, .ref b] _ E hr1 I.env0.in1 (by
    have := hb s [.ref a, .ref b] I.kIn (by simpa using hl)
    simpa using this) r2 q) fun r s' hq => ?_)
  cases r with
  | error e => exact hx pins σ H s e s' I hq
  | ok fl =>
    cases fl with
    | ret w =>
      obtain ⟨z, H', I', rz, k, ez, qz⟩ := I.after hq
      subst ez
      cases rz
      exact ⟨k, rfl, .bl (!k), H', I', rfl, qz⟩
    | next => exact False.elim hq
    | brk => exact False.elim hq
    | cont => exact False.elim hq
/-- o.m(k = v, ..) -/
def tMethK (C : Addr) (m : Str) (ks : List Str) (sp : Sp) (gV : List V → List V → List V) (E : XK) (ta : TE) (tk : TA) : TE := fun σ H Q => ta σ H fun x H1 => ∃ a dx fs, x = .ref a ∧ H1 a = some (.ins C dx fs) ∧ fs.lookup m = none ∧
  tk σ H1 fun zs H2 => zs.length = ks.length ∧ sp (gV [x] zs) H2 Q E
theorem pe_methK {pl : Sem Bool} {o : Expr} {m : Str} {apos pos : Pos} {kws : List Keyword} {ta : TE} {tk : TA} {ks : List Str} {g : List Value → List Value → List Value} {gV : List V → List V → List V} (he : PE X o ta) (c : Cls X.K C) (hm : Meth X.K C m f)
    (F : FnOk X.prog X.w X.K X.mg X.base CX n f fd ps sp) (hr : Room n X.A) (hb : KBn X.K fd ps 1 ks g gV) (hx : Passes CX X E) (hkw : PK X kws tk)
    (hall : (backToKw pos (keywordEach kws X.env)).all (·.1.isSome) = true := by rfl) (hks : (backToKw pos (keywordEach kws X.env)).filterMap (·.1) = ks := by rfl)
    (hpl : ((backTo pos (starEach [] X.env)).any (·.1) || (backToKw pos (keywordEach kws X.env)).any (·.1.isNone)) = false := by rfl)
    (ht : eval (.Call (.Attribute o m apos) [] kws pos) X.env = (do
      let ov ← eval o X.env
      standAt apos.atName
      let (f, first) ← holding [ov] (getMethod ov m pl)
      callWith pos f first (backTo pos (starEach [] X.env)) (backToKw pos (keywordEach kws X.env))) := by rfl) :
    PE X (.Call (.Attribute o m apos) [] kws pos) (tMethK C m ks sp gV E ta tk) := by
  refine ⟨fun pins s σ H Q I h => ?_⟩
  refine PySem.W.methodCall_KW (pl := pl) (thn (he.run pins s σ H _ I h) fun u s1 ⟨x, H1, I1, rx, a, dx, fs, ex, ea, l, q⟩ => ?_) ht
  subst ex
  obtain rfl : u = Value.ref a := rx
  refine getmeth_ok I1 ea c hm l ?_
  refine PySem.W.callWith_KW0 (first := [.ref a]) (h₀ := X.base) I1.ok.mod.kin hm.kp hall ?_ hpl
  refine thn (hkw.run pos pins s1 σ H1 _ I1 q) fun ws s2 ⟨zs, H2, I2, rz, l2, q2⟩ => ⟨I2.kIn, ?_⟩
  rw [hks]
  exact run_fnN (us := [.ref a]) (vs := [.ref a]) F hr hb hx I2 (.cons rfl .nil) rz rfl l2 q2
/-- // by a divisor of any sign, below 2 ^ 9000 -/
def CDivZ (_ j : Int) : Prop := j ≠ 0 ∧ j.natAbs.log2 < 9000
theorem op_fdivZ : OpR X (binaryOp .FloorDiv) (rI CDivZ fun i j => .int (i.fdiv j)) := opI fun i j _ _ _ _ _ hc q => floordiv_int hc.1 q (.inl (PyProof.noPylong_of_log2 hc.2))
end
end RK

namespace RK
open PySem PySem.Spec PyProof.Rows L2

/-! ### readings, a step at a time -/
section
variable {K : PySem.W.Frag} {D : Ends} {σ : L2.St} {H : Hp} {t u : TS} {te ta tb : TE} {c tt uu : TT} {ag ar : TA} {g : TG} {Q : VK} {v x y : V} {i j : Nat} {E : XK} {sp : Sp} {dvs : List V} {R : Prop}
theorem w_seq (h : t { D with nx := u D } σ H) : tSeq t u D σ H := h
theorem w_asg (h : te σ H fun x H1 => g x σ H1 D.nx) : tAsg te g D σ H := h
theorem w_gn {Q : L2.St → Hp → Prop} (h : Q (σ.set i (some v)) H) : gName i v σ H Q := h
theorem w_if (h : c σ H fun b H1 => if b = true then t D σ H1 else u D σ H1) : tIfS c t u D σ H := h
theorem w_ret (h : te σ H D.rt) : tRet te D σ H := h
theorem w_retN (h : D.rt .non H) : tRetN D σ H := h
theorem w_next (h : D.nx σ H) : tNext D σ H := h
theorem w_drop (h : te σ H fun _ H1 => D.nx σ H1) : tDrop te D σ H := h
theorem w_par (h : ag σ H fun vs H1 => ∃ v w, vs = [v, w] ∧ D.nx ((σ.set i (some v)).set j (some w)) H1) : tPar i j ag D σ H := h
theorem w_two {P : V → V → Prop} {v w : V} (h : P v w) : ∃ a b, ([v, w] : List V) = [a, b] ∧ P a b := ⟨v, w, rfl, h⟩
theorem w_test {Q : Bool → Hp → Prop} (h : te σ H fun x H' => ∃ k, x = .bl k ∧ Q k H') : tTest te σ H Q := h
theorem w_tB {Q : Bool → Hp → Prop} (h : te σ H fun x H' => ∃ k, x = .bl k ∧ Q k H') : tB te σ H Q := h
theorem w_bl {P : Bool → Prop} {b : Bool} (h : P b) : ∃ k, V.bl b = V.bl k ∧ P k := ⟨b, rfl, h⟩
theorem w_not {Q : Bool → Hp → Prop} (h : tt σ H fun c H1 => Q (!c) H1) : tNot tt σ H Q := h
theorem w_and {Q : Bool → Hp → Prop} (h : tt σ H fun c H1 => if c = true then uu σ H1 Q else Q false H1) : tAnd tt uu σ H Q := h
theorem w_or {Q : Bool → Hp → Prop} (h : tt σ H fun c H1 => if c = true then Q true H1 else uu σ H1 Q) : tOr tt uu σ H Q := h
theorem w_var (h : σ[i]? = some (some v)) (q : Q v H) : tVar i σ H Q := ⟨v, h, q⟩
theorem w_c (q : Q v H) : tC v σ H Q := q
theorem w_op {r : R2} (h : ta σ H fun x H1 => tb σ H1 fun y H2 => r x y H2 Q) : tOp r ta tb σ H Q := h
theorem w_un {r : V → Hp → VK → Prop} (h : ta σ H fun x H1 => r x H1 Q) : tUn r ta σ H Q := h
theorem w_I0 {gg : Int → Int → V} {a b : Int} (q : Q (gg a b) H) : rI0 gg (.int a) (.int b) H Q := ⟨a, b, rfl, rfl, q⟩
theorem w_I {C : Int → Int → Prop} {gg : Int → Int → V} {a b : Int} (hc : C a b) (q : Q (gg a b) H) : rI C gg (.int a) (.int b) H Q := ⟨a, b, rfl, rfl, hc, q⟩
theorem w_U {gg : Int → V} {a : Int} (q : Q (gg a) H) : rU gg (.int a) H Q := ⟨a, rfl, q⟩
theorem w_tIf (h : tt σ H fun c H1 => if c = true then ta σ H1 Q else tb σ H1 Q) : tIf tt ta tb σ H Q := h
/-- a cut: what the value and the heap are, then what is done with them -/
theorem w_cut (P : V → Hp → Prop) (h : ∀ Q' : VK, (∀ v H', P v H' → Q' v H') → te σ H Q') (all : ∀ v H', P v H' → Q v H') : te σ H Q := h Q all
/-- an int, the heap as it is -/
theorem w_cutI (P : Int → Prop) (h : ∀ Q' : VK, (∀ z, P z → Q' (.int z) H) → te σ H Q') (all : ∀ z, P z → Q (.int z) H) : te σ H Q := h Q all
theorem w_cutA (P : List V → Hp → Prop) {Q : List V → Hp → Prop} (h : ∀ Q' : List V → Hp → Prop, (∀ v H', P v H' → Q' v H') → ag σ H Q') (all : ∀ v H', P v H' → Q v H') : ag σ H Q := h Q all
theorem s_cut (P : L2.St → Hp → Prop) (h : ∀ N : L2.St → Hp → Prop, (∀ σ' H', P σ' H' → N σ' H') → t { D with nx := N } σ H) (all : ∀ σ' H', P σ' H' → D.nx σ' H') : t D σ H := h D.nx all
theorem w_nil {Q : List V → Hp → Prop} (q : Q [] H) : tNil σ H Q := q
theorem w_cons {Q : List V → Hp → Prop} (h : te σ H fun x H1 => ar σ H1 fun xs H2 => Q (x :: xs) H2) : tCons te ar σ H Q := h
theorem w_andV (h : ta σ H fun x H1 => ∃ c, x = .bl c ∧ if c = true then tb σ H1 Q else Q (.bl false) H1) : tAndV ta tb σ H Q := h
theorem w_orV (h : ta σ H fun x H1 => ∃ c, x = .bl c ∧ if c = true then Q (.bl true) H1 else tb σ H1 Q) : tOrV ta tb σ H Q := h
theorem w_notV (h : ta σ H fun x H1 => ∃ c, x = .bl c ∧ Q (.bl (!c)) H1) : tNotV ta σ H Q := h
theorem w_CB {r : List V → Hp → VK → Prop} (h : ag σ H fun vs H1 => r vs H1 Q) : tCB r ag σ H Q := h
theorem w_call (h : ag σ H fun vs H1 => sp (vs ++ dvs) H1 Q E) : tCall sp dvs E ag σ H Q := h
theorem w_same (H : Hp) : Same H H := fun _ _ h => h
/-- a new object: what stood stands -/
theorem w_new {p : Addr} {o : HO} (h : H p = none) : Same H (upd H p o) := fun b u e => by
  rw [upd_ne (ne_of_none e h)]
  exact e
/-! leaves: a new object -/
def NewT (xs : List V) (H : Hp) (Q : VK) : Prop := xs.length ≤ sizeLine ∧ ∀ p, H p = none → Q (.ref p) (upd H p (.tup xs))
def NewL (xs : List V) (H : Hp) (Q : VK) : Prop := xs.length ≤ sizeLine ∧ ∀ p, H p = none → Q (.ref p) (upd H p (.lst xs))
theorem w_newT {xs : List V} (hl : xs.length ≤ 100000) (h : ∀ p H2, H p = none → Same H H2 → H2 p = some (.tup xs) → Q (.ref p) H2) : NewT xs H Q :=
  ⟨Nat.le_trans hl (by decide), fun p hp => h p _ hp (w_new hp) upd_same⟩
theorem w_newL {xs : List V} (hl : xs.length ≤ 100000) (h : ∀ p H2, H p = none → Same H H2 → H2 p = some (.lst xs) → Q (.ref p) H2) : NewL xs H Q :=
  ⟨Nat.le_trans hl (by decide), fun p hp => h p _ hp (w_new hp) upd_same⟩
theorem w_tup (h : ag σ H fun xs H1 => NewT xs H1 Q) : tTup ag σ H Q := h
theorem w_lst (h : ag σ H fun xs H1 => NewL xs H1 Q) : tLst ag σ H Q := h
def Fl (K : PySem.W.Frag) (f : Str) (x : V) (H : Hp) (Q : VK) : Prop := ∃ a C dx fs v, x = .ref a ∧ H a = some (.ins C dx fs) ∧ Cls K C ∧ NoAttr K C f ∧ fs.lookup f = some v ∧ Q v H
theorem w_fld {f : Str} (h : te σ H fun x H1 => Fl K f x H1 Q) : tFld K te f σ H Q := h
/-- what is asked at a store into a field, at a method's call, at a making -/
def Sf (K : PySem.W.Frag) (f : Str) (y x : V) (H : Hp) (N : Hp → Prop) : Prop := ∃ a C dx fs, x = .ref a ∧ H a = some (.ins C dx fs) ∧ Cls K C ∧ NoAttr K C f ∧ fs.length < 1000 ∧ N (upd H a (.ins C dx (putF f y fs)))
theorem w_sfld {tv : TE} {f : Str} (h : tv σ H fun y H1 => ta σ H1 fun x H2 => Sf K f y x H2 (D.nx σ)) : sFld K ta tv f D σ H := h
def Ml (C : Addr) (m : Str) (x : V) (H : Hp) (R : Prop) : Prop := ∃ a dx fs, x = .ref a ∧ H a = some (.ins C dx fs) ∧ fs.lookup m = none ∧ R
theorem w_meth {C : Addr} {m : Str} (h : te σ H fun x H1 => Ml C m x H1 (ag σ H1 fun vs H2 => sp (x :: (vs ++ dvs)) H2 Q E)) : tMeth C m sp dvs E te ag σ H Q := h
theorem w_methK {C : Addr} {m : Str} {ks : List Str} {gV : List V → List V → List V} (h : te σ H fun x H1 => Ml C m x H1 (ag σ H1 fun zs H2 => zs.length = ks.length ∧ sp (gV [x] zs) H2 Q E)) : tMethK C m ks sp gV E te ag σ H Q := h
def MkL (C : Addr) (sp : Sp) (E : XK) (vs : List V) (H : Hp) (Q : VK) : Prop := ∀ x dx, H x = none → H dx = none → dx ≠ x → sp (.ref x :: vs) (upd (upd H dx (.own x)) x (.ins C dx [])) (fun v H2 => v = .non ∧ Q (.ref x) H2) E
theorem w_make {C : Addr} (h : ag σ H fun vs H1 => MkL C sp E (vs ++ dvs) H1 Q) : tMake C sp dvs E ag σ H Q := h
def MkK (C : Addr) (n m : Nat) (sp : Sp) (gV : List V → List V → List V) (E : XK) (vs zs : List V) (H : Hp) (Q : VK) : Prop := vs.length = n ∧ zs.length = m ∧ ∀ x dx, H x = none → H dx = none → dx ≠ x → sp (gV (.ref x :: vs) zs) (upd (upd H dx (.own x)) x (.ins C dx [])) (fun v H3 => v = .non ∧ Q (.ref x) H3) E
theorem w_makeK {C : Addr} {n m : Nat} {gV : List V → List V → List V} (h : ag σ H fun vs H1 => ar σ H1 fun zs H2 => MkK C n m sp gV E vs zs H2 Q) : tMakeK C n m sp gV E ag ar σ H Q := h
theorem w_BM {T : String} {r : V → List V → Hp → VK → Prop} (h : te σ H fun x H1 => tyV K T x H1 ∧ ag σ H1 fun xs H2 => r x xs H2 Q) : tBM K T r te ag σ H Q := h
theorem w_sl {r : V → Option Int → Option Int → Hp → VK → Prop} {tl th : TO} (h : te σ H fun x H1 => tl σ H1 fun l H2 => th σ H2 fun u H3 => r x l u H3 Q) : tSl r te tl th σ H Q := h
theorem w_po {Q : Option Int → Hp → Prop} (q : Q none H) : tNoPart σ H Q := q
theorem w_pt {Q : Option Int → Hp → Prop} (h : te σ H fun x H1 => ∃ i, x = .int i ∧ Q (some i) H1) : tPart te σ H Q := h
theorem w_in {P : Int → Prop} {i : Int} (h : P i) : ∃ k, V.int i = V.int k ∧ P k := ⟨i, rfl, h⟩
theorem w_yes {Q : Bool → Hp → Prop} (q : Q true H) : tYes σ H Q := q
theorem w_ixL {p : Addr} {xs : List V} {a : Int} (h : H p = some (.lst xs)) (ha : atI xs a = some v) (q : Q v H) : rIxL K (.ref p) (.int a) H Q := ⟨p, xs, a, v, rfl, rfl, SqL.of h, ha, q⟩
theorem w_ixT {p : Addr} {xs : List V} {a : Int} (h : H p = some (.tup xs)) (ha : atI xs a = some v) (q : Q v H) : rIxT K (.ref p) (.int a) H Q := ⟨p, xs, a, v, rfl, rfl, SqT.of h, ha, q⟩
theorem w_sub {to ti : TE} {ts : TSet} {Q : L2.St → Hp → Prop} (h : to σ H fun o H1 => ti σ H1 fun i H2 => ts o i v H2 fun H3 => Q σ H3) : gSub to ti ts v σ H Q := h
theorem w_setL {Q : Hp → Prop} {p : Addr} {xs : List V} {a : Int} {j : Nat} (h : H p = some (.lst xs)) (hj : ixN xs.length a = some j) (q : Q (upd H p (.lst (xs.set j v)))) : rSetL (.ref p) (.int a) v H Q := ⟨p, xs, a, j, rfl, rfl, h, hj, q⟩
theorem w_eq (hs : scal x y = true) (q : Q (.bl (decide (x = y))) H) : rEq x y H Q := ⟨hs, q⟩
theorem w_ne (hs : scal x y = true) (q : Q (.bl (!decide (x = y))) H) : rNe x y H Q := ⟨hs, q⟩
/-! built-ins under names -/
def rInt1 : List V → Hp → VK → Prop := fun xs H Q => (∃ i, xs = [.int i] ∧ Q (.int i) H) ∨ ∃ k, xs = [.bl k] ∧ Q (.int (if k then 1 else 0)) H
theorem cr_int1 {X : Cx} : CallR X (.type "int") rInt1 := call_int1
theorem w_int {a : Int} (q : Q (.int a) H) : rInt1 [.int a] H Q := .inl ⟨a, rfl, q⟩
theorem w_intB {b : Bool} (q : Q (.int (if b then 1 else 0)) H) : rInt1 [.bl b] H Q := .inr ⟨b, rfl, q⟩
def rAbs1 : List V → Hp → VK → Prop := fun xs H Q => ∃ i, xs = [.int i] ∧ Q (.int (if i < 0 then -i else i)) H
theorem cr_abs {X : Cx} : CallR X (.builtin "abs") rAbs1 := call_abs
theorem w_abs {a : Int} (q : Q (.int (if a < 0 then -a else a)) H) : rAbs1 [.int a] H Q := ⟨a, rfl, q⟩
def rMax2 : List V → Hp → VK → Prop := fun xs H Q => ∃ i j, xs = [.int i, .int j] ∧ Q (.int (if j > i then j else i)) H
theorem cr_max2 {X : Cx} (hc : X.calm = true) : CallR X (.builtin "max") rMax2 := call_max2 hc
theorem w_max {a b : Int} (q : Q (.int (if b > a then b else a)) H) : rMax2 [.int a, .int b] H Q := ⟨a, b, rfl, q⟩
def rMin2 : List V → Hp → VK → Prop := fun xs H Q => ∃ i j, xs = [.int i, .int j] ∧ Q (.int (if j < i then j else i)) H
theorem cr_min2 {X : Cx} (hc : X.calm = true) : CallR X (.builtin "min") rMin2 := call_min2 hc
theorem w_min {a b : Int} (q : Q (.int (if b < a then b else a)) H) : rMin2 [.int a, .int b] H Q := ⟨a, b, rfl, q⟩
def rLen (K : PySem.W.Frag) : List V → Hp → VK → Prop := fun xs H Q => ∃ x n, xs = [x] ∧ LenV K x H n ∧ Q (.int n) H
theorem cr_len {X : Cx} : CallR X (.builtin "len") (rLen X.K) := call_len
theorem w_lenL {p : Addr} {xs : List V} (h : SqL K H p xs) (q : Q (.int xs.length) H) : rLen K [.ref p] H Q := ⟨_, _, rfl, .inl ⟨xs, h, rfl⟩, q⟩
theorem w_lenT {p : Addr} {xs : List V} (h : SqT K H p xs) (q : Q (.int xs.length) H) : rLen K [.ref p] H Q := ⟨_, _, rfl, .inr ⟨xs, h, rfl⟩, q⟩
theorem w_gcd {a b : Int} (q : Q (.int ((Nat.gcd a.natAbs b.natAbs : Nat) : Int)) H) : rGcd [.int a, .int b] H Q := ⟨a, b, rfl, q⟩
/-! tests -/
theorem w_ite {b : Bool} {A B : Prop} (h1 : b = true → A) (h2 : b = false → B) : if b = true then A else B := by
  cases b with
  | true => rw [if_pos rfl]; exact h1 rfl
  | false => rw [if_neg Bool.false_ne_true]; exact h2 rfl
theorem w_iteD {p A B : Prop} [Decidable p] (h1 : p → A) (h2 : ¬ p → B) : if decide p = true then A else B :=
  w_ite (fun e => h1 (of_decide_eq_true e)) fun e => h2 (of_decide_eq_false e)
theorem w_iteN {p A B : Prop} [Decidable p] (h1 : ¬ p → A) (h2 : p → B) : if (!decide p) = true then A else B :=
  w_ite (fun e => h1 (of_decide_eq_false (by simpa using e))) fun e => h2 (of_decide_eq_true (by simpa using e))
end
/-! ### sizes -/
def Sz (k : Nat) (x : Int) : Prop := x.natAbs < 2 ^ k
theorem Sz.mono {k j : Nat} {x : Int} (h : Sz k x) (hk : k ≤ j) : Sz j x := Nat.lt_of_lt_of_le h (Nat.pow_le_pow_right (by decide) hk)
theorem Sz.mul {k j : Nat} {x y : Int} (h : Sz k x) (h' : Sz j y) : Sz (k + j) (x * y) := wide_lt h h'
theorem Sz.neg {k : Nat} {x : Int} (h : Sz k x) : Sz k (-x) := by unfold Sz; rw [Int.natAbs_neg]; exact h
theorem Sz.ok {k j : Nat} {x y : Int} (h : Sz k x) (h' : Sz j y) (hk : k + j ≤ 900000 := by decide) : CMulW x y := wide_mul (h.mono (Nat.le_succ k)) (h'.mono (Nat.le_succ j)) (Nat.succ_pos _) (Nat.succ_pos _) (by omega)
theorem Sz.of {k : Nat} {x : Int} (h : x.natAbs < 2 ^ k) : Sz k x := h
theorem Sz.small {k : Nat} {x : Int} (h : x.natAbs < 1048576) (hk : 20 ≤ k := by decide) : Sz k x := Sz.mono (k := 20) h hk
theorem Sz.one {k : Nat} (h : 1 ≤ k := by decide) : Sz k 1 := Sz.mono (k := 1) (by show (1 : Int).natAbs < 2 ^ 1; decide) h
theorem Sz.div {k : Nat} {i j : Int} (h : 0 < j) (hz : Sz k j) (hk : k ≤ 8000 := by decide) : CDivW i j := wide_div h (hz.mono (Nat.le_succ k)) (Nat.succ_pos _) (by omega)
theorem Sz.le {k : Nat} {x y : Int} (h : Sz k y) (hx : x.natAbs ≤ y.natAbs) : Sz k x := Nat.lt_of_le_of_lt hx h
theorem Sz.add {k : Nat} {x y : Int} (h : Sz k x) (h' : Sz k y) : Sz (k + 1) (x + y) := by
  unfold Sz at *
  have : (x + y).natAbs ≤ x.natAbs + y.natAbs := Int.natAbs_add_le x y
  rw [Nat.pow_succ]
  omega
theorem Sz.sub {k : Nat} {x y : Int} (h : Sz k x) (h' : Sz k y) : Sz (k + 1) (x - y) := by
  rw [Int.sub_eq_add_neg]
  exact h.add h'.neg
/-! ### what is kept -/
theorem Same.at {H H' : Hp} {a : Addr} {o : HO} (e : Same H H') (h : H a = some o) : H' a = some o := e a o h
/-- a law's bag of numbers -/
def Bag (H : Hp) (b : Addr) : Prop := ∃ f s n : Int, H b = some (.lst [.int f, .int s, .int n])
/-- all is kept but the bag's numbers -/
structure Kp (b : Addr) (H H' : Hp) : Prop where
  bag : Bag H b
  bag' : Bag H' b
  keep : ∀ c o, c ≠ b → H c = some o → H' c = some o
theorem Bag.same {H H' : Hp} {b : Addr} (h : Bag H b) (e : Same H H') : Bag H' b := let ⟨f, s, n, h⟩ := h; ⟨f, s, n, e _ _ h⟩
theorem Kp.of {H H' : Hp} {b : Addr} (h : Bag H b) (e : Same H H') : Kp b H H' := ⟨h, h.same e, fun c o _ q => e c o q⟩
theorem Kp.refl {H : Hp} {b : Addr} (h : Bag H b) : Kp b H H := .of h (w_same H)
theorem Kp.trans {H H1 H2 : Hp} {b : Addr} (a : Kp b H H1) (c : Kp b H1 H2) : Kp b H H2 := ⟨a.bag, c.bag', fun x o n q => c.keep x o n (a.keep x o n q)⟩
theorem Kp.same {H H1 H2 : Hp} {b : Addr} (a : Kp b H H1) (c : Same H1 H2) : Kp b H H2 := a.trans (.of a.bag' c)
theorem Kp.tup {H H' : Hp} {b a : Addr} {xs : List V} (k : Kp b H H') (h : H a = some (.tup xs)) : H' a = some (.tup xs) := by
  obtain ⟨f, s, n, hb⟩ := k.bag
  exact k.keep a _ (ne_of h hb (by intro z; cases z)) h
theorem Kp.ins {H H' : Hp} {b a C dx : Addr} {fs : List (Str × V)} (k : Kp b H H') (h : H a = some (.ins C dx fs)) : H' a = some (.ins C dx fs) := by
  obtain ⟨f, s, n, hb⟩ := k.bag
  exact k.keep a _ (ne_of h hb (by intro z; cases z)) h
theorem Kp.free {H H' : Hp} {b p : Addr} (k : Kp b H H') (h : H' p = none) : H p = none := by
  cases q : H p with
  | none => rfl
  | some o =>
    by_cases e : p = b
    · obtain ⟨f, s, n, hb⟩ := k.bag'
      rw [e, hb] at h
      cases h
    · rw [k.keep p o e q] at h
      cases h
theorem Kp.seq {K : PySem.W.Frag} {H H' : Hp} {b a : Addr} {xs : List V} (k : Kp b H H') (hne : a ≠ b) (h : SqL K H a xs) : SqL K H' a xs := by
  rcases h with (h | ⟨o, h⟩) | h
  · exact .inl (.inl (k.keep _ _ hne h))
  · exact .inl (.inr ⟨o, k.keep _ _ hne h⟩)
  · exact .inr h
/-! ### comprehensions -/
section
variable {K : PySem.W.Frag} {σ : L2.St} {H : Hp} {Q : VK} {tl te : TE} {g : TG} {tt : TT} {vs : List Nat} {tb : TS} {D : Ends} {j : Nat}
/-- the comprehension, the loop, when the list is there -/
def LcS (K : PySem.W.Frag) (g : TG) (tt : TT) (te : TE) (vs : List Nat) (σ : L2.St) (x : V) (H : Hp) (Q : VK) : Prop := tLc (iList K (tC x)) g tt te vs σ H Q
def ForS (K : PySem.W.Frag) (g : TG) (tb : TS) (D : Ends) (σ : L2.St) (x : V) (H : Hp) : Prop := tFor (iList K (tC x)) g tb D σ H
theorem w_lcL (h : tl σ H fun x H1 => LcS K g tt te vs σ x H1 Q) : tLc (iList K tl) g tt te vs σ H Q := h
theorem w_forL (h : tl σ H fun x H1 => ForS K g tb D σ x H1) : tFor (iList K tl) g tb D σ H := h
/-- what is no list stands as it stood -/
def SameT (H H' : Hp) : Prop := ∀ c o, H c = some o → (∀ xs, o ≠ .lst xs) → H' c = some o
theorem SameT.of {H H' : Hp} (e : Same H H') : SameT H H' := fun c o h _ => e c o h
theorem SameT.upd {H : Hp} {p : Addr} {xs : List V} {o : HO} (h : H p = some (.lst xs)) : SameT H (upd H p o) := fun c u e n => by
  have hc : c ≠ p := fun z => by rw [z, h] at e; cases e; exact n xs rfl
  rw [upd_ne hc]
  exact e
theorem SameT.tup {H H' : Hp} {p : Addr} {xs : List V} (e : SameT H H') (h : H p = some (.tup xs)) : H' p = some (.tup xs) := e p _ h fun _ z => nomatch z
theorem SameT.ins {H H' : Hp} {p C dx : Addr} {fs : List (Str × V)} (e : SameT H H') (h : H p = some (.ins C dx fs)) : H' p = some (.ins C dx fs) := e p _ h fun _ z => nomatch z
/-- a list grows by one -/
structure Grown (l : Addr) (xs : List V) (H H' : Hp) : Prop where
  at_ : H' l = some (.lst xs)
  keep : ∀ c o, c ≠ l → H c = some o → H' c = some o
  same : SameT H H'
theorem w_app {l : Addr} {xs : List V} {y : V} (h : H l = some (.lst xs)) (hl : xs.length ≤ 1000) (k : ∀ H', Grown l (xs ++ [y]) H H' → Q .non H') : rAppend (.ref l) [y] H Q :=
  ⟨l, xs, y, rfl, rfl, h, Nat.lt_of_le_of_lt hl (by decide), k _ ⟨upd_same, fun c o hc e => by rw [upd_ne hc]; exact e, SameT.upd h⟩⟩
theorem Same.updL {H H' : Hp} {p : Addr} {o : HO} (e : Same H H') (h : H p = none) : Same H (upd H' p o) := fun c u q => by
  rw [upd_ne (ne_of_none q h)]
  exact e c u q
/-- [f(x) for x in a list]: each element leaves what stood, and gives what P says -/
theorem lc_each {l : Addr} {xs : List V} (P : Nat → V → Hp → Prop) (mono : ∀ i v H H', SameT H H' → P i v H → P i v H') (hl : H l = some (.lst xs)) (hlen : xs.length ≤ 1000)
    (hw : ∀ x, wipe ((wipe σ vs).set j (some x)) vs = wipe σ vs)
    (he : ∀ i x H', xs[i]? = some x → Same H H' → ∀ Q' : VK, (∀ v H'', Same H' H'' → P i v H'' → Q' v H'') → te ((wipe σ vs).set j (some x)) H' Q')
    (k : ∀ D ys H', H D = none → Same H H' → H' D = some (.lst ys) → ys.length = xs.length → (∀ i v, ys[i]? = some v → P i v H') → Q (.ref D) H') : LcS K (gName j) tYes te vs σ (.ref l) H Q := by
  refine ⟨l, rfl, ⟨_, SqL.of hl⟩, fun Dl hD => ?_⟩
  refine lc_list (K := K) (a := l) (xs := xs) (fun i H' => ∃ acc, H' Dl = some (.lst acc) ∧ acc.length = i ∧ Same H H' ∧ ∀ m v, acc[m]? = some v → P m v H') ⟨[], upd_same, rfl, w_new hD, fun m v e => by simp at e⟩
    (fun i H' _ ⟨acc, _, _, e, _⟩ => SqL.of (e _ _ hl)) ?_ ?_
  · rintro i x H' hx ⟨acc, h1, h2, e, hp⟩
    refine ⟨hw x, ?_⟩
    refine w_yes ?_
    rw [if_pos rfl]
    refine he i x H' hx e _ fun v H2 e2 pv => ?_
    have hi : i < xs.length := (List.getElem?_eq_some_iff.mp hx).1
    have h3 : H2 Dl = some (.lst acc) := e2 _ _ h1
    refine ⟨acc, h3, Nat.lt_of_lt_of_le (show acc.length < 1001 by omega) (by decide), acc ++ [v], upd_same, by rw [List.length_append, h2]; rfl, RK.Same.updL (e.trans e2) hD, fun m u hu => ?_⟩
    by_cases hm : m < acc.length
    · rw [List.getElem?_append_left hm] at hu
      exact mono m u H2 _ (SameT.upd h3) (mono m u H' H2 (.of e2) (hp m u hu))
    · rw [List.getElem?_append_right (by omega)] at hu
      have em : m = acc.length := by
        have := (List.getElem?_eq_some_iff.mp hu).1
        simp at this
        omega
      subst em
      simp at hu
      subst hu
      exact mono _ _ H2 _ (SameT.upd h3) (by rw [h2]; exact pv)
  · rintro H' ⟨acc, h1, h2, e, hp⟩
    exact k Dl acc H' hD e h1 h2 hp
/-- [f(i) for i in range(n)] -/
theorem lc_rng {lo : Int} {n : Nat} {W : TI} (P : Nat → V → Hp → Prop) (mono : ∀ i v H H', SameT H H' → P i v H → P i v H') (hn : n ≤ 1000) (hwi : ∀ R : It → Hp → Prop, R (Itr lo n) H → W σ H R)
    (hw : ∀ x, wipe ((wipe σ vs).set j (some x)) vs = wipe σ vs)
    (he : ∀ i H', i < n → Same H H' → ∀ Q' : VK, (∀ v H'', Same H' H'' → P i v H'' → Q' v H'') → te ((wipe σ vs).set j (some (.int (lo + i)))) H' Q')
    (k : ∀ D ys H', H D = none → Same H H' → H' D = some (.lst ys) → ys.length = n → (∀ i v, ys[i]? = some v → P i v H') → Q (.ref D) H') : tLc W (gName j) tYes te vs σ H Q := by
  refine hwi _ fun Dl hD => ?_
  refine lc_range (lo := lo) (n := n) (fun i H' => ∃ acc, H' Dl = some (.lst acc) ∧ acc.length = i ∧ Same H H' ∧ ∀ m v, acc[m]? = some v → P m v H') ⟨[], upd_same, rfl, w_new hD, fun m v e => by simp at e⟩ ?_ ?_
  · rintro i H' hi ⟨acc, h1, h2, e, hp⟩
    refine ⟨hw _, ?_⟩
    refine w_yes ?_
    rw [if_pos rfl]
    refine he i H' hi e _ fun v H2 e2 pv => ?_
    have h3 : H2 Dl = some (.lst acc) := e2 _ _ h1
    refine ⟨acc, h3, Nat.lt_of_lt_of_le (show acc.length < 1001 by omega) (by decide), acc ++ [v], upd_same, by rw [List.length_append, h2]; rfl, RK.Same.updL (e.trans e2) hD, fun m u hu => ?_⟩
    by_cases hm : m < acc.length
    · rw [List.getElem?_append_left hm] at hu
      exact mono m u H2 _ (SameT.upd h3) (mono m u H' H2 (.of e2) (hp m u hu))
    · rw [List.getElem?_append_right (by omega)] at hu
      have em : m = acc.length := by
        have := (List.getElem?_eq_some_iff.mp hu).1
        simp at this
        omega
      subst em
      simp at hu
      subst hu
      exact mono _ _ H2 _ (SameT.upd h3) (by rw [h2]; exact pv)
  · rintro H' ⟨acc, h1, h2, e, hp⟩
    exact k Dl acc H' hD e h1 h2 hp
end
end RK

/-! lowest terms, plain -/
namespace RK
/-- x, y are u, l in lowest terms (l not 0), y above 0 -/
structure Nrm (u l x y : Int) : Prop where
  pos : 0 < y
  cop : Int.gcd x y = 1
  eq : x * l = u * y
theorem dvd_of_cop {x y z : Int} (c : Int.gcd x y = 1) (h : y ∣ x * z) : y ∣ z := by
  have h' : y.natAbs ∣ x.natAbs * z.natAbs := by rw [← Int.natAbs_mul]; exact Int.natAbs_dvd_natAbs.mpr h
  exact Int.natAbs_dvd_natAbs.mp (Nat.Coprime.dvd_of_dvd_mul_left (show Nat.Coprime y.natAbs x.natAbs from by rw [Nat.coprime_comm]; exact c) h')
theorem nrm_uniq0 {x y x' y' : Int} (h1 : 0 < y) (h2 : 0 < y') (c1 : Int.gcd x y = 1) (c2 : Int.gcd x' y' = 1) (e : x * y' = x' * y) : x = x' ∧ y = y' := by
  have d1 : y ∣ y' := by
    have : y ∣ x * y' := ⟨x', by rw [e, Int.mul_comm]⟩
    exact dvd_of_cop c1 this
  have d2 : y' ∣ y := by
    have : y' ∣ x' * y := ⟨x, by rw [← e, Int.mul_comm]⟩
    exact dvd_of_cop c2 this
  have ey : y = y' := Int.le_antisymm (Int.le_of_dvd h2 d1) (Int.le_of_dvd h1 d2)
  subst ey
  exact ⟨Int.eq_of_mul_eq_mul_right (by omega) e, rfl⟩
theorem Nrm.uniq {u l u' l' x y x' y' : Int} (a : Nrm u l x y) (b : Nrm u' l' x' y') (hl : l ≠ 0) (hl' : l' ≠ 0) (e : u * l' = u' * l) : x = x' ∧ y = y' := by
  refine nrm_uniq0 a.pos b.pos a.cop b.cop ?_
  have h1 := a.eq
  have h2 := b.eq
  have k : l * l' * (x * y') = l * l' * (x' * y) := by grind
  exact Int.eq_of_mul_eq_mul_left (Int.mul_ne_zero hl hl') k
/-- dividing by the greatest common divisor -/
theorem nrm_div {u l : Int} (hl : 0 < l) : Nrm u l (u / (Int.gcd u l : Int)) (l / (Int.gcd u l : Int)) := by
  have g0 : 0 < Int.gcd u l := Int.gcd_pos_of_ne_zero_right u (by omega)
  have d1 : ((Int.gcd u l : Nat) : Int) ∣ u := Int.gcd_dvd_left ..
  have d2 : ((Int.gcd u l : Nat) : Int) ∣ l := Int.gcd_dvd_right ..
  generalize hg : ((Int.gcd u l : Nat) : Int) = g at *
  have gp : 0 < g := by omega
  obtain ⟨a, ha⟩ := d1
  obtain ⟨b, hb⟩ := d2
  have ea : u / g = a := by rw [ha]; exact Int.mul_ediv_cancel_left a (by omega)
  have eb : l / g = b := by rw [hb]; exact Int.mul_ediv_cancel_left b (by omega)
  refine ⟨?_, ?_, ?_⟩
  · rw [eb]
    have : 0 < b * g := by rw [Int.mul_comm]; omega
    exact Int.pos_of_mul_pos_left this gp
  · have := Int.gcd_ediv_gcd_ediv_gcd (i := u) (j := l) g0
    rw [hg] at this
    exact this
  · rw [ea, eb, ha, hb]
    grind
theorem nrm_low {u l d : Int} (hl : l ≠ 0) (hd : d = if 0 < l then (Int.gcd u l : Int) else 0 - (Int.gcd u l : Int)) : Nrm u l (u.fdiv d) (l.fdiv d) ∧ d ≠ 0 := by
  have g0 : 0 < Int.gcd u l := Int.gcd_pos_of_ne_zero_right u hl
  have d1 : ((Int.gcd u l : Nat) : Int) ∣ u := Int.gcd_dvd_left ..
  have d2 : ((Int.gcd u l : Nat) : Int) ∣ l := Int.gcd_dvd_right ..
  have hc := Int.gcd_ediv_gcd_ediv_gcd (i := u) (j := l) g0
  generalize hg : ((Int.gcd u l : Nat) : Int) = g at *
  have gp : 0 < g := by omega
  obtain ⟨x, hx⟩ := d1
  obtain ⟨y, hy⟩ := d2
  rw [hx, hy, Int.mul_ediv_cancel_left x (by omega), Int.mul_ediv_cancel_left y (by omega)] at hc
  by_cases h : 0 < l
  · rw [if_pos h] at hd
    rw [hd]
    have ex : u.fdiv g = x := by rw [hx]; exact Int.mul_fdiv_cancel_left x (by omega)
    have ey : l.fdiv g = y := by rw [hy]; exact Int.mul_fdiv_cancel_left y (by omega)
    refine ⟨⟨?_, ?_, ?_⟩, by omega⟩
    · rw [ey]
      exact Int.pos_of_mul_pos_left (show 0 < y * g by rw [Int.mul_comm]; omega) gp
    · rw [ex, ey]
      exact hc
    · rw [ex, ey, hx, hy]
      grind
  · rw [if_neg h] at hd
    have ed : d = -g := by omega
    subst ed
    have ex : u.fdiv (-g) = -x := by rw [hx, show g * x = (-g) * (-x) by grind]; exact Int.mul_fdiv_cancel_left _ (by omega)
    have ey : l.fdiv (-g) = -y := by rw [hy, show g * y = (-g) * (-y) by grind]; exact Int.mul_fdiv_cancel_left _ (by omega)
    refine ⟨⟨?_, ?_, ?_⟩, by omega⟩
    · rw [ey]
      exact Int.pos_of_mul_pos_left (show 0 < -y * g by grind) gp
    · rw [ex, ey]
      show Nat.gcd (-x).natAbs (-y).natAbs = 1
      rw [Int.natAbs_neg, Int.natAbs_neg]
      exact hc
    · rw [ex, ey, hx, hy]
      grind
theorem Nrm.dvd {u l x y : Int} (n : Nrm u l x y) : y ∣ l ∧ x ∣ u := by
  have c := n.cop
  refine ⟨dvd_of_cop c ⟨u, by rw [n.eq, Int.mul_comm]⟩, ?_⟩
  refine dvd_of_cop (x := y) (by rw [Int.gcd_comm]; exact c) ⟨l, by rw [n.eq, Int.mul_comm]⟩
theorem Nrm.le {u l x y : Int} (n : Nrm u l x y) (hl : l ≠ 0) : y.natAbs ≤ l.natAbs ∧ x.natAbs ≤ u.natAbs := by
  obtain ⟨d1, d2⟩ := n.dvd
  refine ⟨Nat.le_of_dvd (by omega) (Int.natAbs_dvd_natAbs.mpr d1), ?_⟩
  by_cases h : u = 0
  · have e := n.eq
    rw [h, Int.zero_mul] at e
    rcases Int.mul_eq_zero.mp e with z | z
    · rw [z]
      exact Nat.zero_le _
    · exact absurd z hl
  · exact Nat.le_of_dvd (by omega) (Int.natAbs_dvd_natAbs.mpr d2)
theorem cmp_same {A B X Y M N : Int} (hM : 0 < M) (hN : 0 < N) (h1 : A * M = X * N) (h2 : B * M = Y * N) : (A = B ↔ X = Y) ∧ (A < B ↔ X < Y) := by
  refine ⟨⟨fun e => ?_, fun e => ?_⟩, ⟨fun e => ?_, fun e => ?_⟩⟩
  · exact Int.eq_of_mul_eq_mul_right (show N ≠ 0 by omega) (by rw [← h1, ← h2, e])
  · exact Int.eq_of_mul_eq_mul_right (show M ≠ 0 by omega) (by rw [h1, h2, e])
  · exact Int.lt_of_mul_lt_mul_right (by rw [← h1, ← h2]; exact Int.mul_lt_mul_of_pos_right e hM) (show 0 ≤ N by omega)
  · exact Int.lt_of_mul_lt_mul_right (by rw [h1, h2]; exact Int.mul_lt_mul_of_pos_right e hN) (show 0 ≤ M by omega)
theorem gcd_step {x y : Int} (h : 0 ≤ x) (_ : 0 < y) : Int.gcd y (x % y) = Int.gcd x y := by
  show Nat.gcd y.natAbs (x % y).natAbs = Nat.gcd x.natAbs y.natAbs
  rw [Nat.gcd_comm x.natAbs, Nat.gcd_rec y.natAbs x.natAbs, Nat.gcd_comm, Int.natAbs_emod_of_nonneg h]
theorem gcd_abs (u l : Int) : Int.gcd (if u < 0 then -u else u) (if l < 0 then -l else l) = Int.gcd u l := by
  have e : ∀ z : Int, (if z < 0 then -z else z).natAbs = z.natAbs := fun z => by split <;> omega
  show Nat.gcd _ _ = Nat.gcd _ _
  rw [e, e]
end RK

/-! try .. except (A, B, C) as e; a caught exception handed to a def -/
namespace RK
open PySem PySem.Spec PyProof.Rows L2
/-- three classes, one behind the other -/
def exm3 (K : PySem.W.Frag) (cls c1 c2 c3 : Value) : Option Bool := PySem.W.exmAny K cls [c1, c2, c3]
/-- what the clause wishes of an exception of the body: slot i is the name's -/
def wAs3 (K : PySem.W.Frag) (c1 c2 c3 : Value) (nl i : Nat) (ts : Addr → Obj → Value → Option Addr → TS) (Wout : WX) (D : Ends) : WX := fun cls d σ H =>
  ∃ b, exm3 K cls c1 c2 c3 = some b ∧
    (b = true → ∀ a oe, σ.length = nl → H a = none → Zc cls d oe → (∃ vs, oe.data = .fields vs) → ts a oe cls d { nx := fun σ' H' => D.nx (σ'.set i none) H', rt := D.rt, bk := fun σ' H' => D.bk (σ'.set i none) H', ct := fun σ' H' => D.ct (σ'.set i none) H' } (σ.set i (some (.ref a))) H) ∧
    (b = false → Wout cls d σ H)
theorem flying_push {B h : Heap} {l : List Env} {a : Addr} {Z : Obj → Prop} {o : Obj} (f : HandSPX.FlyingZ B l a Z h) : HandSPX.FlyingZ B l a Z (h.push o) := by
  obtain ⟨st, no, ff, oe, vs, T, oT, tz, g1, g2, g3, g4, g5, g6, g7, g8, g9⟩ := f
  have up : ∀ b u, h.get? b = some u → (h.push o).get? b = some u := fun b u e => Heap.get?_push_of_some _ e
  exact ⟨fun b u e => up b u (st b u e), no, ff.of_keeps fun b u e _ => ⟨u, up b u e, rfl⟩, oe, vs, T, oT, tz, up _ _ g1, g2, g3, g4, g5, g6, up _ _ g7, g8, g9⟩
section
variable {X : Cx} {x1 x2 x3 n : Str} {c1 c2 c3 : Value} {i k : Nat} {body rest : List Stmt} {b0 : Stmt} {q1 q2 q3 qt pos pos' : Pos} {tb : WX → TS} {ts : Addr → Obj → Value → Option Addr → TS} {Wout : WX}
theorem ps_try_as3 (hstk : X.stack = X.env :: X.outer) (hfrm : X.env.frame = some X.env.locals) (nd : X.N.Nodup) (hi : X.N[i]? = some n) (hloc : X.env.kindOf n = some .local)
    (C1 : Gl X x1 ∧ X.mg x1 = some c1) (C2 : Gl X x2 ∧ X.mg x2 = some c2) (C3 : Gl X x3 ∧ X.mg x3 = some c3) (tk : Takes X Wout)
    (hb : ∀ (W : WX) (pn : List (Addr × Obj)) (xe : Value → Shared → Prop), Takes (X.tr pn xe) W → PassesOwn (model X.prog X.w) X.A X.env xe → PSs (X.tr pn xe) body (tb W))
    (hsu : ∀ (a : Addr) (oe : Obj) (cls : Value) (d : Option Addr) (pn : List (Addr × Obj)), X.base.get? a = none → Zc cls d oe → (∃ vs, oe.data = .fields vs) → PSs (X.suite a ((a, oe) :: pn)) (b0 :: rest) (ts a oe cls d))
    (d1 : (x1 == ("__debug__" : Str)) = false := by decide) (d2 : (x2 == ("__debug__" : Str)) = false := by decide) (d3 : (x3 == ("__debug__" : Str)) = false := by decide) :
    PS X (.Try body [.ExceptHandler (some (.Tuple [.Name x1 q1, .Name x2 q2, .Name x3 q3] k qt)) (some n) (b0 :: rest) pos'] [] [] pos) (fun D σ H => tb (wAs3 X.K c1 c2 c3 X.N.length i ts Wout D) D σ H) := by
  refine ⟨fun pins s σ H D I h => wpAny_Try_except ?_⟩
  have ok := I.ok
  have hA : X.A.frames = some (X.env :: X.outer) := by rw [ok.frames, hstk]
  refine wpAny_mono ((hb (wAs3 X.K c1 c2 c3 X.N.length i ts Wout D) (X.pn ++ pins) (fun e sa => wpAny (model X.prog X.w) X.A (noteFrame e X.env) (fun _ sb => wpAny (model X.prog X.w) X.A (setFlight e none) (fun _ sc =>
    wpAny (model X.prog X.w) X.A (handleBy e X.env [.ExceptHandler (some (.Tuple [.Name x1 q1, .Name x2 q2, .Name x3 q3] k qt)) (some n) (b0 :: rest) pos']) (SP X pins D) X.xe sc) X.xe sb) X.xe sa) (fun u s' xx => ?_) PassesOwn.looking).run [] s σ H D (I.toTry _) h) (fun f s1 hsp => ?_) (fun e s1 he => he)
  · obtain ⟨a, B, sI, pins', σ', H', cls, d, rfl, J', nb, up, sky, na, os, ag, b, hb1, hyes, hno⟩ := xx
    have J := J'.ofTry ok
    rw [hstk] at sky
    show wpAny (model X.prog X.w) X.A (noteFrame (.ref a) X.env) _ _ _
    refine Sky.land Zc.steady hA hfrm sky fun ha fla upa => ?_
    have Ja : Inv X pins σ' H' { s' with heap := ha } := J.landed nb fla.1 (up.trans upa) os ag
    have baseN : X.base.get? a = none := by
      cases e : X.base.get? a with
      | none => rfl
      | some o =>
        exfalso
        have hn := nb a o (J.bk a o e) (fun z => by rw [(J.stack.mem z).1] at e; cases e)
        rw [fla.2.1] at hn
        cases hn
    -- what the exception is, wherever it flies
    have facts : ∀ {h : Heap}, HandSPX.FlyingZ B (X.env :: X.outer) a (Zc cls d) h → ∃ oe vs, h.get? a = some oe ∧ Zc cls d oe ∧ oe.data = .fields vs ∧ a ≠ X.env.locals ∧ a ∉ X.fs := fun {h} f => by
      obtain ⟨oe, vs, e1, e2, e3⟩ := f.there
      have no : a ∉ frs (X.env :: X.outer) := fun z => by
        obtain ⟨_, o', e', hf⟩ := f.2.2.1.mem z
        rw [e1] at e'
        cases e'
        exact hf vs e3
      refine ⟨oe, vs, e1, e2, e3, fun z => no (List.mem_filterMap.mpr ⟨X.env, List.mem_cons_self, by rw [hfrm, z]⟩), fun z => ?_⟩
      obtain ⟨ev, m1, m2⟩ := List.mem_filterMap.mp z
      exact no (List.mem_filterMap.mpr ⟨ev, List.mem_cons_of_mem _ m1, m2⟩)
    obtain ⟨oa, va, a1, a2, a3, aL, aF⟩ := facts fla
    have Sa := Ja.suite a1 a3 na aL aF
    refine wpAny_handleBy_cons (codeAny_handlers_test (wpAny_Tuple ?_)) (fun z => nomatch z)
    refine Calls.spliced_cons (ld_glob (X := X.suite a ((a, oa) :: (X.pn ++ pins))) Sa C1.1 C1.2 ?_ d1)
    refine Calls.spliced_cons (ld_glob (X := X.suite a ((a, oa) :: (X.pn ++ pins))) Sa C2.1 C2.2 ?_ d2)
    refine Calls.spliced_cons (ld_glob (X := X.suite a ((a, oa) :: (X.pn ++ pins))) Sa C3.1 C3.2 ?_ d3)
    refine Calls.spliced_nil ⟨by show 3 ≤ sizeLine; decide, ?_⟩
    have flb : HandSPX.FlyingZ B (X.env :: X.outer) a (Zc cls d) (ha.push { cls := .type "tuple", data := .seq [c1, c2, c3].toArray }) := flying_push fla
    have upb : sI.heap.UpToSlots (ha.push { cls := .type "tuple", data := .seq [c1, c2, c3].toArray }) := (up.trans upa).trans (Heap.UpToSlots.of_keeps fun b u e => Heap.get?_push_of_some _ e)
    have tup : (ha.push { cls := .type "tuple", data := .seq [c1, c2, c3].toArray }).get? ha.objs.size = some { cls := .type "tuple", data := .seq [c1, c2, c3].toArray } := Heap.get?_push_size _ rfl
    show wpAny _ _ (excMatches (.ref a) (.ref ha.objs.size)) _ _ { s' with heap := ha.push { cls := .type "tuple", data := .seq [c1, c2, c3].toArray } }
    generalize ha.push { cls := .type "tuple", data := .seq [c1, c2, c3].toArray } = hc at flb upb tup ⊢
    have Jb : Inv X pins σ' H' { s' with heap := hc } := J.landed nb flb.1 upb os ag
    obtain ⟨ob, vb, b1, b2, b3, _, _⟩ := facts flb
    refine (PySem.W.exm_tup3 (M := model X.prog X.w) Jb.kIn (fun A Q E s kp q => wpAny_typeOf_ref (kp _ _ b1) (by rw [b2.1]; exact q)) tup hb1).here ?_
    cases b with
    | true =>
      refine codeAny_handlers_suite_as (HandSPX.lands_againZ flb fun hd fld upd => ?_)
      have Jd : Inv X pins σ' H' { s' with heap := hd } := J.landed nb fld.1 (upb.trans upd) os ag
      obtain ⟨od, vd, e1, e2, e3, eL, eF⟩ := facts fld
      refine store_ok (X := X.suite a ((a, od) :: (X.pn ++ pins))) (v := .ref a) (Jd.suite e1 e3 na eL eF) nd hi (.inl hloc) rfl (fun se Se => ?_) (.inr hloc)
      refine wpAny_mono ((hsu a od cls d (X.pn ++ pins) baseN e2 ⟨_, e3⟩).run [] se _ H' _ Se (hyes rfl a od J.len na e2 ⟨_, e3⟩)) (fun f sf hsp => ?_) (fun _ _ z => z.elim)
      have gone : ∀ {σ6 : L2.St} {H6 : Hp} {Q : Shared → Prop}, Inv (X.suite a ((a, od) :: (X.pn ++ pins))) [] σ6 H6 sf → (∀ s7, Inv X pins (σ6.set i none) H6 s7 → Q s7) →
          wpAny (model X.prog X.w) X.A (do bindName X.env n .none; unbindBehindTheSuite X.env n pos') (fun _ s7 => Q s7) X.xe sf := fun {_ _ _} S6 hq => gone_ok (S6.unsuite ok) nd hi hloc hq
      cases f with
      | ret u => exact (fun ⟨v6, σ6, H6, S6, r6, w6⟩ => gone S6 fun s7 J7 => ⟨_, _, _, J7, r6, w6⟩) hsp
      | next => exact (fun ⟨σ6, H6, S6, w6⟩ => gone S6 fun s7 J7 => ⟨_, _, J7, w6⟩) hsp
      | brk => exact (fun ⟨σ6, H6, S6, w6⟩ => gone S6 fun s7 J7 => ⟨_, _, J7, w6⟩) hsp
      | cont => exact (fun ⟨σ6, H6, S6, w6⟩ => gone S6 fun s7 J7 => ⟨_, _, J7, w6⟩) hsp
    | false =>
      show wpAny _ X.A (handleBy (.ref a) X.env []) _ _ _
      refine wpAny_handleBy_nil ?_
      have flb' := flb
      obtain ⟨_, _, _, oe, vs, T, oT, tz, g1, g2, g3, g4, _⟩ := flb'
      unfold PySem.passOn
      refine wpAny_bind (wpAny_field g1 g3 g4 ?_)
      rw [if_neg (show ¬ ((Value.ref T == Value.none) = true) by simp)]
      have out : wpAny (model X.prog X.w) X.A (setFlight (.ref a) X.env.frame) (fun _ sz => wpAny (model X.prog X.w) X.A (throw (.ref a) : Sem Flow) (SP X pins D) X.xe sz) X.xe { s' with heap := hc } := by
        rw [hfrm]
        refine HandSPX.setFlight_upZ flb fun hz held upz => wpAny_throw (tk _ _ ⟨a, B, sI, pins, σ', H', cls, d, rfl, J, nb, upb.trans upz, .inr (.inr (by rw [hstk]; exact held)), na, os, ag, hno rfl⟩)
      first
        | exact wpAny_bind (wpAny_pure (wpAny_bind out))
        | exact wpAny_bind out
  · cases f with
    | ret u => exact (fun ⟨v, σ', H', J', r, w⟩ => ⟨v, σ', H', J'.ofTry ok, r, w⟩) hsp
    | next => exact (fun ⟨σ', H', J', w⟩ => wpAny_execs_nil ⟨σ', H', J'.ofTry ok, w⟩) hsp
    | brk => exact (fun ⟨σ', H', J', w⟩ => ⟨σ', H', J'.ofTry ok, w⟩) hsp
    | cont => exact (fun ⟨σ', H', J', w⟩ => ⟨σ', H', J'.ofTry ok, w⟩) hsp
end
/-! ### the caught exception as an argument -/
/-- the object at a, as it stands -/
def ExE (oe : Obj) (a : Addr) : HO := .ext fun h => h.get? a = some oe
theorem ExE.ok {P : Program} {w : World} {H : Hp} {h : Heap} {a : Addr} {oe : Obj} (e : h.get? a = some oe) : ObjOk P w H h a (ExE oe a) := ⟨e, ⟨oe, e⟩, fun _ _ q k => k _ q⟩
/-- f(.., e, ..): e is the exception that the suite holds -/
def tExc (oe : Obj) (a : Addr) (sp : Sp) (E : XK) (t : TA) : TE := fun σ H Q => t σ H fun vs H1 => sp vs (upd H1 a (ExE oe a)) (fun v H2 => H2 a = some (ExE oe a) ∧ Q v (delH H2 a)) E
section
variable {X : Cx} {CX : CXT} {k : Nat} {f : Addr} {fd : FuncData} {ps : List Str} {sp : Sp} {E : XK} {x : Str} {es : List Expr} {e : Expr} {t : TA} {a : Addr} {oe : Obj} {p pos : Pos}
theorem exc_back {H H2 : Hp} {h h' : Heap} {fs : List Addr} (ha : h.get? a = some oe) (hn : H a = none) (h2 : H2 a = some (ExE oe a)) (u : Un fs [] (upd H a (ExE oe a)) H2 h h') (e' : h'.get? a = some oe) : Un fs [] H (delH H2 a) h h' := by
  have other : ∀ {b : Addr} {o : HO}, H b = some o → b ≠ a := fun {b o} q z => by rw [z, hn] at q; cases q
  have other2 : ∀ {b : Addr} {o : HO}, H2 b = some o → (∀ φ, o ≠ .ext φ) → b ≠ a := fun {b o} q n z => by rw [z, h2] at q; cases q; exact n _ rfl
  refine ⟨fun b o q n hb hx => ?_, fun b o q n hb hx => ?_, fun b o q n hx => ?_, u.there, fun b xs q => ?_, fun b o w q => ?_, fun b tb q => ?_⟩
  · by_cases z : b = a
    · subst z
      rw [ha] at q
      cases q
      exact e'
    · exact u.keep b o q (by rw [upd_ne z]; exact n) hb hx
  · by_cases z : b = a
    · subst z
      rw [ha] at q
      cases q
      exact ⟨oe.slots, e'⟩
    · exact u.slot b o q (by rw [upd_ne z]; exact n) hb hx
  · by_cases z : b = a
    · rw [z, delH_same]
    · rw [delH_ne z]
      exact u.free b o q (by rw [upd_ne z]; exact n) hx
  · rw [delH_ne (other q)]
    exact u.tups b xs (by rw [upd_ne (other q)]; exact q)
  · rw [delH_ne (other q)]
    exact u.frzs b o w (by rw [upd_ne (other q)]; exact q)
  · rw [delH_ne (other q)]
    exact u.tbls b tb (by rw [upd_ne (other q)]; exact q)
theorem hok_del {P : Program} {w : World} {H : Hp} {h : Heap} (ok : HOk P w H h) (h2 : H a = some (ExE oe a)) : HOk P w (delH H a) h := fun b u q => by
  have hb : b ≠ a := fun z => by rw [z, delH_same] at q; cases q
  rw [delH_ne hb] at q
  refine (ok b u q).stay (fun _ _ _ r => r) (fun c r => ?_) (fun c xs r => ?_)
  · rw [delH_ne (fun z => by rw [z, h2] at r; cases r)]
    exact r
  · rw [delH_ne (fun z => by rw [z, h2] at r; cases r)]
    exact r
end
end RK

/-! isinstance and fields of an exception that a def was handed -/
namespace PySem.W
open PySem PySem.Spec PySem.Calls PyProof.Rows
section
variable {prog : Program} {w : World} {A : Around} {E : Value → Shared → Prop} {s : Shared} {K : Frag} {x D : Addr} {ox : Obj} {od : Option Obj}
theorem rk_findData {C : Addr} {name : Str} {u g : Value} (c1 : (clsIn K C).isSome = true) (c2 : findIn K (.ref C) name = some (some u)) (c3 : specialIn K u "__get__" = some (some g)) (c4 : takesIn K u = some true) : findObj K C od name = some (.bind g u) := by
  obtain ⟨cd, e⟩ := Option.isSome_iff_exists.mp c1
  unfold findObj
  simp [e, c2, c3, c4]
/-- x.__class__ of an own exception, whatever its dict -/
theorem rk_classE {Q : Option Value → Shared → Prop} (C : L2.ExcC K D) (KI : K.In s.heap) (I : InstAt s.heap x ox D od) (h : Q (some (.ref D)) { s with toks := s.toks + 1 }) : wpAny (model prog w) A (getAttr? (.ref x) "__class__") Q E s := by
  have fo : findObj K D od "__class__" = some (.bind (.builtin "getset_descriptor.__get__") (.builtin "object.__class__")) := rk_findData (by obtain ⟨cd, e, _⟩ := any_some C.hd; rw [e]; rfl) C.ha C.hn C.ht
  obtain ⟨hh, gg, dd, tt, oo⟩ := s
  have T0 := I.type (M := model prog w)
  have T1 := looks_findIn (M := model prog w) KI C.hg
  have T2 := looks_findIn (M := model prog w) KI C.hk
  have T3 := looks_find (M := model prog w) KI I fo
  have isB : Looks (model prog w) hh (isInstance (.ref x) (.type "BaseException")) true := T0.andThen (looks_subIn KI C.hs)
  have z2 : (Value.builtin "BaseException.__getattribute__" == Value.builtin "object.__getattribute__") = false := by decide +kernel
  unfold getAttr? getAttrBy? getAttrBy
  refine wpAny_bind (wpAny_mkText (wpAny_bind (wpAny_attempt (wpAny_holding (wpAny_bind (T0.at (wpAny_bind (T1.at ?_))))))))
  show wpAny _ _ (if (onTheHeap (Value.ref D) && Value.builtin "BaseException.__getattribute__" == Value.builtin "object.__getattribute__") = true then _ else _) _ _ _
  rw [z2, Bool.and_false, if_neg Bool.false_ne_true]
  unfold getAttrByItsOwn hookBefore
  refine wpAny_bind ?_
  have z3 : onTheHeap (Value.ref D) = true := rfl
  rw [if_pos z3]
  refine T2.at (wpAny_bind (wpAny_attempt (wpAny_holding ?_)))
  unfold callGetattribute
  rw [show (false && onTheHeap (Value.builtin "BaseException.__getattribute__")) = false from rfl, if_neg Bool.false_ne_true]
  unfold boundAndCalled
  rw [PySem.F.excAttr_ValueError.ga.bind (.ref x)]
  refine wpAny_bind (wpAny_pure ?_)
  show wpAny _ _ (call (.builtin "BaseException.__getattribute__") [.ref x, .str "__class__" tt]) _ _ _
  refine wpAny_call (codeAny_call_builtin PySem.F.excAttr_ValueError.ga.plain PySem.F.entry_bexc_ga (@check_slot (model prog w) _ _ ⟨hh, gg, dd, tt + 1, oo⟩ "BaseException.__getattribute__" "BaseException" "__getattribute__" (.ref x) [.str "__class__" tt] [] _ (by decide +kernel) (by decide +kernel) isB (PySem.F.args_bexc_ga (.ref x) (.str "__class__" tt)) ?_))
  unfold Builtin.«object.__getattribute__»
  refine wpAny_bind (wpAny_of_eq (a := ((Value.ref x : Value), [Value.str "__class__" tt])) (by first | rfl | (simp only [slotArgs]; rfl)) (wpAny_bind (wpAny_pure (wpAny_bind (T0.at (wpAny_bind (T3.at ?_)))))))
  show wpAny _ _ (holding [Value.builtin "object.__class__"] (call (.builtin "getset_descriptor.__get__") [.builtin "object.__class__", .ref x, .ref D]) >>= ret) _ _ _
  refine wpAny_bind (wpAny_holding (wpAny_call (class_get (s := ⟨hh, gg, dd, tt + 1, oo⟩) (ox := ox) (od := od) KI I C.hm (wpAny_pure ?_))))
  show wpAny _ _ (handedOut (.ref D)) _ _ _
  rw [handedOut_of (v := .ref D) rfl]
  first
    | exact wpAny_pure (wpAny_pure h)
    | exact wpAny_pure h
    | exact wpAny_pure (wpAny_bind (wpAny_pure (wpAny_pure h)))
theorem rk_clsObj {C : L2.ExcC K D} : ∃ oc, K.lookup D = some oc ∧ ∃ cd, oc.data = .cls cd := by
  obtain ⟨cd, e, _⟩ := any_some C.hd
  unfold clsIn at e
  split at e
  · rename_i ho
    exact ⟨_, ho, _, rfl⟩
  · cases e
theorem rk_kitE (C : L2.ExcC K D) : KitX K (.ref x) (.ref D) (fun h => InstAt h x ox D od) where
  ty := fun _ _ _ I => I.type
  it := fun M h KI I => by
    obtain ⟨oc, ho, cd, e⟩ := rk_clsObj (C := C)
    obtain ⟨c0, d0, t0, sl0⟩ := oc
    cases e
    intro A' Q' E' s' kp q
    unfold isType loadHead
    exact wpAny_bind (wpAny_loadPart (kp _ _ (KI _ _ ho)) (wpAny_pure q))
  ne := fun h tp dd its m sl KI e => by
    obtain ⟨oc, ho, cd, e2⟩ := rk_clsObj (C := C)
    refine Bool.eq_false_iff.mpr fun q => ?_
    obtain rfl : D = tp := Value.ref.inj (beq_iff_eq.mp q)
    rw [KI _ _ ho] at e
    cases e
    cases e2
  ca := fun KI I q => rk_classE C KI I q
end
end PySem.W
namespace RK
open PySem PySem.Spec PyProof.Rows L2
section
variable {X : Cx} {a D : Addr} {oe : Obj}
theorem exc_inst {h : Heap} {od : Option Addr} {o : Option Obj} (hz : Zc (.ref D) od oe) (hf : ∃ vs, oe.data = .fields vs) (e : h.get? a = some oe) (ho : match od with | none => o = none | some dd => ∃ u, h.get? dd = some u ∧ o = some u) : PySem.W.InstAt h a oe D o := by
  obtain ⟨vs, hd⟩ := hf
  refine ⟨e, hz.1, by unfold PySem.W.notCls; rw [hd] <;> rfl, ?_⟩
  rw [hz.2]
  cases od with
  | none => subst ho; trivial
  | some dd =>
    obtain ⟨u, h1, rfl⟩ := ho
    exact h1
/-- what is asked of a handed exception: its class D, its dict at dd with the fields fs -/
structure ExAt (H : Hp) (a D : Addr) (fs : List (Str × V)) : Prop where
  ex : ∃ oe dd, H a = some (ExE oe a) ∧ Zc (.ref D) (some dd) oe ∧ (∃ vs, oe.data = .fields vs) ∧ H dd = some (.xd fs)
def rIsX (K : PySem.W.Frag) : List V → Hp → VK → Prop := fun xs H Q => ∃ (a D : Addr) (fs : List (Str × V)) (c : V) (cv : Value) (b : Bool), xs = [.ref a, c] ∧ ExAt H a D fs ∧ ExcC K D ∧ (∀ u, RelV c u → u = cv) ∧ PySem.W.kitOne K (.ref D) cv = some b ∧ Q (.bl b) H
theorem cr_isX : CallR X (.builtin "isinstance") (rIsX X.K) := by
  intro pins s σ H xs us Q I r h
  obtain ⟨a, D, fs, c, cv, b, rfl, ⟨oe, dd, ha, hz, hf, hd⟩, C, hc, e, q⟩ := h
  cases r with
  | cons r1 r =>
    cases r with
    | cons r2 r =>
      cases r
      cases r1
      obtain rfl := hc _ r2
      have ea : s.heap.get? a = some oe := (I.hok a _ ha).1
      obtain ⟨mA, hns, _⟩ : ObjOk X.prog X.w H s.heap dd (.xd fs) := I.hok dd _ hd
      obtain ⟨od, ho, _⟩ := lookIn_ns hns
      exact PySem.W.kia_one (PySem.W.rk_kitE C) I.kIn (exc_inst hz hf ea ⟨od, ho, rfl⟩) e (fun z => nomatch z) fun tk => ⟨.bl b, H, I.kept (t' := tk) fun _ _ z => z, rfl, q⟩
/-- e.f -/
def tXfT (K : PySem.W.Frag) (f : Str) (te : TE) : TE := fun σ H Q => te σ H fun x H1 => ∃ (a D : Addr) (fs : List (Str × V)) (v : V), x = .ref a ∧ ExAt H1 a D fs ∧ XfC K D ∧ PySem.W.findIn K (.ref D) f = some none ∧ fs.lookup f = some v ∧ Q v H1
theorem pe_xfT {e : Expr} {te : TE} {pos : Pos} {f : Str} (he : PE X e te) (hb : attributeBase e f X.env (eval e X.env) = eval e X.env := by rfl) : PE X (.Attribute e f pos) (tXfT X.K f te) := by
  refine ⟨fun pins s σ H Q I h => attr_of hb (thn (he.run pins s σ H _ I h) fun u s1 hh => ?_)⟩
  obtain ⟨x, H1, I1, rx, a, D, fs, v, rfl, ⟨oe, dd, ha, hz, hf, hd⟩, T, hno, l, q⟩ := hh
  obtain rfl : u = Value.ref a := rx
  have ea : s1.heap.get? a = some oe := (I1.hok a _ ha).1
  obtain ⟨mA, hns, hr⟩ : ObjOk X.prog X.w H1 s1.heap dd (.xd fs) := I1.hok dd _ hd
  obtain ⟨od, ho, hl⟩ := lookIn_ns hns
  obtain ⟨u, hu, ru⟩ := RelO.some_of (v := v) (o := mA f) (by rw [← l]; exact hr f)
  exact HandSPX.exc_get I1.kIn (exc_inst hz hf ea ⟨od, ho, rfl⟩) T.ga T.gg T.exC (PySem.W.findObj_own T.hdC hno rfl (by rw [hl, hu])) (handed_of ru) ⟨v, H1, I1.tok _, ru, q⟩
end
end RK

/-! defs that are called where no text of a collection is under way (so that they may ask for such a text) -/
namespace RK
open PySem PySem.Spec PyProof.Rows L2
structure FnOkG (P : Program) (w : World) (K : PySem.W.Frag) (mg : Str → Option Value) (base : Heap) (CX : CXT) (k : Nat) (f : Addr) (fd : FuncData) (ps : List Str) (sp : Sp) : Prop where
  len : ∀ vs H Q E, sp vs H Q E → vs.length = ps.length
  run : ∀ (A : Around) (outer : List Env) (s : Shared) (H : Hp) (args : Args) (us : List Value) (vs : List V) (Q : VK) (E : XK), A.guards = some [] → Room k A → Env0 P w K mg base A outer s H → BindsTo s fd args (ps.zip us) → Vals vs us → sp vs H Q E →
    codeAny (model P w) A (.call (.ref f) args) (CR CX outer P w H s Q E) s
section
variable {P : Program} {w : World} {K : PySem.W.Frag} {mg : Str → Option Value} {base : Heap} {CX : CXT} {k : Nat} {f : Addr} {fd : FuncData} {N ps : List Str} {sp : Sp} {x qual : Str} {st : Stmt}
theorem guards_deeper {A : Around} {env : Env} (h : A.guards = some []) : (A.deeper env).guards = some [] := h
theorem FnOkG.of (F : FnOk P w K mg base CX k f fd ps sp) : FnOkG P w K mg base CX k f fd ps sp := ⟨F.len, fun A outer s H args us vs Q E _ => F.run A outer s H args us vs Q E⟩
/-- as Fun.ok, the body may use that no text of a collection is under way -/
theorem funG {CX : CXT} (F : Fun K x qual st f fd) (S : FnScope N ps (defScope st)) (len : ∀ vs H Q E, sp vs H Q E → vs.length = ps.length)
    (hbody : ∀ (cdv : Value) (A : Around) (outer : List Env) (s : Shared) (H : Hp) (vs : List V) (Q : VK) (E : XK), A.guards = some [] → Room k (A.deeper (envOfC qual (defScope st) s.heap.objs.size f cdv)) → sp vs H Q E →
      ∃ t, PSs (cxOf CX P w K mg base N qual (defScope st) f cdv A outer s H E) (defBody st) t ∧ t { nx := fun _ H' => Q .non H', rt := Q } (L2.start N vs) H) : FnOkG P w K mg base CX (k + 1) f fd ps sp := by
  obtain ⟨oc, od, kV, doc, pm, an, cdv, ct, osl, rfl, lk, hcd⟩ := F.ex
  exact ⟨len, fun A outer s H args us vs Q E hg hr e0 hb r q => LamX.run_ofS lk hcd S hr e0 hb r (len _ _ _ _ q) fun hr' => hbody cdv A outer s H vs Q E hg hr' q⟩
end
section
variable {X : Cx} {CX : CXT} {k : Nat} {f : Addr} {fd : FuncData} {ps : List Str} {sp : Sp} {E : XK} {x : Str} {es : List Expr} {e : Expr} {t : TA} {p pos : Pos}
theorem run_G {pins : List (Addr × Obj)} {σ : L2.St} {H : Hp} {s : Shared} {Q : VK} {us : List Value} {vs : List V} (F : FnOkG X.prog X.w X.K X.mg X.base CX k f fd ps sp) (hG : X.A.guards = some []) (hr : Room k X.A) (hb : L2.Binds X.K fd ps []) (hx : Passes CX X E)
    (I : Inv X pins σ H s) (r : Vals vs us) (h : sp vs H Q E) : wpAny (model X.prog X.w) X.A (call (.ref f) us) (EP X pins σ Q) X.xe s := by
  have hl : (us ++ []).length = ps.length := by rw [List.append_nil, ← r.length]; exact F.len _ _ _ _ h
  have r' : Vals vs (us ++ []) := by rw [List.append_nil]; exact r
  refine wpAny_call (codeAny_mono (F.run X.A X.stack s H ⟨us, []⟩ (us ++ []) vs Q E hG hr I.env0 (hb s us I.kIn hl) r' h) fun res s' hq => ?_)
  match res, hq with
  | .error er, hq => exact hx pins σ H s er s' I hq
  | .ok (.ret u), hq => exact I.after hq
  | .ok .next, hq => exact hq.elim
  | .ok .brk, hq => exact hq.elim
  | .ok .cont, hq => exact hq.elim
/-- f(e, ..) -/
theorem pe_callG (F : FnOkG X.prog X.w X.K X.mg X.base CX k f fd ps sp) (hG : X.A.guards = some []) (hr : Room k X.A) (hg : Gl X x) (hm : X.mg x = some (.ref f)) (hk : PySem.W.keepIn X.K (.ref f) = true) (hb : L2.Binds X.K fd ps []) (hx : Passes CX X E)
    (ha : PA X (e :: es) t) (hdb : (x == ("__debug__" : Str)) = false := by decide) (he : starEach (e :: es) X.env = (false, eval e X.env) :: starEach es X.env := by rfl) (hpl : (backTo pos (starEach es X.env)).any (·.1) = false := by rfl) :
    PE X (.Call (.Name x p) (e :: es) [] pos) (tCall sp [] E t) := by
  refine ⟨fun pins s σ H Q I h => wpAny_Call_Name_kw (ld_glob I hg hm (PySem.W.callWith_K (h₀ := X.base) I.ok.mod.kin hk (thn (ha.run pos pins s σ H _ I h) fun us s1 hh => ?_) he hpl) hdb)⟩
  obtain ⟨vs, H1, I1, r, q⟩ := hh
  exact ⟨I1.kIn, run_G F hG hr hb hx I1 r (by rw [List.append_nil] at q; exact q)⟩
end
/-! ### defs that an except suite calls -/
structure RoomS (k : Nat) (A : Around) : Prop where
  dp : A.depth + 3 * k + 5 < recursionLimit
  un : A.units + 16 * k + 200 < cLine
theorem RoomS.mono {j k : Nat} {A : Around} (r : RoomS k A) (h : j ≤ k) : RoomS j A := ⟨by have := r.dp; omega, by have := r.un; omega⟩
theorem RoomS.deeper {k : Nat} {A : Around} (r : RoomS (k + 1) A) (env : Env) : RoomS k (A.deeper env) := by
  obtain ⟨h1, h2⟩ := r
  exact ⟨by show A.depth + 1 + 3 * k + 5 < _; omega, by show A.units + 3 + 16 * k + 200 < _; omega⟩
theorem RoomS.of {k : Nat} {A : Around} (r : Room k A) : RoomS k A := ⟨r.dp, r.un⟩
theorem RoomS.units {k : Nat} {A : Around} (r : RoomS k A) : A.units + 64 < cLine := by have := r.un; omega
structure FnS (P : Program) (w : World) (K : PySem.W.Frag) (mg : Str → Option Value) (base : Heap) (CX : CXT) (k : Nat) (f : Addr) (fd : FuncData) (ps : List Str) (sp : Sp) : Prop where
  len : ∀ vs H Q E, sp vs H Q E → vs.length = ps.length
  run : ∀ (A : Around) (outer : List Env) (s : Shared) (H : Hp) (args : Args) (us : List Value) (vs : List V) (Q : VK) (E : XK), A.guards = some [] → RoomS k A → Env0 P w K mg base A outer s H → BindsTo s fd args (ps.zip us) → Vals vs us → sp vs H Q E →
    codeAny (model P w) A (.call (.ref f) args) (CR CX outer P w H s Q E) s
/-- the context of such a def's body: its own object stands as it stood -/
abbrev cxS (CX : CXT) (P : Program) (w : World) (K : PySem.W.Frag) (mg : Str → Option Value) (base : Heap) (N : List Str) (qual : Str) (scope : Scope) (f : Addr) (cd : Value) (A : Around) (outer : List Env) (s : Shared) (H : Hp) (E : XK) (o : Obj) : Cx := L2H.cxH CX P w K mg base N qual scope f cd A outer s H E (f, o)
section
variable {P : Program} {w : World} {K : PySem.W.Frag} {mg : Str → Option Value} {base : Heap} {k : Nat} {f : Addr} {fd : FuncData} {N ps : List Str} {sp : Sp} {x qual : Str} {st : Stmt}
theorem funS {CX : CXT} (F : Fun K x qual st f fd) (S : FnScope N ps (defScope st)) (len : ∀ vs H Q E, sp vs H Q E → vs.length = ps.length)
    (hbody : ∀ (cdv : Value) (o : Obj) (A : Around) (outer : List Env) (s : Shared) (H : Hp) (vs : List V) (Q : VK) (E : XK), A.guards = some [] → RoomS k (A.deeper (envOfC qual (defScope st) s.heap.objs.size f cdv)) → sp vs H Q E →
      ∃ t, PSs (cxS CX P w K mg base N qual (defScope st) f cdv A outer s H E o) (defBody st) t ∧ t { nx := fun _ H' => Q .non H', rt := Q } (L2.start N vs) H) : FnS P w K mg base CX (k + 1) f fd ps sp := by
  obtain ⟨oc, od, kV, doc, pm, an, cdv, ct, osl, rfl, lk, hcd⟩ := F.ex
  refine ⟨len, fun A outer s H args us vs Q E hG hr e0 hb r q => ?_⟩
  have inB := e0.mod.kin f _ lk
  obtain ⟨inS, fr⟩ := e0.bs f _ inB
  have KX : K.In s.heap := e0.mod.kin.keeps fun b o z => (e0.bs b o z).1
  have noL : s.heap.NoLimit := e0.mod.nolimit.keeps fun b o z => (e0.bs b o z).1
  have kinds : ∀ y ∈ ps.zip us, (defScope st).names.lookup y.1 = some .local ∨ ((defScope st).names.lookup y.1 = some .cell ∧ ((cellsFrom (s.heap.objs.size + 1) (defScope st).names []).lookup y.1).isSome = true) := fun ⟨n, v⟩ hy =>
    (S.par n (List.of_mem_zip hy).1).imp id fun z => ⟨z, PySem.W.cellsFrom_some _ _ _ (.inl z)⟩
  refine codeAny_call_function (show A.depth < recursionLimit by have := hr.dp; omega) (KX _ _ lk) rfl S.co S.gen rfl (PySem.W.codeRec_of KX hcd) (hb _ _ _ _ (wpAny_newFunctionEnv_cells S.kind kinds fun env he s1 ic => ?_))
  subst he
  refine ⟨noL.keeps ic.toInCall.keep, codeAny_func ?_⟩
  obtain ⟨t, ht, hq⟩ := hbody cdv { cls := oc, dict := od, data := .func (PySem.W.fnOf x qual (defArgs st) (defBody st) (defScope st) .none kV doc pm an cdv ct), slots := osl } A outer s H vs Q E hG (hr.deeper _) q
  have I := L2H.inv_startH (CX := CX) (E := E) S (p := (f, _)) ⟨inS, fr, (fun z => by rw [(e0.funs.mem z).1] at inB; cases inB), fun v z => (nomatch z)⟩ e0 (len _ _ _ _ q) r ic
  refine wpAny_mono (ht.run [] s1 (L2.start N vs) H _ I hq) (fun fl s' hs => ?_) fun e s' hs => hs
  match fl, hs with
  | .ret u, ⟨v, σ', H', J, rv, z⟩ => exact ⟨v, H', J.os, J.bare, J.base, J.hok, rv, z⟩
  | .next, ⟨σ', H', J, z⟩ => exact ⟨.non, H', J.os, J.bare, J.base, J.hok, rfl, z⟩
  | .brk, ⟨_, _, _, z⟩ => exact z.elim
  | .cont, ⟨_, _, _, z⟩ => exact z.elim
end
section
variable {X : Cx} {CX : CXT} {k : Nat} {f : Addr} {fd : FuncData} {ps : List Str} {sp : Sp} {E : XK} {x : Str} {es : List Expr} {e : Expr} {t : TA} {a : Addr} {oe : Obj} {p pos : Pos}
theorem pe_exc (hp : (a, oe) ∈ X.pn) (hB : X.base.get? a = none) (F : FnS X.prog X.w X.K X.mg X.base CX k f fd ps sp) (hG : X.A.guards = some []) (hr : RoomS k X.A) (hg : Gl X x) (hm : X.mg x = some (.ref f)) (hk : PySem.W.keepIn X.K (.ref f) = true) (hb : L2.Binds X.K fd ps [])
    (hE : ∀ s H e s', CX X.stack H s E e s' → False)
    (ha : PA X (e :: es) t) (hdb : (x == ("__debug__" : Str)) = false := by decide) (he : starEach (e :: es) X.env = (false, eval e X.env) :: starEach es X.env := by rfl) (hpl : (backTo pos (starEach es X.env)).any (·.1) = false := by rfl) :
    PE X (.Call (.Name x p) (e :: es) [] pos) (tExc oe a sp E t) := by
  refine ⟨fun pins s σ H Q I h => wpAny_Call_Name_kw (ld_glob I hg hm ?_ hdb)⟩
  refine PySem.W.callWith_K (h₀ := X.base) I.ok.mod.kin hk (thn (ha.run pos pins s σ H _ I h) fun us s1 hh => ?_) he hpl
  obtain ⟨vs, H1, I1, r, q⟩ := hh
  refine ⟨I1.kIn, ?_⟩
  obtain ⟨pa, pn, pl, pf, _⟩ := I1.pin (a, oe) (List.mem_append_left _ hp)
  have e0 := I1.env0
  have e1 : Env0 X.prog X.w X.K X.mg X.base X.A X.stack s1 (upd H1 a (ExE oe a)) :=
    ⟨e0.frames, e0.mod, fun b o z => ⟨(e0.bs b o z).1, by rw [upd_ne (fun w => by rw [w, hB] at z; cases z)]; exact (e0.bs b o z).2⟩, e0.bsz, e0.funs,
      fun b z => by
        rw [upd_ne (fun w => by
          rcases List.mem_cons.mp (I1.stkSub b z) with q | q
          · exact pl (w ▸ q)
          · exact pf (w ▸ q))]
        exact e0.frf b z, e0.hok.laidN (fun _ _ z => z) pn (ExE.ok pa), e0.bare⟩
  have hl : (us ++ []).length = ps.length := by rw [List.append_nil, ← r.length]; exact F.len _ _ _ _ q
  have r' : Vals vs (us ++ []) := by rw [List.append_nil]; exact r
  refine wpAny_call (codeAny_mono (F.run X.A X.stack s1 _ ⟨us, []⟩ (us ++ []) vs _ E hG hr e1 (hb s1 us I1.kIn hl) r' q) fun res s2 hq => ?_)
  cases res with
  | error er => exact (hE _ _ _ _ hq).elim
  | ok fl =>
    cases fl with
    | ret u =>
      obtain ⟨v, H2, os, bare, un, hok, rv, h2, qv⟩ := hq
      have ea : s2.heap.get? a = some oe := (hok a _ h2).1
      exact ⟨v, _, I1.call' os (exc_back pa pn h2 un ea) (hok_del hok h2) bare (fun b z => nomatch z), rv, qv⟩
    | next => exact hq.elim
    | brk => exact hq.elim
    | cont => exact hq.elim
end
end RK

/-! repr of data, where no text of a collection is under way -/
namespace RK
open PySem PySem.Spec PyProof.Rows L2
def rReprD (K : PySem.W.Frag) : List V → Hp → VK → Prop := fun xs H Q => ∃ x d, xs = [x] ∧ Dp K H x d ∧ d.showable = true ∧ d.hasDict = false ∧ d.depth < 60 ∧ d.shown.length ≤ sizeLine ∧ Q (.str d.shown) H
theorem cr_reprD {X : Cx} (hG : X.A.guards = some []) (hu : X.A.units + 64 < cLine) : CallR X (.builtin "repr") (rReprD X.K) := by
  intro pins s σ H xs us Q I r h
  obtain ⟨x, d, rfl, dp, hs, hnd, hd, hz, q⟩ := h
  obtain ⟨u, rfl, ru⟩ := vals1 r
  obtain ⟨as, rd⟩ := Dp.reads I d x u dp ru
  have big : ∀ a : Addr, u = .ref a → wpAny (model X.prog X.w) X.A (call (.builtin "repr") [u]) (EP X pins σ Q) X.xe s := fun a e => by
    subst e
    exact repr_of_reads' rd hs (PyData.noDict_hsm hnd) hG (by omega) (fun _ _ z => z) (fun h' tok tk hk => ⟨.str _, H, I.kept (t' := tk) hk, ⟨tok, rfl⟩, q⟩) hz
  cases dp with
  | lst _ _ => cases ru; exact big _ rfl
  | tup _ _ => cases ru; exact big _ rfl
  | non =>
    cases ru
    exact PySem.P.repr_of_none ⟨.str _, H, I.tok _, ⟨_, rfl⟩, q⟩
  | bl b =>
    cases ru
    exact PySem.P.repr_of_bool ⟨.str _, H, I.tok _, ⟨_, rfl⟩, by cases b <;> exact q⟩
  | int i =>
    obtain ⟨t, rfl⟩ := ru
    exact PySem.P.repr_of_int (of_decide_eq_true hs) ⟨.str _, H, I.tok _, ⟨_, rfl⟩, q⟩
  | str y =>
    obtain ⟨t, rfl⟩ := ru
    exact PySem.P.repr_of_str ⟨.str _, H, I.tok _, ⟨_, rfl⟩, q⟩ hz
end RK

/-! the end of a law whose defs ask for the texts of collections: the law's promise at the head's own surroundings -/
namespace RK
open PySem PySem.Spec PyProof.Rows L2 LamX
theorem callerG : callerA.guards = some [] := rfl
theorem law_callG {P : Program} {w : World} {K : PySem.W.Frag} {mg mb : Str → Option Value} {CX : CXT} {k : Nat} {fa a : Addr} {tb : List (Addr × Addr)} {fd : FuncData} {x : Str} {sp : Sp} {s1 : Shared} {us : List Value} {ns : List Int}
    (hK : K.In s1.heap) (hG : s1.heap.Ns mainGlobals mg) (hB : s1.heap.Ns builtinsNs mb) (hBB : ∀ x : Str, x ≠ "__name__" → mb x = bootBuiltins x) (hL : s1.heap.NoLimit) (hg : s1.gens = #[])
    (tabs : ∀ p ∈ tb, s1.heap.get? p.2 = some { cls := .none, data := .fields #[] }) (tabK : ∀ p ∈ tb, K.lookup p.2 = none) (codes : ∀ p ∈ tb, PySem.W.CodeHd s1.heap p.1 p.2)
    (hM : ∃ (bm : Addr) (ob : Obj), mg "__builtins__" = some (.ref bm) ∧ bm ≠ builtinsNs ∧ s1.heap.get? bm = some ob ∧ ob.cls = .type "module" ∧ ob.dict = some builtinsNs ∧ ob.data = .plain)
    (scr : s1.heap.get? a = some { cls := .type "list", data := .seq us.toArray }) (areI : IntsAre us ns) (len : ns.length ≤ sizeLine) (hr : Room k callerA)
    (F : ∀ base : Heap, K.In base → base.Ns mainGlobals mg → (∀ p ∈ tb, TabB base mg p.1 p.2) → FnOkG P w K mg base CX k fa fd [x] sp) (bind : ∀ (s : Shared) (u : Value), BindsTo s fd ⟨[u], []⟩ [(x, u)])
    (prom : ∀ H : Hp, (∀ p ∈ tb, H p.2 = some (.tbl #[])) → SqL K H a (ns.map V.int) → sp [.ref a] H (fun v _ => v = .bl true) fun _ _ _ => False)
    (none_ : ∀ H e s', CX [] H s1 (fun _ _ _ => False) e s' → False) :
    codeAny (model P w) callerA (.call (.ref fa) ⟨[.ref a], []⟩) (fun r s' => r = .ok (.ret (.bool true)) ∧ OldK s1.heap s'.heap ∧ s'.os = s1.os ∧ AllBare s'.gens) s1 := by
  have rel := vals_ints areI
  have lenU := areI.length
  generalize eT : tb.map (·.2) = TT
  have inT : ∀ p ∈ tb, p.2 ∈ TT := fun p hp => eT ▸ List.mem_map.mpr ⟨p, hp, rfl⟩
  have ofT : ∀ {b : Addr}, b ∈ TT → ∃ p ∈ tb, p.2 = b := fun {b} h => List.mem_map.mp (eT.symm ▸ h)
  have tabAt : ∀ {b : Addr}, b ∈ TT → s1.heap.get? b = some { cls := .none, data := .fields #[] } := fun {b} h => by
    obtain ⟨p, hp, rfl⟩ := ofT h
    exact tabs p hp
  have scrT : a ∉ TT := fun z => by
    have := (tabAt z).symm.trans scr
    cases this
  have go : ∀ H : Hp, (∀ p ∈ tb, H p.2 = some (.tbl #[])) → (∀ b u, H b = some u → (b = a ∧ (∃ o xs, u = .frz o (.lst xs)) ∧ K.lookup a = none) ∨ (b ∈ TT ∧ u = .tbl #[])) → SqL K H a (ns.map V.int) → HOk P w H s1.heap →
      codeAny (model P w) callerA (.call (.ref fa) ⟨[.ref a], []⟩) (fun r s' => r = .ok (.ret (.bool true)) ∧ OldK s1.heap s'.heap ∧ s'.os = s1.os ∧ AllBare s'.gens) s1 := by
    intro H hT what hS hok
    have sees : ∀ {b : Addr} {o : Obj}, s1.heap.get? b = some o → H b = none → (hidT s1.heap H).get? b = some o := fun e n => hidT_get e n
    have plain : ∀ {b : Addr} {o : Obj}, s1.heap.get? b = some o → (∀ vs n, o.data ≠ .seq vs n) → o.data ≠ .fields #[] → H b = none := fun {b o} e d1 d2 => by
      cases q : H b with
      | none => rfl
      | some u =>
        exfalso
        rcases what b u q with ⟨rfl, _⟩ | ⟨hb, _⟩
        · rw [scr] at e
          cases e
          exact d1 _ _ rfl
        · rw [tabAt hb] at e
          cases e
          exact d2 rfl
    have dicts : ∀ {b : Addr} {o : Obj} {es : Array DictEntry} {ep : Nat}, s1.heap.get? b = some o → o.data = .dict es ep → H b = none := fun e d => plain e (fun vs n z => by rw [d] at z; cases z) (fun z => by rw [d] at z; cases z)
    have nsT : ∀ {b : Addr} {m : Str → Option Value}, s1.heap.Ns b m → (hidT s1.heap H).Ns b m := fun {b m} ⟨o, es, ep, e, d, r⟩ => ⟨o, es, ep, sees e (dicts e d), d, r⟩
    have inB : K.In (hidT s1.heap H) := fun b o e => sees (hK b o e) (by
      cases q : H b with
      | none => rfl
      | some u =>
        exfalso
        rcases what b u q with ⟨rfl, _, nK⟩ | ⟨hb, _⟩
        · rw [nK] at e
          cases e
        · obtain ⟨p, hp, rfl⟩ := ofT hb
          rw [tabK p hp] at e
          cases e)
    have modB : L2.Mod K mg (hidT s1.heap H) := ⟨inB, nsT hG, ⟨mb, nsT hB, hBB⟩, by obtain ⟨mc, l1, l2⟩ := hL; exact ⟨mc, nsT l1, l2⟩⟩
    have tabB : ∀ p ∈ tb, TabB (hidT s1.heap H) mg p.1 p.2 := fun p hp => by
      refine ⟨?_, ?_, fun z => ?_⟩
      · obtain ⟨o, ws, file, tf, flags, tg, inF, text, tt, e1, r1, r2, r3, rest⟩ := codes p hp
        refine ⟨o, ws, file, tf, flags, tg, inF, text, tt, sees e1 (plain e1 (fun vs n z => by rw [r2] at z; cases z) (fun z => ?_)), r1, r2, r3, rest⟩
        rw [r2] at z
        cases z
        simp at r3
      · obtain ⟨bm, ob, b1, b2, b3, b4, b5, b6⟩ := hM
        refine ⟨bm, ob, b1, b2, fun q => ?_, fun q => ?_, sees b3 (plain b3 (fun vs n z => by rw [b6] at z; cases z) (fun z => by rw [b6] at z; cases z)), b4, b5, b6⟩
        · obtain ⟨o, es, ep, e, hd, _⟩ := hG
          rw [q, e] at b3
          cases b3
          rw [hd] at b6
          cases b6
        · rw [q, tabs p hp] at b3
          cases b3
          cases b6
      · obtain ⟨o, es, ep, e, hd, _⟩ := hG
        rw [z, tabs p hp] at e
        cases e
        cases hd
    have start : Env0 P w K mg (hidT s1.heap H) callerA [] s1 H := ⟨rfl, modB, fun b o e => of_hidT e, Nat.le_of_eq (hidT_size _ _), trivial, (fun b z => absurd (show b ∈ ([] : List Addr) from z) List.not_mem_nil), hok, .of_eq hg⟩
    refine codeAny_mono ((F _ inB (nsT hG) tabB).run callerA [] s1 H ⟨[.ref a], []⟩ [.ref a] [.ref a] _ _ callerG hr start (bind s1 (.ref a)) (.cons rfl .nil) (prom H hT hS)) fun r s2 res => ?_
    match r, res with
    | .error e, res => exact (none_ H e s2 res).elim
    | .ok .next, res => exact res.elim
    | .ok .brk, res => exact res.elim
    | .ok .cont, res => exact res.elim
    | .ok (.ret u), ⟨v, H2, os, bare, un, hok2, rv, q⟩ =>
      have qv : v = .bl true := q
      subst qv
      obtain rfl : u = Value.bool true := rv
      have old : ∀ {b : Addr} {o : Obj}, b ∉ TT → s1.heap.get? b = some o → s2.heap.get? b = some o := fun {b o} nb e => by
        cases hq : H b with
        | none => exact un.keep b o e hq (fun z => absurd (show b ∈ ([] : List Addr) from z) List.not_mem_nil) List.not_mem_nil
        | some u =>
          rcases what b u hq with ⟨_, ⟨ob, xs, rfl⟩, _⟩ | ⟨hb, _⟩
          · have e1 := (hok b _ hq).1
            have e2 := (hok2 b _ (un.frzs b ob _ hq)).1
            rw [e] at e1
            cases e1
            exact e2
          · exact absurd hb nb
      have more : ∀ p ∈ tb, ∃ m : Array Value, s2.heap.get? p.2 = some { cls := .none, data := .fields m } := fun p hp => by
        obtain ⟨m, z⟩ := un.tbls p.2 #[] (hT p hp)
        exact ⟨_, hok2 p.2 _ z⟩
      refine ⟨rfl, ⟨fun b o e => ?_, fun b o e => ?_⟩, os, bare⟩
      · by_cases hb : b ∈ TT
        · obtain ⟨p, hp, rfl⟩ := ofT hb
          obtain ⟨m, hm⟩ := more p hp
          rw [tabs p hp] at e
          cases e
          exact .inr (.inl ⟨((codes p hp).tab (tabs p hp)).isCodeTable, rfl, #[], m, rfl, by rw [Array.empty_append]; exact hm⟩)
        · exact .inl (old hb e)
      · by_cases hb : b ∈ TT
        · obtain ⟨p, hp, rfl⟩ := ofT hb
          obtain ⟨m, hm⟩ := more p hp
          exact ⟨_, hm⟩
        · exact ⟨o, old hb e⟩
  -- the heap as it is tracked in the beginning
  cases own : K.lookup a with
  | some o =>
    have e := hK a o own
    rw [scr] at e
    cases e
    refine go (fun b => if b ∈ TT then some (.tbl #[]) else none) (fun p hp => if_pos (inT p hp)) (fun b u h => ?_) (.inr ⟨_, us.toArray, _, own, rfl, rfl, rfl, by rw [List.size_toArray, lenU]; exact len, by simpa using rel⟩) (fun b u h => ?_)
    all_goals
      try dsimp only at h
      split at h
      · rename_i hb
        cases h
        first
          | exact .inr ⟨hb, rfl⟩
          | exact tabAt hb
      · cases h
  | none =>
    refine go (fun b => if b = a then some (.frz { cls := .type "list", data := .seq us.toArray } (.lst (ns.map V.int))) else if b ∈ TT then some (.tbl #[]) else none) (fun p hp => ?_) (fun b u h => ?_) (.inl (.inr ⟨{ cls := .type "list", data := .seq us.toArray }, if_pos rfl⟩)) (fun b u h => ?_)
    · try dsimp only
      rw [if_neg (show ¬ p.2 = a from fun z => scrT (z ▸ inT p hp)), if_pos (inT p hp)]
    · try dsimp only at h
      split at h
      · rename_i hb
        cases h
        exact .inl ⟨hb, ⟨_, _, rfl⟩, own⟩
      · split at h
        · rename_i hb
          cases h
          exact .inr ⟨hb, rfl⟩
        · cases h
    · try dsimp only at h
      split at h
      · rename_i hb
        cases h
        rw [hb]
        exact ⟨scr, by rw [List.length_map]; exact len, us, _, rel, scr⟩
      · split at h
        · rename_i hb
          cases h
          exact tabAt hb
        · cases h
/-- F is told the tables of the defs' code objects, too (all empty) -/
theorem walk_G {l : PySem.W.OpenLaw} {n k : Nat} {q : Program} {loose : List Str} {XP : (Str → Option Value) → Heap → Prop} {YP : World → Heap → Prop} {d : DefRec} {K : Params → PySem.W.Frag} {CX : World → CXT} {x : Str}
    (hn : l.most = some n) (hn2 : n ≤ sizeLine) (hdf : d.params.defaults = []) (hr : Room k callerA) (hY : ∀ (w : World) (h : Heap), YP w h → (K w.params).In h)
    (F : ∀ (w : World) (mg : Str → Option Value) (fa : Addr) (h : Heap), YP w h → (K w.params).In h → h.Ns mainGlobals mg → mg d.name = some (.ref fa) →
      (∀ e ∈ recsOf q, ∃ a o fd c P, mg e.name = some (.ref a) ∧ h.get? a = some o ∧ o.data = .func fd ∧ fd.code = .ref c ∧ h.IsCode c P #[] ∧ h.TableAt c P #[]) →
      ∃ (fd : FuncData) (tb : List (Addr × Addr)) (sp : Sp), (∀ p ∈ tb, h.get? p.2 = some { cls := .none, data := .fields #[] }) ∧ (∀ p ∈ tb, (K w.params).lookup p.2 = none) ∧ (∀ p ∈ tb, PySem.W.CodeHd h p.1 p.2) ∧ (∀ (s : Shared) (u : Value), BindsTo s fd ⟨[u], []⟩ [(x, u)]) ∧
        (∀ (H : Hp) (a : Addr) (ns : List Int), ns.length ≤ n → (∀ z ∈ ns, Builtin.Int.intBits z ≤ 1048576) → (∀ p ∈ tb, H p.2 = some (.tbl #[])) → SqL (K w.params) H a (ns.map V.int) → sp [.ref a] H (fun v _ => v = .bl true) fun _ _ _ => False) ∧
        ∀ base : Heap, (K w.params).In base → base.Ns mainGlobals mg → (∀ p ∈ tb, TabB base mg p.1 p.2) → FnOkG l.prog w (K w.params) mg base (CX w) k fa fd [x] sp)
    (hCX : ∀ (w : World) (H : Hp) (s : Shared) (e : Value) (s' : Shared), CX w [] H s (fun _ _ _ => False) e s' → False) : PySem.W.WalkO q loose XP YP l.row.toRowW d [] (fun f vs => PySem.call f vs) :=
  Att.attach_callB hn hdf fun w s0 s1 mg mb fa o pm cd doc a us ns G Y ho hd hcd hmg hobj areI len bits hg => by
    obtain ⟨fd, tb, sp, t1, t2, t3, hb, hsp, hF⟩ := F w mg fa _ Y (hY w _ Y) G.T.g hmg G.T.tab
    exact law_callG (hY w _ Y) G.T.g G.T.b G.T.builtins G.T.nolimit hg t1 t2 t3 G.T.bmain hobj areI (Nat.le_trans len hn2) hr hF hb (fun H hH hS => hsp H a ns len bits hH hS) fun H e s' => hCX w H s1 e s'
end RK

/-! told: try: got = act() / except (A, B, C) as e: return sort(e); behind it: return [word, got] -/
namespace RK
open PySem PySem.Spec PyProof.Rows L2 LamX
/-- what it makes of the reading of the lambda; spS: what sort promises -/
def TTold3 (K : PySem.W.Frag) (c1 c2 c3 : Value) (spS : Sp) (word : Str) : (XK → Hp → VK → Prop) → Hp → VK → Prop := fun tl H Q =>
  tl (fun cls d H' => ∃ b, exm3 K cls c1 c2 c3 = some b ∧
      (b = true → ∀ a oe, H' a = none → Zc cls d oe → (∃ vs, oe.data = .fields vs) → spS [.ref a] (upd H' a (ExE oe a)) (fun v H2 => H2 a = some (ExE oe a) ∧ Q v (delH H2 a)) C8.E0) ∧ (b = false → False)) H
    fun v H' => ∀ p, H' p = none → Q (.ref p) (upd H' p (.lst [.str word, v]))
section
variable {X : Cx}
/-- a reading, and what follows from its end -/
theorem pe_wk {e : Expr} {te : TE} (h : PE X e te) : PE X e (fun σ H Q => ∃ R : VK, te σ H R ∧ ∀ v H', R v H' → Q v H') :=
  ⟨fun pins s σ H Q I w => by
    obtain ⟨R, w1, w2⟩ := w
    exact wpAny_mono (h.run pins s σ H R I w1) (fun u s' z => by obtain ⟨v, H', I', r, q⟩ := z; exact ⟨v, H', I', r, w2 v H' q⟩) fun _ _ z => z⟩
theorem told_gives3 {x a got e srt word : Str} {x1 x2 x3 : Str} {sg : Scope} {g fS : Addr} {fdS : FuncData} {psS : List Str} {spS : Sp} {c1 c2 c3 cdg : Value} {q : Str} {j k kk : Nat} {n1 n2 n3 n4 n5 n6 n7 n8 n9 m1 m2 m3 m4 m5 m6 m7 m8 m9 : Pos}
    (hG : X.A.guards = some []) (hr : Room (k + 1) X.A) (F : FnS X.prog X.w X.K X.mg X.base C8.CX0 k fS fdS psS spS)
    (S : FnScope [a, got, e] [a] sg) (h1 : sg.names.lookup x1 = some .globalImplicit) (h2 : sg.names.lookup x2 = some .globalImplicit) (h3 : sg.names.lookup x3 = some .globalImplicit) (hs : sg.names.lookup srt = some .globalImplicit)
    (g1 : X.mg x1 = some c1) (g2 : X.mg x2 = some c2) (g3 : X.mg x3 = some c3) (gs : X.mg srt = some (.ref fS)) (ks : PySem.W.keepIn X.K (.ref fS) = true) (bs : L2.Binds X.K fdS psS [])
    (lg : sg.names.lookup got = some .local) (le : sg.names.lookup e = some .local)
    (d1 : (x1 == ("__debug__" : Str)) = false) (d2 : (x2 == ("__debug__" : Str)) = false) (d3 : (x3 == ("__debug__" : Str)) = false) (ds : (srt == ("__debug__" : Str)) = false)
    (de : (e == ("__debug__" : Str)) = false) (ce : (e == ("__classdict__" : Str)) = false) (dg : (got == ("__debug__" : Str)) = false) (cg : (got == ("__classdict__" : Str)) = false) :
    GivesTo X [a, got, e] x sg g cdg [.Try [.Assign [.Name got n1] (.Call (.Name a n2) [] [] n3) n4] [.ExceptHandler (some (.Tuple [.Name x1 n5, .Name x2 n6, .Name x3 n7] kk n8)) (some e) [.Return (some (.Call (.Name srt m1) [.Name e m2] [] m3)) m4] m5] [] [] m6, .Return (some (.List [.Constant (.str word) j m7, .Name got m8] m9)) n9] a q
      (TTold3 X.K c1 c2 c3 spS word) := by
  intro f c' s H Q tl act hc h
  refine ⟨_, pss_cons (ps_try_as3 (X := (cxOf C8.CX0 X.prog X.w X.K X.mg X.base [a, got, e] x sg g cdg X.A X.stack s H C8.E0).nox) (i := 2)
      (tb := fun W D σ H => ∃ Ech : XK, (∀ cls d σ' H', Ech cls d H' → W cls d σ' H') ∧ σ[0]? = some (some (.ref f)) ∧ H c' = some (CodeO c' q) ∧ ∃ R : VK, tl Ech H R ∧ ∀ v H1, R v H1 → D.nx (σ.set 1 (some v)) H1)
      (Wout := fun _ _ _ _ => False) rfl rfl S.nd rfl le ⟨h1, g1⟩ ⟨h2, g2⟩ ⟨h3, g3⟩ LamX.takes0 (fun W pn xe tk hp => ?_)
      (fun b oe cls d pn hB hz hf => pss_one (ps_ret (pe_exc (a := b) (oe := oe) (E := C8.E0) (List.mem_cons_self) hB F hG ?_ hs gs ks bs (fun _ _ _ _ z => z.elim) (pa_cons (pe_var (i := 2) rfl (.inl le) de ce) pa_nil) ds))) d1 d2 d3) (pss_one (ps_ret (pe_lst (pa_cons pe_str (pa_cons (pe_var (i := 1) rfl (.inl lg) dg cg) pa_nil))))), ?_⟩
  · refine ⟨fun pins s' σ H' D I h' => ?_⟩
    obtain ⟨Ech, hW, w1, w2, R, w3, w4⟩ := h'
    exact (pss_one (ps_set (i := 1) S.nd rfl (Or.inl lg) (pe_wk (act W pn xe Ech n2 n3 tk hW)))).run pins s' σ H' D I ⟨R, ⟨w1, w2, w3⟩, w4⟩
  · exact ⟨(hr.deeper (envOfC x sg s.heap.objs.size g cdg)).dp, (hr.deeper (envOfC x sg s.heap.objs.size g cdg)).un⟩
  · refine ⟨_, fun cls d σ' H' w => ?_, rfl, hc, _, h, fun v H1 w => ?_⟩
    · obtain ⟨b, e1, e2, e3⟩ := w
      refine ⟨b, e1, fun hb a' oe hl na hz hf => ?_, fun hb => (e3 hb).elim⟩
      refine ⟨.ref a', ?_, e2 hb a' oe na hz hf⟩
      rw [List.getElem?_set_self (by rw [hl]; show 2 < 3; decide)]
    · exact ⟨v, rfl, by show 2 ≤ sizeLine; decide, w⟩
end
end RK

/-! an own exception class over ValueError, from facts that are looked up -/
namespace RK
open PySem PySem.Spec PyProof.Rows L2
/-- the shape of its class object -/
def oexS (C : Addr) (cd : ClassData) (sl : Array (Option Value)) : Bool := match cd.mro, sl.toList with
  | .ref C' :: bm, [_, _, _, _, some (.builtin n), _] => decide (C' = C) && decide (n = "ValueError.__new__") && !cd.hasDel && cd.hasDict && PySem.HandSPX.refsVE bm
  | _, _ => false
theorem oex_mk {K : PySem.W.Frag} {C : Addr} {dd : Option Addr} {cd : ClassData} {sl : Array (Option Value)} (l : K.lookup C = some ⟨.type "type", dd, .cls cd, sl⟩) (y : oexS C cd sl = true)
    (sa : PySem.W.findIn K (.ref C) "__setattr__" = some (some (.builtin "object.__setattr__"))) (ex : PySem.W.subIn K (.ref C) (.type "BaseException") = some true) (ty : PySem.W.typeIn K (.ref C) = some (.type "type")) (kc : PySem.W.keepIn K (.ref C) = true) : OexC K C := by
  refine ⟨?_, sa, ex, ty, kc⟩
  unfold oexS at y
  split at y
  · rename_i C' bm k0 k1 k2 k3 n k5 em es
    obtain ⟨ls⟩ := sl
    dsimp only at es
    subst es
    obtain ⟨nm, bs, mro, ns, qn, hd, sn, sub, ab, col, del⟩ := cd
    dsimp only at em y
    subst em
    obtain ⟨y, rv⟩ := Bool.and_eq_true_iff.mp y
    obtain ⟨y, y1⟩ := Bool.and_eq_true_iff.mp y
    obtain ⟨y, y2⟩ := Bool.and_eq_true_iff.mp y
    obtain ⟨y3, y4⟩ := Bool.and_eq_true_iff.mp y
    obtain rfl := of_decide_eq_true y3
    obtain rfl := of_decide_eq_true y4
    cases hd with
    | false => cases y1
    | true =>
      cases del with
      | true => cases y2
      | false => exact ⟨nm, qn, ns, bs, bm, sn, sub, ab, col, dd, k0, k1, k2, k3, k5, l, rv⟩
  · cases y
/-- xs.count(True), xs a list of truths -/
def rCntB (K : PySem.W.Frag) : V → List V → Hp → VK → Prop := fun x xs H Q => ∃ (p : Addr) (bs : List Bool), x = .ref p ∧ xs = [.bl true] ∧ SqL K H p (bs.map V.bl) ∧ Q (.int (bs.count true : Nat)) H
def isTrue (v : Value) : Bool := match v with
  | .bool b => b == true
  | _ => false
theorem bools_of : ∀ {bs : List Bool} {us : List Value}, Vals (bs.map V.bl) us → us = bs.map Value.bool
  | [], _, .nil => rfl
  | b :: r, _, .cons h t => by
    cases h
    rw [bools_of t]
    rfl
theorem count_true : ∀ bs : List Bool, (bs.map Value.bool).countP isTrue = bs.count true
  | [] => rfl
  | b :: r => by
    rw [List.map_cons, List.countP_cons, List.count_cons, count_true r]
    cases b <;> rfl
theorem mt_countB {X : Cx} : MtR X "list.count" (rCntB X.K) := by
  intro pins s σ H x xs v us Q I rx rxs h
  obtain ⟨p, bs, rfl, rfl, hs, q⟩ := h
  cases rx
  obtain ⟨u, rfl, ru⟩ := rxs.one
  cases ru
  obtain ⟨its, rv, ⟨⟨cls, dd, data, sl⟩, n, ho, hc, _, hd⟩, _⟩ := I.list hs
  dsimp only at hc hd
  subst hc hd
  obtain rfl := bools_of rv
  refine call_meets PySem.F.slot_list_count ⟨_, ho, rfl⟩ PySem.F.entry_list_count (PySem.F.args_list_count_2 _ _) (SeqAt.list_countAt p _ n dd sl (.bool true) isTrue) ⟨ho, fun y hy => ?_, ?_⟩
  · obtain ⟨b, _, rfl⟩ := List.mem_map.mp (show y ∈ bs.map Value.bool by simpa using hy)
    exact SeqAt.EqAt.bool_bool b true
  · exact ⟨.int (bs.count true : Nat), H, I.tok _, ⟨s.toks, by show Value.int (((bs.map Value.bool).countP isTrue : Nat) : Int) s.toks = _; rw [count_true]⟩, q⟩
end RK

/-! str(x) of an instance whose class has an own __str__ -/
namespace RK
open PySem PySem.Spec PyProof.Rows L2
section
variable {prog : Program} {w : World} {A : Around} {E : Value → Shared → Prop} {s : Shared} {K : PySem.W.Frag} {x C f : Addr} {ox : Obj} {od : Option Obj}
theorem strOf_own {Q : Value → Shared → Prop} (hu : A.units < cLine) (KI : K.In s.heap) (I : PySem.W.InstAt s.heap x ox C od) (hs : PySem.W.findIn K (.ref C) "__str__" = some (some (.ref f))) (hf : PySem.W.isFn K (.ref f) = true)
    (h : wpAny (model prog w) A (call (.ref f) [.ref x]) (fun r s1 => ∃ y u, r = Value.str y u ∧ Q r s1) E s) : wpAny (model prog w) A (Builtin.Str.strOf (.ref x)) Q E s := by
  unfold Builtin.Str.strOf
  rw [show Builtin.Str.isExactStr (.ref x) = false from rfl, if_neg Bool.false_ne_true]
  refine wpAny_bind (m := cRoomFor _ _) (wpAny_cRoomFor hu (wpAny_bind (m := callSpecial? (.ref x) (Str.ofString "__str__")) (PySem.W.special_fn KI I hs (beq_iff_eq.mp hf) (wpAny_mono h (fun r s1 z => ?_) fun _ _ y => y))))
  obtain ⟨y, u, rfl, q⟩ := z
  exact wpAny_pure q
theorem str_ownI {Q : Value → Shared → Prop} (hu : A.in1.in1.units < cLine) (KI : K.In s.heap) (I : PySem.W.InstAt s.heap x ox C od) (hs : PySem.W.findIn K (.ref C) "__str__" = some (some (.ref f))) (hf : PySem.W.isFn K (.ref f) = true)
    (h : wpAny (model prog w) A.in1.in1 (call (.ref f) [.ref x]) (fun r s1 => ∃ y u, r = Value.str y u ∧ Q r s1) E s) : wpAny (model prog w) A (call (.type "str") [.ref x]) Q E s := by
  refine callType_codes (T := "str") (Bi := Builtin.«object.__init__») (Q₁ := fun r s1 => ∃ y u, r = Value.str y u ∧ Q r s1) PySem.F.called_str (PySem.F.typeCall_str_1 _) PySem.F.entry_object_init (codeAny_of_tree ?_) (fun obj s1 z => ?_)
  · show wpAny _ A.in1.in1 (do checkBuiltinCall "str.__new__" ⟨[.type "str", .ref x], []⟩; again (.builtin "str.__new__" ⟨[.type "str", .ref x], []⟩)) _ _ s
    refine wpAny_bind (wpAny_of_eq (PySem.F.newCall_str_1 _) (wpAny_pure ⟨plainId_quiet (by decide +kernel) _, codeAny_builtin PySem.F.entry_str_new ?_⟩))
    rw [Around.under_plainId (by decide +kernel) _, str_new_tree (.ref x)]
    refine wpAny_bind (wpAny_pure (wpAny_bind (wpAny_of_eq isSubtype_str_str (wpAny_bind (strOf_own hu KI I hs hf (wpAny_mono h (fun r s1 z => ?_) fun _ _ y => y))))))
    obtain ⟨y, u, rfl, q⟩ := z
    exact ⟨y, u, rfl, wpAny_pure ⟨y, u, rfl, q⟩⟩
  · obtain ⟨y, u, rfl, q⟩ := z
    exact ⟨typeIs_str _ _ _, PySem.F.args_object_init_2 _ _, object_init_meets PySem.F.called_str.init.lookup PySem.F.called_str.made (by decide) prog w A.in1 _ s1 ⟨typeIs_str _ _ _, rfl, q⟩⟩
end
section
variable {X : Cx} {CX : CXT} {n : Nat} {C f : Addr} {fd : FuncData} {ps : List Str} {sp : Sp} {E : XK}
/-- str(x), x an instance of the class at C -/
def rStrO (C : Addr) (sp : Sp) (E : XK) : List V → Hp → VK → Prop := fun xs H Q => ∃ p dx fs, xs = [.ref p] ∧ H p = some (.ins C dx fs) ∧ sp [.ref p] H (fun v H' => ∃ y, v = .str y ∧ Q (.str y) H') E
theorem cr_strO (hs : PySem.W.findIn X.K (.ref C) "__str__" = some (some (.ref f))) (hf : PySem.W.isFn X.K (.ref f) = true) (F : FnOk X.prog X.w X.K X.mg X.base CX n f fd ps sp) (hr : Room (n + 2) X.A) (hb : L2.Binds X.K fd ps []) (hx : Passes CX X E) :
    CallR X (.type "str") (rStrO C sp E) := by
  intro pins s σ H xs us Q I r h
  obtain ⟨p, dx, fs, rfl, hp, q⟩ := h
  obtain ⟨u, rfl, ru⟩ := vals1 r
  cases (show u = Value.ref p from ru)
  obtain ⟨od, J⟩ := inst_at I hp
  have hr2 : Room n X.A.in1.in1 := (Room.in1 (k := n + 1) hr).in1
  have hl := F.len _ _ _ _ q
  have rv : Vals [V.ref p] ([Value.ref p] ++ []) := .cons rfl .nil
  refine str_ownI (by have := hr2.un; omega) I.kIn J hs hf (wpAny_call (codeAny_mono (F.run X.A.in1.in1 X.stack s H ⟨[.ref p], []⟩ ([Value.ref p] ++ []) [.ref p] _ E hr2 I.env0.in1.in1 (hb s [Value.ref p] I.kIn (by rw [List.append_nil]; exact hl)) rv q) fun res s' hq => ?_))
  match res, hq with
  | .error er, hq => exact hx pins σ H s er s' I hq
  | .ok (.ret v), hq =>
    obtain ⟨z, H', I', rz, y, rfl, qz⟩ := I.after hq
    obtain ⟨t, rfl⟩ := rz
    exact ⟨y, t, rfl, .str y, H', I', ⟨t, rfl⟩, qz⟩
  | .ok .next, hq => exact hq.elim
  | .ok .brk, hq => exact hq.elim
  | .ok .cont, hq => exact hq.elim
end
end RK

/-! C.m(e, ..) where m is a staticmethod of the class at C -/
namespace RK
open PySem PySem.Spec PyProof.Rows L2
structure SMet (K : PySem.W.Frag) (C : Addr) (mc : Value) (m : Str) (p g : Addr) : Prop where
  at_ : PySem.W.findCls K (.ref C) mc m = some (.get (.builtin "staticmethod.__get__") (.ref p) .none (.ref C))
  rc : ∃ rest, PySem.W.recIn K p "staticmethod" = some (.ref g :: rest)
  rd : PySem.W.readsIn K C mc = true
  ga : PySem.W.specialIn K (.ref C) "__getattribute__" = some (some (.builtin "type.__getattribute__"))
  kp : PySem.W.keepIn K (.ref g) = true
def tSMeth (C : Addr) (sp : Sp) (E : XK) (ta : TE) (t : TA) : TE := fun σ H Q => ta σ H fun x H1 => x = .ref C ∧ t σ H1 fun vs H2 => sp vs H2 Q E
section
variable {X : Cx} {CX : CXT} {k : Nat} {C p g : Addr} {mc : Value} {m : Str} {fd : FuncData} {ps : List Str} {sp : Sp} {E : XK} {o e : Expr} {es : List Expr} {ta : TE} {t : TA} {apos pos : Pos}
theorem pe_smeth {pl : Sem Bool} (he : PE X o ta) (c : SMet X.K C mc m p g) (F : FnOk X.prog X.w X.K X.mg X.base CX k g fd ps sp) (hr : Room k X.A) (hb : L2.Binds X.K fd ps []) (hx : Passes CX X E) (ha : PA X (e :: es) t)
    (hst : starEach (e :: es) X.env = (false, eval e X.env) :: starEach es X.env := by rfl) (hpl : (backTo pos (starEach es X.env)).any (·.1) = false := by rfl)
    (ht : eval (.Call (.Attribute o m apos) (e :: es) [] pos) X.env = (do
      let ov ← eval o X.env
      standAt apos.atName
      let (f, first) ← holding [ov] (getMethod ov m pl)
      callWith pos f first (backTo pos (starEach (e :: es) X.env)) (backToKw pos (keywordEach [] X.env))) := by rfl) :
    PE X (.Call (.Attribute o m apos) (e :: es) [] pos) (tSMeth C sp E ta t) := by
  refine ⟨fun pins s σ H Q I h => PySem.W.methodCall_KW (pl := pl) (thn (he.run pins s σ H _ I h) fun u s1 hh => ?_) ht⟩
  obtain ⟨x, H1, I1, rx, rfl, q⟩ := hh
  obtain rfl : u = Value.ref C := rx
  obtain ⟨rest, hp⟩ := c.rc
  refine PySem.W.method_cls I1.kIn c.ga (PySem.W.cls_bind I1.kIn c.rd c.at_ (wpAny_call (PySem.W.sm_get (s := { s1 with toks := s1.toks + 1 }) I1.kIn hp (PySem.W.handed_on rfl ?_))))
  have I2 := I1.kept (h' := s1.heap) (t' := s1.toks + 1) fun _ _ z => z
  refine PySem.W.callWith_K (h₀ := X.base) I2.ok.mod.kin c.kp (thn (ha.run pos pins _ σ H1 _ I2 q) fun us s3 hh => ?_) hst hpl
  obtain ⟨vs, H2, I3, rv, q2⟩ := hh
  exact ⟨I3.kIn, run_fn F hr hb .nil hx I3 rv (by rw [List.append_nil]; exact q2)⟩
/-- C.m(k = v, ..) -/
def tSMethK (C : Addr) (ks : List Str) (sp : Sp) (gV : List V → List V → List V) (E : XK) (ta : TE) (tk : TA) : TE := fun σ H Q => ta σ H fun x H1 => x = .ref C ∧ tk σ H1 fun zs H2 => zs.length = ks.length ∧ sp (gV [] zs) H2 Q E
theorem pe_smethK {pl : Sem Bool} {kws : List Keyword} {ks : List Str} {gg : List Value → List Value → List Value} {gV : List V → List V → List V} {tk : TA} (he : PE X o ta) (c : SMet X.K C mc m p g) (F : FnOk X.prog X.w X.K X.mg X.base CX k g fd ps sp) (hr : Room k X.A) (hb : KBn X.K fd ps 0 ks gg gV) (hx : Passes CX X E) (hkw : PK X kws tk)
    (hall : (backToKw pos (keywordEach kws X.env)).all (·.1.isSome) = true := by rfl) (hks : (backToKw pos (keywordEach kws X.env)).filterMap (·.1) = ks := by rfl)
    (hpl : ((backTo pos (starEach [] X.env)).any (·.1) || (backToKw pos (keywordEach kws X.env)).any (·.1.isNone)) = false := by rfl)
    (ht : eval (.Call (.Attribute o m apos) [] kws pos) X.env = (do
      let ov ← eval o X.env
      standAt apos.atName
      let (f, first) ← holding [ov] (getMethod ov m pl)
      callWith pos f first (backTo pos (starEach [] X.env)) (backToKw pos (keywordEach kws X.env))) := by rfl) :
    PE X (.Call (.Attribute o m apos) [] kws pos) (tSMethK C ks sp gV E ta tk) := by
  refine ⟨fun pins s σ H Q I h => PySem.W.methodCall_KW (pl := pl) (thn (he.run pins s σ H _ I h) fun u s1 hh => ?_) ht⟩
  obtain ⟨x, H1, I1, rx, rfl, q⟩ := hh
  obtain rfl : u = Value.ref C := rx
  obtain ⟨rest, hp⟩ := c.rc
  refine PySem.W.method_cls I1.kIn c.ga (PySem.W.cls_bind I1.kIn c.rd c.at_ (wpAny_call (PySem.W.sm_get (s := { s1 with toks := s1.toks + 1 }) I1.kIn hp (PySem.W.handed_on rfl ?_))))
  have I2 := I1.kept (h' := s1.heap) (t' := s1.toks + 1) fun _ _ z => z
  refine PySem.W.callWith_KW0 (first := []) (h₀ := X.base) I2.ok.mod.kin c.kp hall (thn (hkw.run pos pins _ σ H1 _ I2 q) fun ws s3 hh => ?_) hpl
  obtain ⟨zs, H2, I3, rz, l2, q2⟩ := hh
  refine ⟨I3.kIn, ?_⟩
  rw [hks]
  exact run_fnN (us := []) (vs := []) F hr hb hx I3 .nil rz rfl l2 q2
end
end RK

/-! a token that is out, carried through a for, a test and a comprehension; s.replace(y, z, 1) -/
namespace RK
open PySem PySem.Spec PyProof.Rows L2
section
variable {P : Program} {w : World} {K : PySem.W.Frag} {mg : Str → Option Value} {base : Heap} {CX : CXT} {k : Nat} {f : Addr} {fd : FuncData} {N ps : List Str} {sp : Sp} {x qual : Str} {st : Stmt}
/-- a def whose body may use that a token is out -/
theorem funT (F : Fun K x qual st f fd) (S : FnScope N ps (defScope st)) (hn : ∀ y ∈ (defScope st).names, y.2 ≠ .cell) (hp : 1 ≤ ps.length) (len : ∀ vs H Q E, sp vs H Q E → vs.length = ps.length)
    (body : ∀ (cdv : Value) (A : Around) (outer : List Env) (s : Shared) (H : Hp) (vs : List V) (Q : VK) (E : XK), Room k (A.deeper (envOfC qual (defScope st) s.heap.objs.size f cdv)) → sp vs H Q E →
      ∃ t, PSsT (cxOf CX P w K mg base N qual (defScope st) f cdv A outer s H E).nox (defBody st) t ∧ t { nx := fun _ H' => Q .non H', rt := Q } (L2.start N vs) H) : FnOk P w K mg base CX (k + 1) f fd ps sp := by
  obtain ⟨oc, od, kV, doc, pm, an, cdv, ct, osl, rfl, lk, hcd⟩ := F.ex
  exact fn_ofT lk hcd S hn hp len fun A outer s H vs Q E hr q => by
    obtain ⟨t, h1, h2⟩ := body cdv A outer s H vs Q E hr q
    exact ⟨t, fun pins s σ H D h0 I hw => wpAny_mono (h1 pins s σ H D h0 (I.wish _) hw) (fun _ _ q => q.unwish) fun _ _ z => False.elim z, h2⟩
end
/-! ### replace, once -/
def rep1 (x y z : Str) : Str := if ((Builtin.Str.occurrences x y 0 x.length 1).isEmpty || (y.length == 0 && z.length == 0)) = true then x else Builtin.Str.glued z (Builtin.Str.partsBetween x (Builtin.Str.occurrences x y 0 x.length 1) y.length)
def tRep1 (to : TE) (y z : Str) : TE := fun σ H Q => to σ H fun v H1 => ∃ x, v = .str x ∧ x.length ≤ 10000 ∧ Q (.str (rep1 x y z)) H1
theorem gives_rep1 (x y z : Str) (t u v c : Tok) (h0 : (u == 0 || v == 0) = false) (h1 : (u == v) = false) (h2 : (y == z) = false) (h3 : Builtin.Str.tooLong (x.length + (Builtin.Str.occurrences x y 0 x.length 1).length * z.length) = false) :
    Gives (Builtin.«str.replace» ⟨[.str x t, .str y u, .str z v, .int 1 c], []⟩) (if ((Builtin.Str.occurrences x y 0 x.length 1).isEmpty || (y.length == 0 && z.length == 0)) = true then .val (.str x t) else .str (Builtin.Str.glued z (Builtin.Str.partsBetween x (Builtin.Str.occurrences x y 0 x.length 1) y.length))) := by
  have e : Builtin.«str.replace» ⟨[.str x t, .str y u, .str z v, .int 1 c], []⟩ = (if ((Builtin.Str.occurrences x y 0 x.length 1).isEmpty || (y.length == 0 && z.length == 0)) = true then (do rule "str.replace.nothing"; ret (.str x t)) else
      (do let same ← isSame (.str y u) (.str z v)
          if same = true then (do rule "str.replace.old-is-new"; ret (.str x t)) else
          if Builtin.Str.tooLong (x.length + (Builtin.Str.occurrences x y 0 x.length 1).length * z.length) = true then unsupported "str.replace:memory" else
          retStr (Builtin.Str.glued z (Builtin.Str.partsBetween x (Builtin.Str.occurrences x y 0 x.length 1) y.length)))) := by
    show (do let limit ← Builtin.Str.countLimit "str.replace" (some (.int 1 c)) (x.length + 1); _) = _
    rw [countLimit_int "str.replace" 1 c (x.length + 1) (by decide)]
    rfl
  rw [e]
  cases hc : ((Builtin.Str.occurrences x y 0 x.length 1).isEmpty || (y.length == 0 && z.length == 0))
  · rw [isSame_str_other y z u v h0 h1 h2, h3]
    exact .of_eq rfl
  · exact .rule (.of_eq rfl)
theorem glued1_len (x y z : Str) : (Builtin.Str.glued z (Builtin.Str.partsBetween x (Builtin.Str.occurrences x y 0 x.length 1) y.length)).length ≤ x.length + z.length := by
  have self := congrArg Str.length (StrLaws.glued_between_self x y 1)
  rw [size_glued, length_partsBetween] at self
  rw [size_glued, length_partsBetween]
  have few := StrLaws.occ_length_le x y 0 x.length 1
  rw [Nat.add_sub_cancel] at self ⊢
  have cut : (Builtin.Str.occurrences x y 0 x.length 1).length * z.length ≤ 1 * z.length := Nat.mul_le_mul_right _ few
  omega
theorem thnT {α : Type} {t : Sem α} {Q Q' : α → Shared → Prop} {M : Model} {A : Around} {E : Value → Shared → Prop} {s : Shared} {n : Nat} (hn : n ≤ s.toks) (h : wpAny M A t Q E s) (k : ∀ a s', n ≤ s'.toks → Q a s' → Q' a s') : wpAny M A t Q' E s :=
  wpAny_mono (wpAny_toks_of hn h) (fun a s' z => k a s' z.1 z.2) fun _ _ z => z.2
section
variable {X : Cx} {o e : Expr} {to te : TE} {y z : Str} {j k l : Nat} {c0 c1 c2 apos pos : Pos}
theorem pet_rep1 (ho : PE X o to) (hyz : (y == z) = false := by decide) (hz : z.length ≤ 100 := by decide)
    (hst : starEach [.Constant (.str y) j c0, .Constant (.str z) k c1, .Constant (.int 1) l c2] X.env = [(false, eval (.Constant (.str y) j c0) X.env), (false, eval (.Constant (.str z) k c1) X.env), (false, eval (.Constant (.int 1) l c2) X.env)] := by rfl)
    (hb : attributeBase o "replace" X.env (eval o X.env) = eval o X.env := by rfl) (hl : (apos.endLine == pos.line) = true := by rfl)
    (hf : ((backTo pos (starEach [.Constant (.str y) j c0, .Constant (.str z) k c1, .Constant (.int 1) l c2] X.env)).all (fun x => !x.1) && (backToKw pos (keywordEach [] X.env)).all (fun x => x.1.isSome) && decide ([(Expr.Constant (.str y) j c0), .Constant (.str z) k c1, .Constant (.int 1) l c2].length + ([] : List Keyword).length + (if ([] : List Keyword).isEmpty then 0 else 1) < 30)) = true := by rfl) :
    PET X (.Call (.Attribute o "replace" apos) [.Constant (.str y) j c0, .Constant (.str z) k c1, .Constant (.int 1) l c2] [] pos) (tRep1 to y z) := by
  intro pins s σ H Q h0 I h
  refine wpAny_Call_method_late hb hf hl rfl (thnT h0 (ho.run pins s σ H _ I h) fun v s1 t1 q => ?_)
  obtain ⟨v', H1, I1, r1, x, rfl, hx, q⟩ := q
  obtain ⟨tx, rfl⟩ := r1
  rw [hst]
  refine ⟨"str", _, PySem.F.plainAttrs_str, PySem.F.slot_str_replace, PySem.F.type_str_replace, typeIs_str _ _ _, (fun _ e => nomatch e), Calls.callWith_builtin rfl (Calls.evalArgs_plain ?_)⟩
  show wpAny _ _ (spliced [(false, eval (.Constant (.str y) j c0) X.env), (false, eval (.Constant (.str z) k c1) X.env), (false, eval (.Constant (.int 1) l c2) X.env)]) _ _ _
  refine Calls.spliced_cons (Calls.Constant_str (Calls.spliced_cons (Calls.Constant_str (Calls.spliced_cons (wpAny_Constant_int (Calls.spliced_nil ?_))))))
  have hlong : Builtin.Str.tooLong (x.length + (Builtin.Str.occurrences x y 0 x.length 1).length * z.length) = false := by
    have h1 := StrLaws.occ_length_le x y 0 x.length 1
    have h2 : (Builtin.Str.occurrences x y 0 x.length 1).length * z.length ≤ 1 * z.length := Nat.mul_le_mul_right _ h1
    unfold Builtin.Str.tooLong sizeLine
    exact decide_eq_false (by omega)
  refine call_gives F.slot_str_replace (typeIs_str _ _ _) F.entry_str_replace (F.args_str_replace_4 _ _ _ _) (gives_rep1 x y z tx _ _ _ ?_ ?_ hyz hlong) ?_
  · have a1 : s1.toks ≠ 0 := by omega
    have a2 : s1.toks + 1 ≠ 0 := by omega
    simp [a1, a2]
  · have a3 : s1.toks ≠ s1.toks + 1 := by omega
    simp [a3]
  · unfold rep1 at q
    split
    · rename_i c
      rw [if_pos c] at q
      exact ⟨.str x, H1, I1.tok _, ⟨tx, rfl⟩, q⟩
    · rename_i c
      rw [if_neg c] at q
      refine ⟨?_, ⟨.str _, H1, I1.tok _, ⟨_, rfl⟩, q⟩⟩
      have hg := glued1_len x y z
      show _ ≤ sizeLine
      unfold sizeLine
      omega
end
/-! ### for, a token out ahead of each turn -/
section
variable {X : Cx}
theorem pst_forT {tg iter : Expr} {body : List Stmt} {wi : TI} {g : TG} {tb : TS} {pos : Pos} (hp : PassesOwn (model X.prog X.w) X.A X.env X.xe) (hc : X.calm = true) (hi : PI X tg iter wi) (hg : PG X tg g) (hb : PSsT X body tb)
    (hs : ∀ x, foldedSetIterable iter X.env x = pure x := by intro _; rfl) : PST X (.For tg iter body [] pos) (tFor wi g tb) := by
  intro pins s σ H D h0 I h
  refine wpAny_For (thnT h0 (hi.run pins s σ H _ I h) fun v s1 t1 hv => thnT t1 hv fun itv s2 t2 hx => ?_) hs
  obtain ⟨it, fp, tn, J, H2, rfl, I2, T, b2, f2, W, ⟨m0, w0⟩, turn⟩ := hx
  have free_ : ∀ {H' : Hp}, (∀ b ∈ fp, H' b = none) → ∀ b ∈ fp, FpOk X pins H' b := fun n b m => ⟨n b m, (f2 b m).2⟩
  refine codeAny_forLoop_any (fun n z => 1 ≤ z.toks ∧ ∃ i τ G, Inv X pins τ G z ∧ tn i z.heap ∧ (∀ b ∈ fp, G b = none) ∧ W i n τ G) (fun n z hz => ?_) m0 ⟨t2, 0, σ, H2, I2, b2, fun b m => (f2 b m).1, w0⟩
  obtain ⟨tz, i, τ, G, J3, b3, n3, w3⟩ := hz
  have back : ∀ {z' y' : Shared} {τ' : L2.St} {G' : Hp} {N : L2.St → Hp → Prop}, 1 ≤ z'.toks → tn (i + 1) y'.heap → (∀ σ H, N σ H → ∃ m', m' < n ∧ W (i + 1) m' σ H) → Inv X (pins ++ pinsAt fp y'.heap) τ' G' z' → N τ' G' →
      ∃ m, m < n ∧ 1 ≤ z'.toks ∧ ∃ i τ G, Inv X pins τ G z' ∧ tn i z'.heap ∧ (∀ b ∈ fp, G b = none) ∧ W i m τ G := fun {z' y' τ' G' N} tz' by' hN J' nn => by
    obtain ⟨m', hm, w'⟩ := hN _ _ nn
    have at_ : ∀ b ∈ fp, ∀ ob, y'.heap.get? b = some ob → z'.heap.get? b = some ob ∧ G' b = none := fun b mb ob eb => by
      have q := J'.pin (b, ob) (List.mem_append_right _ (List.mem_append_right _ (mem_pinsAt mb eb)))
      exact ⟨q.1, q.2.1⟩
    refine ⟨m', hm, tz', i + 1, τ', G', J'.unpinned, T.keep _ _ _ by' fun b mb ob eb => (at_ b mb ob eb).1, fun b mb => ?_, w'⟩
    obtain ⟨ob, eb, _⟩ := T.obj _ _ by' b mb
    exact (at_ b mb ob eb).2
  rcases turn i n τ G w3 with ⟨stop, qn⟩ | ⟨go, N, hN, step⟩
  · refine wpAny_passesOwn hp (thn (T.done X rfl rfl rfl hc i pins z τ G X.xe J3 (free_ n3) b3 stop) fun r z1 hr => ?_)
    obtain ⟨rfl, J4⟩ := hr
    exact wpAny_execs_nil ⟨τ, G, J4, qn⟩
  · refine wpAny_passesOwn hp (thnT tz (T.item X rfl rfl rfl hc i pins z τ G X.xe J3 (free_ n3) b3 go) fun r z1 t4 hr => ?_)
    obtain ⟨u, rfl, hu⟩ := hr
    refine wpAny_passesOwn hp (thnT t4 hu fun _ z2 t5 hx => ?_)
    obtain ⟨x, G5, J5, r5, y5, b5, n5⟩ := hx
    have J5' := J5.pinned (free_ n5) (T.obj _ _ b5)
    refine wpAny_passesOwn hp (thnT t5 (hg.run _ z2 τ G5 x u _ J5' r5 (step x G5 y5)) fun _ z3 t6 hx => ?_)
    obtain ⟨τ6, G6, J6, q6⟩ := hx
    refine wpAny_passesOwn hp (thnT t6 (hb _ z3 τ6 G6 _ t6 J6 q6) fun fl z4 t7 q7 => ?_)
    cases fl with
    | next => obtain ⟨τ7, G7, J7, n7⟩ := q7; exact back t7 b5 hN J7 n7
    | cont => obtain ⟨τ7, G7, J7, n7⟩ := q7; exact back t7 b5 hN J7 n7
    | brk => obtain ⟨τ7, G7, J7, q7⟩ := q7; exact ⟨τ7, G7, J7.unpinned, q7⟩
    | ret v => obtain ⟨x7, τ7, G7, J7, r7, q7⟩ := q7; exact ⟨x7, τ7, G7, J7.unpinned, r7, q7⟩
end
/-! ### a comprehension over a text whose reckoning wants a token -/
section
variable {X : Cx}
theorem pet_lcS {elt tg iter : Expr} {ifs : List Expr} {scope : Scope} {own : List (Str × Nat)} {pos : Pos} {ti : TE} {g : TG} {tt : TT} {te : TE} (hc : X.calm = true) (hN : X.N.Nodup) (hi : PET X iter ti) (ok : BlkOk X.N X.env.scope scope own)
    (hg : ∀ s H C cl fp, PG (X.blk s H scope (compEnvC scope cl C X.env) fp) tg g) (ht : ∀ s H C cl fp, PTs (X.blk s H scope (compEnvC scope cl C X.env) fp) ifs tt) (he : ∀ s H C cl fp, PE (X.blk s H scope (compEnvC scope cl C X.env) fp) elt te)
    (hs : ∀ x, foldedSetIterable iter X.env x = pure x := by intro _; rfl) : PET X (.ListComp elt [⟨tg, iter, ifs, 0⟩] scope pos) (tLc (iStr ti) g tt te (own.map (·.2))) := by
  intro pins s σ H Q h0 I h
  rw [eval_ListComp]
  have closed := closure_ok (scope := scope) (env := X.env) fun y hy e => (ok.free y hy e).elim (fun c => I.ok.has _ (.inl c)) fun c => I.ok.has _ (.inr c)
  refine wpAny_comprehension_free (use := none) rfl hs closed ok.kind (fun y hy e => (ok.uniq y hy).trans (by rw [e])) (thn (hi pins s σ H _ h0 I h) fun v s1 hv => ?_)
  obtain ⟨_, H1, I1, r1, x, rfl, q⟩ := hv
  obtain ⟨t, rfl⟩ := r1
  have rest : ∀ itv s2, PIE X pins σ tg (fun J G => ∀ D, G D = none → ∃ W : Nat → Nat → Hp → Prop, (∃ m, W 0 m (upd G D (.lst []))) ∧ ∀ i m F, W i m F →
      (J.stop i F ∧ Q (.ref D) F) ∨ (J.go i F ∧ ∃ Nx : Hp → Prop, (∀ F', Nx F' → ∃ m', m' < m ∧ W (i + 1) m' F') ∧ ∀ x F', J.yld i F x F' → g x (wipe σ (own.map (·.2))) F' fun σ2 F2 => wipe σ2 (own.map (·.2)) = wipe σ (own.map (·.2)) ∧ tt σ2 F2 fun b F3 =>
        if b = true then te σ2 F3 fun y F4 => ∃ acc, F4 D = some (.lst acc) ∧ acc.length < sizeLine ∧ Nx (upd F4 D (.lst (acc ++ [y]))) else Nx F3)) itv s2 →
      wpAny (model X.prog X.w) X.A (newList []) (fun acc s3 => wpAny (model X.prog X.w) X.A (newFunctionEnv scope X.env.globals (cloFrom X.env.cells scope.names []) [] X.env.qual none .none (some X.env)) (fun cenv s4 =>
        codeAny (model X.prog X.w) X.A (.compStart (.ListComp elt [⟨tg, iter, ifs, 0⟩] scope pos) 0 itv acc { cenv with scope := relabel scope X.env }) (compPost (model X.prog X.w) X.A X.xe none (EP X pins σ Q) acc cenv.locals) s4) X.xe s3) X.xe s2 := by
    intro itv s2 hP
    obtain ⟨it, fp, tn, J, H2, rfl, I2, T, b2, f2, q⟩ := hP
    refine wpAny_newObj_type (newEnv_comp ?_) (Nat.zero_le _)
    have nD : H2 s2.heap.objs.size = none := I2.hok.fresh (Nat.le_refl _)
    obtain ⟨W, ⟨m0, w0⟩, turn⟩ := q _ nD
    have I3 : Inv X pins σ (upd H2 s2.heap.objs.size (.lst [])) { s2 with heap := s2.heap.push { cls := .type "list", data := .seq ([] : List Value).toArray } } :=
      I2.laid (t' := s2.toks) (fun b o e => Heap.get?_push_of_some _ e) (Nat.le_refl _) ⟨Nat.zero_le _, [], 0, .nil, Heap.get?_push_size _ rfl⟩
    have old : ∀ b ∈ fp, b < s2.heap.objs.size := fun b hb => by
      obtain ⟨o, e, _⟩ := T.obj _ _ b2 b hb
      exact Heap.lt_size e
    have b3 : tn 0 (s2.heap.push { cls := .type "list", data := .seq ([] : List Value).toArray }) := T.keep _ _ _ b2 fun b _ o e => Heap.get?_push_of_some _ e
    have f3 : ∀ b ∈ fp, FpOk X pins (upd H2 s2.heap.objs.size (.lst [])) b := fun b hb => ⟨by rw [upd_ne (Nat.ne_of_lt (old b hb))]; exact (f2 b hb).1, (f2 b hb).2⟩
    have l3 : ∀ b ∈ fp, b < (s2.heap.push { cls := .type "list", data := .seq ([] : List Value).toArray }).objs.size := fun b hb => by
      rw [Heap.size_push]
      exact Nat.lt_succ_of_lt (old b hb)
    generalize s2.heap.objs.size = D at *
    show codeAny _ _ _ _ { ({ s2 with heap := s2.heap.push { cls := .type "list", data := .seq ([] : List Value).toArray } } : Shared) with heap := pushCells ((s2.heap.push { cls := .type "list", data := .seq ([] : List Value).toArray }).push { cls := .type "dict", data := .dict #[] }) scope.names }
    generalize hs3 : ({ s2 with heap := s2.heap.push { cls := .type "list", data := .seq ([] : List Value).toArray } } : Shared) = s3 at I3 ⊢
    have hh : s2.heap.push { cls := .type "list", data := .seq ([] : List Value).toArray } = s3.heap := by rw [← hs3]
    rw [hh] at b3 l3 ⊢
    generalize upd H2 D (.lst []) = H3 at *
    have I4 := block_start I3 ok hN fun b hb => ⟨f3 b hb, l3 b hb⟩
    have G_ := hg s3 H3 s3.heap.objs.size (cellsFrom (s3.heap.objs.size + 1) scope.names (cloFrom X.env.cells scope.names [])) fp
    have T_ := ht s3 H3 s3.heap.objs.size (cellsFrom (s3.heap.objs.size + 1) scope.names (cloFrom X.env.cells scope.names [])) fp
    have E_ := he s3 H3 s3.heap.objs.size (cellsFrom (s3.heap.objs.size + 1) scope.names (cloFrom X.env.cells scope.names [])) fp
    show codeAny _ _ (.compStart _ 0 (.ref it) (.ref D) (compEnvC scope (cellsFrom (s3.heap.objs.size + 1) scope.names (cloFrom X.env.cells scope.names [])) s3.heap.objs.size X.env)) (compPost _ _ _ none (EP X pins σ Q) (.ref D) s3.heap.objs.size) { s3 with heap := pushCells (s3.heap.push { cls := .type "dict", data := .dict #[] }) scope.names }
    have here : (compEnvC scope (cellsFrom (s3.heap.objs.size + 1) scope.names (cloFrom X.env.cells scope.names [])) s3.heap.objs.size X.env).locals = s3.heap.objs.size := rfl
    generalize compEnvC scope (cellsFrom (s3.heap.objs.size + 1) scope.names (cloFrom X.env.cells scope.names [])) s3.heap.objs.size X.env = ce at I4 G_ T_ E_ here ⊢
    have b4 : tn 0 (pushCells (s3.heap.push { cls := .type "dict", data := .dict #[] }) scope.names) := T.keep _ _ _ b3 fun b _ o e => pushCells_keeps _ _ _ _ (Heap.get?_push_of_some _ e)
    generalize hs4 : ({ s3 with heap := pushCells (s3.heap.push { cls := .type "dict", data := .dict #[] }) scope.names } : Shared) = s4 at I4 ⊢
    have b4' : tn 0 s4.heap := by rw [← hs4]; exact b4
    have its_ : ∀ {τ : L2.St} {G : Hp} {z : Shared}, Inv (X.blk s3 H3 scope ce fp) [] τ G z → (∀ b ∈ fp, G b = none) → ∀ b ∈ fp, FpOk (X.blk s3 H3 scope ce fp) [] G b := fun J n b hb =>
      ⟨n b hb, (J.ok.exf b hb).1, J.ok.exfs b hb, .inl hb, fun c d e => (J.ok.exf b hb).2 c d e, fun p hp => by cases hp⟩
    refine codeAny_compStart_list ?_ (T.self X.A 0 _ _ _ b4' ?_)
    all_goals
      refine compLoop_any (fun n z => ∃ i G, Inv (X.blk s3 H3 scope ce fp) [] (wipe σ (own.map (·.2))) G z ∧ tn i z.heap ∧ (∀ b ∈ fp, G b = none) ∧ W i n G) (fun n z hz => ?_) m0 ⟨0, H3, I4, b4', fun b hb => (f3 b hb).1, w0⟩
      obtain ⟨i, G, J5, b5, n5, w5⟩ := hz
      rcases turn i n G w5 with ⟨stop, qq⟩ | ⟨go, Nx, hNx, step⟩
      · refine thnF (T.done (X.blk s3 H3 scope ce fp) rfl rfl rfl hc i [] z _ G (fun _ _ => False) J5 (its_ J5 n5) b5 stop) fun r z6 hr => ?_
        obtain ⟨rfl, J6⟩ := hr
        have out : Inv X pins σ G z6 := I3.call' (ch := fp) J6.os J6.base J6.hok J6.bare fun b hb => let f := f3 b hb; ⟨f.2.2.2.1, f.2.1, f.2.2.2.2.1, f.2.2.2.2.2⟩
        have gone : G s3.heap.objs.size = none := by rw [← here]; exact J6.free
        obtain ⟨m, names, _⟩ := J6.loc
        obtain ⟨p0, p1, _, p3, p4, p5⟩ := I3.fpOk (H' := G) (Nat.le_refl _) gone
        refine ⟨m, by rw [← here]; exact names, fun hp sb => ⟨.ref D, G, out.turned (t' := z6.toks) (fun b o nb e => (sb.2 b nb).trans e) p0 p1 p3 p4 p5, rfl, qq⟩⟩
      · refine thnF (T.item (X.blk s3 H3 scope ce fp) rfl rfl rfl hc i [] z _ G (fun _ _ => False) J5 (its_ J5 n5) b5 go) fun r z6 hr => ?_
        obtain ⟨u, rfl, hu⟩ := hr
        refine thnF hu fun _ z7 hx => ?_
        obtain ⟨y, G7, J7, r7, y7, b7, n7⟩ := hx
        have J7' := J7.pinned (its_ J7 n7) (T.obj _ _ b7)
        refine thnF (G_.run _ z7 _ G7 y u _ J7' r7 (step y G7 y7)) fun _ z8 hx => ?_
        obtain ⟨τ8, G8, J8, e8, q8⟩ := hx
        refine thnF (T_.run _ z8 τ8 G8 _ J8 q8) fun b z9 hx => ?_
        obtain ⟨G9, J9, q9⟩ := hx
        have turn_ : ∀ {z' : Shared} {G' : Hp}, Inv (X.blk s3 H3 scope ce fp) ([] ++ pinsAt fp z7.heap) τ8 G' z' → Nx G' → ∃ m, m < n ∧ ∃ i G, Inv (X.blk s3 H3 scope ce fp) [] (wipe σ (own.map (·.2))) G z' ∧ tn i z'.heap ∧ (∀ b ∈ fp, G b = none) ∧ W i m G := fun {z' G'} J' nx => by
          obtain ⟨m', hm, w'⟩ := hNx G' nx
          have at_ : ∀ b ∈ fp, ∀ o, z7.heap.get? b = some o → z'.heap.get? b = some o ∧ G' b = none := fun b hb o e => by
            have p := J'.pin (b, o) (List.mem_append_right _ (List.mem_append_right _ (mem_pinsAt hb e)))
            exact ⟨p.1, p.2.1⟩
          refine ⟨m', hm, i + 1, G', (J'.unpinned (pins := [])).weak (by rw [← e8, wipe_length]) (fun j v e => ?_), T.keep _ _ _ b7 fun b hb o e => (at_ b hb o e).1, fun b hb => ?_, w'⟩
          · rw [← e8] at e
            exact (wipe_some e).1
          · obtain ⟨o, e, _⟩ := T.obj _ _ b7 b hb
            exact (at_ b hb o e).2
        cases b with
        | false =>
          rw [if_neg (by decide)] at q9 ⊢
          exact turn_ J9 q9
        | true =>
          rw [if_pos rfl] at q9 ⊢
          refine thnF (E_.run _ z9 τ8 G9 _ J9 q9) fun v' z10 hx => ?_
          obtain ⟨yv, G10, J10, r10, acc, a1, a2, nx⟩ := hx
          exact app_ok (X := X.blk s3 H3 scope ce fp) J10 a1 a2 r10 fun z11 J11 => turn_ J11 nx
  cases ha : x.cps.all (· < 128)
  · exact wpAny_pyIter_wide ha (rest _ _ (pi_one (tk := s1.toks) I1 _ (turn_str _ x t "str_iterator" (.inr rfl)) ⟨_, Heap.get?_push_size _ rfl, rfl, rfl⟩ q))
  · exact wpAny_pyIter_ascii ha (rest _ _ (pi_one (tk := s1.toks) I1 _ (turn_str _ x t "str_ascii_iterator" (.inl rfl)) ⟨_, Heap.get?_push_size _ rfl, rfl, rfl⟩ q))
end
/-! ### a test that wants a token -/
section
variable {X : Cx} {a b c : Expr} {ta tb : TE} {pos : Pos}
def PTT (X : Cx) (e : Expr) (t : TT) : Prop :=
  ∀ (pins : List (Addr × Obj)) (s : Shared) (σ : L2.St) (H : Hp) (Q : Bool → Hp → Prop), 1 ≤ s.toks → Inv X pins σ H s → t σ H Q → wpAny (model X.prog X.w) X.A (PySem.isTrue e X.env (eval e X.env)) (TP X pins σ Q) X.xe s
theorem ptt_cmp {op : CmpOp} {r : R2} (ho : OpR X (compareOp op) r) (ha : PET X a ta) (hb : PE X b tb) (hm : behindInMarks op b = false) : PTT X (.Compare a [op] [b] pos) (tTest (tOp r ta tb)) := by
  intro pins s σ H Q h0 I h
  refine wpAny_isTrue_Compare1 (thn (ha pins s σ H _ h0 I h) fun v s1 hv => ?_) hm
  obtain ⟨x, H1, I1, r1, q1⟩ := hv
  refine thn (hb.run pins s1 σ H1 _ I1 q1) fun u s2 hu => ?_
  obtain ⟨y, H2, I2, r2, q2⟩ := hu
  refine thn (ho pins s2 σ H2 x y v u _ I2 r1 r2 q2) fun d s3 hd => ?_
  obtain ⟨_, H3, I3, r3, k, rfl, q3⟩ := hd
  cases r3
  exact wpAny_truthy_bool ⟨H3, I3, q3⟩
theorem pst_ifT {ss us : List Stmt} {tc : TT} {t u : TS} (hc : PTT X c tc) (ha : PSsT X ss t) (hb : PSsT X us u) : PST X (.If c ss us pos) (tIfS tc t u) := by
  intro pins s σ H D h0 I h
  refine wpAny_If (thnT h0 (hc pins s σ H _ h0 I h) fun d s1 t1 hd => ?_)
  obtain ⟨H1, I1, q1⟩ := hd
  cases d with
  | true => exact ha pins s1 σ H1 D t1 I1 q1
  | false => exact hb pins s1 σ H1 D t1 I1 q1
end
end RK

/-! a def that makes lambdas for told; what is kept by one -/
namespace RK
open PySem PySem.Spec PyProof.Rows L2 LamX
section
variable {P : Program} {w : World} {K : PySem.W.Frag} {mg : Str → Option Value} {base : Heap} {CX : CXT} {k : Nat} {f : Addr} {fd : FuncData} {N ps : List Str} {sp : Sp} {x qual : Str} {st : Stmt}
/-- as funG, the body's code object is told -/
theorem funGc {CX : CXT} (F : Fun K x qual st f fd) (S : FnScope N ps (defScope st)) (len : ∀ vs H Q E, sp vs H Q E → vs.length = ps.length)
    (hbody : ∀ (cdv : Value) (A : Around) (outer : List Env) (s : Shared) (H : Hp) (vs : List V) (Q : VK) (E : XK), fd.code = cdv → A.guards = some [] → Room k (A.deeper (envOfC qual (defScope st) s.heap.objs.size f cdv)) → sp vs H Q E →
      ∃ t, PSs (cxOf CX P w K mg base N qual (defScope st) f cdv A outer s H E) (defBody st) t ∧ t { nx := fun _ H' => Q .non H', rt := Q } (L2.start N vs) H) : FnOkG P w K mg base CX (k + 1) f fd ps sp := by
  obtain ⟨oc, od, kV, doc, pm, an, cdv, ct, osl, e, lk, hcd⟩ := F.ex
  subst e
  exact ⟨len, fun A outer s H args us vs Q E hg hr e0 hb r q => LamX.run_ofS lk hcd S hr e0 hb r (len _ _ _ _ q) fun hr' => hbody cdv A outer s H vs Q E rfl hg hr' q⟩
end
/-! ### what a lambda's making keeps -/
theorem tabs_kp {T : List (Addr × Str)} {b : Addr} {H H' : Hp} (k : Kp b H H') (t : Tabs T H) : Tabs T H' := fun p hp => by
  obtain ⟨ps, h1, h2, h3⟩ := t p hp
  obtain ⟨f, s, n, hb⟩ := k.bag
  have other : ∀ {c : Addr} {o : HO}, H c = some o → (∀ xs, o ≠ .lst xs) → H' c = some o := fun {c o} h ne => k.keep c o (fun z => by rw [z, hb] at h; cases h; exact ne _ rfl) h
  refine ⟨ps, other h1 (fun xs z => by cases z), h2, fun pos cv hc => ?_⟩
  obtain ⟨c, e1, e2⟩ := h3 pos cv hc
  exact ⟨c, e1, other e2 fun xs z => by unfold CodeO at z; cases z⟩
theorem Same.ext {H H' : Hp} (e : Same H H') : ExtN H H' := fun b o h _ => e b o h
/-- all stays but the bag's numbers and the tables -/
structure Kb (T : List (Addr × Str)) (b : Addr) (H H' : Hp) : Prop where
  bag : Bag H b
  bag' : Bag H' b
  keep : ∀ c o, c ≠ b → H c = some o → (∀ ps, o ≠ .tbl ps) → H' c = some o
  tabs : Tabs T H'
variable {T : List (Addr × Str)} {b : Addr} {H H1 H2 : Hp}
theorem Kb.refl (h : Bag H b) (t : Tabs T H) : Kb T b H H := ⟨h, h, fun _ _ _ q _ => q, t⟩
theorem Kb.kp (a : Kb T b H H1) (c : Kp b H1 H2) : Kb T b H H2 := ⟨a.bag, c.bag', fun d o n q t => c.keep d o n (a.keep d o n q t), tabs_kp c a.tabs⟩
theorem Kb.same (a : Kb T b H H1) (c : Same H1 H2) : Kb T b H H2 := a.kp (.of a.bag' c)
theorem Kb.ext (a : Kb T b H H1) (c : ExtN H1 H2) (t : Tabs T H2) : Kb T b H H2 := by
  obtain ⟨f, s, n, hb⟩ := a.bag'
  exact ⟨a.bag, ⟨f, s, n, c _ _ hb fun ps z => by cases z⟩, fun d o n q y => c d o (a.keep d o n q y) y, t⟩
theorem Kb.trans (a : Kb T b H H1) (c : Kb T b H1 H2) : Kb T b H H2 := ⟨a.bag, c.bag', fun d o n q y => c.keep d o n (a.keep d o n q y) y, c.tabs⟩
theorem Kb.lst {a : Addr} {xs : List V} (k : Kb T b H H1) (n : a ≠ b) (h : H a = some (.lst xs)) : H1 a = some (.lst xs) := k.keep a _ n h fun ps z => by cases z
theorem Kb.tup {a : Addr} {xs : List V} (k : Kb T b H H1) (h : H a = some (.tup xs)) : H1 a = some (.tup xs) := by
  obtain ⟨f, s, n, hb⟩ := k.bag
  exact k.keep a _ (ne_of h hb (by intro z; cases z)) h fun ps z => by cases z
theorem Kb.ins {a C dx : Addr} {fs : List (Str × V)} (k : Kb T b H H1) (h : H a = some (.ins C dx fs)) : H1 a = some (.ins C dx fs) := by
  obtain ⟨f, s, n, hb⟩ := k.bag
  exact k.keep a _ (ne_of h hb (by intro z; cases z)) h fun ps z => by cases z
/-! ### a list that the law was handed, whatever is made beside it -/
def StL (K : PySem.W.Frag) (c : Addr) (xs : List V) (H : Hp) : Prop := (∀ H', SqL K H' c xs) ∨ ∃ o, H c = some o ∧ (∀ ps, o ≠ .tbl ps) ∧ ∀ H', H' c = some o → SqL K H' c xs
section
variable {K : PySem.W.Frag} {c : Addr} {xs : List V}
theorem StL.of (h : SqL K H c xs) : StL K c xs H := by
  rcases h with (h | ⟨o, h⟩) | h
  · exact .inr ⟨_, h, (fun ps z => by cases z), fun H' h' => .inl (.inl h')⟩
  · exact .inr ⟨_, h, (fun ps z => by cases z), fun H' h' => .inl (.inr ⟨o, h'⟩)⟩
  · exact .inl fun H' => .inr h
theorem StL.sql (s : StL K c xs H) : SqL K H c xs := by
  rcases s with h | ⟨o, h1, _, h3⟩
  · exact h H
  · exact h3 H h1
theorem StL.keep (s : StL K c xs H) (k : ∀ o, H c = some o → (∀ ps, o ≠ .tbl ps) → H1 c = some o) : StL K c xs H1 := by
  rcases s with h | ⟨o, h1, h2, h3⟩
  · exact .inl h
  · exact .inr ⟨o, k o h1 h2, h2, h3⟩
theorem StL.same (s : StL K c xs H) (e : Same H H1) : StL K c xs H1 := s.keep fun o h _ => e _ _ h
/-- a bag is made, and what then keeps all but it and the tables -/
theorem StL.kb {p : Addr} (s : StL K c xs H) (hp : H p = none) (e : Same H H1) (k : Kb T p H1 H2) : StL K c xs H2 := s.keep fun o h t => k.keep _ _ (ne_of_none h hp) (e _ _ h) t
theorem StL.new {D : Addr} {o : HO} (s : StL K c xs H) (hD : H D = none) : StL K c xs (upd H D o) := s.same (w_new hD)
/-- [true, ..]: each element by a bag of its own -/
theorem lc_rngT {lo : Int} {n j : Nat} {W : TI} {te : TE} {vs : List Nat} {σ : L2.St} {Q : VK} (hn : n ≤ 1000) (hwi : ∀ R : It → Hp → Prop, R (Itr lo n) H → W σ H R) (hw : ∀ x, wipe ((wipe σ vs).set j (some x)) vs = wipe σ vs) (hc : StL K c xs H) (ht : Tabs T H)
    (he : ∀ i H', i < n → StL K c xs H' → Tabs T H' → ∀ Q' : VK, (∀ H'', StL K c xs H'' → Tabs T H'' → (∀ D acc, H' D = some (.lst acc) → H'' D = some (.lst acc)) → Q' (.bl true) H'') → te ((wipe σ vs).set j (some (.int (lo + i)))) H' Q')
    (k : ∀ D H', H' D = some (.lst (List.replicate n (.bl true))) → Q (.ref D) H') : tLc W (gName j) tYes te vs σ H Q := by
  refine hwi _ fun D hD => ?_
  refine lc_range (lo := lo) (n := n) (fun i G => G D = some (.lst (List.replicate i (.bl true))) ∧ StL K c xs G ∧ Tabs T G ∧ ∀ o, H c = some o → c ≠ D) ⟨upd_same, hc.new hD, ht.ext (w_new hD), fun o h => ne_of_none h hD⟩ ?_ ?_
  · rintro i G hi ⟨hG, st, tb, ne⟩
    refine ⟨hw _, ?_⟩
    refine w_yes ?_
    rw [if_pos rfl]
    refine he i G hi st tb _ fun G2 st2 tb2 kp => ?_
    have h2 := kp D _ hG
    have up : upd G2 D (.lst (List.replicate i (.bl true) ++ [.bl true])) D = some (.lst (List.replicate (i + 1) (.bl true))) := by rw [upd_same, List.replicate_succ']
    refine ⟨_, h2, by rw [List.length_replicate]; exact Nat.lt_of_lt_of_le (show i < 1001 by omega) (by decide), up, ?_, ?_, ne⟩
    · rcases hc with h | ⟨o, h1, h2, h3⟩
      · exact .inl h
      · have nc := ne _ h1
        exact st2.keep fun o' h' _ => by rw [upd_ne nc]; exact h'
    · exact fun p hp => by
        obtain ⟨ps, t1, t2, t3⟩ := tb2 p hp
        have a1 : p.1 ≠ D := fun z => by rw [z, h2] at t1; cases t1
        refine ⟨ps, by rw [upd_ne a1]; exact t1, t2, fun pos cv hv => ?_⟩
        obtain ⟨d, d1, d2⟩ := t3 pos cv hv
        have a2 : d ≠ D := fun z => by
          rw [z, h2] at d2
          unfold CodeO at d2
          cases d2
        exact ⟨d, d1, by rw [upd_ne a2]; exact d2⟩
  · rintro G ⟨hG, _⟩
    exact k D G hG
theorem all_rep {Q : VK} {D : Addr} {n : Nat} (h : H D = some (.lst (List.replicate n (.bl true)))) (q : Q (.bl true) H) : rAll K [.ref D] H Q := by
  have e : List.replicate n (V.bl true) = (List.replicate n true).map V.bl := by rw [List.map_replicate]
  refine ⟨D, List.replicate n true, rfl, by rw [← e]; exact SqL.of h, ?_⟩
  rw [show (List.replicate n true).all id = true from List.all_eq_true.mpr fun x hx => (List.mem_replicate.mp hx).2]
  exact q
end
/-- the table of the code object at c -/
def tabOf (K : PySem.W.Frag) (c : Addr) : Option Addr := match K.lookup c with
  | some o => (match o.data with
    | .fields vs => (match (vs[11]? : Option Value) with
      | some (.ref P) => some P
      | _ => none)
    | _ => none)
  | none => none
end RK

/-! comprehensions over a list or a tuple, with a target of any form -/
namespace RK
open PySem PySem.Spec PyProof.Rows L2 RZ
theorem seqT_same {K : PySem.W.Frag} {H H' : Hp} {p : Addr} {xs : List V} (e : Same H H') (h : SqT K H p xs) : SqT K H' p xs := by
  rcases h with (h | ⟨o, h⟩) | h
  · exact .inl (.inl (e _ _ h))
  · exact .inl (.inr ⟨o, e _ _ h⟩)
  · exact .inr h
section
variable {K : PySem.W.Frag} {σ : L2.St} {H : Hp} {Q : VK} {g : TG} {te : TE} {vs : List Nat}
/-- [f(x) for x in a list], the target of any form: each element leaves what stood, and gives what P says -/
theorem lc_mapL {l : Addr} {xs : List V} (P : Nat → V → Hp → Prop) (mono : ∀ i v H H', SameT H H' → P i v H → P i v H') (hl : SqL K H l xs) (hlen : xs.length ≤ 1000)
    (he : ∀ (i : Nat) (x : V) (H' : Hp), xs[i]? = some x → Same H H' → ∀ Q' : VK, (∀ v H'', Same H' H'' → P i v H'' → Q' v H'') → g x (wipe σ vs) H' fun σ2 H2 => wipe σ2 vs = wipe σ vs ∧ te σ2 H2 Q')
    (k : ∀ D ys H', H D = none → Same H H' → H' D = some (.lst ys) → ys.length = xs.length → (∀ i v, ys[i]? = some v → P i v H') → Q (.ref D) H') :
    ∀ D, H D = none → ∃ W : Nat → Nat → Hp → Prop, (∃ m, W 0 m (upd H D (.lst []))) ∧ ∀ i m G, W i m G →
      ((Itl K l).stop i G ∧ Q (.ref D) G) ∨ ((Itl K l).go i G ∧ ∃ Nx : Hp → Prop, (∀ G', Nx G' → ∃ m', m' < m ∧ W (i + 1) m' G') ∧ ∀ y G', (Itl K l).yld i G y G' → g y (wipe σ vs) G' fun σ2 H2 => wipe σ2 vs = wipe σ vs ∧ tYes σ2 H2 fun b H3 =>
        if b = true then te σ2 H3 fun y H4 => ∃ acc, H4 D = some (.lst acc) ∧ acc.length < sizeLine ∧ Nx (upd H4 D (.lst (acc ++ [y]))) else Nx H3) := by
  intro D hD
  refine lc_list (K := K) (a := l) (xs := xs) (fun i G => ∃ acc, G D = some (.lst acc) ∧ acc.length = i ∧ Same H G ∧ ∀ m v, acc[m]? = some v → P m v G) ⟨[], upd_same, rfl, w_new hD, fun m v e => by simp at e⟩ (fun i G _ hG => Same.seq (let ⟨_, _, _, e, _⟩ := hG; e) hl) ?_ ?_
  · rintro i x G hx ⟨acc, h1, h2, e, hp⟩
    have hi := (List.getElem?_eq_some_iff.mp hx).1
    refine he i x G hx e (fun y H4 => ∃ acc, H4 D = some (.lst acc) ∧ acc.length < sizeLine ∧ ∃ acc', upd H4 D (.lst (acc ++ [y])) D = some (.lst acc') ∧ acc'.length = i + 1 ∧ Same H (upd H4 D (.lst (acc ++ [y]))) ∧ ∀ m v, acc'[m]? = some v → P m v (upd H4 D (.lst (acc ++ [y])))) fun v H4 e4 pv => ?_
    have h3 := e4 _ _ h1
    refine ⟨acc, h3, Nat.lt_of_lt_of_le (show acc.length < 1001 by omega) (by decide), acc ++ [v], upd_same, by rw [List.length_append, h2]; rfl, RK.Same.updL (e.trans e4) hD, fun m u hu => ?_⟩
    by_cases hm : m < acc.length
    · rw [List.getElem?_append_left hm] at hu
      exact mono m u H4 _ (SameT.upd h3) (mono m u G H4 (.of e4) (hp m u hu))
    · rw [List.getElem?_append_right (by omega)] at hu
      have em : m = acc.length := by
        have := (List.getElem?_eq_some_iff.mp hu).1
        simp at this
        omega
      subst em
      simp at hu
      subst hu
      exact mono _ _ H4 _ (SameT.upd h3) (by rw [h2]; exact pv)
  · rintro G ⟨acc, h1, h2, e, hp⟩
    exact k D acc G hD e h1 h2 hp
/-- [f(x) for x in a tuple], the target of any form: each element leaves what stood, and gives what P says -/
theorem lc_mapT {l : Addr} {xs : List V} (P : Nat → V → Hp → Prop) (mono : ∀ i v H H', SameT H H' → P i v H → P i v H') (hl : SqT K H l xs) (hlen : xs.length ≤ 1000)
    (he : ∀ (i : Nat) (x : V) (H' : Hp), xs[i]? = some x → Same H H' → ∀ Q' : VK, (∀ v H'', Same H' H'' → P i v H'' → Q' v H'') → g x (wipe σ vs) H' fun σ2 H2 => wipe σ2 vs = wipe σ vs ∧ te σ2 H2 Q')
    (k : ∀ D ys H', H D = none → Same H H' → H' D = some (.lst ys) → ys.length = xs.length → (∀ i v, ys[i]? = some v → P i v H') → Q (.ref D) H') :
    ∀ D, H D = none → ∃ W : Nat → Nat → Hp → Prop, (∃ m, W 0 m (upd H D (.lst []))) ∧ ∀ i m G, W i m G →
      ((Itt K l).stop i G ∧ Q (.ref D) G) ∨ ((Itt K l).go i G ∧ ∃ Nx : Hp → Prop, (∀ G', Nx G' → ∃ m', m' < m ∧ W (i + 1) m' G') ∧ ∀ y G', (Itt K l).yld i G y G' → g y (wipe σ vs) G' fun σ2 H2 => wipe σ2 vs = wipe σ vs ∧ tYes σ2 H2 fun b H3 =>
        if b = true then te σ2 H3 fun y H4 => ∃ acc, H4 D = some (.lst acc) ∧ acc.length < sizeLine ∧ Nx (upd H4 D (.lst (acc ++ [y]))) else Nx H3) := by
  intro D hD
  refine lc_tup (K := K) (a := l) (xs := xs) (fun i G => ∃ acc, G D = some (.lst acc) ∧ acc.length = i ∧ Same H G ∧ ∀ m v, acc[m]? = some v → P m v G) ⟨[], upd_same, rfl, w_new hD, fun m v e => by simp at e⟩ (fun i G _ hG => seqT_same (let ⟨_, _, _, e, _⟩ := hG; e) hl) ?_ ?_
  · rintro i x G hx ⟨acc, h1, h2, e, hp⟩
    have hi := (List.getElem?_eq_some_iff.mp hx).1
    refine he i x G hx e (fun y H4 => ∃ acc, H4 D = some (.lst acc) ∧ acc.length < sizeLine ∧ ∃ acc', upd H4 D (.lst (acc ++ [y])) D = some (.lst acc') ∧ acc'.length = i + 1 ∧ Same H (upd H4 D (.lst (acc ++ [y]))) ∧ ∀ m v, acc'[m]? = some v → P m v (upd H4 D (.lst (acc ++ [y])))) fun v H4 e4 pv => ?_
    have h3 := e4 _ _ h1
    refine ⟨acc, h3, Nat.lt_of_lt_of_le (show acc.length < 1001 by omega) (by decide), acc ++ [v], upd_same, by rw [List.length_append, h2]; rfl, RK.Same.updL (e.trans e4) hD, fun m u hu => ?_⟩
    by_cases hm : m < acc.length
    · rw [List.getElem?_append_left hm] at hu
      exact mono m u H4 _ (SameT.upd h3) (mono m u G H4 (.of e4) (hp m u hu))
    · rw [List.getElem?_append_right (by omega)] at hu
      have em : m = acc.length := by
        have := (List.getElem?_eq_some_iff.mp hu).1
        simp at this
        omega
      subst em
      simp at hu
      subst hu
      exact mono _ _ H4 _ (SameT.upd h3) (by rw [h2]; exact pv)
  · rintro G ⟨acc, h1, h2, e, hp⟩
    exact k D acc G hD e h1 h2 hp
theorem cut1 (xs : List V) : cutV xs (some 1) none = xs.drop 1 := by
  unfold cutV
  rw [show (some (1 : Int)) = some ((1 : Nat) : Int) from rfl, HT.sIx_nat, HT.sIx_none]
  cases xs with
  | nil => rfl
  | cons x r =>
    rw [show min 1 (x :: r).length = 1 from by rw [List.length_cons]; omega]
    simp
def LcT (K : PySem.W.Frag) (g : TG) (tt : TT) (te : TE) (vs : List Nat) (σ : L2.St) (x : V) (H : Hp) (Q : VK) : Prop := ∃ a, x = .ref a ∧ (∃ xs, SqT K H a xs) ∧ ∀ D, H D = none → ∃ W : Nat → Nat → Hp → Prop, (∃ m, W 0 m (upd H D (.lst []))) ∧ ∀ i m G, W i m G →
  ((Itt K a).stop i G ∧ Q (.ref D) G) ∨ ((Itt K a).go i G ∧ ∃ Nx : Hp → Prop, (∀ G', Nx G' → ∃ m', m' < m ∧ W (i + 1) m' G') ∧ ∀ y G', (Itt K a).yld i G y G' → g y (wipe σ vs) G' fun σ2 H2 => wipe σ2 vs = wipe σ vs ∧ tt σ2 H2 fun b H3 =>
    if b = true then te σ2 H3 fun y H4 => ∃ acc, H4 D = some (.lst acc) ∧ acc.length < sizeLine ∧ Nx (upd H4 D (.lst (acc ++ [y]))) else Nx H3)
theorem w_lcT {tl : TE} {tt : TT} (h : tl σ H fun x H1 => LcT K g tt te vs σ x H1 Q) : tLc (iTup K tl) g tt te vs σ H Q := h
theorem lcT_leaf {l : Addr} {xs : List V} (P : Nat → V → Hp → Prop) (mono : ∀ i v H H', SameT H H' → P i v H → P i v H') (hl : SqT K H l xs) (hlen : xs.length ≤ 1000)
    (he : ∀ (i : Nat) (x : V) (H' : Hp), xs[i]? = some x → Same H H' → ∀ Q' : VK, (∀ v H'', Same H' H'' → P i v H'' → Q' v H'') → g x (wipe σ vs) H' fun σ2 H2 => wipe σ2 vs = wipe σ vs ∧ te σ2 H2 Q')
    (k : ∀ D ys H', H D = none → Same H H' → H' D = some (.lst ys) → ys.length = xs.length → (∀ i v, ys[i]? = some v → P i v H') → Q (.ref D) H') : LcT K g tYes te vs σ (.ref l) H Q := ⟨l, rfl, ⟨_, hl⟩, lc_mapT P mono hl hlen he k⟩
theorem lcL_leaf {l : Addr} {xs : List V} (P : Nat → V → Hp → Prop) (mono : ∀ i v H H', SameT H H' → P i v H → P i v H') (hl : SqL K H l xs) (hlen : xs.length ≤ 1000)
    (he : ∀ (i : Nat) (x : V) (H' : Hp), xs[i]? = some x → Same H H' → ∀ Q' : VK, (∀ v H'', Same H' H'' → P i v H'' → Q' v H'') → g x (wipe σ vs) H' fun σ2 H2 => wipe σ2 vs = wipe σ vs ∧ te σ2 H2 Q')
    (k : ∀ D ys H', H D = none → Same H H' → H' D = some (.lst ys) → ys.length = xs.length → (∀ i v, ys[i]? = some v → P i v H') → Q (.ref D) H') : LcS K g tYes te vs σ (.ref l) H Q := ⟨l, rfl, ⟨_, hl⟩, lc_mapL P mono hl hlen he k⟩
/-- a list of truths -/
theorem all_P {D : Addr} {ys : List V} (h : H D = some (.lst ys)) (hP : ∀ (i : Nat) (v : V), ys[i]? = some v → v = .bl true) (q : Q (.bl true) H) : rAll K [.ref D] H Q := by
  have e : ys = List.replicate ys.length (.bl true) := List.eq_replicate_iff.mpr ⟨rfl, fun b hb => by obtain ⟨i, hi⟩ := List.mem_iff_getElem?.mp hb; exact hP i b hi⟩
  rw [e] at h
  exact all_rep h q
theorem tyT {t : Addr} {xs : List V} (h : SqT K H t xs) : TyX K H (.ref t) (.type "tuple") := by
  rcases h with (h | ⟨o, h⟩) | ⟨o, its, n, h1, h2, _⟩
  · exact .base (.tup h)
  · exact .fTuple h
  · exact .kTuple h1 h2
def CmpAt (g : TG) (tt : TT) (te : TE) (vs : List Nat) (σ : L2.St) (Q : VK) (J : It) (H : Hp) : Prop := ∀ D, H D = none → ∃ W : Nat → Nat → Hp → Prop, (∃ m, W 0 m (upd H D (.lst []))) ∧ ∀ i m G, W i m G →
  (J.stop i G ∧ Q (.ref D) G) ∨ (J.go i G ∧ ∃ Nx : Hp → Prop, (∀ G', Nx G' → ∃ m', m' < m ∧ W (i + 1) m' G') ∧ ∀ y G', J.yld i G y G' → g y (wipe σ vs) G' fun σ2 H2 => wipe σ2 vs = wipe σ vs ∧ tt σ2 H2 fun b H3 =>
    if b = true then te σ2 H3 fun y H4 => ∃ acc, H4 D = some (.lst acc) ∧ acc.length < sizeLine ∧ Nx (upd H4 D (.lst (acc ++ [y]))) else Nx H3)
def ZpL (K : PySem.W.Frag) (g : TG) (tt : TT) (te : TE) (vs : List Nat) (σ : L2.St) (us : List V) (H : Hp) (Q : VK) : Prop :=
  ∃ a b xs ys, us = [V.ref a, .ref b] ∧ ((SqL K H a xs ∧ SqL K H b ys ∧ CmpAt g tt te vs σ Q (Itz K a b) H) ∨ (SqT K H a xs ∧ SqT K H b ys ∧ CmpAt g tt te vs σ Q (ItzT K a b) H))
theorem w_zip {ta : TA} {tt : TT} (h : ta σ H fun us H1 => ZpL K g tt te vs σ us H1 Q) : tLc (iZipA K ta) g tt te vs σ H Q := h
/-- [f(x, y) for x, y in zip(a, b)], all true, a and b tuples -/
theorem zip_leaf {i j : Nat} {a b : Addr} {xs ys : List V} (ha : SqT K H a xs) (hb : SqT K H b ys) (hlen : xs.length ≤ 1000)
    (he : ∀ (n : Nat) (x y : V) (H' : Hp), xs[n]? = some x → ys[n]? = some y → Same H H' → wipe (((wipe σ vs).set i (some x)).set j (some y)) vs = wipe σ vs ∧ ∀ Q' : VK, (∀ H'', Same H' H'' → Q' (.bl true) H'') → te (((wipe σ vs).set i (some x)).set j (some y)) H' Q')
    (k : ∀ D zs H', H D = none → Same H H' → H' D = some (.lst zs) → (∀ (n : Nat) (v : V), zs[n]? = some v → v = .bl true) → Q (.ref D) H') : ZpL K (gTup K 2 (gCons (gName i) (gCons (gName j) gNil))) tYes te vs σ [.ref a, .ref b] H Q := by
  refine ⟨a, b, xs, ys, rfl, .inr ⟨ha, hb, fun D hD => ?_⟩⟩
  refine ⟨fun n m G => m = xs.length - n ∧ n ≤ xs.length ∧ Same H G ∧ G D = some (.lst (List.replicate n (.bl true))), ⟨_, rfl, Nat.zero_le _, w_new hD, upd_same⟩, ?_⟩
  rintro n m G ⟨rfl, hn, e, hG⟩
  have ha' := seqT_same e ha
  have hb' := seqT_same e hb
  have stop : n = xs.length ∨ ys.length ≤ n → (ItzT K a b).stop n G ∧ Q (.ref D) G := fun h => ⟨⟨xs, ys, ha', hb', h.imp (fun z => Nat.le_of_eq z.symm) id⟩, k D _ G hD e hG fun n v hv => by
    have := List.mem_of_getElem? hv
    exact (List.mem_replicate.mp this).2⟩
  by_cases h1 : n < xs.length
  · by_cases h2 : n < ys.length
    · have hx : xs[n]? = some xs[n] := List.getElem?_eq_getElem h1
      have hy : ys[n]? = some ys[n] := List.getElem?_eq_getElem h2
      refine .inr ⟨⟨xs, ys, _, _, ha', hb', hx, hy⟩, fun G' => Same H G' ∧ G' D = some (.lst (List.replicate (n + 1) (.bl true))), fun G' hq => ⟨_, by omega, rfl, h1, hq.1, hq.2⟩, fun v G' hq => ?_⟩
      obtain ⟨T, x', y', rfl, hT, rfl, f1, f2⟩ := hq
      have eT := w_new (o := .tup [x', y']) hT
      have e' := e.trans eT
      obtain ⟨w1, w2⟩ := he n x' y' _ (f1 xs ha') (f2 ys hb') e'
      refine ⟨T, [x', y'], rfl, SqT.of upd_same, rfl, x', [y'], rfl, y', [], rfl, rfl, w1, ?_⟩
      refine w_yes ?_
      rw [if_pos rfl]
      refine w2 _ fun G2 e2 => ?_
      have hG2 : G2 D = some (.lst (List.replicate n (.bl true))) := e2 _ _ (eT _ _ hG)
      exact ⟨_, hG2, by rw [List.length_replicate]; exact Nat.lt_of_lt_of_le (show n < 1001 by omega) (by decide), RK.Same.updL (e'.trans e2) hD, by rw [upd_same, List.replicate_succ']⟩
    · exact .inl (stop (.inr (by omega)))
  · exact .inl (stop (.inl (by omega)))
/-- a pair, taken apart into two slots -/
theorem g_two {i j : Nat} {q : Addr} {x y : V} {Q : L2.St → Hp → Prop} (h : H q = some (.tup [x, y])) (k : Q ((σ.set i (some x)).set j (some y)) H) : gTup K 2 (gCons (gName i) (gCons (gName j) gNil)) (.ref q) σ H Q :=
  ⟨q, [x, y], rfl, SqT.of h, rfl, x, [y], rfl, y, [], rfl, rfl, k⟩
theorem eq_map {α : Type} {ys : List V} {ps : List α} (f : α → V) (hl : ys.length = ps.length) (h : ∀ (i : Nat) (v : V), ys[i]? = some v → ∃ p, ps[i]? = some p ∧ v = f p) : ys = ps.map f := by
  refine List.ext_getElem? fun i => ?_
  rw [List.getElem?_map]
  cases e : ys[i]? with
  | none =>
    have := List.getElem?_eq_none_iff.mp e
    rw [List.getElem?_eq_none_iff.mpr (by omega)]
    rfl
  | some v =>
    obtain ⟨p, hp, rfl⟩ := h i v e
    rw [hp]
    rfl
theorem sum_le {α : Type} {l : List α} {f : α → Nat} {b : Nat} (h : ∀ x ∈ l, f x ≤ b) : (l.map f).sum ≤ l.length * b := by
  induction l with
  | nil => simp
  | cons x r ih =>
    rw [List.map_cons, List.sum_cons, List.length_cons, Nat.add_mul, Nat.one_mul]
    have h1 := h x List.mem_cons_self
    have h2 := ih fun y hy => h y (List.mem_cons_of_mem _ hy)
    omega
/-- a list whose items stand at addresses of a kind -/
theorem refs_of {α : Type} {ys : List V} {ps : List α} {R : Addr → α → Prop} (hl : ys.length = ps.length) (h : ∀ (i : Nat) (v : V), ys[i]? = some v → ∃ q u, ps[i]? = some u ∧ v = .ref q ∧ R q u) : ∃ as : List Addr, ys = as.map V.ref ∧ as.length = ps.length ∧ ∀ (i : Nat) (q : Addr) (u : α), as[i]? = some q → ps[i]? = some u → R q u := by
  induction ys generalizing ps with
  | nil => exact ⟨[], rfl, hl, fun i q u a => by simp at a⟩
  | cons y r ih =>
    cases ps with
    | nil => cases hl
    | cons p ps =>
      obtain ⟨q0, u0, e1, rfl, e2⟩ := h 0 y rfl
      cases e1
      obtain ⟨as, rfl, e3, e4⟩ := ih (ps := ps) (by simpa using hl) fun i v hv => h (i + 1) v hv
      refine ⟨q0 :: as, rfl, by rw [List.length_cons, List.length_cons, e3], fun i q u a b => ?_⟩
      cases i with
      | zero =>
        cases a
        cases b
        exact e2
      | succ j => exact e4 j q u a b
end
end RK

namespace RK4
open PySem PySem.Spec L2 RK RZ StX
def top (i : Nat) : Stmt := PySem.Challenge.pw_slackstrings_k04_forms_reckoned.main.body.getD i (.Pass ⟨0, 0, 0, 0⟩)
abbrev s_is_whole : Stmt := top 9
theorem sc_is_whole : FnScope ["value"] ["value"] (defScope s_is_whole) := ⟨rfl, rfl, rfl, by decide +kernel, rfl, by decide +kernel, by decide +kernel⟩
abbrev s_is_small_letter : Stmt := top 10
theorem sc_is_small_letter : FnScope ["value"] ["value"] (defScope s_is_small_letter) := ⟨rfl, rfl, rfl, by decide +kernel, rfl, by decide +kernel, by decide +kernel⟩
abbrev s_Ratio_init : Stmt := inClass (top 12) 0
theorem sc_Ratio_init : FnScope ["self", "top", "bottom", "shared"] ["self", "top", "bottom"] (defScope s_Ratio_init) := ⟨rfl, rfl, rfl, by decide +kernel, rfl, by decide +kernel, by decide +kernel⟩
abbrev s_Ratio_eq : Stmt := inClass (top 12) 1
theorem sc_Ratio_eq : FnScope ["self", "other", "beside"] ["self", "other"] (defScope s_Ratio_eq) := ⟨rfl, rfl, rfl, by decide +kernel, rfl, by decide +kernel, by decide +kernel⟩
abbrev s_Ratio_add : Stmt := inClass (top 12) 4
theorem sc_Ratio_add : FnScope ["self", "other", "beside"] ["self", "other"] (defScope s_Ratio_add) := ⟨rfl, rfl, rfl, by decide +kernel, rfl, by decide +kernel, by decide +kernel⟩
abbrev s_Ratio_radd : Stmt := inClass (top 12) 5
theorem sc_Ratio_radd : FnScope ["self", "other"] ["self", "other"] (defScope s_Ratio_radd) := ⟨rfl, rfl, rfl, by decide +kernel, rfl, by decide +kernel, by decide +kernel⟩
abbrev s_Ratio_mul : Stmt := inClass (top 12) 8
theorem sc_Ratio_mul : FnScope ["self", "other", "beside"] ["self", "other"] (defScope s_Ratio_mul) := ⟨rfl, rfl, rfl, by decide +kernel, rfl, by decide +kernel, by decide +kernel⟩
abbrev s_Ratio_rmul : Stmt := inClass (top 12) 9
theorem sc_Ratio_rmul : FnScope ["self", "other"] ["self", "other"] (defScope s_Ratio_rmul) := ⟨rfl, rfl, rfl, by decide +kernel, rfl, by decide +kernel, by decide +kernel⟩
abbrev s_is_fraction : Stmt := top 13
theorem sc_is_fraction : FnScope ["value"] ["value"] (defScope s_is_fraction) := ⟨rfl, rfl, rfl, by decide +kernel, rfl, by decide +kernel, by decide +kernel⟩
abbrev s_as_ratio : Stmt := top 14
theorem sc_as_ratio : FnScope ["fraction"] ["fraction"] (defScope s_as_ratio) := ⟨rfl, rfl, rfl, by decide +kernel, rfl, by decide +kernel, by decide +kernel⟩
abbrev s_is_length : Stmt := top 18
theorem sc_is_length : FnScope ["value"] ["value"] (defScope s_is_length) := ⟨rfl, rfl, rfl, by decide +kernel, rfl, by decide +kernel, by decide +kernel⟩
abbrev s_are_lengths_for : Stmt := top 19
theorem sc_are_lengths_for : FnScope ["value", "names", "name", "length"] ["value", "names"] (defScope s_are_lengths_for) := ⟨rfl, rfl, rfl, by decide +kernel, rfl, by decide +kernel, by decide +kernel⟩
abbrev s_Form_init : Stmt := inClass (top 21) 0
theorem sc_Form_init : FnScope ["self", "constant", "terms", "name", "_"] ["self", "constant", "terms"] (defScope s_Form_init) := ⟨rfl, rfl, rfl, by decide +kernel, rfl, by decide +kernel, by decide +kernel⟩
abbrev s_Form_eq : Stmt := inClass (top 21) 1
theorem sc_Form_eq : FnScope ["self", "other"] ["self", "other"] (defScope s_Form_eq) := ⟨rfl, rfl, rfl, by decide +kernel, rfl, by decide +kernel, by decide +kernel⟩
abbrev s_Form_neg : Stmt := inClass (top 21) 3
theorem sc_Form_neg : FnScope ["self"] ["self"] (defScope s_Form_neg) := ⟨rfl, rfl, rfl, by decide +kernel, rfl, by decide +kernel, by decide +kernel⟩
abbrev s_Form_add : Stmt := inClass (top 21) 4
theorem sc_Form_add : FnScope ["self", "other"] ["self", "other"] (defScope s_Form_add) := ⟨rfl, rfl, rfl, by decide +kernel, rfl, by decide +kernel, by decide +kernel⟩
abbrev s_Form_sub : Stmt := inClass (top 21) 5
theorem sc_Form_sub : FnScope ["self", "other"] ["self", "other"] (defScope s_Form_sub) := ⟨rfl, rfl, rfl, by decide +kernel, rfl, by decide +kernel, by decide +kernel⟩
abbrev s_Form_mul : Stmt := inClass (top 21) 6
theorem sc_Form_mul : FnScope ["self", "other", "name", "number"] ["self", "other"] (defScope s_Form_mul) := ⟨rfl, rfl, rfl, by decide +kernel, rfl, by decide +kernel, by decide +kernel⟩
abbrev s_Form_at : Stmt := inClass (top 21) 7
theorem sc_Form_at : FnScope ["self", "lengths", "found", "name", "number"] ["self", "lengths"] (defScope s_Form_at) := ⟨rfl, rfl, rfl, by decide +kernel, rfl, by decide +kernel, by decide +kernel⟩
abbrev s_are_terms : Stmt := top 22
theorem sc_are_terms : FnScope ["value", "term", "one", "other"] ["value"] (defScope s_are_terms) := ⟨rfl, rfl, rfl, by decide +kernel, rfl, by decide +kernel, by decide +kernel⟩
abbrev s_is_term : Stmt := top 23
theorem sc_is_term : FnScope ["value"] ["value"] (defScope s_is_term) := ⟨rfl, rfl, rfl, by decide +kernel, rfl, by decide +kernel, by decide +kernel⟩
abbrev s_summed_terms : Stmt := top 24
theorem sc_summed_terms : FnScope ["terms", "others", "numbers", "name", "number"] ["terms", "others"] (defScope s_summed_terms) := ⟨rfl, rfl, rfl, by decide +kernel, rfl, by decide +kernel, by decide +kernel⟩
abbrev s_bag : Stmt := top 29
theorem sc_bag : FnScope ["_law_cells", "_law_k", "_law_cell", "_law_seed", "_law_this", "_law_figures"] ["_law_cells", "_law_k"] (defScope s_bag) := ⟨rfl, rfl, rfl, by decide +kernel, rfl, by decide +kernel, by decide +kernel⟩
abbrev s_draw : Stmt := top 30
theorem sc_draw : FnScope ["_law_bag_here", "_law_wide", "_law_figure", "_law_held", "_law_times"] ["_law_bag_here", "_law_wide"] (defScope s_draw) := ⟨rfl, rfl, rfl, by decide +kernel, rfl, by decide +kernel, by decide +kernel⟩
abbrev s_one : Stmt := top 31
theorem sc_one : FnScope ["_law_bag_here", "_law_some"] ["_law_bag_here", "_law_some"] (defScope s_one) := ⟨rfl, rfl, rfl, by decide +kernel, rfl, by decide +kernel, by decide +kernel⟩
abbrev s_drawn : Stmt := top 32
theorem sc_drawn : FnScope ["_law_bag_here", "_law_numbers", "_law_turn", "_law_size_here"] ["_law_bag_here"] (defScope s_drawn) := ⟨rfl, rfl, rfl, by decide +kernel, rfl, by decide +kernel, by decide +kernel⟩
abbrev s_pairs : Stmt := top 33
theorem sc_pairs : FnScope ["_law_numbers", "_law_each"] ["_law_numbers"] (defScope s_pairs) := ⟨rfl, rfl, rfl, by decide +kernel, rfl, by decide +kernel, by decide +kernel⟩
abbrev s_shown : Stmt := top 34
theorem sc_shown : FnScope ["_law_made"] ["_law_made"] (defScope s_shown) := ⟨rfl, rfl, rfl, by decide +kernel, rfl, by decide +kernel, by decide +kernel⟩
abbrev s_due : Stmt := top 35
theorem sc_due : FnScope ["_law_first", "_law_numbers", "_law_pairs_here", "_law_pair"] ["_law_first", "_law_numbers"] (defScope s_due) := ⟨rfl, rfl, rfl, by decide +kernel, rfl, by decide +kernel, by decide +kernel⟩
abbrev s_added : Stmt := top 36
theorem sc_added : FnScope ["_law_one_here", "_law_two", "_law_by", "_law_found", "_law_each"] ["_law_one_here", "_law_two", "_law_by"] (defScope s_added) := ⟨rfl, rfl, rfl, by decide +kernel, rfl, by decide +kernel, by decide +kernel⟩
abbrev s_right : Stmt := top 37
theorem sc_right : FnScope ["_law_bag_here", "_law_turn", "_law_one_here", "_law_two", "_law_by", "_law_mine", "_law_mate", "_law_found", "_law_due_here", "_law_alike_here", "_law_longs", "_law_worth_here", "_law_each", "_law_sixths"] ["_law_bag_here"] (defScope s_right) := ⟨rfl, rfl, rfl, by decide +kernel, rfl, by decide +kernel, by decide +kernel⟩
abbrev s_law : Stmt := top 38
theorem sc_law : FnScope ["_law_cells", "_law_k"] ["_law_cells"] (defScope s_law) := ⟨rfl, rfl, rfl, by decide +kernel, rfl, by decide +kernel, by decide +kernel⟩
structure Ad where
  E0 : Addr
  C_Ratio : Addr
  C_Form : Addr
  f_is_whole : Addr
  d_is_whole : FuncData
  f_is_small_letter : Addr
  d_is_small_letter : FuncData
  f_Ratio_init : Addr
  d_Ratio_init : FuncData
  f_Ratio_eq : Addr
  d_Ratio_eq : FuncData
  f_Ratio_add : Addr
  d_Ratio_add : FuncData
  f_Ratio_radd : Addr
  d_Ratio_radd : FuncData
  f_Ratio_mul : Addr
  d_Ratio_mul : FuncData
  f_Ratio_rmul : Addr
  d_Ratio_rmul : FuncData
  f_is_fraction : Addr
  d_is_fraction : FuncData
  f_as_ratio : Addr
  d_as_ratio : FuncData
  f_is_length : Addr
  d_is_length : FuncData
  f_are_lengths_for : Addr
  d_are_lengths_for : FuncData
  f_Form_init : Addr
  d_Form_init : FuncData
  f_Form_eq : Addr
  d_Form_eq : FuncData
  f_Form_neg : Addr
  d_Form_neg : FuncData
  f_Form_add : Addr
  d_Form_add : FuncData
  f_Form_sub : Addr
  d_Form_sub : FuncData
  f_Form_mul : Addr
  d_Form_mul : FuncData
  f_Form_at : Addr
  d_Form_at : FuncData
  f_are_terms : Addr
  d_are_terms : FuncData
  f_is_term : Addr
  d_is_term : FuncData
  f_summed_terms : Addr
  d_summed_terms : FuncData
  f_bag : Addr
  d_bag : FuncData
  f_draw : Addr
  d_draw : FuncData
  f_one : Addr
  d_one : FuncData
  f_drawn : Addr
  d_drawn : FuncData
  f_pairs : Addr
  d_pairs : FuncData
  f_shown : Addr
  d_shown : FuncData
  f_due : Addr
  d_due : FuncData
  f_added : Addr
  d_added : FuncData
  f_right : Addr
  d_right : FuncData
  f_law : Addr
  d_law : FuncData

structure Txt (K : PySem.W.Frag) (mg : Str → Option Value) (a : Ad) : Prop where
  F_is_whole : Fun K "is_whole" "is_whole" s_is_whole a.f_is_whole a.d_is_whole
  b_is_whole : L2.Binds K a.d_is_whole ["value"] []
  m_is_whole : mg "is_whole" = some (.ref a.f_is_whole)
  F_is_small_letter : Fun K "is_small_letter" "is_small_letter" s_is_small_letter a.f_is_small_letter a.d_is_small_letter
  b_is_small_letter : L2.Binds K a.d_is_small_letter ["value"] []
  m_is_small_letter : mg "is_small_letter" = some (.ref a.f_is_small_letter)
  F_Ratio_init : FunD K "__init__" "Ratio.__init__" (defArgs s_Ratio_init) (defBody s_Ratio_init) (defScope s_Ratio_init) [.int 1] [] a.f_Ratio_init a.d_Ratio_init
  me_Ratio_init : Meth K a.C_Ratio "__init__" a.f_Ratio_init
  F_Ratio_eq : Fun K "__eq__" "Ratio.__eq__" s_Ratio_eq a.f_Ratio_eq a.d_Ratio_eq
  b_Ratio_eq : L2.Binds K a.d_Ratio_eq ["self", "other"] []
  me_Ratio_eq : Meth K a.C_Ratio "__eq__" a.f_Ratio_eq
  F_Ratio_add : Fun K "__add__" "Ratio.__add__" s_Ratio_add a.f_Ratio_add a.d_Ratio_add
  b_Ratio_add : L2.Binds K a.d_Ratio_add ["self", "other"] []
  me_Ratio_add : Meth K a.C_Ratio "__add__" a.f_Ratio_add
  F_Ratio_radd : Fun K "__radd__" "Ratio.__radd__" s_Ratio_radd a.f_Ratio_radd a.d_Ratio_radd
  b_Ratio_radd : L2.Binds K a.d_Ratio_radd ["self", "other"] []
  me_Ratio_radd : Meth K a.C_Ratio "__radd__" a.f_Ratio_radd
  F_Ratio_mul : Fun K "__mul__" "Ratio.__mul__" s_Ratio_mul a.f_Ratio_mul a.d_Ratio_mul
  b_Ratio_mul : L2.Binds K a.d_Ratio_mul ["self", "other"] []
  me_Ratio_mul : Meth K a.C_Ratio "__mul__" a.f_Ratio_mul
  F_Ratio_rmul : Fun K "__rmul__" "Ratio.__rmul__" s_Ratio_rmul a.f_Ratio_rmul a.d_Ratio_rmul
  b_Ratio_rmul : L2.Binds K a.d_Ratio_rmul ["self", "other"] []
  me_Ratio_rmul : Meth K a.C_Ratio "__rmul__" a.f_Ratio_rmul
  F_is_fraction : Fun K "is_fraction" "is_fraction" s_is_fraction a.f_is_fraction a.d_is_fraction
  b_is_fraction : L2.Binds K a.d_is_fraction ["value"] []
  m_is_fraction : mg "is_fraction" = some (.ref a.f_is_fraction)
  F_as_ratio : Fun K "as_ratio" "as_ratio" s_as_ratio a.f_as_ratio a.d_as_ratio
  b_as_ratio : L2.Binds K a.d_as_ratio ["fraction"] []
  m_as_ratio : mg "as_ratio" = some (.ref a.f_as_ratio)
  F_is_length : Fun K "is_length" "is_length" s_is_length a.f_is_length a.d_is_length
  b_is_length : L2.Binds K a.d_is_length ["value"] []
  m_is_length : mg "is_length" = some (.ref a.f_is_length)
  F_are_lengths_for : Fun K "are_lengths_for" "are_lengths_for" s_are_lengths_for a.f_are_lengths_for a.d_are_lengths_for
  b_are_lengths_for : L2.Binds K a.d_are_lengths_for ["value", "names"] []
  m_are_lengths_for : mg "are_lengths_for" = some (.ref a.f_are_lengths_for)
  F_Form_init : FunD K "__init__" "Form.__init__" (defArgs s_Form_init) (defBody s_Form_init) (defScope s_Form_init) [.int 0, .ref a.E0] [] a.f_Form_init a.d_Form_init
  me_Form_init : Meth K a.C_Form "__init__" a.f_Form_init
  F_Form_eq : Fun K "__eq__" "Form.__eq__" s_Form_eq a.f_Form_eq a.d_Form_eq
  b_Form_eq : L2.Binds K a.d_Form_eq ["self", "other"] []
  me_Form_eq : Meth K a.C_Form "__eq__" a.f_Form_eq
  F_Form_neg : Fun K "__neg__" "Form.__neg__" s_Form_neg a.f_Form_neg a.d_Form_neg
  b_Form_neg : L2.Binds K a.d_Form_neg ["self"] []
  me_Form_neg : Meth K a.C_Form "__neg__" a.f_Form_neg
  F_Form_add : Fun K "__add__" "Form.__add__" s_Form_add a.f_Form_add a.d_Form_add
  b_Form_add : L2.Binds K a.d_Form_add ["self", "other"] []
  me_Form_add : Meth K a.C_Form "__add__" a.f_Form_add
  F_Form_sub : Fun K "__sub__" "Form.__sub__" s_Form_sub a.f_Form_sub a.d_Form_sub
  b_Form_sub : L2.Binds K a.d_Form_sub ["self", "other"] []
  me_Form_sub : Meth K a.C_Form "__sub__" a.f_Form_sub
  F_Form_mul : Fun K "__mul__" "Form.__mul__" s_Form_mul a.f_Form_mul a.d_Form_mul
  b_Form_mul : L2.Binds K a.d_Form_mul ["self", "other"] []
  me_Form_mul : Meth K a.C_Form "__mul__" a.f_Form_mul
  F_Form_at : Fun K "at" "Form.at" s_Form_at a.f_Form_at a.d_Form_at
  b_Form_at : L2.Binds K a.d_Form_at ["self", "lengths"] []
  me_Form_at : Meth K a.C_Form "at" a.f_Form_at
  F_are_terms : Fun K "are_terms" "are_terms" s_are_terms a.f_are_terms a.d_are_terms
  b_are_terms : L2.Binds K a.d_are_terms ["value"] []
  m_are_terms : mg "are_terms" = some (.ref a.f_are_terms)
  F_is_term : Fun K "is_term" "is_term" s_is_term a.f_is_term a.d_is_term
  b_is_term : L2.Binds K a.d_is_term ["value"] []
  m_is_term : mg "is_term" = some (.ref a.f_is_term)
  F_summed_terms : Fun K "summed_terms" "summed_terms" s_summed_terms a.f_summed_terms a.d_summed_terms
  b_summed_terms : L2.Binds K a.d_summed_terms ["terms", "others"] []
  m_summed_terms : mg "summed_terms" = some (.ref a.f_summed_terms)
  F_bag : Fun K "_law_bag" "_law_bag" s_bag a.f_bag a.d_bag
  b_bag : L2.Binds K a.d_bag ["_law_cells", "_law_k"] []
  m_bag : mg "_law_bag" = some (.ref a.f_bag)
  F_draw : Fun K "_law_draw" "_law_draw" s_draw a.f_draw a.d_draw
  b_draw : L2.Binds K a.d_draw ["_law_bag_here", "_law_wide"] []
  m_draw : mg "_law_draw" = some (.ref a.f_draw)
  F_one : Fun K "_law_one" "_law_one" s_one a.f_one a.d_one
  b_one : L2.Binds K a.d_one ["_law_bag_here", "_law_some"] []
  m_one : mg "_law_one" = some (.ref a.f_one)
  F_drawn : Fun K "_law_drawn" "_law_drawn" s_drawn a.f_drawn a.d_drawn
  b_drawn : L2.Binds K a.d_drawn ["_law_bag_here"] []
  m_drawn : mg "_law_drawn" = some (.ref a.f_drawn)
  F_pairs : Fun K "_law_pairs" "_law_pairs" s_pairs a.f_pairs a.d_pairs
  b_pairs : L2.Binds K a.d_pairs ["_law_numbers"] []
  m_pairs : mg "_law_pairs" = some (.ref a.f_pairs)
  F_shown : Fun K "_law_shown" "_law_shown" s_shown a.f_shown a.d_shown
  b_shown : L2.Binds K a.d_shown ["_law_made"] []
  m_shown : mg "_law_shown" = some (.ref a.f_shown)
  F_due : Fun K "_law_due" "_law_due" s_due a.f_due a.d_due
  b_due : L2.Binds K a.d_due ["_law_first", "_law_numbers"] []
  m_due : mg "_law_due" = some (.ref a.f_due)
  F_added : Fun K "_law_added" "_law_added" s_added a.f_added a.d_added
  b_added : L2.Binds K a.d_added ["_law_one_here", "_law_two", "_law_by"] []
  m_added : mg "_law_added" = some (.ref a.f_added)
  F_right : Fun K "_law_right" "_law_right" s_right a.f_right a.d_right
  b_right : L2.Binds K a.d_right ["_law_bag_here"] []
  m_right : mg "_law_right" = some (.ref a.f_right)
  F_law : Fun K "law" "law" s_law a.f_law a.d_law
  b_law : L2.Binds K a.d_law ["_law_cells"] []
  m_law : mg "law" = some (.ref a.f_law)
  cl_Ratio : Cls K a.C_Ratio
  m_Ratio : mg "Ratio" = some (.ref a.C_Ratio)
  mk_Ratio : Mk K a.C_Ratio a.f_Ratio_init
  cl_Form : Cls K a.C_Form
  m_Form : mg "Form" = some (.ref a.C_Form)
  mk_Form : Mk K a.C_Form a.f_Form_init
  z_isinstance : mg "isinstance" = none
  z_int : mg "int" = none
  z_bool : mg "bool" = none
  z_len : mg "len" = none
  z_abs : mg "abs" = none
  z_range : mg "range" = none
  z_all : mg "all" = none
  z_max : mg "max" = none
  z_min : mg "min" = none
  z_str : mg "str" = none
  z_tuple : mg "tuple" = none
  z_zip : mg "zip" = none
  z_dict : mg "dict" = none
  z_list : mg "list" = none
  z_sorted : mg "sorted" = none
  m_gcd : mg "gcd" = some (.builtin "math.gcd")
  nT : NoAttr K a.C_Ratio "top"
  nB : NoAttr K a.C_Ratio "bottom"
  iA : PySem.W.findIn K (.ref a.C_Ratio) "__class__" = some (some (.builtin "object.__class__"))
  iN : PySem.W.specialIn K (.builtin "object.__class__") "__get__" = some (some (.builtin "getset_descriptor.__get__"))
  iT : PySem.W.takesIn K (.builtin "object.__class__") = some true
  iM : PySem.W.mroIn K a.C_Ratio (.type "object") = some true
  kRI : PySem.W.kitOne K (.ref a.C_Ratio) (.type "int") = some false
  kRR : PySem.W.kitOne K (.ref a.C_Ratio) (.ref a.C_Ratio) = some true
  kIR : PySem.W.kitOne K (.type "int") (.ref a.C_Ratio) = some false
  sf : PySem.W.selfFirst K a.C_Ratio = true
  ne : PySem.W.findIn K (.ref a.C_Ratio) "__ne__" = some (some (.builtin "object.__ne__"))
  ob : PySem.W.subIn K (.ref a.C_Ratio) (.type "object") = some true
  sRI : PySem.W.subIn K (.ref a.C_Ratio) (.type "int") = some false
  sIR : PySem.W.subIn K (.type "int") (.ref a.C_Ratio) = some false
  nfI : PySem.W.notFirst K a.C_Ratio (.type "int") = true
  nfR : PySem.W.notFirst K a.C_Ratio (.ref a.C_Ratio) = true
  iAdd : ∃ x, PySem.W.findIn K (.type "int") "__add__" = some x
  iRadd : ∃ x, PySem.W.findIn K (.type "int") "__radd__" = some x
  iSub : ∃ x, PySem.W.findIn K (.type "int") "__sub__" = some x
  iRsub : ∃ x, PySem.W.findIn K (.type "int") "__rsub__" = some x
  iMul : ∃ x, PySem.W.findIn K (.type "int") "__mul__" = some x
  iRmul : ∃ x, PySem.W.findIn K (.type "int") "__rmul__" = some x
  fC : NoAttr K a.C_Form "constant"
  fT : NoAttr K a.C_Form "terms"
  fN : NoAttr K a.C_Form "names"
  ff : PySem.W.selfFirst K a.C_Form = true
  fIF : PySem.W.subIn K (.type "int") (.ref a.C_Form) = some false
  fRA : PySem.W.findIn K (.ref a.C_Form) "__radd__" = some none
  fRS : PySem.W.findIn K (.ref a.C_Form) "__rsub__" = some none
  fRM : PySem.W.findIn K (.ref a.C_Form) "__rmul__" = some none
  fA : PySem.W.findIn K (.ref a.C_Form) "__class__" = some (some (.builtin "object.__class__"))
  fM : PySem.W.mroIn K a.C_Form (.type "object") = some true
  fFF : PySem.W.kitOne K (.ref a.C_Form) (.ref a.C_Form) = some true
  fFI : PySem.W.kitOne K (.ref a.C_Form) (.type "int") = some false
  fIFk : PySem.W.kitOne K (.type "int") (.ref a.C_Form) = some false
  fne : PySem.W.findIn K (.ref a.C_Form) "__ne__" = some (some (.builtin "object.__ne__"))
  fob : PySem.W.subIn K (.ref a.C_Form) (.type "object") = some true
  fFIs : PySem.W.subIn K (.ref a.C_Form) (.type "int") = some false
  ffI : PySem.W.notFirst K a.C_Form (.type "int") = true
  ffF : PySem.W.notFirst K a.C_Form (.ref a.C_Form) = true
  e0 : ∀ H, SqT K H a.E0 []

theorem all_mk {K : PySem.W.Frag} {h : Heap} {mg : Str → Option Value} (X : K.In h) (G : h.Ns mainGlobals mg)
    {E0 C_Ratio C_Form f_is_whole f_is_small_letter f_Ratio_init T_Ratio_init f_Ratio_eq f_Ratio_add f_Ratio_radd f_Ratio_mul f_Ratio_rmul f_is_fraction f_as_ratio f_is_length f_are_lengths_for f_Form_init T_Form_init f_Form_eq f_Form_neg f_Form_add f_Form_sub f_Form_mul f_Form_at f_are_terms f_is_term f_summed_terms f_bag f_draw f_one f_drawn f_pairs f_shown f_due f_added f_right f_law : Addr} {oc_is_whole kV_is_whole dc_is_whole pm_is_whole cd_is_whole ct_is_whole oc_is_small_letter kV_is_small_letter dc_is_small_letter pm_is_small_letter cd_is_small_letter ct_is_small_letter oc_Ratio_init kV_Ratio_init dc_Ratio_init pm_Ratio_init cd_Ratio_init ct_Ratio_init tc_Ratio_init oc_Ratio_eq kV_Ratio_eq dc_Ratio_eq pm_Ratio_eq cd_Ratio_eq ct_Ratio_eq oc_Ratio_add kV_Ratio_add dc_Ratio_add pm_Ratio_add cd_Ratio_add ct_Ratio_add oc_Ratio_radd kV_Ratio_radd dc_Ratio_radd pm_Ratio_radd cd_Ratio_radd ct_Ratio_radd oc_Ratio_mul kV_Ratio_mul dc_Ratio_mul pm_Ratio_mul cd_Ratio_mul ct_Ratio_mul oc_Ratio_rmul kV_Ratio_rmul dc_Ratio_rmul pm_Ratio_rmul cd_Ratio_rmul ct_Ratio_rmul oc_is_fraction kV_is_fraction dc_is_fraction pm_is_fraction cd_is_fraction ct_is_fraction oc_as_ratio kV_as_ratio dc_as_ratio pm_as_ratio cd_as_ratio ct_as_ratio oc_is_length kV_is_length dc_is_length pm_is_length cd_is_length ct_is_length oc_are_lengths_for kV_are_lengths_for dc_are_lengths_for pm_are_lengths_for cd_are_lengths_for ct_are_lengths_for oc_Form_init kV_Form_init dc_Form_init pm_Form_init cd_Form_init ct_Form_init tc_Form_init oc_Form_eq kV_Form_eq dc_Form_eq pm_Form_eq cd_Form_eq ct_Form_eq oc_Form_neg kV_Form_neg dc_Form_neg pm_Form_neg cd_Form_neg ct_Form_neg oc_Form_add kV_Form_add dc_Form_add pm_Form_add cd_Form_add ct_Form_add oc_Form_sub kV_Form_sub dc_Form_sub pm_Form_sub cd_Form_sub ct_Form_sub oc_Form_mul kV_Form_mul dc_Form_mul pm_Form_mul cd_Form_mul ct_Form_mul oc_Form_at kV_Form_at dc_Form_at pm_Form_at cd_Form_at ct_Form_at oc_are_terms kV_are_terms dc_are_terms pm_are_terms cd_are_terms ct_are_terms oc_is_term kV_is_term dc_is_term pm_is_term cd_is_term ct_is_term oc_summed_terms kV_summed_terms dc_summed_terms pm_summed_terms cd_summed_terms ct_summed_terms oc_bag kV_bag dc_bag pm_bag cd_bag ct_bag oc_draw kV_draw dc_draw pm_draw cd_draw ct_draw oc_one kV_one dc_one pm_one cd_one ct_one oc_drawn kV_drawn dc_drawn pm_drawn cd_drawn ct_drawn oc_pairs kV_pairs dc_pairs pm_pairs cd_pairs ct_pairs oc_shown kV_shown dc_shown pm_shown cd_shown ct_shown oc_due kV_due dc_due pm_due cd_due ct_due oc_added kV_added dc_added pm_added cd_added ct_added oc_right kV_right dc_right pm_right cd_right ct_right oc_law kV_law dc_law pm_law cd_law ct_law : Value} {od_is_whole an_is_whole od_is_small_letter an_is_small_letter od_Ratio_init an_Ratio_init td_Ratio_init od_Ratio_eq an_Ratio_eq od_Ratio_add an_Ratio_add od_Ratio_radd an_Ratio_radd od_Ratio_mul an_Ratio_mul od_Ratio_rmul an_Ratio_rmul od_is_fraction an_is_fraction od_as_ratio an_as_ratio od_is_length an_is_length od_are_lengths_for an_are_lengths_for od_Form_init an_Form_init td_Form_init od_Form_eq an_Form_eq od_Form_neg an_Form_neg od_Form_add an_Form_add od_Form_sub an_Form_sub od_Form_mul an_Form_mul od_Form_at an_Form_at od_are_terms an_are_terms od_is_term an_is_term od_summed_terms an_summed_terms od_bag an_bag od_draw an_draw od_one an_one od_drawn an_drawn od_pairs an_pairs od_shown an_shown od_due an_due od_added an_added od_right an_right od_law an_law : Option Addr} {sl_is_whole sl_is_small_letter sl_Ratio_init ts_Ratio_init sl_Ratio_eq sl_Ratio_add sl_Ratio_radd sl_Ratio_mul sl_Ratio_rmul sl_is_fraction sl_as_ratio sl_is_length sl_are_lengths_for sl_Form_init ts_Form_init sl_Form_eq sl_Form_neg sl_Form_add sl_Form_sub sl_Form_mul sl_Form_at sl_are_terms sl_is_term sl_summed_terms sl_bag sl_draw sl_one sl_drawn sl_pairs sl_shown sl_due sl_added sl_right sl_law : Array (Option Value)} {tk0 tk1 : Tok} {tn_Ratio_init tn_Form_init : Nat} {xiAdd xiRadd xiSub xiRsub xiMul xiRmul : Option Value} {de0 : Option Addr} {ne0 : Nat} {sle0 : Array (Option Value)}
    (aC_Ratio : PySem.W.nsIn K mainGlobals "Ratio" = some (some (.ref C_Ratio)))
    (pg_Ratio : PySem.W.plainGet K C_Ratio Str.empty = true)
    (hd_Ratio : PySem.W.hasDictIn K C_Ratio = true)
    (po_Ratio : PySem.W.plainOver K C_Ratio = true)
    (sa_Ratio : PySem.W.findIn K (.ref C_Ratio) "__setattr__" = some (some (.builtin "object.__setattr__")))
    (mk_Ratio : PySem.W.makesIn K C_Ratio = true)
    (kc_Ratio : PySem.W.keepIn K (.ref C_Ratio) = true)
    (aC_Form : PySem.W.nsIn K mainGlobals "Form" = some (some (.ref C_Form)))
    (pg_Form : PySem.W.plainGet K C_Form Str.empty = true)
    (hd_Form : PySem.W.hasDictIn K C_Form = true)
    (po_Form : PySem.W.plainOver K C_Form = true)
    (sa_Form : PySem.W.findIn K (.ref C_Form) "__setattr__" = some (some (.builtin "object.__setattr__")))
    (mk_Form : PySem.W.makesIn K C_Form = true)
    (kc_Form : PySem.W.keepIn K (.ref C_Form) = true)
    (a_is_whole : PySem.W.nsIn K mainGlobals "is_whole" = some (some (.ref f_is_whole)))
    (l_is_whole : K.lookup f_is_whole = some ⟨oc_is_whole, od_is_whole, .func (PySem.W.fnOf "is_whole" "is_whole" (defArgs s_is_whole) (defBody s_is_whole) (defScope s_is_whole) .none kV_is_whole dc_is_whole pm_is_whole an_is_whole cd_is_whole ct_is_whole), sl_is_whole⟩) (c_is_whole : PySem.W.codeIn K cd_is_whole "is_whole" = true) (k_is_whole : PySem.W.keepIn K (.ref f_is_whole) = true)
    (a_is_small_letter : PySem.W.nsIn K mainGlobals "is_small_letter" = some (some (.ref f_is_small_letter)))
    (l_is_small_letter : K.lookup f_is_small_letter = some ⟨oc_is_small_letter, od_is_small_letter, .func (PySem.W.fnOf "is_small_letter" "is_small_letter" (defArgs s_is_small_letter) (defBody s_is_small_letter) (defScope s_is_small_letter) .none kV_is_small_letter dc_is_small_letter pm_is_small_letter an_is_small_letter cd_is_small_letter ct_is_small_letter), sl_is_small_letter⟩) (c_is_small_letter : PySem.W.codeIn K cd_is_small_letter "is_small_letter" = true) (k_is_small_letter : PySem.W.keepIn K (.ref f_is_small_letter) = true)
    (a_Ratio_init : PySem.W.findIn K (.ref C_Ratio) "__init__" = some (some (.ref f_Ratio_init))) (i_Ratio_init : PySem.W.isFn K (.ref f_Ratio_init) = true)
    (l_Ratio_init : K.lookup f_Ratio_init = some ⟨oc_Ratio_init, od_Ratio_init, .func (PySem.W.fnOf "__init__" "Ratio.__init__" (defArgs s_Ratio_init) (defBody s_Ratio_init) (defScope s_Ratio_init) (.ref T_Ratio_init) kV_Ratio_init dc_Ratio_init pm_Ratio_init an_Ratio_init cd_Ratio_init ct_Ratio_init), sl_Ratio_init⟩) (c_Ratio_init : PySem.W.codeIn K cd_Ratio_init "Ratio.__init__" = true) (k_Ratio_init : PySem.W.keepIn K (.ref f_Ratio_init) = true)
    (t_Ratio_init : K.lookup T_Ratio_init = some ⟨tc_Ratio_init, td_Ratio_init, .seq #[.int 1 tk1] tn_Ratio_init, ts_Ratio_init⟩)
    (a_Ratio_eq : PySem.W.findIn K (.ref C_Ratio) "__eq__" = some (some (.ref f_Ratio_eq))) (i_Ratio_eq : PySem.W.isFn K (.ref f_Ratio_eq) = true)
    (l_Ratio_eq : K.lookup f_Ratio_eq = some ⟨oc_Ratio_eq, od_Ratio_eq, .func (PySem.W.fnOf "__eq__" "Ratio.__eq__" (defArgs s_Ratio_eq) (defBody s_Ratio_eq) (defScope s_Ratio_eq) .none kV_Ratio_eq dc_Ratio_eq pm_Ratio_eq an_Ratio_eq cd_Ratio_eq ct_Ratio_eq), sl_Ratio_eq⟩) (c_Ratio_eq : PySem.W.codeIn K cd_Ratio_eq "Ratio.__eq__" = true) (k_Ratio_eq : PySem.W.keepIn K (.ref f_Ratio_eq) = true)
    (a_Ratio_add : PySem.W.findIn K (.ref C_Ratio) "__add__" = some (some (.ref f_Ratio_add))) (i_Ratio_add : PySem.W.isFn K (.ref f_Ratio_add) = true)
    (l_Ratio_add : K.lookup f_Ratio_add = some ⟨oc_Ratio_add, od_Ratio_add, .func (PySem.W.fnOf "__add__" "Ratio.__add__" (defArgs s_Ratio_add) (defBody s_Ratio_add) (defScope s_Ratio_add) .none kV_Ratio_add dc_Ratio_add pm_Ratio_add an_Ratio_add cd_Ratio_add ct_Ratio_add), sl_Ratio_add⟩) (c_Ratio_add : PySem.W.codeIn K cd_Ratio_add "Ratio.__add__" = true) (k_Ratio_add : PySem.W.keepIn K (.ref f_Ratio_add) = true)
    (a_Ratio_radd : PySem.W.findIn K (.ref C_Ratio) "__radd__" = some (some (.ref f_Ratio_radd))) (i_Ratio_radd : PySem.W.isFn K (.ref f_Ratio_radd) = true)
    (l_Ratio_radd : K.lookup f_Ratio_radd = some ⟨oc_Ratio_radd, od_Ratio_radd, .func (PySem.W.fnOf "__radd__" "Ratio.__radd__" (defArgs s_Ratio_radd) (defBody s_Ratio_radd) (defScope s_Ratio_radd) .none kV_Ratio_radd dc_Ratio_radd pm_Ratio_radd an_Ratio_radd cd_Ratio_radd ct_Ratio_radd), sl_Ratio_radd⟩) (c_Ratio_radd : PySem.W.codeIn K cd_Ratio_radd "Ratio.__radd__" = true) (k_Ratio_radd : PySem.W.keepIn K (.ref f_Ratio_radd) = true)
    (a_Ratio_mul : PySem.W.findIn K (.ref C_Ratio) "__mul__" = some (some (.ref f_Ratio_mul))) (i_Ratio_mul : PySem.W.isFn K (.ref f_Ratio_mul) = true)
    (l_Ratio_mul : K.lookup f_Ratio_mul = some ⟨oc_Ratio_mul, od_Ratio_mul, .func (PySem.W.fnOf "__mul__" "Ratio.__mul__" (defArgs s_Ratio_mul) (defBody s_Ratio_mul) (defScope s_Ratio_mul) .none kV_Ratio_mul dc_Ratio_mul pm_Ratio_mul an_Ratio_mul cd_Ratio_mul ct_Ratio_mul), sl_Ratio_mul⟩) (c_Ratio_mul : PySem.W.codeIn K cd_Ratio_mul "Ratio.__mul__" = true) (k_Ratio_mul : PySem.W.keepIn K (.ref f_Ratio_mul) = true)
    (a_Ratio_rmul : PySem.W.findIn K (.ref C_Ratio) "__rmul__" = some (some (.ref f_Ratio_rmul))) (i_Ratio_rmul : PySem.W.isFn K (.ref f_Ratio_rmul) = true)
    (l_Ratio_rmul : K.lookup f_Ratio_rmul = some ⟨oc_Ratio_rmul, od_Ratio_rmul, .func (PySem.W.fnOf "__rmul__" "Ratio.__rmul__" (defArgs s_Ratio_rmul) (defBody s_Ratio_rmul) (defScope s_Ratio_rmul) .none kV_Ratio_rmul dc_Ratio_rmul pm_Ratio_rmul an_Ratio_rmul cd_Ratio_rmul ct_Ratio_rmul), sl_Ratio_rmul⟩) (c_Ratio_rmul : PySem.W.codeIn K cd_Ratio_rmul "Ratio.__rmul__" = true) (k_Ratio_rmul : PySem.W.keepIn K (.ref f_Ratio_rmul) = true)
    (a_is_fraction : PySem.W.nsIn K mainGlobals "is_fraction" = some (some (.ref f_is_fraction)))
    (l_is_fraction : K.lookup f_is_fraction = some ⟨oc_is_fraction, od_is_fraction, .func (PySem.W.fnOf "is_fraction" "is_fraction" (defArgs s_is_fraction) (defBody s_is_fraction) (defScope s_is_fraction) .none kV_is_fraction dc_is_fraction pm_is_fraction an_is_fraction cd_is_fraction ct_is_fraction), sl_is_fraction⟩) (c_is_fraction : PySem.W.codeIn K cd_is_fraction "is_fraction" = true) (k_is_fraction : PySem.W.keepIn K (.ref f_is_fraction) = true)
    (a_as_ratio : PySem.W.nsIn K mainGlobals "as_ratio" = some (some (.ref f_as_ratio)))
    (l_as_ratio : K.lookup f_as_ratio = some ⟨oc_as_ratio, od_as_ratio, .func (PySem.W.fnOf "as_ratio" "as_ratio" (defArgs s_as_ratio) (defBody s_as_ratio) (defScope s_as_ratio) .none kV_as_ratio dc_as_ratio pm_as_ratio an_as_ratio cd_as_ratio ct_as_ratio), sl_as_ratio⟩) (c_as_ratio : PySem.W.codeIn K cd_as_ratio "as_ratio" = true) (k_as_ratio : PySem.W.keepIn K (.ref f_as_ratio) = true)
    (a_is_length : PySem.W.nsIn K mainGlobals "is_length" = some (some (.ref f_is_length)))
    (l_is_length : K.lookup f_is_length = some ⟨oc_is_length, od_is_length, .func (PySem.W.fnOf "is_length" "is_length" (defArgs s_is_length) (defBody s_is_length) (defScope s_is_length) .none kV_is_length dc_is_length pm_is_length an_is_length cd_is_length ct_is_length), sl_is_length⟩) (c_is_length : PySem.W.codeIn K cd_is_length "is_length" = true) (k_is_length : PySem.W.keepIn K (.ref f_is_length) = true)
    (a_are_lengths_for : PySem.W.nsIn K mainGlobals "are_lengths_for" = some (some (.ref f_are_lengths_for)))
    (l_are_lengths_for : K.lookup f_are_lengths_for = some ⟨oc_are_lengths_for, od_are_lengths_for, .func (PySem.W.fnOf "are_lengths_for" "are_lengths_for" (defArgs s_are_lengths_for) (defBody s_are_lengths_for) (defScope s_are_lengths_for) .none kV_are_lengths_for dc_are_lengths_for pm_are_lengths_for an_are_lengths_for cd_are_lengths_for ct_are_lengths_for), sl_are_lengths_for⟩) (c_are_lengths_for : PySem.W.codeIn K cd_are_lengths_for "are_lengths_for" = true) (k_are_lengths_for : PySem.W.keepIn K (.ref f_are_lengths_for) = true)
    (a_Form_init : PySem.W.findIn K (.ref C_Form) "__init__" = some (some (.ref f_Form_init))) (i_Form_init : PySem.W.isFn K (.ref f_Form_init) = true)
    (l_Form_init : K.lookup f_Form_init = some ⟨oc_Form_init, od_Form_init, .func (PySem.W.fnOf "__init__" "Form.__init__" (defArgs s_Form_init) (defBody s_Form_init) (defScope s_Form_init) (.ref T_Form_init) kV_Form_init dc_Form_init pm_Form_init an_Form_init cd_Form_init ct_Form_init), sl_Form_init⟩) (c_Form_init : PySem.W.codeIn K cd_Form_init "Form.__init__" = true) (k_Form_init : PySem.W.keepIn K (.ref f_Form_init) = true)
    (t_Form_init : K.lookup T_Form_init = some ⟨tc_Form_init, td_Form_init, .seq #[.int 0 tk0, .ref E0] tn_Form_init, ts_Form_init⟩)
    (a_Form_eq : PySem.W.findIn K (.ref C_Form) "__eq__" = some (some (.ref f_Form_eq))) (i_Form_eq : PySem.W.isFn K (.ref f_Form_eq) = true)
    (l_Form_eq : K.lookup f_Form_eq = some ⟨oc_Form_eq, od_Form_eq, .func (PySem.W.fnOf "__eq__" "Form.__eq__" (defArgs s_Form_eq) (defBody s_Form_eq) (defScope s_Form_eq) .none kV_Form_eq dc_Form_eq pm_Form_eq an_Form_eq cd_Form_eq ct_Form_eq), sl_Form_eq⟩) (c_Form_eq : PySem.W.codeIn K cd_Form_eq "Form.__eq__" = true) (k_Form_eq : PySem.W.keepIn K (.ref f_Form_eq) = true)
    (a_Form_neg : PySem.W.findIn K (.ref C_Form) "__neg__" = some (some (.ref f_Form_neg))) (i_Form_neg : PySem.W.isFn K (.ref f_Form_neg) = true)
    (l_Form_neg : K.lookup f_Form_neg = some ⟨oc_Form_neg, od_Form_neg, .func (PySem.W.fnOf "__neg__" "Form.__neg__" (defArgs s_Form_neg) (defBody s_Form_neg) (defScope s_Form_neg) .none kV_Form_neg dc_Form_neg pm_Form_neg an_Form_neg cd_Form_neg ct_Form_neg), sl_Form_neg⟩) (c_Form_neg : PySem.W.codeIn K cd_Form_neg "Form.__neg__" = true) (k_Form_neg : PySem.W.keepIn K (.ref f_Form_neg) = true)
    (a_Form_add : PySem.W.findIn K (.ref C_Form) "__add__" = some (some (.ref f_Form_add))) (i_Form_add : PySem.W.isFn K (.ref f_Form_add) = true)
    (l_Form_add : K.lookup f_Form_add = some ⟨oc_Form_add, od_Form_add, .func (PySem.W.fnOf "__add__" "Form.__add__" (defArgs s_Form_add) (defBody s_Form_add) (defScope s_Form_add) .none kV_Form_add dc_Form_add pm_Form_add an_Form_add cd_Form_add ct_Form_add), sl_Form_add⟩) (c_Form_add : PySem.W.codeIn K cd_Form_add "Form.__add__" = true) (k_Form_add : PySem.W.keepIn K (.ref f_Form_add) = true)
    (a_Form_sub : PySem.W.findIn K (.ref C_Form) "__sub__" = some (some (.ref f_Form_sub))) (i_Form_sub : PySem.W.isFn K (.ref f_Form_sub) = true)
    (l_Form_sub : K.lookup f_Form_sub = some ⟨oc_Form_sub, od_Form_sub, .func (PySem.W.fnOf "__sub__" "Form.__sub__" (defArgs s_Form_sub) (defBody s_Form_sub) (defScope s_Form_sub) .none kV_Form_sub dc_Form_sub pm_Form_sub an_Form_sub cd_Form_sub ct_Form_sub), sl_Form_sub⟩) (c_Form_sub : PySem.W.codeIn K cd_Form_sub "Form.__sub__" = true) (k_Form_sub : PySem.W.keepIn K (.ref f_Form_sub) = true)
    (a_Form_mul : PySem.W.findIn K (.ref C_Form) "__mul__" = some (some (.ref f_Form_mul))) (i_Form_mul : PySem.W.isFn K (.ref f_Form_mul) = true)
    (l_Form_mul : K.lookup f_Form_mul = some ⟨oc_Form_mul, od_Form_mul, .func (PySem.W.fnOf "__mul__" "Form.__mul__" (defArgs s_Form_mul) (defBody s_Form_mul) (defScope s_Form_mul) .none kV_Form_mul dc_Form_mul pm_Form_mul an_Form_mul cd_Form_mul ct_Form_mul), sl_Form_mul⟩) (c_Form_mul : PySem.W.codeIn K cd_Form_mul "Form.__mul__" = true) (k_Form_mul : PySem.W.keepIn K (.ref f_Form_mul) = true)
    (a_Form_at : PySem.W.findIn K (.ref C_Form) "at" = some (some (.ref f_Form_at))) (i_Form_at : PySem.W.isFn K (.ref f_Form_at) = true)
    (l_Form_at : K.lookup f_Form_at = some ⟨oc_Form_at, od_Form_at, .func (PySem.W.fnOf "at" "Form.at" (defArgs s_Form_at) (defBody s_Form_at) (defScope s_Form_at) .none kV_Form_at dc_Form_at pm_Form_at an_Form_at cd_Form_at ct_Form_at), sl_Form_at⟩) (c_Form_at : PySem.W.codeIn K cd_Form_at "Form.at" = true) (k_Form_at : PySem.W.keepIn K (.ref f_Form_at) = true)
    (a_are_terms : PySem.W.nsIn K mainGlobals "are_terms" = some (some (.ref f_are_terms)))
    (l_are_terms : K.lookup f_are_terms = some ⟨oc_are_terms, od_are_terms, .func (PySem.W.fnOf "are_terms" "are_terms" (defArgs s_are_terms) (defBody s_are_terms) (defScope s_are_terms) .none kV_are_terms dc_are_terms pm_are_terms an_are_terms cd_are_terms ct_are_terms), sl_are_terms⟩) (c_are_terms : PySem.W.codeIn K cd_are_terms "are_terms" = true) (k_are_terms : PySem.W.keepIn K (.ref f_are_terms) = true)
    (a_is_term : PySem.W.nsIn K mainGlobals "is_term" = some (some (.ref f_is_term)))
    (l_is_term : K.lookup f_is_term = some ⟨oc_is_term, od_is_term, .func (PySem.W.fnOf "is_term" "is_term" (defArgs s_is_term) (defBody s_is_term) (defScope s_is_term) .none kV_is_term dc_is_term pm_is_term an_is_term cd_is_term ct_is_term), sl_is_term⟩) (c_is_term : PySem.W.codeIn K cd_is_term "is_term" = true) (k_is_term : PySem.W.keepIn K (.ref f_is_term) = true)
    (a_summed_terms : PySem.W.nsIn K mainGlobals "summed_terms" = some (some (.ref f_summed_terms)))
    (l_summed_terms : K.lookup f_summed_terms = some ⟨oc_summed_terms, od_summed_terms, .func (PySem.W.fnOf "summed_terms" "summed_terms" (defArgs s_summed_terms) (defBody s_summed_terms) (defScope s_summed_terms) .none kV_summed_terms dc_summed_terms pm_summed_terms an_summed_terms cd_summed_terms ct_summed_terms), sl_summed_terms⟩) (c_summed_terms : PySem.W.codeIn K cd_summed_terms "summed_terms" = true) (k_summed_terms : PySem.W.keepIn K (.ref f_summed_terms) = true)
    (a_bag : PySem.W.nsIn K mainGlobals "_law_bag" = some (some (.ref f_bag)))
    (l_bag : K.lookup f_bag = some ⟨oc_bag, od_bag, .func (PySem.W.fnOf "_law_bag" "_law_bag" (defArgs s_bag) (defBody s_bag) (defScope s_bag) .none kV_bag dc_bag pm_bag an_bag cd_bag ct_bag), sl_bag⟩) (c_bag : PySem.W.codeIn K cd_bag "_law_bag" = true) (k_bag : PySem.W.keepIn K (.ref f_bag) = true)
    (a_draw : PySem.W.nsIn K mainGlobals "_law_draw" = some (some (.ref f_draw)))
    (l_draw : K.lookup f_draw = some ⟨oc_draw, od_draw, .func (PySem.W.fnOf "_law_draw" "_law_draw" (defArgs s_draw) (defBody s_draw) (defScope s_draw) .none kV_draw dc_draw pm_draw an_draw cd_draw ct_draw), sl_draw⟩) (c_draw : PySem.W.codeIn K cd_draw "_law_draw" = true) (k_draw : PySem.W.keepIn K (.ref f_draw) = true)
    (a_one : PySem.W.nsIn K mainGlobals "_law_one" = some (some (.ref f_one)))
    (l_one : K.lookup f_one = some ⟨oc_one, od_one, .func (PySem.W.fnOf "_law_one" "_law_one" (defArgs s_one) (defBody s_one) (defScope s_one) .none kV_one dc_one pm_one an_one cd_one ct_one), sl_one⟩) (c_one : PySem.W.codeIn K cd_one "_law_one" = true) (k_one : PySem.W.keepIn K (.ref f_one) = true)
    (a_drawn : PySem.W.nsIn K mainGlobals "_law_drawn" = some (some (.ref f_drawn)))
    (l_drawn : K.lookup f_drawn = some ⟨oc_drawn, od_drawn, .func (PySem.W.fnOf "_law_drawn" "_law_drawn" (defArgs s_drawn) (defBody s_drawn) (defScope s_drawn) .none kV_drawn dc_drawn pm_drawn an_drawn cd_drawn ct_drawn), sl_drawn⟩) (c_drawn : PySem.W.codeIn K cd_drawn "_law_drawn" = true) (k_drawn : PySem.W.keepIn K (.ref f_drawn) = true)
    (a_pairs : PySem.W.nsIn K mainGlobals "_law_pairs" = some (some (.ref f_pairs)))
    (l_pairs : K.lookup f_pairs = some ⟨oc_pairs, od_pairs, .func (PySem.W.fnOf "_law_pairs" "_law_pairs" (defArgs s_pairs) (defBody s_pairs) (defScope s_pairs) .none kV_pairs dc_pairs pm_pairs an_pairs cd_pairs ct_pairs), sl_pairs⟩) (c_pairs : PySem.W.codeIn K cd_pairs "_law_pairs" = true) (k_pairs : PySem.W.keepIn K (.ref f_pairs) = true)
    (a_shown : PySem.W.nsIn K mainGlobals "_law_shown" = some (some (.ref f_shown)))
    (l_shown : K.lookup f_shown = some ⟨oc_shown, od_shown, .func (PySem.W.fnOf "_law_shown" "_law_shown" (defArgs s_shown) (defBody s_shown) (defScope s_shown) .none kV_shown dc_shown pm_shown an_shown cd_shown ct_shown), sl_shown⟩) (c_shown : PySem.W.codeIn K cd_shown "_law_shown" = true) (k_shown : PySem.W.keepIn K (.ref f_shown) = true)
    (a_due : PySem.W.nsIn K mainGlobals "_law_due" = some (some (.ref f_due)))
    (l_due : K.lookup f_due = some ⟨oc_due, od_due, .func (PySem.W.fnOf "_law_due" "_law_due" (defArgs s_due) (defBody s_due) (defScope s_due) .none kV_due dc_due pm_due an_due cd_due ct_due), sl_due⟩) (c_due : PySem.W.codeIn K cd_due "_law_due" = true) (k_due : PySem.W.keepIn K (.ref f_due) = true)
    (a_added : PySem.W.nsIn K mainGlobals "_law_added" = some (some (.ref f_added)))
    (l_added : K.lookup f_added = some ⟨oc_added, od_added, .func (PySem.W.fnOf "_law_added" "_law_added" (defArgs s_added) (defBody s_added) (defScope s_added) .none kV_added dc_added pm_added an_added cd_added ct_added), sl_added⟩) (c_added : PySem.W.codeIn K cd_added "_law_added" = true) (k_added : PySem.W.keepIn K (.ref f_added) = true)
    (a_right : PySem.W.nsIn K mainGlobals "_law_right" = some (some (.ref f_right)))
    (l_right : K.lookup f_right = some ⟨oc_right, od_right, .func (PySem.W.fnOf "_law_right" "_law_right" (defArgs s_right) (defBody s_right) (defScope s_right) .none kV_right dc_right pm_right an_right cd_right ct_right), sl_right⟩) (c_right : PySem.W.codeIn K cd_right "_law_right" = true) (k_right : PySem.W.keepIn K (.ref f_right) = true)
    (a_law : PySem.W.nsIn K mainGlobals "law" = some (some (.ref f_law)))
    (l_law : K.lookup f_law = some ⟨oc_law, od_law, .func (PySem.W.fnOf "law" "law" (defArgs s_law) (defBody s_law) (defScope s_law) .none kV_law dc_law pm_law an_law cd_law ct_law), sl_law⟩) (c_law : PySem.W.codeIn K cd_law "law" = true) (k_law : PySem.W.keepIn K (.ref f_law) = true)
    (z_isinstance : PySem.W.nsIn K mainGlobals "isinstance" = some none)
    (z_int : PySem.W.nsIn K mainGlobals "int" = some none)
    (z_bool : PySem.W.nsIn K mainGlobals "bool" = some none)
    (z_len : PySem.W.nsIn K mainGlobals "len" = some none)
    (z_abs : PySem.W.nsIn K mainGlobals "abs" = some none)
    (z_range : PySem.W.nsIn K mainGlobals "range" = some none)
    (z_all : PySem.W.nsIn K mainGlobals "all" = some none)
    (z_max : PySem.W.nsIn K mainGlobals "max" = some none)
    (z_min : PySem.W.nsIn K mainGlobals "min" = some none)
    (z_str : PySem.W.nsIn K mainGlobals "str" = some none)
    (z_tuple : PySem.W.nsIn K mainGlobals "tuple" = some none)
    (z_zip : PySem.W.nsIn K mainGlobals "zip" = some none)
    (z_dict : PySem.W.nsIn K mainGlobals "dict" = some none)
    (z_list : PySem.W.nsIn K mainGlobals "list" = some none)
    (z_sorted : PySem.W.nsIn K mainGlobals "sorted" = some none)
    (g_gcd : PySem.W.nsIn K mainGlobals "gcd" = some (some (.builtin "math.gcd")))
    (h_nT : PySem.W.findIn K (.ref C_Ratio) "top" = some none)
    (h_nB : PySem.W.findIn K (.ref C_Ratio) "bottom" = some none)
    (h_iA : PySem.W.findIn K (.ref C_Ratio) "__class__" = some (some (.builtin "object.__class__")))
    (h_iN : PySem.W.specialIn K (.builtin "object.__class__") "__get__" = some (some (.builtin "getset_descriptor.__get__")))
    (h_iT : PySem.W.takesIn K (.builtin "object.__class__") = some true)
    (h_iM : PySem.W.mroIn K C_Ratio (.type "object") = some true)
    (h_kRI : PySem.W.kitOne K (.ref C_Ratio) (.type "int") = some false)
    (h_kRR : PySem.W.kitOne K (.ref C_Ratio) (.ref C_Ratio) = some true)
    (h_kIR : PySem.W.kitOne K (.type "int") (.ref C_Ratio) = some false)
    (h_sf : PySem.W.selfFirst K C_Ratio = true)
    (h_ne : PySem.W.findIn K (.ref C_Ratio) "__ne__" = some (some (.builtin "object.__ne__")))
    (h_ob : PySem.W.subIn K (.ref C_Ratio) (.type "object") = some true)
    (h_sRI : PySem.W.subIn K (.ref C_Ratio) (.type "int") = some false)
    (h_sIR : PySem.W.subIn K (.type "int") (.ref C_Ratio) = some false)
    (h_nfI : PySem.W.notFirst K C_Ratio (.type "int") = true)
    (h_nfR : PySem.W.notFirst K C_Ratio (.ref C_Ratio) = true)
    (h_iAdd : PySem.W.findIn K (.type "int") "__add__" = some xiAdd)
    (h_iRadd : PySem.W.findIn K (.type "int") "__radd__" = some xiRadd)
    (h_iSub : PySem.W.findIn K (.type "int") "__sub__" = some xiSub)
    (h_iRsub : PySem.W.findIn K (.type "int") "__rsub__" = some xiRsub)
    (h_iMul : PySem.W.findIn K (.type "int") "__mul__" = some xiMul)
    (h_iRmul : PySem.W.findIn K (.type "int") "__rmul__" = some xiRmul)
    (h_fC : PySem.W.findIn K (.ref C_Form) "constant" = some none)
    (h_fT : PySem.W.findIn K (.ref C_Form) "terms" = some none)
    (h_fN : PySem.W.findIn K (.ref C_Form) "names" = some none)
    (h_ff : PySem.W.selfFirst K C_Form = true)
    (h_fIF : PySem.W.subIn K (.type "int") (.ref C_Form) = some false)
    (h_fRA : PySem.W.findIn K (.ref C_Form) "__radd__" = some none)
    (h_fRS : PySem.W.findIn K (.ref C_Form) "__rsub__" = some none)
    (h_fRM : PySem.W.findIn K (.ref C_Form) "__rmul__" = some none)
    (h_fA : PySem.W.findIn K (.ref C_Form) "__class__" = some (some (.builtin "object.__class__")))
    (h_fM : PySem.W.mroIn K C_Form (.type "object") = some true)
    (h_fFF : PySem.W.kitOne K (.ref C_Form) (.ref C_Form) = some true)
    (h_fFI : PySem.W.kitOne K (.ref C_Form) (.type "int") = some false)
    (h_fIFk : PySem.W.kitOne K (.type "int") (.ref C_Form) = some false)
    (h_fne : PySem.W.findIn K (.ref C_Form) "__ne__" = some (some (.builtin "object.__ne__")))
    (h_fob : PySem.W.subIn K (.ref C_Form) (.type "object") = some true)
    (h_fFIs : PySem.W.subIn K (.ref C_Form) (.type "int") = some false)
    (h_ffI : PySem.W.notFirst K C_Form (.type "int") = true)
    (h_ffF : PySem.W.notFirst K C_Form (.ref C_Form) = true)
    (h_e0 : K.lookup E0 = some ⟨.type "tuple", de0, .seq #[] ne0, sle0⟩) :
    ∃ a : Ad, Txt K mg a :=
  ⟨{ E0 := E0, C_Ratio := C_Ratio, C_Form := C_Form, f_is_whole := f_is_whole, d_is_whole := PySem.W.fnOf "is_whole" "is_whole" (defArgs s_is_whole) (defBody s_is_whole) (defScope s_is_whole) .none kV_is_whole dc_is_whole pm_is_whole an_is_whole cd_is_whole ct_is_whole, f_is_small_letter := f_is_small_letter, d_is_small_letter := PySem.W.fnOf "is_small_letter" "is_small_letter" (defArgs s_is_small_letter) (defBody s_is_small_letter) (defScope s_is_small_letter) .none kV_is_small_letter dc_is_small_letter pm_is_small_letter an_is_small_letter cd_is_small_letter ct_is_small_letter, f_Ratio_init := f_Ratio_init, d_Ratio_init := PySem.W.fnOf "__init__" "Ratio.__init__" (defArgs s_Ratio_init) (defBody s_Ratio_init) (defScope s_Ratio_init) (.ref T_Ratio_init) kV_Ratio_init dc_Ratio_init pm_Ratio_init an_Ratio_init cd_Ratio_init ct_Ratio_init, f_Ratio_eq := f_Ratio_eq, d_Ratio_eq := PySem.W.fnOf "__eq__" "Ratio.__eq__" (defArgs s_Ratio_eq) (defBody s_Ratio_eq) (defScope s_Ratio_eq) .none kV_Ratio_eq dc_Ratio_eq pm_Ratio_eq an_Ratio_eq cd_Ratio_eq ct_Ratio_eq, f_Ratio_add := f_Ratio_add, d_Ratio_add := PySem.W.fnOf "__add__" "Ratio.__add__" (defArgs s_Ratio_add) (defBody s_Ratio_add) (defScope s_Ratio_add) .none kV_Ratio_add dc_Ratio_add pm_Ratio_add an_Ratio_add cd_Ratio_add ct_Ratio_add, f_Ratio_radd := f_Ratio_radd, d_Ratio_radd := PySem.W.fnOf "__radd__" "Ratio.__radd__" (defArgs s_Ratio_radd) (defBody s_Ratio_radd) (defScope s_Ratio_radd) .none kV_Ratio_radd dc_Ratio_radd pm_Ratio_radd an_Ratio_radd cd_Ratio_radd ct_Ratio_radd, f_Ratio_mul := f_Ratio_mul, d_Ratio_mul := PySem.W.fnOf "__mul__" "Ratio.__mul__" (defArgs s_Ratio_mul) (defBody s_Ratio_mul) (defScope s_Ratio_mul) .none kV_Ratio_mul dc_Ratio_mul pm_Ratio_mul an_Ratio_mul cd_Ratio_mul ct_Ratio_mul, f_Ratio_rmul := f_Ratio_rmul, d_Ratio_rmul := PySem.W.fnOf "__rmul__" "Ratio.__rmul__" (defArgs s_Ratio_rmul) (defBody s_Ratio_rmul) (defScope s_Ratio_rmul) .none kV_Ratio_rmul dc_Ratio_rmul pm_Ratio_rmul an_Ratio_rmul cd_Ratio_rmul ct_Ratio_rmul, f_is_fraction := f_is_fraction, d_is_fraction := PySem.W.fnOf "is_fraction" "is_fraction" (defArgs s_is_fraction) (defBody s_is_fraction) (defScope s_is_fraction) .none kV_is_fraction dc_is_fraction pm_is_fraction an_is_fraction cd_is_fraction ct_is_fraction, f_as_ratio := f_as_ratio, d_as_ratio := PySem.W.fnOf "as_ratio" "as_ratio" (defArgs s_as_ratio) (defBody s_as_ratio) (defScope s_as_ratio) .none kV_as_ratio dc_as_ratio pm_as_ratio an_as_ratio cd_as_ratio ct_as_ratio, f_is_length := f_is_length, d_is_length := PySem.W.fnOf "is_length" "is_length" (defArgs s_is_length) (defBody s_is_length) (defScope s_is_length) .none kV_is_length dc_is_length pm_is_length an_is_length cd_is_length ct_is_length, f_are_lengths_for := f_are_lengths_for, d_are_lengths_for := PySem.W.fnOf "are_lengths_for" "are_lengths_for" (defArgs s_are_lengths_for) (defBody s_are_lengths_for) (defScope s_are_lengths_for) .none kV_are_lengths_for dc_are_lengths_for pm_are_lengths_for an_are_lengths_for cd_are_lengths_for ct_are_lengths_for, f_Form_init := f_Form_init, d_Form_init := PySem.W.fnOf "__init__" "Form.__init__" (defArgs s_Form_init) (defBody s_Form_init) (defScope s_Form_init) (.ref T_Form_init) kV_Form_init dc_Form_init pm_Form_init an_Form_init cd_Form_init ct_Form_init, f_Form_eq := f_Form_eq, d_Form_eq := PySem.W.fnOf "__eq__" "Form.__eq__" (defArgs s_Form_eq) (defBody s_Form_eq) (defScope s_Form_eq) .none kV_Form_eq dc_Form_eq pm_Form_eq an_Form_eq cd_Form_eq ct_Form_eq, f_Form_neg := f_Form_neg, d_Form_neg := PySem.W.fnOf "__neg__" "Form.__neg__" (defArgs s_Form_neg) (defBody s_Form_neg) (defScope s_Form_neg) .none kV_Form_neg dc_Form_neg pm_Form_neg an_Form_neg cd_Form_neg ct_Form_neg, f_Form_add := f_Form_add, d_Form_add := PySem.W.fnOf "__add__" "Form.__add__" (defArgs s_Form_add) (defBody s_Form_add) (defScope s_Form_add) .none kV_Form_add dc_Form_add pm_Form_add an_Form_add cd_Form_add ct_Form_add, f_Form_sub := f_Form_sub, d_Form_sub := PySem.W.fnOf "__sub__" "Form.__sub__" (defArgs s_Form_sub) (defBody s_Form_sub) (defScope s_Form_sub) .none kV_Form_sub dc_Form_sub pm_Form_sub an_Form_sub cd_Form_sub ct_Form_sub, f_Form_mul := f_Form_mul, d_Form_mul := PySem.W.fnOf "__mul__" "Form.__mul__" (defArgs s_Form_mul) (defBody s_Form_mul) (defScope s_Form_mul) .none kV_Form_mul dc_Form_mul pm_Form_mul an_Form_mul cd_Form_mul ct_Form_mul, f_Form_at := f_Form_at, d_Form_at := PySem.W.fnOf "at" "Form.at" (defArgs s_Form_at) (defBody s_Form_at) (defScope s_Form_at) .none kV_Form_at dc_Form_at pm_Form_at an_Form_at cd_Form_at ct_Form_at, f_are_terms := f_are_terms, d_are_terms := PySem.W.fnOf "are_terms" "are_terms" (defArgs s_are_terms) (defBody s_are_terms) (defScope s_are_terms) .none kV_are_terms dc_are_terms pm_are_terms an_are_terms cd_are_terms ct_are_terms, f_is_term := f_is_term, d_is_term := PySem.W.fnOf "is_term" "is_term" (defArgs s_is_term) (defBody s_is_term) (defScope s_is_term) .none kV_is_term dc_is_term pm_is_term an_is_term cd_is_term ct_is_term, f_summed_terms := f_summed_terms, d_summed_terms := PySem.W.fnOf "summed_terms" "summed_terms" (defArgs s_summed_terms) (defBody s_summed_terms) (defScope s_summed_terms) .none kV_summed_terms dc_summed_terms pm_summed_terms an_summed_terms cd_summed_terms ct_summed_terms, f_bag := f_bag, d_bag := PySem.W.fnOf "_law_bag" "_law_bag" (defArgs s_bag) (defBody s_bag) (defScope s_bag) .none kV_bag dc_bag pm_bag an_bag cd_bag ct_bag, f_draw := f_draw, d_draw := PySem.W.fnOf "_law_draw" "_law_draw" (defArgs s_draw) (defBody s_draw) (defScope s_draw) .none kV_draw dc_draw pm_draw an_draw cd_draw ct_draw, f_one := f_one, d_one := PySem.W.fnOf "_law_one" "_law_one" (defArgs s_one) (defBody s_one) (defScope s_one) .none kV_one dc_one pm_one an_one cd_one ct_one, f_drawn := f_drawn, d_drawn := PySem.W.fnOf "_law_drawn" "_law_drawn" (defArgs s_drawn) (defBody s_drawn) (defScope s_drawn) .none kV_drawn dc_drawn pm_drawn an_drawn cd_drawn ct_drawn, f_pairs := f_pairs, d_pairs := PySem.W.fnOf "_law_pairs" "_law_pairs" (defArgs s_pairs) (defBody s_pairs) (defScope s_pairs) .none kV_pairs dc_pairs pm_pairs an_pairs cd_pairs ct_pairs, f_shown := f_shown, d_shown := PySem.W.fnOf "_law_shown" "_law_shown" (defArgs s_shown) (defBody s_shown) (defScope s_shown) .none kV_shown dc_shown pm_shown an_shown cd_shown ct_shown, f_due := f_due, d_due := PySem.W.fnOf "_law_due" "_law_due" (defArgs s_due) (defBody s_due) (defScope s_due) .none kV_due dc_due pm_due an_due cd_due ct_due, f_added := f_added, d_added := PySem.W.fnOf "_law_added" "_law_added" (defArgs s_added) (defBody s_added) (defScope s_added) .none kV_added dc_added pm_added an_added cd_added ct_added, f_right := f_right, d_right := PySem.W.fnOf "_law_right" "_law_right" (defArgs s_right) (defBody s_right) (defScope s_right) .none kV_right dc_right pm_right an_right cd_right ct_right, f_law := f_law, d_law := PySem.W.fnOf "law" "law" (defArgs s_law) (defBody s_law) (defScope s_law) .none kV_law dc_law pm_law an_law cd_law ct_law : Ad }, {
    F_is_whole := fun_mk (st := s_is_whole) l_is_whole c_is_whole k_is_whole,
    b_is_whole := (fun_mk (st := s_is_whole) l_is_whole c_is_whole k_is_whole).binds (ps := ["value"]) fun _ _ _ _ _ _ us hl => match us, hl with | [_], _ => rfl,
    m_is_whole := PySem.W.mg_of X G a_is_whole,
    F_is_small_letter := fun_mk (st := s_is_small_letter) l_is_small_letter c_is_small_letter k_is_small_letter,
    b_is_small_letter := (fun_mk (st := s_is_small_letter) l_is_small_letter c_is_small_letter k_is_small_letter).binds (ps := ["value"]) fun _ _ _ _ _ _ us hl => match us, hl with | [_], _ => rfl,
    m_is_small_letter := PySem.W.mg_of X G a_is_small_letter,
    F_Ratio_init := ⟨⟨_, _, _, _, _, _, _, _, _, _, rfl, l_Ratio_init, c_Ratio_init, .inr ⟨(fun h => nomatch h), _, _, [.int 1 tk1], _, rfl, t_Ratio_init, rfl, .cons ⟨_, rfl⟩ (.nil)⟩, .inl rfl⟩, k_Ratio_init⟩,
    me_Ratio_init := ⟨a_Ratio_init, i_Ratio_init, k_Ratio_init⟩,
    F_Ratio_eq := fun_mk (st := s_Ratio_eq) l_Ratio_eq c_Ratio_eq k_Ratio_eq,
    b_Ratio_eq := (fun_mk (st := s_Ratio_eq) l_Ratio_eq c_Ratio_eq k_Ratio_eq).binds (ps := ["self", "other"]) fun _ _ _ _ _ _ us hl => match us, hl with | [_, _], _ => rfl,
    me_Ratio_eq := ⟨a_Ratio_eq, i_Ratio_eq, k_Ratio_eq⟩,
    F_Ratio_add := fun_mk (st := s_Ratio_add) l_Ratio_add c_Ratio_add k_Ratio_add,
    b_Ratio_add := (fun_mk (st := s_Ratio_add) l_Ratio_add c_Ratio_add k_Ratio_add).binds (ps := ["self", "other"]) fun _ _ _ _ _ _ us hl => match us, hl with | [_, _], _ => rfl,
    me_Ratio_add := ⟨a_Ratio_add, i_Ratio_add, k_Ratio_add⟩,
    F_Ratio_radd := fun_mk (st := s_Ratio_radd) l_Ratio_radd c_Ratio_radd k_Ratio_radd,
    b_Ratio_radd := (fun_mk (st := s_Ratio_radd) l_Ratio_radd c_Ratio_radd k_Ratio_radd).binds (ps := ["self", "other"]) fun _ _ _ _ _ _ us hl => match us, hl with | [_, _], _ => rfl,
    me_Ratio_radd := ⟨a_Ratio_radd, i_Ratio_radd, k_Ratio_radd⟩,
    F_Ratio_mul := fun_mk (st := s_Ratio_mul) l_Ratio_mul c_Ratio_mul k_Ratio_mul,
    b_Ratio_mul := (fun_mk (st := s_Ratio_mul) l_Ratio_mul c_Ratio_mul k_Ratio_mul).binds (ps := ["self", "other"]) fun _ _ _ _ _ _ us hl => match us, hl with | [_, _], _ => rfl,
    me_Ratio_mul := ⟨a_Ratio_mul, i_Ratio_mul, k_Ratio_mul⟩,
    F_Ratio_rmul := fun_mk (st := s_Ratio_rmul) l_Ratio_rmul c_Ratio_rmul k_Ratio_rmul,
    b_Ratio_rmul := (fun_mk (st := s_Ratio_rmul) l_Ratio_rmul c_Ratio_rmul k_Ratio_rmul).binds (ps := ["self", "other"]) fun _ _ _ _ _ _ us hl => match us, hl with | [_, _], _ => rfl,
    me_Ratio_rmul := ⟨a_Ratio_rmul, i_Ratio_rmul, k_Ratio_rmul⟩,
    F_is_fraction := fun_mk (st := s_is_fraction) l_is_fraction c_is_fraction k_is_fraction,
    b_is_fraction := (fun_mk (st := s_is_fraction) l_is_fraction c_is_fraction k_is_fraction).binds (ps := ["value"]) fun _ _ _ _ _ _ us hl => match us, hl with | [_], _ => rfl,
    m_is_fraction := PySem.W.mg_of X G a_is_fraction,
    F_as_ratio := fun_mk (st := s_as_ratio) l_as_ratio c_as_ratio k_as_ratio,
    b_as_ratio := (fun_mk (st := s_as_ratio) l_as_ratio c_as_ratio k_as_ratio).binds (ps := ["fraction"]) fun _ _ _ _ _ _ us hl => match us, hl with | [_], _ => rfl,
    m_as_ratio := PySem.W.mg_of X G a_as_ratio,
    F_is_length := fun_mk (st := s_is_length) l_is_length c_is_length k_is_length,
    b_is_length := (fun_mk (st := s_is_length) l_is_length c_is_length k_is_length).binds (ps := ["value"]) fun _ _ _ _ _ _ us hl => match us, hl with | [_], _ => rfl,
    m_is_length := PySem.W.mg_of X G a_is_length,
    F_are_lengths_for := fun_mk (st := s_are_lengths_for) l_are_lengths_for c_are_lengths_for k_are_lengths_for,
    b_are_lengths_for := (fun_mk (st := s_are_lengths_for) l_are_lengths_for c_are_lengths_for k_are_lengths_for).binds (ps := ["value", "names"]) fun _ _ _ _ _ _ us hl => match us, hl with | [_, _], _ => rfl,
    m_are_lengths_for := PySem.W.mg_of X G a_are_lengths_for,
    F_Form_init := ⟨⟨_, _, _, _, _, _, _, _, _, _, rfl, l_Form_init, c_Form_init, .inr ⟨(fun h => nomatch h), _, _, [.int 0 tk0, .ref E0], _, rfl, t_Form_init, rfl, .cons ⟨_, rfl⟩ (.cons rfl (.nil))⟩, .inl rfl⟩, k_Form_init⟩,
    me_Form_init := ⟨a_Form_init, i_Form_init, k_Form_init⟩,
    F_Form_eq := fun_mk (st := s_Form_eq) l_Form_eq c_Form_eq k_Form_eq,
    b_Form_eq := (fun_mk (st := s_Form_eq) l_Form_eq c_Form_eq k_Form_eq).binds (ps := ["self", "other"]) fun _ _ _ _ _ _ us hl => match us, hl with | [_, _], _ => rfl,
    me_Form_eq := ⟨a_Form_eq, i_Form_eq, k_Form_eq⟩,
    F_Form_neg := fun_mk (st := s_Form_neg) l_Form_neg c_Form_neg k_Form_neg,
    b_Form_neg := (fun_mk (st := s_Form_neg) l_Form_neg c_Form_neg k_Form_neg).binds (ps := ["self"]) fun _ _ _ _ _ _ us hl => match us, hl with | [_], _ => rfl,
    me_Form_neg := ⟨a_Form_neg, i_Form_neg, k_Form_neg⟩,
    F_Form_add := fun_mk (st := s_Form_add) l_Form_add c_Form_add k_Form_add,
    b_Form_add := (fun_mk (st := s_Form_add) l_Form_add c_Form_add k_Form_add).binds (ps := ["self", "other"]) fun _ _ _ _ _ _ us hl => match us, hl with | [_, _], _ => rfl,
    me_Form_add := ⟨a_Form_add, i_Form_add, k_Form_add⟩,
    F_Form_sub := fun_mk (st := s_Form_sub) l_Form_sub c_Form_sub k_Form_sub,
    b_Form_sub := (fun_mk (st := s_Form_sub) l_Form_sub c_Form_sub k_Form_sub).binds (ps := ["self", "other"]) fun _ _ _ _ _ _ us hl => match us, hl with | [_, _], _ => rfl,
    me_Form_sub := ⟨a_Form_sub, i_Form_sub, k_Form_sub⟩,
    F_Form_mul := fun_mk (st := s_Form_mul) l_Form_mul c_Form_mul k_Form_mul,
    b_Form_mul := (fun_mk (st := s_Form_mul) l_Form_mul c_Form_mul k_Form_mul).binds (ps := ["self", "other"]) fun _ _ _ _ _ _ us hl => match us, hl with | [_, _], _ => rfl,
    me_Form_mul := ⟨a_Form_mul, i_Form_mul, k_Form_mul⟩,
    F_Form_at := fun_mk (st := s_Form_at) l_Form_at c_Form_at k_Form_at,
    b_Form_at := (fun_mk (st := s_Form_at) l_Form_at c_Form_at k_Form_at).binds (ps := ["self", "lengths"]) fun _ _ _ _ _ _ us hl => match us, hl with | [_, _], _ => rfl,
    me_Form_at := ⟨a_Form_at, i_Form_at, k_Form_at⟩,
    F_are_terms := fun_mk (st := s_are_terms) l_are_terms c_are_terms k_are_terms,
    b_are_terms := (fun_mk (st := s_are_terms) l_are_terms c_are_terms k_are_terms).binds (ps := ["value"]) fun _ _ _ _ _ _ us hl => match us, hl with | [_], _ => rfl,
    m_are_terms := PySem.W.mg_of X G a_are_terms,
    F_is_term := fun_mk (st := s_is_term) l_is_term c_is_term k_is_term,
    b_is_term := (fun_mk (st := s_is_term) l_is_term c_is_term k_is_term).binds (ps := ["value"]) fun _ _ _ _ _ _ us hl => match us, hl with | [_], _ => rfl,
    m_is_term := PySem.W.mg_of X G a_is_term,
    F_summed_terms := fun_mk (st := s_summed_terms) l_summed_terms c_summed_terms k_summed_terms,
    b_summed_terms := (fun_mk (st := s_summed_terms) l_summed_terms c_summed_terms k_summed_terms).binds (ps := ["terms", "others"]) fun _ _ _ _ _ _ us hl => match us, hl with | [_, _], _ => rfl,
    m_summed_terms := PySem.W.mg_of X G a_summed_terms,
    F_bag := fun_mk (st := s_bag) l_bag c_bag k_bag,
    b_bag := (fun_mk (st := s_bag) l_bag c_bag k_bag).binds (ps := ["_law_cells", "_law_k"]) fun _ _ _ _ _ _ us hl => match us, hl with | [_, _], _ => rfl,
    m_bag := PySem.W.mg_of X G a_bag,
    F_draw := fun_mk (st := s_draw) l_draw c_draw k_draw,
    b_draw := (fun_mk (st := s_draw) l_draw c_draw k_draw).binds (ps := ["_law_bag_here", "_law_wide"]) fun _ _ _ _ _ _ us hl => match us, hl with | [_, _], _ => rfl,
    m_draw := PySem.W.mg_of X G a_draw,
    F_one := fun_mk (st := s_one) l_one c_one k_one,
    b_one := (fun_mk (st := s_one) l_one c_one k_one).binds (ps := ["_law_bag_here", "_law_some"]) fun _ _ _ _ _ _ us hl => match us, hl with | [_, _], _ => rfl,
    m_one := PySem.W.mg_of X G a_one,
    F_drawn := fun_mk (st := s_drawn) l_drawn c_drawn k_drawn,
    b_drawn := (fun_mk (st := s_drawn) l_drawn c_drawn k_drawn).binds (ps := ["_law_bag_here"]) fun _ _ _ _ _ _ us hl => match us, hl with | [_], _ => rfl,
    m_drawn := PySem.W.mg_of X G a_drawn,
    F_pairs := fun_mk (st := s_pairs) l_pairs c_pairs k_pairs,
    b_pairs := (fun_mk (st := s_pairs) l_pairs c_pairs k_pairs).binds (ps := ["_law_numbers"]) fun _ _ _ _ _ _ us hl => match us, hl with | [_], _ => rfl,
    m_pairs := PySem.W.mg_of X G a_pairs,
    F_shown := fun_mk (st := s_shown) l_shown c_shown k_shown,
    b_shown := (fun_mk (st := s_shown) l_shown c_shown k_shown).binds (ps := ["_law_made"]) fun _ _ _ _ _ _ us hl => match us, hl with | [_], _ => rfl,
    m_shown := PySem.W.mg_of X G a_shown,
    F_due := fun_mk (st := s_due) l_due c_due k_due,
    b_due := (fun_mk (st := s_due) l_due c_due k_due).binds (ps := ["_law_first", "_law_numbers"]) fun _ _ _ _ _ _ us hl => match us, hl with | [_, _], _ => rfl,
    m_due := PySem.W.mg_of X G a_due,
    F_added := fun_mk (st := s_added) l_added c_added k_added,
    b_added := (fun_mk (st := s_added) l_added c_added k_added).binds (ps := ["_law_one_here", "_law_two", "_law_by"]) fun _ _ _ _ _ _ us hl => match us, hl with | [_, _, _], _ => rfl,
    m_added := PySem.W.mg_of X G a_added,
    F_right := fun_mk (st := s_right) l_right c_right k_right,
    b_right := (fun_mk (st := s_right) l_right c_right k_right).binds (ps := ["_law_bag_here"]) fun _ _ _ _ _ _ us hl => match us, hl with | [_], _ => rfl,
    m_right := PySem.W.mg_of X G a_right,
    F_law := fun_mk (st := s_law) l_law c_law k_law,
    b_law := (fun_mk (st := s_law) l_law c_law k_law).binds (ps := ["_law_cells"]) fun _ _ _ _ _ _ us hl => match us, hl with | [_], _ => rfl,
    m_law := PySem.W.mg_of X G a_law,
    cl_Ratio := ⟨pg_Ratio, hd_Ratio, po_Ratio, sa_Ratio⟩,
    m_Ratio := PySem.W.mg_of X G aC_Ratio,
    mk_Ratio := ⟨mk_Ratio, a_Ratio_init, i_Ratio_init, kc_Ratio⟩,
    cl_Form := ⟨pg_Form, hd_Form, po_Form, sa_Form⟩,
    m_Form := PySem.W.mg_of X G aC_Form,
    mk_Form := ⟨mk_Form, a_Form_init, i_Form_init, kc_Form⟩,
    z_isinstance := PySem.W.mg_none_of X G z_isinstance,
    z_int := PySem.W.mg_none_of X G z_int,
    z_bool := PySem.W.mg_none_of X G z_bool,
    z_len := PySem.W.mg_none_of X G z_len,
    z_abs := PySem.W.mg_none_of X G z_abs,
    z_range := PySem.W.mg_none_of X G z_range,
    z_all := PySem.W.mg_none_of X G z_all,
    z_max := PySem.W.mg_none_of X G z_max,
    z_min := PySem.W.mg_none_of X G z_min,
    z_str := PySem.W.mg_none_of X G z_str,
    z_tuple := PySem.W.mg_none_of X G z_tuple,
    z_zip := PySem.W.mg_none_of X G z_zip,
    z_dict := PySem.W.mg_none_of X G z_dict,
    z_list := PySem.W.mg_none_of X G z_list,
    z_sorted := PySem.W.mg_none_of X G z_sorted,
    m_gcd := PySem.W.mg_of X G g_gcd,
    nT := h_nT,
    nB := h_nB,
    iA := h_iA,
    iN := h_iN,
    iT := h_iT,
    iM := h_iM,
    kRI := h_kRI,
    kRR := h_kRR,
    kIR := h_kIR,
    sf := h_sf,
    ne := h_ne,
    ob := h_ob,
    sRI := h_sRI,
    sIR := h_sIR,
    nfI := h_nfI,
    nfR := h_nfR,
    iAdd := ⟨_, h_iAdd⟩,
    iRadd := ⟨_, h_iRadd⟩,
    iSub := ⟨_, h_iSub⟩,
    iRsub := ⟨_, h_iRsub⟩,
    iMul := ⟨_, h_iMul⟩,
    iRmul := ⟨_, h_iRmul⟩,
    fC := h_fC,
    fT := h_fT,
    fN := h_fN,
    ff := h_ff,
    fIF := h_fIF,
    fRA := h_fRA,
    fRS := h_fRS,
    fRM := h_fRM,
    fA := h_fA,
    fM := h_fM,
    fFF := h_fFF,
    fFI := h_fFI,
    fIFk := h_fIFk,
    fne := h_fne,
    fob := h_fob,
    fFIs := h_fFIs,
    ffI := h_ffI,
    ffF := h_ffF,
    e0 := fun H => .inr ⟨_, _, _, h_e0, rfl, rfl, by decide, .nil⟩ }⟩

end RK4

local macro_rules | `(tactic| walk_at "at") => `(tactic| first | assumption | exact L2.upd_same | ((refine RK.Same.at (by assumption) ?_); walk_at "at") | ((refine RK.SameT.tup (RK.Grown.same (by assumption)) ?_); walk_at "at"))
local macro_rules | `(tactic| walk_at "s") => `(tactic| first
  | with_reducible refine RK.w_seq ?_
  | with_reducible refine RK.w_asg ?_
  | with_reducible refine RK.w_gn ?_
  | with_reducible refine RK.w_if ?_
  | with_reducible refine RK.w_ret ?_
  | with_reducible refine RK.w_next ?_
  | with_reducible refine RK.w_drop ?_
  | with_reducible refine RK.w_par ?_
  | with_reducible refine RK.w_two ?_
  | with_reducible refine RK.w_test ?_
  | with_reducible refine RK.w_tB ?_
  | with_reducible refine RK.w_bl ?_
  | with_reducible refine RK.w_not ?_
  | with_reducible refine RK.w_and ?_
  | with_reducible refine RK.w_or ?_
  | ((with_reducible refine' RK.w_var ?hv ?_); (case hv => exact rfl))
  | with_reducible refine RK.w_c ?_
  | with_reducible refine RK.w_op ?_
  | with_reducible refine RK.w_un ?_
  | with_reducible refine RK.w_I0 ?_
  | with_reducible refine RK.w_U ?_
  | with_reducible refine RK.w_nil ?_
  | with_reducible refine RK.w_cons ?_
  | with_reducible refine RK.w_andV ?_
  | with_reducible refine RK.w_orV ?_
  | with_reducible refine RK.w_notV ?_
  | with_reducible refine RK.w_CB ?_
  | with_reducible refine RK.w_call ?_
  | with_reducible refine RK.w_tup ?_
  | with_reducible refine RK.w_lst ?_
  | with_reducible refine RK.w_sub ?_
  | with_reducible refine RK.w_sfld ?_
  | with_reducible refine RK.w_meth ?_
  | with_reducible refine RK.w_methK ?_
  | with_reducible refine RK.w_make ?_
  | with_reducible refine RK.w_makeK ?_
  | with_reducible refine RK.w_BM ?_
  | with_reducible refine RK.w_sl ?_
  | with_reducible refine RK.w_po ?_
  | with_reducible refine RK.w_pt ?_
  | with_reducible refine RK.w_in ?_
  | with_reducible refine RK.w_fld ?_
  | with_reducible refine RK.w_lcL ?_
  | with_reducible refine RK.w_forL ?_
  | with_reducible refine RK.w_retN ?_
  | with_reducible refine RK.w_yes ?_
  | with_reducible refine RK.w_int ?_
  | with_reducible refine RK.w_intB ?_
  | with_reducible refine RK.w_abs ?_
  | with_reducible refine RK.w_max ?_
  | with_reducible refine RK.w_min ?_
  | with_reducible refine RK.w_gcd ?_
  | ((with_reducible refine RK.w_I ?hc ?_); (case hc => first | assumption | (show _ < _; omega) | exact RK.Sz.ok (by assumption) (by assumption) | exact RK.Sz.div (by assumption) (by assumption) | (show _ ∧ _; omega) | (show _ ∨ _; omega) | exact ⟨by decide, by decide, by decide⟩))
  | ((with_reducible refine' RK.w_ixL ?hh ?hi ?_); (case hh => walk_at "at"); (case hi => exact rfl))
  | ((with_reducible refine' RK.w_ixT ?hh ?hi ?_); (case hh => walk_at "at"); (case hi => exact rfl))
  | ((with_reducible refine' RK.w_setL ?hh ?hi ?_); (case hh => walk_at "at"); (case hi => exact rfl))
  | ((with_reducible refine RK.w_eq ?hh ?_); (case hh => exact rfl))
  | ((with_reducible refine RK.w_ne ?hh ?_); (case hh => exact rfl)))
local macro_rules | `(tactic| walk_at "r") => `(tactic| repeat walk_at "s")

namespace RK4
open PySem PySem.Spec L2 RK RZ StX
/-! ### values -/
def rfs (t b : Int) : List (Str × V) := [(("top" : Str), .int t), (("bottom" : Str), .int b)]
theorem rfs_top (t b : Int) : (rfs t b).lookup ("top" : Str) = some (.int t) := by simp [rfs, List.lookup]
theorem rfs_bot (t b : Int) : (rfs t b).lookup ("bottom" : Str) = some (.int b) := by
  have h : (("bottom" : Str) == ("top" : Str)) = false := by decide +kernel
  simp [rfs, List.lookup, h]
theorem rfs_no (t b : Int) {m : Str} (h1 : (m == ("top" : Str)) = false) (h2 : (m == ("bottom" : Str)) = false) : (rfs t b).lookup m = none := by simp [rfs, List.lookup, h1, h2]
theorem rfs_put (t b : Int) : putF "bottom" (.int b) (putF "top" (.int t) []) = rfs t b := by
  have k : ¬ (("top" : Str) = "bottom") := by decide +kernel
  show (if ("top" : Str) = "bottom" then [(("top" : Str), V.int b)] else (("top" : Str), V.int t) :: putF "bottom" (V.int b) []) = rfs t b
  rw [if_neg k]
  all_goals rfl
/-- a Ratio stands at p: t / b in lowest terms -/
structure Rat (C : Addr) (H : Hp) (p : Addr) (t b : Int) : Prop where
  ob : ∃ dx, H p = some (.ins C dx (rfs t b))
  pos : 0 < b
  cop : Int.gcd t b = 1
theorem Rat.same {C : Addr} {H H' : Hp} {p : Addr} {t b : Int} (r : Rat C H p t b) (e : Same H H') : Rat C H' p t b := let ⟨dx, h⟩ := r.ob; ⟨⟨dx, e _ _ h⟩, r.pos, r.cop⟩
theorem Rat.sameT {C : Addr} {H H' : Hp} {p : Addr} {t b : Int} (r : Rat C H p t b) (e : SameT H H') : Rat C H' p t b := let ⟨dx, h⟩ := r.ob; ⟨⟨dx, e.ins h⟩, r.pos, r.cop⟩
theorem Rat.kp {C : Addr} {H H' : Hp} {p bg : Addr} {t b : Int} (r : Rat C H p t b) (e : Kp bg H H') : Rat C H' p t b := let ⟨dx, h⟩ := r.ob; ⟨⟨dx, e.ins h⟩, r.pos, r.cop⟩
/-- a fraction: an int, or a Ratio -/
def Frn (C : Addr) (H : Hp) (x : V) (t b : Int) : Prop := (x = .int t ∧ b = 1) ∨ ∃ p, x = .ref p ∧ Rat C H p t b
theorem Frn.pos {C : Addr} {H : Hp} {x : V} {t b : Int} (f : Frn C H x t b) : 0 < b := by
  rcases f with ⟨_, e⟩ | ⟨p, _, r⟩
  · omega
  · exact r.pos
theorem Frn.cop {C : Addr} {H : Hp} {x : V} {t b : Int} (f : Frn C H x t b) : Int.gcd t b = 1 := by
  rcases f with ⟨_, e⟩ | ⟨p, _, r⟩
  · rw [e]; exact Int.gcd_one_right ..
  · exact r.cop
section
variable {P : Program} {w : World} {K : PySem.W.Frag} {mg : Str → Option Value} {base : Heap} {a : Ad}
theorem ins_ty (T : Txt K mg a) {H : Hp} {p : Addr} {t b : Int} (r : Rat a.C_Ratio H p t b) : TyX K H (.ref p) (.ref a.C_Ratio) := by
  obtain ⟨dx, h⟩ := r.ob
  exact .base (.ins h T.cl_Ratio T.iA T.iN T.iT T.iM)
/-- what is neither an int nor a Ratio -/
def NotFr (K : PySem.W.Frag) (C : Addr) (H : Hp) (x : V) : Prop := ∃ t b1 b2, TyX K H x t ∧ PySem.W.kitOne K t (.ref C) = some false ∧ PySem.W.kitOne K t (.type "int") = some b1 ∧ PySem.W.kitOne K t (.type "bool") = some b2 ∧ (b1 && !b2) = false
def spWhole (K : PySem.W.Frag) : Sp := fun vs H Q _ => ∃ x t b1 b2, vs = [x] ∧ TyX K H x t ∧ PySem.W.kitOne K t (.type "int") = some b1 ∧ PySem.W.kitOne K t (.type "bool") = some b2 ∧ Q (.bl (b1 && !b2)) H
theorem ok_is_whole (T : Txt K mg a) : FnOk P w K mg base CX0 1 a.f_is_whole a.d_is_whole ["value"] (spWhole K) := by
  refine T.F_is_whole.ok sc_is_whole (fun vs H Q E h => ?_) (fun cdv A outer s H vs Q E hr h => ?_)
  · obtain ⟨x, t, b1, b2, rfl, _⟩ := h
    rfl
  · obtain ⟨x, t, b1, b2, rfl, ty, h1, h2, k⟩ := h
    refine ⟨_, (pss_one (ps_ret (pe_and (pe_callB call_isi (by rfl) T.z_isinstance (by decide +kernel) (pa_cons (pv 0) (pa_cons (pe_bltn (v := .ty "int") (by rfl) T.z_int (by decide +kernel) rfl) pa_nil))) (pe_one (pe_not (pe_callB call_isi (by rfl) T.z_isinstance (by decide +kernel) (pa_cons (pv 0) (pa_cons (pe_bltn (v := .ty "bool") (by rfl) T.z_bool (by decide +kernel) rfl) pa_nil)))))))), ?_⟩
    walk_at "r"
    refine ⟨x, .ty "int", t, .type "int", b1, rfl, .ty _, ty, h1, b1, rfl, ?_⟩
    cases b1 with
    | false => exact iteF k
    | true =>
      refine iteT ?_
      walk_at "r"
      exact ⟨x, .ty "bool", t, .type "bool", b2, rfl, .ty _, ty, h2, b2, rfl, by simpa using k⟩
theorem whole_int {K : PySem.W.Frag} {H : Hp} {Q : VK} {E : XK} {i : Int} (q : Q (.bl true) H) : spWhole K [.int i] H Q E :=
  ⟨.int i, .type "int", true, false, rfl, .base (.int i), kit_ty (by decide +kernel), kit_ty (by decide +kernel), q⟩
/-! ### making -/
def spInit (C : Addr) : Sp := fun vs H Q _ => ∃ (p dx : Addr) (t b : Int), vs = [.ref p, .int t, .int b] ∧ H p = some (.ins C dx []) ∧ 0 < b ∧ Sz 8000 b ∧
  ∀ H' x y, H' p = some (.ins C dx (rfs x y)) → (∀ c o, c ≠ p → H c = some o → H' c = some o) → Nrm t b x y → Q .non H'
theorem ok_Ratio_init (T : Txt K mg a) : FnOk P w K mg base CX0 2 a.f_Ratio_init a.d_Ratio_init ["self", "top", "bottom"] (spInit a.C_Ratio) := by
  refine T.F_Ratio_init.ok sc_Ratio_init (fun vs H Q E h => ?_) (fun cdv A outer s H vs Q E hr h => ?_)
  · obtain ⟨p, dx, t, b, rfl, _⟩ := h
    rfl
  · obtain ⟨p, dx, t, b, rfl, hp, h0, hz, k⟩ := h
    refine ⟨_, PSs.nox ((pss_cons (ps_if (pt_not (pt_val (pe_call (ok_is_whole T) (hr.mono (by decide)) (by rfl) T.m_is_whole T.F_is_whole.kp T.b_is_whole .nil pass0 (pa_cons (pv 1) pa_nil)))) (pss_one ps_never) pss_nil)
      (pss_cons (ps_if (PW.pt (pw_or (pt_not (pt_val (pe_call (ok_is_whole T) (hr.mono (by decide)) (by rfl) T.m_is_whole T.F_is_whole.kp T.b_is_whole .nil pass0 (pa_cons (pv 2) pa_nil)))) (pw_or1 (pt_cmpR op_lt (pv 2) pe_int (nomark _))))) (pss_one ps_never) pss_nil)
      (pss_cons (ps_set (i := 3) sc_Ratio_init.nd rfl (Or.inl rfl) (pe_callBfun cr_gcd rfl T.m_gcd (pa_cons (pv 1) (pa_cons (pv 2) pa_nil))))
      (pss_cons (ps_fld (pv 0) (pe_op op_fdivW (pv 1) (pv 3)) rfl)
      (pss_one (ps_fld (pv 0) (pe_op op_fdivW (pv 2) (pv 3)) rfl))))))), ?_⟩
    have hN := nrm_div (u := t) h0
    have g0 : 0 < Int.gcd t b := Int.gcd_pos_of_ne_zero_right t (by omega)
    have gle : (Int.gcd t b : Int) ≤ b := Int.le_of_dvd h0 (Int.gcd_dvd_right ..)
    have gz : CDivW 0 (Int.gcd t b : Int) := wide_div (by omega) (wide_le (by omega) gle hz) (by decide) (by decide)
    walk_at "r"
    refine whole_int ?_
    walk_at "r"
    refine iteF ?_
    walk_at "r"
    refine whole_int ?_
    walk_at "r"
    refine iteF ?_
    walk_at "r"
    rw [decide_eq_false (by omega)]
    refine iteF ?_
    walk_at "r"
    refine ⟨p, _, dx, _, rfl, hp, T.cl_Ratio, T.nT, by decide, ?_⟩
    walk_at "r"
    refine ⟨p, _, dx, _, rfl, upd_same, T.cl_Ratio, T.nB, by show 1 < 1000; decide, ?_⟩
    rw [upd_upd]
    exact k _ (t / (Int.gcd t b : Int)) (b / (Int.gcd t b : Int)) (Eq.trans upd_same (congrArg (fun l => some (HO.ins a.C_Ratio dx l)) (rfs_put _ _))) (fun c o hc e => by rw [upd_ne hc]; exact e) hN
theorem bd_Ratio (T : Txt K mg a) : L2.Binds K a.d_Ratio_init ["self", "top", "bottom"] [] := by
  obtain ⟨ds, v, b⟩ := T.F_Ratio_init.binds1 (ps := ["self", "top", "bottom"]) 3 1 (by simp) rfl (fun _ _ _ _ _ _ _ us its h1 h2 => match us, its, h1, h2 with | [_, _, _], [_], _, _ => ⟨_, rfl, rfl⟩)
  cases v
  exact b
theorem bd1_Ratio (T : Txt K mg a) : ∃ ds, L2.Vals [.int 1] ds ∧ L2.Binds K a.d_Ratio_init ["self", "top", "bottom"] ds :=
  T.F_Ratio_init.binds1 (ps := ["self", "top", "bottom"]) 2 0 (by simp) rfl (fun _ _ _ _ _ _ _ us its h1 h2 => match us, its, h1, h2 with | [_, _], [_], _, _ => ⟨_, rfl, rfl⟩)
theorem mk_leaf {C : Addr} {H : Hp} {Q : VK} {t b : Int} (h0 : 0 < b) (hz : Sz 8000 b) (k : ∀ p H' x y, H p = none → Same H H' → Rat C H' p x y → Nrm t b x y → Q (.ref p) H') : MkL C (spInit C) E0 [.int t, .int b] H Q := by
  intro p dx hp hdx hne
  refine ⟨p, dx, t, b, rfl, upd_same, h0, hz, fun H' x y e kp n => ⟨rfl, ?_⟩⟩
  refine k p H' x y hp (fun c o q => kp c o (ne_of_none q hp) ?_) ⟨⟨dx, e⟩, n.pos, n.cop⟩ n
  rw [upd_ne (ne_of_none q hp), upd_ne (ne_of_none q hdx)]
  exact q
theorem mk1_leaf {C : Addr} {H : Hp} {Q : VK} {t : Int} (k : ∀ p H', H p = none → Same H H' → Rat C H' p t 1 → Q (.ref p) H') : MkL C (spInit C) E0 [.int t, .int 1] H Q :=
  mk_leaf (by decide) Sz.one fun p H' x y hp e r n => by
    have z := n.uniq (u' := t) (l' := 1) (x' := t) (y' := 1) ⟨by decide, Int.gcd_one_right .., rfl⟩ (by decide) (by decide) rfl
    obtain ⟨rfl, rfl⟩ := z
    exact k p H' hp e r
/-! ### what is a fraction -/
def spFrac (K : PySem.W.Frag) (C : Addr) : Sp := fun vs H Q _ => ∃ x, vs = [x] ∧ ((∃ t b, Frn C H x t b ∧ Q (.bl true) H) ∨ (NotFr K C H x ∧ Q (.bl false) H))
theorem ok_is_fraction (T : Txt K mg a) : FnOk P w K mg base CX0 3 a.f_is_fraction a.d_is_fraction ["value"] (spFrac K a.C_Ratio) := by
  refine T.F_is_fraction.ok sc_is_fraction (fun vs H Q E h => ?_) (fun cdv A outer s H vs Q E hr h => ?_)
  · obtain ⟨x, rfl, _⟩ := h
    rfl
  · obtain ⟨x, rfl, h⟩ := h
    refine ⟨_, (pss_one (ps_ret (pe_or (pe_callB call_isi (by rfl) T.z_isinstance (by decide +kernel) (pa_cons (pv 0) (pa_cons (pe_glob (v := .ref a.C_Ratio) rfl T.m_Ratio rfl) pa_nil))) (pe_one (pe_call (ok_is_whole T) (hr.mono (by decide)) (by rfl) T.m_is_whole T.F_is_whole.kp T.b_is_whole .nil pass0 (pa_cons (pv 0) pa_nil)))))), ?_⟩
    walk_at "r"
    rcases h with ⟨t, b, f, k⟩ | ⟨⟨t, b1, b2, ty, h1, h2, h3, h4⟩, k⟩
    · rcases f with ⟨rfl, _⟩ | ⟨p, rfl, r⟩
      · refine ⟨_, .ref a.C_Ratio, .type "int", .ref a.C_Ratio, false, rfl, .own _, .base (.int t), T.kIR, false, rfl, ?_⟩
        refine iteF ?_
        walk_at "r"
        exact whole_int k
      · exact ⟨_, .ref a.C_Ratio, .ref a.C_Ratio, .ref a.C_Ratio, true, rfl, .own _, ins_ty T r, T.kRR, true, rfl, iteT k⟩
    · refine ⟨_, .ref a.C_Ratio, t, .ref a.C_Ratio, false, rfl, .own _, ty, h1, false, rfl, ?_⟩
      refine iteF ?_
      walk_at "r"
      exact ⟨x, t, b1, b2, rfl, ty, h2, h3, by rw [h4]; exact k⟩
/-- the Ratio of a fraction -/
def spAs (C : Addr) : Sp := fun vs H Q _ => ∃ x t b, vs = [x] ∧ Frn C H x t b ∧ ∀ p H', Same H H' → Rat C H' p t b → Q (.ref p) H'
theorem ok_as_ratio (T : Txt K mg a) : FnOk P w K mg base CX0 4 a.f_as_ratio a.d_as_ratio ["fraction"] (spAs a.C_Ratio) := by
  refine T.F_as_ratio.ok sc_as_ratio (fun vs H Q E h => ?_) (fun cdv A outer s H vs Q E hr h => ?_)
  · obtain ⟨x, t, b, rfl, _⟩ := h
    rfl
  · obtain ⟨x, t, b, rfl, f, k⟩ := h
    obtain ⟨ds, vd1, bd1⟩ := bd1_Ratio T
    refine ⟨_, (pss_cons (ps_if (pt_val (pe_callB call_isi (by rfl) T.z_isinstance (by decide +kernel) (pa_cons (pv 0) (pa_cons (pe_glob (v := .ref a.C_Ratio) rfl T.m_Ratio rfl) pa_nil)))) (pss_one (ps_ret (pv 0))) pss_nil)
      (pss_one (ps_ret (pe_make T.mk_Ratio (ok_Ratio_init T) (hr.mono (by decide)) (by rfl) T.m_Ratio bd1 vd1 pass0 (pa_cons (pv 0) pa_nil))))), ?_⟩
    walk_at "r"
    rcases f with ⟨rfl, rfl⟩ | ⟨p, rfl, r⟩
    · refine ⟨_, .ref a.C_Ratio, .type "int", .ref a.C_Ratio, false, rfl, .own _, .base (.int t), T.kIR, false, rfl, ?_⟩
      refine iteF ?_
      walk_at "r"
      exact mk1_leaf fun p H' _ e r => k p H' e r
    · refine ⟨_, .ref a.C_Ratio, .ref a.C_Ratio, .ref a.C_Ratio, true, rfl, .own _, ins_ty T r, T.kRR, true, rfl, iteT ?_⟩
      walk_at "r"
      exact k p H (w_same H) r
/-! ### the fields -/
theorem top_leaf (T : Txt K mg a) {H : Hp} {Q : VK} {p : Addr} {t b : Int} (r : Rat a.C_Ratio H p t b) (q : Q (.int t) H) : Fl K "top" (.ref p) H Q := by
  obtain ⟨dx, h⟩ := r.ob
  exact ⟨p, _, dx, _, _, rfl, h, T.cl_Ratio, T.nT, rfs_top _ _, q⟩
theorem bot_leaf (T : Txt K mg a) {H : Hp} {Q : VK} {p : Addr} {t b : Int} (r : Rat a.C_Ratio H p t b) (q : Q (.int b) H) : Fl K "bottom" (.ref p) H Q := by
  obtain ⟨dx, h⟩ := r.ob
  exact ⟨p, _, dx, _, _, rfl, h, T.cl_Ratio, T.nB, rfs_bot _ _, q⟩
theorem frac_leaf {K : PySem.W.Frag} {C : Addr} {H : Hp} {Q : VK} {E : XK} {x : V} {t b : Int} (f : Frn C H x t b) (q : Q (.bl true) H) : spFrac K C [x] H Q E := ⟨x, rfl, .inl ⟨t, b, f, q⟩⟩
theorem as_leaf {C : Addr} {H : Hp} {Q : VK} {E : XK} {x : V} {t b : Int} (f : Frn C H x t b) (q : ∀ p H', Same H H' → Rat C H' p t b → Q (.ref p) H') : spAs C [x] H Q E := ⟨x, t, b, rfl, f, q⟩
local macro_rules | `(tactic| walk_at "f") => `(tactic| first
  | ((refine' top_leaf (by assumption) ?hr ?_); (case hr => first | assumption | exact Rat.same (by assumption) (by assumption)); walk_at "r")
  | ((refine' bot_leaf (by assumption) ?hr ?_); (case hr => first | assumption | exact Rat.same (by assumption) (by assumption)); walk_at "r"))
/-! ### the operators -/
def spBin (C : Addr) (f g : Int → Int → Int → Int → Int) : Sp := fun vs H Q _ => ∃ p x t b t2 b2, vs = [.ref p, x] ∧ Rat C H p t b ∧ Frn C H x t2 b2 ∧ Sz 1000 t ∧ Sz 1000 b ∧ Sz 1000 t2 ∧ Sz 1000 b2 ∧
  ∀ q H' u l, Same H H' → Rat C H' q u l → Nrm (f t b t2 b2) (g t b t2 b2) u l → Q (.ref q) H'
abbrev spAdd (C : Addr) : Sp := spBin C (fun t b t2 b2 => t * b2 + t2 * b) fun _ b _ b2 => b * b2
theorem ok_Ratio_add (T : Txt K mg a) : FnOk P w K mg base CX0 5 a.f_Ratio_add a.d_Ratio_add ["self", "other"] (spAdd a.C_Ratio) := by
  refine T.F_Ratio_add.ok sc_Ratio_add (fun vs H Q E h => ?_) (fun cdv A outer s H vs Q E hr h => ?_)
  · obtain ⟨p, x, t, b, t2, b2, rfl, _⟩ := h
    rfl
  · obtain ⟨p, x, t, b, t2, b2, rfl, r, f, z1, z2, z3, z4, k⟩ := h
    refine ⟨_, (pss_cons (ps_if (pt_not (pt_val (pe_call (ok_is_fraction T) (hr.mono (by decide)) (by rfl) T.m_is_fraction T.F_is_fraction.kp T.b_is_fraction .nil pass0 (pa_cons (pv 1) pa_nil)))) (pss_one ps_never) pss_nil)
      (pss_cons (ps_set (i := 2) sc_Ratio_add.nd rfl (Or.inl rfl) (pe_call (ok_as_ratio T) (hr.mono (by decide)) (by rfl) T.m_as_ratio T.F_as_ratio.kp T.b_as_ratio .nil pass0 (pa_cons (pv 1) pa_nil)))
      (pss_one (ps_ret (pe_make T.mk_Ratio (ok_Ratio_init T) (hr.mono (by decide)) (by rfl) T.m_Ratio (bd_Ratio T) .nil pass0 (pa_cons (pe_op op_add (pe_op op_mulW (pe_fld (pv 0) rfl) (pe_fld (pv 2) rfl)) (pe_op op_mulW (pe_fld (pv 2) rfl) (pe_fld (pv 0) rfl))) (pa_cons (pe_op op_mulW (pe_fld (pv 0) rfl) (pe_fld (pv 2) rfl)) pa_nil))))))), ?_⟩
    walk_at "r"
    refine frac_leaf f ?_
    walk_at "r"
    refine iteF ?_
    walk_at "r"
    refine as_leaf f fun p2 H1 e1 r2 => ?_
    have r1 := r.same e1
    walk_at "r"
    repeat walk_at "f"
    exact mk_leaf (Int.mul_pos r.pos r2.pos) ((z2.mul z4).mono (by decide)) fun q H2 u l _ e2 r3 n => k q H2 u l (e1.trans e2) r3 n
section
variable {X : Cx}
theorem oAddqq (T : Txt X.K X.mg a) (hr : Room 5 X.A) : OpR X (binaryOp .Add) (rOwn2 a.C_Ratio (spAdd a.C_Ratio) E0) := op_own2 T.sf T.me_Ratio_add.at_ T.me_Ratio_add.fn (ok_Ratio_add T) hr T.b_Ratio_add pass0
end
theorem own2_leaf {C : Addr} {H : Hp} {Q : VK} {p q : Addr} {t b t2 b2 : Int} {f g : Int → Int → Int → Int → Int} (r : Rat C H p t b) (r2 : Rat C H q t2 b2) (z1 : Sz 1000 t) (z2 : Sz 1000 b) (z3 : Sz 1000 t2) (z4 : Sz 1000 b2)
    (k : ∀ q H' u l, Same H H' → Rat C H' q u l → Nrm (f t b t2 b2) (g t b t2 b2) u l → Q (.ref q) H') : rOwn2 C (spBin C f g) E0 (.ref p) (.ref q) H Q := by
  obtain ⟨dx, h1⟩ := r.ob
  obtain ⟨dy, h2⟩ := r2.ob
  exact ⟨p, q, dx, _, dy, _, rfl, rfl, h1, h2, p, .ref q, t, b, t2, b2, rfl, r, .inr ⟨q, rfl, r2⟩, z1, z2, z3, z4, k⟩
abbrev spMul (C : Addr) : Sp := spBin C (fun t b t2 b2 => t * t2) fun t b t2 b2 => b * b2
theorem ok_Ratio_mul (T : Txt K mg a) : FnOk P w K mg base CX0 5 a.f_Ratio_mul a.d_Ratio_mul ["self", "other"] (spMul a.C_Ratio) := by
  refine T.F_Ratio_mul.ok sc_Ratio_mul (fun vs H Q E h => ?_) (fun cdv A outer s H vs Q E hr h => ?_)
  · obtain ⟨p, x, t, b, t2, b2, rfl, _⟩ := h
    rfl
  · obtain ⟨p, x, t, b, t2, b2, rfl, r, f, z1, z2, z3, z4, k⟩ := h
    refine ⟨_, (pss_cons (ps_if (pt_not (pt_val (pe_call (ok_is_fraction T) (hr.mono (by decide)) (by rfl) T.m_is_fraction T.F_is_fraction.kp T.b_is_fraction .nil pass0 (pa_cons (pv 1) pa_nil)))) (pss_one ps_never) pss_nil)
      (pss_cons (ps_set (i := 2) sc_Ratio_mul.nd rfl (Or.inl rfl) (pe_call (ok_as_ratio T) (hr.mono (by decide)) (by rfl) T.m_as_ratio T.F_as_ratio.kp T.b_as_ratio .nil pass0 (pa_cons (pv 1) pa_nil)))
      (pss_one (ps_ret (pe_make T.mk_Ratio (ok_Ratio_init T) (hr.mono (by decide)) (by rfl) T.m_Ratio (bd_Ratio T) .nil pass0 (pa_cons (pe_op op_mulW (pe_fld (pv 0) rfl) (pe_fld (pv 2) rfl)) (pa_cons (pe_op op_mulW (pe_fld (pv 0) rfl) (pe_fld (pv 2) rfl)) pa_nil))))))), ?_⟩
    walk_at "r"
    refine frac_leaf f ?_
    walk_at "r"
    refine iteF ?_
    walk_at "r"
    refine as_leaf f fun p2 H1 e1 r2 => ?_
    have r1 := r.same e1
    walk_at "r"
    repeat walk_at "f"
    exact mk_leaf (Int.mul_pos r.pos r2.pos) ((z2.mul z4).mono (by decide)) fun q H2 u l _ e2 r3 n => k q H2 u l (e1.trans e2) r3 n
theorem oMultqq {X : Cx} (T : Txt X.K X.mg a) (hr : Room 5 X.A) : OpR X (binaryOp .Mult) (rOwn2 a.C_Ratio (spMul a.C_Ratio) E0) := op_own2 T.sf T.me_Ratio_mul.at_ T.me_Ratio_mul.fn (ok_Ratio_mul T) hr T.b_Ratio_mul pass0
/-! ### comparisons -/
def spEq (K : PySem.W.Frag) (C : Addr) : Sp := fun vs H Q _ => ∃ p x t b, vs = [.ref p, x] ∧ Rat C H p t b ∧ ((∃ t2 b2, Frn C H x t2 b2 ∧ ∀ k H', Same H H' → (k = true ↔ t = t2 ∧ b = b2) → Q (.bl k) H') ∨ (NotFr K C H x ∧ Q (.bl false) H))
theorem ok_Ratio_eq (T : Txt K mg a) : FnOk P w K mg base CX0 5 a.f_Ratio_eq a.d_Ratio_eq ["self", "other"] (spEq K a.C_Ratio) := by
  refine T.F_Ratio_eq.ok sc_Ratio_eq (fun vs H Q E h => ?_) (fun cdv A outer s H vs Q E hr h => ?_)
  · obtain ⟨p, x, t, b, rfl, _⟩ := h
    rfl
  · obtain ⟨p, x, t, b, rfl, r, h⟩ := h
    refine ⟨_, (pss_cons (ps_if (pt_not (pt_val (pe_call (ok_is_fraction T) (hr.mono (by decide)) (by rfl) T.m_is_fraction T.F_is_fraction.kp T.b_is_fraction .nil pass0 (pa_cons (pv 1) pa_nil)))) (pss_one (ps_ret pe_bl)) pss_nil)
      (pss_cons (ps_set (i := 2) sc_Ratio_eq.nd rfl (Or.inl rfl) (pe_call (ok_as_ratio T) (hr.mono (by decide)) (by rfl) T.m_as_ratio T.F_as_ratio.kp T.b_as_ratio .nil pass0 (pa_cons (pv 1) pa_nil)))
      (pss_one (ps_ret (pe_and (pe_cmpR op_eq (pe_fld (pv 0) rfl) (pe_fld (pv 2) rfl) (nomark _)) (pe_one (pe_cmpR op_eq (pe_fld (pv 0) rfl) (pe_fld (pv 2) rfl) (nomark _)))))))), ?_⟩
    walk_at "r"
    rcases h with ⟨t2, b2, f, k⟩ | ⟨nf, k⟩
    · refine frac_leaf f ?_
      walk_at "r"
      refine iteF ?_
      walk_at "r"
      refine as_leaf f fun p2 H1 e1 r2 => ?_
      have r1 := r.same e1
      walk_at "r"
      repeat walk_at "f"
      refine w_iteD (fun c => ?_) (fun c => ?_)
      · walk_at "r"
        repeat walk_at "f"
        refine k _ H1 e1 ?_
        rw [decide_eq_true_iff]
        exact ⟨fun c2 => ⟨V.int.inj c, V.int.inj c2⟩, fun c2 => by rw [c2.2]⟩
      · exact k false H1 e1 ⟨fun z => Bool.noConfusion z, fun c2 => absurd (by rw [c2.1]) c⟩
    · refine ⟨x, rfl, .inr ⟨nf, ?_⟩⟩
      walk_at "r"
      exact iteT k
theorem oEqq {X : Cx} (T : Txt X.K X.mg a) (hr : Room 5 X.A) : OpR X (compareOp .Eq) (rEqO X.K a.C_Ratio (spEq X.K a.C_Ratio) E0) := op_eqO T.me_Ratio_eq.at_ T.me_Ratio_eq.fn (ok_Ratio_eq T) hr T.b_Ratio_eq pass0
abbrev oEqqq := @oEqq
abbrev oEqqi := @oEqq
theorem oNotEqqq {X : Cx} (T : Txt X.K X.mg a) (hr : Room 6 X.A) : OpR X (compareOp .NotEq) (rNeO a.C_Ratio (spEq X.K a.C_Ratio) E0) := op_neO T.me_Ratio_eq.at_ T.me_Ratio_eq.fn T.ne T.ob (ok_Ratio_eq T) hr T.b_Ratio_eq pass0
theorem oAddqi {X : Cx} (T : Txt X.K X.mg a) (hr : Room 5 X.A) : OpR X (binaryOp .Add) (rOwnI a.C_Ratio (spAdd a.C_Ratio) E0) := by
  obtain ⟨_, h1⟩ := T.iAdd
  obtain ⟨_, h2⟩ := T.iRadd
  exact op_ownI T.sf T.me_Ratio_add.at_ T.me_Ratio_add.fn T.me_Ratio_radd.at_ (.inr ⟨_, rfl⟩) h1 h2 T.sIR (ok_Ratio_add T) hr T.b_Ratio_add pass0
theorem oMultqi {X : Cx} (T : Txt X.K X.mg a) (hr : Room 5 X.A) : OpR X (binaryOp .Mult) (rOwnI a.C_Ratio (spMul a.C_Ratio) E0) := by
  obtain ⟨_, h1⟩ := T.iMul
  obtain ⟨_, h2⟩ := T.iRmul
  exact op_ownI T.sf T.me_Ratio_mul.at_ T.me_Ratio_mul.fn T.me_Ratio_rmul.at_ (.inr ⟨_, rfl⟩) h1 h2 T.sIR (ok_Ratio_mul T) hr T.b_Ratio_mul pass0
theorem ownI_leaf {C : Addr} {H : Hp} {Q : VK} {p : Addr} {t b n : Int} {f g : Int → Int → Int → Int → Int} (r : Rat C H p t b) (z1 : Sz 1000 t) (z2 : Sz 1000 b) (z3 : Sz 1000 n)
    (k : ∀ q H' u l, Same H H' → Rat C H' q u l → Nrm (f t b n 1) (g t b n 1) u l → Q (.ref q) H') : rOwnI C (spBin C f g) E0 (.ref p) (.int n) H Q := by
  obtain ⟨dx, h1⟩ := r.ob
  exact ⟨p, dx, _, n, rfl, rfl, h1, p, .int n, t, b, n, 1, rfl, r, .inl ⟨rfl, rfl⟩, z1, z2, z3, Sz.one, k⟩
end
end RK4


namespace RK4
open PySem PySem.Spec L2 RK RZ StX
theorem none_of {H H' : Hp} {q : Addr} (e : Same H H') (h : H' q = none) : H q = none := by
  cases z : H q with
  | none => rfl
  | some o => rw [e _ _ z] at h; cases h
/-! ### pairs of a letter and a number -/
/-- tuples of two at the places as -/
def Pr (H : Hp) (as : List Addr) (ps : List (Str × Int)) : Prop := as.length = ps.length ∧ ∀ (i : Nat) (q : Addr) (p : Str × Int), as[i]? = some q → ps[i]? = some p → H q = some (.tup [.str p.1, .int p.2])
theorem Pr.same {H H' : Hp} {as : List Addr} {ps : List (Str × Int)} (h : Pr H as ps) (e : Same H H') : Pr H' as ps := ⟨h.1, fun i q p a b => e _ _ (h.2 i q p a b)⟩
theorem Pr.at_ {H : Hp} {as : List Addr} {ps : List (Str × Int)} (h : Pr H as ps) {i : Nat} {v : V} (e : (as.map V.ref)[i]? = some v) : ∃ q p, v = .ref q ∧ as[i]? = some q ∧ ps[i]? = some p ∧ H q = some (.tup [.str p.1, .int p.2]) := by
  rw [List.getElem?_map] at e
  cases a : as[i]? with
  | none => rw [a] at e; cases e
  | some q =>
    rw [a] at e
    cases e
    have hi := (List.getElem?_eq_some_iff.mp a).1
    have hj : i < ps.length := by rw [← h.1]; exact hi
    exact ⟨q, ps[i], rfl, rfl, List.getElem?_eq_getElem hj, h.2 i q _ a (List.getElem?_eq_getElem hj)⟩
def Prs (K : PySem.W.Frag) (H : Hp) (t : Addr) (ps : List (Str × Int)) : Prop := ∃ as, SqT K H t (as.map V.ref) ∧ Pr H as ps
theorem Prs.same {K : PySem.W.Frag} {H H' : Hp} {t : Addr} {ps : List (Str × Int)} (h : Prs K H t ps) (e : Same H H') : Prs K H' t ps := let ⟨as, a, b⟩ := h; ⟨as, seqT_same e a, b.same e⟩
/-- one small letter -/
def Let (s : Str) (c : Nat) : Prop := s = ⟨#[c]⟩ ∧ 97 ≤ c ∧ c ≤ 122
/-- letters, each above the one before, numbers other than 0, none too large -/
structure Good (ps : List (Str × Int)) : Prop where
  few : ps.length ≤ 6
  let_ : ∀ p ∈ ps, ∃ c, Let p.1 c
  up : ∀ i p q, ps[i]? = some p → ps[i + 1]? = some q → p.1.cps.toList < q.1.cps.toList
  ne : ∀ p ∈ ps, p.2 ≠ 0
  sz : ∀ p ∈ ps, p.2.natAbs ≤ 10 ^ 30
section
variable {P : Program} {w : World} {K : PySem.W.Frag} {mg : Str → Option Value} {base : Heap} {a : Ad}
def spLetter : Sp := fun vs H Q _ => ∃ s c, vs = [.str s] ∧ Let s c ∧ Q (.bl true) H
theorem ok_is_small_letter (T : Txt K mg a) : FnOk P w K mg base CX0 1 a.f_is_small_letter a.d_is_small_letter ["value"] spLetter := by
  refine T.F_is_small_letter.ok sc_is_small_letter (fun vs H Q E h => ?_) (fun cdv A outer s H vs Q E hr h => ?_)
  · obtain ⟨s, c, rfl, _⟩ := h
    rfl
  · obtain ⟨s, c, rfl, ⟨rfl, h1, h2⟩, k⟩ := h
    refine ⟨_, (pss_one (ps_ret (pe_and (pe_callB call_isi (by rfl) T.z_isinstance (by decide +kernel) (pa_cons (pv 0) (pa_cons (pe_bltn (v := .ty "str") (by rfl) T.z_str (by decide +kernel) rfl) pa_nil))) (pe_and (pe_cmpR op_eq (pe_callB cr_len (by rfl) T.z_len PySem.boot_len (pa_cons (pv 0) pa_nil)) pe_int (nomark _)) (pe_one (pe_chain op_le_str op_le_str pe_str (pv 0) pe_str)))))), ?_⟩
    walk_at "r"
    refine ⟨.str ⟨#[c]⟩, .ty "str", .type "str", .type "str", true, rfl, .ty _, .base (.str _), kit_ty (by decide +kernel), true, rfl, ?_⟩
    refine iteT ?_
    walk_at "r"
    refine ⟨.str ⟨#[c]⟩, _, rfl, ⟨by show 1 ≤ sizeLine; decide, rfl⟩, ?_⟩
    walk_at "r"
    rw [if_pos (by rfl)]
    have lt1 : ∀ x y : Nat, decide (([x] : List Nat) < [y]) = decide (x < y) := fun x y => by rw [StrLaws.lt_cons_cons, StrLaws.lt_nil_nil, Bool.and_false, Bool.or_false]
    refine w_c ?_
    walk_at "r"
    refine ⟨"a", ⟨#[c]⟩, rfl, rfl, ?_⟩
    rw [show (("a" : Str)).cps.toList = [97] from by decide +kernel]
    show ∃ k, V.bl (!decide (([c] : List Nat) < [97])) = .bl k ∧ _
    rw [lt1, decide_eq_false (by omega)]
    refine ⟨true, rfl, iteT ?_⟩
    walk_at "r"
    refine ⟨⟨#[c]⟩, "z", rfl, rfl, ?_⟩
    rw [show (("z" : Str)).cps.toList = [122] from by decide +kernel]
    show Q (.bl (!decide (([122] : List Nat) < [c]))) H
    rw [lt1, decide_eq_false (by omega)]
    exact k
/-- a term of a letter and a number -/
def spTerm : Sp := fun vs H Q _ => ∃ q s c z, vs = [.ref q] ∧ H q = some (.tup [.str s, .int z]) ∧ Let s c ∧ z ≠ 0 ∧ Q (.bl true) H
theorem ok_is_term (T : Txt K mg a) : FnOk P w K mg base CX0 2 a.f_is_term a.d_is_term ["value"] spTerm := by
  refine T.F_is_term.ok sc_is_term (fun vs H Q E h => ?_) (fun cdv A outer s H vs Q E hr h => ?_)
  · obtain ⟨q, s, c, z, rfl, _⟩ := h
    rfl
  · obtain ⟨q, s, c, z, rfl, hq, hl, hz, k⟩ := h
    refine ⟨_, (pss_cons (ps_if (PW.pt (pw_or (pt_not (pt_val (pe_callB call_isi (by rfl) T.z_isinstance (by decide +kernel) (pa_cons (pv 0) (pa_cons (pe_bltn (v := .ty "tuple") (by rfl) T.z_tuple (by decide +kernel) rfl) pa_nil))))) (pw_or1 (pt_cmpR op_ne (pe_callB cr_len (by rfl) T.z_len PySem.boot_len (pa_cons (pv 0) pa_nil)) pe_int (nomark _))))) (pss_one (ps_ret pe_bl)) pss_nil)
      (pss_one (ps_ret (pe_and (pe_call (ok_is_small_letter T) (hr.mono (by decide)) (by rfl) T.m_is_small_letter T.F_is_small_letter.kp T.b_is_small_letter .nil pass0 (pa_cons (pe_ix ix_tup (pv 0) pe_int (fun _ _ => rfl)) pa_nil)) (pe_and (pe_call (ok_is_whole T) (hr.mono (by decide)) (by rfl) T.m_is_whole T.F_is_whole.kp T.b_is_whole .nil pass0 (pa_cons (pe_ix ix_tup (pv 0) pe_int (fun _ _ => rfl)) pa_nil)) (pe_one (pe_cmpR op_ne (pe_ix ix_tup (pv 0) pe_int (fun _ _ => rfl)) pe_int (nomark _)))))))), ?_⟩
    walk_at "r"
    refine ⟨.ref q, .ty "tuple", .type "tuple", .type "tuple", true, rfl, .ty _, .base (.tup hq), kit_ty (by decide +kernel), ?_⟩
    walk_at "r"
    rw [if_neg (by decide)]
    walk_at "r"
    refine w_lenT (SqT.of hq) ?_
    walk_at "r"
    rw [if_neg (by simp)]
    walk_at "r"
    refine ⟨s, c, rfl, hl, ?_⟩
    refine ⟨true, rfl, iteT ?_⟩
    walk_at "r"
    refine whole_int ?_
    refine ⟨true, rfl, iteT ?_⟩
    walk_at "r"
    show Q (.bl (!decide (V.int z = V.int 0))) H
    rw [show (!decide (V.int z = V.int 0)) = true from by simp [hz]]
    exact k
/-- terms of letters that rise -/
def spTerms (K : PySem.W.Frag) : Sp := fun vs H Q _ => ∃ t ps, vs = [.ref t] ∧ Prs K H t ps ∧ Good ps ∧ ∀ H', Same H H' → Q (.bl true) H'
theorem ok_are_terms (T : Txt K mg a) : FnOk P w K mg base CX0 3 a.f_are_terms a.d_are_terms ["value"] (spTerms K) := by
  refine T.F_are_terms.ok sc_are_terms (fun vs H Q E h => ?_) (fun cdv A outer s H vs Q E hr h => ?_)
  · obtain ⟨t, ps, rfl, _⟩ := h
    rfl
  · obtain ⟨t, ps, rfl, ⟨as, ht, hp⟩, g, k⟩ := h
    refine ⟨_, (pss_cons (ps_if (PW.pt (pw_or (pt_not (pt_val (pe_callB call_isi (by rfl) T.z_isinstance (by decide +kernel) (pa_cons (pv 0) (pa_cons (pe_bltn (v := .ty "tuple") (by rfl) T.z_tuple (by decide +kernel) rfl) pa_nil))))) (pw_or1 (pt_not (pt_val (pe_callB (cr_all rfl) (by rfl) T.z_all (by decide +kernel) (pa_cons (pe_lc (own := [("term", 1)]) (g := gName 1) (tt := tYes) rfl sc_are_terms.nd (pi_tup (pv 0)) (blkOk_by (own := [("term", 1)]) (N := ["value", "term", "one", "other"]) (sc := defScope s_are_terms) (by decide +kernel)) (fun _ _ _ _ _ => pg_name (i := 1) sc_are_terms.nd rfl (Or.inl rfl)) (fun _ _ _ _ _ => pts_nil) (fun _ _ _ _ _ => by exact (pe_call (ok_is_term T) (hr.mono (by decide)) (by rfl) T.m_is_term T.F_is_term.kp T.b_is_term .nil pass0 (pa_cons (pv 1) pa_nil)))) pa_nil))))))) (pss_one (ps_ret pe_bl)) pss_nil)
      (pss_one (ps_ret (pe_callB (cr_all rfl) (by rfl) T.z_all (by decide +kernel) (pa_cons (pe_lc (own := [("one", 2), ("other", 3)]) (g := gTup K 2 (gCons (gName 2) (gCons (gName 3) gNil))) (tt := tYes) rfl sc_are_terms.nd (pi_zipA (by rfl) T.z_zip (pa_cons (pv 0) (pa_cons (pe_slice sl_tupA (pv 0) (po_some pe_int) po_none) pa_nil))) (blkOk_by (own := [("one", 2), ("other", 3)]) (N := ["value", "term", "one", "other"]) (sc := defScope s_are_terms) (by decide +kernel)) (fun _ _ _ _ _ => by exact pg_tup (n := 2) rfl (pgs_cons (pg_name (i := 2) sc_are_terms.nd rfl (Or.inl rfl)) (pgs_cons (pg_name (i := 3) sc_are_terms.nd rfl (Or.inl rfl)) pgs_nil))) (fun _ _ _ _ _ => pts_nil) (fun _ _ _ _ _ => by exact (pe_cmpR op_lt_str (pe_ix (show IxR _ (rIxT K) from ix_tup) (pv 2) pe_int (fun _ _ => rfl)) (pe_ix (show IxR _ (rIxT K) from ix_tup) (pv 3) pe_int (fun _ _ => rfl)) (nomark _)))) pa_nil))))), ?_⟩
    have few := g.few
    have len : (as.map V.ref).length ≤ 6 := by rw [List.length_map, hp.1]; exact few
    walk_at "r"
    refine ⟨.ref t, .ty "tuple", .type "tuple", .type "tuple", true, rfl, .ty _, tyT ht, kit_ty (by decide +kernel), ?_⟩
    walk_at "r"
    rw [if_neg (by decide)]
    walk_at "r"
    refine w_lcT ?_
    walk_at "r"
    refine lcT_leaf (fun _ v _ => v = .bl true) (fun _ _ _ _ _ h => h) ht (by omega) (fun i x H' hx e Q' kq => ?_) (fun D ys H1 nD e1 hD hl hP => ?_)
    · obtain ⟨q, p, rfl, h1, h2, h3⟩ := hp.at_ hx
      walk_at "r"
      refine ⟨rfl, ?_⟩
      walk_at "r"
      obtain ⟨c, hc⟩ := g.let_ p (List.mem_of_getElem? h2)
      exact ⟨q, p.1, c, p.2, rfl, e _ _ h3, hc, g.ne p (List.mem_of_getElem? h2), kq _ _ (w_same _) rfl⟩
    walk_at "r"
    refine all_P hD hP ?_
    refine ⟨true, rfl, ?_⟩
    rw [if_neg (by decide)]
    walk_at "r"
    refine w_zip ?_
    walk_at "r"
    refine ⟨t, _, rfl, seqT_same e1 ht, fun hw => ?_, fun hw p np => ?_⟩
    · walk_at "r"
      have z0 : as = [] := by
        have w1 := hw.1
        unfold HT.sIx at w1
        cases as with
        | nil => rfl
        | cons q r => simp at w1
      refine zip_leaf (seqT_same e1 ht) (seqT_same e1 ht) (by omega) (fun n x y H' hx hy e => by rw [z0] at hx; simp at hx) (fun D zs H2 nD e2 hD hP => ?_)
      walk_at "r"
      exact all_P hD hP (k _ (e1.trans e2))
    · have e2 := w_new (o := .tup (cutV (as.map V.ref) (some 1) none)) np
      have i2 : upd H1 p (.tup (cutV (as.map V.ref) (some 1) none)) p = some (.tup (cutV (as.map V.ref) (some 1) none)) := upd_same
      generalize upd H1 p (.tup (cutV (as.map V.ref) (some 1) none)) = H2 at e2 i2 ⊢
      have ec : ∀ n, (cutV (as.map V.ref) (some 1) none)[n]? = (as.map V.ref)[n + 1]? ∨ (cutV (as.map V.ref) (some 1) none)[n]? = none := fun n => by
        rw [cut1, List.getElem?_drop, Nat.add_comm 1 n]
        exact .inl rfl
      walk_at "r"
      refine zip_leaf (seqT_same (e1.trans e2) ht) (SqT.of i2) (by omega) (fun n x y H' hx hy e => ?_) (fun D zs H3 nD e3 hD hP => ?_)
      · obtain ⟨q, u, rfl, b1, b2, b3⟩ := hp.at_ hx
        have hy' : (as.map V.ref)[n + 1]? = some y := by
          rcases ec n with z | z
          · rw [← z]; exact hy
          · rw [z] at hy; cases hy
        obtain ⟨q', u', rfl, b1', b2', b3'⟩ := hp.at_ hy'
        have e' := (e1.trans e2).trans e
        have f1 := e' _ _ b3
        have f2 := e' _ _ b3'
        refine ⟨rfl, fun Q' kq => ?_⟩
        walk_at "r"
        refine ⟨_, _, rfl, rfl, ?_⟩
        rw [decide_eq_true (g.up n u u' b2 b2')]
        exact kq _ (w_same _)
      · walk_at "r"
        exact all_P hD hP (k _ ((e1.trans e2).trans e3))
/-! ### the making -/
def ffs (c : Int) (t : Addr) (nm : Str) : List (Str × V) := [(("constant" : Str), .int c), (("terms" : Str), .ref t), (("names" : Str), .str nm)]
theorem k_tc : (("terms" : Str) == ("constant" : Str)) = false := by decide +kernel
theorem k_nc : (("names" : Str) == ("constant" : Str)) = false := by decide +kernel
theorem k_nt : (("names" : Str) == ("terms" : Str)) = false := by decide +kernel
theorem ffs_c (c : Int) (t : Addr) (nm : Str) : (ffs c t nm).lookup ("constant" : Str) = some (.int c) := by simp [ffs, List.lookup]
theorem ffs_t (c : Int) (t : Addr) (nm : Str) : (ffs c t nm).lookup ("terms" : Str) = some (.ref t) := by simp [ffs, List.lookup, k_tc]
theorem ffs_no (c : Int) (t : Addr) (nm : Str) {m : Str} (h1 : (m == ("constant" : Str)) = false) (h2 : (m == ("terms" : Str)) = false) (h3 : (m == ("names" : Str)) = false) : (ffs c t nm).lookup m = none := by simp [ffs, List.lookup, h1, h2, h3]
theorem ffs_put (c : Int) (t : Addr) (nm : Str) : putF "names" (.str nm) (putF "terms" (.ref t) (putF "constant" (.int c) [])) = ffs c t nm := by
  have a : ¬ (("constant" : Str) = "terms") := by decide +kernel
  have b : ¬ (("constant" : Str) = "names") := by decide +kernel
  have d : ¬ (("terms" : Str) = "names") := by decide +kernel
  have e1 : putF "terms" (.ref t) (putF "constant" (.int c) []) = [(("constant" : Str), V.int c), (("terms" : Str), V.ref t)] := by
    show (if ("constant" : Str) = "terms" then [(("constant" : Str), V.ref t)] else (("constant" : Str), V.int c) :: putF "terms" (V.ref t) []) = _
    rw [if_neg a]
    all_goals rfl
  rw [e1]
  show (if ("constant" : Str) = "names" then (("constant" : Str), V.str nm) :: [(("terms" : Str), V.ref t)] else (("constant" : Str), V.int c) :: (if ("terms" : Str) = "names" then [(("terms" : Str), V.str nm)] else (("terms" : Str), V.ref t) :: putF "names" (V.str nm) [])) = _
  rw [if_neg b, if_neg d]
  all_goals rfl
theorem Prs.upd {K : PySem.W.Frag} {H : Hp} {t p C dx : Addr} {fs : List (Str × V)} {o : HO} {ps : List (Str × Int)} (h : Prs K H t ps) (hp : H p = some (.ins C dx fs)) : Prs K (upd H p o) t ps := by
  obtain ⟨as, ht, hq⟩ := h
  have other : ∀ {c : Addr} {u : HO}, H c = some u → (∀ C dx fs, u ≠ .ins C dx fs) → c ≠ p := fun {c u} e n z => by rw [z, hp] at e; cases e; exact n _ _ _ rfl
  refine ⟨as, ?_, hq.1, fun i q u a b => ?_⟩
  · rcases ht with (h | ⟨o', h⟩) | h
    · exact .inl (.inl (by rw [upd_ne (other h fun _ _ _ z => by cases z)]; exact h))
    · exact .inl (.inr ⟨o', by rw [upd_ne (other h fun _ _ _ z => by cases z)]; exact h⟩)
    · exact .inr h
  · have e := hq.2 i q u a b
    rw [upd_ne (other e fun _ _ _ z => by cases z)]
    exact e
/-- the letters -/
def nms (ps : List (Str × Int)) : Str := Txt.join "" (ps.map fun u => u.1)
/-- a Form stands at p -/
structure Frm (K : PySem.W.Frag) (C : Addr) (H : Hp) (p : Addr) (c : Int) (ps : List (Str × Int)) : Prop where
  ob : ∃ dx t, H p = some (.ins C dx (ffs c t (nms ps))) ∧ Prs K H t ps
  good : Good ps
theorem Frm.same {C : Addr} {H H' : Hp} {p : Addr} {c : Int} {ps : List (Str × Int)} (r : Frm K C H p c ps) (e : Same H H') : Frm K C H' p c ps := let ⟨dx, t, h, q⟩ := r.ob; ⟨⟨dx, t, e _ _ h, q.same e⟩, r.good⟩
def spFinit (K : PySem.W.Frag) (C : Addr) : Sp := fun vs H Q _ => ∃ (p dx : Addr) (c : Int) (t : Addr) (ps : List (Str × Int)), vs = [.ref p, .int c, .ref t] ∧ H p = some (.ins C dx []) ∧ Prs K H t ps ∧ Good ps ∧
  ∀ H', H' p = some (.ins C dx (ffs c t (nms ps))) → (∀ d o, d ≠ p → H d = some o → H' d = some o) → Q .non H'
theorem ok_Form_init (T : Txt K mg a) : FnOk P w K mg base CX0 4 a.f_Form_init a.d_Form_init ["self", "constant", "terms"] (spFinit K a.C_Form) := by
  refine T.F_Form_init.ok sc_Form_init (fun vs H Q E h => ?_) (fun cdv A outer s H vs Q E hr h => ?_)
  · obtain ⟨p, dx, c, t, ps, rfl, _⟩ := h
    rfl
  · obtain ⟨p, dx, c, t, ps, rfl, hp, hps, g, k⟩ := h
    refine ⟨_, PSs.nox ((pss_cons (ps_if (pt_not (pt_val (pe_call (ok_is_whole T) (hr.mono (by decide)) (by rfl) T.m_is_whole T.F_is_whole.kp T.b_is_whole .nil pass0 (pa_cons (pv 1) pa_nil)))) (pss_one ps_never) pss_nil)
      (pss_cons (ps_if (pt_not (pt_val (pe_call (ok_are_terms T) (hr.mono (by decide)) (by rfl) T.m_are_terms T.F_are_terms.kp T.b_are_terms .nil pass0 (pa_cons (pv 2) pa_nil)))) (pss_one ps_never) pss_nil)
      (pss_cons (ps_fld (pv 0) (pv 1) rfl)
      (pss_cons (ps_fld (pv 0) (pv 2) rfl)
      (pss_one (ps_fld (pv 0) (pe_join pe_str (pe_lc (own := [("name", 3), ("_", 4)]) (g := gTup K 2 (gCons (gName 3) (gCons (gName 4) gNil))) (tt := tYes) rfl sc_Form_init.nd (pi_tup (pv 2)) (blkOk_by (own := [("name", 3), ("_", 4)]) (N := ["self", "constant", "terms", "name", "_"]) (sc := defScope s_Form_init) (by decide +kernel)) (fun _ _ _ _ _ => by exact pg_tup (n := 2) rfl (pgs_cons (pg_name (i := 3) sc_Form_init.nd rfl (Or.inl rfl)) (pgs_cons (pg_name (i := 4) sc_Form_init.nd rfl (Or.inl rfl)) pgs_nil))) (fun _ _ _ _ _ => pts_nil) (fun _ _ _ _ _ => by exact (pv 3)))) rfl))))))), ?_⟩
    walk_at "r"
    refine whole_int ?_
    refine ⟨true, rfl, ?_⟩
    rw [if_neg (by decide)]
    walk_at "r"
    refine ⟨t, ps, rfl, hps, g, fun H1 e1 => ?_⟩
    refine ⟨true, rfl, ?_⟩
    rw [if_neg (by decide)]
    walk_at "r"
    refine ⟨p, _, dx, _, rfl, e1 _ _ hp, T.cl_Form, T.fC, by decide, ?_⟩
    walk_at "r"
    refine ⟨p, _, dx, _, rfl, upd_same, T.cl_Form, T.fT, by show 1 < 1000; decide, ?_⟩
    rw [upd_upd]
    walk_at "r"
    have e0 := e1 _ _ hp
    generalize hH2 : upd H1 p (.ins a.C_Form dx (putF "terms" (.ref t) (putF "constant" (.int c) []))) = H2
    have at2 : H2 p = some (.ins a.C_Form dx (putF "terms" (.ref t) (putF "constant" (.int c) []))) := by rw [← hH2, upd_same]
    have ps2 : Prs K H2 t ps := by
      rw [← hH2]
      exact (hps.same e1).upd e0
    have kp2 : ∀ d o, d ≠ p → H d = some o → H2 d = some o := fun d o n h => by rw [← hH2, upd_ne n]; exact e1 _ _ h
    obtain ⟨as, ht2, hp2⟩ := ps2
    have few := g.few
    refine ⟨⟨_, rfl⟩, ?_⟩
    refine w_lcT ?_
    walk_at "r"
    refine lcT_leaf (fun i v _ => ∃ u, ps[i]? = some u ∧ v = .str u.1) (fun _ _ _ _ _ h => h) ht2 (by rw [List.length_map, hp2.1]; omega) (fun i x H' hx e Q' kq => ?_) (fun D ys H3 nD e3 hD hl hP => ?_)
    · obtain ⟨q, u, rfl, b1, b2, b3⟩ := hp2.at_ hx
      refine g_two (e _ _ b3) ⟨rfl, ?_⟩
      walk_at "r"
      exact kq _ _ (w_same _) ⟨u, b2, rfl⟩
    have ey := eq_map (ps := ps) (fun u => V.str u.1) (by rw [hl, List.length_map, hp2.1]) hP
    have ey2 : ys = (ps.map fun u => u.1).map V.str := by rw [ey, List.map_map]; rfl
    have sm : ((ps.map fun u => u.1).map fun x => x.length).sum ≤ (ps.map fun u => u.1).length * 1 := sum_le fun x hx => by
      obtain ⟨u, hu, rfl⟩ := List.mem_map.mp hx
      obtain ⟨ch, e, _⟩ := g.let_ u hu
      rw [e]
      exact Nat.le_refl 1
    rw [List.length_map] at sm
    refine ⟨"", D, ps.map fun u => u.1, rfl, rfl, .inl (by rw [← ey2]; exact SqL.of hD), ?_, ?_⟩
    · show _ + _ * 0 ≤ _
      omega
    walk_at "r"
    refine ⟨p, _, dx, _, rfl, e3 _ _ at2, T.cl_Form, T.fN, by show 2 < 1000; decide, ?_⟩
    refine k _ (Eq.trans upd_same (congrArg (fun l => some (HO.ins a.C_Form dx l)) (ffs_put _ _ _))) fun d o n h => ?_
    rw [upd_ne n]
    exact e3 _ _ (kp2 d o n h)
theorem bd_Form (T : Txt K mg a) : L2.Binds K a.d_Form_init ["self", "constant", "terms"] [] := by
  obtain ⟨ds, v, b⟩ := T.F_Form_init.binds1 (ps := ["self", "constant", "terms"]) 3 2 (by simp) rfl (fun _ _ _ _ _ _ _ us its h1 h2 => match us, its, h1, h2 with | [_, _, _], [_, _], _, _ => ⟨_, rfl, rfl⟩)
  cases v
  exact b
theorem bd1_Form (T : Txt K mg a) : ∃ ds, L2.Vals [.ref a.E0] ds ∧ L2.Binds K a.d_Form_init ["self", "constant", "terms"] ds :=
  T.F_Form_init.binds1 (ps := ["self", "constant", "terms"]) 2 1 (by simp) rfl (fun _ _ _ _ _ _ _ us its h1 h2 => match us, its, h1, h2 with | [_, _], [_, _], _, _ => ⟨_, rfl, rfl⟩)
theorem bd0_Form (T : Txt K mg a) : ∃ ds, L2.Vals [.int 0, .ref a.E0] ds ∧ L2.Binds K a.d_Form_init ["self", "constant", "terms"] ds :=
  T.F_Form_init.binds1 (ps := ["self", "constant", "terms"]) 1 0 (by simp) rfl (fun _ _ _ _ _ _ _ us its h1 h2 => match us, its, h1, h2 with | [_], [_, _], _, _ => ⟨_, rfl, rfl⟩)
theorem mkF_leaf {C : Addr} {H : Hp} {Q : VK} {c : Int} {t : Addr} {ps : List (Str × Int)} (hps : Prs K H t ps) (g : Good ps) (k : ∀ p H', H p = none → Same H H' → Frm K C H' p c ps → Q (.ref p) H') : MkL C (spFinit K C) E0 [.int c, .ref t] H Q := by
  intro p dx hp hdx hne
  have e0 : Same H (upd (upd H dx (.own p)) p (.ins C dx [])) := fun c o q => by
    rw [upd_ne (ne_of_none q hp), upd_ne (ne_of_none q hdx)]
    exact q
  refine ⟨p, dx, c, t, ps, rfl, upd_same, hps.same e0, g, fun H' e kp => ⟨rfl, ?_⟩⟩
  have e1 : Same H H' := fun c o q => kp c o (ne_of_none q hp) (e0 _ _ q)
  exact k p H' hp e1 ⟨⟨dx, t, e, hps.same e1⟩, g⟩
end
end RK4


namespace RK4
open PySem PySem.Spec L2 RK RZ StX PyProof.Rows
/-! ### the six letters -/
def lts : List Str := ["a", "b", "c", "x", "y", "z"]
def rk (s : Str) : Nat := s.cps.toList.headD 0
theorem lts_le : ∀ a ∈ lts, ∀ b ∈ lts, ltCps b.cps.toList a.cps.toList = false → rk a ≤ rk b := by decide +kernel
theorem lts_inj : ∀ a ∈ lts, ∀ b ∈ lts, rk a ≤ rk b → rk b ≤ rk a → a = b := by decide +kernel
theorem lts_pw : lts.Pairwise (fun a b => rk a ≤ rk b) := by decide +kernel
theorem lts_nd : lts.Nodup := by decide +kernel
theorem lts_let : ∀ s ∈ lts, s = ⟨#[rk s]⟩ ∧ 97 ≤ rk s ∧ rk s ≤ 122 := by decide +kernel
theorem lts_lt : ∀ a ∈ lts, ∀ b ∈ lts, rk a < rk b → a.cps.toList < b.cps.toList := by decide +kernel
theorem rising_pw : ∀ (r : List Str) (p : Str), p ∈ lts → (∀ y ∈ r, y ∈ lts) → risingS p r = true → (p :: r).Pairwise (fun a b => rk a ≤ rk b)
  | [], p, _, _, _ => List.pairwise_singleton _ _
  | x :: r, p, hp, hr, h => by
    unfold risingS at h
    obtain ⟨h1, h2⟩ := Bool.and_eq_true_iff.mp h
    have hx := hr x List.mem_cons_self
    have ih := rising_pw r x hx (fun y hy => hr y (List.mem_cons_of_mem _ hy)) h2
    have l := lts_le p hp x hx (by simpa using h1)
    refine List.Pairwise.cons (fun y hy => ?_) ih
    rcases List.mem_cons.mp hy with rfl | hy
    · exact l
    · exact Nat.le_trans l (List.rel_of_pairwise_cons ih hy)
theorem sorted_pw {ys : List Str} (h : sortedS ys = true) (hy : ∀ y ∈ ys, y ∈ lts) : ys.Pairwise (fun a b => rk a ≤ rk b) := by
  cases ys with
  | nil => exact List.Pairwise.nil
  | cons p r => exact rising_pw r p (hy p List.mem_cons_self) (fun y h => hy y (List.mem_cons_of_mem _ h)) h
theorem sorted_lts {ys : List Str} (h : sortedS ys = true) (hy : ∀ y ∈ ys, y ∈ lts) (nd : ys.Nodup) : ys = lts.filter (fun s => decide (s ∈ ys)) := by
  refine List.Perm.eq_of_pairwise (le := fun a b => rk a ≤ rk b) (fun a b ha hb => lts_inj a (hy a ha) b (List.mem_filter.mp hb).1) (sorted_pw h hy) (lts_pw.filter _) ?_
  refine (List.perm_ext_iff_of_nodup nd (lts_nd.filter _)).mpr fun a => ?_
  rw [List.mem_filter]
  exact ⟨fun ha => ⟨hy a ha, decide_eq_true ha⟩, fun ha => of_decide_eq_true ha.2⟩
/-- the pairs of a function of the letters, in the letters' order -/
def prs (f : Str → Int) (s : Str) : Option (Str × Int) := if f s = 0 then none else some (s, f s)
def cano (f : Str → Int) : List (Str × Int) := lts.filterMap (prs f)
theorem filterMap_mem {α β : Type} [DecidableEq α] {h : α → Option β} {ys : List α} : ∀ l : List α, (∀ s ∈ l, s ∉ ys → h s = none) → l.filterMap h = (l.filter (fun s => decide (s ∈ ys))).filterMap h
  | [], _ => rfl
  | a :: l, H => by
    have ih := filterMap_mem l fun s hs => H s (List.mem_cons_of_mem _ hs)
    by_cases c : a ∈ ys
    · rw [List.filter_cons_of_pos (by simpa using c), List.filterMap_cons, List.filterMap_cons, ih]
    · rw [List.filter_cons_of_neg (by simpa using c), List.filterMap_cons, H a List.mem_cons_self c, ih]
theorem sorted_cano {f : Str → Int} {ys : List Str} (h : sortedS ys = true) (hy : ∀ y ∈ ys, y ∈ lts) (nd : ys.Nodup) (h0 : ∀ s ∈ lts, s ∉ ys → f s = 0) : ys.filterMap (prs f) = cano f := by
  unfold cano
  rw [filterMap_mem (ys := ys) lts (fun s hs hn => by unfold prs; rw [if_pos (h0 s hs hn)]), ← sorted_lts h hy nd]
theorem cano_eq {f g : Str → Int} (h : ∀ s ∈ lts, f s = g s) : cano f = cano g := by
  unfold cano
  have go : ∀ l : List Str, (∀ s ∈ l, f s = g s) → l.filterMap (prs f) = l.filterMap (prs g) := fun l => by
    induction l with
    | nil => exact fun _ => rfl
    | cons a l ih =>
      intro h
      have e : prs f a = prs g a := by unfold prs; rw [h a List.mem_cons_self]
      rw [List.filterMap_cons, List.filterMap_cons, e, ih fun s hs => h s (List.mem_cons_of_mem _ hs)]
  exact go lts h
theorem cano_mem {f : Str → Int} {u : Str × Int} (h : u ∈ cano f) : u.1 ∈ lts ∧ u.2 = f u.1 ∧ f u.1 ≠ 0 := by
  obtain ⟨s, hs, e⟩ := List.mem_filterMap.mp h
  unfold prs at e
  split at e
  · cases e
  · cases e
    rename_i n
    exact ⟨hs, rfl, n⟩
theorem cano_pw (f : Str → Int) : (cano f).Pairwise (fun a b => rk a.1 < rk b.1) := by
  have nd : lts.Pairwise (fun a b => rk a < rk b) := by decide +kernel
  unfold cano
  refine List.Pairwise.filterMap (S := fun a b => rk a.1 < rk b.1) (prs f) (fun a b hab c hc d hd => ?_) nd
  unfold prs at hc hd
  split at hc
  · cases hc
  · split at hd
    · cases hd
    · cases hc; cases hd; exact hab
theorem cano_good {f : Str → Int} (h : ∀ s ∈ lts, (f s).natAbs ≤ 10 ^ 30) : Good (cano f) where
  few := Nat.le_trans (List.length_filterMap_le _ _) (by decide)
  let_ := fun p hp => ⟨rk p.1, lts_let _ (cano_mem hp).1⟩
  up := fun i p q h1 h2 => by
    have l2 := (List.getElem?_eq_some_iff.mp h2).1
    have l1 := (List.getElem?_eq_some_iff.mp h1).1
    have := List.pairwise_iff_getElem.mp (cano_pw f) i (i + 1) l1 l2 (Nat.lt_succ_self i)
    rw [(List.getElem?_eq_some_iff.mp h1).2, (List.getElem?_eq_some_iff.mp h2).2] at this
    exact lts_lt _ (cano_mem (List.mem_of_getElem? h1)).1 _ (cano_mem (List.mem_of_getElem? h2)).1 this
  ne := fun p hp => by rw [(cano_mem hp).2.1]; exact (cano_mem hp).2.2
  sz := fun p hp => by rw [(cano_mem hp).2.1]; exact h _ (cano_mem hp).1
/-- what a list of pairs sums up to at a letter -/
def at_ (l : List (Str × Int)) (s : Str) : Int := (l.map fun u => if u.1 = s then u.2 else 0).sum
theorem at_nil (s : Str) : at_ [] s = 0 := rfl
theorem at_app (l m : List (Str × Int)) (s : Str) : at_ (l ++ m) s = at_ l s + at_ m s := by
  unfold at_
  rw [List.map_append, List.sum_append]
theorem at_snoc (l : List (Str × Int)) (u : Str × Int) (s : Str) : at_ (l ++ [u]) s = at_ l s + (if u.1 = s then u.2 else 0) := by
  rw [at_app]
  show _ + ((if u.1 = s then u.2 else 0) + 0) = _
  omega
theorem at_filterMap {f : Str → Int} : ∀ (l : List Str) (s : Str), l.Nodup → at_ (l.filterMap (prs f)) s = if s ∈ l then f s else 0
  | [], s, _ => rfl
  | a :: l, s, nd => by
    obtain ⟨h1, h2⟩ := List.nodup_cons.mp nd
    have ih := at_filterMap (f := f) l s h2
    rw [List.filterMap_cons]
    by_cases c : f a = 0
    · have e : prs f a = none := by unfold prs; rw [if_pos c]
      rw [e]
      show at_ (l.filterMap (prs f)) s = _
      rw [ih]
      by_cases z : s = a
      · subst z
        rw [if_neg h1, if_pos List.mem_cons_self, c]
      · simp [List.mem_cons, z]
    · have e : prs f a = some (a, f a) := by unfold prs; rw [if_neg c]
      rw [e]
      have e2 : at_ ((a, f a) :: l.filterMap (prs f)) s = (if a = s then f a else 0) + at_ (l.filterMap (prs f)) s := by
        unfold at_
        rw [List.map_cons, List.sum_cons]
      show at_ ((a, f a) :: l.filterMap (prs f)) s = _
      rw [e2, ih]
      by_cases z : a = s
      · subst z
        rw [if_pos rfl, if_neg h1, if_pos List.mem_cons_self]
        omega
      · have z2 : ¬ s = a := fun e => z e.symm
        rw [if_neg z]
        simp [List.mem_cons, z2]
theorem at_cano {f : Str → Int} {s : Str} (h : s ∈ lts) : at_ (cano f) s = f s := by
  unfold cano
  rw [at_filterMap lts s lts_nd, if_pos h]
/-! ### a comprehension with a test, of references -/
section
variable {K : PySem.W.Frag} {σ : L2.St} {H : Hp} {Q : VK} {g : TG} {tt : TT} {te : TE} {vs : List Nat}
theorem lcF_leaf {α β : Type} {l : Addr} {xs : List V} (zs : List α) (h : α → Option β) (R : Addr → β → Hp → Prop) (mono : ∀ q u H H', SameT H H' → R q u H → R q u H') (hl : SqL K H l xs) (hz : zs.length = xs.length) (hlen : xs.length ≤ 1000)
    (he : ∀ (i : Nat) (x : V) (z : α) (H' : Hp), xs[i]? = some x → zs[i]? = some z → Same H H' → ∀ (Q' : VK) (N : Hp → Prop), (∀ q u H'', h z = some u → Same H' H'' → R q u H'' → Q' (.ref q) H'') → (h z = none → ∀ H'', Same H' H'' → N H'') →
      g x (wipe σ vs) H' fun σ2 H2 => wipe σ2 vs = wipe σ vs ∧ tt σ2 H2 fun b H3 => if b = true then te σ2 H3 Q' else N H3)
    (k : ∀ D (as : List Addr) H', H D = none → Same H H' → H' D = some (.lst (as.map V.ref)) → as.length = (zs.filterMap h).length → (∀ (i : Nat) (q : Addr) (u : β), as[i]? = some q → (zs.filterMap h)[i]? = some u → R q u H') → Q (.ref D) H') : LcS K g tt te vs σ (.ref l) H Q := by
  refine ⟨l, rfl, ⟨_, hl⟩, fun D hD => ?_⟩
  refine lc_list (K := K) (a := l) (xs := xs) (fun i G => ∃ as : List Addr, G D = some (.lst (as.map V.ref)) ∧ Same H G ∧ as.length = ((zs.take i).filterMap h).length ∧ ∀ (m : Nat) (q : Addr) (u : β), as[m]? = some q → ((zs.take i).filterMap h)[m]? = some u → R q u G) ⟨[], upd_same, w_new hD, rfl, fun m q u a => by simp at a⟩ (fun i G _ hG => Same.seq (let ⟨_, _, e, _⟩ := hG; e) hl) ?_ ?_
  · rintro i x G hx ⟨as, h1, e, hn, hp⟩
    have hi := (List.getElem?_eq_some_iff.mp hx).1
    have hzi : zs[i]? = some zs[i] := List.getElem?_eq_getElem (by omega)
    have tk : (zs.take (i + 1)).filterMap h = (zs.take i).filterMap h ++ [zs[i]].filterMap h := by rw [List.take_succ, hzi, List.filterMap_append]; rfl
    have len : as.length ≤ i := by
      rw [hn]
      refine Nat.le_trans (List.length_filterMap_le _ _) ?_
      rw [List.length_take]
      omega
    refine he i x zs[i] G hx hzi e (fun y H4 => ∃ acc, H4 D = some (.lst acc) ∧ acc.length < sizeLine ∧ ∃ as : List Addr, upd H4 D (.lst (acc ++ [y])) D = some (.lst (as.map V.ref)) ∧ Same H (upd H4 D (.lst (acc ++ [y]))) ∧ as.length = ((zs.take (i + 1)).filterMap h).length ∧ ∀ (m : Nat) (q : Addr) (u : β), as[m]? = some q → ((zs.take (i + 1)).filterMap h)[m]? = some u → R q u (upd H4 D (.lst (acc ++ [y]))))
      (fun H4 => ∃ as : List Addr, H4 D = some (.lst (as.map V.ref)) ∧ Same H H4 ∧ as.length = ((zs.take (i + 1)).filterMap h).length ∧ ∀ (m : Nat) (q : Addr) (u : β), as[m]? = some q → ((zs.take (i + 1)).filterMap h)[m]? = some u → R q u H4) (fun q u H4 hu e4 r => ?_) (fun hu H4 e4 => ?_)
    · have h3 := e4 _ _ h1
      have tk2 : (zs.take (i + 1)).filterMap h = (zs.take i).filterMap h ++ [u] := by rw [tk, List.filterMap_cons, hu]; rfl
      refine ⟨_, h3, by rw [List.length_map]; exact Nat.lt_of_lt_of_le (show as.length < 1001 by omega) (by decide), as ++ [q], by rw [upd_same, List.map_append]; rfl, RK.Same.updL (e.trans e4) hD, by rw [tk2, List.length_append, List.length_append, hn]; rfl, fun m q' u' a b => ?_⟩
      rw [tk2] at b
      by_cases c : m < as.length
      · rw [List.getElem?_append_left c] at a
        rw [List.getElem?_append_left (by rw [← hn]; exact c)] at b
        exact mono _ _ H4 _ (SameT.upd h3) (mono _ _ G H4 (.of e4) (hp m q' u' a b))
      · rw [List.getElem?_append_right (by omega)] at a
        rw [List.getElem?_append_right (by rw [← hn]; omega), ← hn] at b
        generalize m - as.length = n at a b
        cases n with
        | zero => cases a; cases b; exact mono _ _ H4 _ (SameT.upd h3) r
        | succ n => cases a
    · have tk2 : (zs.take (i + 1)).filterMap h = (zs.take i).filterMap h := by rw [tk, List.filterMap_cons, hu]; exact List.append_nil _
      refine ⟨as, e4 _ _ h1, e.trans e4, by rw [tk2]; exact hn, fun m q' u' a b => ?_⟩
      rw [tk2] at b
      exact mono _ _ G H4 (.of e4) (hp m q' u' a b)
  · rintro G ⟨as, h1, e, hn, hp⟩
    rw [← hz, List.take_length] at hn hp
    exact k D as G hD e h1 hn hp
end
end RK4


namespace RK4
open PySem PySem.Spec L2 RK RZ StX PyProof.Rows
/-! ### a dict of numbers by letters -/
structure DvK (kvs : List (Key × V)) (f : Str → Int) (ks : List Str) : Prop where
  keys : kvs.map (·.1) = ks.map Sum.inr
  nd : ks.Nodup
  sub : ∀ s ∈ ks, s ∈ lts
  val : ∀ s ∈ ks, valV kvs (.inr s) = some (.int (f s))
  non : ∀ s, s ∉ ks → valV kvs (.inr s) = none ∧ f s = 0
def Dv (kvs : List (Key × V)) (f : Str → Int) : Prop := ∃ ks, DvK kvs f ks
theorem Dv.nil : Dv [] fun _ => 0 := ⟨[], rfl, List.nodup_nil, (fun _ h => nomatch h), (fun _ h => nomatch h), fun _ _ => ⟨rfl, rfl⟩⟩
theorem Dv.get {kvs : List (Key × V)} {f : Str → Int} (d : Dv kvs f) (s : Str) : (valV kvs (.inr s)).getD (.int 0) = .int (f s) := by
  obtain ⟨ks, d⟩ := d
  by_cases h : s ∈ ks
  · rw [d.val s h]; rfl
  · rw [(d.non s h).1, (d.non s h).2]; rfl
theorem DvK.len {kvs : List (Key × V)} {f : Str → Int} {ks : List Str} (d : DvK kvs f ks) : ks.length ≤ 6 := by
  have p : ks.Perm (lts.filter fun s => decide (s ∈ ks)) := (List.perm_ext_iff_of_nodup d.nd (lts_nd.filter _)).mpr fun a => by
    rw [List.mem_filter]
    exact ⟨fun h => ⟨d.sub a h, decide_eq_true h⟩, fun h => of_decide_eq_true h.2⟩
  rw [p.length_eq]
  exact Nat.le_trans (List.length_filter_le _ _) (by decide)
theorem Dv.len {kvs : List (Key × V)} {f : Str → Int} (d : Dv kvs f) : kvs.length ≤ 6 := by
  obtain ⟨ks, d⟩ := d
  have := congrArg List.length d.keys
  rw [List.length_map, List.length_map] at this
  rw [this]
  exact d.len
theorem Dv.put {kvs : List (Key × V)} {f : Str → Int} (d : Dv kvs f) {s : Str} (hs : s ∈ lts) (z : Int) : Dv (putK kvs (.inr s) (.int z)) fun r => if r = s then z else f r := by
  obtain ⟨ks, d⟩ := d
  by_cases h : s ∈ ks
  · refine ⟨ks, ?_, d.nd, d.sub, fun r hr => ?_, fun r hr => ?_⟩
    · have a : (kvs.any fun kv => decide (kv.1 = (Sum.inr s : Key))) = true := by rw [valV_any, d.val s h]; rfl
      unfold putK
      rw [if_pos a, List.map_map, ← d.keys]
      refine List.map_congr_left fun kv _ => ?_
      show (if kv.1 = Sum.inr s then (kv.1, V.int z) else kv).1 = kv.1
      split <;> rfl
    · rw [valV_put]
      by_cases e : r = s
      · subst e
        rw [if_pos rfl, if_pos rfl]
      · rw [if_neg (by simpa using e), if_neg e, d.val r hr]
    · have e : r ≠ s := fun e => hr (e ▸ h)
      rw [valV_put, if_neg (by simpa using e), if_neg e]
      exact d.non r hr
  · refine ⟨ks ++ [s], ?_, ?_, fun r hr => ?_, fun r hr => ?_, fun r hr => ?_⟩
    · rw [putK_new _ (d.non s h).1, List.map_append, List.map_append, d.keys]
      rfl
    · rw [List.nodup_append]
      refine ⟨d.nd, (List.pairwise_singleton _ s), fun a ha b hb e => ?_⟩
      obtain rfl := List.mem_singleton.mp hb
      exact h (e ▸ ha)
    · rcases List.mem_append.mp hr with hr | hr
      · exact d.sub r hr
      · obtain rfl := List.mem_singleton.mp hr
        exact hs
    · rw [valV_put]
      by_cases e : r = s
      · subst e
        rw [if_pos rfl, if_pos rfl]
      · rw [if_neg (by simpa using e), if_neg e]
        rcases List.mem_append.mp hr with hr | hr
        · exact d.val r hr
        · exact absurd (List.mem_singleton.mp hr) e
    · have h1 : r ∉ ks := fun q => hr (List.mem_append_left _ q)
      have e : r ≠ s := fun e => hr (List.mem_append_right _ (List.mem_singleton.mpr e))
      rw [valV_put, if_neg (by simpa using e), if_neg e]
      exact d.non r h1
theorem Dv.ext {kvs : List (Key × V)} {f g : Str → Int} (d : Dv kvs f) (h : ∀ s, f s = g s) : Dv kvs g := by
  have : f = g := funext h
  rw [← this]
  exact d
/-- the keys of a dict in their order give the pairs -/
theorem Dv.cano {kvs : List (Key × V)} {f : Str → Int} {ks ys : List Str} (d : DvK kvs f ks) (p : ys.Perm ks) (h : sortedS ys = true) : ys.filterMap (prs f) = cano f ∧ ∀ s ∈ ys, valV kvs (.inr s) = some (.int (f s)) := by
  refine ⟨sorted_cano h (fun y hy => d.sub y (p.mem_iff.mp hy)) (p.nodup_iff.mpr d.nd) fun s _ hs => (d.non s fun q => hs (p.mem_iff.mpr q)).2, fun s hs => d.val s (p.mem_iff.mp hs)⟩
section
variable {P : Program} {w : World} {K : PySem.W.Frag} {mg : Str → Option Value} {base : Heap} {a : Ad}
def spSummed (K : PySem.W.Frag) : Sp := fun vs H Q _ => ∃ t u ps qs, vs = [.ref t, .ref u] ∧ Prs K H t ps ∧ Prs K H u qs ∧ ps.length ≤ 6 ∧ qs.length ≤ 6 ∧ (∀ p ∈ ps ++ qs, p.1 ∈ lts) ∧ ∀ r H', H r = none → Same H H' → Prs K H' r (cano (at_ (ps ++ qs))) → Q (.ref r) H'
theorem ok_summed_terms (T : Txt K mg a) : FnOk P w K mg base CX0 1 a.f_summed_terms a.d_summed_terms ["terms", "others"] (spSummed K) := by
  refine T.F_summed_terms.ok sc_summed_terms (fun vs H Q E h => ?_) (fun cdv A outer s H vs Q E hr h => ?_)
  · obtain ⟨t, u, ps, qs, rfl, _⟩ := h
    rfl
  · obtain ⟨t, u, ps, qs, rfl, ⟨as, ht, hp⟩, ⟨bs, hu, hq⟩, l1, l2, hl, k⟩ := h
    refine ⟨_, (pss_cons (ps_set (i := 2) sc_summed_terms.nd rfl (Or.inr rfl) pe_dnewK)
      (pss_cons (ps_for PassesOwn.never rfl (pi_list (pe_lst (pa_star (pv 0) (pa_star (pv 1) pa_nil)))) (pg_tup rfl (pgs_cons (pg_name (i := 3) sc_summed_terms.nd rfl (Or.inl rfl)) (pgs_cons (pg_name (i := 4) sc_summed_terms.nd rfl (Or.inl rfl)) pgs_nil))) (pss_one (ps_asg (pe_op op_add (pe_dget2 (hu_of hr) (pv 2) (pv 3) pe_int ⟨rfl, rfl, rfl, rfl⟩) (pv 4)) (pg_sub (pv 2) (pv 3) (set_dict (hu_of hr))))))
      (pss_one (ps_ret (pe_callTy call_tuple_of (by rfl) T.z_tuple (by decide +kernel) (pa_cons (pe_lc (own := [("name", 3)]) (g := gName 3) rfl sc_summed_terms.nd (pi_list (pe_callB (call_sortedD rfl) (by rfl) T.z_sorted (by decide +kernel) (pa_cons (pv 2) pa_nil))) (blkOk_by (own := [("name", 3)]) (N := ["terms", "others", "numbers", "name", "number"]) (sc := defScope s_summed_terms) (by decide +kernel)) (fun _ _ _ _ _ => pg_name (i := 3) sc_summed_terms.nd rfl (Or.inl rfl)) (fun _ _ _ _ _ => (pts_one (pt_cmpR op_ne (pe_dget (hu_of hr) (pv 2) (pv 3) (fun _ _ => rfl)) pe_int (nomark _)))) (fun _ _ _ _ _ => by exact (pe_tup (pa_cons (pv 3) (pa_cons (pe_dget (hu_of hr) (pv 2) (pv 3) (fun _ _ => rfl)) pa_nil))))) pa_nil)))))), ?_⟩
    walk_at "r"
    intro D nD
    have e1 := w_new (o := .dK []) nD
    have hD : upd H D (.dK []) D = some (.dK []) := upd_same
    generalize upd H D (.dK []) = H1 at e1 hD ⊢
    walk_at "r"
    unfold tStar
    walk_at "r"
    refine ⟨t, _, rfl, .inl (seqT_same e1 ht), ?_⟩
    walk_at "r"
    refine ⟨u, _, rfl, .inl (seqT_same e1 hu), ?_⟩
    have lab : ((as ++ bs).map V.ref).length ≤ 12 := by
      have h1 := hp.1
      have h2 := hq.1
      rw [List.length_map, List.length_append]
      omega
    have pab : Pr H (as ++ bs) (ps ++ qs) := by
      refine ⟨by rw [List.length_append, List.length_append, hp.1, hq.1], fun i q p a b => ?_⟩
      by_cases c : i < as.length
      · rw [List.getElem?_append_left c] at a
        rw [List.getElem?_append_left (by rw [← hp.1]; exact c)] at b
        exact hp.2 i q p a b
      · rw [List.getElem?_append_right (by omega)] at a
        rw [List.getElem?_append_right (by rw [← hp.1]; omega), ← hp.1] at b
        exact hq.2 _ q p a b
    have eab : as.map V.ref ++ (bs.map V.ref ++ []) = (as ++ bs).map V.ref := by rw [List.append_nil, List.map_append]
    show NewL (as.map V.ref ++ (bs.map V.ref ++ [])) _ _
    rw [eab]
    refine w_newL (by omega) fun L H2 nL e2 hL => ?_
    have hD2 := e2 _ _ hD
    have neL : L ≠ D := fun z => by rw [z, hD] at nL; cases nL
    have e12 := e1.trans e2
    generalize as ++ bs = cs at hL pab lab
    generalize ps ++ qs = us at pab hl k
    have lus : us.length ≤ 12 := by rw [← pab.1, ← List.length_map (f := V.ref)]; exact lab
    refine ⟨L, rfl, ⟨_, SqL.of hL⟩, for_list (K := K) (a := L) (xs := cs.map V.ref)
      (fun j σ' G => Same H G ∧ G L = some (.lst (cs.map V.ref)) ∧ (∃ kvs, G D = some (.dK kvs) ∧ Dv kvs (at_ (us.take j))) ∧ ∃ (v1 v2 : Option V), σ' = [some (.ref t), some (.ref u), some (.ref D), v1, v2]) ⟨e12, hL, ⟨[], hD2, Dv.nil⟩, _, _, rfl⟩ (fun j σ' G _ ⟨_, h, _⟩ => SqL.of h) ?_ ?_⟩
    · rintro j y σ' G hj ⟨e, hGL, ⟨kvs, hGD, dv⟩, v1, v2, rfl⟩
      obtain ⟨q, w, rfl, b1, b2, b3⟩ := pab.at_ hj
      refine g_two (e _ _ b3) ?_
      have hw := hl w (List.mem_of_getElem? b2)
      walk_at "r"
      unfold tDGet2
      walk_at "r"
      refine ⟨D, rfl, .inl ⟨_, .inl hGD⟩, ?_⟩
      walk_at "r"
      refine ⟨_, DGet.k (k := Sum.inr w.1) hGD, ?_⟩
      rw [dv.get]
      walk_at "r"
      refine ⟨D, _, rfl, DPut.k (k := Sum.inr w.1) hGD (Nat.lt_of_le_of_lt dv.len (by decide)), ?_⟩
      have nD' : H D = none := nD
      refine ⟨RK.Same.updL e nD, by rw [upd_ne neL]; exact hGL, ⟨_, upd_same, (dv.put hw _).ext fun s => ?_⟩, _, _, rfl⟩
      rw [List.take_succ, b2]
      show _ = at_ (us.take j ++ [w]) s
      rw [at_snoc]
      by_cases c : s = w.1
      · subst c
        rw [if_pos rfl, if_pos rfl]
      · rw [if_neg c, if_neg fun z => c z.symm]
        omega
    · rintro σ' G ⟨e, hGL, ⟨kvs, hGD, dv⟩, v1, v2, rfl⟩
      have lcs : (cs.map V.ref).length = us.length := by rw [List.length_map, pab.1]
      rw [lcs, List.take_length] at dv
      obtain ⟨ks, dk⟩ := dv
      walk_at "r"
      refine ⟨D, kvs, ks, rfl, .inl hGD, dk.keys, Nat.lt_of_le_of_lt dk.len (by decide), fun ys p perm srt np => ?_⟩
      obtain ⟨ec, ev⟩ := Dv.cano dk perm srt
      have e3 := w_new (o := .lst (ys.map V.str)) np
      have hp3 : upd G p (.lst (ys.map V.str)) p = some (.lst (ys.map V.str)) := upd_same
      generalize upd G p (.lst (ys.map V.str)) = H3 at e3 hp3 ⊢
      have yl : ys.length ≤ 6 := by rw [perm.length_eq]; exact dk.len
      refine lcF_leaf ys (prs (at_ us)) (fun q w G => G q = some (.tup [.str w.1, .int w.2])) (fun q w G G' st h => st.tup h) (SqL.of hp3) (by rw [List.length_map]) (by rw [List.length_map]; omega) (fun i x z H' hx hz e' Q' N kq kn => ?_) (fun D' as' H' nD' e' hD' hl' hP' => ?_)
      · obtain rfl : x = .str z := by
          rw [List.getElem?_map, hz] at hx
          exact (Option.some.inj hx).symm
        have hGD' := e' _ _ (e3 _ _ hGD)
        have vz := ev z (List.mem_of_getElem? hz)
        have dg : DGet H' D (.str z) (some (.int (at_ us z))) := by rw [← vz]; exact DGet.k (k := Sum.inr z) hGD'
        walk_at "r"
        refine ⟨rfl, ?_⟩
        unfold tDGet
        walk_at "r"
        refine ⟨D, _, rfl, dg, ?_⟩
        walk_at "r"
        by_cases c : at_ us z = 0
        · rw [if_neg (by simp [c])]
          exact kn (by unfold prs; rw [if_pos c]) H' (w_same _)
        · rw [if_pos (by simp [c])]
          walk_at "r"
          refine ⟨D, _, rfl, dg, ?_⟩
          walk_at "r"
          exact w_newT (by show 2 ≤ 100000; decide) fun q H4 nq e4 hq4 => kq q _ H4 (by unfold prs; rw [if_neg c]) e4 hq4
      · rw [ec] at hl' hP'
        walk_at "r"
        refine ⟨D', _, rfl, .inl ⟨SqL.of hD', fun r nr => ?_⟩⟩
        have e4 := w_new (o := .tup (as'.map V.ref)) nr
        have eA := (e.trans e3).trans e'
        exact k r _ (none_of eA nr) (eA.trans e4) ⟨as', SqT.of upd_same, hl', fun i q u a b => e4 _ _ (hP' i q u a b)⟩
end
end RK4


namespace RK4
open PySem PySem.Spec L2 RK RZ StX PyProof.Rows
theorem cano_zero {f : Str → Int} (h : ∀ s, f s = 0) : cano f = [] := by
  unfold cano
  refine List.filterMap_eq_nil_iff.mpr fun s _ => ?_
  unfold prs
  rw [if_pos (h s)]
theorem cano_mul {f : Str → Int} {z : Int} (hz : z ≠ 0) : (cano f).map (fun u => (u.1, u.2 * z)) = cano fun s => f s * z := by
  unfold cano
  rw [List.map_filterMap]
  have e : (fun s => Option.map (fun u : Str × Int => (u.1, u.2 * z)) (prs f s)) = prs fun s => f s * z := funext fun s => by
    unfold prs
    by_cases c : f s = 0
    · rw [if_pos c, if_pos (by show f s * z = 0; rw [c]; exact Int.zero_mul z)]
      rfl
    · rw [if_neg c, if_neg (Int.mul_ne_zero c hz)]
      rfl
  rw [e]
/-- a product's factors are small enough -/
theorem mulw {i j : Int} (hi : i.natAbs ≤ 10 ^ 30) (hj : j.natAbs ≤ 10 ^ 30) : CMulW i j := wide_mul (a := 128) (b := 128) (Nat.lt_of_le_of_lt hi (by decide)) (Nat.lt_of_le_of_lt hj (by decide)) (by decide) (by decide) (by decide)
def Bd (f : Str → Int) : Prop := ∀ s ∈ lts, (f s).natAbs ≤ 10 ^ 30
section
variable {P : Program} {w : World} {K : PySem.W.Frag} {mg : Str → Option Value} {base : Heap} {a : Ad}
theorem ins_tyF (T : Txt K mg a) {H : Hp} {p : Addr} {c : Int} {ps : List (Str × Int)} (r : Frm K a.C_Form H p c ps) : TyX K H (.ref p) (.ref a.C_Form) := by
  obtain ⟨dx, t, h, _⟩ := r.ob
  exact .base (.ins h T.cl_Form T.fA T.iN T.iT T.fM)
theorem con_leaf (T : Txt K mg a) {H : Hp} {Q : VK} {p : Addr} {c : Int} {ps : List (Str × Int)} (r : Frm K a.C_Form H p c ps) (q : Q (.int c) H) : Fl K "constant" (.ref p) H Q := by
  obtain ⟨dx, t, h, _⟩ := r.ob
  exact ⟨p, _, dx, _, _, rfl, h, T.cl_Form, T.fC, ffs_c _ _ _, q⟩
theorem ter_leaf (T : Txt K mg a) {H : Hp} {Q : VK} {p : Addr} {c : Int} {ps : List (Str × Int)} (r : Frm K a.C_Form H p c ps) (q : ∀ t, Prs K H t ps → Q (.ref t) H) : Fl K "terms" (.ref p) H Q := by
  obtain ⟨dx, t, h, hp⟩ := r.ob
  exact ⟨p, _, dx, _, _, rfl, h, T.cl_Form, T.fT, ffs_t _ _ _, q t hp⟩
theorem ffs_n (c : Int) (t : Addr) (nm : Str) : (ffs c t nm).lookup ("names" : Str) = some (.str nm) := by simp [ffs, List.lookup, k_nc, k_nt]
theorem nam_leaf (T : Txt K mg a) {H : Hp} {Q : VK} {p : Addr} {c : Int} {ps : List (Str × Int)} (r : Frm K a.C_Form H p c ps) (q : Q (.str (nms ps)) H) : Fl K "names" (.ref p) H Q := by
  obtain ⟨dx, t, h, hp⟩ := r.ob
  exact ⟨p, _, dx, _, _, rfl, h, T.cl_Form, T.fN, ffs_n _ _ _, q⟩
/-! ### times an integer -/
def spFmul (K : PySem.W.Frag) (C : Addr) : Sp := fun vs H Q _ => ∃ (p : Addr) (c z : Int) (f : Str → Int), vs = [.ref p, .int z] ∧ Frm K C H p c (cano f) ∧ c.natAbs ≤ 10 ^ 30 ∧ z.natAbs ≤ 10 ^ 30 ∧ Bd (fun s => f s * z) ∧ ∀ q H', H q = none → Same H H' → Frm K C H' q (c * z) (cano fun s => f s * z) → Q (.ref q) H'
theorem ok_Form_mul (T : Txt K mg a) : FnOk P w K mg base CX0 6 a.f_Form_mul a.d_Form_mul ["self", "other"] (spFmul K a.C_Form) := by
  refine T.F_Form_mul.ok sc_Form_mul (fun vs H Q E h => ?_) (fun cdv A outer s H vs Q E hr h => ?_)
  · obtain ⟨p, c, z, f, rfl, _⟩ := h
    rfl
  · obtain ⟨p, c, z, f, rfl, r, bc, bzz, bz, k⟩ := h
    have cw := mulw bc bzz
    obtain ⟨dx, t, ob, as, ht, hp⟩ := id r.ob
    obtain ⟨ds0, vd0, bd0⟩ := bd0_Form T
    refine ⟨_, (pss_cons (ps_if (pt_not (pt_val (pe_call (ok_is_whole T) (hr.mono (by decide)) (by rfl) T.m_is_whole T.F_is_whole.kp T.b_is_whole .nil pass0 (pa_cons (pv 1) pa_nil)))) (pss_one ps_never) pss_nil)
      (pss_cons (ps_if (pt_cmpR op_eq (pv 1) pe_int (nomark _)) (pss_one (ps_ret (pe_make0 T.mk_Form (ok_Form_init T) (hr.mono (by decide)) (by rfl) T.m_Form bd0 vd0 pass0))) pss_nil)
      (pss_one (ps_ret (pe_make T.mk_Form (ok_Form_init T) (hr.mono (by decide)) (by rfl) T.m_Form (bd_Form T) .nil pass0 (pa_cons (pe_op op_mulW (pe_fld (pv 0) rfl) (pv 1)) (pa_cons (pe_callTy call_tuple_of (by rfl) T.z_tuple (by decide +kernel) (pa_cons (pe_lc (own := [("name", 2), ("number", 3)]) (g := gTup K 2 (gCons (gName 2) (gCons (gName 3) gNil))) (tt := tYes) rfl sc_Form_mul.nd (pi_tup (pe_fld (pv 0) rfl)) (blkOk_by (own := [("name", 2), ("number", 3)]) (N := ["self", "other", "name", "number"]) (sc := defScope s_Form_mul) (by decide +kernel)) (fun _ _ _ _ _ => by exact pg_tup (n := 2) rfl (pgs_cons (pg_name (i := 2) sc_Form_mul.nd rfl (Or.inl rfl)) (pgs_cons (pg_name (i := 3) sc_Form_mul.nd rfl (Or.inl rfl)) pgs_nil))) (fun _ _ _ _ _ => pts_nil) (fun _ _ _ _ _ => by exact (pe_tup (pa_cons (pv 2) (pa_cons (pe_op op_mulW (pv 3) (pv 1)) pa_nil))))) pa_nil)) pa_nil))))))), ?_⟩
    have few := r.good.few
    walk_at "r"
    refine whole_int ?_
    refine ⟨true, rfl, ?_⟩
    rw [if_neg (by decide)]
    walk_at "r"
    by_cases hz : z = 0
    · rw [if_pos (by simp [hz])]
      walk_at "r"
      have ez : cano (fun s => f s * z) = [] := cano_zero fun s => by rw [hz]; exact Int.mul_zero _
      rw [ez, show c * z = 0 from by rw [hz]; exact Int.mul_zero c] at k
      exact mkF_leaf (ps := []) ⟨[], T.e0 _, rfl, fun i q p h => by simp at h⟩ (by rw [← ez]; exact cano_good bz) k
    rw [if_neg (by simp [hz])]
    walk_at "r"
    refine con_leaf T r ?_
    walk_at "r"
    refine w_lcT ?_
    walk_at "r"
    refine ⟨p, _, dx, _, _, rfl, ob, T.cl_Form, T.fT, ffs_t _ _ _, ?_⟩
    walk_at "r"
    refine lcT_leaf (fun i v H' => ∃ q u, (cano fun s => f s * z)[i]? = some u ∧ v = .ref q ∧ H' q = some (.tup [.str u.1, .int u.2])) (fun i v H' H'' st h => let ⟨q, u, h1, h2, h3⟩ := h; ⟨q, u, h1, h2, st.tup h3⟩) ht (by rw [List.length_map, hp.1]; omega) (fun i x H' hx e Q' kq => ?_) (fun D ys H1 nD e1 hD hl hP => ?_)
    · obtain ⟨q, u, rfl, b1, b2, b3⟩ := hp.at_ hx
      refine g_two (e _ _ b3) ⟨rfl, ?_⟩
      have cu := mulw (r.good.sz u (List.mem_of_getElem? b2)) bzz
      walk_at "r"
      exact w_newT (by show 2 ≤ 100000; decide) fun D H2 nD e2 hD => kq _ _ e2 ⟨D, (u.1, u.2 * z), by rw [← cano_mul hz, List.getElem?_map, b2]; rfl, rfl, hD⟩
    obtain ⟨bs, rfl, hbl, hbs⟩ := refs_of (ps := cano fun s => f s * z) (R := fun q (u : Str × Int) => H1 q = some (.tup [.str u.1, .int u.2])) (by rw [hl, List.length_map, hp.1, ← cano_mul hz, List.length_map]) hP
    walk_at "r"
    refine ⟨D, _, rfl, .inl ⟨SqL.of hD, fun l nl => ?_⟩⟩
    have e2 := w_new (o := .tup (bs.map V.ref)) nl
    have hl2 : upd H1 l (.tup (bs.map V.ref)) l = some (.tup (bs.map V.ref)) := upd_same
    generalize upd H1 l (.tup (bs.map V.ref)) = H2 at e2 hl2 ⊢
    walk_at "r"
    refine mkF_leaf ⟨bs, SqT.of hl2, hbl, fun i q u a b => e2 _ _ (hbs i q u a b)⟩ (cano_good bz) fun q H3 nq e3 fr => ?_
    have e13 := (e1.trans e2)
    exact k q H3 (none_of e13 nq) (e13.trans e3) fr
theorem oMultgi {X : Cx} (T : Txt X.K X.mg a) (hr : Room 6 X.A) : OpR X (binaryOp .Mult) (rOwnI a.C_Form (spFmul X.K a.C_Form) E0) := by
  obtain ⟨v1, h1⟩ := T.iMul
  obtain ⟨v2, h2⟩ := T.iRmul
  exact op_ownI T.ff T.me_Form_mul.at_ T.me_Form_mul.fn T.fRM (.inl rfl) h1 h2 T.fIF (ok_Form_mul T) hr T.b_Form_mul pass0
theorem mulF_leaf {C : Addr} {H : Hp} {Q : VK} {p : Addr} {c z : Int} {f : Str → Int} (r : Frm K C H p c (cano f)) (bc : c.natAbs ≤ 10 ^ 30) (bz : z.natAbs ≤ 10 ^ 30) (b : Bd fun s => f s * z) (k : ∀ q H', H q = none → Same H H' → Frm K C H' q (c * z) (cano fun s => f s * z) → Q (.ref q) H') : rOwnI C (spFmul K C) E0 (.ref p) (.int z) H Q := by
  obtain ⟨dx, t, ob, _⟩ := r.ob
  exact ⟨p, dx, _, z, rfl, rfl, ob, p, c, z, f, rfl, r, bc, bz, b, k⟩
def spFneg (K : PySem.W.Frag) (C : Addr) : Sp := fun vs H Q _ => ∃ (p : Addr) (c : Int) (f : Str → Int), vs = [.ref p] ∧ Frm K C H p c (cano f) ∧ c.natAbs ≤ 10 ^ 30 ∧ Bd (fun s => f s * -1) ∧ ∀ q H', H q = none → Same H H' → Frm K C H' q (c * -1) (cano fun s => f s * -1) → Q (.ref q) H'
theorem ok_Form_neg (T : Txt K mg a) : FnOk P w K mg base CX0 7 a.f_Form_neg a.d_Form_neg ["self"] (spFneg K a.C_Form) := by
  refine T.F_Form_neg.ok sc_Form_neg (fun vs H Q E h => ?_) (fun cdv A outer s H vs Q E hr h => ?_)
  · obtain ⟨p, c, f, rfl, _⟩ := h
    rfl
  · obtain ⟨p, c, f, rfl, r, bc, b, k⟩ := h
    refine ⟨_, (pss_one (ps_ret (pe_op (oMultgi T (hr.mono (by decide))) (pv 0) (pe_un un_neg pe_int)))), ?_⟩
    walk_at "r"
    exact mulF_leaf r bc (by decide) b k
theorem oNegg {X : Cx} (T : Txt X.K X.mg a) (hr : Room 7 X.A) : UnR X (unaryOp .USub) (rNegO a.C_Form (spFneg X.K a.C_Form) E0) := un_negO T.me_Form_neg.at_ T.me_Form_neg.fn (ok_Form_neg T) hr T.b_Form_neg pass0
theorem negF_leaf {C : Addr} {H : Hp} {Q : VK} {p : Addr} {c : Int} {f : Str → Int} (r : Frm K C H p c (cano f)) (bc : c.natAbs ≤ 10 ^ 30) (b : Bd fun s => f s * -1) (k : ∀ q H', H q = none → Same H H' → Frm K C H' q (c * -1) (cano fun s => f s * -1) → Q (.ref q) H') : rNegO C (spFneg K C) E0 (.ref p) H Q := by
  obtain ⟨dx, t, ob, _⟩ := r.ob
  exact ⟨p, dx, _, rfl, ob, p, c, f, rfl, r, bc, b, k⟩
/-! ### and another, or an integer -/
def spFadd (K : PySem.W.Frag) (C : Addr) : Sp := fun vs H Q _ => ∃ (p : Addr) (x : V) (c : Int) (f : Str → Int), vs = [.ref p, x] ∧ Frm K C H p c (cano f) ∧
  ((∃ q d g, x = .ref q ∧ Frm K C H q d (cano g) ∧ Bd (fun s => f s + g s) ∧ ∀ r H', H r = none → Same H H' → Frm K C H' r (c + d) (cano fun s => f s + g s) → Q (.ref r) H') ∨
   (∃ n, x = .int n ∧ ∀ r H', H r = none → Same H H' → Frm K C H' r (c + n) (cano f) → Q (.ref r) H'))
theorem ok_Form_add (T : Txt K mg a) : FnOk P w K mg base CX0 6 a.f_Form_add a.d_Form_add ["self", "other"] (spFadd K a.C_Form) := by
  refine T.F_Form_add.ok sc_Form_add (fun vs H Q E h => ?_) (fun cdv A outer s H vs Q E hr h => ?_)
  · obtain ⟨p, x, c, f, rfl, _⟩ := h
    rfl
  · obtain ⟨p, x, c, f, rfl, r, h⟩ := h
    refine ⟨_, (pss_cons (ps_if (pt_val (pe_callB call_isi (by rfl) T.z_isinstance (by decide +kernel) (pa_cons (pv 1) (pa_cons (pe_glob (v := .ref a.C_Form) rfl T.m_Form rfl) pa_nil)))) (pss_one (ps_ret (pe_make T.mk_Form (ok_Form_init T) (hr.mono (by decide)) (by rfl) T.m_Form (bd_Form T) .nil pass0 (pa_cons (pe_op op_add (pe_fld (pv 0) rfl) (pe_fld (pv 1) rfl)) (pa_cons (pe_call (ok_summed_terms T) (hr.mono (by decide)) (by rfl) T.m_summed_terms T.F_summed_terms.kp T.b_summed_terms .nil pass0 (pa_cons (pe_fld (pv 0) rfl) (pa_cons (pe_fld (pv 1) rfl) pa_nil))) pa_nil))))) pss_nil)
      (pss_cons (ps_if (pt_val (pe_call (ok_is_whole T) (hr.mono (by decide)) (by rfl) T.m_is_whole T.F_is_whole.kp T.b_is_whole .nil pass0 (pa_cons (pv 1) pa_nil))) (pss_one (ps_ret (pe_make T.mk_Form (ok_Form_init T) (hr.mono (by decide)) (by rfl) T.m_Form (bd_Form T) .nil pass0 (pa_cons (pe_op op_add (pe_fld (pv 0) rfl) (pv 1)) (pa_cons (pe_fld (pv 0) rfl) pa_nil))))) pss_nil)
      (pss_one ps_never))), ?_⟩
    walk_at "r"
    rcases h with ⟨q, d, g, rfl, r2, b, k⟩ | ⟨n, rfl, k⟩
    · refine ⟨_, .ref a.C_Form, .ref a.C_Form, .ref a.C_Form, true, rfl, .own _, ins_tyF T r2, T.fFF, true, rfl, iteT ?_⟩
      walk_at "r"
      refine con_leaf T r ?_
      walk_at "r"
      refine con_leaf T r2 ?_
      walk_at "r"
      refine ter_leaf T r fun t1 hp1 => ?_
      walk_at "r"
      refine ter_leaf T r2 fun t2 hp2 => ?_
      walk_at "r"
      refine ⟨t1, t2, _, _, rfl, hp1, hp2, r.good.few, r2.good.few, fun u hu => ?_, fun t3 H1 n1 e1 hp3 => ?_⟩
      · rcases List.mem_append.mp hu with h | h <;> exact (cano_mem h).1
      have ec : cano (at_ (cano f ++ cano g)) = cano fun s => f s + g s := cano_eq fun s hs => by rw [at_app, at_cano hs, at_cano hs]
      rw [ec] at hp3
      walk_at "r"
      exact mkF_leaf hp3 (cano_good b) fun p4 H2 n2 e2 fr => k p4 H2 (none_of e1 n2) (e1.trans e2) fr
    · refine ⟨_, .ref a.C_Form, .type "int", .ref a.C_Form, false, rfl, .own _, .base (.int n), T.fIFk, false, rfl, iteF ?_⟩
      walk_at "r"
      refine whole_int ?_
      refine ⟨true, rfl, ?_⟩
      rw [if_pos rfl]
      walk_at "r"
      refine con_leaf T r ?_
      walk_at "r"
      refine ter_leaf T r fun t1 hp1 => ?_
      walk_at "r"
      exact mkF_leaf hp1 r.good k
end
end RK4


namespace RK4
open PySem PySem.Spec L2 RK RZ StX PyProof.Rows
section
variable {P : Program} {w : World} {K : PySem.W.Frag} {mg : Str → Option Value} {base : Heap} {a : Ad}
theorem oAddgg {X : Cx} (T : Txt X.K X.mg a) (hr : Room 6 X.A) : OpR X (binaryOp .Add) (rOwn2 a.C_Form (spFadd X.K a.C_Form) E0) := op_own2 T.ff T.me_Form_add.at_ T.me_Form_add.fn (ok_Form_add T) hr T.b_Form_add pass0
theorem oAddgi {X : Cx} (T : Txt X.K X.mg a) (hr : Room 6 X.A) : OpR X (binaryOp .Add) (rOwnI a.C_Form (spFadd X.K a.C_Form) E0) := by
  obtain ⟨v1, h1⟩ := T.iAdd
  obtain ⟨v2, h2⟩ := T.iRadd
  exact op_ownI T.ff T.me_Form_add.at_ T.me_Form_add.fn T.fRA (.inl rfl) h1 h2 T.fIF (ok_Form_add T) hr T.b_Form_add pass0
theorem addF_leaf {C : Addr} {H : Hp} {Q : VK} {p q : Addr} {c d : Int} {f g : Str → Int} (r : Frm K C H p c (cano f)) (r2 : Frm K C H q d (cano g)) (b : Bd fun s => f s + g s) (k : ∀ r H', H r = none → Same H H' → Frm K C H' r (c + d) (cano fun s => f s + g s) → Q (.ref r) H') : rOwn2 C (spFadd K C) E0 (.ref p) (.ref q) H Q := by
  obtain ⟨dx, t, ob, _⟩ := r.ob
  obtain ⟨dy, u, ob2, _⟩ := r2.ob
  exact ⟨p, q, dx, _, dy, _, rfl, rfl, ob, ob2, p, .ref q, c, f, rfl, r, .inl ⟨q, d, g, rfl, r2, b, k⟩⟩
theorem addI_leaf {C : Addr} {H : Hp} {Q : VK} {p : Addr} {c n : Int} {f : Str → Int} (r : Frm K C H p c (cano f)) (k : ∀ r H', H r = none → Same H H' → Frm K C H' r (c + n) (cano f) → Q (.ref r) H') : rOwnI C (spFadd K C) E0 (.ref p) (.int n) H Q := by
  obtain ⟨dx, t, ob, _⟩ := r.ob
  exact ⟨p, dx, _, n, rfl, rfl, ob, p, .int n, c, f, rfl, r, .inr ⟨n, rfl, k⟩⟩
/-! ### less another, or an integer -/
def spFsubG (K : PySem.W.Frag) (C : Addr) : Sp := fun vs H Q _ => ∃ (p q : Addr) (c d : Int) (f g : Str → Int), vs = [.ref p, .ref q] ∧ Frm K C H p c (cano f) ∧ Frm K C H q d (cano g) ∧ d.natAbs ≤ 10 ^ 30 ∧ Bd (fun s => g s * -1) ∧ Bd (fun s => f s + g s * -1) ∧ ∀ r H', H r = none → Same H H' → Frm K C H' r (c + d * -1) (cano fun s => f s + g s * -1) → Q (.ref r) H'
theorem ok_Form_subG (T : Txt K mg a) : FnOk P w K mg base CX0 8 a.f_Form_sub a.d_Form_sub ["self", "other"] (spFsubG K a.C_Form) := by
  refine T.F_Form_sub.ok sc_Form_sub (fun vs H Q E h => ?_) (fun cdv A outer s H vs Q E hr h => ?_)
  · obtain ⟨p, q, c, d, f, g, rfl, _⟩ := h
    rfl
  · obtain ⟨p, q, c, d, f, g, rfl, r, r2, bd, b1, b2, k⟩ := h
    refine ⟨_, (pss_cons (ps_if (PW.pt (pw_or (pt_val (pe_callB call_isi (by rfl) T.z_isinstance (by decide +kernel) (pa_cons (pv 1) (pa_cons (pe_glob (v := .ref a.C_Form) rfl T.m_Form rfl) pa_nil)))) (pw_or1 (pt_val (pe_call (ok_is_whole T) (hr.mono (by decide)) (by rfl) T.m_is_whole T.F_is_whole.kp T.b_is_whole .nil pass0 (pa_cons (pv 1) pa_nil)))))) (pss_one (ps_ret (pe_op (oAddgg T (hr.mono (by decide))) (pv 0) (pe_un (oNegg T (hr.mono (by decide))) (pv 1))))) pss_nil)
      (pss_one ps_never)), ?_⟩
    walk_at "r"
    refine ⟨_, .ref a.C_Form, .ref a.C_Form, .ref a.C_Form, true, rfl, .own _, ins_tyF T r2, T.fFF, true, rfl, ?_⟩
    rw [if_pos rfl, if_pos rfl]
    walk_at "r"
    refine negF_leaf r2 bd b1 fun p3 H1 n1 e1 r3 => ?_
    walk_at "r"
    exact addF_leaf (r.same e1) r3 b2 fun p4 H2 n2 e2 r4 => k p4 H2 (none_of e1 n2) (e1.trans e2) r4
def spFsubI (K : PySem.W.Frag) (C : Addr) : Sp := fun vs H Q _ => ∃ (p : Addr) (c n : Int) (f : Str → Int), vs = [.ref p, .int n] ∧ Frm K C H p c (cano f) ∧ ∀ r H', H r = none → Same H H' → Frm K C H' r (c + -n) (cano f) → Q (.ref r) H'
theorem ok_Form_subI (T : Txt K mg a) : FnOk P w K mg base CX0 8 a.f_Form_sub a.d_Form_sub ["self", "other"] (spFsubI K a.C_Form) := by
  refine T.F_Form_sub.ok sc_Form_sub (fun vs H Q E h => ?_) (fun cdv A outer s H vs Q E hr h => ?_)
  · obtain ⟨p, c, n, f, rfl, _⟩ := h
    rfl
  · obtain ⟨p, c, n, f, rfl, r, k⟩ := h
    refine ⟨_, (pss_cons (ps_if (PW.pt (pw_or (pt_val (pe_callB call_isi (by rfl) T.z_isinstance (by decide +kernel) (pa_cons (pv 1) (pa_cons (pe_glob (v := .ref a.C_Form) rfl T.m_Form rfl) pa_nil)))) (pw_or1 (pt_val (pe_call (ok_is_whole T) (hr.mono (by decide)) (by rfl) T.m_is_whole T.F_is_whole.kp T.b_is_whole .nil pass0 (pa_cons (pv 1) pa_nil)))))) (pss_one (ps_ret (pe_op (oAddgi T (hr.mono (by decide))) (pv 0) (pe_un un_neg (pv 1))))) pss_nil)
      (pss_one ps_never)), ?_⟩
    walk_at "r"
    refine ⟨_, .ref a.C_Form, .type "int", .ref a.C_Form, false, rfl, .own _, .base (.int n), T.fIFk, false, rfl, ?_⟩
    rw [if_neg (by decide)]
    walk_at "r"
    refine whole_int ?_
    refine ⟨true, rfl, ?_⟩
    rw [if_pos rfl]
    walk_at "r"
    exact addI_leaf r k
theorem oSubgg {X : Cx} (T : Txt X.K X.mg a) (hr : Room 8 X.A) : OpR X (binaryOp .Sub) (rOwn2 a.C_Form (spFsubG X.K a.C_Form) E0) := op_own2 T.ff T.me_Form_sub.at_ T.me_Form_sub.fn (ok_Form_subG T) hr T.b_Form_sub pass0
theorem oSubgi {X : Cx} (T : Txt X.K X.mg a) (hr : Room 8 X.A) : OpR X (binaryOp .Sub) (rOwnI a.C_Form (spFsubI X.K a.C_Form) E0) := by
  obtain ⟨v1, h1⟩ := T.iSub
  obtain ⟨v2, h2⟩ := T.iRsub
  exact op_ownI T.ff T.me_Form_sub.at_ T.me_Form_sub.fn T.fRS (.inl rfl) h1 h2 T.fIF (ok_Form_subI T) hr T.b_Form_sub pass0
theorem subF_leaf {C : Addr} {H : Hp} {Q : VK} {p q : Addr} {c d : Int} {f g : Str → Int} (r : Frm K C H p c (cano f)) (r2 : Frm K C H q d (cano g)) (bd : d.natAbs ≤ 10 ^ 30) (b1 : Bd fun s => g s * -1) (b : Bd fun s => f s + g s * -1) (k : ∀ r H', H r = none → Same H H' → Frm K C H' r (c + d * -1) (cano fun s => f s + g s * -1) → Q (.ref r) H') : rOwn2 C (spFsubG K C) E0 (.ref p) (.ref q) H Q := by
  obtain ⟨dx, t, ob, _⟩ := r.ob
  obtain ⟨dy, u, ob2, _⟩ := r2.ob
  exact ⟨p, q, dx, _, dy, _, rfl, rfl, ob, ob2, p, q, c, d, f, g, rfl, r, r2, bd, b1, b, k⟩
theorem subI_leaf {C : Addr} {H : Hp} {Q : VK} {p : Addr} {c n : Int} {f : Str → Int} (r : Frm K C H p c (cano f)) (k : ∀ r H', H r = none → Same H H' → Frm K C H' r (c + -n) (cano f) → Q (.ref r) H') : rOwnI C (spFsubI K C) E0 (.ref p) (.int n) H Q := by
  obtain ⟨dx, t, ob, _⟩ := r.ob
  exact ⟨p, dx, _, n, rfl, rfl, ob, p, c, n, f, rfl, r, k⟩
/-! ### equality -/
def dPr (u : Str × Int) : PyData := .tuple [.str u.1, .int u.2]
theorem dp_pairs {H : Hp} : ∀ (as : List Addr) (ps : List (Str × Int)), Pr H as ps → DpAll K H (as.map V.ref) (ps.map dPr)
  | [], [], _ => .nil
  | q :: as, u :: ps, h => .cons (.tup (SqT.of (h.2 0 q u rfl rfl)) (.cons (.str _) (.cons (.int _) .nil))) (dp_pairs as ps ⟨by simpa using h.1, fun i r v a b => h.2 (i + 1) r v a b⟩)
  | [], _ :: _, h => nomatch h.1
  | _ :: _, [], h => nomatch h.1
theorem dp_prs {H : Hp} {t : Addr} {ps : List (Str × Int)} (h : Prs K H t ps) : Dp K H (.ref t) (.tuple (ps.map dPr)) := by
  obtain ⟨as, ht, hp⟩ := h
  exact .tup ht (dp_pairs as ps hp)
theorem lay_pairs : ∀ (ps : List (Str × Int)), (∀ u ∈ ps, PyData.strOk u.1 = true) → PyData.canLayAll0 (ps.map dPr) = true ∧ PyData.depthAll (ps.map dPr) ≤ 1
  | [], _ => ⟨rfl, Nat.zero_le _⟩
  | u :: ps, h => by
    obtain ⟨h1, h2⟩ := lay_pairs ps fun v hv => h v (List.mem_cons_of_mem _ hv)
    have e := h u List.mem_cons_self
    rw [List.map_cons]
    refine ⟨?_, ?_⟩
    · unfold PyData.canLayAll0
      rw [h1]
      have : (dPr u).canLay0 = true := by
        show (PyData.strOk u.1 && (true && true)) = true
        rw [e]
        rfl
      rw [this]
      rfl
    · unfold PyData.depthAll
      have : (dPr u).depth = 1 := rfl
      rw [this]
      omega
theorem let_ok {s : Str} {c : Nat} (h : Let s c) : PyData.strOk s = true := by
  obtain ⟨rfl, h1, h2⟩ := h
  unfold PyData.strOk
  simp
  omega
theorem good_ok {ps : List (Str × Int)} (g : Good ps) : ∀ u ∈ ps, PyData.strOk u.1 = true := fun u hu => by
  obtain ⟨c, hc⟩ := g.let_ u hu
  exact let_ok hc
theorem sh_pairs {ps : List (Str × Int)} (g : Good ps) : SeqAt.shaped (.tuple (ps.map dPr)) = true := by
  obtain ⟨h1, h2⟩ := lay_pairs ps (good_ok g)
  unfold SeqAt.shaped PyData.canLay0 PyData.depth
  rw [h1]
  refine Bool.and_eq_true_iff.mpr ⟨rfl, decide_eq_true ?_⟩
  omega
theorem eqv_pr (u v : Str × Int) : PyData.eqv (dPr u) (dPr v) = decide (u = v) := by
  have e : PyData.eqv (dPr u) (dPr v) = ((u.1 == v.1) && ((u.2 == v.2) && true)) := rfl
  rw [e, Bool.and_true]
  obtain ⟨x, y⟩ := u
  obtain ⟨x', y'⟩ := v
  rw [Bool.eq_iff_iff]
  simp
theorem eqv_pairs : ∀ ps qs : List (Str × Int), PyData.eqvAll (ps.map dPr) (qs.map dPr) = decide (ps = qs)
  | [], [] => rfl
  | [], _ :: _ => rfl
  | _ :: _, [] => rfl
  | u :: ps, v :: qs => by
    have e : PyData.eqvAll ((u :: ps).map dPr) ((v :: qs).map dPr) = (PyData.eqv (dPr u) (dPr v) && PyData.eqvAll (ps.map dPr) (qs.map dPr)) := rfl
    rw [e, eqv_pr, eqv_pairs ps qs, Bool.eq_iff_iff]
    simp
def spFeq (K : PySem.W.Frag) (C : Addr) : Sp := fun vs H Q _ => ∃ (p : Addr) (x : V) (c : Int) (ps : List (Str × Int)), vs = [.ref p, x] ∧ Frm K C H p c ps ∧
  ((∃ q d qs, x = .ref q ∧ Frm K C H q d qs ∧ Q (.bl (decide (c = d) && decide (ps = qs))) H) ∨ (∃ n, x = .int n ∧ Q (.bl false) H))
theorem ok_Form_eq (T : Txt K mg a) : FnOk P w K mg base CX0 2 a.f_Form_eq a.d_Form_eq ["self", "other"] (spFeq K a.C_Form) := by
  refine T.F_Form_eq.ok sc_Form_eq (fun vs H Q E h => ?_) (fun cdv A outer s H vs Q E hr h => ?_)
  · obtain ⟨p, x, c, ps, rfl, _⟩ := h
    rfl
  · obtain ⟨p, x, c, ps, rfl, r, h⟩ := h
    refine ⟨_, (pss_one (ps_ret (pe_and (pe_callB call_isi (by rfl) T.z_isinstance (by decide +kernel) (pa_cons (pv 1) (pa_cons (pe_glob (v := .ref a.C_Form) rfl T.m_Form rfl) pa_nil))) (pe_and (pe_cmpR op_eq (pe_fld (pv 0) rfl) (pe_fld (pv 1) rfl) (nomark _)) (pe_one (pe_cmpR (op_eqD hr.units) (pe_fld (pv 0) rfl) (pe_fld (pv 1) rfl) (nomark _))))))), ?_⟩
    walk_at "r"
    rcases h with ⟨q, d, qs, rfl, r2, k⟩ | ⟨n, rfl, k⟩
    · refine ⟨_, .ref a.C_Form, .ref a.C_Form, .ref a.C_Form, true, rfl, .own _, ins_tyF T r2, T.fFF, true, rfl, iteT ?_⟩
      walk_at "r"
      refine con_leaf T r ?_
      walk_at "r"
      refine con_leaf T r2 ?_
      walk_at "r"
      refine w_iteD (fun z => ?_) (fun z => ?_)
      · rw [decide_eq_true (V.int.inj z), Bool.true_and] at k
        walk_at "r"
        refine ter_leaf T r fun t1 hp1 => ?_
        walk_at "r"
        refine ter_leaf T r2 fun t2 hp2 => ?_
        refine ⟨_, _, dp_prs hp1, dp_prs hp2, sh_pairs r.good, sh_pairs r2.good, ?_⟩
        show Q (.bl (PyData.eqvAll (ps.map dPr) (qs.map dPr))) H
        rw [eqv_pairs]
        exact k
      · rw [decide_eq_false fun e => z (congrArg V.int e), Bool.false_and] at k
        exact k
    · exact ⟨_, .ref a.C_Form, .type "int", .ref a.C_Form, false, rfl, .own _, .base (.int n), T.fIFk, false, rfl, iteF k⟩
theorem oEqgg {X : Cx} (T : Txt X.K X.mg a) (hr : Room 2 X.A) : OpR X (compareOp .Eq) (rEqO X.K a.C_Form (spFeq X.K a.C_Form) E0) := op_eqO T.me_Form_eq.at_ T.me_Form_eq.fn (ok_Form_eq T) hr T.b_Form_eq pass0
abbrev oEqgi := @oEqgg
theorem oNotEqgg {X : Cx} (T : Txt X.K X.mg a) (hr : Room 3 X.A) : OpR X (compareOp .NotEq) (rNeO a.C_Form (spFeq X.K a.C_Form) E0) := op_neO T.me_Form_eq.at_ T.me_Form_eq.fn T.fne T.fob (ok_Form_eq T) hr T.b_Form_eq pass0
theorem eqF_leaf (T : Txt K mg a) {H : Hp} {Q : VK} {p q : Addr} {c d : Int} {ps qs : List (Str × Int)} (r : Frm K a.C_Form H p c ps) (r2 : Frm K a.C_Form H q d qs) (k : Q (.bl (decide (c = d) && decide (ps = qs))) H) : rEqO K a.C_Form (spFeq K a.C_Form) E0 (.ref p) (.ref q) H Q := by
  obtain ⟨dx, t, ob, _⟩ := r.ob
  exact ⟨p, dx, _, .ref a.C_Form, rfl, ob, ins_tyF T r2, T.ffF, p, .ref q, c, ps, rfl, r, .inl ⟨q, d, qs, rfl, r2, k⟩⟩
theorem eqFI_leaf (T : Txt K mg a) {H : Hp} {Q : VK} {p : Addr} {c n : Int} {ps : List (Str × Int)} (r : Frm K a.C_Form H p c ps) (k : Q (.bl false) H) : rEqO K a.C_Form (spFeq K a.C_Form) E0 (.ref p) (.int n) H Q := by
  obtain ⟨dx, t, ob, _⟩ := r.ob
  exact ⟨p, dx, _, .type "int", rfl, ob, .base (.int n), T.ffI, p, .int n, c, ps, rfl, r, .inr ⟨n, rfl, k⟩⟩
end
end RK4


namespace RK4
open PySem PySem.Spec L2 RK RZ StX PyProof.Rows
/-! ### lengths -/
structure Ln (C : Addr) (H : Hp) (kvs : List (Key × V)) (w : Str → Int) : Prop where
  len : kvs.length ≤ 6
  ent : ∀ kv ∈ kvs, ∃ s v t b, kv = (Sum.inr s, v) ∧ s ∈ lts ∧ Frn C H v t b ∧ 0 ≤ t
  has : ∀ s ∈ lts, ∃ v t b, valV kvs (.inr s) = some v ∧ Frn C H v t b ∧ Nrm (w s) 6 t b
theorem Frn.sameX {C : Addr} {H H' : Hp} {x : V} {t b : Int} (f : Frn C H x t b) (e : ∀ p C dx fs, H p = some (.ins C dx fs) → H' p = some (.ins C dx fs)) : Frn C H' x t b := by
  rcases f with h | ⟨p, rfl, r⟩
  · exact .inl h
  · obtain ⟨dx, h⟩ := r.ob
    exact .inr ⟨p, rfl, ⟨dx, e _ _ _ _ h⟩, r.pos, r.cop⟩
theorem Frn.same {C : Addr} {H H' : Hp} {x : V} {t b : Int} (f : Frn C H x t b) (e : Same H H') : Frn C H' x t b := f.sameX fun p C dx fs h => e _ _ h
theorem Ln.sameX {C : Addr} {H H' : Hp} {kvs : List (Key × V)} {w : Str → Int} (l : Ln C H kvs w) (e : ∀ p C dx fs, H p = some (.ins C dx fs) → H' p = some (.ins C dx fs)) : Ln C H' kvs w :=
  ⟨l.len, fun kv h => let ⟨s, v, t, b, h1, h2, h3, h4⟩ := l.ent kv h; ⟨s, v, t, b, h1, h2, h3.sameX e, h4⟩, fun s h => let ⟨v, t, b, h1, h2, h3⟩ := l.has s h; ⟨v, t, b, h1, h2.sameX e, h3⟩⟩
theorem Ln.same {C : Addr} {H H' : Hp} {kvs : List (Key × V)} {w : Str → Int} (l : Ln C H kvs w) (e : Same H H') : Ln C H' kvs w := l.sameX fun p C dx fs h => e _ _ h
/-- locked, walked, unlocked: all stands -/
theorem unlock_same {H H' : Hp} {D : Addr} {od : Obj} {u : HO} (hD : H D = some u) (e : Same (upd H D (.frz od u)) H') : Same H (upd H' D u) := fun c o h => by
  by_cases z : c = D
  · subst z
    rw [hD] at h
    cases h
    exact upd_same
  · rw [upd_ne z]
    exact e c o (by rw [upd_ne z]; exact h)
section
variable {P : Program} {w : World} {K : PySem.W.Frag} {mg : Str → Option Value} {base : Heap} {a : Ad}
section
variable {σ : L2.St} {H : Hp} {Q : VK} {te : TE} {vs : List Nat}
def LcI (g : TG) (tt : TT) (te : TE) (vs : List Nat) (σ : L2.St) (J : It) (H : Hp) (Q : VK) : Prop := ∀ D, H D = none → ∃ W : Nat → Nat → Hp → Prop, (∃ m, W 0 m (upd H D (.lst []))) ∧ ∀ i m G, W i m G →
  (J.stop i G ∧ Q (.ref D) G) ∨ (J.go i G ∧ ∃ Nx : Hp → Prop, (∀ G', Nx G' → ∃ m', m' < m ∧ W (i + 1) m' G') ∧ ∀ y G', J.yld i G y G' → g y (wipe σ vs) G' fun σ2 H2 => wipe σ2 vs = wipe σ vs ∧ tt σ2 H2 fun b H3 =>
    if b = true then te σ2 H3 fun y H4 => ∃ acc, H4 D = some (.lst acc) ∧ acc.length < sizeLine ∧ Nx (upd H4 D (.lst (acc ++ [y]))) else Nx H3)
theorem w_lcStr {tl : TE} {g : TG} {tt : TT} (h : tl σ H fun v H1 => ∃ x, v = .str x ∧ LcI g tt te vs σ (Its x) H1 Q) : tLc (iStr tl) g tt te vs σ H Q := h
theorem w_lcItm {td : TE} {g : TG} {tt : TT} (h : td σ H fun x H1 => ∃ d o kvs, x = .ref d ∧ H1 d = some (.frz o (.dK kvs)) ∧ LcI g tt te vs σ (Iti d o kvs) H1 Q) : tLc (iItems td) g tt te vs σ H Q := h
theorem w_lockE {t : TE} {d : Addr} {u : HO} (hd : H d = some u) (mu : Mut (some u)) (k : ∀ od, t σ (upd H d (.frz od u)) fun v H' => H' d = some (.frz od u) ∧ Q v (upd H' d u)) : tLockE t σ H Q := ⟨d, u, hd, mu, k⟩
/-- [.. for x in a text], all true -/
theorem lcStr_leaf {x : Str} {j : Nat} (hlen : x.cps.size ≤ 1000) (hw : ∀ y, wipe ((wipe σ vs).set j (some y)) vs = wipe σ vs)
    (he : ∀ (c : Nat) (H' : Hp), c ∈ x.cps.toList → Same H H' → ∀ Q' : VK, (∀ H'', Same H' H'' → Q' (.bl true) H'') → te ((wipe σ vs).set j (some (.str ⟨#[c]⟩))) H' Q')
    (k : ∀ D zs H', H D = none → Same H H' → H' D = some (.lst zs) → (∀ (n : Nat) (v : V), zs[n]? = some v → v = .bl true) → Q (.ref D) H') : LcI (gName j) tYes te vs σ (Its x) H Q := by
  intro D hD
  refine ⟨fun n m G => m = x.cps.size - n ∧ n ≤ x.cps.size ∧ Same H G ∧ G D = some (.lst (List.replicate n (.bl true))), ⟨_, rfl, Nat.zero_le _, w_new hD, upd_same⟩, ?_⟩
  rintro n m G ⟨rfl, hn, e, hG⟩
  by_cases h1 : n < x.cps.size
  · refine .inr ⟨h1, fun G' => Same H G' ∧ G' D = some (.lst (List.replicate (n + 1) (.bl true))), fun G' hq => ⟨_, by omega, rfl, h1, hq.1, hq.2⟩, fun v G' hq => ?_⟩
    obtain ⟨rfl, c, hc, rfl⟩ := hq
    refine ⟨hw _, ?_⟩
    refine w_yes ?_
    rw [if_pos rfl]
    refine he c _ (by have := Array.mem_of_getElem? hc; exact Array.mem_toList_iff.mpr this) e _ fun G2 e2 => ?_
    have hG2 : G2 D = some (.lst (List.replicate n (.bl true))) := e2 _ _ hG
    exact ⟨_, hG2, by rw [List.length_replicate]; exact Nat.lt_of_lt_of_le (show n < 1001 by omega) (by decide), RK.Same.updL (e.trans e2) hD, by rw [upd_same, List.replicate_succ']⟩
  · refine .inl ⟨by show x.cps.size ≤ n; omega, k D _ G hD e hG fun n v hv => ?_⟩
    have := List.mem_of_getElem? hv
    exact (List.mem_replicate.mp this).2
/-- [.. for k, v in d.items()] of a locked dict, all true -/
theorem lcItm_leaf {d : Addr} {od : Obj} {kvs : List (Key × V)} {i j : Nat} (hd : H d = some (.frz od (.dK kvs))) (hlen : kvs.length ≤ 1000)
    (he : ∀ (k : Key) (v : V) (H' : Hp), (k, v) ∈ kvs → Same H H' → wipe (((wipe σ vs).set i (some (kV k))).set j (some v)) vs = wipe σ vs ∧ ∀ Q' : VK, (∀ H'', Same H' H'' → Q' (.bl true) H'') → te (((wipe σ vs).set i (some (kV k))).set j (some v)) H' Q')
    (k : ∀ D zs H', H D = none → Same H H' → H' D = some (.lst zs) → (∀ (n : Nat) (v : V), zs[n]? = some v → v = .bl true) → Q (.ref D) H') : LcI (gTup K 2 (gCons (gName i) (gCons (gName j) gNil))) tYes te vs σ (Iti d od kvs) H Q := by
  intro D hD
  refine ⟨fun n m G => m = kvs.length - n ∧ n ≤ kvs.length ∧ Same H G ∧ G D = some (.lst (List.replicate n (.bl true))), ⟨_, rfl, Nat.zero_le _, w_new hD, upd_same⟩, ?_⟩
  rintro n m G ⟨rfl, hn, e, hG⟩
  by_cases h1 : n < kvs.length
  · refine .inr ⟨⟨e _ _ hd, h1⟩, fun G' => Same H G' ∧ G' D = some (.lst (List.replicate (n + 1) (.bl true))), fun G' hq => ⟨_, by omega, rfl, h1, hq.1, hq.2⟩, fun y G' hq => ?_⟩
    obtain ⟨T, kk, v, hkv, rfl, hT, rfl⟩ := hq
    have eT := w_new (o := .tup [kV kk, v]) hT
    obtain ⟨w1, w2⟩ := he kk v _ (List.mem_of_getElem? hkv) (e.trans eT)
    refine ⟨T, [kV kk, v], rfl, SqT.of upd_same, rfl, kV kk, [v], rfl, v, [], rfl, rfl, w1, ?_⟩
    refine w_yes ?_
    rw [if_pos rfl]
    refine w2 _ fun G2 e2 => ?_
    have hG2 : G2 D = some (.lst (List.replicate n (.bl true))) := e2 _ _ (eT _ _ hG)
    exact ⟨_, hG2, by rw [List.length_replicate]; exact Nat.lt_of_lt_of_le (show n < 1001 by omega) (by decide), RK.Same.updL ((e.trans eT).trans e2) hD, by rw [upd_same, List.replicate_succ']⟩
  · refine .inl ⟨⟨e _ _ hd, by omega⟩, k D _ G hD e hG fun n v hv => ?_⟩
    have := List.mem_of_getElem? hv
    exact (List.mem_replicate.mp this).2
end
/-! ### what is a length -/
def spLen (C : Addr) : Sp := fun vs H Q _ => ∃ x t b, vs = [x] ∧ Frn C H x t b ∧ 0 ≤ t ∧ ∀ H', Same H H' → Q (.bl true) H'
theorem ok_is_length (T : Txt K mg a) : FnOk P w K mg base CX0 5 a.f_is_length a.d_is_length ["value"] (spLen a.C_Ratio) := by
  refine T.F_is_length.ok sc_is_length (fun vs H Q E h => ?_) (fun cdv A outer s H vs Q E hr h => ?_)
  · obtain ⟨x, t, b, rfl, _⟩ := h
    rfl
  · obtain ⟨x, t, b, rfl, f, h0, k⟩ := h
    refine ⟨_, (pss_one (ps_ret (pe_and (pe_call (ok_is_fraction T) (hr.mono (by decide)) (by rfl) T.m_is_fraction T.F_is_fraction.kp T.b_is_fraction .nil pass0 (pa_cons (pv 0) pa_nil)) (pe_one (pe_cmpR op_ge (pe_fld (pe_call (ok_as_ratio T) (hr.mono (by decide)) (by rfl) T.m_as_ratio T.F_as_ratio.kp T.b_as_ratio .nil pass0 (pa_cons (pv 0) pa_nil)) rfl) pe_int (nomark _)))))), ?_⟩
    walk_at "r"
    refine frac_leaf f ?_
    refine ⟨true, rfl, iteT ?_⟩
    walk_at "r"
    refine as_leaf f fun p H1 e1 r1 => ?_
    walk_at "r"
    refine top_leaf T r1 ?_
    walk_at "r"
    have k1 := k H1 e1
    exact (by simpa [h0] using k1)
def spLens (K : PySem.W.Frag) (C : Addr) : Sp := fun vs H Q _ => ∃ (D : Addr) (nm : Str) (kvs : List (Key × V)) (w : Str → Int), vs = [.ref D, .str nm] ∧ H D = some (.dK kvs) ∧ Ln C H kvs w ∧ nm.cps.size ≤ 6 ∧ (∀ c ∈ nm.cps.toList, (⟨#[c]⟩ : Str) ∈ lts) ∧ ∀ H', Same H H' → Q (.bl true) H'
theorem ok_are_lengths_for (T : Txt K mg a) : FnOk P w K mg base CX0 6 a.f_are_lengths_for a.d_are_lengths_for ["value", "names"] (spLens K a.C_Ratio) := by
  refine T.F_are_lengths_for.ok sc_are_lengths_for (fun vs H Q E h => ?_) (fun cdv A outer s H vs Q E hr h => ?_)
  · obtain ⟨D, nm, kvs, w, rfl, _⟩ := h
    rfl
  · obtain ⟨D, nm, kvs, w, rfl, hD, ln, l6, hl, k⟩ := h
    refine ⟨_, (pss_cons (ps_if (PW.pt (pw_or (pt_not (pt_val (pe_callB call_isi (by rfl) T.z_isinstance (by decide +kernel) (pa_cons (pv 0) (pa_cons (pe_bltn (v := .ty "dict") (by rfl) T.z_dict (by decide +kernel) rfl) pa_nil))))) (pw_or1 (pt_not (pt_val (pe_callB (cr_all rfl) (by rfl) T.z_all (by decide +kernel) (pa_cons (pe_lc (own := [("name", 2)]) (g := gName 2) (tt := tYes) rfl sc_are_lengths_for.nd (pi_str (pv 1)) (blkOk_by (own := [("name", 2)]) (N := ["value", "names", "name", "length"]) (sc := defScope s_are_lengths_for) (by decide +kernel)) (fun _ _ _ _ _ => pg_name (i := 2) sc_are_lengths_for.nd rfl (Or.inl rfl)) (fun _ _ _ _ _ => pts_nil) (fun _ _ _ _ _ => by exact (pe_cmp (pc_din (hu_of hr) (pv 2) (pv 0))))) pa_nil))))))) (pss_one (ps_ret pe_bl)) pss_nil)
      (pss_one (ps_ret (pe_callB (cr_all rfl) (by rfl) T.z_all (by decide +kernel) (pa_cons (pe_lock (pe_lc (own := [("name", 2), ("length", 3)]) (g := gTup K 2 (gCons (gName 2) (gCons (gName 3) gNil))) (tt := tYes) rfl sc_are_lengths_for.nd (pi_items (pv 0)) (blkOk_by (own := [("name", 2), ("length", 3)]) (N := ["value", "names", "name", "length"]) (sc := defScope s_are_lengths_for) (by decide +kernel)) (fun _ _ _ _ _ => by exact pg_tup (n := 2) rfl (pgs_cons (pg_name (i := 2) sc_are_lengths_for.nd rfl (Or.inl rfl)) (pgs_cons (pg_name (i := 3) sc_are_lengths_for.nd rfl (Or.inl rfl)) pgs_nil))) (fun _ _ _ _ _ => pts_nil) (fun _ _ _ _ _ => by exact (pe_and (pe_call (ok_is_small_letter T) (hr.mono (by decide)) (by rfl) T.m_is_small_letter T.F_is_small_letter.kp T.b_is_small_letter .nil pass0 (pa_cons (pv 2) pa_nil)) (pe_one (pe_call (ok_is_length T) (hr.mono (by decide)) (by rfl) T.m_is_length T.F_is_length.kp T.b_is_length .nil pass0 (pa_cons (pv 3) pa_nil))))))) pa_nil))))), ?_⟩
    walk_at "r"
    refine ⟨_, .ty "dict", .type "dict", .type "dict", true, rfl, .ty _, .base (.dK hD), kit_ty (by decide +kernel), true, rfl, ?_⟩
    rw [if_neg (by decide)]
    walk_at "r"
    refine w_lcStr ?_
    walk_at "r"
    refine ⟨nm, rfl, lcStr_leaf (by omega) (fun _ => rfl) (fun c H' hc e Q' kq => ?_) (fun D1 zs H1 n1 e1 h1 hP => ?_)⟩
    · obtain ⟨v, t, b, hv, _, _⟩ := ln.has _ (hl c hc)
      unfold tDIn
      walk_at "r"
      refine ⟨D, _, rfl, DGet.k (k := Sum.inr (⟨#[c]⟩ : Str)) (e _ _ hD), ?_⟩
      rw [hv]
      exact kq H' (w_same _)
    walk_at "r"
    refine all_P h1 hP ?_
    refine ⟨true, rfl, ?_⟩
    rw [if_neg (by decide)]
    walk_at "r"
    have hD1 := e1 _ _ hD
    refine w_lockE hD1 (by first | trivial | exact True.intro) fun od => ?_
    refine w_lcItm ?_
    walk_at "r"
    refine ⟨D, od, kvs, rfl, upd_same, lcItm_leaf upd_same (by have := ln.len; omega) (fun kk v H' hkv e => ?_) (fun D2 zs2 H2 n2 e2 h2 hP2 => ?_)⟩
    · obtain ⟨s', v', t, b, ekv, hs, f, h0⟩ := ln.ent _ hkv
      cases ekv
      refine ⟨rfl, fun Q' kq => ?_⟩
      walk_at "r"
      refine ⟨s', rk s', rfl, lts_let s' hs, ?_⟩
      refine ⟨true, rfl, iteT ?_⟩
      walk_at "r"
      refine ⟨v, t, b, rfl, f.sameX fun p C dx fs h => e _ _ ?_, h0, kq⟩
      have hp1 := e1 _ _ h
      rw [upd_ne (ne_of hp1 hD1 (by intro z; cases z))]
      exact hp1
    · refine ⟨e2 _ _ upd_same, ?_⟩
      have e3 := unlock_same hD1 e2
      have nD2 : D2 ≠ D := fun z => by rw [z, upd_same] at n2; cases n2
      have h3 : upd H2 D (.dK kvs) D2 = some (.lst zs2) := by rw [upd_ne nD2]; exact h2
      walk_at "r"
      exact all_P h3 hP2 (k _ (e1.trans e3))
end
end RK4


namespace RK4
open PySem PySem.Spec L2 RK RZ StX PyProof.Rows
/-! ### the worth -/
def wsum (l : List (Str × Int)) (w : Str → Int) : Int := (l.map fun u => u.2 * w u.1).sum
theorem wsum_snoc (l : List (Str × Int)) (u : Str × Int) (w : Str → Int) : wsum (l ++ [u]) w = wsum l w + u.2 * w u.1 := by
  unfold wsum
  rw [List.map_append, List.sum_append]
  show _ + (u.2 * w u.1 + 0) = _
  omega
theorem wsum_cano (f w : Str → Int) : wsum (cano f) w = (lts.map fun s => w s * f s).sum := by
  unfold cano wsum
  generalize lts = l
  induction l with
  | nil => rfl
  | cons s l ih =>
    rw [List.filterMap_cons, List.map_cons, List.sum_cons, ← ih]
    unfold prs
    by_cases c : f s = 0
    · rw [if_pos c, c, Int.mul_zero, Int.zero_add]
    · rw [if_neg c]
      show f s * w s + _ = _
      rw [Int.mul_comm]
      rfl
theorem wsum_le {w : Str → Int} : ∀ l : List (Str × Int), (∀ u ∈ l, u.2.natAbs ≤ 10 ^ 30 ∧ (w u.1).natAbs ≤ 10 ^ 6) → (wsum l w).natAbs ≤ l.length * 10 ^ 36
  | [], _ => Nat.zero_le _
  | u :: l, h => by
    have ih := wsum_le l fun v hv => h v (List.mem_cons_of_mem _ hv)
    obtain ⟨h1, h2⟩ := h u List.mem_cons_self
    have e : wsum (u :: l) w = u.2 * w u.1 + wsum l w := by unfold wsum; rw [List.map_cons, List.sum_cons]
    have p : (u.2 * w u.1).natAbs ≤ 10 ^ 30 * 10 ^ 6 := by rw [Int.natAbs_mul]; exact Nat.mul_le_mul h1 h2
    rw [e, List.length_cons]
    have := Int.natAbs_add_le (u.2 * w u.1) (wsum l w)
    omega
/-- a sixths' sum and a product of a length -/
theorem nrm_step {A x y n v t b x2 y2 x' y' : Int} (h1 : Nrm A 6 x y) (hb : 0 < b) (h2 : t * 6 = v * b) (h3 : Nrm (t * n) b x2 y2) (h4 : Nrm (x * y2 + x2 * y) (y * y2) x' y') : Nrm (A + n * v) 6 x' y' := by
  refine ⟨h4.pos, h4.cop, ?_⟩
  have e1 := h1.eq
  have e3 := h3.eq
  have e4 := h4.eq
  have p : (y * y2 * b) ≠ 0 := Int.ne_of_gt (Int.mul_pos (Int.mul_pos h1.pos h3.pos) hb)
  refine Int.eq_of_mul_eq_mul_right p ?_
  grind
theorem Nrm.of_int {t n : Int} : Nrm (t * n) 1 (t * n) 1 := ⟨by decide, Int.gcd_one_right .., rfl⟩
theorem sz_of {z : Int} {b : Nat} (h : z.natAbs < 2 ^ 200) (hb : 200 ≤ b) : Sz b z := by
  unfold Sz
  exact Nat.lt_of_lt_of_le h (Nat.pow_le_pow_right (by decide) hb)
section
variable {P : Program} {w : World} {K : PySem.W.Frag} {mg : Str → Option Value} {base : Heap} {a : Ad}
theorem nms_chars {ps : List (Str × Int)} (h : ∀ u ∈ ps, u.1 ∈ lts) (few : ps.length ≤ 6) : (nms ps).cps.size ≤ 6 ∧ ∀ c ∈ (nms ps).cps.toList, (⟨#[c]⟩ : Str) ∈ lts := by
  have jt : ∀ parts : List Str, TL.tl (Txt.join "" parts) = (parts.map TL.tl).flatten := fun parts => by
    rw [TL.join_eq, TL.tl_join]
    induction parts with
    | nil => rfl
    | cons p r ih =>
      cases r with
      | nil => show TL.tl p = [TL.tl p].flatten; simp
      | cons q r =>
        rw [List.map_cons, List.flatten_cons, ← ih]
        rfl
  have e : (nms ps).cps.toList = ps.map fun u => rk u.1 := by
    show TL.tl (nms ps) = _
    unfold nms
    rw [jt, List.map_map]
    clear few
    induction ps with
    | nil => rfl
    | cons u ps ih =>
      rw [List.map_cons, List.flatten_cons, List.map_cons, ih fun v hv => h v (List.mem_cons_of_mem _ hv)]
      have := (lts_let u.1 (h u List.mem_cons_self)).1
      show TL.tl u.1 ++ _ = _
      rw [show TL.tl u.1 = [rk u.1] from by
        show u.1.cps.toList = _
        generalize rk u.1 = c at this
        rw [this]]
      rfl
  refine ⟨?_, fun c hc => ?_⟩
  · rw [← Array.length_toList, e, List.length_map]
    exact few
  · rw [e] at hc
    obtain ⟨u, hu, rfl⟩ := List.mem_map.mp hc
    rw [← (lts_let u.1 (h u hu)).1]
    exact h u hu
theorem oAddqf {X : Cx} (T : Txt X.K X.mg a) (hr : Room 5 X.A) : OpR X (binaryOp .Add) (fun x y H Q => rOwn2 a.C_Ratio (spAdd a.C_Ratio) E0 x y H Q ∨ rOwnI a.C_Ratio (spAdd a.C_Ratio) E0 x y H Q) := OpR.or (oAddqq T hr) (oAddqi T hr)
def ForT (K : PySem.W.Frag) (g : TG) (tb : TS) (D : Ends) (σ : L2.St) (x : V) (H : Hp) : Prop := tFor (iTup K (tC x)) g tb D σ H
theorem w_forT {σ : L2.St} {H : Hp} {g : TG} {tb : TS} {D : Ends} {tl : TE} (h : tl σ H fun x H1 => ForT K g tb D σ x H1) : tFor (iTup K tl) g tb D σ H := h
def spAt (K : PySem.W.Frag) (CF C : Addr) : Sp := fun vs H Q _ => ∃ (p D : Addr) (c : Int) (f v : Str → Int) (kvs : List (Key × V)), vs = [.ref p, .ref D] ∧ Frm K CF H p c (cano f) ∧ H D = some (.dK kvs) ∧ Ln C H kvs v ∧ c.natAbs ≤ 10 ^ 30 ∧ (∀ s ∈ lts, (v s).natAbs ≤ 10 ^ 6) ∧
  ∀ q H' x y, Same H H' → Rat C H' q x y → Nrm (6 * c + wsum (cano f) v) 6 x y → Q (.ref q) H'
theorem ok_Form_at (T : Txt K mg a) : FnOk P w K mg base CX0 8 a.f_Form_at a.d_Form_at ["self", "lengths"] (spAt K a.C_Form a.C_Ratio) := by
  refine T.F_Form_at.ok sc_Form_at (fun vs H Q E h => ?_) (fun cdv A outer s H vs Q E hr h => ?_)
  · obtain ⟨p, D, c, f, v, kvs, rfl, _⟩ := h
    rfl
  · obtain ⟨p, D, c, f, v, kvs, rfl, r, hD, ln, bc, bv, k⟩ := h
    obtain ⟨ds, vd1, bd1⟩ := bd1_Ratio T
    obtain ⟨n6, nl⟩ := nms_chars (ps := cano f) (fun u hu => (cano_mem hu).1) r.good.few
    refine ⟨_, (pss_cons (ps_if (pt_not (pt_val (pe_call (ok_are_lengths_for T) (hr.mono (by decide)) (by rfl) T.m_are_lengths_for T.F_are_lengths_for.kp T.b_are_lengths_for .nil pass0 (pa_cons (pv 1) (pa_cons (pe_fld (pv 0) rfl) pa_nil))))) (pss_one ps_never) pss_nil)
      (pss_cons (ps_set (i := 2) sc_Form_at.nd rfl (Or.inl rfl) (pe_make T.mk_Ratio (ok_Ratio_init T) (hr.mono (by decide)) (by rfl) T.m_Ratio bd1 vd1 pass0 (pa_cons (pe_fld (pv 0) rfl) pa_nil)))
      (pss_cons (ps_for PassesOwn.never rfl (pi_tup (pe_fld (pv 0) rfl)) (pg_tup rfl (pgs_cons (pg_name (i := 3) sc_Form_at.nd rfl (Or.inl rfl)) (pgs_cons (pg_name (i := 4) sc_Form_at.nd rfl (Or.inl rfl)) pgs_nil))) (pss_one (ps_set (i := 2) sc_Form_at.nd rfl (Or.inl rfl) (pe_op (oAddqf T (hr.mono (by decide))) (pv 2) (pe_op (OpR.or op_mulW (oMultqi T (hr.mono (by decide)))) (pe_dget (hu_of hr) (pv 1) (pv 3) (fun _ _ => rfl)) (pv 4))))))
      (pss_one (ps_ret (pv 2)))))), ?_⟩
    walk_at "r"
    refine nam_leaf T r ?_
    walk_at "r"
    refine ⟨D, nms (cano f), kvs, v, rfl, hD, ln, n6, nl, fun H1 e1 => ?_⟩
    refine ⟨true, rfl, ?_⟩
    rw [if_neg (by decide)]
    walk_at "r"
    refine con_leaf T (r.same e1) ?_
    walk_at "r"
    refine mk1_leaf fun q2 H2 n2 e2 r2 => ?_
    walk_at "r"
    have e12 := e1.trans e2
    refine w_forT ?_
    walk_at "r"
    refine ter_leaf T (r.same e12) fun t hp => ?_
    obtain ⟨as, ht, hpr⟩ := hp
    have hD2 := e12 _ _ hD
    have ln2 := ln.same e12
    have few := r.good.few
    refine ⟨t, rfl, ⟨_, ht⟩, for_tup (K := K) (a := t) (xs := as.map V.ref)
      (fun j σ' G => Same H2 G ∧ ∃ q x y, Rat a.C_Ratio G q x y ∧ Nrm (6 * c + wsum ((cano f).take j) v) 6 x y ∧ ∃ (v1 v2 : Option V), σ' = [some (.ref p), some (.ref D), some (.ref q), v1, v2]) ⟨w_same _, q2, c, 1, r2, ⟨by decide, Int.gcd_one_right .., by show c * 6 = (6 * c + 0) * 1; omega⟩, _, _, rfl⟩ (fun j σ' G _ ⟨e, _⟩ => seqT_same e ht) ?_ ?_⟩
    · rintro j x0 σ' G hj ⟨e, q, x, y, rq, hn, v1, v2, rfl⟩
      obtain ⟨q', u, rfl, b1, b2, b3⟩ := hpr.at_ hj
      have hu := cano_mem (List.mem_of_getElem? b2)
      obtain ⟨lv, lt, lb, g1, g2, g3⟩ := ln2.has u.1 hu.1
      refine g_two (e _ _ b3) ?_
      have tk : (cano f).take (j + 1) = (cano f).take j ++ [u] := by rw [List.take_succ, b2]; rfl
      have un : u.2.natAbs ≤ 10 ^ 30 := r.good.sz u (List.mem_of_getElem? b2)
      have gt := g3.le (by decide)
      have vb := bv u.1 hu.1
      have zt : Sz 20 lt := Nat.lt_of_le_of_lt (Nat.le_trans gt.2 vb) (by decide)
      have zb : Sz 1000 lb := Sz.small (Nat.lt_of_le_of_lt gt.1 (by decide))
      have zn : Sz 200 u.2 := Nat.lt_of_le_of_lt un (by decide)
      have zp : Sz 220 (lt * u.2) := zt.mul zn
      have hxy := hn.le (by decide)
      have zy : Sz 1000 y := Sz.small (Nat.lt_of_le_of_lt hxy.1 (by decide))
      have zx : Sz 1000 x := by
        have wl := wsum_le (w := v) ((cano f).take j) fun w hw => ⟨r.good.sz w (List.mem_of_mem_take hw), bv w.1 (cano_mem (List.mem_of_mem_take hw)).1⟩
        have tl : ((cano f).take j).length ≤ 6 := by rw [List.length_take]; omega
        refine sz_of (Nat.lt_of_le_of_lt (m := 7 * 10 ^ 36) ?_ (by decide)) (by decide)
        omega
      walk_at "r"
      unfold tDGet
      walk_at "r"
      refine ⟨D, lv, rfl, ?_, ?_⟩
      · rw [← g1]
        exact DGet.k (k := Sum.inr u.1) (e _ _ hD2)
      walk_at "r"
      rcases g2.same e with ⟨rfl, rfl⟩ | ⟨pv, rfl, rv⟩
      · refine .inl ⟨lt, u.2, rfl, rfl, zt.ok zn, ?_⟩
        refine .inr ?_
        refine ownI_leaf rq zx zy (zp.mono (by decide)) fun q3 G3 x3 y3 e3 r3 n3 => ?_
        walk_at "r"
        refine ⟨e.trans e3, q3, x3, y3, r3, ?_, _, _, rfl⟩
        rw [tk, wsum_snoc, ← Int.add_assoc]
        exact nrm_step hn (by decide) g3.eq Nrm.of_int n3
      · refine .inr ?_
        refine ownI_leaf rv (zt.mono (by decide)) zb (zn.mono (by decide)) fun q3 G3 x3 y3 e3 r3 n3 => ?_
        have n3' : Nrm (lt * u.2) lb x3 y3 := by
          have n4 := n3
          rw [Int.mul_one] at n4
          exact n4
        have l3 := n3'.le (by have := g3.pos; omega)
        refine .inl ?_
        refine own2_leaf (rq.same e3) r3 zx zy ((zp.le l3.2).mono (by decide)) (zb.le l3.1) fun q4 G4 x4 y4 e4 r4 n4 => ?_
        walk_at "r"
        refine ⟨(e.trans e3).trans e4, q4, x4, y4, r4, ?_, _, _, rfl⟩
        rw [tk, wsum_snoc, ← Int.add_assoc]
        exact nrm_step hn g3.pos g3.eq n3' n4
    · rintro σ' G ⟨e, q, x, y, rq, hn, v1, v2, rfl⟩
      have lcs : (as.map V.ref).length = (cano f).length := by rw [List.length_map, hpr.1]
      rw [lcs, List.take_length] at hn
      walk_at "r"
      exact k q G x y (e12.trans e) rq hn
end
end RK4


namespace RK4
open PySem PySem.Spec L2 RK RZ StX PyProof.Rows
section
variable {P : Program} {w : World} {K : PySem.W.Frag} {mg : Str → Option Value} {base : Heap} {a : Ad}
theorem kp_upd {H : Hp} {b : Addr} {f s n : Int} (h : Bag H b) : Kp b H (upd H b (.lst [.int f, .int s, .int n])) := ⟨h, ⟨f, s, n, upd_same⟩, fun c o hc e => by rw [upd_ne hc]; exact e⟩
/-! ### the bag and its draws -/
def spBag (K : PySem.W.Frag) : Sp := fun vs H Q _ => ∃ (c : Addr) (ns : List Int) (i : Nat), vs = [.ref c, .int i] ∧ SqL K H c (ns.map V.int) ∧ i < 100 ∧ ∀ p H', H p = none → Same H H' → Bag H' p → Q (.ref p) H'
theorem ok_bag (T : Txt K mg a) : FnOk P w K mg base CX0 1 a.f_bag a.d_bag ["_law_cells", "_law_k"] (spBag K) := by
  refine T.F_bag.ok sc_bag (fun vs H Q E h => ?_) (fun cdv A outer s H vs Q E hr h => ?_)
  · obtain ⟨c, ns, i, rfl, _⟩ := h
    rfl
  · obtain ⟨c, ns, i, rfl, hS, hi, k⟩ := h
    refine ⟨_, (pss_cons (ps_par (i := 2) (j := 3) (by rfl) sc_bag.nd rfl rfl (by decide) rfl rfl (pa_cons (pe_ifExp (pt_cmpR op_lt (pv 1) (pe_callB cr_len (by rfl) T.z_len PySem.boot_len (pa_cons (pv 0) pa_nil)) (nomark _)) (pe_callTy cr_int1 (by rfl) T.z_int (by decide +kernel) (pa_cons (pe_ix ix_list (pv 0) (pv 1) (fun _ _ => rfl)) pa_nil)) pe_int) (pa_cons (pe_op op_mul pe_int (pe_op op_add (pv 1) pe_int)) pa_nil)) (by rfl))
      (pss_cons (ps_for PassesOwn.never rfl (pi_list (pe_slice sl_list (pv 0) po_none (po_some pe_int))) (pg_name (i := 4) sc_bag.nd rfl (Or.inl rfl)) (pss_one (ps_set (i := 3) sc_bag.nd rfl (Or.inl rfl) (pe_op op_mod (pe_callTy cr_int1 (by rfl) T.z_int (by decide +kernel) (pa_cons (pe_op op_add (pe_op op_add (pe_op op_mul (pv 3) pe_int) (pe_op op_mod (pe_callTy cr_int1 (by rfl) T.z_int (by decide +kernel) (pa_cons (pv 4) pa_nil)) pe_int)) (pe_op op_mul pe_int (pv 1))) pa_nil)) pe_int))))
      (pss_cons (ps_set (i := 5) sc_bag.nd rfl (Or.inl rfl) (pe_ifExp (PW.pt (pw_or (pt_cmpR op_lt (pv 2) pe_int (nomark _)) (pw_or1 (pt_cmpR op_ge (pv 2) (pe_op op_pow pe_int pe_int) (nomark _))))) (pe_callB cr_abs (by rfl) T.z_abs (by decide +kernel) (pa_cons (pv 2) pa_nil)) pe_int))
      (pss_one (ps_ret (pe_lst (pa_cons (pv 5) (pa_cons (pe_op op_mod (pe_callTy cr_int1 (by rfl) T.z_int (by decide +kernel) (pa_cons (pe_op op_add (pv 3) (pe_op op_mul pe_int (pe_op op_mod (pe_callTy cr_int1 (by rfl) T.z_int (by decide +kernel) (pa_cons (pv 2) pa_nil)) pe_int))) pa_nil)) pe_int) (pa_cons pe_int pa_nil))))))))), ?_⟩
    walk_at "r"
    refine w_cutI (fun _ => True) (fun Q' all => ?_) (fun z _ => ?_)
    · refine w_tIf ?_
      walk_at "r"
      refine w_lenL hS ?_
      walk_at "r"
      refine w_iteD (fun c => ?_) (fun c => ?_)
      · walk_at "r"
        have hi2 : i < ns.length := by rw [List.length_map] at c; omega
        refine ⟨_, _, (i : Int), .int (ns[i]), rfl, rfl, hS, atI_nat (by rw [List.getElem?_map, List.getElem?_eq_getElem hi2]; rfl), ?_⟩
        walk_at "r"
        exact all _ trivial
      · walk_at "r"
        exact all _ trivial
    walk_at "r"
    -- the first seven numbers
    obtain ⟨zs, hz⟩ : ∃ zs : List Int, cutV (ns.map V.int) none (some 7) = zs.map V.int := by
      unfold cutV
      exact ⟨(ns.drop _).take _, by rw [List.map_take, List.map_drop]⟩
    refine ⟨c, _, rfl, hS, fun p hp => ⟨p, rfl, ⟨_, SqL.of upd_same⟩, for_list (K := K) (a := p) (xs := zs.map V.int)
      (fun j σ' H' => H' = upd H p (.lst (cutV (ns.map V.int) none (some 7))) ∧ ∃ (sd : Int) (v : Option V), σ' = [some (.ref c), some (.int i), some (.int z), some (.int sd), v, none]) ⟨rfl, _, _, rfl⟩ (fun j σ' H' _ ⟨e, _⟩ => ?_) ?_ ?_⟩⟩
    · rw [e, hz]
      exact SqL.of upd_same
    · rintro j y σ' H' hj ⟨e, sd, v, rfl⟩
      subst e
      obtain ⟨x, hx, rfl⟩ : ∃ x, zs[j]? = some x ∧ V.int x = y := by
        rw [List.getElem?_map] at hj
        cases q : zs[j]? with
        | none => rw [q] at hj; cases hj
        | some x => rw [q] at hj; exact ⟨x, rfl, Option.some.inj hj⟩
      walk_at "r"
      exact ⟨rfl, _, _, rfl⟩
    · rintro σ' H' ⟨e, sd, v, rfl⟩
      subst e
      walk_at "r"
      refine w_cutI (fun _ => True) (fun Q' all => ?_) (fun f _ => ?_)
      · refine w_tIf ?_
        walk_at "r"
        refine w_ite (fun _ => ?_) (fun _ => ?_)
        · refine iteT ?_
          walk_at "r"
          exact all _ trivial
        · walk_at "r"
          refine w_ite (fun _ => ?_) (fun _ => ?_)
          · walk_at "r"
            exact all _ trivial
          · walk_at "r"
            exact all _ trivial
      walk_at "r"
      refine w_newL (by show 3 ≤ 100000; decide) fun q H2 hq e2 h2 => ?_
      refine k q H2 ?_ ((w_new hp).trans e2) ⟨_, _, _, h2⟩
      exact (w_new hp).free hq
def spDraw : Sp := fun vs H Q _ => ∃ (b : Addr) (n : Int), vs = [.ref b, .int n] ∧ Bag H b ∧ 0 < n ∧ n ≤ 10 ^ 12 ∧ ∀ r H', 0 ≤ r → r < n → Kp b H H' → Q (.int r) H'
theorem ok_draw (T : Txt K mg a) : FnOk P w K mg base CX0 1 a.f_draw a.d_draw ["_law_bag_here", "_law_wide"] spDraw := by
  refine T.F_draw.ok sc_draw (fun vs H Q E h => ?_) (fun cdv A outer s H vs Q E hr h => ?_)
  · obtain ⟨b, n, rfl, _⟩ := h
    rfl
  · obtain ⟨b, n, rfl, hb, h0, h1, k⟩ := h
    obtain ⟨f, sd, m, hH⟩ := id hb
    refine ⟨_, (pss_cons (ps_asg (pe_op op_add (pe_ix ix_list (pv 0) pe_int (fun _ _ => rfl)) pe_int) (pg_sub (pv 0) pe_int set_list))
      (pss_cons (ps_if (pt_cmpR op_gt (pe_ix ix_list (pv 0) pe_int (fun _ _ => rfl)) pe_int (nomark _)) (pss_cons (ps_set (i := 2) sc_draw.nd rfl (Or.inl rfl) (pe_op op_mod (pe_callTy cr_int1 (by rfl) T.z_int (by decide +kernel) (pa_cons (pe_ix ix_list (pv 0) pe_int (fun _ _ => rfl)) pa_nil)) (pv 1)))
      (pss_cons (ps_asg (pe_op op_fdivW (pe_ix ix_list (pv 0) pe_int (fun _ _ => rfl)) (pv 1)) (pg_sub (pv 0) pe_int set_list))
      (pss_one (ps_ret (pv 2))))) pss_nil)
      (pss_cons (ps_set (i := 3) sc_draw.nd rfl (Or.inl rfl) (pe_op op_add (pe_callTy cr_int1 (by rfl) T.z_int (by decide +kernel) (pa_cons (pe_ix ix_list (pv 0) pe_int (fun _ _ => rfl)) pa_nil)) (pe_op op_mul pe_int (pe_ix ix_list (pv 0) pe_int (fun _ _ => rfl)))))
      (pss_cons (ps_set (i := 4) sc_draw.nd rfl (Or.inl rfl) (pe_op op_add (pe_op op_mod (pe_callTy cr_int1 (by rfl) T.z_int (by decide +kernel) (pa_cons (pv 3) pa_nil)) pe_int) pe_int))
      (pss_cons (ps_asg (pe_op op_mod (pe_callTy cr_int1 (by rfl) T.z_int (by decide +kernel) (pa_cons (pe_op op_add (pe_op op_add (pe_op op_mul (pv 3) (pv 4)) (pe_op op_mul pe_int (pe_ix ix_list (pv 0) pe_int (fun _ _ => rfl)))) pe_int) pa_nil)) pe_int) (pg_sub (pv 0) pe_int set_list))
      (pss_one (ps_ret (pe_op op_mod (pe_op op_fdivW (pe_callTy cr_int1 (by rfl) T.z_int (by decide +kernel) (pa_cons (pe_ix ix_list (pv 0) pe_int (fun _ _ => rfl)) pa_nil)) pe_int) (pv 1))))))))), ?_⟩
    have c1 : CDivW f n := wide_div (b := 64) h0 (Nat.lt_of_le_of_lt (show n.natAbs ≤ 10 ^ 12 by omega) (by decide)) (by decide) (by decide)
    have c2 : CDivW 0 523 := wide_div (b := 64) (by decide) (by decide) (by decide) (by decide)
    walk_at "r"
    refine w_iteD (fun c => ?_) (fun c => ?_)
    all_goals
      walk_at "r"
      refine k _ _ (Int.emod_nonneg _ (by omega)) (Int.emod_lt_of_pos _ h0) ?_
      rw [upd_upd]
      exact kp_upd hb
/-- one of the list's values, at a drawn place -/
def spOne : Sp := fun vs H Q _ => ∃ (b l : Addr) (xs : List V), vs = [.ref b, .ref l] ∧ Bag H b ∧ H l = some (.lst xs) ∧ l ≠ b ∧ 0 < xs.length ∧ xs.length < 1000 ∧ ∀ v H', v ∈ xs → Kp b H H' → Q v H'
theorem ok_one (T : Txt K mg a) : FnOk P w K mg base CX0 2 a.f_one a.d_one ["_law_bag_here", "_law_some"] spOne := by
  refine T.F_one.ok sc_one (fun vs H Q E h => ?_) (fun cdv A outer s H vs Q E hr h => ?_)
  · obtain ⟨b, l, xs, rfl, _⟩ := h
    rfl
  · obtain ⟨b, l, xs, rfl, hb, hl, hne, h0, h1, k⟩ := h
    refine ⟨_, (pss_one (ps_ret (pe_ix ix_list (pv 1) (pe_call (ok_draw T) (hr.mono (by decide)) (by rfl) T.m_draw T.F_draw.kp T.b_draw .nil pass0 (pa_cons (pv 0) (pa_cons (pe_callB cr_len (by rfl) T.z_len PySem.boot_len (pa_cons (pv 1) pa_nil)) pa_nil))) (fun _ _ => rfl)))), ?_⟩
    walk_at "r"
    refine w_lenL (SqL.of hl) ?_
    walk_at "r"
    refine ⟨b, (xs.length : Int), rfl, hb, by omega, by omega, fun r H1 r0 r1 k1 => ?_⟩
    have hr2 : r.toNat < xs.length := by omega
    refine ⟨_, xs, r, xs[r.toNat], rfl, rfl, SqL.of (k1.keep _ _ hne hl), at_of (by omega) (List.getElem?_eq_getElem hr2), ?_⟩
    exact k _ H1 (List.getElem_mem hr2) k1

theorem bag_ne {H : Hp} {b l : Addr} (hb : Bag H b) (n : H l = none) : l ≠ b := fun z => by
  obtain ⟨f, s, m, h⟩ := hb
  rw [z, h] at n
  cases n
theorem draw_leaf {H : Hp} {Q : VK} {E : XK} {b : Addr} {n : Int} (hb : Bag H b) (h0 : 0 < n) (h1 : n ≤ 10 ^ 12) (k : ∀ r H', 0 ≤ r → r < n → Kp b H H' → Q (.int r) H') : spDraw [.ref b, .int n] H Q E := ⟨b, n, rfl, hb, h0, h1, k⟩
theorem one_leaf {H : Hp} {Q : VK} {E : XK} {b l : Addr} {xs : List V} (hb : Bag H b) (hl : H l = some (.lst xs)) (ne : l ≠ b) (h0 : 0 < xs.length) (h1 : xs.length < 1000) (k : ∀ v H', v ∈ xs → Kp b H H' → Q v H') : spOne [.ref b, .ref l] H Q E := ⟨b, l, xs, rfl, hb, hl, ne, h0, h1, k⟩

/-- one of a text's letters -/
def spOneS : Sp := fun vs H Q _ => ∃ (b : Addr), vs = [.ref b, .str "abcxyz"] ∧ Bag H b ∧ ∀ s H', s ∈ lts → Kp b H H' → Q (.str s) H'
theorem ok_oneS (T : Txt K mg a) : FnOk P w K mg base CX0 2 a.f_one a.d_one ["_law_bag_here", "_law_some"] spOneS := by
  refine T.F_one.ok sc_one (fun vs H Q E h => ?_) (fun cdv A outer s H vs Q E hr h => ?_)
  · obtain ⟨b, rfl, _⟩ := h
    rfl
  · obtain ⟨b, rfl, hb, k⟩ := h
    refine ⟨_, (pss_one (ps_ret (pe_ix ix_str (pv 1) (pe_call (ok_draw T) (hr.mono (by decide)) (by rfl) T.m_draw T.F_draw.kp T.b_draw .nil pass0 (pa_cons (pv 0) (pa_cons (pe_callB cr_len (by rfl) T.z_len PySem.boot_len (pa_cons (pv 1) pa_nil)) pa_nil))) (fun _ _ => rfl)))), ?_⟩
    walk_at "r"
    refine ⟨.str "abcxyz", _, rfl, ⟨by decide, rfl⟩, ?_⟩
    walk_at "r"
    refine draw_leaf hb (by decide) (by decide) fun r H1 r0 r1 k1 => ?_
    have r6 : r < 6 := r1
    have all : ∀ i : Nat, i < 6 → ∃ c, (("abcxyz" : Str)).cps.toList[i]? = some c ∧ (⟨#[c]⟩ : Str) ∈ lts := by
      intro i hi
      rcases (show i = 0 ∨ i = 1 ∨ i = 2 ∨ i = 3 ∨ i = 4 ∨ i = 5 by omega) with rfl | rfl | rfl | rfl | rfl | rfl <;> exact ⟨_, rfl, by decide +kernel⟩
    obtain ⟨c, hc, hl⟩ := all r.toNat (by omega)
    refine ⟨"abcxyz", r, c, rfl, rfl, by decide, (congrArg (atI _) (show r = ((r.toNat : Nat) : Int) by omega)).trans (atI_nat hc), ?_⟩
    exact k _ H1 hl k1
theorem oneS_leaf {H : Hp} {Q : VK} {E : XK} {b : Addr} (hb : Bag H b) (k : ∀ s H', s ∈ lts → Kp b H H' → Q (.str s) H') : spOneS [.ref b, .str "abcxyz"] H Q E := ⟨b, rfl, hb, k⟩
theorem Kp.putNew {b D : Addr} {H G : Hp} {o : HO} (k : Kp b H G) (hD : H D = none) (n : D ≠ b) : Kp b H (upd G D o) := by
  obtain ⟨f, s, m, hb⟩ := k.bag'
  refine ⟨k.bag, ⟨f, s, m, by rw [upd_ne fun z => n z.symm]; exact hb⟩, fun c u hc h => ?_⟩
  rw [upd_ne (ne_of_none h hD)]
  exact k.keep c u hc h
def Bs (f : Str → Int) : Prop := ∀ s, (f s).natAbs ≤ 10 ^ 13
def FoR (g : TG) (tb : TS) (D : Ends) (σ : L2.St) (vs : List V) (H : Hp) : Prop := tFor (iRng1 (fun _ H Q => Q vs H)) g tb D σ H
theorem w_forR1 {σ : L2.St} {H : Hp} {g : TG} {tb : TS} {D : Ends} {ta : TA} (h : ta σ H fun vs H1 => FoR g tb D σ vs H1) : tFor (iRng1 ta) g tb D σ H := h
/-! ### a form's numbers -/
def spDrawn : Sp := fun vs H Q _ => ∃ (b : Addr), vs = [.ref b] ∧ Bag H b ∧ ∀ t D c kvs f H', H D = none → D ≠ b → H' t = some (.tup [.int c, .ref D]) → H' D = some (.dK kvs) → Dv kvs f → Bs f → c.natAbs ≤ 10 ^ 13 → Kp b H H' → Q (.ref t) H'
theorem ok_drawn (T : Txt K mg a) : FnOk P w K mg base CX0 3 a.f_drawn a.d_drawn ["_law_bag_here"] spDrawn := by
  refine T.F_drawn.ok sc_drawn (fun vs H Q E h => ?_) (fun cdv A outer s H vs Q E hr h => ?_)
  · obtain ⟨b, rfl, _⟩ := h
    rfl
  · obtain ⟨b, rfl, hb, k⟩ := h
    refine ⟨_, (pss_cons (ps_set (i := 1) sc_drawn.nd rfl (Or.inl rfl) pe_dnewK)
      (pss_cons (ps_for PassesOwn.never rfl (pi_range1 (by rfl) T.z_range (pa_cons (pe_call (ok_draw T) (hr.mono (by decide)) (by rfl) T.m_draw T.F_draw.kp T.b_draw .nil pass0 (pa_cons (pv 0) (pa_cons pe_int pa_nil))) pa_nil)) (pg_name (i := 2) sc_drawn.nd rfl (Or.inl rfl)) (pss_cons (ps_set (i := 3) sc_drawn.nd rfl (Or.inl rfl) (pe_op op_add pe_int (pe_call (ok_one T) (hr.mono (by decide)) (by rfl) T.m_one T.F_one.kp T.b_one .nil pass0 (pa_cons (pv 0) (pa_cons (pe_lst (pa_cons pe_int (pa_cons pe_int (pa_cons (pe_call (ok_draw T) (hr.mono (by decide)) (by rfl) T.m_draw T.F_draw.kp T.b_draw .nil pass0 (pa_cons (pv 0) (pa_cons pe_int pa_nil))) (pa_cons (pe_call (ok_draw T) (hr.mono (by decide)) (by rfl) T.m_draw T.F_draw.kp T.b_draw .nil pass0 (pa_cons (pv 0) (pa_cons (pe_op op_pow pe_int pe_int) pa_nil))) pa_nil))))) pa_nil)))))
      (pss_one (ps_asg (pe_op op_mul (pv 3) (pe_call (ok_one T) (hr.mono (by decide)) (by rfl) T.m_one T.F_one.kp T.b_one .nil pass0 (pa_cons (pv 0) (pa_cons (pe_lst (pa_cons pe_int (pa_cons (pe_op op_sub pe_int pe_int) pa_nil))) pa_nil)))) (pg_sub (pv 1) (pe_call (ok_oneS T) (hr.mono (by decide)) (by rfl) T.m_one T.F_one.kp T.b_one .nil pass0 (pa_cons (pv 0) (pa_cons pe_str pa_nil))) (set_dict (hu_of hr)))))))
      (pss_one (ps_ret (pe_tup (pa_cons (pe_call (ok_one T) (hr.mono (by decide)) (by rfl) T.m_one T.F_one.kp T.b_one .nil pass0 (pa_cons (pv 0) (pa_cons (pe_lst (pa_cons pe_int (pa_cons pe_int (pa_cons (pe_op op_sub pe_int pe_int) (pa_cons (pe_call (ok_draw T) (hr.mono (by decide)) (by rfl) T.m_draw T.F_draw.kp T.b_draw .nil pass0 (pa_cons (pv 0) (pa_cons (pe_op op_pow pe_int pe_int) pa_nil))) pa_nil))))) pa_nil))) (pa_cons (pv 1) pa_nil))))))), ?_⟩
    walk_at "r"
    intro D nD
    have e1 := w_new (o := .dK []) nD
    have hD : upd H D (.dK []) D = some (.dK []) := upd_same
    have nDb : D ≠ b := bag_ne hb nD
    have k1 := Kp.of hb e1
    generalize upd H D (.dK []) = H1 at e1 hD k1 ⊢
    walk_at "r"
    refine w_forR1 ?_
    walk_at "r"
    refine draw_leaf k1.bag' (by decide) (by decide) fun r H2 r0 r1 k2 => ?_
    have k12 := k1.trans k2
    have r6 : r < 6 := r1
    walk_at "r"
    refine ⟨r, rfl, by omega, by omega, ?_⟩
    refine for_range (lo := 0) (n := r.toNat) (fun i σ' G => Kp b H G ∧ (∃ kvs f, G D = some (.dK kvs) ∧ Dv kvs f ∧ Bs f) ∧ ∃ v2 v3 : Option V, σ' = [some (.ref b), some (.ref D), v2, v3]) ⟨k12, ⟨[], _, k2.keep _ _ nDb hD, Dv.nil, fun s => Nat.zero_le _⟩, _, _, rfl⟩ ?_ ?_
    · rintro i σ' G hi ⟨kg, ⟨kvs, f, hGD, dv, bs⟩, v2, v3, rfl⟩
      walk_at "r"
      refine draw_leaf kg.bag' (by decide) (by decide) fun s1 H3 s10 s11 k3 => ?_
      have k03 := kg.trans k3
      walk_at "r"
      refine draw_leaf k03.bag' (by decide) (by decide) fun s2 H4 s20 s21 k4 => ?_
      have k04 := k03.trans k4
      have s2' : s2 < 1000000000000 := s21
      have s1' : s1 < 9 := s11
      walk_at "r"
      refine w_newL (by show 4 ≤ 100000; decide) fun l5 H5 n5 e5 h5 => ?_
      have k05 := k04.same e5
      walk_at "r"
      refine one_leaf k05.bag' h5 (bag_ne k04.bag' n5) (by show 0 < 4; decide) (by show 4 < 1000; decide) fun v H6 hv k6 => ?_
      have k06 := k05.trans k6
      obtain ⟨z, rfl, z0, z1⟩ : ∃ z : Int, v = .int z ∧ 0 ≤ z ∧ z < 1000000000000 := by
        simp only [List.mem_cons, List.not_mem_nil, or_false] at hv
        rcases hv with rfl | rfl | rfl | rfl <;> exact ⟨_, rfl, by omega, by omega⟩
      walk_at "r"
      refine w_newL (by show 2 ≤ 100000; decide) fun l7 H7 n7 e7 h7 => ?_
      have k07 := k06.same e7
      walk_at "r"
      refine one_leaf k07.bag' h7 (bag_ne k06.bag' n7) (by show 0 < 2; decide) (by show 2 < 1000; decide) fun v H8 hv k8 => ?_
      have k08 := k07.trans k8
      obtain ⟨y, rfl, hy⟩ : ∃ y : Int, v = .int y ∧ (y = 1 ∨ y = -1) := by
        simp only [List.mem_cons, List.not_mem_nil, or_false] at hv
        rcases hv with rfl | rfl <;> exact ⟨_, rfl, by omega⟩
      have hG8 : H8 D = some (.dK kvs) := k8.keep _ _ nDb (e7 _ _ (k6.keep _ _ nDb (e5 _ _ (k4.keep _ _ nDb (k3.keep _ _ nDb hGD)))))
      walk_at "r"
      refine oneS_leaf k08.bag' fun s9 H9 hs9 k9 => ?_
      have hG9 := k9.keep _ _ nDb hG8
      have k09 := k08.trans k9
      refine ⟨D, _, rfl, DPut.k (k := Sum.inr s9) hG9 (Nat.lt_of_le_of_lt dv.len (by decide)), ?_⟩
      refine ⟨Kp.putNew k09 nD nDb, ⟨_, _, upd_same, dv.put hs9 _, fun s => ?_⟩, _, _, rfl⟩
      have := bs s
      show (if s = s9 then (1 + z) * y else f s).natAbs ≤ _
      split
      · rcases hy with rfl | rfl <;> omega
      · exact this
    · rintro σ' G ⟨kg, ⟨kvs, f, hGD, dv, bs⟩, v2, v3, rfl⟩
      walk_at "r"
      refine draw_leaf kg.bag' (by decide) (by decide) fun s1 H3 s10 s11 k3 => ?_
      have k03 := kg.trans k3
      have s1' : s1 < 1000000000000 := s11
      walk_at "r"
      refine w_newL (by show 4 ≤ 100000; decide) fun l5 H5 n5 e5 h5 => ?_
      have k05 := k03.same e5
      walk_at "r"
      refine one_leaf k05.bag' h5 (bag_ne k03.bag' n5) (by show 0 < 4; decide) (by show 4 < 1000; decide) fun v H6 hv k6 => ?_
      have k06 := k05.trans k6
      obtain ⟨z, rfl, hz⟩ : ∃ z : Int, v = .int z ∧ z.natAbs ≤ 10 ^ 13 := by
        simp only [List.mem_cons, List.not_mem_nil, or_false] at hv
        rcases hv with rfl | rfl | rfl | rfl <;> exact ⟨_, rfl, by omega⟩
      have hG6 : H6 D = some (.dK kvs) := k6.keep _ _ nDb (e5 _ _ (k3.keep _ _ nDb hGD))
      walk_at "r"
      refine w_newT (by show 2 ≤ 100000; decide) fun t7 H7 n7 e7 h7 => ?_
      exact k t7 D z kvs f H7 nD nDb h7 (e7 _ _ hG6) dv bs hz (k06.same e7)
theorem drawn_leaf {H : Hp} {Q : VK} {E : XK} {b : Addr} (hb : Bag H b) (k : ∀ t D c kvs f H', H D = none → D ≠ b → H' t = some (.tup [.int c, .ref D]) → H' D = some (.dK kvs) → Dv kvs f → Bs f → c.natAbs ≤ 10 ^ 13 → Kp b H H' → Q (.ref t) H') : spDrawn [.ref b] H Q E := ⟨b, rfl, hb, k⟩
/-! ### the pairs of a dict -/
def spPairs (K : PySem.W.Frag) : Sp := fun vs H Q _ => ∃ D kvs f, vs = [.ref D] ∧ H D = some (.dK kvs) ∧ Dv kvs f ∧ ∀ r H', Same H H' → Prs K H' r (cano f) → Q (.ref r) H'
theorem ok_pairs (T : Txt K mg a) : FnOk P w K mg base CX0 1 a.f_pairs a.d_pairs ["_law_numbers"] (spPairs K) := by
  refine T.F_pairs.ok sc_pairs (fun vs H Q E h => ?_) (fun cdv A outer s H vs Q E hr h => ?_)
  · obtain ⟨D, kvs, f, rfl, _⟩ := h
    rfl
  · obtain ⟨D, kvs, f, rfl, hD, ⟨ks, dk⟩, k⟩ := h
    refine ⟨_, (pss_one (ps_ret (pe_callTy call_tuple_of (by rfl) T.z_tuple (by decide +kernel) (pa_cons (pe_lc (own := [("_law_each", 1)]) (g := gName 1) rfl sc_pairs.nd (pi_list (pe_callB cr_sortedS (by rfl) T.z_sorted (by decide +kernel) (pa_cons (pe_callTy (call_listD rfl) (by rfl) T.z_list (by decide +kernel) (pa_cons (pv 0) pa_nil)) pa_nil))) (blkOk_by (own := [("_law_each", 1)]) (N := ["_law_numbers", "_law_each"]) (sc := defScope s_pairs) (by decide +kernel)) (fun _ _ _ _ _ => pg_name (i := 1) sc_pairs.nd rfl (Or.inl rfl)) (fun _ _ _ _ _ => (pts_one (pt_cmpR op_ne (pe_dget (hu_of hr) (pv 0) (pv 1) (fun _ _ => rfl)) pe_int (nomark _)))) (fun _ _ _ _ _ => by exact (pe_tup (pa_cons (pv 1) (pa_cons (pe_dget (hu_of hr) (pv 0) (pv 1) (fun _ _ => rfl)) pa_nil))))) pa_nil)))), ?_⟩
    walk_at "r"
    refine ⟨D, kvs, rfl, .inl hD, fun p np => ?_⟩
    have ek : kvs.map (fun kv => kV kv.1) = ks.map V.str := by
      have : kvs.map (fun kv => kV kv.1) = (kvs.map (·.1)).map kV := by rw [List.map_map]; rfl
      rw [this, dk.keys, List.map_map]
      rfl
    rw [ek]
    have e1 := w_new (o := .lst (ks.map V.str)) np
    have h1 : upd H p (.lst (ks.map V.str)) p = some (.lst (ks.map V.str)) := upd_same
    generalize upd H p (.lst (ks.map V.str)) = H1 at e1 h1 ⊢
    walk_at "r"
    refine ⟨p, ks, rfl, SqL.of h1, Nat.lt_of_le_of_lt dk.len (by decide), fun ys p2 perm srt np2 => ?_⟩
    obtain ⟨ec, ev⟩ := Dv.cano dk perm srt
    have e3 := w_new (o := .lst (ys.map V.str)) np2
    have hp3 : upd H1 p2 (.lst (ys.map V.str)) p2 = some (.lst (ys.map V.str)) := upd_same
    generalize upd H1 p2 (.lst (ys.map V.str)) = H3 at e3 hp3 ⊢
    have yl : ys.length ≤ 6 := by rw [perm.length_eq]; exact dk.len
    refine lcF_leaf ys (prs f) (fun q w G => G q = some (.tup [.str w.1, .int w.2])) (fun q w G G' st h => st.tup h) (SqL.of hp3) (by rw [List.length_map]) (by rw [List.length_map]; omega) (fun i x z H' hx hz e' Q' N kq kn => ?_) (fun D' as' H' nD' e' hD' hl' hP' => ?_)
    · obtain rfl : x = .str z := by
        rw [List.getElem?_map, hz] at hx
        exact (Option.some.inj hx).symm
      have hGD' := e' _ _ (e3 _ _ (e1 _ _ hD))
      have vz := ev z (List.mem_of_getElem? hz)
      have dg : DGet H' D (.str z) (some (.int (f z))) := by rw [← vz]; exact DGet.k (k := Sum.inr z) hGD'
      walk_at "r"
      refine ⟨rfl, ?_⟩
      unfold tDGet
      walk_at "r"
      refine ⟨D, _, rfl, dg, ?_⟩
      walk_at "r"
      by_cases c : f z = 0
      · rw [if_neg (by simp [c])]
        exact kn (by unfold prs; rw [if_pos c]) H' (w_same _)
      · rw [if_pos (by simp [c])]
        walk_at "r"
        refine ⟨D, _, rfl, dg, ?_⟩
        walk_at "r"
        exact w_newT (by show 2 ≤ 100000; decide) fun q H4 nq e4 hq4 => kq q _ H4 (by unfold prs; rw [if_neg c]) e4 hq4
    · rw [ec] at hl' hP'
      walk_at "r"
      refine ⟨D', _, rfl, .inl ⟨SqL.of hD', fun r nr => ?_⟩⟩
      have e4 := w_new (o := .tup (as'.map V.ref)) nr
      have eA := (e1.trans e3).trans e'
      exact k r _ (eA.trans e4) ⟨as', SqT.of upd_same, hl', fun i q u a b => e4 _ _ (hP' i q u a b)⟩
/-! ### what is shown of a form -/
def Shw (K : PySem.W.Frag) (H : Hp) (l : Addr) (c : Int) (ps : List (Str × Int)) : Prop := ∃ t, H l = some (.lst [.int c, .ref t, .str (nms ps)]) ∧ Prs K H t ps
theorem Shw.same {H H' : Hp} {l : Addr} {c : Int} {ps : List (Str × Int)} (s : Shw K H l c ps) (e : Same H H') : Shw K H' l c ps := let ⟨t, h1, h2⟩ := s; ⟨t, e _ _ h1, h2.same e⟩
def spShown (K : PySem.W.Frag) (C : Addr) : Sp := fun vs H Q _ => ∃ p c ps, vs = [.ref p] ∧ Frm K C H p c ps ∧ ∀ l H', H l = none → Same H H' → Shw K H' l c ps → Q (.ref l) H'
theorem ok_shown (T : Txt K mg a) : FnOk P w K mg base CX0 1 a.f_shown a.d_shown ["_law_made"] (spShown K a.C_Form) := by
  refine T.F_shown.ok sc_shown (fun vs H Q E h => ?_) (fun cdv A outer s H vs Q E hr h => ?_)
  · obtain ⟨p, c, ps, rfl, _⟩ := h
    rfl
  · obtain ⟨p, c, ps, rfl, r, k⟩ := h
    refine ⟨_, (pss_one (ps_ret (pe_lst (pa_cons (pe_fld (pv 0) rfl) (pa_cons (pe_fld (pv 0) rfl) (pa_cons (pe_fld (pv 0) rfl) pa_nil)))))), ?_⟩
    walk_at "r"
    refine con_leaf T r ?_
    walk_at "r"
    refine ter_leaf T r fun t hp => ?_
    walk_at "r"
    refine nam_leaf T r ?_
    walk_at "r"
    exact w_newL (by show 3 ≤ 100000; decide) fun l H1 n1 e1 h1 => k l H1 n1 e1 ⟨t, h1, hp.same e1⟩
def spDue (K : PySem.W.Frag) : Sp := fun vs H Q _ => ∃ c D kvs f, vs = [.int c, .ref D] ∧ H D = some (.dK kvs) ∧ Dv kvs f ∧ ∀ l H', Same H H' → Shw K H' l c (cano f) → Q (.ref l) H'
theorem ok_due (T : Txt K mg a) : FnOk P w K mg base CX0 2 a.f_due a.d_due ["_law_first", "_law_numbers"] (spDue K) := by
  refine T.F_due.ok sc_due (fun vs H Q E h => ?_) (fun cdv A outer s H vs Q E hr h => ?_)
  · obtain ⟨c, D, kvs, f, rfl, _⟩ := h
    rfl
  · obtain ⟨c, D, kvs, f, rfl, hD, dv, k⟩ := h
    refine ⟨_, (pss_cons (ps_set (i := 2) sc_due.nd rfl (Or.inl rfl) (pe_call (ok_pairs T) (hr.mono (by decide)) (by rfl) T.m_pairs T.F_pairs.kp T.b_pairs .nil pass0 (pa_cons (pv 1) pa_nil)))
      (pss_one (ps_ret (pe_lst (pa_cons (pv 0) (pa_cons (pv 2) (pa_cons (pe_join pe_str (pe_lc (own := [("_law_pair", 3)]) (g := gName 3) (tt := tYes) rfl sc_due.nd (pi_tup (pv 2)) (blkOk_by (own := [("_law_pair", 3)]) (N := ["_law_first", "_law_numbers", "_law_pairs_here", "_law_pair"]) (sc := defScope s_due) (by decide +kernel)) (fun _ _ _ _ _ => pg_name (i := 3) sc_due.nd rfl (Or.inl rfl)) (fun _ _ _ _ _ => pts_nil) (fun _ _ _ _ _ => by exact (pe_ix (show IxR _ (rIxT K) from ix_tup) (pv 3) pe_int (fun _ _ => rfl))))) pa_nil))))))), ?_⟩
    walk_at "r"
    refine ⟨D, kvs, f, rfl, hD, dv, fun t H1 e1 hp => ?_⟩
    obtain ⟨as, ht, hpr⟩ := id hp
    have few : (cano f).length ≤ 6 := Nat.le_trans (List.length_filterMap_le _ _) (by decide)
    walk_at "r"
    refine ⟨⟨_, rfl⟩, ?_⟩
    refine w_lcT ?_
    walk_at "r"
    refine lcT_leaf (fun i v _ => ∃ u, (cano f)[i]? = some u ∧ v = .str u.1) (fun _ _ _ _ _ h => h) ht (by rw [List.length_map, hpr.1]; omega) (fun i x H' hx e Q' kq => ?_) (fun D3 ys H3 nD e3 hD3 hl hP => ?_)
    · obtain ⟨q, u, rfl, b1, b2, b3⟩ := hpr.at_ hx
      walk_at "r"
      refine ⟨rfl, ?_⟩
      walk_at "r"
      exact kq _ _ (w_same _) ⟨u, b2, rfl⟩
    have ey := eq_map (ps := cano f) (fun u => V.str u.1) (by rw [hl, List.length_map, hpr.1]) hP
    have ey2 : ys = ((cano f).map fun u => u.1).map V.str := by rw [ey, List.map_map]; rfl
    have sm : (((cano f).map fun u => u.1).map fun x => x.length).sum ≤ ((cano f).map fun u => u.1).length * 1 := sum_le fun x hx => by
      obtain ⟨u, hu, rfl⟩ := List.mem_map.mp hx
      rw [(lts_let u.1 (cano_mem hu).1).1]
      exact Nat.le_refl 1
    rw [List.length_map] at sm
    refine ⟨"", D3, (cano f).map fun u => u.1, rfl, rfl, .inl (by rw [← ey2]; exact SqL.of hD3), ?_, ?_⟩
    · show _ + _ * 0 ≤ _
      omega
    walk_at "r"
    exact w_newL (by show 3 ≤ 100000; decide) fun l H4 n4 e4 h4 => k l H4 ((e1.trans e3).trans e4) ⟨t, h4, (hp.same e3).same e4⟩
end
end RK4


namespace RK4
open PySem PySem.Spec L2 RK RZ StX PyProof.Rows
section
variable {P : Program} {w : World} {K : PySem.W.Frag} {mg : Str → Option Value} {base : Heap} {a : Ad}
/-- for k in a locked dict -/
theorem for_keys {d : Addr} {od : Obj} {kvs : List (Key × V)} {g : TG} {tb : TS} {D : Ends} {σ : L2.St} {H : Hp} (Pv : Nat → L2.St → Hp → Prop) (h0 : Pv 0 σ H) (hl : ∀ i σ H, i ≤ kvs.length → Pv i σ H → H d = some (.frz od (.dK kvs)))
    (hs : ∀ i k v σ H, kvs[i]? = some (k, v) → Pv i σ H → g (kV k) σ H fun σ2 H2 => tb { D with nx := Pv (i + 1), ct := Pv (i + 1), bk := D.nx } σ2 H2) (hd : ∀ σ H, Pv kvs.length σ H → D.nx σ H) :
    ∃ W : Nat → Nat → L2.St → Hp → Prop, (∃ m, W 0 m σ H) ∧ ∀ i m σ H, W i m σ H →
      ((Itk d od kvs).stop i H ∧ D.nx σ H) ∨ ((Itk d od kvs).go i H ∧ ∃ N : L2.St → Hp → Prop, (∀ σ' H', N σ' H' → ∃ m', m' < m ∧ W (i + 1) m' σ' H') ∧ ∀ v H', (Itk d od kvs).yld i H v H' → g v σ H' fun σ2 H2 => tb { D with nx := N, ct := N, bk := D.nx } σ2 H2) := by
  refine ⟨fun i m σ H => m = kvs.length - i ∧ i ≤ kvs.length ∧ Pv i σ H, ⟨kvs.length, by simp, Nat.zero_le _, h0⟩, ?_⟩
  rintro i m σ H ⟨rfl, hi, p⟩
  have hH := hl i σ H hi p
  by_cases hlt : i < kvs.length
  · refine .inr ⟨⟨hH, hlt⟩, Pv (i + 1), fun σ' H' p' => ⟨kvs.length - (i + 1), by omega, rfl, hlt, p'⟩, fun v H' y => ?_⟩
    obtain ⟨e, k, x, hc, rfl⟩ := y
    subst e
    exact hs i k x σ _ hc p
  · have e : i = kvs.length := by omega
    subst e
    exact .inl ⟨⟨hH, Nat.le_refl _⟩, hd σ H p⟩
def spAdded : Sp := fun vs H Q _ => ∃ D1 D2 kvs1 kvs2 f1 f2 z, vs = [.ref D1, .ref D2, .int z] ∧ H D1 = some (.dK kvs1) ∧ Dv kvs1 f1 ∧ H D2 = some (.dK kvs2) ∧ Dv kvs2 f2 ∧ z.natAbs ≤ 10 ^ 7 ∧
  ∀ F kvs H', H F = none → Same H H' → H' F = some (.dK kvs) → Dv kvs (fun s => f1 s + z * f2 s) → Q (.ref F) H'
theorem ok_added (T : Txt K mg a) : FnOk P w K mg base CX0 1 a.f_added a.d_added ["_law_one_here", "_law_two", "_law_by"] spAdded := by
  refine T.F_added.ok sc_added (fun vs H Q E h => ?_) (fun cdv A outer s H vs Q E hr h => ?_)
  · obtain ⟨D1, D2, kvs1, kvs2, f1, f2, z, rfl, _⟩ := h
    rfl
  · obtain ⟨D1, D2, kvs1, kvs2, f1, f2, z, rfl, h1, d1, h2, d2, hz, k⟩ := h
    refine ⟨_, (pss_cons (ps_set (i := 3) sc_added.nd rfl (Or.inl rfl) (pe_callTy call_dictD (by rfl) T.z_dict (by decide +kernel) (pa_cons (pv 0) pa_nil)))
      (pss_cons (ps_lock (ps_for PassesOwn.never rfl (pi_keys (pv 1)) (pg_name (i := 4) sc_added.nd rfl (Or.inl rfl)) (pss_one (ps_asg (pe_op op_add (pe_dget2 (hu_of hr) (pv 3) (pv 4) pe_int ⟨rfl, rfl, rfl, rfl⟩) (pe_op op_mul (pv 2) (pe_dget (hu_of hr) (pv 1) (pv 4) (fun _ _ => rfl)))) (pg_sub (pv 3) (pv 4) (set_dict (hu_of hr)))))))
      (pss_one (ps_ret (pv 3))))), ?_⟩
    walk_at "r"
    refine ⟨D1, kvs1, rfl, .inl h1, fun F nF => ?_⟩
    have e1 := w_new (o := .dK kvs1) nF
    have hF : upd H F (.dK kvs1) F = some (.dK kvs1) := upd_same
    have nF2 : F ≠ D2 := fun e => by rw [e, h2] at nF; cases nF
    generalize upd H F (.dK kvs1) = H1 at e1 hF ⊢
    have h21 := e1 _ _ h2
    obtain ⟨ks, dk⟩ := d2
    have kl : kvs2.length = ks.length := by have := congrArg List.length dk.keys; simpa using this
    walk_at "r"
    refine ⟨D2, .dK kvs2, h21, by first | trivial | exact True.intro, fun od => ?_⟩
    refine ⟨.ref D2, rfl, D2, od, rfl, .inl ⟨kvs2, upd_same, for_keys (fun j σ' G => G D2 = some (.frz od (.dK kvs2)) ∧ (∀ c o, c ≠ D2 → H c = some o → G c = some o) ∧ (∃ kvs, G F = some (.dK kvs) ∧ Dv kvs fun s => f1 s + z * (if s ∈ ks.take j then f2 s else 0)) ∧ ∃ v4 : Option V, σ' = [some (.ref D1), some (.ref D2), some (.int z), some (.ref F), v4])
      ⟨upd_same, fun c o n h => by rw [upd_ne n]; exact e1 _ _ h, ⟨kvs1, by rw [upd_ne nF2]; exact hF, d1.ext fun s => by rw [List.take_zero, if_neg (by simp), Int.mul_zero, Int.add_zero]⟩, _, rfl⟩ (fun j σ' G _ h => h.1) ?_ ?_⟩⟩
    · rintro j kk x σ' G hj ⟨g1, g2, ⟨kvs, g3, dv⟩, v4, rfl⟩
      have hk : (kvs2.map (·.1))[j]? = some kk := by rw [List.getElem?_map, hj]; rfl
      rw [dk.keys, List.getElem?_map] at hk
      obtain ⟨s0, hs0, rfl⟩ : ∃ s0, ks[j]? = some s0 ∧ Sum.inr s0 = kk := by
        cases e : ks[j]? with
        | none => rw [e] at hk; cases hk
        | some s0 => rw [e] at hk; exact ⟨s0, rfl, Option.some.inj hk⟩
      have tk : ks.take (j + 1) = ks.take j ++ [s0] := by rw [List.take_succ, hs0]; rfl
      have nin : s0 ∉ ks.take j := fun hin => by
        have nd : (ks.take (j + 1)).Nodup := dk.nd.sublist (List.take_sublist _ _)
        rw [tk, List.nodup_append] at nd
        exact nd.2.2 s0 hin s0 List.mem_cons_self rfl
      have m0 := List.mem_of_getElem? hs0
      walk_at "r"
      unfold tDGet2
      walk_at "r"
      refine ⟨F, rfl, .inl ⟨_, .inl g3⟩, ?_⟩
      walk_at "r"
      refine ⟨_, DGet.k (k := Sum.inr s0) g3, ?_⟩
      rw [dv.get]
      walk_at "r"
      unfold tDGet
      walk_at "r"
      refine ⟨D2, .int (f2 s0), rfl, .inl ⟨kvs2, Sum.inr s0, .inr ⟨od, g1⟩, rfl, (dk.val s0 m0).symm⟩, ?_⟩
      walk_at "r"
      refine ⟨F, _, rfl, DPut.k (k := Sum.inr s0) g3 (Nat.lt_of_le_of_lt dv.len (by decide)), ?_⟩
      refine ⟨by rw [upd_ne nF2.symm]; exact g1, fun c o n h => by rw [upd_ne (ne_of_none h nF)]; exact g2 c o n h, ⟨_, upd_same, (dv.put (dk.sub s0 m0) _).ext fun s => ?_⟩, _, rfl⟩
      rw [tk]
      by_cases c : s = s0
      · subst c
        rw [if_pos rfl, if_neg nin, if_pos (List.mem_append_right _ (List.mem_singleton.mpr rfl)), Int.mul_zero, Int.add_zero]
      · rw [if_neg c]
        have e : (s ∈ ks.take j ++ [s0]) ↔ s ∈ ks.take j := by
          rw [List.mem_append, List.mem_singleton]
          exact ⟨fun h => h.elim id fun h => absurd h c, .inl⟩
        by_cases m : s ∈ ks.take j
        · rw [if_pos m, if_pos (e.mpr m)]
        · rw [if_neg m, if_neg fun h => m (e.mp h)]
    · rintro σ' G ⟨g1, g2, ⟨kvs, g3, dv⟩, v4, rfl⟩
      rw [kl, List.take_length] at dv
      refine ⟨g1, ?_⟩
      have e2 : Same H (upd G D2 (.dK kvs2)) := fun c o h => by
        by_cases e : c = D2
        · subst e
          rw [h2] at h
          cases h
          exact upd_same
        · rw [upd_ne e]
          exact g2 c o e h
      have g4 : upd G D2 (.dK kvs2) F = some (.dK kvs) := by rw [upd_ne nF2]; exact g3
      walk_at "r"
      refine k F kvs _ nF e2 g4 (dv.ext fun s => ?_)
      by_cases c : s ∈ ks
      · rw [if_pos c]
      · rw [if_neg c, (dk.non s c).2]
theorem added_leaf {H : Hp} {Q : VK} {E : XK} {D1 D2 : Addr} {kvs1 kvs2 : List (Key × V)} {f1 f2 : Str → Int} {z : Int} (h1 : H D1 = some (.dK kvs1)) (d1 : Dv kvs1 f1) (h2 : H D2 = some (.dK kvs2)) (d2 : Dv kvs2 f2) (hz : z.natAbs ≤ 10 ^ 7)
    (k : ∀ F kvs H', H F = none → Same H H' → H' F = some (.dK kvs) → Dv kvs (fun s => f1 s + z * f2 s) → Q (.ref F) H') : spAdded [.ref D1, .ref D2, .int z] H Q E := ⟨D1, D2, kvs1, kvs2, f1, f2, z, rfl, h1, d1, h2, d2, hz, k⟩
theorem due_leaf {H : Hp} {Q : VK} {E : XK} {c : Int} {D : Addr} {kvs : List (Key × V)} {f : Str → Int} (h : H D = some (.dK kvs)) (d : Dv kvs f) (k : ∀ l H', Same H H' → Shw K H' l c (cano f) → Q (.ref l) H') : spDue K [.int c, .ref D] H Q E := ⟨c, D, kvs, f, rfl, h, d, k⟩
theorem pairs_leaf {H : Hp} {Q : VK} {E : XK} {D : Addr} {kvs : List (Key × V)} {f : Str → Int} (h : H D = some (.dK kvs)) (d : Dv kvs f) (k : ∀ r H', Same H H' → Prs K H' r (cano f) → Q (.ref r) H') : spPairs K [.ref D] H Q E := ⟨D, kvs, f, rfl, h, d, k⟩
theorem shown_leaf {C : Addr} {H : Hp} {Q : VK} {E : XK} {p : Addr} {c : Int} {ps : List (Str × Int)} (r : Frm K C H p c ps) (k : ∀ l H', H l = none → Same H H' → Shw K H' l c ps → Q (.ref l) H') : spShown K C [.ref p] H Q E := ⟨p, c, ps, rfl, r, k⟩
theorem Shw.upd {H : Hp} {l D : Addr} {c : Int} {ps : List (Str × Int)} {acc o : List V} (s : Shw K H l c ps) (hD : H D = some (.lst acc)) (n : l ≠ D) : Shw K (upd H D (.lst o)) l c ps := by
  obtain ⟨t, h1, as, ht, hp⟩ := s
  have other : ∀ {c : Addr} {u : HO}, H c = some u → (∀ xs, u ≠ .lst xs) → c ≠ D := fun {c u} e n z => by rw [z, hD] at e; cases e; exact n _ rfl
  refine ⟨t, by rw [upd_ne n]; exact h1, as, ?_, hp.1, fun i q u a b => ?_⟩
  · rcases ht with (h | ⟨o', h⟩) | h
    · exact .inl (.inl (by rw [upd_ne (other h fun _ z => by cases z)]; exact h))
    · exact .inl (.inr ⟨o', by rw [upd_ne (other h fun _ z => by cases z)]; exact h⟩)
    · exact .inr h
  · have e := hp.2 i q u a b
    rw [upd_ne (other e fun _ z => by cases z)]
    exact e
section
variable {σ : L2.St} {H : Hp} {Q : VK} {g : TG} {te : TE} {vs : List Nat}
/-- [f(x) for x in a list], each element may be a new list of its own -/
theorem lcO_leaf {l : Addr} {xs : List V} (P : Nat → V → Hp → Prop) (monoS : ∀ i v G G', Same G G' → P i v G → P i v G') (mono : ∀ i v G D acc o, G D = some (.lst acc) → v ≠ .ref D → P i v G → P i v (upd G D (.lst o))) (hl : SqL K H l xs) (hlen : xs.length ≤ 1000)
    (he : ∀ (i : Nat) (x : V) (H' : Hp), xs[i]? = some x → Same H H' → ∀ Q' : VK, (∀ v H'', Same H' H'' → P i v H'' → (∀ D acc, H' D = some (.lst acc) → v ≠ .ref D) → Q' v H'') → g x (wipe σ vs) H' fun σ2 H2 => wipe σ2 vs = wipe σ vs ∧ te σ2 H2 Q')
    (k : ∀ D ys H', H D = none → Same H H' → H' D = some (.lst ys) → ys.length = xs.length → (∀ (i : Nat) (v : V), ys[i]? = some v → P i v H') → Q (.ref D) H') : LcS K g tYes te vs σ (.ref l) H Q := by
  refine ⟨l, rfl, ⟨_, hl⟩, fun D hD => ?_⟩
  refine lc_list (K := K) (a := l) (xs := xs) (fun i G => ∃ acc, G D = some (.lst acc) ∧ acc.length = i ∧ Same H G ∧ ∀ (m : Nat) (v : V), acc[m]? = some v → P m v G ∧ v ≠ .ref D) ⟨[], upd_same, rfl, w_new hD, fun m v e => by simp at e⟩ (fun i G _ hG => Same.seq (let ⟨_, _, _, e, _⟩ := hG; e) hl) ?_ ?_
  · rintro i x G hx ⟨acc, h1, h2, e, hp⟩
    have hi := (List.getElem?_eq_some_iff.mp hx).1
    refine he i x G hx e (fun y H4 => ∃ acc, H4 D = some (.lst acc) ∧ acc.length < sizeLine ∧ ∃ acc', upd H4 D (.lst (acc ++ [y])) D = some (.lst acc') ∧ acc'.length = i + 1 ∧ Same H (upd H4 D (.lst (acc ++ [y]))) ∧ ∀ (m : Nat) (v : V), acc'[m]? = some v → P m v (upd H4 D (.lst (acc ++ [y]))) ∧ v ≠ .ref D) fun v H4 e4 pv nv => ?_
    have h3 := e4 _ _ h1
    have nD := nv D _ h1
    refine ⟨acc, h3, Nat.lt_of_lt_of_le (show acc.length < 1001 by omega) (by decide), acc ++ [v], upd_same, by rw [List.length_append, h2]; rfl, RK.Same.updL (e.trans e4) hD, fun m u hu => ?_⟩
    by_cases hm : m < acc.length
    · rw [List.getElem?_append_left hm] at hu
      obtain ⟨p1, p2⟩ := hp m u hu
      exact ⟨mono m u H4 D _ _ h3 p2 (monoS m u G H4 e4 p1), p2⟩
    · rw [List.getElem?_append_right (by omega)] at hu
      have em : m = acc.length := by
        have := (List.getElem?_eq_some_iff.mp hu).1
        simp at this
        omega
      subst em
      simp at hu
      subst hu
      exact ⟨mono _ _ H4 D _ _ h3 nD (by rw [h2]; exact pv), nD⟩
  · rintro G ⟨acc, h1, h2, e, hp⟩
    exact k D acc G hD e h1 h2 fun i v h => (hp i v h).1
end
end
end RK4


namespace RK4
open PySem PySem.Spec L2 RK RZ StX PyProof.Rows
/-! ### lengths, letter by letter -/
structure LnP (C : Addr) (H : Hp) (kvs : List (Key × V)) (w : Str → Int) (j : Nat) : Prop where
  len : kvs.length ≤ j
  ent : ∀ kv ∈ kvs, ∃ s v t b, kv = (Sum.inr s, v) ∧ s ∈ lts ∧ Frn C H v t b ∧ 0 ≤ t
  has : ∀ s ∈ lts.take j, ∃ v t b, valV kvs (.inr s) = some v ∧ Frn C H v t b ∧ Nrm (w s) 6 t b
theorem LnP.nil {C : Addr} {H : Hp} {w : Str → Int} : LnP C H [] w 0 := ⟨Nat.le_refl _, (fun _ h => nomatch h), fun _ h => by simp at h⟩
theorem LnP.sameX {C : Addr} {H H' : Hp} {kvs : List (Key × V)} {w : Str → Int} {j : Nat} (l : LnP C H kvs w j) (e : ∀ p C dx fs, H p = some (.ins C dx fs) → H' p = some (.ins C dx fs)) : LnP C H' kvs w j :=
  ⟨l.len, fun kv h => let ⟨s, v, t, b, h1, h2, h3, h4⟩ := l.ent kv h; ⟨s, v, t, b, h1, h2, h3.sameX e, h4⟩, fun s h => let ⟨v, t, b, h1, h2, h3⟩ := l.has s h; ⟨v, t, b, h1, h2.sameX e, h3⟩⟩
theorem LnP.same {C : Addr} {H H' : Hp} {kvs : List (Key × V)} {w : Str → Int} {j : Nat} (l : LnP C H kvs w j) (e : Same H H') : LnP C H' kvs w j := l.sameX fun p C dx fs h => e _ _ h
theorem LnP.kp {C bg : Addr} {H H' : Hp} {kvs : List (Key × V)} {w : Str → Int} {j : Nat} (l : LnP C H kvs w j) (e : Kp bg H H') : LnP C H' kvs w j := l.sameX fun p C dx fs h => e.ins h
theorem LnP.all {C : Addr} {H : Hp} {kvs : List (Key × V)} {w : Str → Int} (l : LnP C H kvs w 6) : Ln C H kvs w := ⟨l.len, l.ent, fun s hs => l.has s hs⟩
theorem mem_putK {kvs : List (Key × V)} {k : Key} {v : V} {kv : Key × V} (h : kv ∈ putK kvs k v) : kv ∈ kvs ∨ kv = (k, v) := by
  unfold putK at h
  split at h
  · obtain ⟨kv0, h0, h1⟩ := List.mem_map.mp h
    by_cases e : kv0.1 = k
    · rw [if_pos e] at h1
      exact .inr (by rw [← h1, e])
    · rw [if_neg e] at h1
      exact .inl (by rw [← h1]; exact h0)
  · rcases List.mem_append.mp h with h | h
    · exact .inl h
    · exact .inr (List.mem_singleton.mp h)
theorem len_putK {kvs : List (Key × V)} {k : Key} {v : V} : (putK kvs k v).length ≤ kvs.length + 1 := by
  unfold putK
  split
  · rw [List.length_map]; omega
  · rw [List.length_append]; exact Nat.le_refl _
theorem take_lts {j : Nat} {s : Str} (h : lts[j]? = some s) : lts.take (j + 1) = lts.take j ++ [s] ∧ s ∉ lts.take j := by
  have tk : lts.take (j + 1) = lts.take j ++ [s] := by rw [List.take_succ, h]; rfl
  refine ⟨tk, fun hin => ?_⟩
  have nd : (lts.take (j + 1)).Nodup := lts_nd.sublist (List.take_sublist _ _)
  rw [tk, List.nodup_append] at nd
  exact nd.2.2 s hin s List.mem_cons_self rfl
theorem LnP.put {C : Addr} {H : Hp} {kvs : List (Key × V)} {w : Str → Int} {j : Nat} {s : Str} {v : V} {t b z : Int} (l : LnP C H kvs w j) (hs : lts[j]? = some s) (f : Frn C H v t b) (h0 : 0 ≤ t) (n : Nrm z 6 t b) : LnP C H (putK kvs (.inr s) v) (fun r => if r = s then z else w r) (j + 1) := by
  obtain ⟨tk, nin⟩ := take_lts hs
  refine ⟨Nat.le_trans len_putK (Nat.succ_le_succ l.len), fun kv h => ?_, fun r hr => ?_⟩
  · rcases mem_putK h with h | rfl
    · exact l.ent kv h
    · exact ⟨s, v, t, b, rfl, List.mem_of_getElem? hs, f, h0⟩
  · rw [valV_put]
    by_cases e : r = s
    · subst e
      refine ⟨v, t, b, if_pos rfl, f, ?_⟩
      rw [if_pos rfl]
      exact n
    · rw [tk] at hr
      rcases List.mem_append.mp hr with hr | hr
      · rw [if_neg (by simpa using e), if_neg e]
        exact l.has r hr
      · exact absurd (List.mem_singleton.mp hr) e
theorem wd_put {w f : Str → Int} {j : Nat} {s : Str} {z : Int} (hs : lts[j]? = some s) : ((lts.take (j + 1)).map fun r => (if r = s then z else w r) * f r).sum = ((lts.take j).map fun r => w r * f r).sum + z * f s := by
  obtain ⟨tk, nin⟩ := take_lts hs
  rw [tk, List.map_append, List.sum_append]
  have e : (lts.take j).map (fun r => (if r = s then z else w r) * f r) = (lts.take j).map fun r => w r * f r := List.map_congr_left fun r hr => by rw [if_neg (show ¬ r = s from fun q => by subst q; exact nin hr)]
  rw [e]
  show _ + ((if s = s then z else w s) * f s + 0) = _
  rw [if_pos rfl, Int.add_zero]
theorem sixth {z : Int} (h : z % 6 = 0) : Nrm z 6 (z / 6) 1 := ⟨by decide, Int.gcd_one_right .., by omega⟩
theorem neq_leaf {K : PySem.W.Frag} {C : Addr} {H : Hp} {Q : VK} {p q : Addr} {t b t2 b2 : Int} (r : Rat C H p t b) (r2 : Rat C H q t2 b2) (k : ∀ k H', Same H H' → (k = true ↔ t = t2 ∧ b = b2) → Q (.bl (!k)) H') :
    rNeO C (spEq K C) E0 (.ref p) (.ref q) H Q := by
  obtain ⟨dx, h⟩ := r.ob
  obtain ⟨dy, h2⟩ := r2.ob
  exact ⟨p, q, dx, _, dy, _, rfl, rfl, h, h2, p, .ref q, t, b, rfl, r, .inl ⟨t2, b2, .inr ⟨q, rfl, r2⟩, fun k' H' e i => ⟨k', rfl, k k' H' e i⟩⟩⟩
theorem for_str {x : Str} {g : TG} {tb : TS} {D : Ends} {σ : L2.St} {H : Hp} (Pv : Nat → L2.St → Hp → Prop) (h0 : Pv 0 σ H)
    (hs : ∀ i c σ H, x.cps[i]? = some c → Pv i σ H → g (.str ⟨#[c]⟩) σ H fun σ2 H2 => tb { D with nx := Pv (i + 1), ct := Pv (i + 1), bk := D.nx } σ2 H2) (hd : ∀ σ H, Pv x.cps.size σ H → D.nx σ H) :
    ∃ W : Nat → Nat → L2.St → Hp → Prop, (∃ m, W 0 m σ H) ∧ ∀ i m σ H, W i m σ H →
      ((Its x).stop i H ∧ D.nx σ H) ∨ ((Its x).go i H ∧ ∃ N : L2.St → Hp → Prop, (∀ σ' H', N σ' H' → ∃ m', m' < m ∧ W (i + 1) m' σ' H') ∧ ∀ v H', (Its x).yld i H v H' → g v σ H' fun σ2 H2 => tb { D with nx := N, ct := N, bk := D.nx } σ2 H2) := by
  refine ⟨fun i m σ H => m = x.cps.size - i ∧ i ≤ x.cps.size ∧ Pv i σ H, ⟨x.cps.size, by simp, Nat.zero_le _, h0⟩, ?_⟩
  rintro i m σ H ⟨rfl, hi, p⟩
  by_cases hlt : i < x.cps.size
  · refine .inr ⟨hlt, Pv (i + 1), fun σ' H' p' => ⟨x.cps.size - (i + 1), by omega, rfl, hlt, p'⟩, fun v H' y => ?_⟩
    obtain ⟨e, c, hc, rfl⟩ := y
    subst e
    exact hs i c σ _ hc p
  · have e : i = x.cps.size := by omega
    subst e
    exact .inl ⟨Nat.le_refl _, hd σ H p⟩
theorem lts_at {i c : Nat} (h : (("abcxyz" : Str)).cps[i]? = some c) : lts[i]? = some ⟨#[c]⟩ := by
  have e : lts = (("abcxyz" : Str)).cps.toList.map fun c => (⟨#[c]⟩ : Str) := by decide +kernel
  rw [e, List.getElem?_map, Array.getElem?_toList, h]
  rfl
theorem nmr_ml {K : PySem.W.Frag} {C : Addr} {H : Hp} {p : Addr} {c : Int} {ps : List (Str × Int)} {m : Str} {R : Prop} (r : Frm K C H p c ps) (h1 : (m == ("constant" : Str)) = false) (h2 : (m == ("terms" : Str)) = false) (h3 : (m == ("names" : Str)) = false) (k : R) : Ml C m (.ref p) H R := by
  obtain ⟨dx, t, h, _⟩ := r.ob
  exact ⟨p, dx, _, rfl, h, ffs_no _ _ _ h1 h2 h3, k⟩
theorem Frm.kp {K : PySem.W.Frag} {C bg : Addr} {H H' : Hp} {p : Addr} {c : Int} {ps : List (Str × Int)} (r : Frm K C H p c ps) (e : Kp bg H H') : Frm K C H' p c ps := by
  obtain ⟨⟨dx, t, h, as, ht, hp⟩, g⟩ := r
  refine ⟨⟨dx, t, e.ins h, as, ?_, hp.1, fun i q u a b => e.tup (hp.2 i q u a b)⟩, g⟩
  rcases ht with (h | ⟨o, h⟩) | h
  · exact .inl (.inl (e.tup h))
  · obtain ⟨f, s, n, hb⟩ := e.bag
    exact .inl (.inr ⟨o, e.keep _ _ (ne_of h hb (by intro z; cases z)) h⟩)
  · exact .inr h
theorem shp {d : PyData} (h : d.canLay0 = true ∧ d.depth ≤ 3) : SeqAt.shaped d = true := by
  unfold SeqAt.shaped
  refine Bool.and_eq_true_iff.mpr ⟨h.1, decide_eq_true ?_⟩
  have := h.2
  omega
end RK4


namespace RK4
open PySem PySem.Spec L2 RK RZ StX PyProof.Rows
section
variable {P : Program} {w : World} {K : PySem.W.Frag} {mg : Str → Option Value} {base : Heap} {a : Ad}
theorem kb_Form_at (T : Txt K mg a) : KBn K a.d_Form_at ["self", "lengths"] 1 ["lengths"] (fun us ws => us ++ ws) (fun vs zs => vs ++ zs) := by
  obtain ⟨oc, od, kV, doc, pm, an, cdv, ct, osl, e, _⟩ := T.F_Form_at.ex
  rw [e]
  exact ⟨fun s us ws _ h1 h2 => match us, ws, h1, h2 with | [_], [_], _, _ => .of_eq rfl, fun r1 r2 => r1.append r2⟩
/-- Form(terms = .., constant = ..) -/
def gF {α : Type} : List α → List α → List α → List α
  | [s], _, [b, t] => [s, t, b]
  | _, _, _ => []
theorem kbF (T : Txt K mg a) : ∃ its : List Value, KBn K a.d_Form_init ["self", "constant", "terms"] 1 ["terms", "constant"] (fun us ws => gF us its ws) (fun vs zs => gF vs [.int 0, .ref a.E0] zs) := by
  refine T.F_Form_init.kbindsD (ps := ["self", "constant", "terms"]) 1 ["terms", "constant"] gF (by simp) (fun {vs ds zs us its ws} r1 _ r3 => ?_) (fun _ _ _ _ _ _ _ us its ws h1 h2 h3 => match us, its, ws, h1, h2, h3 with | [_], [_, _], [_, _], _, _, _ => ⟨_, rfl, rfl⟩)
  cases r1 with
  | nil => exact .nil
  | cons r1 r1' =>
    cases r1' with
    | cons _ _ => exact .nil
    | nil =>
      cases r3 with
      | nil => exact .nil
      | cons r3 r3' =>
        cases r3' with
        | nil => exact .nil
        | cons r4 r4' =>
          cases r4' with
          | nil => exact .cons r1 (.cons r4 (.cons r3 .nil))
          | cons _ _ => exact .nil
theorem mkk_leaf {C e0 : Addr} {H : Hp} {Q : VK} {c : Int} {t : Addr} {ps : List (Str × Int)} (hps : Prs K H t ps) (g : Good ps) (k : ∀ p H', H p = none → Same H H' → Frm K C H' p c ps → Q (.ref p) H') :
    MkK C 0 2 (spFinit K C) (fun vs zs => gF vs [.int 0, .ref e0] zs) E0 [] [.ref t, .int c] H Q := ⟨rfl, rfl, mkF_leaf hps g k⟩
theorem bd_of {f : Str → Int} (h : Bs f) (z : Int) (hz : z.natAbs ≤ 10 ^ 7) : Bd fun s => f s * z := fun s _ => by
  have h1 := h s
  show (f s * z).natAbs ≤ _
  rw [Int.natAbs_mul]
  exact Nat.le_trans (Nat.mul_le_mul h1 hz) (by decide)
theorem bd_one {f : Str → Int} (h : Bs f) : Bd f := fun s _ => Nat.le_trans (h s) (by decide)
theorem bd_add {f g : Str → Int} (h : Bs f) (h2 : Bs g) (z : Int) (hz : z = 1 ∨ z = -1) : Bd fun s => f s + g s * z := fun s _ => by
  have h1 := h s
  have h3 := h2 s
  show (f s + g s * z).natAbs ≤ _
  rcases hz with rfl | rfl <;> omega
/-! ### equality of what is shown -/
def dSh (c : Int) (ps : List (Str × Int)) : PyData := .list [.int c, .tuple (ps.map dPr), .str (nms ps)]
theorem dp_shw {H : Hp} {l : Addr} {c : Int} {ps : List (Str × Int)} (s : Shw K H l c ps) : Dp K H (.ref l) (dSh c ps) := by
  obtain ⟨t, h1, h2⟩ := s
  exact .lst (SqL.of h1) (.cons (.int _) (.cons (dp_prs h2) (.cons (.str _) .nil)))
theorem ok_nms {ps : List (Str × Int)} (h : ∀ u ∈ ps, u.1 ∈ lts) (few : ps.length ≤ 6) : PyData.strOk (nms ps) = true := by
  obtain ⟨_, n⟩ := nms_chars h few
  unfold PyData.strOk
  rw [← Array.all_toList, List.all_eq_true]
  intro c hc
  have := n c hc
  have b : ∀ s ∈ lts, ∀ x ∈ s.cps.toList, x < 200 := by decide +kernel
  have := b _ this c List.mem_cons_self
  exact decide_eq_true (by omega)
theorem lay_sh (c : Int) {f : Str → Int} (b : Bd f) : (dSh c (cano f)).canLay0 = true ∧ (dSh c (cano f)).depth ≤ 3 := by
  have g := cano_good b
  obtain ⟨h1, h2⟩ := lay_pairs (cano f) (good_ok g)
  have h3 := ok_nms (ps := cano f) (fun u hu => (cano_mem hu).1) g.few
  unfold dSh
  refine ⟨?_, ?_⟩
  · show (true && (PyData.canLayAll0 ((cano f).map dPr) && (PyData.strOk (nms (cano f)) && true))) = true
    rw [h1, h3]
    rfl
  · unfold PyData.depth PyData.depthAll
    unfold PyData.depthAll
    unfold PyData.depthAll
    unfold PyData.depthAll
    unfold PyData.depth
    omega
theorem eqv_sh (c d : Int) {f g : Str → Int} : PyData.eqv (dSh c (cano f)) (dSh d (cano g)) = (decide (c = d) && decide (cano f = cano g)) := by
  have e : PyData.eqv (dSh c (cano f)) (dSh d (cano g)) = ((c == d) && (PyData.eqvAll ((cano f).map dPr) ((cano g).map dPr) && ((nms (cano f) == nms (cano g)) && true))) := rfl
  rw [e, eqv_pairs, Bool.and_true]
  by_cases z : cano f = cano g
  · rw [z]
    rw [Bool.eq_iff_iff]
    simp
  · rw [decide_eq_false z]
    rw [Bool.eq_iff_iff]
    simp
theorem key {G : Prop} {R : Addr → Hp → Prop} (Inv : Addr → Hp → Prop) (h2 : (∀ D' H', Inv D' H' → R D' H') → G) (h1 : ∀ D' H', Inv D' H' → R D' H') : G := h2 h1
/-- what drawn gave, at t -/
def Dn (b : Addr) (H : Hp) (t : Addr) (c : Int) (D : Addr) (kvs : List (Key × V)) (f : Str → Int) : Prop := H t = some (.tup [.int c, .ref D]) ∧ H D = some (.dK kvs) ∧ D ≠ b ∧ Dv kvs f ∧ Bs f ∧ c.natAbs ≤ 10 ^ 13
theorem Dn.same {b : Addr} {H H' : Hp} {t : Addr} {c : Int} {D : Addr} {kvs : List (Key × V)} {f : Str → Int} (d : Dn b H t c D kvs f) (e : Same H H') : Dn b H' t c D kvs f := ⟨e _ _ d.1, e _ _ d.2.1, d.2.2⟩
theorem Dn.kp {b : Addr} {H H' : Hp} {t : Addr} {c : Int} {D : Addr} {kvs : List (Key × V)} {f : Str → Int} (d : Dn b H t c D kvs f) (k : Kp b H H') : Dn b H' t c D kvs f := ⟨k.tup d.1, k.keep _ _ d.2.2.1 d.2.1, d.2.2⟩
theorem good0 : Good [] := ⟨Nat.zero_le _, (fun _ h => nomatch h), (fun i p q h => by simp at h), (fun _ h => nomatch h), (fun _ h => nomatch h)⟩
theorem neF_leaf {C : Addr} {H : Hp} {Q : VK} {p q : Addr} {c d : Int} {ps qs : List (Str × Int)} (r : Frm K C H p c ps) (r2 : Frm K C H q d qs) (k : Q (.bl (!(decide (c = d) && decide (ps = qs)))) H) : rNeO C (spFeq K C) E0 (.ref p) (.ref q) H Q := by
  obtain ⟨dx, t, ob, _⟩ := r.ob
  obtain ⟨dy, u, ob2, _⟩ := r2.ob
  exact ⟨p, q, dx, _, dy, _, rfl, rfl, ob, ob2, p, .ref q, c, ps, rfl, r, .inl ⟨q, d, qs, rfl, r2, _, rfl, k⟩⟩
theorem ix0_leaf {H : Hp} {Q : VK} {t : Addr} {x y : V} (h : H t = some (.tup [x, y])) (q : Q x H) : rIxT K (.ref t) (.int 0) H Q := ⟨t, _, 0, x, rfl, rfl, SqT.of h, rfl, q⟩
theorem ix1_leaf {H : Hp} {Q : VK} {t : Addr} {x y : V} (h : H t = some (.tup [x, y])) (q : Q y H) : rIxT K (.ref t) (.int 1) H Q := ⟨t, _, 1, y, rfl, rfl, SqT.of h, rfl, q⟩
/-- the i-th of the forms' lists -/
def Pw (K : PySem.W.Frag) (L : List (Int × (Str → Int))) (i : Nat) (v : V) (H : Hp) : Prop := ∃ l u, L[i]? = some u ∧ v = .ref l ∧ Shw K H l u.1 (cano u.2)
def Fw (K : PySem.W.Frag) (C : Addr) (L : List (Int × (Str → Int))) (ms : List Addr) (H : Hp) : Prop := ms.length = L.length ∧ ∀ (i : Nat) (m : Addr) (u : Int × (Str → Int)), ms[i]? = some m → L[i]? = some u → Frm K C H m u.1 (cano u.2)
theorem lcW_leaf {C : Addr} {σ : L2.St} {H : Hp} {Q : VK} {te : TE} {vs : List Nat} {j : Nat} {l : Addr} {ms : List Addr} {L : List (Int × (Str → Int))} (hl : H l = some (.lst (ms.map V.ref))) (hF : Fw K C L ms H) (hn : L.length ≤ 10) (hw : ∀ y, wipe ((wipe σ vs).set j (some y)) vs = wipe σ vs)
    (he : ∀ (m : Addr) (u : Int × (Str → Int)) (H' : Hp), Frm K C H' m u.1 (cano u.2) → ∀ Q' : VK, (∀ l H'', H' l = none → Same H' H'' → Shw K H'' l u.1 (cano u.2) → Q' (.ref l) H'') → te ((wipe σ vs).set j (some (.ref m))) H' Q')
    (k : ∀ D (ls : List Addr) H', H D = none → Same H H' → H' D = some (.lst (ls.map V.ref)) → ls.length = L.length → (∀ (i : Nat) (q : Addr) (u : Int × (Str → Int)), ls[i]? = some q → L[i]? = some u → Shw K H' q u.1 (cano u.2)) → Q (.ref D) H') : LcS K (gName j) tYes te vs σ (.ref l) H Q := by
  refine lcO_leaf (Pw K L) (fun i v G G' e ⟨l, u, h1, h2, h3⟩ => ⟨l, u, h1, h2, h3.same e⟩) (fun i v G D acc o hD n ⟨l, u, h1, h2, h3⟩ => ⟨l, u, h1, h2, h3.upd hD fun z => n (by rw [h2, z])⟩) (SqL.of hl) (by rw [List.length_map, hF.1]; omega) (fun i x H' hx e Q' kq => ?_) (fun D ys H' nD e hD hl' hP => ?_)
  · rw [List.getElem?_map] at hx
    cases hm : ms[i]? with
    | none => rw [hm] at hx; cases hx
    | some m =>
      rw [hm] at hx
      cases hx
      have hi : i < L.length := by rw [← hF.1]; exact (List.getElem?_eq_some_iff.mp hm).1
      have hu : L[i]? = some L[i] := List.getElem?_eq_getElem hi
      refine ⟨hw _, he m L[i] H' ((hF.2 i m _ hm hu).same e) Q' fun l H'' nl e2 sh => kq _ _ e2 ⟨l, _, hu, rfl, sh⟩ fun D acc hD z => ?_⟩
      cases z
      rw [hD] at nl
      cases nl
  · obtain ⟨ls, rfl, l1, l2⟩ := refs_of (ps := L) (R := fun q u => Shw K H' q u.1 (cano u.2)) (by rw [hl', List.length_map, hF.1]) fun i v hv => by
      obtain ⟨l, u, h1, h2, h3⟩ := hP i v hv
      exact ⟨l, u, h1, h2, h3⟩
    exact k D ls H' nD e hD l1 l2
/-- the law's own lists, at l -/
structure Du (K : PySem.W.Frag) (H : Hp) (l : Addr) (ds : List Addr) (L : List (Int × (Str → Int))) : Prop where
  at_ : H l = some (.lst (ds.map V.ref))
  len : ds.length = L.length
  sh : ∀ (i : Nat) (q : Addr) (u : Int × (Str → Int)), ds[i]? = some q → L[i]? = some u → Shw K H q u.1 (cano u.2)
theorem Du.same {H H' : Hp} {l : Addr} {ds : List Addr} {L : List (Int × (Str → Int))} (d : Du K H l ds L) (e : Same H H') : Du K H' l ds L := ⟨e _ _ d.at_, d.len, fun i q u a b => (d.sh i q u a b).same e⟩
theorem Du.one {H : Hp} {l q : Addr} {c : Int} {f : Str → Int} (h : H l = some (.lst [.ref q])) (s : Shw K H q c (cano f)) : Du K H l [q] [(c, f)] := ⟨h, rfl, fun i q' u a b => by
  cases i with
  | zero => cases a; cases b; exact s
  | succ j => cases a⟩
/-- a list of references is none of what is shown -/
theorem Shw.grown {H H' : Hp} {l m r : Addr} {rs : List V} {ys : List V} {c : Int} {ps : List (Str × Int)} (s : Shw K H l c ps) (h : H m = some (.lst (.ref r :: rs))) (g : Grown m ys H H') : Shw K H' l c ps := by
  obtain ⟨t, h1, hp⟩ := s
  have n : l ≠ m := fun z => by rw [z, h] at h1; cases h1
  obtain ⟨as, ht, hq⟩ := hp
  refine ⟨t, g.keep _ _ n h1, as, ?_, hq.1, fun i q u a b => g.same.tup (hq.2 i q u a b)⟩
  rcases ht with (h | ⟨o', h⟩) | h
  · exact .inl (.inl (g.same.tup h))
  · exact .inl (.inr ⟨o', g.same _ _ h fun xs z => by cases z⟩)
  · exact .inr h
theorem sh_snoc {H : Hp} {ds : List Addr} {L : List (Int × (Str → Int))} {q : Addr} {c : Int} {f : Str → Int} (len : ds.length = L.length) (sh : ∀ (i : Nat) (q : Addr) (u : Int × (Str → Int)), ds[i]? = some q → L[i]? = some u → Shw K H q u.1 (cano u.2)) (s : Shw K H q c (cano f)) :
    ∀ (i : Nat) (q' : Addr) (u : Int × (Str → Int)), (ds ++ [q])[i]? = some q' → (L ++ [(c, f)])[i]? = some u → Shw K H q' u.1 (cano u.2) := fun i q' u a b => by
  by_cases ci : i < ds.length
  · rw [List.getElem?_append_left ci] at a
    rw [List.getElem?_append_left (by rw [← len]; exact ci)] at b
    exact sh i q' u a b
  · rw [List.getElem?_append_right (by omega)] at a
    rw [List.getElem?_append_right (by rw [← len]; omega), ← len] at b
    generalize i - ds.length = n at a b
    cases n with
    | zero => cases a; cases b; exact s
    | succ n => cases a
theorem sh_snoc_len {ds : List Addr} {L : List (Int × (Str → Int))} {q : Addr} {u : Int × (Str → Int)} (len : ds.length = L.length) : (ds ++ [q]).length = (L ++ [u]).length := by rw [List.length_append, List.length_append, len]; rfl
theorem Du.snoc {H H' : Hp} {l q r : Addr} {ds : List Addr} {L : List (Int × (Str → Int))} {c : Int} {f : Str → Int} (d : Du K H l (r :: ds) L) (s : Shw K H q c (cano f)) (g : Grown l ((r :: ds).map V.ref ++ [.ref q]) H H') : Du K H' l (r :: ds ++ [q]) (L ++ [(c, f)]) := by
  have h := d.at_
  rw [List.map_cons] at h
  refine ⟨by rw [g.at_, List.map_append]; rfl, by rw [List.length_append, List.length_append, d.len]; rfl, sh_snoc d.len (fun i q u a b => (d.sh i q u a b).grown h g) (s.grown h g)⟩
/-- a copy of l and one more -/
theorem Du.cat {H H' : Hp} {l m q : Addr} {ds : List Addr} {L : List (Int × (Str → Int))} {c : Int} {f : Str → Int} (d : Du K H l ds L) (s : Shw K H q c (cano f)) (e : Same H H') (h : H' m = some (.lst (ds.map V.ref ++ [.ref q]))) : Du K H' m (ds ++ [q]) (L ++ [(c, f)]) :=
  ⟨by rw [h, List.map_append]; rfl, by rw [List.length_append, List.length_append, d.len]; rfl, sh_snoc d.len (fun i q u a b => (d.sh i q u a b).same e) (s.same e)⟩
def dU (u : Int × (Str → Int)) : PyData := dSh u.1 (cano u.2)
theorem dp_all {H : Hp} : ∀ (fs : List Addr) (L : List (Int × (Str → Int))), fs.length = L.length → (∀ (i : Nat) (q : Addr) (u : Int × (Str → Int)), fs[i]? = some q → L[i]? = some u → Shw K H q u.1 (cano u.2)) → DpAll K H (fs.map V.ref) (L.map dU)
  | [], [], _, _ => .nil
  | q :: fs, u :: L, h, hs => .cons (dp_shw (hs 0 q u rfl rfl)) (dp_all fs L (by simpa using h) fun i r v a b => hs (i + 1) r v a b)
  | [], _ :: _, h, _ => nomatch h
  | _ :: _, [], h, _ => nomatch h
theorem lay_all : ∀ L : List (Int × (Str → Int)), (∀ u ∈ L, Bd u.2) → PyData.canLayAll0 (L.map dU) = true ∧ PyData.depthAll (L.map dU) ≤ 3
  | [], _ => ⟨rfl, Nat.zero_le _⟩
  | u :: L, h => by
    obtain ⟨h1, h2⟩ := lay_all L fun v hv => h v (List.mem_cons_of_mem _ hv)
    obtain ⟨h3, h4⟩ := lay_sh u.1 (h u List.mem_cons_self)
    have h3' : (dU u).canLay0 = true := h3
    have h4' : (dU u).depth ≤ 3 := h4
    rw [List.map_cons]
    refine ⟨?_, ?_⟩
    · unfold PyData.canLayAll0
      rw [h1, h3']
      rfl
    · unfold PyData.depthAll
      omega
theorem ne_all {H : Hp} {Q : VK} {F l : Addr} {fs ds : List Addr} {xs : List V} {L M : List (Int × (Str → Int))} (nl : H l = none) (hF : H F = some (.lst (fs.map V.ref))) (hx : xs = ds.map V.ref) (l1 : fs.length = L.length) (l2 : ds.length = M.length)
    (s1 : ∀ (i : Nat) (q : Addr) (u : Int × (Str → Int)), fs[i]? = some q → L[i]? = some u → Shw K H q u.1 (cano u.2)) (s2 : ∀ (i : Nat) (q : Addr) (u : Int × (Str → Int)), ds[i]? = some q → M[i]? = some u → Shw K H q u.1 (cano u.2))
    (b : ∀ u ∈ L, Bd u.2) (e : L.map dU = M.map dU) (k : ∀ H', Same H H' → Q (.bl false) H') : rNeD K (.ref F) (.ref l) (upd H l (.lst xs)) Q := by
  have e1 := w_new (o := .lst xs) nl
  obtain ⟨h1, h2⟩ := lay_all L b
  have sh : SeqAt.shaped (.list (L.map dU)) = true := by
    unfold SeqAt.shaped PyData.canLay0 PyData.depth
    rw [h1]
    refine Bool.and_eq_true_iff.mpr ⟨rfl, decide_eq_true ?_⟩
    omega
  refine ⟨.list (L.map dU), .list (M.map dU), .lst (SqL.of (e1 _ _ hF)) (dp_all fs L l1 fun i q u a b => (s1 i q u a b).same e1), .lst (SqL.of (by rw [upd_same, hx])) (dp_all ds M l2 fun i q u a b => (s2 i q u a b).same e1), sh, by rw [← e]; exact sh, ?_⟩
  rw [← e, SeqAt.eqv_refl _ (SeqAt.canLay_of_shaped sh)]
  exact k _ e1
theorem goGen {G : Hp → Prop} {H : Hp} (Pv : Hp → Prop) (h : Pv H) (k : ∀ H', Pv H' → G H') : G H := k H h
def spRight : Sp := fun vs H Q _ => ∃ b : Addr, vs = [.ref b] ∧ Bag H b ∧ ∀ H', Kp b H H' → Q (.bl true) H'
theorem ok_right (T : Txt K mg a) : FnOk P w K mg base CX0 12 a.f_right a.d_right ["_law_bag_here"] spRight := by
  refine T.F_right.ok sc_right (fun vs H Q E h => ?_) (fun cdv A outer s H vs Q E hr h => ?_)
  · obtain ⟨b, rfl, _⟩ := h
    rfl
  · obtain ⟨b, rfl, hb, k⟩ := h
    obtain ⟨its, kb_Form⟩ := kbF T
    obtain ⟨ds0, vd0, bd0⟩ := bd0_Form T
    obtain ⟨ds1, vd1, bd1⟩ := bd1_Form T
    refine ⟨_, (pss_cons (ps_for PassesOwn.never rfl (pi_range1 (by rfl) T.z_range (pa_cons pe_int pa_nil)) (pg_name (i := 1) sc_right.nd rfl (Or.inl rfl)) (pss_cons (ps_par (i := 2) (j := 3) (by rfl) sc_right.nd rfl rfl (by decide) rfl rfl (pa_cons (pe_call (ok_drawn T) (hr.mono (by decide)) (by rfl) T.m_drawn T.F_drawn.kp T.b_drawn .nil pass0 (pa_cons (pv 0) pa_nil)) (pa_cons (pe_call (ok_drawn T) (hr.mono (by decide)) (by rfl) T.m_drawn T.F_drawn.kp T.b_drawn .nil pass0 (pa_cons (pv 0) pa_nil)) pa_nil)) (by rfl))
      (pss_cons (ps_set (i := 4) sc_right.nd rfl (Or.inl rfl) (pe_call (ok_one T) (hr.mono (by decide)) (by rfl) T.m_one T.F_one.kp T.b_one .nil pass0 (pa_cons (pv 0) (pa_cons (pe_lst (pa_cons pe_int (pa_cons pe_int (pa_cons (pe_op op_sub pe_int pe_int) (pa_cons pe_int (pa_cons (pe_op op_sub pe_int (pe_op op_pow pe_int pe_int)) pa_nil)))))) pa_nil))))
      (pss_cons (ps_if (pt_cmpR op_eq (pe_call (ok_draw T) (hr.mono (by decide)) (by rfl) T.m_draw T.F_draw.kp T.b_draw .nil pass0 (pa_cons (pv 0) (pa_cons pe_int pa_nil))) pe_int (nomark _)) (pss_one (ps_set (i := 3) sc_right.nd rfl (Or.inl rfl) (pe_tup (pa_cons (pe_ix ix_tup (pv 3) pe_int (fun _ _ => rfl)) (pa_cons (pe_call (ok_added T) (hr.mono (by decide)) (by rfl) T.m_added T.F_added.kp T.b_added .nil pass0 (pa_cons pe_dnewK (pa_cons (pe_ix ix_tup (pv 2) pe_int (fun _ _ => rfl)) (pa_cons (pe_op op_sub pe_int pe_int) pa_nil)))) pa_nil))))) pss_nil)
      (pss_cons (ps_par (i := 5) (j := 6) (by rfl) sc_right.nd rfl rfl (by decide) rfl rfl (pa_cons (pe_make T.mk_Form (ok_Form_init T) (hr.mono (by decide)) (by rfl) T.m_Form (bd_Form T) .nil pass0 (pa_cons (pe_ix ix_tup (pv 2) pe_int (fun _ _ => rfl)) (pa_cons (pe_call (ok_pairs T) (hr.mono (by decide)) (by rfl) T.m_pairs T.F_pairs.kp T.b_pairs .nil pass0 (pa_cons (pe_ix ix_tup (pv 2) pe_int (fun _ _ => rfl)) pa_nil)) pa_nil))) (pa_cons (pe_makeK0 T.mk_Form (ok_Form_init T) (hr.mono (by decide)) (by rfl) T.m_Form kb_Form pass0 (pk_cons (pe_call (ok_pairs T) (hr.mono (by decide)) (by rfl) T.m_pairs T.F_pairs.kp T.b_pairs .nil pass0 (pa_cons (pe_ix ix_tup (pv 3) pe_int (fun _ _ => rfl)) pa_nil)) (pk_cons (pe_ix ix_tup (pv 3) pe_int (fun _ _ => rfl)) pk_nil))) pa_nil)) (by rfl))
      (pss_cons (ps_setLc (i := 7) (own := [("_law_each", 12)]) (g := gName 12) (tt := tYes) rfl sc_right.nd rfl rfl (sw_true rfl rfl rfl (by decide +kernel)) (pi_list (pe_lst (pa_cons (pv 5) (pa_cons (pe_op (oAddgg T (hr.mono (by decide))) (pv 5) (pv 6)) (pa_cons (pe_op (oSubgg T (hr.mono (by decide))) (pv 5) (pv 6)) (pa_cons (pe_op (oMultgi T (hr.mono (by decide))) (pv 5) (pv 4)) pa_nil)))))) (blkOk_by (own := [("_law_each", 12)]) (N := ["_law_bag_here", "_law_turn", "_law_one_here", "_law_two", "_law_by", "_law_mine", "_law_mate", "_law_found", "_law_due_here", "_law_alike_here", "_law_longs", "_law_worth_here", "_law_each", "_law_sixths"]) (sc := defScope s_right) (by decide +kernel)) (fun _ _ _ _ _ => pg_name (i := 12) sc_right.nd rfl (Or.inl rfl)) (fun _ _ _ _ _ => pts_nil) (fun _ _ _ _ _ => by exact (pe_call (ok_shown T) (hr.mono (by decide)) (by rfl) T.m_shown T.F_shown.kp T.b_shown .nil pass0 (pa_cons (pv 12) pa_nil))))
      (pss_cons (ps_set (i := 7) sc_right.nd rfl (Or.inl rfl) (pe_op op_cat (pv 7) (pe_lc (own := [("_law_each", 12)]) (g := gName 12) (tt := tYes) rfl sc_right.nd (pi_list (pe_lst (pa_cons (pe_un (oNegg T (hr.mono (by decide))) (pv 5)) (pa_cons (pe_op (oAddgi T (hr.mono (by decide))) (pv 5) (pv 4)) (pa_cons (pe_op (oSubgi T (hr.mono (by decide))) (pv 5) (pv 4)) pa_nil))))) (blkOk_by (own := [("_law_each", 12)]) (N := ["_law_bag_here", "_law_turn", "_law_one_here", "_law_two", "_law_by", "_law_mine", "_law_mate", "_law_found", "_law_due_here", "_law_alike_here", "_law_longs", "_law_worth_here", "_law_each", "_law_sixths"]) (sc := defScope s_right) (by decide +kernel)) (fun _ _ _ _ _ => pg_name (i := 12) sc_right.nd rfl (Or.inl rfl)) (fun _ _ _ _ _ => pts_nil) (fun _ _ _ _ _ => by exact (pe_call (ok_shown T) (hr.mono (by decide)) (by rfl) T.m_shown T.F_shown.kp T.b_shown .nil pass0 (pa_cons (pv 12) pa_nil))))))
      (pss_cons (ps_set (i := 8) sc_right.nd rfl (Or.inl rfl) (pe_lst (pa_cons (pe_call (ok_due T) (hr.mono (by decide)) (by rfl) T.m_due T.F_due.kp T.b_due .nil pass0 (pa_cons (pe_ix ix_tup (pv 2) pe_int (fun _ _ => rfl)) (pa_cons (pe_ix ix_tup (pv 2) pe_int (fun _ _ => rfl)) pa_nil))) pa_nil)))
      (pss_cons (ps_expr (pe_bm PySem.F.plainAttrs_list PySem.F.slot_list_append PySem.F.type_list_append mt_append (pv 8) (pa_cons (pe_call (ok_due T) (hr.mono (by decide)) (by rfl) T.m_due T.F_due.kp T.b_due .nil pass0 (pa_cons (pe_op op_add (pe_ix ix_tup (pv 2) pe_int (fun _ _ => rfl)) (pe_ix ix_tup (pv 3) pe_int (fun _ _ => rfl))) (pa_cons (pe_call (ok_added T) (hr.mono (by decide)) (by rfl) T.m_added T.F_added.kp T.b_added .nil pass0 (pa_cons (pe_ix ix_tup (pv 2) pe_int (fun _ _ => rfl)) (pa_cons (pe_ix ix_tup (pv 3) pe_int (fun _ _ => rfl)) (pa_cons pe_int pa_nil)))) pa_nil))) pa_nil)))
      (pss_cons (ps_set (i := 8) sc_right.nd rfl (Or.inl rfl) (pe_op op_cat (pv 8) (pe_lst (pa_cons (pe_call (ok_due T) (hr.mono (by decide)) (by rfl) T.m_due T.F_due.kp T.b_due .nil pass0 (pa_cons (pe_op op_sub (pe_ix ix_tup (pv 2) pe_int (fun _ _ => rfl)) (pe_ix ix_tup (pv 3) pe_int (fun _ _ => rfl))) (pa_cons (pe_call (ok_added T) (hr.mono (by decide)) (by rfl) T.m_added T.F_added.kp T.b_added .nil pass0 (pa_cons (pe_ix ix_tup (pv 2) pe_int (fun _ _ => rfl)) (pa_cons (pe_ix ix_tup (pv 3) pe_int (fun _ _ => rfl)) (pa_cons (pe_op op_sub pe_int pe_int) pa_nil)))) pa_nil))) pa_nil))))
      (pss_cons (ps_expr (pe_bm PySem.F.plainAttrs_list PySem.F.slot_list_append PySem.F.type_list_append mt_append (pv 8) (pa_cons (pe_call (ok_due T) (hr.mono (by decide)) (by rfl) T.m_due T.F_due.kp T.b_due .nil pass0 (pa_cons (pe_op op_mul (pe_ix ix_tup (pv 2) pe_int (fun _ _ => rfl)) (pv 4)) (pa_cons (pe_call (ok_added T) (hr.mono (by decide)) (by rfl) T.m_added T.F_added.kp T.b_added .nil pass0 (pa_cons pe_dnewK (pa_cons (pe_ix ix_tup (pv 2) pe_int (fun _ _ => rfl)) (pa_cons (pv 4) pa_nil)))) pa_nil))) pa_nil)))
      (pss_cons (ps_expr (pe_bm PySem.F.plainAttrs_list PySem.F.slot_list_append PySem.F.type_list_append mt_append (pv 8) (pa_cons (pe_call (ok_due T) (hr.mono (by decide)) (by rfl) T.m_due T.F_due.kp T.b_due .nil pass0 (pa_cons (pe_op op_sub pe_int (pe_ix ix_tup (pv 2) pe_int (fun _ _ => rfl))) (pa_cons (pe_call (ok_added T) (hr.mono (by decide)) (by rfl) T.m_added T.F_added.kp T.b_added .nil pass0 (pa_cons pe_dnewK (pa_cons (pe_ix ix_tup (pv 2) pe_int (fun _ _ => rfl)) (pa_cons (pe_op op_sub pe_int pe_int) pa_nil)))) pa_nil))) pa_nil)))
      (pss_cons (ps_if (pt_cmpR (op_neD hr.units) (pv 7) (pe_op op_cat (pv 8) (pe_lst (pa_cons (pe_call (ok_due T) (hr.mono (by decide)) (by rfl) T.m_due T.F_due.kp T.b_due .nil pass0 (pa_cons (pe_op op_add (pe_ix ix_tup (pv 2) pe_int (fun _ _ => rfl)) (pv 4)) (pa_cons (pe_ix ix_tup (pv 2) pe_int (fun _ _ => rfl)) pa_nil))) (pa_cons (pe_call (ok_due T) (hr.mono (by decide)) (by rfl) T.m_due T.F_due.kp T.b_due .nil pass0 (pa_cons (pe_op op_sub (pe_ix ix_tup (pv 2) pe_int (fun _ _ => rfl)) (pv 4)) (pa_cons (pe_ix ix_tup (pv 2) pe_int (fun _ _ => rfl)) pa_nil))) pa_nil)))) (nomark _)) (pss_one (ps_ret pe_bl)) pss_nil)
      (pss_cons (ps_set (i := 9) sc_right.nd rfl (Or.inl rfl) (pe_cmpR (op_eqD hr.units) (pe_call (ok_due T) (hr.mono (by decide)) (by rfl) T.m_due T.F_due.kp T.b_due .nil pass0 (pa_cons (pe_ix ix_tup (pv 2) pe_int (fun _ _ => rfl)) (pa_cons (pe_ix ix_tup (pv 2) pe_int (fun _ _ => rfl)) pa_nil))) (pe_call (ok_due T) (hr.mono (by decide)) (by rfl) T.m_due T.F_due.kp T.b_due .nil pass0 (pa_cons (pe_ix ix_tup (pv 3) pe_int (fun _ _ => rfl)) (pa_cons (pe_ix ix_tup (pv 3) pe_int (fun _ _ => rfl)) pa_nil))) (nomark _)))
      (pss_cons (ps_if (PW.pt (pw_or (pt_cmpR op_ne (pe_cmpR (oEqgg T (hr.mono (by decide))) (pv 5) (pv 6) (nomark _)) (pv 9) (nomark _)) (pw_or1 (pt_cmpR (oEqgi T (hr.mono (by decide))) (pv 5) (pe_ix ix_tup (pv 2) pe_int (fun _ _ => rfl)) (nomark _))))) (pss_one (ps_ret pe_bl)) pss_nil)
      (pss_cons (ps_par (i := 10) (j := 11) (by rfl) sc_right.nd rfl rfl (by decide) rfl rfl (pa_cons pe_dnewK (pa_cons (pe_op op_mul pe_int (pe_ix ix_tup (pv 2) pe_int (fun _ _ => rfl))) pa_nil)) (by rfl))
      (pss_cons (ps_for PassesOwn.never rfl (pi_str pe_str) (pg_name (i := 12) sc_right.nd rfl (Or.inl rfl)) (pss_cons (ps_set (i := 13) sc_right.nd rfl (Or.inl rfl) (pe_call (ok_one T) (hr.mono (by decide)) (by rfl) T.m_one T.F_one.kp T.b_one .nil pass0 (pa_cons (pv 0) (pa_cons (pe_lst (pa_cons pe_int (pa_cons pe_int (pa_cons (pe_call (ok_draw T) (hr.mono (by decide)) (by rfl) T.m_draw T.F_draw.kp T.b_draw .nil pass0 (pa_cons (pv 0) (pa_cons pe_int pa_nil))) pa_nil)))) pa_nil))))
      (pss_cons (ps_asg (pe_ifExp (pt_cmpR op_eq (pe_op op_mod (pe_callTy cr_int1 (by rfl) T.z_int (by decide +kernel) (pa_cons (pv 13) pa_nil)) pe_int) pe_int (nomark _)) (pe_op op_fdiv (pv 13) pe_int) (pe_make T.mk_Ratio (ok_Ratio_init T) (hr.mono (by decide)) (by rfl) T.m_Ratio (bd_Ratio T) .nil pass0 (pa_cons (pv 13) (pa_cons pe_int pa_nil)))) (pg_sub (pv 10) (pv 12) (set_dict (hu_of hr))))
      (pss_one (ps_set (i := 11) sc_right.nd rfl (Or.inl rfl) (pe_op op_add (pv 11) (pe_op op_mul (pv 13) (pe_dget2 (hu_of hr) (pe_ix ix_tup (pv 2) pe_int (fun _ _ => rfl)) (pv 12) pe_int ⟨rfl, rfl, rfl, rfl⟩))))))))
      (pss_one (ps_if (PW.pt (pw_or (pt_cmpR (oNotEqqq T (hr.mono (by decide))) (pe_meth (pv 5) T.cl_Form T.me_Form_at (ok_Form_at T) (hr.mono (by decide)) T.b_Form_at .nil pass0 (pa_cons (pv 10) pa_nil)) (pe_make T.mk_Ratio (ok_Ratio_init T) (hr.mono (by decide)) (by rfl) T.m_Ratio (bd_Ratio T) .nil pass0 (pa_cons (pv 11) (pa_cons pe_int pa_nil))) (nomark _)) (pw_or1 (pt_cmpR (oNotEqqq T (hr.mono (by decide))) (pe_methK (pv 5) T.cl_Form T.me_Form_at (ok_Form_at T) (hr.mono (by decide)) (kb_Form_at T) pass0 (pk_cons (pv 10) pk_nil)) (pe_make T.mk_Ratio (ok_Ratio_init T) (hr.mono (by decide)) (by rfl) T.m_Ratio (bd_Ratio T) .nil pass0 (pa_cons (pv 11) (pa_cons pe_int pa_nil))) (nomark _))))) (pss_one (ps_ret pe_bl)) pss_nil)))))))))))))))))))
      (pss_one (ps_ret (pe_and (pe_cmpR (oEqgg T (hr.mono (by decide))) (pe_make0 T.mk_Form (ok_Form_init T) (hr.mono (by decide)) (by rfl) T.m_Form bd0 vd0 pass0) (pe_make T.mk_Form (ok_Form_init T) (hr.mono (by decide)) (by rfl) T.m_Form (bd_Form T) .nil pass0 (pa_cons pe_int (pa_cons (pe_tup pa_nil) pa_nil))) (nomark _)) (pe_and (pe_cmpR (oNotEqgg T (hr.mono (by decide))) (pe_make T.mk_Form (ok_Form_init T) (hr.mono (by decide)) (by rfl) T.m_Form bd1 vd1 pass0 (pa_cons pe_int pa_nil)) (pe_make T.mk_Form (ok_Form_init T) (hr.mono (by decide)) (by rfl) T.m_Form bd1 vd1 pass0 (pa_cons pe_int pa_nil)) (nomark _)) (pe_one (pe_not (pe_cmpR (oEqgi T (hr.mono (by decide))) (pe_make T.mk_Form (ok_Form_init T) (hr.mono (by decide)) (by rfl) T.m_Form bd1 vd1 pass0 (pa_cons pe_int pa_nil)) pe_int (nomark _))))))))), ?_⟩
    walk_at "r"
    refine ⟨5, rfl, by decide, by decide, ?_⟩
    refine for_range (lo := 0) (n := 5) (fun i σ' H' => Kp b H H' ∧ ∃ v1 v2 v3 v4 v5 v6 v7 v8 v9 v10 v11 v12 v13 : Option V, σ' = [some (.ref b), v1, v2, v3, v4, v5, v6, v7, v8, v9, v10, v11, v12, v13]) ⟨.refl hb, _, _, _, _, _, _, _, _, _, _, _, _, _, rfl⟩ ?_ ?_
    · rintro i σ' H0 hi ⟨k0, v1, v2, v3, v4, v5, v6, v7, v8, v9, v10, v11, v12, v13, rfl⟩
      walk_at "r"
      refine drawn_leaf k0.bag' fun t1 D1 c1 kvs1 f1 H1 n1 nb1 ht1 hD1 dv1 bs1 hc1 k1 => ?_
      have k01 := k0.trans k1
      have d1 : Dn b H1 t1 c1 D1 kvs1 f1 := ⟨ht1, hD1, nb1, dv1, bs1, hc1⟩
      walk_at "r"
      refine drawn_leaf k01.bag' fun t2 D2 c2 kvs2 f2 H2 n2 nb2 ht2 hD2 dv2 bs2 hc2 k2 => ?_
      have k02 := k01.trans k2
      have d2 : Dn b H2 t2 c2 D2 kvs2 f2 := ⟨ht2, hD2, nb2, dv2, bs2, hc2⟩
      have d1 := d1.kp k2
      walk_at "r"
      refine w_newL (by show 5 ≤ 100000; decide) fun l3 H3 n3 e3 h3 => ?_
      have k03 := k02.same e3
      walk_at "r"
      refine one_leaf k03.bag' h3 (bag_ne k02.bag' n3) (by show 0 < 5; decide) (by show 5 < 1000; decide) fun v H4 hv k4 => ?_
      have k04 := k03.trans k4
      obtain ⟨z, rfl, hz⟩ : ∃ z : Int, v = .int z ∧ z.natAbs ≤ 10 ^ 6 := by
        simp only [List.mem_cons, List.not_mem_nil, or_false] at hv
        rcases hv with rfl | rfl | rfl | rfl | rfl <;> exact ⟨_, rfl, by first | decide | omega⟩
      have d1 := (d1.same e3).kp k4
      have d2 := (d2.same e3).kp k4
      walk_at "r"
      refine draw_leaf k04.bag' (by decide) (by decide) fun r5 H5 _ _ k5 => ?_
      have k05 := k04.trans k5
      have d1 := d1.kp k5
      have d2 := d2.kp k5
      refine' key (fun t H' => Kp b H H' ∧ Dn b H' t1 c1 D1 kvs1 f1 ∧ ∃ c D kvs f, Dn b H' t c D kvs f) (fun hR => ?_) ?_
      rotate_left
      · skip
        walk_at "r"
        refine w_iteD (fun q => ?_) (fun q => ?_)
        · walk_at "r"
          refine ix0_leaf d2.1 ?_
          walk_at "r"
          intro D6 n6
          have e6 := w_new (o := .dK []) n6
          have h6 : upd H5 D6 (.dK []) D6 = some (.dK []) := upd_same
          generalize upd H5 D6 (.dK []) = H6 at e6 h6 ⊢
          have d1 := d1.same e6
          walk_at "r"
          refine ix1_leaf d1.1 ?_
          walk_at "r"
          refine added_leaf h6 Dv.nil d1.2.1 d1.2.2.2.1 (by decide) fun D7 kvs7 H7 n7 e7 h7 dv7 => ?_
          have k07 := (k05.same e6).same e7
          have nb7 := bag_ne (k05.same e6).bag' n7
          walk_at "r"
          refine w_newT (by show 2 ≤ 100000; decide) fun t8 H8 n8 e8 h8 => ?_
          refine w_gn ?_
          refine hR t8 H8 ⟨k07.same e8, (d1.same e7).same e8, c2, D7, kvs7, _, h8, e8 _ _ h7, nb7, dv7, fun s => ?_, d2.2.2.2.2.2⟩
          have := d1.2.2.2.2.1 s
          show (0 + (0 - 1) * f1 s).natAbs ≤ _
          omega
        · refine w_next ?_
          exact hR t2 H5 ⟨k05, d1, _, _, _, _, d2⟩
      · rintro t H6 ⟨k06, d1, c, D, kvs, f, d2⟩
        obtain ⟨a1, a2, a3, a4, a5, a6⟩ := id d1
        obtain ⟨b1, b2, b3, b4, b5, b6⟩ := id d2
        walk_at "r"
        try (refine ix0_leaf a1 ?_; walk_at "r")
        try (refine ix1_leaf a1 ?_; walk_at "r")
        refine pairs_leaf a2 a4 fun u7 H7 e7 p7 => ?_
        walk_at "r"
        refine mkF_leaf p7 (cano_good (bd_one a5)) fun m8 H8 n8 e8 f8 => ?_
        have e68 := e7.trans e8
        walk_at "r"
        try (refine ix1_leaf (e68 _ _ b1) ?_; walk_at "r")
        refine pairs_leaf (e68 _ _ b2) b4 fun u9 H9 e9 p9 => ?_
        have e69 := e68.trans e9
        walk_at "r"
        try (refine ix0_leaf (e69 _ _ b1) ?_; walk_at "r")
        refine mkk_leaf p9 (cano_good (bd_one b5)) fun m10 H10 n10 e10 f10 => ?_
        have e610 := e69.trans e10
        have f8' := f8.same (e9.trans e10)
        walk_at "r"
        refine addF_leaf f8' f10 (by have := bd_add a5 b5 1 (.inl rfl); intro s hs; have := this s hs; simpa using this) fun m11 H11 n11 e11 f11 => ?_
        walk_at "r"
        refine subF_leaf (f8'.same e11) (f10.same e11) (by omega) (bd_of b5 (-1) (by decide)) (bd_add a5 b5 (-1) (.inr rfl)) fun m12 H12 n12 e12 f12 => ?_
        walk_at "r"
        refine mulF_leaf (f8'.same (e11.trans e12)) (by omega) (by omega) (bd_of a5 z (by omega)) fun m13 H13 n13 e13 f13 => ?_
        have e1013 := (e11.trans e12).trans e13
        walk_at "r"
        refine w_newL (by show 4 ≤ 100000; decide) fun l14 H14 n14 e14 h14 => ?_
        have e614 := (e610.trans e1013).trans e14
        walk_at "r"
        refine lcW_leaf (C := a.C_Form) (ms := [m8, m11, m12, m13]) (L := [(c1, f1), (c1 + c, fun s => f1 s + f s), (c1 + c * -1, fun s => f1 s + f s * -1), (c1 * z, fun s => f1 s * z)]) h14 ⟨rfl, fun i m u h1 h2 => ?_⟩ (by show 4 ≤ 10; decide) (fun _ => rfl) (fun m u H' fr Q' kq => ?_) (fun D15 ls15 H15 n15 e15 h15 hn15 hs15 => ?_)
        · match i, h1, h2 with
          | 0, h1, h2 => cases h1; cases h2; exact f8'.same (e1013.trans e14)
          | 1, h1, h2 => cases h1; cases h2; exact f11.same ((e12.trans e13).trans e14)
          | 2, h1, h2 => cases h1; cases h2; exact f12.same (e13.trans e14)
          | 3, h1, h2 => cases h1; cases h2; exact f13.same e14
        · walk_at "r"
          exact shown_leaf fr kq
        have e1015 := (e1013.trans e14).trans e15
        have e615 := e610.trans e1015
        walk_at "r"
        refine negF_leaf (f8'.same e1015) (by omega) (bd_of a5 (-1) (by decide)) fun m16 H16 n16 e16 f16 => ?_
        walk_at "r"
        refine addI_leaf (f8'.same (e1015.trans e16)) fun m17 H17 n17 e17 f17 => ?_
        walk_at "r"
        refine subI_leaf (f8'.same ((e1015.trans e16).trans e17)) fun m18 H18 n18 e18 f18 => ?_
        walk_at "r"
        refine w_newL (by show 3 ≤ 100000; decide) fun l19 H19 n19 e19 h19 => ?_
        walk_at "r"
        refine lcW_leaf (C := a.C_Form) (ms := [m16, m17, m18]) (L := [(c1 * -1, fun s => f1 s * -1), (c1 + z, f1), (c1 + -z, f1)]) h19 ⟨rfl, fun i m u h1 h2 => ?_⟩ (by show 3 ≤ 10; decide) (fun _ => rfl) (fun m u H' fr Q' kq => ?_) (fun D20 ls20 H20 n20 e20 h20 hn20 hs20 => ?_)
        · match i, h1, h2 with
          | 0, h1, h2 => cases h1; cases h2; exact f16.same ((e17.trans e18).trans e19)
          | 1, h1, h2 => cases h1; cases h2; exact f17.same (e18.trans e19)
          | 2, h1, h2 => cases h1; cases h2; exact f18.same e19
        · walk_at "r"
          exact shown_leaf fr kq
        have e1520 := (((e16.trans e17).trans e18).trans e19).trans e20
        walk_at "r"
        refine ⟨D15, D20, _, _, rfl, rfl, e1520 _ _ h15, h20, by rw [List.length_map, List.length_map, hn15, hn20]; show 7 ≤ sizeLine; decide, fun F21 nF21 => ?_⟩
        have e21 := w_new (o := .lst (ls15.map V.ref ++ ls20.map V.ref)) nF21
        have h21 : upd H20 F21 (.lst (ls15.map V.ref ++ ls20.map V.ref)) F21 = some (.lst ((ls15 ++ ls20).map V.ref)) := by rw [upd_same, List.map_append]
        generalize upd H20 F21 (.lst (ls15.map V.ref ++ ls20.map V.ref)) = H21 at e21 h21 ⊢
        have s21 : (ls15 ++ ls20).length = 7 ∧ ∀ (i : Nat) (q : Addr) (u : Int × (Str → Int)), (ls15 ++ ls20)[i]? = some q → ([(c1, f1), (c1 + c, fun s => f1 s + f s), (c1 + c * -1, fun s => f1 s + f s * -1), (c1 * z, fun s => f1 s * z), (c1 * -1, fun s => f1 s * -1), (c1 + z, f1), (c1 + -z, f1)] : List (Int × (Str → Int)))[i]? = some u → Shw K H21 q u.1 (cano u.2) := by
          refine ⟨by rw [List.length_append, hn15, hn20]; rfl, fun i q u hq hu => ?_⟩
          by_cases ci : i < ls15.length
          · rw [List.getElem?_append_left ci] at hq
            rw [hn15] at ci
            refine (hs15 i q u hq ?_).same (e1520.trans e21)
            match i, ci with
            | 0, _ => exact hu
            | 1, _ => exact hu
            | 2, _ => exact hu
            | 3, _ => exact hu
          · rw [List.getElem?_append_right (by omega), hn15] at hq
            have c4 : 4 ≤ i := by rw [hn15] at ci; exact Nat.le_of_not_lt ci
            obtain ⟨j, rfl⟩ : ∃ j, i = j + 4 := ⟨i - 4, by omega⟩
            refine (hs20 j q u (by simpa using hq) ?_).same e21
            have lj : j + 4 < 7 := (List.getElem?_eq_some_iff.mp hu).1
            match j, lj with
            | 0, _ => exact hu
            | 1, _ => exact hu
            | 2, _ => exact hu
        have e621 := (e615.trans e1520).trans e21
        have a1' := e621 _ _ a1
        have b1' := e621 _ _ b1
        walk_at "r"
        try (refine ix0_leaf a1' ?_; walk_at "r")
        try (refine ix1_leaf a1' ?_; walk_at "r")
        refine due_leaf (e621 _ _ a2) a4 fun l22 H22 e22 s22 => ?_
        have e622 := e621.trans e22
        walk_at "r"
        refine w_newL (by show 1 ≤ 100000; decide) fun l23 H23 n23 e23 h23 => ?_
        have du := Du.one h23 (s22.same e23)
        have e623 := e622.trans e23
        have a1' := e623 _ _ a1
        have b1' := e623 _ _ b1
        have a2' := e623 _ _ a2
        have b2' := e623 _ _ b2
        walk_at "r"
        refine ⟨.inl ⟨rfl, _, SqL.of h23⟩, ?_⟩
        walk_at "r"
        try (refine ix0_leaf a1' ?_; walk_at "r")
        try (refine ix0_leaf b1' ?_; walk_at "r")
        try (refine ix1_leaf a1' ?_; walk_at "r")
        try (refine ix1_leaf b1' ?_; walk_at "r")
        refine added_leaf a2' a4 b2' b4 (by decide) fun D24 kvs24 H24 n24 e24 h24 dv24 => ?_
        walk_at "r"
        refine due_leaf h24 dv24 fun l25 H25 e25 s25 => ?_
        have e2325 := e24.trans e25
        have du := du.same e2325
        walk_at "r"
        refine w_app du.at_ (by show 1 ≤ 1000; decide) fun H26 g26 => ?_
        have du := du.snoc s25 g26
        have e2226 : Same H22 H26 := fun x o h => g26.keep x o (ne_of_none h n23) ((e23.trans e2325) x o h)
        have e626 := e622.trans e2226
        have a1' := e626 _ _ a1
        have b1' := e626 _ _ b1
        have a2' := e626 _ _ a2
        have b2' := e626 _ _ b2
        walk_at "r"
        refine added_leaf a2' a4 b2' b4 (by decide) fun D27 kvs27 H27 n27 e27 h27 dv27 => ?_
        walk_at "r"
        refine due_leaf h27 dv27 fun l28 H28 e28 s28 => ?_
        walk_at "r"
        refine w_newL (by show 1 ≤ 100000; decide) fun l29 H29 n29 e29 h29 => ?_
        have e2629 := (e27.trans e28).trans e29
        have du := du.same e2629
        refine ⟨l23, l29, _, _, rfl, rfl, du.at_, h29, by show 3 ≤ sizeLine; decide, fun l30 n30 => ?_⟩
        have e30 := w_new (o := .lst ([l22, l25].map V.ref ++ [V.ref l28])) n30
        have h30 : upd H29 l30 (.lst ([l22, l25].map V.ref ++ [V.ref l28])) l30 = some (.lst ([l22, l25].map V.ref ++ [V.ref l28])) := upd_same
        have nl30 : H28 l30 = none := none_of e29 n30
        refine' goGen (fun H30 => Same H29 H30 ∧ H30 l30 = some (.lst ([l22, l25].map V.ref ++ [V.ref l28]))) ⟨e30, h30⟩ fun H30 ⟨e30, h30⟩ => ?_
        have du := du.cat (s28.same e29) e30 h30
        have e629 := e626.trans e2629
        have e630 := e629.trans e30
        have a1' := e630 _ _ a1
        have a2' := e630 _ _ a2
        walk_at "r"
        refine ⟨.inl ⟨rfl, _, SqL.of du.at_⟩, ?_⟩
        walk_at "r"
        intro D31 n31
        have e31 := w_new (o := .dK []) n31
        have h31 : upd H30 D31 (.dK []) D31 = some (.dK []) := upd_same
        generalize upd H30 D31 (.dK []) = H31 at e31 h31 ⊢
        have a1'' := e31 _ _ a1'
        have a2'' := e31 _ _ a2'
        walk_at "r"
        refine added_leaf h31 Dv.nil a2'' a4 (by omega) fun D32 kvs32 H32 n32 e32 h32 dv32 => ?_
        walk_at "r"
        refine due_leaf h32 dv32 fun l33 H33 e33 s33 => ?_
        have e3033 := (e31.trans e32).trans e33
        have du := du.same e3033
        walk_at "r"
        refine w_app du.at_ (by show 3 ≤ 1000; decide) fun H34 g34 => ?_
        have du := du.snoc s33 g34
        have e2934 : Same H29 H34 := fun x o h => g34.keep x o (ne_of_none h n30) ((e30.trans e3033) x o h)
        have e634 := e629.trans e2934
        have a1' := e634 _ _ a1
        have a2' := e634 _ _ a2
        walk_at "r"
        refine ⟨.inl ⟨rfl, _, SqL.of du.at_⟩, ?_⟩
        walk_at "r"
        intro D35 n35
        have e35 := w_new (o := .dK []) n35
        have h35 : upd H34 D35 (.dK []) D35 = some (.dK []) := upd_same
        generalize upd H34 D35 (.dK []) = H35 at e35 h35 ⊢
        have a1'' := e35 _ _ a1'
        have a2'' := e35 _ _ a2'
        walk_at "r"
        refine added_leaf h35 Dv.nil a2'' a4 (by decide) fun D36 kvs36 H36 n36 e36 h36 dv36 => ?_
        walk_at "r"
        refine due_leaf h36 dv36 fun l37 H37 e37 s37 => ?_
        have e3437 := (e35.trans e36).trans e37
        have du := du.same e3437
        walk_at "r"
        refine w_app du.at_ (by show 4 ≤ 1000; decide) fun H38 g38 => ?_
        have du := du.snoc s37 g38
        have e2938 : Same H29 H38 := fun x o h => g38.keep x o (ne_of_none h n30) ((e2934.trans e3437) x o h)
        have e638 := e629.trans e2938
        have a1' := e638 _ _ a1
        have a2' := e638 _ _ a2
        walk_at "r"
        refine due_leaf a2' a4 fun l39 H39 e39 s39 => ?_
        have a1'' := e39 _ _ a1'
        walk_at "r"
        refine due_leaf (e39 _ _ a2') a4 fun l40 H40 e40 s40 => ?_
        walk_at "r"
        refine w_newL (by show 2 ≤ 100000; decide) fun l41 H41 n41 e41 h41 => ?_
        have e3841 := (e39.trans e40).trans e41
        have du := du.same e3841
        refine ⟨l30, l41, _, _, rfl, rfl, du.at_, h41, by show 7 ≤ sizeLine; decide, fun l42 n42 => ?_⟩
        have e2141 : Same H21 H41 := (((e22.trans e2226).trans e2629).trans e2938).trans e3841
        have sd := sh_snoc (sh_snoc_len du.len) (sh_snoc du.len du.sh ((s39.same e40).same e41)) (s40.same e41)
        refine ne_all (L := [(c1, f1), (c1 + c, fun s => f1 s + f s), (c1 + c * -1, fun s => f1 s + f s * -1), (c1 * z, fun s => f1 s * z), (c1 * -1, fun s => f1 s * -1), (c1 + z, f1), (c1 + -z, f1)]) n42 (e2141 _ _ h21) (ds := [l22, l25] ++ [l28] ++ [l33] ++ [l37] ++ [l39] ++ [l40]) rfl s21.1 rfl (fun i q u a b => (s21.2 i q u a b).same e2141) sd (fun u hu => ?_) ?_ fun H43 e43 => ?_
        · simp only [List.mem_cons, List.not_mem_nil, or_false] at hu
          rcases hu with rfl | rfl | rfl | rfl | rfl | rfl | rfl
          · exact bd_one a5
          · have := bd_add a5 b5 1 (.inl rfl)
            intro s hs
            have := this s hs
            simpa using this
          · exact bd_add a5 b5 (-1) (.inr rfl)
          · exact bd_of a5 z (by omega)
          · exact bd_of a5 (-1) (by decide)
          · exact bd_one a5
          · exact bd_one a5
        · have q1 : (fun s => f1 s + 1 * f s) = fun s => f1 s + f s := funext fun s => by omega
          have q2 : (fun s => f1 s + (0 - 1) * f s) = fun s => f1 s + f s * -1 := funext fun s => by omega
          have q3 : (fun s => 0 + z * f1 s) = fun s => f1 s * z := funext fun s => by rw [Int.zero_add, Int.mul_comm]
          have q4 : (fun s => 0 + (0 - 1) * f1 s) = fun s => f1 s * -1 := funext fun s => by omega
          rw [q1, q2, q3, q4, show c1 - c = c1 + c * -1 by omega, show 0 - c1 = c1 * -1 by omega, show c1 - z = c1 + -z by omega]
          rfl
        · refine ⟨_, rfl, ?_⟩
          rw [if_neg (by decide)]
          walk_at "r"
          have e643 : Same H6 H43 := (e638.trans e3841).trans e43
          have a1x := e643 _ _ a1
          have b1x := e643 _ _ b1
          try (refine ix0_leaf a1x ?_; walk_at "r")
          try (refine ix1_leaf a1x ?_; walk_at "r")
          refine due_leaf (e643 _ _ a2) a4 fun l44 H44 e44 s44 => ?_
          have b1y := e44 _ _ b1x
          walk_at "r"
          try (refine ix0_leaf b1y ?_; walk_at "r")
          try (refine ix1_leaf b1y ?_; walk_at "r")
          refine due_leaf (e44 _ _ (e643 _ _ b2)) b4 fun l45 H45 e45 s45 => ?_
          walk_at "r"
          refine ⟨_, _, dp_shw (s44.same e45), dp_shw s45, shp (lay_sh c1 (bd_one a5)), shp (lay_sh c (bd_one b5)), ?_⟩
          rw [eqv_sh]
          walk_at "r"
          have e1045 : Same H10 H45 := ((((((e1015.trans e1520).trans e21).trans e2141).trans e43).trans e44)).trans e45
          have f8x := f8'.same e1045
          refine eqF_leaf T f8x (f10.same e1045) ?_
          walk_at "r"
          refine w_iteN (fun q => absurd rfl q) fun _ => ?_
          walk_at "r"
          have e645 : Same H6 H45 := (e643.trans e44).trans e45
          have a1z := e645 _ _ a1
          have a2z := e645 _ _ a2
          try (refine ix0_leaf a1z ?_; walk_at "r")
          refine eqFI_leaf T f8x ?_
          refine ⟨false, rfl, iteF ?_⟩
          walk_at "r"
          intro D46 n46
          have e46 := w_new (o := .dK []) n46
          have h46 : upd H45 D46 (.dK []) D46 = some (.dK []) := upd_same
          generalize upd H45 D46 (.dK []) = H46 at e46 h46 ⊢
          have e646 := e645.trans e46
          have k46 := k06.same e646
          have nb46 : D46 ≠ b := bag_ne (k06.same e645).bag' n46
          walk_at "r"
          refine ⟨"abcxyz", rfl, for_str (fun j σ' G => Kp b H45 G ∧ (∃ kvs v, G D46 = some (.dK kvs) ∧ LnP a.C_Ratio G kvs v j ∧ (∀ s, (v s).natAbs ≤ 10 ^ 6) ∧ σ'[11]? = some (some (.int (6 * c1 + ((lts.take j).map fun r => v r * f1 r).sum)))) ∧
            ∃ v1 v3 v4 v6 v7 v8 v9 v11 v12 v13 : Option V, σ' = [some (.ref b), v1, some (.ref t1), v3, v4, some (.ref m8), v6, v7, v8, v9, some (.ref D46), v11, v12, v13]) ⟨.of (k06.same e645).bag' e46, ⟨[], fun _ => 0, h46, .nil, fun _ => Nat.zero_le _, by rw [List.take_zero]; exact congrArg (fun q => some (some (V.int q))) (Int.add_zero _).symm⟩, _, _, _, _, _, _, _, _, _, _, rfl⟩ ?_ ?_⟩
          · rintro j ch σ' G hj ⟨kg, ⟨kvs, v, hG, ln, bv, hw⟩, w1, w3, w4, w6, w7, w8, w9, w11, w12, w13, rfl⟩
            cases hw
            have hs := lts_at hj
            walk_at "r"
            refine draw_leaf kg.bag' (by decide) (by decide) fun s1 G1 s10 s11 k1 => ?_
            have s11' : s1 < 500 := s11
            have kg1 := kg.trans k1
            walk_at "r"
            refine w_newL (by show 3 ≤ 100000; decide) fun l2 G2 n2 e2 h2 => ?_
            have kg2 := kg1.same e2
            walk_at "r"
            refine one_leaf kg2.bag' h2 (bag_ne kg1.bag' n2) (by show 0 < 3; decide) (by show 3 < 1000; decide) fun y G3 hy k3 => ?_
            have kg3 := kg2.trans k3
            obtain ⟨y, rfl, y0, y1⟩ : ∃ z : Int, y = .int z ∧ 0 ≤ z ∧ z < 500 := by
              simp only [List.mem_cons, List.not_mem_nil, or_false] at hy
              rcases hy with rfl | rfl | rfl <;> exact ⟨_, rfl, by omega, by omega⟩
            have hG3 : G3 D46 = some (.dK kvs) := k3.keep _ _ nb46 (e2 _ _ (k1.keep _ _ nb46 hG))
            have ln3 := ((ln.kp k1).same e2).kp k3
            walk_at "r"
            refine w_cut (fun x G4 => ∃ t b, Frn a.C_Ratio G4 x t b ∧ 0 ≤ t ∧ Nrm y 6 t b ∧ Same G3 G4) (fun Q' all => ?_) (fun x G4 ⟨t4, b4', f4, t40, nr4, e4⟩ => ?_)
            · refine w_tIf ?_
              walk_at "r"
              refine w_iteD (fun q => ?_) (fun q => ?_)
              · have q' : y % 6 = 0 := V.int.inj q
                walk_at "r"
                exact all _ _ ⟨y / 6, 1, .inl ⟨rfl, rfl⟩, by omega, sixth q', w_same _⟩
              · walk_at "r"
                refine mk_leaf (by decide) (Sz.small (by decide)) fun p5 G5 x5 y5 n5 e5 r5 nr5 => ?_
                refine all _ _ ⟨x5, y5, .inr ⟨p5, rfl, r5⟩, ?_, nr5, e5⟩
                have q5 := nr5.eq
                have q6 := nr5.pos
                have q7 : 0 ≤ y * y5 := Int.mul_nonneg y0 (Int.le_of_lt q6)
                omega
            walk_at "r"
            have hG4 := e4 _ _ hG3
            have ln4 := ln3.same e4
            refine ⟨D46, _, rfl, DPut.k (k := Sum.inr ⟨#[ch]⟩) hG4 (Nat.lt_of_le_of_lt ln4.len (Nat.lt_of_lt_of_le (show j < 7 by have := (List.getElem?_eq_some_iff.mp hs).1; exact Nat.lt_succ_of_lt this) (by decide))), ?_⟩
            refine goGen (fun G5 => Kp b H45 G5 ∧ G5 D46 = some (.dK (putK kvs (Sum.inr ⟨#[ch]⟩) x)) ∧ LnP a.C_Ratio G5 (putK kvs (Sum.inr ⟨#[ch]⟩) x) (fun r => if r = ⟨#[ch]⟩ then y else v r) (j + 1)) ⟨RK4.Kp.putNew (kg3.same e4) n46 nb46, upd_same, (ln4.put hs f4 t40 nr4).sameX fun p C dx fs h => by rw [upd_ne (ne_of h hG4 (by intro z; cases z))]; exact h⟩ fun G5 ⟨kg5, hG5, ln5⟩ => ?_
            have a1g := kg5.tup a1z
            have a2g := kg5.keep _ _ a3 a2z
            walk_at "r"
            unfold tDGet2
            walk_at "r"
            refine ⟨D1, rfl, .inl ⟨_, .inl a2g⟩, ?_⟩
            walk_at "r"
            refine ⟨_, DGet.k (k := Sum.inr ⟨#[ch]⟩) a2g, ?_⟩
            rw [a4.get]
            walk_at "r"
            refine ⟨kg5, ⟨_, _, hG5, ln5, fun s => ?_, ?_⟩, _, _, _, _, _, _, _, _, _, _, rfl⟩
            · show (if s = ⟨#[ch]⟩ then y else v s).natAbs ≤ _
              split
              · omega
              · exact bv s
            · rw [wd_put hs, ← Int.add_assoc]
              rfl
          · rintro σ' G ⟨kg, ⟨kvs, v, hG, ln, bv, hw⟩, w1, w3, w4, w6, w7, w8, w9, w11, w12, w13, rfl⟩
            have hw' : w11 = some (.int (6 * c1 + wsum (cano f1) v)) := by
              rw [wsum_cano]
              exact Option.some.inj hw
            subst hw'
            have fG := f8x.kp kg
            walk_at "r"
            refine nmr_ml fG (by decide +kernel) (by decide +kernel) (by decide +kernel) ?_
            walk_at "r"
            refine ⟨m8, D46, c1, f1, v, kvs, rfl, fG, hG, ln.all, by omega, fun s _ => bv s, fun q7 G7 x7 y7 e7 r7 n7 => ?_⟩
            walk_at "r"
            refine mk_leaf (by decide) (Sz.small (by decide)) fun p8 G8 x8 y8 m8' e8 r8 n8 => ?_
            refine neq_leaf (r7.same e8) r8 fun k' G9 e9 hk => ?_
            obtain rfl : k' = true := hk.mpr (n7.uniq n8 (by decide) (by decide) rfl)
            refine ⟨false, rfl, iteF ?_⟩
            have e79 := (e7.trans e8).trans e9
            have fG9 := fG.same e79
            walk_at "r"
            refine nmr_ml fG9 (by decide +kernel) (by decide +kernel) (by decide +kernel) ?_
            walk_at "r"
            refine ⟨rfl, m8, D46, c1, f1, v, kvs, rfl, fG9, e79 _ _ hG, ln.all.same e79, by omega, fun s _ => bv s, fun q10 G10 x10 y10 e10 r10 n10 => ?_⟩
            walk_at "r"
            refine mk_leaf (by decide) (Sz.small (by decide)) fun p11 G11 x11 y11 m11' e11 r11 n11' => ?_
            refine neq_leaf (r10.same e11) r11 fun k' G12 e12' hk => ?_
            obtain rfl : k' = true := hk.mpr (n10.uniq n11' (by decide) (by decide) rfl)
            refine ⟨false, rfl, iteF ?_⟩
            walk_at "r"
            exact ⟨((((k06.same e645).trans kg).same e79).same ((e10.trans e11).trans e12')), _, _, _, _, _, _, _, _, _, _, _, _, _, rfl⟩
    · rintro σ' H0 ⟨k0, v1, v2, v3, v4, v5, v6, v7, v8, v9, v10, v11, v12, v13, rfl⟩
      walk_at "r"
      refine mkF_leaf (ps := []) ⟨[], T.e0 _, rfl, fun i q p h => by simp at h⟩ good0 fun p1 H1 _ e1 f1 => ?_
      walk_at "r"
      refine w_newT (Nat.zero_le _) fun u2 H2 _ e2 h2 => ?_
      walk_at "r"
      refine mkF_leaf (ps := []) ⟨[], SqT.of h2, rfl, fun i q p h => by simp at h⟩ good0 fun p3 H3 _ e3 f3 => ?_
      walk_at "r"
      refine eqF_leaf T (f1.same (e2.trans e3)) f3 ?_
      refine ⟨true, rfl, iteT ?_⟩
      walk_at "r"
      refine mkF_leaf (ps := []) ⟨[], T.e0 _, rfl, fun i q p h => by simp at h⟩ good0 fun p4 H4 _ e4 f4 => ?_
      walk_at "r"
      refine mkF_leaf (ps := []) ⟨[], T.e0 _, rfl, fun i q p h => by simp at h⟩ good0 fun p5 H5 _ e5 f5 => ?_
      walk_at "r"
      refine neF_leaf (f4.same e5) f5 ?_
      refine ⟨true, rfl, iteT ?_⟩
      walk_at "r"
      refine mkF_leaf (ps := []) ⟨[], T.e0 _, rfl, fun i q p h => by simp at h⟩ good0 fun p6 H6 _ e6 f6 => ?_
      walk_at "r"
      refine eqFI_leaf T f6 ?_
      walk_at "r"
      exact k _ (k0.same (((((e1.trans e2).trans e3).trans e4).trans e5).trans e6))
end
end RK4


namespace RK4
open PySem PySem.Spec L2 RK RZ StX
section
variable {P : Program} {w : World} {K : PySem.W.Frag} {mg : Str → Option Value} {base : Heap} {a : Ad}
theorem right_leaf {H : Hp} {Q : VK} {E : XK} {b : Addr} (h : Bag H b) (k : ∀ H', Kp b H H' → Q (.bl true) H') : spRight [.ref b] H Q E := ⟨b, rfl, h, k⟩
theorem seq_same {H H' : Hp} {p : Addr} {xs : List V} (e : Same H H') (h : SqL K H p xs) : SqL K H' p xs := by
  rcases h with (h | ⟨o, h⟩) | h
  · exact .inl (.inl (e _ _ h))
  · exact .inl (.inr ⟨o, e _ _ h⟩)
  · exact .inr h
def spLaw (K : PySem.W.Frag) : Sp := fun vs H Q _ => ∃ (c : Addr) (ns : List Int), vs = [.ref c] ∧ SqL K H c (ns.map V.int) ∧ ns.length ≤ 63 ∧ ∀ H', Q (.bl true) H'
theorem ok_law (T : Txt K mg a) : FnOk P w K mg base CX0 40 a.f_law a.d_law ["_law_cells"] (spLaw K) := by
  refine T.F_law.ok sc_law (fun vs H Q E h => ?_) (fun cdv A outer s H vs Q E hr h => ?_)
  · obtain ⟨c, ns, rfl, _⟩ := h
    rfl
  · obtain ⟨c, ns, rfl, hc, hl, k⟩ := h
    refine ⟨_, (pss_one (ps_ret (pe_callB (cr_all rfl) (by rfl) T.z_all (by decide +kernel) (pa_cons (pe_lc (own := [("_law_k", 1)]) (g := gName 1) (tt := tYes) rfl sc_law.nd (pi_range1 (by rfl) T.z_range (pa_cons (pe_callB (cr_max2 rfl) (by rfl) T.z_max (by decide +kernel) (pa_cons pe_int (pa_cons (pe_callB (cr_min2 rfl) (by rfl) T.z_min (by decide +kernel) (pa_cons (pe_callB cr_len (by rfl) T.z_len PySem.boot_len (pa_cons (pv 0) pa_nil)) (pa_cons pe_int pa_nil))) pa_nil))) pa_nil)) (blkOk_by (own := [("_law_k", 1)]) (N := ["_law_cells", "_law_k"]) (sc := defScope s_law) (by decide +kernel)) (fun _ _ _ _ _ => pg_name (i := 1) sc_law.nd rfl (Or.inl rfl)) (fun _ _ _ _ _ => pts_nil) (fun _ _ _ _ _ => by exact (pe_call (ok_right T) (hr.mono (by decide)) (by rfl) T.m_right T.F_right.kp T.b_right .nil pass0 (pa_cons (pe_call (ok_bag T) (hr.mono (by decide)) (by rfl) T.m_bag T.F_bag.kp T.b_bag .nil pass0 (pa_cons (pv 0) (pa_cons (pv 1) pa_nil))) pa_nil)))) pa_nil)))), ?_⟩
    walk_at "r"
    refine lc_rng (lo := 0) (n := (if (if (6 : Int) < ((ns.map V.int).length : Int) then (6 : Int) else ((ns.map V.int).length : Int)) > 2 then (if (6 : Int) < ((ns.map V.int).length : Int) then (6 : Int) else ((ns.map V.int).length : Int)) else 2).toNat) (fun i v _ => v = .bl true) (fun _ _ _ _ _ h => h) (by split <;> (try split) <;> omega) (fun R h => ?_) (fun _ => rfl) (fun i H' hi e' Q' kq => ?_) (fun D ys H8 _ e8 h8 hl8 hP => ?_)
    · show tCons _ _ _ _ _
      walk_at "r"
      refine w_lenL hc ?_
      walk_at "r"
      exact ⟨_, rfl, by split <;> (try split) <;> omega, by split <;> (try split) <;> omega, h⟩
    · walk_at "r"
      refine ⟨c, ns, i, by rw [Int.zero_add]; rfl, seq_same e' hc, by revert hi; split <;> (try split) <;> omega, fun b H8 hb e8 bag => ?_⟩
      walk_at "r"
      exact right_leaf bag fun H9 k9 => kq _ _ (fun x o hx => k9.keep _ _ (ne_of_none hx hb) (e8 _ _ hx)) rfl
    · walk_at "r"
      exact all_P h8 hP (k _)
end
end RK4

namespace RK4
open PySem PySem.Spec L2 RK
theorem walk {l : PySem.W.OpenLaw} {q : Program} {loose : List Str} {XP : (Str → Option Value) → Heap → Prop} {YP : World → Heap → Prop} {d : DefRec} {K : Params → PySem.W.Frag} (hn : l.most = some 63) (hdf : d.params.defaults = []) (hd : d.name = "law")
    (hY : ∀ (w : World) (h : Heap), YP w h → (K w.params).In h)
    (F : ∀ (w : World) (mg : Str → Option Value) (h : Heap), (K w.params).In h → h.Ns mainGlobals mg → ∃ a : Ad, Txt (K w.params) mg a) :
    PySem.W.WalkO q loose XP YP l.row.toRowW d [] (fun f vs => PySem.call f vs) :=
  L2.walk_of (n := 63) (k := 40) (x := "_law_cells") (CX := fun _ => CX0) (sp := fun w => spLaw (K w.params)) hn (by decide) hdf ⟨rfl, by decide, by decide⟩ hY (fun w mg fa h KX G hmg => by
    obtain ⟨a, T⟩ := F w mg h KX G
    rw [hd, T.m_law] at hmg
    cases hmg
    refine ⟨a.d_law, fun s u => ?_, fun base _ _ => ok_law T⟩
    obtain ⟨oc, od, kV, doc, pm, an, cdv, ct, osl, e, _, _⟩ := T.F_law.ex
    rw [e]
    exact .of_eq rfl) (fun _ _ a ns hl _ hS => ⟨a, ns, rfl, hS, hl, fun _ => rfl⟩) fun _ _ _ _ _ z => z
end RK4
open PySem PySem.W PyProof.Rows
set_option maxRecDepth 100000 in
set_option maxHeartbeats 0 in
theorem PySem.Challenge.cw_slackstrings_k04_forms_reckoned_holds : PySem.Challenge.rw_slackstrings_k04_forms_reckoned.Holds := by
  w_on; o_law; k_head; (case hw => w_witness2)
  k_fill
  refine RK4.walk (l := PySem.Challenge.rw_slackstrings_k04_forms_reckoned) rfl rfl rfl (fun w h Y => by first | exact PySem.W.kIn_of Y | exact PySem.W.km_in_of Y) ?F
  case F =>
    intro w mg h KX G
    refine' RK4.all_mk KX G ?aC_Ratio ?pg_Ratio ?hd_Ratio ?po_Ratio ?sa_Ratio ?mk_Ratio ?kc_Ratio ?aC_Form ?pg_Form ?hd_Form ?po_Form ?sa_Form ?mk_Form ?kc_Form ?a_is_whole ?l_is_whole ?c_is_whole ?k_is_whole ?a_is_small_letter ?l_is_small_letter ?c_is_small_letter ?k_is_small_letter ?a_Ratio_init ?i_Ratio_init ?l_Ratio_init ?c_Ratio_init ?k_Ratio_init ?t_Ratio_init ?a_Ratio_eq ?i_Ratio_eq ?l_Ratio_eq ?c_Ratio_eq ?k_Ratio_eq ?a_Ratio_add ?i_Ratio_add ?l_Ratio_add ?c_Ratio_add ?k_Ratio_add ?a_Ratio_radd ?i_Ratio_radd ?l_Ratio_radd ?c_Ratio_radd ?k_Ratio_radd ?a_Ratio_mul ?i_Ratio_mul ?l_Ratio_mul ?c_Ratio_mul ?k_Ratio_mul ?a_Ratio_rmul ?i_Ratio_rmul ?l_Ratio_rmul ?c_Ratio_rmul ?k_Ratio_rmul ?a_is_fraction ?l_is_fraction ?c_is_fraction ?k_is_fraction ?a_as_ratio ?l_as_ratio ?c_as_ratio ?k_as_ratio ?a_is_length ?l_is_length ?c_is_length ?k_is_length ?a_are_lengths_for ?l_are_lengths_for ?c_are_lengths_for ?k_are_lengths_for ?a_Form_init ?i_Form_init ?l_Form_init ?c_Form_init ?k_Form_init ?t_Form_init ?a_Form_eq ?i_Form_eq ?l_Form_eq ?c_Form_eq ?k_Form_eq ?a_Form_neg ?i_Form_neg ?l_Form_neg ?c_Form_neg ?k_Form_neg ?a_Form_add ?i_Form_add ?l_Form_add ?c_Form_add ?k_Form_add ?a_Form_sub ?i_Form_sub ?l_Form_sub ?c_Form_sub ?k_Form_sub ?a_Form_mul ?i_Form_mul ?l_Form_mul ?c_Form_mul ?k_Form_mul ?a_Form_at ?i_Form_at ?l_Form_at ?c_Form_at ?k_Form_at ?a_are_terms ?l_are_terms ?c_are_terms ?k_are_terms ?a_is_term ?l_is_term ?c_is_term ?k_is_term ?a_summed_terms ?l_summed_terms ?c_summed_terms ?k_summed_terms ?a_bag ?l_bag ?c_bag ?k_bag ?a_draw ?l_draw ?c_draw ?k_draw ?a_one ?l_one ?c_one ?k_one ?a_drawn ?l_drawn ?c_drawn ?k_drawn ?a_pairs ?l_pairs ?c_pairs ?k_pairs ?a_shown ?l_shown ?c_shown ?k_shown ?a_due ?l_due ?c_due ?k_due ?a_added ?l_added ?c_added ?k_added ?a_right ?l_right ?c_right ?k_right ?a_law ?l_law ?c_law ?k_law ?z_isinstance ?z_int ?z_bool ?z_len ?z_abs ?z_range ?z_all ?z_max ?z_min ?z_str ?z_tuple ?z_zip ?z_dict ?z_list ?z_sorted ?g_gcd ?h_nT ?h_nB ?h_iA ?h_iN ?h_iT ?h_iM ?h_kRI ?h_kRR ?h_kIR ?h_sf ?h_ne ?h_ob ?h_sRI ?h_sIR ?h_nfI ?h_nfR ?h_iAdd ?h_iRadd ?h_iSub ?h_iRsub ?h_iMul ?h_iRmul ?h_fC ?h_fT ?h_fN ?h_ff ?h_fIF ?h_fRA ?h_fRS ?h_fRM ?h_fA ?h_fM ?h_fFF ?h_fFI ?h_fIFk ?h_fne ?h_fob ?h_fFIs ?h_ffI ?h_ffF ?h_e0
    (case aC_Ratio => first | k_is | rfl)
    (case pg_Ratio => first | k_is | rfl)
    (case hd_Ratio => first | k_is | rfl)
    (case po_Ratio => first | k_is | rfl)
    (case sa_Ratio => first | k_is | rfl)
    (case mk_Ratio => first | k_is | rfl)
    (case kc_Ratio => first | k_is | rfl)
    (case aC_Form => first | k_is | rfl)
    (case pg_Form => first | k_is | rfl)
    (case hd_Form => first | k_is | rfl)
    (case po_Form => first | k_is | rfl)
    (case sa_Form => first | k_is | rfl)
    (case mk_Form => first | k_is | rfl)
    (case kc_Form => first | k_is | rfl)
    (case a_is_whole => first | k_is | rfl)
    (case l_is_whole => first | k_is | rfl)
    (case c_is_whole => first | k_is | rfl)
    (case k_is_whole => first | k_is | rfl)
    (case a_is_small_letter => first | k_is | rfl)
    (case l_is_small_letter => first | k_is | rfl)
    (case c_is_small_letter => first | k_is | rfl)
    (case k_is_small_letter => first | k_is | rfl)
    (case a_Ratio_init => first | k_is | rfl)
    (case i_Ratio_init => first | k_is | rfl)
    (case l_Ratio_init => first | k_is | rfl)
    (case c_Ratio_init => first | k_is | rfl)
    (case k_Ratio_init => first | k_is | rfl)
    (case t_Ratio_init => first | k_is | rfl)
    (case a_Ratio_eq => first | k_is | rfl)
    (case i_Ratio_eq => first | k_is | rfl)
    (case l_Ratio_eq => first | k_is | rfl)
    (case c_Ratio_eq => first | k_is | rfl)
    (case k_Ratio_eq => first | k_is | rfl)
    (case a_Ratio_add => first | k_is | rfl)
    (case i_Ratio_add => first | k_is | rfl)
    (case l_Ratio_add => first | k_is | rfl)
    (case c_Ratio_add => first | k_is | rfl)
    (case k_Ratio_add => first | k_is | rfl)
    (case a_Ratio_radd => first | k_is | rfl)
    (case i_Ratio_radd => first | k_is | rfl)
    (case l_Ratio_radd => first | k_is | rfl)
    (case c_Ratio_radd => first | k_is | rfl)
    (case k_Ratio_radd => first | k_is | rfl)
    (case a_Ratio_mul => first | k_is | rfl)
    (case i_Ratio_mul => first | k_is | rfl)
    (case l_Ratio_mul => first | k_is | rfl)
    (case c_Ratio_mul => first | k_is | rfl)
    (case k_Ratio_mul => first | k_is | rfl)
    (case a_Ratio_rmul => first | k_is | rfl)
    (case i_Ratio_rmul => first | k_is | rfl)
    (case l_Ratio_rmul => first | k_is | rfl)
    (case c_Ratio_rmul => first | k_is | rfl)
    (case k_Ratio_rmul => first | k_is | rfl)
    (case a_is_fraction => first | k_is | rfl)
    (case l_is_fraction => first | k_is | rfl)
    (case c_is_fraction => first | k_is | rfl)
    (case k_is_fraction => first | k_is | rfl)
    (case a_as_ratio => first | k_is | rfl)
    (case l_as_ratio => first | k_is | rfl)
    (case c_as_ratio => first | k_is | rfl)
    (case k_as_ratio => first | k_is | rfl)
    (case a_is_length => first | k_is | rfl)
    (case l_is_length => first | k_is | rfl)
    (case c_is_length => first | k_is | rfl)
    (case k_is_length => first | k_is | rfl)
    (case a_are_lengths_for => first | k_is | rfl)
    (case l_are_lengths_for => first | k_is | rfl)
    (case c_are_lengths_for => first | k_is | rfl)
    (case k_are_lengths_for => first | k_is | rfl)
    (case a_Form_init => first | k_is | rfl)
    (case i_Form_init => first | k_is | rfl)
    (case l_Form_init => first | k_is | rfl)
    (case c_Form_init => first | k_is | rfl)
    (case k_Form_init => first | k_is | rfl)
    (case t_Form_init => first | k_is | rfl)
    (case a_Form_eq => first | k_is | rfl)
    (case i_Form_eq => first | k_is | rfl)
    (case l_Form_eq => first | k_is | rfl)
    (case c_Form_eq => first | k_is | rfl)
    (case k_Form_eq => first | k_is | rfl)
    (case a_Form_neg => first | k_is | rfl)
    (case i_Form_neg => first | k_is | rfl)
    (case l_Form_neg => first | k_is | rfl)
    (case c_Form_neg => first | k_is | rfl)
    (case k_Form_neg => first | k_is | rfl)
    (case a_Form_add => first | k_is | rfl)
    (case i_Form_add => first | k_is | rfl)
    (case l_Form_add => first | k_is | rfl)
    (case c_Form_add => first | k_is | rfl)
    (case k_Form_add => first | k_is | rfl)
    (case a_Form_sub => first | k_is | rfl)
    (case i_Form_sub => first | k_is | rfl)
    (case l_Form_sub => first | k_is | rfl)
    (case c_Form_sub => first | k_is | rfl)
    (case k_Form_sub => first | k_is | rfl)
    (case a_Form_mul => first | k_is | rfl)
    (case i_Form_mul => first | k_is | rfl)
    (case l_Form_mul => first | k_is | rfl)
    (case c_Form_mul => first | k_is | rfl)
    (case k_Form_mul => first | k_is | rfl)
    (case a_Form_at => first | k_is | rfl)
    (case i_Form_at => first | k_is | rfl)
    (case l_Form_at => first | k_is | rfl)
    (case c_Form_at => first | k_is | rfl)
    (case k_Form_at => first | k_is | rfl)
    (case a_are_terms => first | k_is | rfl)
    (case l_are_terms => first | k_is | rfl)
    (case c_are_terms => first | k_is | rfl)
    (case k_are_terms => first | k_is | rfl)
    (case a_is_term => first | k_is | rfl)
    (case l_is_term => first | k_is | rfl)
    (case c_is_term => first | k_is | rfl)
    (case k_is_term => first | k_is | rfl)
    (case a_summed_terms => first | k_is | rfl)
    (case l_summed_terms => first | k_is | rfl)
    (case c_summed_terms => first | k_is | rfl)
    (case k_summed_terms => first | k_is | rfl)
    (case a_bag => first | k_is | rfl)
    (case l_bag => first | k_is | rfl)
    (case c_bag => first | k_is | rfl)
    (case k_bag => first | k_is | rfl)
    (case a_draw => first | k_is | rfl)
    (case l_draw => first | k_is | rfl)
    (case c_draw => first | k_is | rfl)
    (case k_draw => first | k_is | rfl)
    (case a_one => first | k_is | rfl)
    (case l_one => first | k_is | rfl)
    (case c_one => first | k_is | rfl)
    (case k_one => first | k_is | rfl)
    (case a_drawn => first | k_is | rfl)
    (case l_drawn => first | k_is | rfl)
    (case c_drawn => first | k_is | rfl)
    (case k_drawn => first | k_is | rfl)
    (case a_pairs => first | k_is | rfl)
    (case l_pairs => first | k_is | rfl)
    (case c_pairs => first | k_is | rfl)
    (case k_pairs => first | k_is | rfl)
    (case a_shown => first | k_is | rfl)
    (case l_shown => first | k_is | rfl)
    (case c_shown => first | k_is | rfl)
    (case k_shown => first | k_is | rfl)
    (case a_due => first | k_is | rfl)
    (case l_due => first | k_is | rfl)
    (case c_due => first | k_is | rfl)
    (case k_due => first | k_is | rfl)
    (case a_added => first | k_is | rfl)
    (case l_added => first | k_is | rfl)
    (case c_added => first | k_is | rfl)
    (case k_added => first | k_is | rfl)
    (case a_right => first | k_is | rfl)
    (case l_right => first | k_is | rfl)
    (case c_right => first | k_is | rfl)
    (case k_right => first | k_is | rfl)
    (case a_law => first | k_is | rfl)
    (case l_law => first | k_is | rfl)
    (case c_law => first | k_is | rfl)
    (case k_law => first | k_is | rfl)
    (case z_isinstance => first | k_is | rfl)
    (case z_int => first | k_is | rfl)
    (case z_bool => first | k_is | rfl)
    (case z_len => first | k_is | rfl)
    (case z_abs => first | k_is | rfl)
    (case z_range => first | k_is | rfl)
    (case z_all => first | k_is | rfl)
    (case z_max => first | k_is | rfl)
    (case z_min => first | k_is | rfl)
    (case z_str => first | k_is | rfl)
    (case z_tuple => first | k_is | rfl)
    (case z_zip => first | k_is | rfl)
    (case z_dict => first | k_is | rfl)
    (case z_list => first | k_is | rfl)
    (case z_sorted => first | k_is | rfl)
    (case g_gcd => first | k_is | rfl)
    (case h_nT => first | k_is | rfl)
    (case h_nB => first | k_is | rfl)
    (case h_iA => first | k_is | rfl)
    (case h_iN => first | k_is | rfl)
    (case h_iT => first | k_is | rfl)
    (case h_iM => first | k_is | rfl)
    (case h_kRI => first | k_is | rfl)
    (case h_kRR => first | k_is | rfl)
    (case h_kIR => first | k_is | rfl)
    (case h_sf => first | k_is | rfl)
    (case h_ne => first | k_is | rfl)
    (case h_ob => first | k_is | rfl)
    (case h_sRI => first | k_is | rfl)
    (case h_sIR => first | k_is | rfl)
    (case h_nfI => first | k_is | rfl)
    (case h_nfR => first | k_is | rfl)
    (case h_iAdd => first | k_is | rfl)
    (case h_iRadd => first | k_is | rfl)
    (case h_iSub => first | k_is | rfl)
    (case h_iRsub => first | k_is | rfl)
    (case h_iMul => first | k_is | rfl)
    (case h_iRmul => first | k_is | rfl)
    (case h_fC => first | k_is | rfl)
    (case h_fT => first | k_is | rfl)
    (case h_fN => first | k_is | rfl)
    (case h_ff => first | k_is | rfl)
    (case h_fIF => first | k_is | rfl)
    (case h_fRA => first | k_is | rfl)
    (case h_fRS => first | k_is | rfl)
    (case h_fRM => first | k_is | rfl)
    (case h_fA => first | k_is | rfl)
    (case h_fM => first | k_is | rfl)
    (case h_fFF => first | k_is | rfl)
    (case h_fFI => first | k_is | rfl)
    (case h_fIFk => first | k_is | rfl)
    (case h_fne => first | k_is | rfl)
    (case h_fob => first | k_is | rfl)
    (case h_fFIs => first | k_is | rfl)
    (case h_ffI => first | k_is | rfl)
    (case h_ffF => first | k_is | rfl)
    (case h_e0 => first | k_is | rfl)
