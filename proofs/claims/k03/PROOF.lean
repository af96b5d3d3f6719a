import PyProof.Rows.All
import HandS.AnyAll
import HandS.ClsMeth
import HandS.Codes
import HandS.Comp
import HandS.Defaults
import HandS.EndOwn
import HandS.EndTab
import HandS.Ends
import HandS.Exc
import HandS.ExcField
import HandS.ExcInit
import HandS.ExcIs
import HandS.ExcValue
import HandS.FStr
import HandS.ForMost
import HandS.Gcd
import HandS.HotCalls
import HandS.IsInst
import HandS.Iter
import HandS.Lambda
import HandS.MakeKw
import HandS.MakeKwOnly
import HandS.RaiseMore
import HandS.ReplaceDef
import HandS.ReplaceLit
import HandS.SetFor
import HandS.SlotsOwn
import HandS.StrMore
import HandS.Text
import HandS.Wide
import HandS.WordsExc
import KE.IntTextLaws
import KE.KOpsOwn
import KE.KTryMore
import OpenK.AllK
import PyProof.CallFns
import PyProof.CallStr
import PyProof.EqKinds
import PyProof.InstNe
import PyProof.MeetsStr3
import PyProof.ReprRoads
import PyProof.Rows.EqMixed
import PyProof.StrHeap
import PyProof.StrReplace2
import Wide.All
import Wide.FinOn
import OpenK.AllK
import Wide.All
import Wide.FinOn
import PySem.Challenge.RW_slackstrings_k03_texts_of_ratios
set_option Elab.async false
set_option linter.all false
set_option maxRecDepth 100000
set_option maxHeartbeats 4000000
/-! Own operators of a class, over the layer. -/
namespace PySem.RkX
open PySem PySem.W
section
variable {prog : Program} {w : World} {A : Around} {E : Value → Shared → Prop} {s : Shared} {K : Frag} {x C L f : Addr} {h₀ : Heap} {m : Str → Option Value} {ox : Obj} {od : Option Obj}

/-- int op instance, int's own slot declines -/
theorem bin_IO {op : Operator} {i : Int} {t : Tok} {id : String} {g0 : Addr} {Q : Value → Shared → Prop} (X : K.In s.heap) (I : InstAt s.heap x ox C od) (hc : selfFirst K C = true)
    (hs : findIn K (.ref C) (PySem.dunder op.info.2) = some (some (.ref g0))) (hr : findIn K (.ref C) (dunderR op.info.2) = some (some (.ref f))) (hf : isFn K (.ref f) = true)
    (hsub : subIn K (.ref C) (.type "int") = some false) (fillsT : fillsNumberSlot (.type "int") op.info.2 = pure true) (slot : Slot "int" (PySem.dunder op.info.2) id)
    (hd : ∀ Q : Value → Shared → Prop, Q .notImplemented s → wpAny (model prog w) A (call (.builtin id) [.int i t, .ref x]) Q E s)
    (h : wpAny (model prog w) A (call (.ref f) [.ref x, .int i t]) (CmpBack Q) E s) : wpAny (model prog w) A (binaryOp op (.int i t) (.ref x)) Q E s := by
  obtain ⟨cd, rest, hcd, hm⟩ := ksp_first hc
  rcases hi : op.info with ⟨sym, nm'⟩
  rw [hi] at hs hr fillsT slot
  dsimp only at hs hr fillsT slot
  have one := ksp_try X I hr hf h
  have two : wpAny (model prog w) A (tryMethod (.int i t) (PySem.dunder nm') (.ref x)) (fun r s' => r = none ∧ s' = s) E s :=
    wpAny_tryMethod_declines (typeIs_int s i t) slot (hd _ ⟨rfl, rfl, rfl⟩)
  obtain ⟨hh, g, d, tt, os⟩ := s
  have L1 : Looks (model prog w) hh (typeOf (.ref x)) (.ref C) := I.type
  have L2 : Looks (model prog w) hh (typeOf (.int i t)) (.type "int") := Looks.of_pure rfl
  have L3 : Looks (model prog w) hh (fillsNumberSlot (.ref C) nm') true := fills_K X hcd hm hs
  have L4 : Looks (model prog w) hh (fillsNumberSlot (.type "int") nm') true := Looks.of_pure fillsT
  have L5 : Looks (model prog w) hh (isSubtype (.ref C) (.type "int")) false := looks_subIn X hsub
  have L7 : Looks (model prog w) hh (numberSlotInPython (.type "int") nm') false := Looks.of_pure rfl
  have hne : (Value.type "int" == Value.ref C) = false := Bool.eq_false_iff.mpr fun q => by cases beq_iff_eq.mp q
  simp only [binaryOp, hi]
  refine wpAny_holding (wpAny_bind ?_)
  unfold binaryOp1
  refine wpAny_bind (L2.at (wpAny_bind (L1.at (wpAny_bind (L4.at ?_)))))
  simp only [hne, Bool.false_eq_true, if_false]
  ksp_lk
  refine wpAny_mono two (fun r s' hr' => ?_) fun _ _ e => e
  obtain ⟨rfl, rfl⟩ := hr'
  ksp_lk
  refine wpAny_mono one (fun r s' hr' => ?_) fun _ _ e => e
  obtain ⟨v, rfl, hq⟩ := hr'
  ksp_lk
  exact hq

/-- int == instance: int's own __eq__ declines, the class's one is asked -/
theorem eq_IO {i : Int} {t : Tok} {Q : Value → Shared → Prop} (hu : A.units < cLine) (X : K.In s.heap) (I : InstAt s.heap x ox C od)
    (hs : findIn K (.ref C) "__eq__" = some (some (.ref f))) (hf : isFn K (.ref f) = true) (hsub : subIn K (.ref C) (.type "int") = some false)
    (hd : ∀ Q : Value → Shared → Prop, Q .notImplemented s → wpAny (model prog w) A (call (.builtin "int.__eq__") [.int i t, .ref x]) Q E s)
    (h : wpAny (model prog w) A (call (.ref f) [.ref x, .int i t]) (CmpBack Q) E s) : wpAny (model prog w) A (richCompare .Eq (.int i t) (.ref x)) Q E s := by
  have one : wpAny (model prog w) A (tryCompare (.ref x) "__eq__" (.int i t)) (fun r s' => ∃ v, r = some v ∧ Q v s') E s := by
    unfold tryCompare
    refine wpAny_bind (ifBound_K X I hs hf (wpAny_mono h (fun v s' hv => ?_) fun _ _ e => e))
    cases v <;> first | exact hv.elim | exact wpAny_pure ⟨_, rfl, hv⟩
  have two : wpAny (model prog w) A (tryCompare (.int i t) "__eq__" (.ref x)) (fun r s' => r = none ∧ s' = s) E s :=
    wpAny_tryCompare_declines (typeIs_int s i t) F.slot_int_eq (hd _ ⟨rfl, rfl, rfl⟩)
  have L2 : Looks (model prog w) s.heap (typeOf (.int i t)) (.type "int") := Looks.of_pure rfl
  have hne0 : (Value.type "int" == Value.ref C) = false := Bool.eq_false_iff.mpr fun q => by cases beq_iff_eq.mp q
  have hne : (Value.type "int" != Value.ref C) = true := by
    rw [bne, hne0]
    rfl
  unfold richCompare
  simp only [(typeIs_int s i t).oneThing_none]
  refine wpAny_holding (wpAny_bind (wpAny_cRoomFor hu ?_))
  rw [show cmpInfo .Eq = ("==", ("__eq__" : Str), ("__eq__" : Str)) from rfl]
  dsimp only
  refine wpAny_bind (L2.here (wpAny_bind (I.type.here ?_)))
  simp only [hne, if_true]
  refine wpAny_bind ((looks_subIn X hsub).here ?_)
  simp only [Bool.false_eq_true, if_false, Bool.not_false, if_true]
  refine wpAny_bind (wpAny_mono two (fun r s' hr' => ?_) fun _ _ e => e)
  obtain ⟨rfl, rfl⟩ := hr'
  refine wpAny_bind (wpAny_mono one (fun r s' hr' => ?_) fun _ _ e => e)
  obtain ⟨v, rfl, hq⟩ := hr'
  exact wpAny_pure hq

/-- int's slots decline an object that holds no int -/
def NoPrim (h : Heap) (x : Addr) : Prop := ∃ o, h.get? x = some o ∧ ∀ i t, o.data ≠ .prim (.int i t)
theorem asInt_ref {Q : Option Int → Shared → Prop} {M : Model} (h : NoPrim s.heap x) (q : Q none s) : wpAny M A (asInt? (.ref x)) Q E s := by
  obtain ⟨o, ho, hn⟩ := h
  unfold asInt?
  refine wpAny_bind (wpAny_load ho ?_)
  split
  · rename_i i t e
    exact absurd e (hn i t)
  · exact wpAny_pure q

/-- instance != instance: object's own __ne__ asks the class's __eq__ -/
theorem ne_entry {y : Addr} {Q : Fin → Shared → Prop} (hu : A.units < cLine) (X : K.In s.heap) (I : InstAt s.heap x ox C od) (hs : findIn K (.ref C) "__eq__" = some (some (.ref f))) (hf : isFn K (.ref f) = true)
    (h : wpAny (model prog w) A (call (.ref f) [.ref x, .ref y]) (fun v s' => ∃ b, v = .bool b ∧ Q (.done (.ret (.bool (!b)))) s') E s) :
    wpAny (model prog w) A (Builtin.«object.__ne__» ⟨[.ref x, .ref y], []⟩) Q E s := by
  have one : wpAny (model prog w) A (callSpecialIfBound? (.ref x) "__eq__" [.ref y]) (fun r s' => ∃ b, r = some (.bool b) ∧ Q (.done (.ret (.bool (!b)))) s') E s :=
    ifBound_K X I hs hf (wpAny_mono h (fun v s' ⟨b, e, q⟩ => ⟨b, by rw [e], q⟩) fun _ _ e => e)
  obtain ⟨hp, g, d, tk, os⟩ := s
  unfold Builtin.«object.__ne__»
  repeat (first
    | with_reducible refine wpAny_cRoomFor hu ?_
    | (refine wpAny_bind (m := callSpecialIfBound? (.ref x) (Str.ofString "__eq__") [.ref y]) (wpAny_mono one (fun r s' hr => by
          obtain ⟨b, rfl, hq⟩ := hr
          repeat (first | exact hq | exact wpAny_pure hq | exact wpAny_truthy_bool hq | (refine wpAny_bind (m := truthy (.bool _)) (wpAny_truthy_bool ?_)) | wp_step)) fun _ _ e => e))
    | wp_step)
theorem ne_check {y : Addr} {Q : Unit → Shared → Prop} {M : Model} (X : K.In s.heap) (I : InstAt s.heap x ox C od) (hob : subIn K (.ref C) (.type "object") = some true) (hq : Q () s) :
    wpAny M A (checkBuiltinCall "object.__ne__" ⟨[.ref x, .ref y], []⟩) Q E s := by
  have ha := F.cmpArgs_ne (.ref x) (.ref y)
  simp only [checkBuiltinCall, F.cmpKind_ne, F.cmpSplit_ne]
  refine wpAny_bind ?_
  unfold isInstance
  refine wpAny_bind (I.type.here ((looks_subIn X hob).here ?_))
  cases hsig : Manifest.signature? "object.__ne__" with
  | none => repeat (first | exact hq | exact wpAny_pure hq | wp_step)
  | some sig =>
    simp only [argsOk, hsig] at ha
    have h2 : Bind.checkArgs "object.__ne__" sig ⟨[.ref x, .ref y], []⟩ = pure () := ha
    repeat (first | exact hq | exact wpAny_pure hq | (rw [h2]; exact wpAny_pure hq) | wp_step)
theorem ne_OO {y : Addr} {Q : Value → Shared → Prop} (hu : A.units + 1 < cLine) (X : K.In s.heap) (I : InstAt s.heap x ox C od) (hy : Looks (model prog w) s.heap (typeOf (.ref y)) (.ref C))
    (hs : findIn K (.ref C) "__eq__" = some (some (.ref f))) (hf : isFn K (.ref f) = true) (hn : findIn K (.ref C) "__ne__" = some (some (.builtin "object.__ne__"))) (hob : subIn K (.ref C) (.type "object") = some true)
    (h : wpAny (model prog w) A.in1 (call (.ref f) [.ref x, .ref y]) (fun v s' => ∃ b, v = .bool b ∧ Q (.bool (!b)) s') E s) : wpAny (model prog w) A (richCompare .NotEq (.ref x) (.ref y)) Q E s := by
  have called : wpAny (model prog w) A (call (.builtin "object.__ne__") [.ref x, .ref y]) (fun v s' => ∃ b, v = .bool b ∧ Q (.bool b) s') E s := by
    refine wpAny_call (codeAny_call_builtin F.cmp_object.ne.plain F.cmpEntry_ne (ne_check X I hob ?_))
    refine ne_entry (A := A.in1) hu X I hs hf (wpAny_mono h (fun v s' hv => ?_) fun _ _ e => e)
    obtain ⟨b, rfl, hq⟩ := hv
    exact ⟨b, rfl, _, rfl, hq⟩
  have bound : wpAny (model prog w) A (callSpecialIfBound? (.ref x) "__ne__" [.ref y]) (fun r s' => ∃ b, r = some (.bool b) ∧ Q (.bool b) s') E s := by
    simp only [callSpecialIfBound?, bindSpecialIfBound?]
    refine wpAny_holding (wpAny_bind (wpAny_bind (wpAny_bind (I.type.here ((looks_findIn X hn).here ?_)))))
    have sb := F.cmp_object.ne.bind
    simp only [sb]
    refine wpAny_bind (wpAny_askSetting (wpAny_ite ?_))
    have fin : wpAny (model prog w) A (call (.builtin "object.__ne__") ([.ref x] ++ [.ref y]) >>= fun v => pure (some v)) (fun r s' => ∃ b, r = some (.bool b) ∧ Q (.bool b) s') E s :=
      wpAny_bind (wpAny_mono called (fun v s' h' => wpAny_pure (by obtain ⟨b, rfl, q⟩ := h'; exact ⟨b, rfl, q⟩)) fun _ _ h' => h')
    split
    · exact wpAny_bind (wpAny_pure (wpAny_pure fin))
    · exact wpAny_tryCatch (wpAny_bind (wpAny_pure (wpAny_pure fin)))
  have one : wpAny (model prog w) A (tryCompare (.ref x) "__ne__" (.ref y)) (fun r s' => ∃ b, r = some (.bool b) ∧ Q (.bool b) s') E s := by
    unfold tryCompare
    refine wpAny_bind (wpAny_mono bound (fun r s' hr => ?_) fun _ _ e => e)
    obtain ⟨b, rfl, q⟩ := hr
    exact wpAny_pure ⟨b, rfl, q⟩
  unfold richCompare
  simp only [oneThing_ref]
  refine wpAny_holding (wpAny_bind (wpAny_cRoomFor (Nat.lt_of_succ_lt hu) ?_))
  rw [cmpInfo_NotEq]
  dsimp only
  refine wpAny_bind (I.type.here (wpAny_bind (hy.here ?_)))
  rw [show (Value.ref C != Value.ref C) = false from by simp]
  simp only [Bool.false_eq_true, if_false]
  refine wpAny_bind (wpAny_pure ?_)
  simp only [Bool.false_eq_true, if_false]
  refine wpAny_bind (wpAny_mono one (fun r s' hr => ?_) fun _ _ e => e)
  obtain ⟨b, rfl, q⟩ := hr
  exact wpAny_pure q
end
section
variable {x : Addr} (a : Int) (t : Tok)
theorem dec_add : GivesAt (fun s => NoPrim s.heap x) (Builtin.«int.__add__» ⟨[.int a t, .ref x], []⟩) (.val .notImplemented) := by
  intro prog w A R s hP h
  obtain ⟨hp, g, d, tk, os⟩ := s
  wp_walk
  obtain ⟨o, ho, hn⟩ := hP
  refine wpAny_load ho ?_
  split
  · rename_i i t e
    exact absurd e (hn i t)
  · wp_walk
    exact h
theorem dec_sub : GivesAt (fun s => NoPrim s.heap x) (Builtin.«int.__sub__» ⟨[.int a t, .ref x], []⟩) (.val .notImplemented) := by
  intro prog w A R s hP h
  obtain ⟨hp, g, d, tk, os⟩ := s
  wp_walk
  obtain ⟨o, ho, hn⟩ := hP
  refine wpAny_load ho ?_
  split
  · rename_i i t e
    exact absurd e (hn i t)
  · wp_walk
    exact h
theorem dec_mul : GivesAt (fun s => NoPrim s.heap x) (Builtin.«int.__mul__» ⟨[.int a t, .ref x], []⟩) (.val .notImplemented) := by
  intro prog w A R s hP h
  obtain ⟨hp, g, d, tk, os⟩ := s
  wp_walk
  obtain ⟨o, ho, hn⟩ := hP
  refine wpAny_load ho ?_
  split
  · rename_i i t e
    exact absurd e (hn i t)
  · wp_walk
    exact h
theorem dec_eq : GivesAt (fun s => NoPrim s.heap x) (Builtin.«int.__eq__» ⟨[.int a t, .ref x], []⟩) (.val .notImplemented) := by
  intro prog w A R s hP h
  obtain ⟨hp, g, d, tk, os⟩ := s
  wp_walk
  obtain ⟨o, ho, hn⟩ := hP
  refine wpAny_load ho ?_
  split
  · rename_i i t e
    exact absurd e (hn i t)
  · wp_walk
    exact h
end
end PySem.RkX

namespace RK
open PySem PySem.Spec PyProof.Rows L2

/-! ### rules for own operators, by values -/
section
variable {X : Cx} {CX : CXT} {n : Nat} {C f g0 : Addr} {fd : FuncData} {ps : List Str} {sp : Sp} {E : XK}
theorem inst_at {pins : List (Addr × Obj)} {σ : L2.St} {H : Hp} {s : Shared} {a dx : Addr} {fs : List (Str × V)} (I : Inv X pins σ H s) (h : H a = some (.ins C dx fs)) : ∃ od, PySem.W.InstAt s.heap a (PySem.W.instObj C dx) C (some od) := by
  obtain ⟨mA, J, _⟩ := ins_get I.hok h
  obtain ⟨od, J, _⟩ := J.look
  exact ⟨od, J⟩
theorem inst_np {h : Heap} {a dx : Addr} {od : Option Obj} (J : PySem.W.InstAt h a (PySem.W.instObj C dx) C od) : PySem.RkX.NoPrim h a := ⟨_, J.at_, fun i t e => nomatch e⟩
/-- a op b, both instances of the class at C -/
def rOwn2 (C : Addr) (sp : Sp) (E : XK) : R2 := fun x y H Q => ∃ a b dx fs dy gs, x = .ref a ∧ y = .ref b ∧ H a = some (.ins C dx fs) ∧ H b = some (.ins C dy gs) ∧ sp [x, y] H Q E
theorem op_own2 {op : Operator} (hc : PySem.W.selfFirst X.K C = true) (hs : PySem.W.findIn X.K (.ref C) (PySem.dunder op.info.2) = some (some (.ref f))) (hf : PySem.W.isFn X.K (.ref f) = true)
    (F : FnOk X.prog X.w X.K X.mg X.base CX n f fd ps sp) (hr : Room n X.A) (hb : Binds X.K fd ps []) (hx : Passes CX X E) : OpR X (binaryOp op) (rOwn2 C sp E) := by
  intro pins s σ H x y v u Q I rx ry h
  obtain ⟨a, b, dx, fs, dy, gs, rfl, rfl, ha, hb', q⟩ := h
  cases (show v = Value.ref a from rx)
  cases (show u = Value.ref b from ry)
  obtain ⟨od, J⟩ := inst_at I ha
  obtain ⟨od', J'⟩ := inst_at I hb'
  obtain ⟨m, hF⟩ := I.fr
  refine PySem.W.binop_K hF I.ok.mod.kin J J'.type hc hs hf ?_
  refine wpAny_mono (run_fn (vs := [V.ref a, V.ref b]) F hr hb .nil hx I (.cons rfl (.cons rfl .nil)) q) (fun w s' z => ?_) fun _ _ x => x
  obtain ⟨z', H', I', rz, qz⟩ := z
  exact SlX.cmpback rz ⟨z', H', I', rz, qz⟩
/-- a op int -/
def rOwnI (C : Addr) (sp : Sp) (E : XK) : R2 := fun x y H Q => ∃ a dx fs i, x = .ref a ∧ y = .int i ∧ H a = some (.ins C dx fs) ∧ sp [x, y] H Q E
theorem op_ownI {op : Operator} {fo ro rc : Option Value} (hc : PySem.W.selfFirst X.K C = true) (hs : PySem.W.findIn X.K (.ref C) (PySem.dunder op.info.2) = some (some (.ref f))) (hf : PySem.W.isFn X.K (.ref f) = true)
    (hr' : PySem.W.findIn X.K (.ref C) (dunderR op.info.2) = some rc) (hp : rc = none ∨ ∃ g : Addr, rc = some (.ref g))
    (h1 : PySem.W.findIn X.K (.type "int") (PySem.dunder op.info.2) = some fo) (h2 : PySem.W.findIn X.K (.type "int") (dunderR op.info.2) = some ro) (hsub : PySem.W.subIn X.K (.type "int") (.ref C) = some false)
    (F : FnOk X.prog X.w X.K X.mg X.base CX n f fd ps sp) (hr : Room n X.A) (hb : Binds X.K fd ps []) (hx : Passes CX X E) : OpR X (binaryOp op) (rOwnI C sp E) := by
  intro pins s σ H x y v u Q I rx ry h
  obtain ⟨a, dx, fs, i, rfl, rfl, ha, q⟩ := h
  cases (show v = Value.ref a from rx)
  obtain ⟨t, rfl⟩ := (show ∃ t, u = Value.int i t from ry)
  obtain ⟨od, J⟩ := inst_at I ha
  obtain ⟨m, hF⟩ := I.fr
  refine PySem.W.ksp_binT hF I.ok.mod.kin J rfl hc hs hf hr' hp h1 h2 hsub ?_
  refine wpAny_mono (run_fn (vs := [V.ref a, V.int i]) F hr hb .nil hx I (.cons rfl (.cons ⟨t, rfl⟩ .nil)) q) (fun w s' z => ?_) fun _ _ x => x
  obtain ⟨z', H', I', rz, qz⟩ := z
  exact SlX.cmpback rz ⟨z', H', I', rz, qz⟩
/-- int op a: by the class's reflected def -/
def rIOwn (C : Addr) (sp : Sp) (E : XK) : R2 := fun x y H Q => ∃ a dx fs i, x = .int i ∧ y = .ref a ∧ H a = some (.ins C dx fs) ∧ sp [y, x] H Q E
theorem op_Iown {op : Operator} {id : String} {B : Builtin} (hc : PySem.W.selfFirst X.K C = true) (hs : PySem.W.findIn X.K (.ref C) (PySem.dunder op.info.2) = some (some (.ref g0)))
    (hr' : PySem.W.findIn X.K (.ref C) (dunderR op.info.2) = some (some (.ref f))) (hf : PySem.W.isFn X.K (.ref f) = true) (hsub : PySem.W.subIn X.K (.ref C) (.type "int") = some false)
    (fillsT : fillsNumberSlot (.type "int") op.info.2 = pure true) (slot : Slot "int" (PySem.dunder op.info.2) id) (entry : entryFor table id = some B) (args : ∀ a b : Value, argsOk id ⟨[a, b], []⟩)
    (dec : ∀ (i : Int) (t : Tok) (x : Addr), GivesAt (fun s => PySem.RkX.NoPrim s.heap x) (B ⟨[.int i t, .ref x], []⟩) (.val .notImplemented))
    (F : FnOk X.prog X.w X.K X.mg X.base CX n f fd ps sp) (hr : Room n X.A) (hb : Binds X.K fd ps []) (hx : Passes CX X E) : OpR X (binaryOp op) (rIOwn C sp E) := by
  intro pins s σ H x y v u Q I rx ry h
  obtain ⟨a, dx, fs, i, rfl, rfl, ha, q⟩ := h
  obtain ⟨t, rfl⟩ := (show ∃ t, v = Value.int i t from rx)
  cases (show u = Value.ref a from ry)
  obtain ⟨od, J⟩ := inst_at I ha
  refine PySem.RkX.bin_IO I.kIn J hc hs hr' hf hsub fillsT slot (fun Q' q' => call_givesAt slot (typeIs_int s i t) entry (args _ _) (dec i t a) (inst_np J) q') ?_
  refine wpAny_mono (run_fn (vs := [V.ref a, V.int i]) F hr hb .nil hx I (.cons rfl (.cons ⟨t, rfl⟩ .nil)) q) (fun w s' z => ?_) fun _ _ x => x
  obtain ⟨z', H', I', rz, qz⟩ := z
  exact SlX.cmpback rz ⟨z', H', I', rz, qz⟩
/-- -a -/
def rNegO (C : Addr) (sp : Sp) (E : XK) : V → Hp → VK → Prop := fun x H Q => ∃ a dx fs, x = .ref a ∧ H a = some (.ins C dx fs) ∧ sp [x] H Q E
theorem un_negO (hs : PySem.W.findIn X.K (.ref C) "__neg__" = some (some (.ref f))) (hf : PySem.W.isFn X.K (.ref f) = true)
    (F : FnOk X.prog X.w X.K X.mg X.base CX n f fd ps sp) (hr : Room n X.A) (hb : Binds X.K fd ps []) (hx : Passes CX X E) : UnR X (unaryOp .USub) (rNegO C sp E) := by
  intro pins s σ H x v Q I rx h
  obtain ⟨a, dx, fs, rfl, ha, q⟩ := h
  cases (show v = Value.ref a from rx)
  obtain ⟨od, J⟩ := inst_at I ha
  obtain ⟨m, hF⟩ := I.fr
  exact PySem.W.ksp_neg hF I.ok.mod.kin J hs hf (run_fn (vs := [V.ref a]) F hr hb .nil hx I (.cons rfl .nil) q)
/-- a == anything of a known type -/
def rEqO (K : PySem.W.Frag) (C : Addr) (sp : Sp) (E : XK) : R2 := fun x y H Q => ∃ a dx fs t, x = .ref a ∧ H a = some (.ins C dx fs) ∧ TyX K H y t ∧ PySem.W.notFirst K C t = true ∧ sp [x, y] H Q E
theorem op_eqO (hs : PySem.W.findIn X.K (.ref C) "__eq__" = some (some (.ref f))) (hf : PySem.W.isFn X.K (.ref f) = true)
    (F : FnOk X.prog X.w X.K X.mg X.base CX n f fd ps sp) (hr : Room n X.A) (hb : Binds X.K fd ps []) (hx : Passes CX X E) : OpR X (compareOp .Eq) (rEqO X.K C sp E) := by
  intro pins s σ H x y v u Q I rx ry h
  obtain ⟨a, dx, fs, t, rfl, ha, ty, hn, q⟩ := h
  cases (show v = Value.ref a from rx)
  obtain ⟨od, J⟩ := inst_at I ha
  obtain ⟨m, hF⟩ := I.fr
  obtain ⟨P, Z, p, _⟩ := kit_of I ry ty
  refine PySem.W.cmp_K (op := .Eq) (tb := t) hr.units0 hF I.ok.mod.kin J (Z.ty _ _ I.kIn p) hn hs hf ?_
  refine wpAny_mono (run_fn (vs := [V.ref a, y]) F hr hb .nil hx I (.cons rfl (.cons ry .nil)) q) (fun w s' z => ?_) fun _ _ x => x
  obtain ⟨z', H', I', rz, qz⟩ := z
  exact SlX.cmpback rz ⟨z', H', I', rz, qz⟩
/-- int == a -/
theorem op_eqIO (hs : PySem.W.findIn X.K (.ref C) "__eq__" = some (some (.ref f))) (hf : PySem.W.isFn X.K (.ref f) = true) (hsub : PySem.W.subIn X.K (.ref C) (.type "int") = some false)
    (F : FnOk X.prog X.w X.K X.mg X.base CX n f fd ps sp) (hr : Room n X.A) (hb : Binds X.K fd ps []) (hx : Passes CX X E) : OpR X (compareOp .Eq) (rIOwn C sp E) := by
  intro pins s σ H x y v u Q I rx ry h
  obtain ⟨a, dx, fs, i, rfl, rfl, ha, q⟩ := h
  obtain ⟨t, rfl⟩ := (show ∃ t, v = Value.int i t from rx)
  cases (show u = Value.ref a from ry)
  obtain ⟨od, J⟩ := inst_at I ha
  refine PySem.RkX.eq_IO hr.units0 I.kIn J hs hf hsub (fun Q' q' => call_givesAt PySem.F.slot_int_eq (typeIs_int s i t) PySem.F.entry_int_eq (PySem.F.args_int_eq_2 _ _) (PySem.RkX.dec_eq i t) (inst_np J) q') ?_
  refine wpAny_mono (run_fn (vs := [V.ref a, V.int i]) F hr hb .nil hx I (.cons rfl (.cons ⟨t, rfl⟩ .nil)) q) (fun w s' z => ?_) fun _ _ x => x
  obtain ⟨z', H', I', rz, qz⟩ := z
  exact SlX.cmpback rz ⟨z', H', I', rz, qz⟩
/-- a != b by the class's own == -/
def rNeO (C : Addr) (sp : Sp) (E : XK) : R2 := fun x y H Q => ∃ a b dx fs dy gs, x = .ref a ∧ y = .ref b ∧ H a = some (.ins C dx fs) ∧ H b = some (.ins C dy gs) ∧ sp [x, y] H (fun v H' => ∃ k, v = .bl k ∧ Q (.bl (!k)) H') E
theorem op_neO (hs : PySem.W.findIn X.K (.ref C) "__eq__" = some (some (.ref f))) (hf : PySem.W.isFn X.K (.ref f) = true) (hn : PySem.W.findIn X.K (.ref C) "__ne__" = some (some (.builtin "object.__ne__"))) (hob : PySem.W.subIn X.K (.ref C) (.type "object") = some true)
    (F : FnOk X.prog X.w X.K X.mg X.base CX n f fd ps sp) (hr : Room (n + 1) X.A) (hb : Binds X.K fd ps []) (hx : Passes CX X E) : OpR X (compareOp .NotEq) (rNeO C sp E) := by
  intro pins s σ H x y v u Q I rx ry h
  obtain ⟨a, b, dx, fs, dy, gs, rfl, rfl, ha, hb', q⟩ := h
  cases (show v = Value.ref a from rx)
  cases (show u = Value.ref b from ry)
  obtain ⟨od, J⟩ := inst_at I ha
  obtain ⟨od', J'⟩ := inst_at I hb'
  have hu : X.A.units + 1 < cLine := Nat.lt_of_le_of_lt (Nat.add_le_add_left (by decide : 1 ≤ 64) _) hr.units
  show wpAny (model X.prog X.w) X.A (richCompare .NotEq (.ref a) (.ref b)) (EP X pins σ Q) X.xe s
  refine PySem.RkX.ne_OO hu I.kIn J J'.type hs hf hn hob ?_
  have hr1 : Room n X.A.in1 := hr.in1
  have r2 : Vals [V.ref a, V.ref b] [Value.ref a, Value.ref b] := .cons rfl (.cons rfl .nil)
  have hl := F.len _ _ _ _ q
  refine wpAny_call (codeAny_mono (F.run X.A.in1 X.stack s H ⟨[.ref a, .ref b], []⟩ [.ref a, .ref b] [.ref a, .ref b] _ E hr1 I.env0.in1 (by
    have := hb s [.ref a, .ref b] I.kIn (by simpa using hl)
    simpa using this) r2 q) fun r s' hq => ?_)
  cases r with
  | error e => exact hx pins σ H s e s' I hq
  | ok fl =>
    cases fl with
    | ret w =>
      obtain ⟨z, H', I', rz, k, ez, qz⟩ := I.after hq
      subst ez
      cases rz
      exact ⟨k, rfl, .bl (!k), H', I', rfl, qz⟩
    | next => exact False.elim hq
    | brk => exact False.elim hq
    | cont => exact False.elim hq
/-- o.m(k = v, ..) -/
def tMethK (C : Addr) (m : Str) (ks : List Str) (sp : Sp) (gV : List V → List V → List V) (E : XK) (ta : TE) (tk : TA) : TE := fun σ H Q => ta σ H fun x H1 => ∃ a dx fs, x = .ref a ∧ H1 a = some (.ins C dx fs) ∧ fs.lookup m = none ∧
  tk σ H1 fun zs H2 => zs.length = ks.length ∧ sp (gV [x] zs) H2 Q E
theorem pe_methK {pl : Sem Bool} {o : Expr} {m : Str} {apos pos : Pos} {kws : List Keyword} {ta : TE} {tk : TA} {ks : List Str} {g : List Value → List Value → List Value} {gV : List V → List V → List V} (he : PE X o ta) (c : Cls X.K C) (hm : Meth X.K C m f)
    (F : FnOk X.prog X.w X.K X.mg X.base CX n f fd ps sp) (hr : Room n X.A) (hb : KBn X.K fd ps 1 ks g gV) (hx : Passes CX X E) (hkw : PK X kws tk)
    (hall : (backToKw pos (keywordEach kws X.env)).all (·.1.isSome) = true := by rfl) (hks : (backToKw pos (keywordEach kws X.env)).filterMap (·.1) = ks := by rfl)
    (hpl : ((backTo pos (starEach [] X.env)).any (·.1) || (backToKw pos (keywordEach kws X.env)).any (·.1.isNone)) = false := by rfl)
    (ht : eval (.Call (.Attribute o m apos) [] kws pos) X.env = (do
      let ov ← eval o X.env
      standAt apos.atName
      let (f, first) ← holding [ov] (getMethod ov m pl)
      callWith pos f first (backTo pos (starEach [] X.env)) (backToKw pos (keywordEach kws X.env))) := by rfl) :
    PE X (.Call (.Attribute o m apos) [] kws pos) (tMethK C m ks sp gV E ta tk) := by
  refine ⟨fun pins s σ H Q I h => ?_⟩
  refine PySem.W.methodCall_KW (pl := pl) (thn (he.run pins s σ H _ I h) fun u s1 ⟨x, H1, I1, rx, a, dx, fs, ex, ea, l, q⟩ => ?_) ht
  subst ex
  obtain rfl : u = Value.ref a := rx
  refine getmeth_ok I1 ea c hm l ?_
  refine PySem.W.callWith_KW0 (first := [.ref a]) (h₀ := X.base) I1.ok.mod.kin hm.kp hall ?_ hpl
  refine thn (hkw.run pos pins s1 σ H1 _ I1 q) fun ws s2 ⟨zs, H2, I2, rz, l2, q2⟩ => ⟨I2.kIn, ?_⟩
  rw [hks]
  exact run_fnN (us := [.ref a]) (vs := [.ref a]) F hr hb hx I2 (.cons rfl .nil) rz rfl l2 q2
/-- // by a divisor of any sign, below 2 ^ 9000 -/
def CDivZ (_ j : Int) : Prop := j ≠ 0 ∧ j.natAbs.log2 < 9000
theorem op_fdivZ : OpR X (binaryOp .FloorDiv) (rI CDivZ fun i j => .int (i.fdiv j)) := opI fun i j _ _ _ _ _ hc q => floordiv_int hc.1 q (.inl (PyProof.noPylong_of_log2 hc.2))
end
end RK

namespace RK
open PySem PySem.Spec PyProof.Rows L2

/-! ### readings, a step at a time -/
section
variable {K : PySem.W.Frag} {D : Ends} {σ : L2.St} {H : Hp} {t u : TS} {te ta tb : TE} {c tt uu : TT} {ag ar : TA} {g : TG} {Q : VK} {v x y : V} {i j : Nat} {E : XK} {sp : Sp} {dvs : List V} {R : Prop}
theorem w_seq (h : t { D with nx := u D } σ H) : tSeq t u D σ H := h
theorem w_asg (h : te σ H fun x H1 => g x σ H1 D.nx) : tAsg te g D σ H := h
theorem w_gn {Q : L2.St → Hp → Prop} (h : Q (σ.set i (some v)) H) : gName i v σ H Q := h
theorem w_if (h : c σ H fun b H1 => if b = true then t D σ H1 else u D σ H1) : tIfS c t u D σ H := h
theorem w_ret (h : te σ H D.rt) : tRet te D σ H := h
theorem w_retN (h : D.rt .non H) : tRetN D σ H := h
theorem w_next (h : D.nx σ H) : tNext D σ H := h
theorem w_drop (h : te σ H fun _ H1 => D.nx σ H1) : tDrop te D σ H := h
theorem w_par (h : ag σ H fun vs H1 => ∃ v w, vs = [v, w] ∧ D.nx ((σ.set i (some v)).set j (some w)) H1) : tPar i j ag D σ H := h
theorem w_two {P : V → V → Prop} {v w : V} (h : P v w) : ∃ a b, ([v, w] : List V) = [a, b] ∧ P a b := ⟨v, w, rfl, h⟩
theorem w_test {Q : Bool → Hp → Prop} (h : te σ H fun x H' => ∃ k, x = .bl k ∧ Q k H') : tTest te σ H Q := h
theorem w_tB {Q : Bool → Hp → Prop} (h : te σ H fun x H' => ∃ k, x = .bl k ∧ Q k H') : tB te σ H Q := h
theorem w_bl {P : Bool → Prop} {b : Bool} (h : P b) : ∃ k, V.bl b = V.bl k ∧ P k := ⟨b, rfl, h⟩
theorem w_not {Q : Bool → Hp → Prop} (h : tt σ H fun c H1 => Q (!c) H1) : tNot tt σ H Q := h
theorem w_and {Q : Bool → Hp → Prop} (h : tt σ H fun c H1 => if c = true then uu σ H1 Q else Q false H1) : tAnd tt uu σ H Q := h
theorem w_or {Q : Bool → Hp → Prop} (h : tt σ H fun c H1 => if c = true then Q true H1 else uu σ H1 Q) : tOr tt uu σ H Q := h
theorem w_var (h : σ[i]? = some (some v)) (q : Q v H) : tVar i σ H Q := ⟨v, h, q⟩
theorem w_c (q : Q v H) : tC v σ H Q := q
theorem w_op {r : R2} (h : ta σ H fun x H1 => tb σ H1 fun y H2 => r x y H2 Q) : tOp r ta tb σ H Q := h
theorem w_un {r : V → Hp → VK → Prop} (h : ta σ H fun x H1 => r x H1 Q) : tUn r ta σ H Q := h
theorem w_I0 {gg : Int → Int → V} {a b : Int} (q : Q (gg a b) H) : rI0 gg (.int a) (.int b) H Q := ⟨a, b, rfl, rfl, q⟩
theorem w_I {C : Int → Int → Prop} {gg : Int → Int → V} {a b : Int} (hc : C a b) (q : Q (gg a b) H) : rI C gg (.int a) (.int b) H Q := ⟨a, b, rfl, rfl, hc, q⟩
theorem w_U {gg : Int → V} {a : Int} (q : Q (gg a) H) : rU gg (.int a) H Q := ⟨a, rfl, q⟩
theorem w_tIf (h : tt σ H fun c H1 => if c = true then ta σ H1 Q else tb σ H1 Q) : tIf tt ta tb σ H Q := h
/-- a cut: what the value and the heap are, then what is done with them -/
theorem w_cut (P : V → Hp → Prop) (h : ∀ Q' : VK, (∀ v H', P v H' → Q' v H') → te σ H Q') (all : ∀ v H', P v H' → Q v H') : te σ H Q := h Q all
/-- an int, the heap as it is -/
theorem w_cutI (P : Int → Prop) (h : ∀ Q' : VK, (∀ z, P z → Q' (.int z) H) → te σ H Q') (all : ∀ z, P z → Q (.int z) H) : te σ H Q := h Q all
theorem w_cutA (P : List V → Hp → Prop) {Q : List V → Hp → Prop} (h : ∀ Q' : List V → Hp → Prop, (∀ v H', P v H' → Q' v H') → ag σ H Q') (all : ∀ v H', P v H' → Q v H') : ag σ H Q := h Q all
theorem s_cut (P : L2.St → Hp → Prop) (h : ∀ N : L2.St → Hp → Prop, (∀ σ' H', P σ' H' → N σ' H') → t { D with nx := N } σ H) (all : ∀ σ' H', P σ' H' → D.nx σ' H') : t D σ H := h D.nx all
theorem w_nil {Q : List V → Hp → Prop} (q : Q [] H) : tNil σ H Q := q
theorem w_cons {Q : List V → Hp → Prop} (h : te σ H fun x H1 => ar σ H1 fun xs H2 => Q (x :: xs) H2) : tCons te ar σ H Q := h
theorem w_andV (h : ta σ H fun x H1 => ∃ c, x = .bl c ∧ if c = true then tb σ H1 Q else Q (.bl false) H1) : tAndV ta tb σ H Q := h
theorem w_orV (h : ta σ H fun x H1 => ∃ c, x = .bl c ∧ if c = true then Q (.bl true) H1 else tb σ H1 Q) : tOrV ta tb σ H Q := h
theorem w_notV (h : ta σ H fun x H1 => ∃ c, x = .bl c ∧ Q (.bl (!c)) H1) : tNotV ta σ H Q := h
theorem w_CB {r : List V → Hp → VK → Prop} (h : ag σ H fun vs H1 => r vs H1 Q) : tCB r ag σ H Q := h
theorem w_call (h : ag σ H fun vs H1 => sp (vs ++ dvs) H1 Q E) : tCall sp dvs E ag σ H Q := h
theorem w_same (H : Hp) : Same H H := fun _ _ h => h
/-- a new object: what stood stands -/
theorem w_new {p : Addr} {o : HO} (h : H p = none) : Same H (upd H p o) := fun b u e => by
  rw [upd_ne (ne_of_none e h)]
  exact e
/-! leaves: a new object -/
def NewT (xs : List V) (H : Hp) (Q : VK) : Prop := xs.length ≤ sizeLine ∧ ∀ p, H p = none → Q (.ref p) (upd H p (.tup xs))
def NewL (xs : List V) (H : Hp) (Q : VK) : Prop := xs.length ≤ sizeLine ∧ ∀ p, H p = none → Q (.ref p) (upd H p (.lst xs))
theorem w_newT {xs : List V} (hl : xs.length ≤ 100000) (h : ∀ p H2, H p = none → Same H H2 → H2 p = some (.tup xs) → Q (.ref p) H2) : NewT xs H Q :=
  ⟨Nat.le_trans hl (by decide), fun p hp => h p _ hp (w_new hp) upd_same⟩
theorem w_newL {xs : List V} (hl : xs.length ≤ 100000) (h : ∀ p H2, H p = none → Same H H2 → H2 p = some (.lst xs) → Q (.ref p) H2) : NewL xs H Q :=
  ⟨Nat.le_trans hl (by decide), fun p hp => h p _ hp (w_new hp) upd_same⟩
theorem w_tup (h : ag σ H fun xs H1 => NewT xs H1 Q) : tTup ag σ H Q := h
theorem w_lst (h : ag σ H fun xs H1 => NewL xs H1 Q) : tLst ag σ H Q := h
def Fl (K : PySem.W.Frag) (f : Str) (x : V) (H : Hp) (Q : VK) : Prop := ∃ a C dx fs v, x = .ref a ∧ H a = some (.ins C dx fs) ∧ Cls K C ∧ NoAttr K C f ∧ fs.lookup f = some v ∧ Q v H
theorem w_fld {f : Str} (h : te σ H fun x H1 => Fl K f x H1 Q) : tFld K te f σ H Q := h
/-- what is asked at a store into a field, at a method's call, at a making -/
def Sf (K : PySem.W.Frag) (f : Str) (y x : V) (H : Hp) (N : Hp → Prop) : Prop := ∃ a C dx fs, x = .ref a ∧ H a = some (.ins C dx fs) ∧ Cls K C ∧ NoAttr K C f ∧ fs.length < 1000 ∧ N (upd H a (.ins C dx (putF f y fs)))
theorem w_sfld {tv : TE} {f : Str} (h : tv σ H fun y H1 => ta σ H1 fun x H2 => Sf K f y x H2 (D.nx σ)) : sFld K ta tv f D σ H := h
def Ml (C : Addr) (m : Str) (x : V) (H : Hp) (R : Prop) : Prop := ∃ a dx fs, x = .ref a ∧ H a = some (.ins C dx fs) ∧ fs.lookup m = none ∧ R
theorem w_meth {C : Addr} {m : Str} (h : te σ H fun x H1 => Ml C m x H1 (ag σ H1 fun vs H2 => sp (x :: (vs ++ dvs)) H2 Q E)) : tMeth C m sp dvs E te ag σ H Q := h
theorem w_methK {C : Addr} {m : Str} {ks : List Str} {gV : List V → List V → List V} (h : te σ H fun x H1 => Ml C m x H1 (ag σ H1 fun zs H2 => zs.length = ks.length ∧ sp (gV [x] zs) H2 Q E)) : tMethK C m ks sp gV E te ag σ H Q := h
def MkL (C : Addr) (sp : Sp) (E : XK) (vs : List V) (H : Hp) (Q : VK) : Prop := ∀ x dx, H x = none → H dx = none → dx ≠ x → sp (.ref x :: vs) (upd (upd H dx (.own x)) x (.ins C dx [])) (fun v H2 => v = .non ∧ Q (.ref x) H2) E
theorem w_make {C : Addr} (h : ag σ H fun vs H1 => MkL C sp E (vs ++ dvs) H1 Q) : tMake C sp dvs E ag σ H Q := h
def MkK (C : Addr) (n m : Nat) (sp : Sp) (gV : List V → List V → List V) (E : XK) (vs zs : List V) (H : Hp) (Q : VK) : Prop := vs.length = n ∧ zs.length = m ∧ ∀ x dx, H x = none → H dx = none → dx ≠ x → sp (gV (.ref x :: vs) zs) (upd (upd H dx (.own x)) x (.ins C dx [])) (fun v H3 => v = .non ∧ Q (.ref x) H3) E
theorem w_makeK {C : Addr} {n m : Nat} {gV : List V → List V → List V} (h : ag σ H fun vs H1 => ar σ H1 fun zs H2 => MkK C n m sp gV E vs zs H2 Q) : tMakeK C n m sp gV E ag ar σ H Q := h
theorem w_BM {T : String} {r : V → List V → Hp → VK → Prop} (h : te σ H fun x H1 => tyV K T x H1 ∧ ag σ H1 fun xs H2 => r x xs H2 Q) : tBM K T r te ag σ H Q := h
theorem w_sl {r : V → Option Int → Option Int → Hp → VK → Prop} {tl th : TO} (h : te σ H fun x H1 => tl σ H1 fun l H2 => th σ H2 fun u H3 => r x l u H3 Q) : tSl r te tl th σ H Q := h
theorem w_po {Q : Option Int → Hp → Prop} (q : Q none H) : tNoPart σ H Q := q
theorem w_pt {Q : Option Int → Hp → Prop} (h : te σ H fun x H1 => ∃ i, x = .int i ∧ Q (some i) H1) : tPart te σ H Q := h
theorem w_in {P : Int → Prop} {i : Int} (h : P i) : ∃ k, V.int i = V.int k ∧ P k := ⟨i, rfl, h⟩
theorem w_yes {Q : Bool → Hp → Prop} (q : Q true H) : tYes σ H Q := q
theorem w_ixL {p : Addr} {xs : List V} {a : Int} (h : H p = some (.lst xs)) (ha : atI xs a = some v) (q : Q v H) : rIxL K (.ref p) (.int a) H Q := ⟨p, xs, a, v, rfl, rfl, SqL.of h, ha, q⟩
theorem w_ixT {p : Addr} {xs : List V} {a : Int} (h : H p = some (.tup xs)) (ha : atI xs a = some v) (q : Q v H) : rIxT K (.ref p) (.int a) H Q := ⟨p, xs, a, v, rfl, rfl, SqT.of h, ha, q⟩
theorem w_sub {to ti : TE} {ts : TSet} {Q : L2.St → Hp → Prop} (h : to σ H fun o H1 => ti σ H1 fun i H2 => ts o i v H2 fun H3 => Q σ H3) : gSub to ti ts v σ H Q := h
theorem w_setL {Q : Hp → Prop} {p : Addr} {xs : List V} {a : Int} {j : Nat} (h : H p = some (.lst xs)) (hj : ixN xs.length a = some j) (q : Q (upd H p (.lst (xs.set j v)))) : rSetL (.ref p) (.int a) v H Q := ⟨p, xs, a, j, rfl, rfl, h, hj, q⟩
theorem w_eq (hs : scal x y = true) (q : Q (.bl (decide (x = y))) H) : rEq x y H Q := ⟨hs, q⟩
theorem w_ne (hs : scal x y = true) (q : Q (.bl (!decide (x = y))) H) : rNe x y H Q := ⟨hs, q⟩
/-! built-ins under names -/
def rInt1 : List V → Hp → VK → Prop := fun xs H Q => (∃ i, xs = [.int i] ∧ Q (.int i) H) ∨ ∃ k, xs = [.bl k] ∧ Q (.int (if k then 1 else 0)) H
theorem cr_int1 {X : Cx} : CallR X (.type "int") rInt1 := call_int1
theorem w_int {a : Int} (q : Q (.int a) H) : rInt1 [.int a] H Q := .inl ⟨a, rfl, q⟩
theorem w_intB {b : Bool} (q : Q (.int (if b then 1 else 0)) H) : rInt1 [.bl b] H Q := .inr ⟨b, rfl, q⟩
def rAbs1 : List V → Hp → VK → Prop := fun xs H Q => ∃ i, xs = [.int i] ∧ Q (.int (if i < 0 then -i else i)) H
theorem cr_abs {X : Cx} : CallR X (.builtin "abs") rAbs1 := call_abs
theorem w_abs {a : Int} (q : Q (.int (if a < 0 then -a else a)) H) : rAbs1 [.int a] H Q := ⟨a, rfl, q⟩
def rMax2 : List V → Hp → VK → Prop := fun xs H Q => ∃ i j, xs = [.int i, .int j] ∧ Q (.int (if j > i then j else i)) H
theorem cr_max2 {X : Cx} (hc : X.calm = true) : CallR X (.builtin "max") rMax2 := call_max2 hc
theorem w_max {a b : Int} (q : Q (.int (if b > a then b else a)) H) : rMax2 [.int a, .int b] H Q := ⟨a, b, rfl, q⟩
def rMin2 : List V → Hp → VK → Prop := fun xs H Q => ∃ i j, xs = [.int i, .int j] ∧ Q (.int (if j < i then j else i)) H
theorem cr_min2 {X : Cx} (hc : X.calm = true) : CallR X (.builtin "min") rMin2 := call_min2 hc
theorem w_min {a b : Int} (q : Q (.int (if b < a then b else a)) H) : rMin2 [.int a, .int b] H Q := ⟨a, b, rfl, q⟩
def rLen (K : PySem.W.Frag) : List V → Hp → VK → Prop := fun xs H Q => ∃ x n, xs = [x] ∧ LenV K x H n ∧ Q (.int n) H
theorem cr_len {X : Cx} : CallR X (.builtin "len") (rLen X.K) := call_len
theorem w_lenL {p : Addr} {xs : List V} (h : SqL K H p xs) (q : Q (.int xs.length) H) : rLen K [.ref p] H Q := ⟨_, _, rfl, .inl ⟨xs, h, rfl⟩, q⟩
theorem w_lenT {p : Addr} {xs : List V} (h : SqT K H p xs) (q : Q (.int xs.length) H) : rLen K [.ref p] H Q := ⟨_, _, rfl, .inr ⟨xs, h, rfl⟩, q⟩
theorem w_gcd {a b : Int} (q : Q (.int ((Nat.gcd a.natAbs b.natAbs : Nat) : Int)) H) : rGcd [.int a, .int b] H Q := ⟨a, b, rfl, q⟩
/-! tests -/
theorem w_ite {b : Bool} {A B : Prop} (h1 : b = true → A) (h2 : b = false → B) : if b = true then A else B := by
  cases b with
  | true => rw [if_pos rfl]; exact h1 rfl
  | false => rw [if_neg Bool.false_ne_true]; exact h2 rfl
theorem w_iteD {p A B : Prop} [Decidable p] (h1 : p → A) (h2 : ¬ p → B) : if decide p = true then A else B :=
  w_ite (fun e => h1 (of_decide_eq_true e)) fun e => h2 (of_decide_eq_false e)
theorem w_iteN {p A B : Prop} [Decidable p] (h1 : ¬ p → A) (h2 : p → B) : if (!decide p) = true then A else B :=
  w_ite (fun e => h1 (of_decide_eq_false (by simpa using e))) fun e => h2 (of_decide_eq_true (by simpa using e))
end
/-! ### sizes -/
def Sz (k : Nat) (x : Int) : Prop := x.natAbs < 2 ^ k
theorem Sz.mono {k j : Nat} {x : Int} (h : Sz k x) (hk : k ≤ j) : Sz j x := Nat.lt_of_lt_of_le h (Nat.pow_le_pow_right (by decide) hk)
theorem Sz.mul {k j : Nat} {x y : Int} (h : Sz k x) (h' : Sz j y) : Sz (k + j) (x * y) := wide_lt h h'
theorem Sz.neg {k : Nat} {x : Int} (h : Sz k x) : Sz k (-x) := by unfold Sz; rw [Int.natAbs_neg]; exact h
theorem Sz.ok {k j : Nat} {x y : Int} (h : Sz k x) (h' : Sz j y) (hk : k + j ≤ 900000 := by decide) : CMulW x y := wide_mul (h.mono (Nat.le_succ k)) (h'.mono (Nat.le_succ j)) (Nat.succ_pos _) (Nat.succ_pos _) (by omega)
theorem Sz.of {k : Nat} {x : Int} (h : x.natAbs < 2 ^ k) : Sz k x := h
theorem Sz.small {k : Nat} {x : Int} (h : x.natAbs < 1048576) (hk : 20 ≤ k := by decide) : Sz k x := Sz.mono (k := 20) h hk
theorem Sz.one {k : Nat} (h : 1 ≤ k := by decide) : Sz k 1 := Sz.mono (k := 1) (by show (1 : Int).natAbs < 2 ^ 1; decide) h
theorem Sz.div {k : Nat} {i j : Int} (h : 0 < j) (hz : Sz k j) (hk : k ≤ 8000 := by decide) : CDivW i j := wide_div h (hz.mono (Nat.le_succ k)) (Nat.succ_pos _) (by omega)
theorem Sz.le {k : Nat} {x y : Int} (h : Sz k y) (hx : x.natAbs ≤ y.natAbs) : Sz k x := Nat.lt_of_le_of_lt hx h
theorem Sz.add {k : Nat} {x y : Int} (h : Sz k x) (h' : Sz k y) : Sz (k + 1) (x + y) := by
  unfold Sz at *
  have : (x + y).natAbs ≤ x.natAbs + y.natAbs := Int.natAbs_add_le x y
  rw [Nat.pow_succ]
  omega
theorem Sz.sub {k : Nat} {x y : Int} (h : Sz k x) (h' : Sz k y) : Sz (k + 1) (x - y) := by
  rw [Int.sub_eq_add_neg]
  exact h.add h'.neg
/-! ### what is kept -/
theorem Same.at {H H' : Hp} {a : Addr} {o : HO} (e : Same H H') (h : H a = some o) : H' a = some o := e a o h
/-- a law's bag of numbers -/
def Bag (H : Hp) (b : Addr) : Prop := ∃ f s n : Int, H b = some (.lst [.int f, .int s, .int n])
/-- all is kept but the bag's numbers -/
structure Kp (b : Addr) (H H' : Hp) : Prop where
  bag : Bag H b
  bag' : Bag H' b
  keep : ∀ c o, c ≠ b → H c = some o → H' c = some o
theorem Bag.same {H H' : Hp} {b : Addr} (h : Bag H b) (e : Same H H') : Bag H' b := let ⟨f, s, n, h⟩ := h; ⟨f, s, n, e _ _ h⟩
theorem Kp.of {H H' : Hp} {b : Addr} (h : Bag H b) (e : Same H H') : Kp b H H' := ⟨h, h.same e, fun c o _ q => e c o q⟩
theorem Kp.refl {H : Hp} {b : Addr} (h : Bag H b) : Kp b H H := .of h (w_same H)
theorem Kp.trans {H H1 H2 : Hp} {b : Addr} (a : Kp b H H1) (c : Kp b H1 H2) : Kp b H H2 := ⟨a.bag, c.bag', fun x o n q => c.keep x o n (a.keep x o n q)⟩
theorem Kp.same {H H1 H2 : Hp} {b : Addr} (a : Kp b H H1) (c : Same H1 H2) : Kp b H H2 := a.trans (.of a.bag' c)
theorem Kp.tup {H H' : Hp} {b a : Addr} {xs : List V} (k : Kp b H H') (h : H a = some (.tup xs)) : H' a = some (.tup xs) := by
  obtain ⟨f, s, n, hb⟩ := k.bag
  exact k.keep a _ (ne_of h hb (by intro z; cases z)) h
theorem Kp.ins {H H' : Hp} {b a C dx : Addr} {fs : List (Str × V)} (k : Kp b H H') (h : H a = some (.ins C dx fs)) : H' a = some (.ins C dx fs) := by
  obtain ⟨f, s, n, hb⟩ := k.bag
  exact k.keep a _ (ne_of h hb (by intro z; cases z)) h
theorem Kp.free {H H' : Hp} {b p : Addr} (k : Kp b H H') (h : H' p = none) : H p = none := by
  cases q : H p with
  | none => rfl
  | some o =>
    by_cases e : p = b
    · obtain ⟨f, s, n, hb⟩ := k.bag'
      rw [e, hb] at h
      cases h
    · rw [k.keep p o e q] at h
      cases h
theorem Kp.seq {K : PySem.W.Frag} {H H' : Hp} {b a : Addr} {xs : List V} (k : Kp b H H') (hne : a ≠ b) (h : SqL K H a xs) : SqL K H' a xs := by
  rcases h with (h | ⟨o, h⟩) | h
  · exact .inl (.inl (k.keep _ _ hne h))
  · exact .inl (.inr ⟨o, k.keep _ _ hne h⟩)
  · exact .inr h
/-! ### comprehensions -/
section
variable {K : PySem.W.Frag} {σ : L2.St} {H : Hp} {Q : VK} {tl te : TE} {g : TG} {tt : TT} {vs : List Nat} {tb : TS} {D : Ends} {j : Nat}
/-- the comprehension, the loop, when the list is there -/
def LcS (K : PySem.W.Frag) (g : TG) (tt : TT) (te : TE) (vs : List Nat) (σ : L2.St) (x : V) (H : Hp) (Q : VK) : Prop := tLc (iList K (tC x)) g tt te vs σ H Q
def ForS (K : PySem.W.Frag) (g : TG) (tb : TS) (D : Ends) (σ : L2.St) (x : V) (H : Hp) : Prop := tFor (iList K (tC x)) g tb D σ H
theorem w_lcL (h : tl σ H fun x H1 => LcS K g tt te vs σ x H1 Q) : tLc (iList K tl) g tt te vs σ H Q := h
theorem w_forL (h : tl σ H fun x H1 => ForS K g tb D σ x H1) : tFor (iList K tl) g tb D σ H := h
/-- what is no list stands as it stood -/
def SameT (H H' : Hp) : Prop := ∀ c o, H c = some o → (∀ xs, o ≠ .lst xs) → H' c = some o
theorem SameT.of {H H' : Hp} (e : Same H H') : SameT H H' := fun c o h _ => e c o h
theorem SameT.upd {H : Hp} {p : Addr} {xs : List V} {o : HO} (h : H p = some (.lst xs)) : SameT H (upd H p o) := fun c u e n => by
  have hc : c ≠ p := fun z => by rw [z, h] at e; cases e; exact n xs rfl
  rw [upd_ne hc]
  exact e
theorem SameT.tup {H H' : Hp} {p : Addr} {xs : List V} (e : SameT H H') (h : H p = some (.tup xs)) : H' p = some (.tup xs) := e p _ h fun _ z => nomatch z
theorem SameT.ins {H H' : Hp} {p C dx : Addr} {fs : List (Str × V)} (e : SameT H H') (h : H p = some (.ins C dx fs)) : H' p = some (.ins C dx fs) := e p _ h fun _ z => nomatch z
/-- a list grows by one -/
structure Grown (l : Addr) (xs : List V) (H H' : Hp) : Prop where
  at_ : H' l = some (.lst xs)
  keep : ∀ c o, c ≠ l → H c = some o → H' c = some o
  same : SameT H H'
theorem w_app {l : Addr} {xs : List V} {y : V} (h : H l = some (.lst xs)) (hl : xs.length ≤ 1000) (k : ∀ H', Grown l (xs ++ [y]) H H' → Q .non H') : rAppend (.ref l) [y] H Q :=
  ⟨l, xs, y, rfl, rfl, h, Nat.lt_of_le_of_lt hl (by decide), k _ ⟨upd_same, fun c o hc e => by rw [upd_ne hc]; exact e, SameT.upd h⟩⟩
theorem Same.updL {H H' : Hp} {p : Addr} {o : HO} (e : Same H H') (h : H p = none) : Same H (upd H' p o) := fun c u q => by
  rw [upd_ne (ne_of_none q h)]
  exact e c u q
/-- [f(x) for x in a list]: each element leaves what stood, and gives what P says -/
theorem lc_each {l : Addr} {xs : List V} (P : Nat → V → Hp → Prop) (mono : ∀ i v H H', SameT H H' → P i v H → P i v H') (hl : H l = some (.lst xs)) (hlen : xs.length ≤ 1000)
    (hw : ∀ x, wipe ((wipe σ vs).set j (some x)) vs = wipe σ vs)
    (he : ∀ i x H', xs[i]? = some x → Same H H' → ∀ Q' : VK, (∀ v H'', Same H' H'' → P i v H'' → Q' v H'') → te ((wipe σ vs).set j (some x)) H' Q')
    (k : ∀ D ys H', H D = none → Same H H' → H' D = some (.lst ys) → ys.length = xs.length → (∀ i v, ys[i]? = some v → P i v H') → Q (.ref D) H') : LcS K (gName j) tYes te vs σ (.ref l) H Q := by
  refine ⟨l, rfl, ⟨_, SqL.of hl⟩, fun Dl hD => ?_⟩
  refine lc_list (K := K) (a := l) (xs := xs) (fun i H' => ∃ acc, H' Dl = some (.lst acc) ∧ acc.length = i ∧ Same H H' ∧ ∀ m v, acc[m]? = some v → P m v H') ⟨[], upd_same, rfl, w_new hD, fun m v e => by simp at e⟩
    (fun i H' _ ⟨acc, _, _, e, _⟩ => SqL.of (e _ _ hl)) ?_ ?_
  · rintro i x H' hx ⟨acc, h1, h2, e, hp⟩
    refine ⟨hw x, ?_⟩
    refine w_yes ?_
    rw [if_pos rfl]
    refine he i x H' hx e _ fun v H2 e2 pv => ?_
    have hi : i < xs.length := (List.getElem?_eq_some_iff.mp hx).1
    have h3 : H2 Dl = some (.lst acc) := e2 _ _ h1
    refine ⟨acc, h3, Nat.lt_of_lt_of_le (show acc.length < 1001 by omega) (by decide), acc ++ [v], upd_same, by rw [List.length_append, h2]; rfl, RK.Same.updL (e.trans e2) hD, fun m u hu => ?_⟩
    by_cases hm : m < acc.length
    · rw [List.getElem?_append_left hm] at hu
      exact mono m u H2 _ (SameT.upd h3) (mono m u H' H2 (.of e2) (hp m u hu))
    · rw [List.getElem?_append_right (by omega)] at hu
      have em : m = acc.length := by
        have := (List.getElem?_eq_some_iff.mp hu).1
        simp at this
        omega
      subst em
      simp at hu
      subst hu
      exact mono _ _ H2 _ (SameT.upd h3) (by rw [h2]; exact pv)
  · rintro H' ⟨acc, h1, h2, e, hp⟩
    exact k Dl acc H' hD e h1 h2 hp
/-- [f(i) for i in range(n)] -/
theorem lc_rng {lo : Int} {n : Nat} {W : TI} (P : Nat → V → Hp → Prop) (mono : ∀ i v H H', SameT H H' → P i v H → P i v H') (hn : n ≤ 1000) (hwi : ∀ R : It → Hp → Prop, R (Itr lo n) H → W σ H R)
    (hw : ∀ x, wipe ((wipe σ vs).set j (some x)) vs = wipe σ vs)
    (he : ∀ i H', i < n → Same H H' → ∀ Q' : VK, (∀ v H'', Same H' H'' → P i v H'' → Q' v H'') → te ((wipe σ vs).set j (some (.int (lo + i)))) H' Q')
    (k : ∀ D ys H', H D = none → Same H H' → H' D = some (.lst ys) → ys.length = n → (∀ i v, ys[i]? = some v → P i v H') → Q (.ref D) H') : tLc W (gName j) tYes te vs σ H Q := by
  refine hwi _ fun Dl hD => ?_
  refine lc_range (lo := lo) (n := n) (fun i H' => ∃ acc, H' Dl = some (.lst acc) ∧ acc.length = i ∧ Same H H' ∧ ∀ m v, acc[m]? = some v → P m v H') ⟨[], upd_same, rfl, w_new hD, fun m v e => by simp at e⟩ ?_ ?_
  · rintro i H' hi ⟨acc, h1, h2, e, hp⟩
    refine ⟨hw _, ?_⟩
    refine w_yes ?_
    rw [if_pos rfl]
    refine he i H' hi e _ fun v H2 e2 pv => ?_
    have h3 : H2 Dl = some (.lst acc) := e2 _ _ h1
    refine ⟨acc, h3, Nat.lt_of_lt_of_le (show acc.length < 1001 by omega) (by decide), acc ++ [v], upd_same, by rw [List.length_append, h2]; rfl, RK.Same.updL (e.trans e2) hD, fun m u hu => ?_⟩
    by_cases hm : m < acc.length
    · rw [List.getElem?_append_left hm] at hu
      exact mono m u H2 _ (SameT.upd h3) (mono m u H' H2 (.of e2) (hp m u hu))
    · rw [List.getElem?_append_right (by omega)] at hu
      have em : m = acc.length := by
        have := (List.getElem?_eq_some_iff.mp hu).1
        simp at this
        omega
      subst em
      simp at hu
      subst hu
      exact mono _ _ H2 _ (SameT.upd h3) (by rw [h2]; exact pv)
  · rintro H' ⟨acc, h1, h2, e, hp⟩
    exact k Dl acc H' hD e h1 h2 hp
end
end RK

/-! lowest terms, plain -/
namespace RK
/-- x, y are u, l in lowest terms (l not 0), y above 0 -/
structure Nrm (u l x y : Int) : Prop where
  pos : 0 < y
  cop : Int.gcd x y = 1
  eq : x * l = u * y
theorem dvd_of_cop {x y z : Int} (c : Int.gcd x y = 1) (h : y ∣ x * z) : y ∣ z := by
  have h' : y.natAbs ∣ x.natAbs * z.natAbs := by rw [← Int.natAbs_mul]; exact Int.natAbs_dvd_natAbs.mpr h
  exact Int.natAbs_dvd_natAbs.mp (Nat.Coprime.dvd_of_dvd_mul_left (show Nat.Coprime y.natAbs x.natAbs from by rw [Nat.coprime_comm]; exact c) h')
theorem nrm_uniq0 {x y x' y' : Int} (h1 : 0 < y) (h2 : 0 < y') (c1 : Int.gcd x y = 1) (c2 : Int.gcd x' y' = 1) (e : x * y' = x' * y) : x = x' ∧ y = y' := by
  have d1 : y ∣ y' := by
    have : y ∣ x * y' := ⟨x', by rw [e, Int.mul_comm]⟩
    exact dvd_of_cop c1 this
  have d2 : y' ∣ y := by
    have : y' ∣ x' * y := ⟨x, by rw [← e, Int.mul_comm]⟩
    exact dvd_of_cop c2 this
  have ey : y = y' := Int.le_antisymm (Int.le_of_dvd h2 d1) (Int.le_of_dvd h1 d2)
  subst ey
  exact ⟨Int.eq_of_mul_eq_mul_right (by omega) e, rfl⟩
theorem Nrm.uniq {u l u' l' x y x' y' : Int} (a : Nrm u l x y) (b : Nrm u' l' x' y') (hl : l ≠ 0) (hl' : l' ≠ 0) (e : u * l' = u' * l) : x = x' ∧ y = y' := by
  refine nrm_uniq0 a.pos b.pos a.cop b.cop ?_
  have h1 := a.eq
  have h2 := b.eq
  have k : l * l' * (x * y') = l * l' * (x' * y) := by grind
  exact Int.eq_of_mul_eq_mul_left (Int.mul_ne_zero hl hl') k
/-- dividing by the greatest common divisor -/
theorem nrm_div {u l : Int} (hl : 0 < l) : Nrm u l (u / (Int.gcd u l : Int)) (l / (Int.gcd u l : Int)) := by
  have g0 : 0 < Int.gcd u l := Int.gcd_pos_of_ne_zero_right u (by omega)
  have d1 : ((Int.gcd u l : Nat) : Int) ∣ u := Int.gcd_dvd_left ..
  have d2 : ((Int.gcd u l : Nat) : Int) ∣ l := Int.gcd_dvd_right ..
  generalize hg : ((Int.gcd u l : Nat) : Int) = g at *
  have gp : 0 < g := by omega
  obtain ⟨a, ha⟩ := d1
  obtain ⟨b, hb⟩ := d2
  have ea : u / g = a := by rw [ha]; exact Int.mul_ediv_cancel_left a (by omega)
  have eb : l / g = b := by rw [hb]; exact Int.mul_ediv_cancel_left b (by omega)
  refine ⟨?_, ?_, ?_⟩
  · rw [eb]
    have : 0 < b * g := by rw [Int.mul_comm]; omega
    exact Int.pos_of_mul_pos_left this gp
  · have := Int.gcd_ediv_gcd_ediv_gcd (i := u) (j := l) g0
    rw [hg] at this
    exact this
  · rw [ea, eb, ha, hb]
    grind
theorem nrm_low {u l d : Int} (hl : l ≠ 0) (hd : d = if 0 < l then (Int.gcd u l : Int) else 0 - (Int.gcd u l : Int)) : Nrm u l (u.fdiv d) (l.fdiv d) ∧ d ≠ 0 := by
  have g0 : 0 < Int.gcd u l := Int.gcd_pos_of_ne_zero_right u hl
  have d1 : ((Int.gcd u l : Nat) : Int) ∣ u := Int.gcd_dvd_left ..
  have d2 : ((Int.gcd u l : Nat) : Int) ∣ l := Int.gcd_dvd_right ..
  have hc := Int.gcd_ediv_gcd_ediv_gcd (i := u) (j := l) g0
  generalize hg : ((Int.gcd u l : Nat) : Int) = g at *
  have gp : 0 < g := by omega
  obtain ⟨x, hx⟩ := d1
  obtain ⟨y, hy⟩ := d2
  rw [hx, hy, Int.mul_ediv_cancel_left x (by omega), Int.mul_ediv_cancel_left y (by omega)] at hc
  by_cases h : 0 < l
  · rw [if_pos h] at hd
    rw [hd]
    have ex : u.fdiv g = x := by rw [hx]; exact Int.mul_fdiv_cancel_left x (by omega)
    have ey : l.fdiv g = y := by rw [hy]; exact Int.mul_fdiv_cancel_left y (by omega)
    refine ⟨⟨?_, ?_, ?_⟩, by omega⟩
    · rw [ey]
      exact Int.pos_of_mul_pos_left (show 0 < y * g by rw [Int.mul_comm]; omega) gp
    · rw [ex, ey]
      exact hc
    · rw [ex, ey, hx, hy]
      grind
  · rw [if_neg h] at hd
    have ed : d = -g := by omega
    subst ed
    have ex : u.fdiv (-g) = -x := by rw [hx, show g * x = (-g) * (-x) by grind]; exact Int.mul_fdiv_cancel_left _ (by omega)
    have ey : l.fdiv (-g) = -y := by rw [hy, show g * y = (-g) * (-y) by grind]; exact Int.mul_fdiv_cancel_left _ (by omega)
    refine ⟨⟨?_, ?_, ?_⟩, by omega⟩
    · rw [ey]
      exact Int.pos_of_mul_pos_left (show 0 < -y * g by grind) gp
    · rw [ex, ey]
      show Nat.gcd (-x).natAbs (-y).natAbs = 1
      rw [Int.natAbs_neg, Int.natAbs_neg]
      exact hc
    · rw [ex, ey, hx, hy]
      grind
theorem Nrm.dvd {u l x y : Int} (n : Nrm u l x y) : y ∣ l ∧ x ∣ u := by
  have c := n.cop
  refine ⟨dvd_of_cop c ⟨u, by rw [n.eq, Int.mul_comm]⟩, ?_⟩
  refine dvd_of_cop (x := y) (by rw [Int.gcd_comm]; exact c) ⟨l, by rw [n.eq, Int.mul_comm]⟩
theorem Nrm.le {u l x y : Int} (n : Nrm u l x y) (hl : l ≠ 0) : y.natAbs ≤ l.natAbs ∧ x.natAbs ≤ u.natAbs := by
  obtain ⟨d1, d2⟩ := n.dvd
  refine ⟨Nat.le_of_dvd (by omega) (Int.natAbs_dvd_natAbs.mpr d1), ?_⟩
  by_cases h : u = 0
  · have e := n.eq
    rw [h, Int.zero_mul] at e
    rcases Int.mul_eq_zero.mp e with z | z
    · rw [z]
      exact Nat.zero_le _
    · exact absurd z hl
  · exact Nat.le_of_dvd (by omega) (Int.natAbs_dvd_natAbs.mpr d2)
theorem cmp_same {A B X Y M N : Int} (hM : 0 < M) (hN : 0 < N) (h1 : A * M = X * N) (h2 : B * M = Y * N) : (A = B ↔ X = Y) ∧ (A < B ↔ X < Y) := by
  refine ⟨⟨fun e => ?_, fun e => ?_⟩, ⟨fun e => ?_, fun e => ?_⟩⟩
  · exact Int.eq_of_mul_eq_mul_right (show N ≠ 0 by omega) (by rw [← h1, ← h2, e])
  · exact Int.eq_of_mul_eq_mul_right (show M ≠ 0 by omega) (by rw [h1, h2, e])
  · exact Int.lt_of_mul_lt_mul_right (by rw [← h1, ← h2]; exact Int.mul_lt_mul_of_pos_right e hM) (show 0 ≤ N by omega)
  · exact Int.lt_of_mul_lt_mul_right (by rw [h1, h2]; exact Int.mul_lt_mul_of_pos_right e hN) (show 0 ≤ M by omega)
theorem gcd_step {x y : Int} (h : 0 ≤ x) (_ : 0 < y) : Int.gcd y (x % y) = Int.gcd x y := by
  show Nat.gcd y.natAbs (x % y).natAbs = Nat.gcd x.natAbs y.natAbs
  rw [Nat.gcd_comm x.natAbs, Nat.gcd_rec y.natAbs x.natAbs, Nat.gcd_comm, Int.natAbs_emod_of_nonneg h]
theorem gcd_abs (u l : Int) : Int.gcd (if u < 0 then -u else u) (if l < 0 then -l else l) = Int.gcd u l := by
  have e : ∀ z : Int, (if z < 0 then -z else z).natAbs = z.natAbs := fun z => by split <;> omega
  show Nat.gcd _ _ = Nat.gcd _ _
  rw [e, e]
end RK

/-! try .. except (A, B, C) as e; a caught exception handed to a def -/
namespace RK
open PySem PySem.Spec PyProof.Rows L2
/-- three classes, one behind the other -/
def exm3 (K : PySem.W.Frag) (cls c1 c2 c3 : Value) : Option Bool := PySem.W.exmAny K cls [c1, c2, c3]
/-- what the clause wishes of an exception of the body: slot i is the name's -/
def wAs3 (K : PySem.W.Frag) (c1 c2 c3 : Value) (nl i : Nat) (ts : Addr → Obj → Value → Option Addr → TS) (Wout : WX) (D : Ends) : WX := fun cls d σ H =>
  ∃ b, exm3 K cls c1 c2 c3 = some b ∧
    (b = true → ∀ a oe, σ.length = nl → H a = none → Zc cls d oe → (∃ vs, oe.data = .fields vs) → ts a oe cls d { nx := fun σ' H' => D.nx (σ'.set i none) H', rt := D.rt, bk := fun σ' H' => D.bk (σ'.set i none) H', ct := fun σ' H' => D.ct (σ'.set i none) H' } (σ.set i (some (.ref a))) H) ∧
    (b = false → Wout cls d σ H)
theorem flying_push {B h : Heap} {l : List Env} {a : Addr} {Z : Obj → Prop} {o : Obj} (f : HandSPX.FlyingZ B l a Z h) : HandSPX.FlyingZ B l a Z (h.push o) := by
  obtain ⟨st, no, ff, oe, vs, T, oT, tz, g1, g2, g3, g4, g5, g6, g7, g8, g9⟩ := f
  have up : ∀ b u, h.get? b = some u → (h.push o).get? b = some u := fun b u e => Heap.get?_push_of_some _ e
  exact ⟨fun b u e => up b u (st b u e), no, ff.of_keeps fun b u e _ => ⟨u, up b u e, rfl⟩, oe, vs, T, oT, tz, up _ _ g1, g2, g3, g4, g5, g6, up _ _ g7, g8, g9⟩
section
variable {X : Cx} {x1 x2 x3 n : Str} {c1 c2 c3 : Value} {i k : Nat} {body rest : List Stmt} {b0 : Stmt} {q1 q2 q3 qt pos pos' : Pos} {tb : WX → TS} {ts : Addr → Obj → Value → Option Addr → TS} {Wout : WX}
theorem ps_try_as3 (hstk : X.stack = X.env :: X.outer) (hfrm : X.env.frame = some X.env.locals) (nd : X.N.Nodup) (hi : X.N[i]? = some n) (hloc : X.env.kindOf n = some .local)
    (C1 : Gl X x1 ∧ X.mg x1 = some c1) (C2 : Gl X x2 ∧ X.mg x2 = some c2) (C3 : Gl X x3 ∧ X.mg x3 = some c3) (tk : Takes X Wout)
    (hb : ∀ (W : WX) (pn : List (Addr × Obj)) (xe : Value → Shared → Prop), Takes (X.tr pn xe) W → PassesOwn (model X.prog X.w) X.A X.env xe → PSs (X.tr pn xe) body (tb W))
    (hsu : ∀ (a : Addr) (oe : Obj) (cls : Value) (d : Option Addr) (pn : List (Addr × Obj)), X.base.get? a = none → Zc cls d oe → (∃ vs, oe.data = .fields vs) → PSs (X.suite a ((a, oe) :: pn)) (b0 :: rest) (ts a oe cls d))
    (d1 : (x1 == ("__debug__" : Str)) = false := by decide) (d2 : (x2 == ("__debug__" : Str)) = false := by decide) (d3 : (x3 == ("__debug__" : Str)) = false := by decide) :
    PS X (.Try body [.ExceptHandler (some (.Tuple [.Name x1 q1, .Name x2 q2, .Name x3 q3] k qt)) (some n) (b0 :: rest) pos'] [] [] pos) (fun D σ H => tb (wAs3 X.K c1 c2 c3 X.N.length i ts Wout D) D σ H) := by
  refine ⟨fun pins s σ H D I h => wpAny_Try_except ?_⟩
  have ok := I.ok
  have hA : X.A.frames = some (X.env :: X.outer) := by rw [ok.frames, hstk]
  refine wpAny_mono ((hb (wAs3 X.K c1 c2 c3 X.N.length i ts Wout D) (X.pn ++ pins) (fun e sa => wpAny (model X.prog X.w) X.A (noteFrame e X.env) (fun _ sb => wpAny (model X.prog X.w) X.A (setFlight e none) (fun _ sc =>
    wpAny (model X.prog X.w) X.A (handleBy e X.env [.ExceptHandler (some (.Tuple [.Name x1 q1, .Name x2 q2, .Name x3 q3] k qt)) (some n) (b0 :: rest) pos']) (SP X pins D) X.xe sc) X.xe sb) X.xe sa) (fun u s' xx => ?_) PassesOwn.looking).run [] s σ H D (I.toTry _) h) (fun f s1 hsp => ?_) (fun e s1 he => he)
  · obtain ⟨a, B, sI, pins', σ', H', cls, d, rfl, J', nb, up, sky, na, os, ag, b, hb1, hyes, hno⟩ := xx
    have J := J'.ofTry ok
    rw [hstk] at sky
    show wpAny (model X.prog X.w) X.A (noteFrame (.ref a) X.env) _ _ _
    refine Sky.land Zc.steady hA hfrm sky fun ha fla upa => ?_
    have Ja : Inv X pins σ' H' { s' with heap := ha } := J.landed nb fla.1 (up.trans upa) os ag
    have baseN : X.base.get? a = none := by
      cases e : X.base.get? a with
      | none => rfl
      | some o =>
        exfalso
        have hn := nb a o (J.bk a o e) (fun z => by rw [(J.stack.mem z).1] at e; cases e)
        rw [fla.2.1] at hn
        cases hn
    -- what the exception is, wherever it flies
    have facts : ∀ {h : Heap}, HandSPX.FlyingZ B (X.env :: X.outer) a (Zc cls d) h → ∃ oe vs, h.get? a = some oe ∧ Zc cls d oe ∧ oe.data = .fields vs ∧ a ≠ X.env.locals ∧ a ∉ X.fs := fun {h} f => by
      obtain ⟨oe, vs, e1, e2, e3⟩ := f.there
      have no : a ∉ frs (X.env :: X.outer) := fun z => by
        obtain ⟨_, o', e', hf⟩ := f.2.2.1.mem z
        rw [e1] at e'
        cases e'
        exact hf vs e3
      refine ⟨oe, vs, e1, e2, e3, fun z => no (List.mem_filterMap.mpr ⟨X.env, List.mem_cons_self, by rw [hfrm, z]⟩), fun z => ?_⟩
      obtain ⟨ev, m1, m2⟩ := List.mem_filterMap.mp z
      exact no (List.mem_filterMap.mpr ⟨ev, List.mem_cons_of_mem _ m1, m2⟩)
    obtain ⟨oa, va, a1, a2, a3, aL, aF⟩ := facts fla
    have Sa := Ja.suite a1 a3 na aL aF
    refine wpAny_handleBy_cons (codeAny_handlers_test (wpAny_Tuple ?_)) (fun z => nomatch z)
    refine Calls.spliced_cons (ld_glob (X := X.suite a ((a, oa) :: (X.pn ++ pins))) Sa C1.1 C1.2 ?_ d1)
    refine Calls.spliced_cons (ld_glob (X := X.suite a ((a, oa) :: (X.pn ++ pins))) Sa C2.1 C2.2 ?_ d2)
    refine Calls.spliced_cons (ld_glob (X := X.suite a ((a, oa) :: (X.pn ++ pins))) Sa C3.1 C3.2 ?_ d3)
    refine Calls.spliced_nil ⟨by show 3 ≤ sizeLine; decide, ?_⟩
    have flb : HandSPX.FlyingZ B (X.env :: X.outer) a (Zc cls d) (ha.push { cls := .type "tuple", data := .seq [c1, c2, c3].toArray }) := flying_push fla
    have upb : sI.heap.UpToSlots (ha.push { cls := .type "tuple", data := .seq [c1, c2, c3].toArray }) := (up.trans upa).trans (Heap.UpToSlots.of_keeps fun b u e => Heap.get?_push_of_some _ e)
    have tup : (ha.push { cls := .type "tuple", data := .seq [c1, c2, c3].toArray }).get? ha.objs.size = some { cls := .type "tuple", data := .seq [c1, c2, c3].toArray } := Heap.get?_push_size _ rfl
    show wpAny _ _ (excMatches (.ref a) (.ref ha.objs.size)) _ _ { s' with heap := ha.push { cls := .type "tuple", data := .seq [c1, c2, c3].toArray } }
    generalize ha.push { cls := .type "tuple", data := .seq [c1, c2, c3].toArray } = hc at flb upb tup ⊢
    have Jb : Inv X pins σ' H' { s' with heap := hc } := J.landed nb flb.1 upb os ag
    obtain ⟨ob, vb, b1, b2, b3, _, _⟩ := facts flb
    refine (PySem.W.exm_tup3 (M := model X.prog X.w) Jb.kIn (fun A Q E s kp q => wpAny_typeOf_ref (kp _ _ b1) (by rw [b2.1]; exact q)) tup hb1).here ?_
    cases b with
    | true =>
      refine codeAny_handlers_suite_as (HandSPX.lands_againZ flb fun hd fld upd => ?_)
      have Jd : Inv X pins σ' H' { s' with heap := hd } := J.landed nb fld.1 (upb.trans upd) os ag
      obtain ⟨od, vd, e1, e2, e3, eL, eF⟩ := facts fld
      refine store_ok (X := X.suite a ((a, od) :: (X.pn ++ pins))) (v := .ref a) (Jd.suite e1 e3 na eL eF) nd hi (.inl hloc) rfl (fun se Se => ?_) (.inr hloc)
      refine wpAny_mono ((hsu a od cls d (X.pn ++ pins) baseN e2 ⟨_, e3⟩).run [] se _ H' _ Se (hyes rfl a od J.len na e2 ⟨_, e3⟩)) (fun f sf hsp => ?_) (fun _ _ z => z.elim)
      have gone : ∀ {σ6 : L2.St} {H6 : Hp} {Q : Shared → Prop}, Inv (X.suite a ((a, od) :: (X.pn ++ pins))) [] σ6 H6 sf → (∀ s7, Inv X pins (σ6.set i none) H6 s7 → Q s7) →
          wpAny (model X.prog X.w) X.A (do bindName X.env n .none; unbindBehindTheSuite X.env n pos') (fun _ s7 => Q s7) X.xe sf := fun {_ _ _} S6 hq => gone_ok (S6.unsuite ok) nd hi hloc hq
      cases f with
      | ret u => exact (fun ⟨v6, σ6, H6, S6, r6, w6⟩ => gone S6 fun s7 J7 => ⟨_, _, _, J7, r6, w6⟩) hsp
      | next => exact (fun ⟨σ6, H6, S6, w6⟩ => gone S6 fun s7 J7 => ⟨_, _, J7, w6⟩) hsp
      | brk => exact (fun ⟨σ6, H6, S6, w6⟩ => gone S6 fun s7 J7 => ⟨_, _, J7, w6⟩) hsp
      | cont => exact (fun ⟨σ6, H6, S6, w6⟩ => gone S6 fun s7 J7 => ⟨_, _, J7, w6⟩) hsp
    | false =>
      show wpAny _ X.A (handleBy (.ref a) X.env []) _ _ _
      refine wpAny_handleBy_nil ?_
      have flb' := flb
      obtain ⟨_, _, _, oe, vs, T, oT, tz, g1, g2, g3, g4, _⟩ := flb'
      unfold PySem.passOn
      refine wpAny_bind (wpAny_field g1 g3 g4 ?_)
      rw [if_neg (show ¬ ((Value.ref T == Value.none) = true) by simp)]
      have out : wpAny (model X.prog X.w) X.A (setFlight (.ref a) X.env.frame) (fun _ sz => wpAny (model X.prog X.w) X.A (throw (.ref a) : Sem Flow) (SP X pins D) X.xe sz) X.xe { s' with heap := hc } := by
        rw [hfrm]
        refine HandSPX.setFlight_upZ flb fun hz held upz => wpAny_throw (tk _ _ ⟨a, B, sI, pins, σ', H', cls, d, rfl, J, nb, upb.trans upz, .inr (.inr (by rw [hstk]; exact held)), na, os, ag, hno rfl⟩)
      first
        | exact wpAny_bind (wpAny_pure (wpAny_bind out))
        | exact wpAny_bind out
  · cases f with
    | ret u => exact (fun ⟨v, σ', H', J', r, w⟩ => ⟨v, σ', H', J'.ofTry ok, r, w⟩) hsp
    | next => exact (fun ⟨σ', H', J', w⟩ => wpAny_execs_nil ⟨σ', H', J'.ofTry ok, w⟩) hsp
    | brk => exact (fun ⟨σ', H', J', w⟩ => ⟨σ', H', J'.ofTry ok, w⟩) hsp
    | cont => exact (fun ⟨σ', H', J', w⟩ => ⟨σ', H', J'.ofTry ok, w⟩) hsp
end
/-! ### the caught exception as an argument -/
/-- the object at a, as it stands -/
def ExE (oe : Obj) (a : Addr) : HO := .ext fun h => h.get? a = some oe
theorem ExE.ok {P : Program} {w : World} {H : Hp} {h : Heap} {a : Addr} {oe : Obj} (e : h.get? a = some oe) : ObjOk P w H h a (ExE oe a) := ⟨e, ⟨oe, e⟩, fun _ _ q k => k _ q⟩
/-- f(.., e, ..): e is the exception that the suite holds -/
def tExc (oe : Obj) (a : Addr) (sp : Sp) (E : XK) (t : TA) : TE := fun σ H Q => t σ H fun vs H1 => sp vs (upd H1 a (ExE oe a)) (fun v H2 => H2 a = some (ExE oe a) ∧ Q v (delH H2 a)) E
section
variable {X : Cx} {CX : CXT} {k : Nat} {f : Addr} {fd : FuncData} {ps : List Str} {sp : Sp} {E : XK} {x : Str} {es : List Expr} {e : Expr} {t : TA} {a : Addr} {oe : Obj} {p pos : Pos}
theorem exc_back {H H2 : Hp} {h h' : Heap} {fs : List Addr} (ha : h.get? a = some oe) (hn : H a = none) (h2 : H2 a = some (ExE oe a)) (u : Un fs [] (upd H a (ExE oe a)) H2 h h') (e' : h'.get? a = some oe) : Un fs [] H (delH H2 a) h h' := by
  have other : ∀ {b : Addr} {o : HO}, H b = some o → b ≠ a := fun {b o} q z => by rw [z, hn] at q; cases q
  have other2 : ∀ {b : Addr} {o : HO}, H2 b = some o → (∀ φ, o ≠ .ext φ) → b ≠ a := fun {b o} q n z => by rw [z, h2] at q; cases q; exact n _ rfl
  refine ⟨fun b o q n hb hx => ?_, fun b o q n hb hx => ?_, fun b o q n hx => ?_, u.there, fun b xs q => ?_, fun b o w q => ?_, fun b tb q => ?_⟩
  · by_cases z : b = a
    · subst z
      rw [ha] at q
      cases q
      exact e'
    · exact u.keep b o q (by rw [upd_ne z]; exact n) hb hx
  · by_cases z : b = a
    · subst z
      rw [ha] at q
      cases q
      exact ⟨oe.slots, e'⟩
    · exact u.slot b o q (by rw [upd_ne z]; exact n) hb hx
  · by_cases z : b = a
    · rw [z, delH_same]
    · rw [delH_ne z]
      exact u.free b o q (by rw [upd_ne z]; exact n) hx
  · rw [delH_ne (other q)]
    exact u.tups b xs (by rw [upd_ne (other q)]; exact q)
  · rw [delH_ne (other q)]
    exact u.frzs b o w (by rw [upd_ne (other q)]; exact q)
  · rw [delH_ne (other q)]
    exact u.tbls b tb (by rw [upd_ne (other q)]; exact q)
theorem hok_del {P : Program} {w : World} {H : Hp} {h : Heap} (ok : HOk P w H h) (h2 : H a = some (ExE oe a)) : HOk P w (delH H a) h := fun b u q => by
  have hb : b ≠ a := fun z => by rw [z, delH_same] at q; cases q
  rw [delH_ne hb] at q
  refine (ok b u q).stay (fun _ _ _ r => r) (fun c r => ?_) (fun c xs r => ?_)
  · rw [delH_ne (fun z => by rw [z, h2] at r; cases r)]
    exact r
  · rw [delH_ne (fun z => by rw [z, h2] at r; cases r)]
    exact r
end
end RK

/-! isinstance and fields of an exception that a def was handed -/
namespace PySem.W
open PySem PySem.Spec PySem.Calls PyProof.Rows
section
variable {prog : Program} {w : World} {A : Around} {E : Value → Shared → Prop} {s : Shared} {K : Frag} {x D : Addr} {ox : Obj} {od : Option Obj}
theorem rk_findData {C : Addr} {name : Str} {u g : Value} (c1 : (clsIn K C).isSome = true) (c2 : findIn K (.ref C) name = some (some u)) (c3 : specialIn K u "__get__" = some (some g)) (c4 : takesIn K u = some true) : findObj K C od name = some (.bind g u) := by
  obtain ⟨cd, e⟩ := Option.isSome_iff_exists.mp c1
  unfold findObj
  simp [e, c2, c3, c4]
/-- x.__class__ of an own exception, whatever its dict -/
theorem rk_classE {Q : Option Value → Shared → Prop} (C : L2.ExcC K D) (KI : K.In s.heap) (I : InstAt s.heap x ox D od) (h : Q (some (.ref D)) { s with toks := s.toks + 1 }) : wpAny (model prog w) A (getAttr? (.ref x) "__class__") Q E s := by
  have fo : findObj K D od "__class__" = some (.bind (.builtin "getset_descriptor.__get__") (.builtin "object.__class__")) := rk_findData (by obtain ⟨cd, e, _⟩ := any_some C.hd; rw [e]; rfl) C.ha C.hn C.ht
  obtain ⟨hh, gg, dd, tt, oo⟩ := s
  have T0 := I.type (M := model prog w)
  have T1 := looks_findIn (M := model prog w) KI C.hg
  have T2 := looks_findIn (M := model prog w) KI C.hk
  have T3 := looks_find (M := model prog w) KI I fo
  have isB : Looks (model prog w) hh (isInstance (.ref x) (.type "BaseException")) true := T0.andThen (looks_subIn KI C.hs)
  have z2 : (Value.builtin "BaseException.__getattribute__" == Value.builtin "object.__getattribute__") = false := by decide +kernel
  unfold getAttr? getAttrBy? getAttrBy
  refine wpAny_bind (wpAny_mkText (wpAny_bind (wpAny_attempt (wpAny_holding (wpAny_bind (T0.at (wpAny_bind (T1.at ?_))))))))
  show wpAny _ _ (if (onTheHeap (Value.ref D) && Value.builtin "BaseException.__getattribute__" == Value.builtin "object.__getattribute__") = true then _ else _) _ _ _
  rw [z2, Bool.and_false, if_neg Bool.false_ne_true]
  unfold getAttrByItsOwn hookBefore
  refine wpAny_bind ?_
  have z3 : onTheHeap (Value.ref D) = true := rfl
  rw [if_pos z3]
  refine T2.at (wpAny_bind (wpAny_attempt (wpAny_holding ?_)))
  unfold callGetattribute
  rw [show (false && onTheHeap (Value.builtin "BaseException.__getattribute__")) = false from rfl, if_neg Bool.false_ne_true]
  unfold boundAndCalled
  rw [PySem.F.excAttr_ValueError.ga.bind (.ref x)]
  refine wpAny_bind (wpAny_pure ?_)
  show wpAny _ _ (call (.builtin "BaseException.__getattribute__") [.ref x, .str "__class__" tt]) _ _ _
  refine wpAny_call (codeAny_call_builtin PySem.F.excAttr_ValueError.ga.plain PySem.F.entry_bexc_ga (@check_slot (model prog w) _ _ ⟨hh, gg, dd, tt + 1, oo⟩ "BaseException.__getattribute__" "BaseException" "__getattribute__" (.ref x) [.str "__class__" tt] [] _ (by decide +kernel) (by decide +kernel) isB (PySem.F.args_bexc_ga (.ref x) (.str "__class__" tt)) ?_))
  unfold Builtin.«object.__getattribute__»
  refine wpAny_bind (wpAny_of_eq (a := ((Value.ref x : Value), [Value.str "__class__" tt])) (by first | rfl | (simp only [slotArgs]; rfl)) (wpAny_bind (wpAny_pure (wpAny_bind (T0.at (wpAny_bind (T3.at ?_)))))))
  show wpAny _ _ (holding [Value.builtin "object.__class__"] (call (.builtin "getset_descriptor.__get__") [.builtin "object.__class__", .ref x, .ref D]) >>= ret) _ _ _
  refine wpAny_bind (wpAny_holding (wpAny_call (class_get (s := ⟨hh, gg, dd, tt + 1, oo⟩) (ox := ox) (od := od) KI I C.hm (wpAny_pure ?_))))
  show wpAny _ _ (handedOut (.ref D)) _ _ _
  rw [handedOut_of (v := .ref D) rfl]
  first
    | exact wpAny_pure (wpAny_pure h)
    | exact wpAny_pure h
    | exact wpAny_pure (wpAny_bind (wpAny_pure (wpAny_pure h)))
theorem rk_clsObj {C : L2.ExcC K D} : ∃ oc, K.lookup D = some oc ∧ ∃ cd, oc.data = .cls cd := by
  obtain ⟨cd, e, _⟩ := any_some C.hd
  unfold clsIn at e
  split at e
  · rename_i ho
    exact ⟨_, ho, _, rfl⟩
  · cases e
theorem rk_kitE (C : L2.ExcC K D) : KitX K (.ref x) (.ref D) (fun h => InstAt h x ox D od) where
  ty := fun _ _ _ I => I.type
  it := fun M h KI I => by
    obtain ⟨oc, ho, cd, e⟩ := rk_clsObj (C := C)
    obtain ⟨c0, d0, t0, sl0⟩ := oc
    cases e
    intro A' Q' E' s' kp q
    unfold isType loadHead
    exact wpAny_bind (wpAny_loadPart (kp _ _ (KI _ _ ho)) (wpAny_pure q))
  ne := fun h tp dd its m sl KI e => by
    obtain ⟨oc, ho, cd, e2⟩ := rk_clsObj (C := C)
    refine Bool.eq_false_iff.mpr fun q => ?_
    obtain rfl : D = tp := Value.ref.inj (beq_iff_eq.mp q)
    rw [KI _ _ ho] at e
    cases e
    cases e2
  ca := fun KI I q => rk_classE C KI I q
end
end PySem.W
namespace RK
open PySem PySem.Spec PyProof.Rows L2
section
variable {X : Cx} {a D : Addr} {oe : Obj}
theorem exc_inst {h : Heap} {od : Option Addr} {o : Option Obj} (hz : Zc (.ref D) od oe) (hf : ∃ vs, oe.data = .fields vs) (e : h.get? a = some oe) (ho : match od with | none => o = none | some dd => ∃ u, h.get? dd = some u ∧ o = some u) : PySem.W.InstAt h a oe D o := by
  obtain ⟨vs, hd⟩ := hf
  refine ⟨e, hz.1, by unfold PySem.W.notCls; rw [hd] <;> rfl, ?_⟩
  rw [hz.2]
  cases od with
  | none => subst ho; trivial
  | some dd =>
    obtain ⟨u, h1, rfl⟩ := ho
    exact h1
/-- what is asked of a handed exception: its class D, its dict at dd with the fields fs -/
structure ExAt (H : Hp) (a D : Addr) (fs : List (Str × V)) : Prop where
  ex : ∃ oe dd, H a = some (ExE oe a) ∧ Zc (.ref D) (some dd) oe ∧ (∃ vs, oe.data = .fields vs) ∧ H dd = some (.xd fs)
def rIsX (K : PySem.W.Frag) : List V → Hp → VK → Prop := fun xs H Q => ∃ (a D : Addr) (fs : List (Str × V)) (c : V) (cv : Value) (b : Bool), xs = [.ref a, c] ∧ ExAt H a D fs ∧ ExcC K D ∧ (∀ u, RelV c u → u = cv) ∧ PySem.W.kitOne K (.ref D) cv = some b ∧ Q (.bl b) H
theorem cr_isX : CallR X (.builtin "isinstance") (rIsX X.K) := by
  intro pins s σ H xs us Q I r h
  obtain ⟨a, D, fs, c, cv, b, rfl, ⟨oe, dd, ha, hz, hf, hd⟩, C, hc, e, q⟩ := h
  cases r with
  | cons r1 r =>
    cases r with
    | cons r2 r =>
      cases r
      cases r1
      obtain rfl := hc _ r2
      have ea : s.heap.get? a = some oe := (I.hok a _ ha).1
      obtain ⟨mA, hns, _⟩ : ObjOk X.prog X.w H s.heap dd (.xd fs) := I.hok dd _ hd
      obtain ⟨od, ho, _⟩ := lookIn_ns hns
      exact PySem.W.kia_one (PySem.W.rk_kitE C) I.kIn (exc_inst hz hf ea ⟨od, ho, rfl⟩) e (fun z => nomatch z) fun tk => ⟨.bl b, H, I.kept (t' := tk) fun _ _ z => z, rfl, q⟩
/-- e.f -/
def tXfT (K : PySem.W.Frag) (f : Str) (te : TE) : TE := fun σ H Q => te σ H fun x H1 => ∃ (a D : Addr) (fs : List (Str × V)) (v : V), x = .ref a ∧ ExAt H1 a D fs ∧ XfC K D ∧ PySem.W.findIn K (.ref D) f = some none ∧ fs.lookup f = some v ∧ Q v H1
theorem pe_xfT {e : Expr} {te : TE} {pos : Pos} {f : Str} (he : PE X e te) (hb : attributeBase e f X.env (eval e X.env) = eval e X.env := by rfl) : PE X (.Attribute e f pos) (tXfT X.K f te) := by
  refine ⟨fun pins s σ H Q I h => attr_of hb (thn (he.run pins s σ H _ I h) fun u s1 hh => ?_)⟩
  obtain ⟨x, H1, I1, rx, a, D, fs, v, rfl, ⟨oe, dd, ha, hz, hf, hd⟩, T, hno, l, q⟩ := hh
  obtain rfl : u = Value.ref a := rx
  have ea : s1.heap.get? a = some oe := (I1.hok a _ ha).1
  obtain ⟨mA, hns, hr⟩ : ObjOk X.prog X.w H1 s1.heap dd (.xd fs) := I1.hok dd _ hd
  obtain ⟨od, ho, hl⟩ := lookIn_ns hns
  obtain ⟨u, hu, ru⟩ := RelO.some_of (v := v) (o := mA f) (by rw [← l]; exact hr f)
  exact HandSPX.exc_get I1.kIn (exc_inst hz hf ea ⟨od, ho, rfl⟩) T.ga T.gg T.exC (PySem.W.findObj_own T.hdC hno rfl (by rw [hl, hu])) (handed_of ru) ⟨v, H1, I1.tok _, ru, q⟩
end
end RK

/-! defs that are called where no text of a collection is under way (so that they may ask for such a text) -/
namespace RK
open PySem PySem.Spec PyProof.Rows L2
structure FnOkG (P : Program) (w : World) (K : PySem.W.Frag) (mg : Str → Option Value) (base : Heap) (CX : CXT) (k : Nat) (f : Addr) (fd : FuncData) (ps : List Str) (sp : Sp) : Prop where
  len : ∀ vs H Q E, sp vs H Q E → vs.length = ps.length
  run : ∀ (A : Around) (outer : List Env) (s : Shared) (H : Hp) (args : Args) (us : List Value) (vs : List V) (Q : VK) (E : XK), A.guards = some [] → Room k A → Env0 P w K mg base A outer s H → BindsTo s fd args (ps.zip us) → Vals vs us → sp vs H Q E →
    codeAny (model P w) A (.call (.ref f) args) (CR CX outer P w H s Q E) s
section
variable {P : Program} {w : World} {K : PySem.W.Frag} {mg : Str → Option Value} {base : Heap} {CX : CXT} {k : Nat} {f : Addr} {fd : FuncData} {N ps : List Str} {sp : Sp} {x qual : Str} {st : Stmt}
theorem guards_deeper {A : Around} {env : Env} (h : A.guards = some []) : (A.deeper env).guards = some [] := h
theorem FnOkG.of (F : FnOk P w K mg base CX k f fd ps sp) : FnOkG P w K mg base CX k f fd ps sp := ⟨F.len, fun A outer s H args us vs Q E _ => F.run A outer s H args us vs Q E⟩
/-- as Fun.ok, the body may use that no text of a collection is under way -/
theorem funG {CX : CXT} (F : Fun K x qual st f fd) (S : FnScope N ps (defScope st)) (len : ∀ vs H Q E, sp vs H Q E → vs.length = ps.length)
    (hbody : ∀ (cdv : Value) (A : Around) (outer : List Env) (s : Shared) (H : Hp) (vs : List V) (Q : VK) (E : XK), A.guards = some [] → Room k (A.deeper (envOfC qual (defScope st) s.heap.objs.size f cdv)) → sp vs H Q E →
      ∃ t, PSs (cxOf CX P w K mg base N qual (defScope st) f cdv A outer s H E) (defBody st) t ∧ t { nx := fun _ H' => Q .non H', rt := Q } (L2.start N vs) H) : FnOkG P w K mg base CX (k + 1) f fd ps sp := by
  obtain ⟨oc, od, kV, doc, pm, an, cdv, ct, osl, rfl, lk, hcd⟩ := F.ex
  exact ⟨len, fun A outer s H args us vs Q E hg hr e0 hb r q => LamX.run_ofS lk hcd S hr e0 hb r (len _ _ _ _ q) fun hr' => hbody cdv A outer s H vs Q E hg hr' q⟩
end
section
variable {X : Cx} {CX : CXT} {k : Nat} {f : Addr} {fd : FuncData} {ps : List Str} {sp : Sp} {E : XK} {x : Str} {es : List Expr} {e : Expr} {t : TA} {p pos : Pos}
theorem run_G {pins : List (Addr × Obj)} {σ : L2.St} {H : Hp} {s : Shared} {Q : VK} {us : List Value} {vs : List V} (F : FnOkG X.prog X.w X.K X.mg X.base CX k f fd ps sp) (hG : X.A.guards = some []) (hr : Room k X.A) (hb : L2.Binds X.K fd ps []) (hx : Passes CX X E)
    (I : Inv X pins σ H s) (r : Vals vs us) (h : sp vs H Q E) : wpAny (model X.prog X.w) X.A (call (.ref f) us) (EP X pins σ Q) X.xe s := by
  have hl : (us ++ []).length = ps.length := by rw [List.append_nil, ← r.length]; exact F.len _ _ _ _ h
  have r' : Vals vs (us ++ []) := by rw [List.append_nil]; exact r
  refine wpAny_call (codeAny_mono (F.run X.A X.stack s H ⟨us, []⟩ (us ++ []) vs Q E hG hr I.env0 (hb s us I.kIn hl) r' h) fun res s' hq => ?_)
  match res, hq with
  | .error er, hq => exact hx pins σ H s er s' I hq
  | .ok (.ret u), hq => exact I.after hq
  | .ok .next, hq => exact hq.elim
  | .ok .brk, hq => exact hq.elim
  | .ok .cont, hq => exact hq.elim
/-- f(e, ..) -/
theorem pe_callG (F : FnOkG X.prog X.w X.K X.mg X.base CX k f fd ps sp) (hG : X.A.guards = some []) (hr : Room k X.A) (hg : Gl X x) (hm : X.mg x = some (.ref f)) (hk : PySem.W.keepIn X.K (.ref f) = true) (hb : L2.Binds X.K fd ps []) (hx : Passes CX X E)
    (ha : PA X (e :: es) t) (hdb : (x == ("__debug__" : Str)) = false := by decide) (he : starEach (e :: es) X.env = (false, eval e X.env) :: starEach es X.env := by rfl) (hpl : (backTo pos (starEach es X.env)).any (·.1) = false := by rfl) :
    PE X (.Call (.Name x p) (e :: es) [] pos) (tCall sp [] E t) := by
  refine ⟨fun pins s σ H Q I h => wpAny_Call_Name_kw (ld_glob I hg hm (PySem.W.callWith_K (h₀ := X.base) I.ok.mod.kin hk (thn (ha.run pos pins s σ H _ I h) fun us s1 hh => ?_) he hpl) hdb)⟩
  obtain ⟨vs, H1, I1, r, q⟩ := hh
  exact ⟨I1.kIn, run_G F hG hr hb hx I1 r (by rw [List.append_nil] at q; exact q)⟩
end
/-! ### defs that an except suite calls -/
structure RoomS (k : Nat) (A : Around) : Prop where
  dp : A.depth + 3 * k + 5 < recursionLimit
  un : A.units + 16 * k + 200 < cLine
theorem RoomS.mono {j k : Nat} {A : Around} (r : RoomS k A) (h : j ≤ k) : RoomS j A := ⟨by have := r.dp; omega, by have := r.un; omega⟩
theorem RoomS.deeper {k : Nat} {A : Around} (r : RoomS (k + 1) A) (env : Env) : RoomS k (A.deeper env) := by
  obtain ⟨h1, h2⟩ := r
  exact ⟨by show A.depth + 1 + 3 * k + 5 < _; omega, by show A.units + 3 + 16 * k + 200 < _; omega⟩
theorem RoomS.of {k : Nat} {A : Around} (r : Room k A) : RoomS k A := ⟨r.dp, r.un⟩
theorem RoomS.units {k : Nat} {A : Around} (r : RoomS k A) : A.units + 64 < cLine := by have := r.un; omega
structure FnS (P : Program) (w : World) (K : PySem.W.Frag) (mg : Str → Option Value) (base : Heap) (CX : CXT) (k : Nat) (f : Addr) (fd : FuncData) (ps : List Str) (sp : Sp) : Prop where
  len : ∀ vs H Q E, sp vs H Q E → vs.length = ps.length
  run : ∀ (A : Around) (outer : List Env) (s : Shared) (H : Hp) (args : Args) (us : List Value) (vs : List V) (Q : VK) (E : XK), A.guards = some [] → RoomS k A → Env0 P w K mg base A outer s H → BindsTo s fd args (ps.zip us) → Vals vs us → sp vs H Q E →
    codeAny (model P w) A (.call (.ref f) args) (CR CX outer P w H s Q E) s
/-- the context of such a def's body: its own object stands as it stood -/
abbrev cxS (CX : CXT) (P : Program) (w : World) (K : PySem.W.Frag) (mg : Str → Option Value) (base : Heap) (N : List Str) (qual : Str) (scope : Scope) (f : Addr) (cd : Value) (A : Around) (outer : List Env) (s : Shared) (H : Hp) (E : XK) (o : Obj) : Cx := L2H.cxH CX P w K mg base N qual scope f cd A outer s H E (f, o)
section
variable {P : Program} {w : World} {K : PySem.W.Frag} {mg : Str → Option Value} {base : Heap} {k : Nat} {f : Addr} {fd : FuncData} {N ps : List Str} {sp : Sp} {x qual : Str} {st : Stmt}
theorem funS {CX : CXT} (F : Fun K x qual st f fd) (S : FnScope N ps (defScope st)) (len : ∀ vs H Q E, sp vs H Q E → vs.length = ps.length)
    (hbody : ∀ (cdv : Value) (o : Obj) (A : Around) (outer : List Env) (s : Shared) (H : Hp) (vs : List V) (Q : VK) (E : XK), A.guards = some [] → RoomS k (A.deeper (envOfC qual (defScope st) s.heap.objs.size f cdv)) → sp vs H Q E →
      ∃ t, PSs (cxS CX P w K mg base N qual (defScope st) f cdv A outer s H E o) (defBody st) t ∧ t { nx := fun _ H' => Q .non H', rt := Q } (L2.start N vs) H) : FnS P w K mg base CX (k + 1) f fd ps sp := by
  obtain ⟨oc, od, kV, doc, pm, an, cdv, ct, osl, rfl, lk, hcd⟩ := F.ex
  refine ⟨len, fun A outer s H args us vs Q E hG hr e0 hb r q => ?_⟩
  have inB := e0.mod.kin f _ lk
  obtain ⟨inS, fr⟩ := e0.bs f _ inB
  have KX : K.In s.heap := e0.mod.kin.keeps fun b o z => (e0.bs b o z).1
  have noL : s.heap.NoLimit := e0.mod.nolimit.keeps fun b o z => (e0.bs b o z).1
  have kinds : ∀ y ∈ ps.zip us, (defScope st).names.lookup y.1 = some .local ∨ ((defScope st).names.lookup y.1 = some .cell ∧ ((cellsFrom (s.heap.objs.size + 1) (defScope st).names []).lookup y.1).isSome = true) := fun ⟨n, v⟩ hy =>
    (S.par n (List.of_mem_zip hy).1).imp id fun z => ⟨z, PySem.W.cellsFrom_some _ _ _ (.inl z)⟩
  refine codeAny_call_function (show A.depth < recursionLimit by have := hr.dp; omega) (KX _ _ lk) rfl S.co S.gen rfl (PySem.W.codeRec_of KX hcd) (hb _ _ _ _ (wpAny_newFunctionEnv_cells S.kind kinds fun env he s1 ic => ?_))
  subst he
  refine ⟨noL.keeps ic.toInCall.keep, codeAny_func ?_⟩
  obtain ⟨t, ht, hq⟩ := hbody cdv { cls := oc, dict := od, data := .func (PySem.W.fnOf x qual (defArgs st) (defBody st) (defScope st) .none kV doc pm an cdv ct), slots := osl } A outer s H vs Q E hG (hr.deeper _) q
  have I := L2H.inv_startH (CX := CX) (E := E) S (p := (f, _)) ⟨inS, fr, (fun z => by rw [(e0.funs.mem z).1] at inB; cases inB), fun v z => (nomatch z)⟩ e0 (len _ _ _ _ q) r ic
  refine wpAny_mono (ht.run [] s1 (L2.start N vs) H _ I hq) (fun fl s' hs => ?_) fun e s' hs => hs
  match fl, hs with
  | .ret u, ⟨v, σ', H', J, rv, z⟩ => exact ⟨v, H', J.os, J.bare, J.base, J.hok, rv, z⟩
  | .next, ⟨σ', H', J, z⟩ => exact ⟨.non, H', J.os, J.bare, J.base, J.hok, rfl, z⟩
  | .brk, ⟨_, _, _, z⟩ => exact z.elim
  | .cont, ⟨_, _, _, z⟩ => exact z.elim
end
section
variable {X : Cx} {CX : CXT} {k : Nat} {f : Addr} {fd : FuncData} {ps : List Str} {sp : Sp} {E : XK} {x : Str} {es : List Expr} {e : Expr} {t : TA} {a : Addr} {oe : Obj} {p pos : Pos}
theorem pe_exc (hp : (a, oe) ∈ X.pn) (hB : X.base.get? a = none) (F : FnS X.prog X.w X.K X.mg X.base CX k f fd ps sp) (hG : X.A.guards = some []) (hr : RoomS k X.A) (hg : Gl X x) (hm : X.mg x = some (.ref f)) (hk : PySem.W.keepIn X.K (.ref f) = true) (hb : L2.Binds X.K fd ps [])
    (hE : ∀ s H e s', CX X.stack H s E e s' → False)
    (ha : PA X (e :: es) t) (hdb : (x == ("__debug__" : Str)) = false := by decide) (he : starEach (e :: es) X.env = (false, eval e X.env) :: starEach es X.env := by rfl) (hpl : (backTo pos (starEach es X.env)).any (·.1) = false := by rfl) :
    PE X (.Call (.Name x p) (e :: es) [] pos) (tExc oe a sp E t) := by
  refine ⟨fun pins s σ H Q I h => wpAny_Call_Name_kw (ld_glob I hg hm ?_ hdb)⟩
  refine PySem.W.callWith_K (h₀ := X.base) I.ok.mod.kin hk (thn (ha.run pos pins s σ H _ I h) fun us s1 hh => ?_) he hpl
  obtain ⟨vs, H1, I1, r, q⟩ := hh
  refine ⟨I1.kIn, ?_⟩
  obtain ⟨pa, pn, pl, pf, _⟩ := I1.pin (a, oe) (List.mem_append_left _ hp)
  have e0 := I1.env0
  have e1 : Env0 X.prog X.w X.K X.mg X.base X.A X.stack s1 (upd H1 a (ExE oe a)) :=
    ⟨e0.frames, e0.mod, fun b o z => ⟨(e0.bs b o z).1, by rw [upd_ne (fun w => by rw [w, hB] at z; cases z)]; exact (e0.bs b o z).2⟩, e0.bsz, e0.funs,
      fun b z => by
        rw [upd_ne (fun w => by
          rcases List.mem_cons.mp (I1.stkSub b z) with q | q
          · exact pl (w ▸ q)
          · exact pf (w ▸ q))]
        exact e0.frf b z, e0.hok.laidN (fun _ _ z => z) pn (ExE.ok pa), e0.bare⟩
  have hl : (us ++ []).length = ps.length := by rw [List.append_nil, ← r.length]; exact F.len _ _ _ _ q
  have r' : Vals vs (us ++ []) := by rw [List.append_nil]; exact r
  refine wpAny_call (codeAny_mono (F.run X.A X.stack s1 _ ⟨us, []⟩ (us ++ []) vs _ E hG hr e1 (hb s1 us I1.kIn hl) r' q) fun res s2 hq => ?_)
  cases res with
  | error er => exact (hE _ _ _ _ hq).elim
  | ok fl =>
    cases fl with
    | ret u =>
      obtain ⟨v, H2, os, bare, un, hok, rv, h2, qv⟩ := hq
      have ea : s2.heap.get? a = some oe := (hok a _ h2).1
      exact ⟨v, _, I1.call' os (exc_back pa pn h2 un ea) (hok_del hok h2) bare (fun b z => nomatch z), rv, qv⟩
    | next => exact hq.elim
    | brk => exact hq.elim
    | cont => exact hq.elim
end
end RK

/-! repr of data, where no text of a collection is under way -/
namespace RK
open PySem PySem.Spec PyProof.Rows L2
def rReprD (K : PySem.W.Frag) : List V → Hp → VK → Prop := fun xs H Q => ∃ x d, xs = [x] ∧ Dp K H x d ∧ d.showable = true ∧ d.hasDict = false ∧ d.depth < 60 ∧ d.shown.length ≤ sizeLine ∧ Q (.str d.shown) H
theorem cr_reprD {X : Cx} (hG : X.A.guards = some []) (hu : X.A.units + 64 < cLine) : CallR X (.builtin "repr") (rReprD X.K) := by
  intro pins s σ H xs us Q I r h
  obtain ⟨x, d, rfl, dp, hs, hnd, hd, hz, q⟩ := h
  obtain ⟨u, rfl, ru⟩ := vals1 r
  obtain ⟨as, rd⟩ := Dp.reads I d x u dp ru
  have big : ∀ a : Addr, u = .ref a → wpAny (model X.prog X.w) X.A (call (.builtin "repr") [u]) (EP X pins σ Q) X.xe s := fun a e => by
    subst e
    exact repr_of_reads' rd hs (PyData.noDict_hsm hnd) hG (by omega) (fun _ _ z => z) (fun h' tok tk hk => ⟨.str _, H, I.kept (t' := tk) hk, ⟨tok, rfl⟩, q⟩) hz
  cases dp with
  | lst _ _ => cases ru; exact big _ rfl
  | tup _ _ => cases ru; exact big _ rfl
  | non =>
    cases ru
    exact PySem.P.repr_of_none ⟨.str _, H, I.tok _, ⟨_, rfl⟩, q⟩
  | bl b =>
    cases ru
    exact PySem.P.repr_of_bool ⟨.str _, H, I.tok _, ⟨_, rfl⟩, by cases b <;> exact q⟩
  | int i =>
    obtain ⟨t, rfl⟩ := ru
    exact PySem.P.repr_of_int (of_decide_eq_true hs) ⟨.str _, H, I.tok _, ⟨_, rfl⟩, q⟩
  | str y =>
    obtain ⟨t, rfl⟩ := ru
    exact PySem.P.repr_of_str ⟨.str _, H, I.tok _, ⟨_, rfl⟩, q⟩ hz
end RK

/-! the end of a law whose defs ask for the texts of collections: the law's promise at the head's own surroundings -/
namespace RK
open PySem PySem.Spec PyProof.Rows L2 LamX
theorem callerG : callerA.guards = some [] := rfl
theorem law_callG {P : Program} {w : World} {K : PySem.W.Frag} {mg mb : Str → Option Value} {CX : CXT} {k : Nat} {fa a : Addr} {tb : List (Addr × Addr)} {fd : FuncData} {x : Str} {sp : Sp} {s1 : Shared} {us : List Value} {ns : List Int}
    (hK : K.In s1.heap) (hG : s1.heap.Ns mainGlobals mg) (hB : s1.heap.Ns builtinsNs mb) (hBB : ∀ x : Str, x ≠ "__name__" → mb x = bootBuiltins x) (hL : s1.heap.NoLimit) (hg : s1.gens = #[])
    (tabs : ∀ p ∈ tb, s1.heap.get? p.2 = some { cls := .none, data := .fields #[] }) (tabK : ∀ p ∈ tb, K.lookup p.2 = none) (codes : ∀ p ∈ tb, PySem.W.CodeHd s1.heap p.1 p.2)
    (hM : ∃ (bm : Addr) (ob : Obj), mg "__builtins__" = some (.ref bm) ∧ bm ≠ builtinsNs ∧ s1.heap.get? bm = some ob ∧ ob.cls = .type "module" ∧ ob.dict = some builtinsNs ∧ ob.data = .plain)
    (scr : s1.heap.get? a = some { cls := .type "list", data := .seq us.toArray }) (areI : IntsAre us ns) (len : ns.length ≤ sizeLine) (hr : Room k callerA)
    (F : ∀ base : Heap, K.In base → base.Ns mainGlobals mg → (∀ p ∈ tb, TabB base mg p.1 p.2) → FnOkG P w K mg base CX k fa fd [x] sp) (bind : ∀ (s : Shared) (u : Value), BindsTo s fd ⟨[u], []⟩ [(x, u)])
    (prom : ∀ H : Hp, (∀ p ∈ tb, H p.2 = some (.tbl #[])) → SqL K H a (ns.map V.int) → sp [.ref a] H (fun v _ => v = .bl true) fun _ _ _ => False)
    (none_ : ∀ H e s', CX [] H s1 (fun _ _ _ => False) e s' → False) :
    codeAny (model P w) callerA (.call (.ref fa) ⟨[.ref a], []⟩) (fun r s' => r = .ok (.ret (.bool true)) ∧ OldK s1.heap s'.heap ∧ s'.os = s1.os ∧ AllBare s'.gens) s1 := by
  have rel := vals_ints areI
  have lenU := areI.length
  generalize eT : tb.map (·.2) = TT
  have inT : ∀ p ∈ tb, p.2 ∈ TT := fun p hp => eT ▸ List.mem_map.mpr ⟨p, hp, rfl⟩
  have ofT : ∀ {b : Addr}, b ∈ TT → ∃ p ∈ tb, p.2 = b := fun {b} h => List.mem_map.mp (eT.symm ▸ h)
  have tabAt : ∀ {b : Addr}, b ∈ TT → s1.heap.get? b = some { cls := .none, data := .fields #[] } := fun {b} h => by
    obtain ⟨p, hp, rfl⟩ := ofT h
    exact tabs p hp
  have scrT : a ∉ TT := fun z => by
    have := (tabAt z).symm.trans scr
    cases this
  have go : ∀ H : Hp, (∀ p ∈ tb, H p.2 = some (.tbl #[])) → (∀ b u, H b = some u → (b = a ∧ (∃ o xs, u = .frz o (.lst xs)) ∧ K.lookup a = none) ∨ (b ∈ TT ∧ u = .tbl #[])) → SqL K H a (ns.map V.int) → HOk P w H s1.heap →
      codeAny (model P w) callerA (.call (.ref fa) ⟨[.ref a], []⟩) (fun r s' => r = .ok (.ret (.bool true)) ∧ OldK s1.heap s'.heap ∧ s'.os = s1.os ∧ AllBare s'.gens) s1 := by
    intro H hT what hS hok
    have sees : ∀ {b : Addr} {o : Obj}, s1.heap.get? b = some o → H b = none → (hidT s1.heap H).get? b = some o := fun e n => hidT_get e n
    have plain : ∀ {b : Addr} {o : Obj}, s1.heap.get? b = some o → (∀ vs n, o.data ≠ .seq vs n) → o.data ≠ .fields #[] → H b = none := fun {b o} e d1 d2 => by
      cases q : H b with
      | none => rfl
      | some u =>
        exfalso
        rcases what b u q with ⟨rfl, _⟩ | ⟨hb, _⟩
        · rw [scr] at e
          cases e
          exact d1 _ _ rfl
        · rw [tabAt hb] at e
          cases e
          exact d2 rfl
    have dicts : ∀ {b : Addr} {o : Obj} {es : Array DictEntry} {ep : Nat}, s1.heap.get? b = some o → o.data = .dict es ep → H b = none := fun e d => plain e (fun vs n z => by rw [d] at z; cases z) (fun z => by rw [d] at z; cases z)
    have nsT : ∀ {b : Addr} {m : Str → Option Value}, s1.heap.Ns b m → (hidT s1.heap H).Ns b m := fun {b m} ⟨o, es, ep, e, d, r⟩ => ⟨o, es, ep, sees e (dicts e d), d, r⟩
    have inB : K.In (hidT s1.heap H) := fun b o e => sees (hK b o e) (by
      cases q : H b with
      | none => rfl
      | some u =>
        exfalso
        rcases what b u q with ⟨rfl, _, nK⟩ | ⟨hb, _⟩
        · rw [nK] at e
          cases e
        · obtain ⟨p, hp, rfl⟩ := ofT hb
          rw [tabK p hp] at e
          cases e)
    have modB : L2.Mod K mg (hidT s1.heap H) := ⟨inB, nsT hG, ⟨mb, nsT hB, hBB⟩, by obtain ⟨mc, l1, l2⟩ := hL; exact ⟨mc, nsT l1, l2⟩⟩
    have tabB : ∀ p ∈ tb, TabB (hidT s1.heap H) mg p.1 p.2 := fun p hp => by
      refine ⟨?_, ?_, fun z => ?_⟩
      · obtain ⟨o, ws, file, tf, flags, tg, inF, text, tt, e1, r1, r2, r3, rest⟩ := codes p hp
        refine ⟨o, ws, file, tf, flags, tg, inF, text, tt, sees e1 (plain e1 (fun vs n z => by rw [r2] at z; cases z) (fun z => ?_)), r1, r2, r3, rest⟩
        rw [r2] at z
        cases z
        simp at r3
      · obtain ⟨bm, ob, b1, b2, b3, b4, b5, b6⟩ := hM
        refine ⟨bm, ob, b1, b2, fun q => ?_, fun q => ?_, sees b3 (plain b3 (fun vs n z => by rw [b6] at z; cases z) (fun z => by rw [b6] at z; cases z)), b4, b5, b6⟩
        · obtain ⟨o, es, ep, e, hd, _⟩ := hG
          rw [q, e] at b3
          cases b3
          rw [hd] at b6
          cases b6
        · rw [q, tabs p hp] at b3
          cases b3
          cases b6
      · obtain ⟨o, es, ep, e, hd, _⟩ := hG
        rw [z, tabs p hp] at e
        cases e
        cases hd
    have start : Env0 P w K mg (hidT s1.heap H) callerA [] s1 H := ⟨rfl, modB, fun b o e => of_hidT e, Nat.le_of_eq (hidT_size _ _), trivial, (fun b z => absurd (show b ∈ ([] : List Addr) from z) List.not_mem_nil), hok, .of_eq hg⟩
    refine codeAny_mono ((F _ inB (nsT hG) tabB).run callerA [] s1 H ⟨[.ref a], []⟩ [.ref a] [.ref a] _ _ callerG hr start (bind s1 (.ref a)) (.cons rfl .nil) (prom H hT hS)) fun r s2 res => ?_
    match r, res with
    | .error e, res => exact (none_ H e s2 res).elim
    | .ok .next, res => exact res.elim
    | .ok .brk, res => exact res.elim
    | .ok .cont, res => exact res.elim
    | .ok (.ret u), ⟨v, H2, os, bare, un, hok2, rv, q⟩ =>
      have qv : v = .bl true := q
      subst qv
      obtain rfl : u = Value.bool true := rv
      have old : ∀ {b : Addr} {o : Obj}, b ∉ TT → s1.heap.get? b = some o → s2.heap.get? b = some o := fun {b o} nb e => by
        cases hq : H b with
        | none => exact un.keep b o e hq (fun z => absurd (show b ∈ ([] : List Addr) from z) List.not_mem_nil) List.not_mem_nil
        | some u =>
          rcases what b u hq with ⟨_, ⟨ob, xs, rfl⟩, _⟩ | ⟨hb, _⟩
          · have e1 := (hok b _ hq).1
            have e2 := (hok2 b _ (un.frzs b ob _ hq)).1
            rw [e] at e1
            cases e1
            exact e2
          · exact absurd hb nb
      have more : ∀ p ∈ tb, ∃ m : Array Value, s2.heap.get? p.2 = some { cls := .none, data := .fields m } := fun p hp => by
        obtain ⟨m, z⟩ := un.tbls p.2 #[] (hT p hp)
        exact ⟨_, hok2 p.2 _ z⟩
      refine ⟨rfl, ⟨fun b o e => ?_, fun b o e => ?_⟩, os, bare⟩
      · by_cases hb : b ∈ TT
        · obtain ⟨p, hp, rfl⟩ := ofT hb
          obtain ⟨m, hm⟩ := more p hp
          rw [tabs p hp] at e
          cases e
          exact .inr (.inl ⟨((codes p hp).tab (tabs p hp)).isCodeTable, rfl, #[], m, rfl, by rw [Array.empty_append]; exact hm⟩)
        · exact .inl (old hb e)
      · by_cases hb : b ∈ TT
        · obtain ⟨p, hp, rfl⟩ := ofT hb
          obtain ⟨m, hm⟩ := more p hp
          exact ⟨_, hm⟩
        · exact ⟨o, old hb e⟩
  -- the heap as it is tracked in the beginning
  cases own : K.lookup a with
  | some o =>
    have e := hK a o own
    rw [scr] at e
    cases e
    refine go (fun b => if b ∈ TT then some (.tbl #[]) else none) (fun p hp => if_pos (inT p hp)) (fun b u h => ?_) (.inr ⟨_, us.toArray, _, own, rfl, rfl, rfl, by rw [List.size_toArray, lenU]; exact len, by simpa using rel⟩) (fun b u h => ?_)
    all_goals
      try dsimp only at h
      split at h
      · rename_i hb
        cases h
        first
          | exact .inr ⟨hb, rfl⟩
          | exact tabAt hb
      · cases h
  | none =>
    refine go (fun b => if b = a then some (.frz { cls := .type "list", data := .seq us.toArray } (.lst (ns.map V.int))) else if b ∈ TT then some (.tbl #[]) else none) (fun p hp => ?_) (fun b u h => ?_) (.inl (.inr ⟨{ cls := .type "list", data := .seq us.toArray }, if_pos rfl⟩)) (fun b u h => ?_)
    · try dsimp only
      rw [if_neg (show ¬ p.2 = a from fun z => scrT (z ▸ inT p hp)), if_pos (inT p hp)]
    · try dsimp only at h
      split at h
      · rename_i hb
        cases h
        exact .inl ⟨hb, ⟨_, _, rfl⟩, own⟩
      · split at h
        · rename_i hb
          cases h
          exact .inr ⟨hb, rfl⟩
        · cases h
    · try dsimp only at h
      split at h
      · rename_i hb
        cases h
        rw [hb]
        exact ⟨scr, by rw [List.length_map]; exact len, us, _, rel, scr⟩
      · split at h
        · rename_i hb
          cases h
          exact tabAt hb
        · cases h
/-- F is told the tables of the defs' code objects, too (all empty) -/
theorem walk_G {l : PySem.W.OpenLaw} {n k : Nat} {q : Program} {loose : List Str} {XP : (Str → Option Value) → Heap → Prop} {YP : World → Heap → Prop} {d : DefRec} {K : Params → PySem.W.Frag} {CX : World → CXT} {x : Str}
    (hn : l.most = some n) (hn2 : n ≤ sizeLine) (hdf : d.params.defaults = []) (hr : Room k callerA) (hY : ∀ (w : World) (h : Heap), YP w h → (K w.params).In h)
    (F : ∀ (w : World) (mg : Str → Option Value) (fa : Addr) (h : Heap), YP w h → (K w.params).In h → h.Ns mainGlobals mg → mg d.name = some (.ref fa) →
      (∀ e ∈ recsOf q, ∃ a o fd c P, mg e.name = some (.ref a) ∧ h.get? a = some o ∧ o.data = .func fd ∧ fd.code = .ref c ∧ h.IsCode c P #[] ∧ h.TableAt c P #[]) →
      ∃ (fd : FuncData) (tb : List (Addr × Addr)) (sp : Sp), (∀ p ∈ tb, h.get? p.2 = some { cls := .none, data := .fields #[] }) ∧ (∀ p ∈ tb, (K w.params).lookup p.2 = none) ∧ (∀ p ∈ tb, PySem.W.CodeHd h p.1 p.2) ∧ (∀ (s : Shared) (u : Value), BindsTo s fd ⟨[u], []⟩ [(x, u)]) ∧
        (∀ (H : Hp) (a : Addr) (ns : List Int), ns.length ≤ n → (∀ z ∈ ns, Builtin.Int.intBits z ≤ 1048576) → (∀ p ∈ tb, H p.2 = some (.tbl #[])) → SqL (K w.params) H a (ns.map V.int) → sp [.ref a] H (fun v _ => v = .bl true) fun _ _ _ => False) ∧
        ∀ base : Heap, (K w.params).In base → base.Ns mainGlobals mg → (∀ p ∈ tb, TabB base mg p.1 p.2) → FnOkG l.prog w (K w.params) mg base (CX w) k fa fd [x] sp)
    (hCX : ∀ (w : World) (H : Hp) (s : Shared) (e : Value) (s' : Shared), CX w [] H s (fun _ _ _ => False) e s' → False) : PySem.W.WalkO q loose XP YP l.row.toRowW d [] (fun f vs => PySem.call f vs) :=
  Att.attach_callB hn hdf fun w s0 s1 mg mb fa o pm cd doc a us ns G Y ho hd hcd hmg hobj areI len bits hg => by
    obtain ⟨fd, tb, sp, t1, t2, t3, hb, hsp, hF⟩ := F w mg fa _ Y (hY w _ Y) G.T.g hmg G.T.tab
    exact law_callG (hY w _ Y) G.T.g G.T.b G.T.builtins G.T.nolimit hg t1 t2 t3 G.T.bmain hobj areI (Nat.le_trans len hn2) hr hF hb (fun H hH hS => hsp H a ns len bits hH hS) fun H e s' => hCX w H s1 e s'
end RK

/-! told: try: got = act() / except (A, B, C) as e: return sort(e); behind it: return [word, got] -/
namespace RK
open PySem PySem.Spec PyProof.Rows L2 LamX
/-- what it makes of the reading of the lambda; spS: what sort promises -/
def TTold3 (K : PySem.W.Frag) (c1 c2 c3 : Value) (spS : Sp) (word : Str) : (XK → Hp → VK → Prop) → Hp → VK → Prop := fun tl H Q =>
  tl (fun cls d H' => ∃ b, exm3 K cls c1 c2 c3 = some b ∧
      (b = true → ∀ a oe, H' a = none → Zc cls d oe → (∃ vs, oe.data = .fields vs) → spS [.ref a] (upd H' a (ExE oe a)) (fun v H2 => H2 a = some (ExE oe a) ∧ Q v (delH H2 a)) C8.E0) ∧ (b = false → False)) H
    fun v H' => ∀ p, H' p = none → Q (.ref p) (upd H' p (.lst [.str word, v]))
section
variable {X : Cx}
/-- a reading, and what follows from its end -/
theorem pe_wk {e : Expr} {te : TE} (h : PE X e te) : PE X e (fun σ H Q => ∃ R : VK, te σ H R ∧ ∀ v H', R v H' → Q v H') :=
  ⟨fun pins s σ H Q I w => by
    obtain ⟨R, w1, w2⟩ := w
    exact wpAny_mono (h.run pins s σ H R I w1) (fun u s' z => by obtain ⟨v, H', I', r, q⟩ := z; exact ⟨v, H', I', r, w2 v H' q⟩) fun _ _ z => z⟩
theorem told_gives3 {x a got e srt word : Str} {x1 x2 x3 : Str} {sg : Scope} {g fS : Addr} {fdS : FuncData} {psS : List Str} {spS : Sp} {c1 c2 c3 cdg : Value} {q : Str} {j k kk : Nat} {n1 n2 n3 n4 n5 n6 n7 n8 n9 m1 m2 m3 m4 m5 m6 m7 m8 m9 : Pos}
    (hG : X.A.guards = some []) (hr : Room (k + 1) X.A) (F : FnS X.prog X.w X.K X.mg X.base C8.CX0 k fS fdS psS spS)
    (S : FnScope [a, got, e] [a] sg) (h1 : sg.names.lookup x1 = some .globalImplicit) (h2 : sg.names.lookup x2 = some .globalImplicit) (h3 : sg.names.lookup x3 = some .globalImplicit) (hs : sg.names.lookup srt = some .globalImplicit)
    (g1 : X.mg x1 = some c1) (g2 : X.mg x2 = some c2) (g3 : X.mg x3 = some c3) (gs : X.mg srt = some (.ref fS)) (ks : PySem.W.keepIn X.K (.ref fS) = true) (bs : L2.Binds X.K fdS psS [])
    (lg : sg.names.lookup got = some .local) (le : sg.names.lookup e = some .local)
    (d1 : (x1 == ("__debug__" : Str)) = false) (d2 : (x2 == ("__debug__" : Str)) = false) (d3 : (x3 == ("__debug__" : Str)) = false) (ds : (srt == ("__debug__" : Str)) = false)
    (de : (e == ("__debug__" : Str)) = false) (ce : (e == ("__classdict__" : Str)) = false) (dg : (got == ("__debug__" : Str)) = false) (cg : (got == ("__classdict__" : Str)) = false) :
    GivesTo X [a, got, e] x sg g cdg [.Try [.Assign [.Name got n1] (.Call (.Name a n2) [] [] n3) n4] [.ExceptHandler (some (.Tuple [.Name x1 n5, .Name x2 n6, .Name x3 n7] kk n8)) (some e) [.Return (some (.Call (.Name srt m1) [.Name e m2] [] m3)) m4] m5] [] [] m6, .Return (some (.List [.Constant (.str word) j m7, .Name got m8] m9)) n9] a q
      (TTold3 X.K c1 c2 c3 spS word) := by
  intro f c' s H Q tl act hc h
  refine ⟨_, pss_cons (ps_try_as3 (X := (cxOf C8.CX0 X.prog X.w X.K X.mg X.base [a, got, e] x sg g cdg X.A X.stack s H C8.E0).nox) (i := 2)
      (tb := fun W D σ H => ∃ Ech : XK, (∀ cls d σ' H', Ech cls d H' → W cls d σ' H') ∧ σ[0]? = some (some (.ref f)) ∧ H c' = some (CodeO c' q) ∧ ∃ R : VK, tl Ech H R ∧ ∀ v H1, R v H1 → D.nx (σ.set 1 (some v)) H1)
      (Wout := fun _ _ _ _ => False) rfl rfl S.nd rfl le ⟨h1, g1⟩ ⟨h2, g2⟩ ⟨h3, g3⟩ LamX.takes0 (fun W pn xe tk hp => ?_)
      (fun b oe cls d pn hB hz hf => pss_one (ps_ret (pe_exc (a := b) (oe := oe) (E := C8.E0) (List.mem_cons_self) hB F hG ?_ hs gs ks bs (fun _ _ _ _ z => z.elim) (pa_cons (pe_var (i := 2) rfl (.inl le) de ce) pa_nil) ds))) d1 d2 d3) (pss_one (ps_ret (pe_lst (pa_cons pe_str (pa_cons (pe_var (i := 1) rfl (.inl lg) dg cg) pa_nil))))), ?_⟩
  · refine ⟨fun pins s' σ H' D I h' => ?_⟩
    obtain ⟨Ech, hW, w1, w2, R, w3, w4⟩ := h'
    exact (pss_one (ps_set (i := 1) S.nd rfl (Or.inl lg) (pe_wk (act W pn xe Ech n2 n3 tk hW)))).run pins s' σ H' D I ⟨R, ⟨w1, w2, w3⟩, w4⟩
  · exact ⟨(hr.deeper (envOfC x sg s.heap.objs.size g cdg)).dp, (hr.deeper (envOfC x sg s.heap.objs.size g cdg)).un⟩
  · refine ⟨_, fun cls d σ' H' w => ?_, rfl, hc, _, h, fun v H1 w => ?_⟩
    · obtain ⟨b, e1, e2, e3⟩ := w
      refine ⟨b, e1, fun hb a' oe hl na hz hf => ?_, fun hb => (e3 hb).elim⟩
      refine ⟨.ref a', ?_, e2 hb a' oe na hz hf⟩
      rw [List.getElem?_set_self (by rw [hl]; show 2 < 3; decide)]
    · exact ⟨v, rfl, by show 2 ≤ sizeLine; decide, w⟩
end
end RK

/-! an own exception class over ValueError, from facts that are looked up -/
namespace RK
open PySem PySem.Spec PyProof.Rows L2
/-- the shape of its class object -/
def oexS (C : Addr) (cd : ClassData) (sl : Array (Option Value)) : Bool := match cd.mro, sl.toList with
  | .ref C' :: bm, [_, _, _, _, some (.builtin n), _] => decide (C' = C) && decide (n = "ValueError.__new__") && !cd.hasDel && cd.hasDict && PySem.HandSPX.refsVE bm
  | _, _ => false
theorem oex_mk {K : PySem.W.Frag} {C : Addr} {dd : Option Addr} {cd : ClassData} {sl : Array (Option Value)} (l : K.lookup C = some ⟨.type "type", dd, .cls cd, sl⟩) (y : oexS C cd sl = true)
    (sa : PySem.W.findIn K (.ref C) "__setattr__" = some (some (.builtin "object.__setattr__"))) (ex : PySem.W.subIn K (.ref C) (.type "BaseException") = some true) (ty : PySem.W.typeIn K (.ref C) = some (.type "type")) (kc : PySem.W.keepIn K (.ref C) = true) : OexC K C := by
  refine ⟨?_, sa, ex, ty, kc⟩
  unfold oexS at y
  split at y
  · rename_i C' bm k0 k1 k2 k3 n k5 em es
    obtain ⟨ls⟩ := sl
    dsimp only at es
    subst es
    obtain ⟨nm, bs, mro, ns, qn, hd, sn, sub, ab, col, del⟩ := cd
    dsimp only at em y
    subst em
    obtain ⟨y, rv⟩ := Bool.and_eq_true_iff.mp y
    obtain ⟨y, y1⟩ := Bool.and_eq_true_iff.mp y
    obtain ⟨y, y2⟩ := Bool.and_eq_true_iff.mp y
    obtain ⟨y3, y4⟩ := Bool.and_eq_true_iff.mp y
    obtain rfl := of_decide_eq_true y3
    obtain rfl := of_decide_eq_true y4
    cases hd with
    | false => cases y1
    | true =>
      cases del with
      | true => cases y2
      | false => exact ⟨nm, qn, ns, bs, bm, sn, sub, ab, col, dd, k0, k1, k2, k3, k5, l, rv⟩
  · cases y
/-- xs.count(True), xs a list of truths -/
def rCntB (K : PySem.W.Frag) : V → List V → Hp → VK → Prop := fun x xs H Q => ∃ (p : Addr) (bs : List Bool), x = .ref p ∧ xs = [.bl true] ∧ SqL K H p (bs.map V.bl) ∧ Q (.int (bs.count true : Nat)) H
def isTrue (v : Value) : Bool := match v with
  | .bool b => b == true
  | _ => false
theorem bools_of : ∀ {bs : List Bool} {us : List Value}, Vals (bs.map V.bl) us → us = bs.map Value.bool
  | [], _, .nil => rfl
  | b :: r, _, .cons h t => by
    cases h
    rw [bools_of t]
    rfl
theorem count_true : ∀ bs : List Bool, (bs.map Value.bool).countP isTrue = bs.count true
  | [] => rfl
  | b :: r => by
    rw [List.map_cons, List.countP_cons, List.count_cons, count_true r]
    cases b <;> rfl
theorem mt_countB {X : Cx} : MtR X "list.count" (rCntB X.K) := by
  intro pins s σ H x xs v us Q I rx rxs h
  obtain ⟨p, bs, rfl, rfl, hs, q⟩ := h
  cases rx
  obtain ⟨u, rfl, ru⟩ := rxs.one
  cases ru
  obtain ⟨its, rv, ⟨⟨cls, dd, data, sl⟩, n, ho, hc, _, hd⟩, _⟩ := I.list hs
  dsimp only at hc hd
  subst hc hd
  obtain rfl := bools_of rv
  refine call_meets PySem.F.slot_list_count ⟨_, ho, rfl⟩ PySem.F.entry_list_count (PySem.F.args_list_count_2 _ _) (SeqAt.list_countAt p _ n dd sl (.bool true) isTrue) ⟨ho, fun y hy => ?_, ?_⟩
  · obtain ⟨b, _, rfl⟩ := List.mem_map.mp (show y ∈ bs.map Value.bool by simpa using hy)
    exact SeqAt.EqAt.bool_bool b true
  · exact ⟨.int (bs.count true : Nat), H, I.tok _, ⟨s.toks, by show Value.int (((bs.map Value.bool).countP isTrue : Nat) : Int) s.toks = _; rw [count_true]⟩, q⟩
end RK

/-! str(x) of an instance whose class has an own __str__ -/
namespace RK
open PySem PySem.Spec PyProof.Rows L2
section
variable {prog : Program} {w : World} {A : Around} {E : Value → Shared → Prop} {s : Shared} {K : PySem.W.Frag} {x C f : Addr} {ox : Obj} {od : Option Obj}
theorem strOf_own {Q : Value → Shared → Prop} (hu : A.units < cLine) (KI : K.In s.heap) (I : PySem.W.InstAt s.heap x ox C od) (hs : PySem.W.findIn K (.ref C) "__str__" = some (some (.ref f))) (hf : PySem.W.isFn K (.ref f) = true)
    (h : wpAny (model prog w) A (call (.ref f) [.ref x]) (fun r s1 => ∃ y u, r = Value.str y u ∧ Q r s1) E s) : wpAny (model prog w) A (Builtin.Str.strOf (.ref x)) Q E s := by
  unfold Builtin.Str.strOf
  rw [show Builtin.Str.isExactStr (.ref x) = false from rfl, if_neg Bool.false_ne_true]
  refine wpAny_bind (m := cRoomFor _ _) (wpAny_cRoomFor hu (wpAny_bind (m := callSpecial? (.ref x) (Str.ofString "__str__")) (PySem.W.special_fn KI I hs (beq_iff_eq.mp hf) (wpAny_mono h (fun r s1 z => ?_) fun _ _ y => y))))
  obtain ⟨y, u, rfl, q⟩ := z
  exact wpAny_pure q
theorem str_ownI {Q : Value → Shared → Prop} (hu : A.in1.in1.units < cLine) (KI : K.In s.heap) (I : PySem.W.InstAt s.heap x ox C od) (hs : PySem.W.findIn K (.ref C) "__str__" = some (some (.ref f))) (hf : PySem.W.isFn K (.ref f) = true)
    (h : wpAny (model prog w) A.in1.in1 (call (.ref f) [.ref x]) (fun r s1 => ∃ y u, r = Value.str y u ∧ Q r s1) E s) : wpAny (model prog w) A (call (.type "str") [.ref x]) Q E s := by
  refine callType_codes (T := "str") (Bi := Builtin.«object.__init__») (Q₁ := fun r s1 => ∃ y u, r = Value.str y u ∧ Q r s1) PySem.F.called_str (PySem.F.typeCall_str_1 _) PySem.F.entry_object_init (codeAny_of_tree ?_) (fun obj s1 z => ?_)
  · show wpAny _ A.in1.in1 (do checkBuiltinCall "str.__new__" ⟨[.type "str", .ref x], []⟩; again (.builtin "str.__new__" ⟨[.type "str", .ref x], []⟩)) _ _ s
    refine wpAny_bind (wpAny_of_eq (PySem.F.newCall_str_1 _) (wpAny_pure ⟨plainId_quiet (by decide +kernel) _, codeAny_builtin PySem.F.entry_str_new ?_⟩))
    rw [Around.under_plainId (by decide +kernel) _, str_new_tree (.ref x)]
    refine wpAny_bind (wpAny_pure (wpAny_bind (wpAny_of_eq isSubtype_str_str (wpAny_bind (strOf_own hu KI I hs hf (wpAny_mono h (fun r s1 z => ?_) fun _ _ y => y))))))
    obtain ⟨y, u, rfl, q⟩ := z
    exact ⟨y, u, rfl, wpAny_pure ⟨y, u, rfl, q⟩⟩
  · obtain ⟨y, u, rfl, q⟩ := z
    exact ⟨typeIs_str _ _ _, PySem.F.args_object_init_2 _ _, object_init_meets PySem.F.called_str.init.lookup PySem.F.called_str.made (by decide) prog w A.in1 _ s1 ⟨typeIs_str _ _ _, rfl, q⟩⟩
end
section
variable {X : Cx} {CX : CXT} {n : Nat} {C f : Addr} {fd : FuncData} {ps : List Str} {sp : Sp} {E : XK}
/-- str(x), x an instance of the class at C -/
def rStrO (C : Addr) (sp : Sp) (E : XK) : List V → Hp → VK → Prop := fun xs H Q => ∃ p dx fs, xs = [.ref p] ∧ H p = some (.ins C dx fs) ∧ sp [.ref p] H (fun v H' => ∃ y, v = .str y ∧ Q (.str y) H') E
theorem cr_strO (hs : PySem.W.findIn X.K (.ref C) "__str__" = some (some (.ref f))) (hf : PySem.W.isFn X.K (.ref f) = true) (F : FnOk X.prog X.w X.K X.mg X.base CX n f fd ps sp) (hr : Room (n + 2) X.A) (hb : L2.Binds X.K fd ps []) (hx : Passes CX X E) :
    CallR X (.type "str") (rStrO C sp E) := by
  intro pins s σ H xs us Q I r h
  obtain ⟨p, dx, fs, rfl, hp, q⟩ := h
  obtain ⟨u, rfl, ru⟩ := vals1 r
  cases (show u = Value.ref p from ru)
  obtain ⟨od, J⟩ := inst_at I hp
  have hr2 : Room n X.A.in1.in1 := (Room.in1 (k := n + 1) hr).in1
  have hl := F.len _ _ _ _ q
  have rv : Vals [V.ref p] ([Value.ref p] ++ []) := .cons rfl .nil
  refine str_ownI (by have := hr2.un; omega) I.kIn J hs hf (wpAny_call (codeAny_mono (F.run X.A.in1.in1 X.stack s H ⟨[.ref p], []⟩ ([Value.ref p] ++ []) [.ref p] _ E hr2 I.env0.in1.in1 (hb s [Value.ref p] I.kIn (by rw [List.append_nil]; exact hl)) rv q) fun res s' hq => ?_))
  match res, hq with
  | .error er, hq => exact hx pins σ H s er s' I hq
  | .ok (.ret v), hq =>
    obtain ⟨z, H', I', rz, y, rfl, qz⟩ := I.after hq
    obtain ⟨t, rfl⟩ := rz
    exact ⟨y, t, rfl, .str y, H', I', ⟨t, rfl⟩, qz⟩
  | .ok .next, hq => exact hq.elim
  | .ok .brk, hq => exact hq.elim
  | .ok .cont, hq => exact hq.elim
end
end RK

/-! C.m(e, ..) where m is a staticmethod of the class at C -/
namespace RK
open PySem PySem.Spec PyProof.Rows L2
structure SMet (K : PySem.W.Frag) (C : Addr) (mc : Value) (m : Str) (p g : Addr) : Prop where
  at_ : PySem.W.findCls K (.ref C) mc m = some (.get (.builtin "staticmethod.__get__") (.ref p) .none (.ref C))
  rc : ∃ rest, PySem.W.recIn K p "staticmethod" = some (.ref g :: rest)
  rd : PySem.W.readsIn K C mc = true
  ga : PySem.W.specialIn K (.ref C) "__getattribute__" = some (some (.builtin "type.__getattribute__"))
  kp : PySem.W.keepIn K (.ref g) = true
def tSMeth (C : Addr) (sp : Sp) (E : XK) (ta : TE) (t : TA) : TE := fun σ H Q => ta σ H fun x H1 => x = .ref C ∧ t σ H1 fun vs H2 => sp vs H2 Q E
section
variable {X : Cx} {CX : CXT} {k : Nat} {C p g : Addr} {mc : Value} {m : Str} {fd : FuncData} {ps : List Str} {sp : Sp} {E : XK} {o e : Expr} {es : List Expr} {ta : TE} {t : TA} {apos pos : Pos}
theorem pe_smeth {pl : Sem Bool} (he : PE X o ta) (c : SMet X.K C mc m p g) (F : FnOk X.prog X.w X.K X.mg X.base CX k g fd ps sp) (hr : Room k X.A) (hb : L2.Binds X.K fd ps []) (hx : Passes CX X E) (ha : PA X (e :: es) t)
    (hst : starEach (e :: es) X.env = (false, eval e X.env) :: starEach es X.env := by rfl) (hpl : (backTo pos (starEach es X.env)).any (·.1) = false := by rfl)
    (ht : eval (.Call (.Attribute o m apos) (e :: es) [] pos) X.env = (do
      let ov ← eval o X.env
      standAt apos.atName
      let (f, first) ← holding [ov] (getMethod ov m pl)
      callWith pos f first (backTo pos (starEach (e :: es) X.env)) (backToKw pos (keywordEach [] X.env))) := by rfl) :
    PE X (.Call (.Attribute o m apos) (e :: es) [] pos) (tSMeth C sp E ta t) := by
  refine ⟨fun pins s σ H Q I h => PySem.W.methodCall_KW (pl := pl) (thn (he.run pins s σ H _ I h) fun u s1 hh => ?_) ht⟩
  obtain ⟨x, H1, I1, rx, rfl, q⟩ := hh
  obtain rfl : u = Value.ref C := rx
  obtain ⟨rest, hp⟩ := c.rc
  refine PySem.W.method_cls I1.kIn c.ga (PySem.W.cls_bind I1.kIn c.rd c.at_ (wpAny_call (PySem.W.sm_get (s := { s1 with toks := s1.toks + 1 }) I1.kIn hp (PySem.W.handed_on rfl ?_))))
  have I2 := I1.kept (h' := s1.heap) (t' := s1.toks + 1) fun _ _ z => z
  refine PySem.W.callWith_K (h₀ := X.base) I2.ok.mod.kin c.kp (thn (ha.run pos pins _ σ H1 _ I2 q) fun us s3 hh => ?_) hst hpl
  obtain ⟨vs, H2, I3, rv, q2⟩ := hh
  exact ⟨I3.kIn, run_fn F hr hb .nil hx I3 rv (by rw [List.append_nil]; exact q2)⟩
/-- C.m(k = v, ..) -/
def tSMethK (C : Addr) (ks : List Str) (sp : Sp) (gV : List V → List V → List V) (E : XK) (ta : TE) (tk : TA) : TE := fun σ H Q => ta σ H fun x H1 => x = .ref C ∧ tk σ H1 fun zs H2 => zs.length = ks.length ∧ sp (gV [] zs) H2 Q E
theorem pe_smethK {pl : Sem Bool} {kws : List Keyword} {ks : List Str} {gg : List Value → List Value → List Value} {gV : List V → List V → List V} {tk : TA} (he : PE X o ta) (c : SMet X.K C mc m p g) (F : FnOk X.prog X.w X.K X.mg X.base CX k g fd ps sp) (hr : Room k X.A) (hb : KBn X.K fd ps 0 ks gg gV) (hx : Passes CX X E) (hkw : PK X kws tk)
    (hall : (backToKw pos (keywordEach kws X.env)).all (·.1.isSome) = true := by rfl) (hks : (backToKw pos (keywordEach kws X.env)).filterMap (·.1) = ks := by rfl)
    (hpl : ((backTo pos (starEach [] X.env)).any (·.1) || (backToKw pos (keywordEach kws X.env)).any (·.1.isNone)) = false := by rfl)
    (ht : eval (.Call (.Attribute o m apos) [] kws pos) X.env = (do
      let ov ← eval o X.env
      standAt apos.atName
      let (f, first) ← holding [ov] (getMethod ov m pl)
      callWith pos f first (backTo pos (starEach [] X.env)) (backToKw pos (keywordEach kws X.env))) := by rfl) :
    PE X (.Call (.Attribute o m apos) [] kws pos) (tSMethK C ks sp gV E ta tk) := by
  refine ⟨fun pins s σ H Q I h => PySem.W.methodCall_KW (pl := pl) (thn (he.run pins s σ H _ I h) fun u s1 hh => ?_) ht⟩
  obtain ⟨x, H1, I1, rx, rfl, q⟩ := hh
  obtain rfl : u = Value.ref C := rx
  obtain ⟨rest, hp⟩ := c.rc
  refine PySem.W.method_cls I1.kIn c.ga (PySem.W.cls_bind I1.kIn c.rd c.at_ (wpAny_call (PySem.W.sm_get (s := { s1 with toks := s1.toks + 1 }) I1.kIn hp (PySem.W.handed_on rfl ?_))))
  have I2 := I1.kept (h' := s1.heap) (t' := s1.toks + 1) fun _ _ z => z
  refine PySem.W.callWith_KW0 (first := []) (h₀ := X.base) I2.ok.mod.kin c.kp hall (thn (hkw.run pos pins _ σ H1 _ I2 q) fun ws s3 hh => ?_) hpl
  obtain ⟨zs, H2, I3, rz, l2, q2⟩ := hh
  refine ⟨I3.kIn, ?_⟩
  rw [hks]
  exact run_fnN (us := []) (vs := []) F hr hb hx I3 .nil rz rfl l2 q2
end
end RK

/-! a token that is out, carried through a for, a test and a comprehension; s.replace(y, z, 1) -/
namespace RK
open PySem PySem.Spec PyProof.Rows L2
section
variable {P : Program} {w : World} {K : PySem.W.Frag} {mg : Str → Option Value} {base : Heap} {CX : CXT} {k : Nat} {f : Addr} {fd : FuncData} {N ps : List Str} {sp : Sp} {x qual : Str} {st : Stmt}
/-- a def whose body may use that a token is out -/
theorem funT (F : Fun K x qual st f fd) (S : FnScope N ps (defScope st)) (hn : ∀ y ∈ (defScope st).names, y.2 ≠ .cell) (hp : 1 ≤ ps.length) (len : ∀ vs H Q E, sp vs H Q E → vs.length = ps.length)
    (body : ∀ (cdv : Value) (A : Around) (outer : List Env) (s : Shared) (H : Hp) (vs : List V) (Q : VK) (E : XK), Room k (A.deeper (envOfC qual (defScope st) s.heap.objs.size f cdv)) → sp vs H Q E →
      ∃ t, PSsT (cxOf CX P w K mg base N qual (defScope st) f cdv A outer s H E).nox (defBody st) t ∧ t { nx := fun _ H' => Q .non H', rt := Q } (L2.start N vs) H) : FnOk P w K mg base CX (k + 1) f fd ps sp := by
  obtain ⟨oc, od, kV, doc, pm, an, cdv, ct, osl, rfl, lk, hcd⟩ := F.ex
  exact fn_ofT lk hcd S hn hp len fun A outer s H vs Q E hr q => by
    obtain ⟨t, h1, h2⟩ := body cdv A outer s H vs Q E hr q
    exact ⟨t, fun pins s σ H D h0 I hw => wpAny_mono (h1 pins s σ H D h0 (I.wish _) hw) (fun _ _ q => q.unwish) fun _ _ z => False.elim z, h2⟩
end
/-! ### replace, once -/
def rep1 (x y z : Str) : Str := if ((Builtin.Str.occurrences x y 0 x.length 1).isEmpty || (y.length == 0 && z.length == 0)) = true then x else Builtin.Str.glued z (Builtin.Str.partsBetween x (Builtin.Str.occurrences x y 0 x.length 1) y.length)
def tRep1 (to : TE) (y z : Str) : TE := fun σ H Q => to σ H fun v H1 => ∃ x, v = .str x ∧ x.length ≤ 10000 ∧ Q (.str (rep1 x y z)) H1
theorem gives_rep1 (x y z : Str) (t u v c : Tok) (h0 : (u == 0 || v == 0) = false) (h1 : (u == v) = false) (h2 : (y == z) = false) (h3 : Builtin.Str.tooLong (x.length + (Builtin.Str.occurrences x y 0 x.length 1).length * z.length) = false) :
    Gives (Builtin.«str.replace» ⟨[.str x t, .str y u, .str z v, .int 1 c], []⟩) (if ((Builtin.Str.occurrences x y 0 x.length 1).isEmpty || (y.length == 0 && z.length == 0)) = true then .val (.str x t) else .str (Builtin.Str.glued z (Builtin.Str.partsBetween x (Builtin.Str.occurrences x y 0 x.length 1) y.length))) := by
  have e : Builtin.«str.replace» ⟨[.str x t, .str y u, .str z v, .int 1 c], []⟩ = (if ((Builtin.Str.occurrences x y 0 x.length 1).isEmpty || (y.length == 0 && z.length == 0)) = true then (do rule "str.replace.nothing"; ret (.str x t)) else
      (do let same ← isSame (.str y u) (.str z v)
          if same = true then (do rule "str.replace.old-is-new"; ret (.str x t)) else
          if Builtin.Str.tooLong (x.length + (Builtin.Str.occurrences x y 0 x.length 1).length * z.length) = true then unsupported "str.replace:memory" else
          retStr (Builtin.Str.glued z (Builtin.Str.partsBetween x (Builtin.Str.occurrences x y 0 x.length 1) y.length)))) := by
    show (do let limit ← Builtin.Str.countLimit "str.replace" (some (.int 1 c)) (x.length + 1); _) = _
    rw [countLimit_int "str.replace" 1 c (x.length + 1) (by decide)]
    rfl
  rw [e]
  cases hc : ((Builtin.Str.occurrences x y 0 x.length 1).isEmpty || (y.length == 0 && z.length == 0))
  · rw [isSame_str_other y z u v h0 h1 h2, h3]
    exact .of_eq rfl
  · exact .rule (.of_eq rfl)
theorem glued1_len (x y z : Str) : (Builtin.Str.glued z (Builtin.Str.partsBetween x (Builtin.Str.occurrences x y 0 x.length 1) y.length)).length ≤ x.length + z.length := by
  have self := congrArg Str.length (StrLaws.glued_between_self x y 1)
  rw [size_glued, length_partsBetween] at self
  rw [size_glued, length_partsBetween]
  have few := StrLaws.occ_length_le x y 0 x.length 1
  rw [Nat.add_sub_cancel] at self ⊢
  have cut : (Builtin.Str.occurrences x y 0 x.length 1).length * z.length ≤ 1 * z.length := Nat.mul_le_mul_right _ few
  omega
theorem thnT {α : Type} {t : Sem α} {Q Q' : α → Shared → Prop} {M : Model} {A : Around} {E : Value → Shared → Prop} {s : Shared} {n : Nat} (hn : n ≤ s.toks) (h : wpAny M A t Q E s) (k : ∀ a s', n ≤ s'.toks → Q a s' → Q' a s') : wpAny M A t Q' E s :=
  wpAny_mono (wpAny_toks_of hn h) (fun a s' z => k a s' z.1 z.2) fun _ _ z => z.2
section
variable {X : Cx} {o e : Expr} {to te : TE} {y z : Str} {j k l : Nat} {c0 c1 c2 apos pos : Pos}
theorem pet_rep1 (ho : PE X o to) (hyz : (y == z) = false := by decide) (hz : z.length ≤ 100 := by decide)
    (hst : starEach [.Constant (.str y) j c0, .Constant (.str z) k c1, .Constant (.int 1) l c2] X.env = [(false, eval (.Constant (.str y) j c0) X.env), (false, eval (.Constant (.str z) k c1) X.env), (false, eval (.Constant (.int 1) l c2) X.env)] := by rfl)
    (hb : attributeBase o "replace" X.env (eval o X.env) = eval o X.env := by rfl) (hl : (apos.endLine == pos.line) = true := by rfl)
    (hf : ((backTo pos (starEach [.Constant (.str y) j c0, .Constant (.str z) k c1, .Constant (.int 1) l c2] X.env)).all (fun x => !x.1) && (backToKw pos (keywordEach [] X.env)).all (fun x => x.1.isSome) && decide ([(Expr.Constant (.str y) j c0), .Constant (.str z) k c1, .Constant (.int 1) l c2].length + ([] : List Keyword).length + (if ([] : List Keyword).isEmpty then 0 else 1) < 30)) = true := by rfl) :
    PET X (.Call (.Attribute o "replace" apos) [.Constant (.str y) j c0, .Constant (.str z) k c1, .Constant (.int 1) l c2] [] pos) (tRep1 to y z) := by
  intro pins s σ H Q h0 I h
  refine wpAny_Call_method_late hb hf hl rfl (thnT h0 (ho.run pins s σ H _ I h) fun v s1 t1 q => ?_)
  obtain ⟨v', H1, I1, r1, x, rfl, hx, q⟩ := q
  obtain ⟨tx, rfl⟩ := r1
  rw [hst]
  refine ⟨"str", _, PySem.F.plainAttrs_str, PySem.F.slot_str_replace, PySem.F.type_str_replace, typeIs_str _ _ _, (fun _ e => nomatch e), Calls.callWith_builtin rfl (Calls.evalArgs_plain ?_)⟩
  show wpAny _ _ (spliced [(false, eval (.Constant (.str y) j c0) X.env), (false, eval (.Constant (.str z) k c1) X.env), (false, eval (.Constant (.int 1) l c2) X.env)]) _ _ _
  refine Calls.spliced_cons (Calls.Constant_str (Calls.spliced_cons (Calls.Constant_str (Calls.spliced_cons (wpAny_Constant_int (Calls.spliced_nil ?_))))))
  have hlong : Builtin.Str.tooLong (x.length + (Builtin.Str.occurrences x y 0 x.length 1).length * z.length) = false := by
    have h1 := StrLaws.occ_length_le x y 0 x.length 1
    have h2 : (Builtin.Str.occurrences x y 0 x.length 1).length * z.length ≤ 1 * z.length := Nat.mul_le_mul_right _ h1
    unfold Builtin.Str.tooLong sizeLine
    exact decide_eq_false (by omega)
  refine call_gives F.slot_str_replace (typeIs_str _ _ _) F.entry_str_replace (F.args_str_replace_4 _ _ _ _) (gives_rep1 x y z tx _ _ _ ?_ ?_ hyz hlong) ?_
  · have a1 : s1.toks ≠ 0 := by omega
    have a2 : s1.toks + 1 ≠ 0 := by omega
    simp [a1, a2]
  · have a3 : s1.toks ≠ s1.toks + 1 := by omega
    simp [a3]
  · unfold rep1 at q
    split
    · rename_i c
      rw [if_pos c] at q
      exact ⟨.str x, H1, I1.tok _, ⟨tx, rfl⟩, q⟩
    · rename_i c
      rw [if_neg c] at q
      refine ⟨?_, ⟨.str _, H1, I1.tok _, ⟨_, rfl⟩, q⟩⟩
      have hg := glued1_len x y z
      show _ ≤ sizeLine
      unfold sizeLine
      omega
end
/-! ### for, a token out ahead of each turn -/
section
variable {X : Cx}
theorem pst_forT {tg iter : Expr} {body : List Stmt} {wi : TI} {g : TG} {tb : TS} {pos : Pos} (hp : PassesOwn (model X.prog X.w) X.A X.env X.xe) (hc : X.calm = true) (hi : PI X tg iter wi) (hg : PG X tg g) (hb : PSsT X body tb)
    (hs : ∀ x, foldedSetIterable iter X.env x = pure x := by intro _; rfl) : PST X (.For tg iter body [] pos) (tFor wi g tb) := by
  intro pins s σ H D h0 I h
  refine wpAny_For (thnT h0 (hi.run pins s σ H _ I h) fun v s1 t1 hv => thnT t1 hv fun itv s2 t2 hx => ?_) hs
  obtain ⟨it, fp, tn, J, H2, rfl, I2, T, b2, f2, W, ⟨m0, w0⟩, turn⟩ := hx
  have free_ : ∀ {H' : Hp}, (∀ b ∈ fp, H' b = none) → ∀ b ∈ fp, FpOk X pins H' b := fun n b m => ⟨n b m, (f2 b m).2⟩
  refine codeAny_forLoop_any (fun n z => 1 ≤ z.toks ∧ ∃ i τ G, Inv X pins τ G z ∧ tn i z.heap ∧ (∀ b ∈ fp, G b = none) ∧ W i n τ G) (fun n z hz => ?_) m0 ⟨t2, 0, σ, H2, I2, b2, fun b m => (f2 b m).1, w0⟩
  obtain ⟨tz, i, τ, G, J3, b3, n3, w3⟩ := hz
  have back : ∀ {z' y' : Shared} {τ' : L2.St} {G' : Hp} {N : L2.St → Hp → Prop}, 1 ≤ z'.toks → tn (i + 1) y'.heap → (∀ σ H, N σ H → ∃ m', m' < n ∧ W (i + 1) m' σ H) → Inv X (pins ++ pinsAt fp y'.heap) τ' G' z' → N τ' G' →
      ∃ m, m < n ∧ 1 ≤ z'.toks ∧ ∃ i τ G, Inv X pins τ G z' ∧ tn i z'.heap ∧ (∀ b ∈ fp, G b = none) ∧ W i m τ G := fun {z' y' τ' G' N} tz' by' hN J' nn => by
    obtain ⟨m', hm, w'⟩ := hN _ _ nn
    have at_ : ∀ b ∈ fp, ∀ ob, y'.heap.get? b = some ob → z'.heap.get? b = some ob ∧ G' b = none := fun b mb ob eb => by
      have q := J'.pin (b, ob) (List.mem_append_right _ (List.mem_append_right _ (mem_pinsAt mb eb)))
      exact ⟨q.1, q.2.1⟩
    refine ⟨m', hm, tz', i + 1, τ', G', J'.unpinned, T.keep _ _ _ by' fun b mb ob eb => (at_ b mb ob eb).1, fun b mb => ?_, w'⟩
    obtain ⟨ob, eb, _⟩ := T.obj _ _ by' b mb
    exact (at_ b mb ob eb).2
  rcases turn i n τ G w3 with ⟨stop, qn⟩ | ⟨go, N, hN, step⟩
  · refine wpAny_passesOwn hp (thn (T.done X rfl rfl rfl hc i pins z τ G X.xe J3 (free_ n3) b3 stop) fun r z1 hr => ?_)
    obtain ⟨rfl, J4⟩ := hr
    exact wpAny_execs_nil ⟨τ, G, J4, qn⟩
  · refine wpAny_passesOwn hp (thnT tz (T.item X rfl rfl rfl hc i pins z τ G X.xe J3 (free_ n3) b3 go) fun r z1 t4 hr => ?_)
    obtain ⟨u, rfl, hu⟩ := hr
    refine wpAny_passesOwn hp (thnT t4 hu fun _ z2 t5 hx => ?_)
    obtain ⟨x, G5, J5, r5, y5, b5, n5⟩ := hx
    have J5' := J5.pinned (free_ n5) (T.obj _ _ b5)
    refine wpAny_passesOwn hp (thnT t5 (hg.run _ z2 τ G5 x u _ J5' r5 (step x G5 y5)) fun _ z3 t6 hx => ?_)
    obtain ⟨τ6, G6, J6, q6⟩ := hx
    refine wpAny_passesOwn hp (thnT t6 (hb _ z3 τ6 G6 _ t6 J6 q6) fun fl z4 t7 q7 => ?_)
    cases fl with
    | next => obtain ⟨τ7, G7, J7, n7⟩ := q7; exact back t7 b5 hN J7 n7
    | cont => obtain ⟨τ7, G7, J7, n7⟩ := q7; exact back t7 b5 hN J7 n7
    | brk => obtain ⟨τ7, G7, J7, q7⟩ := q7; exact ⟨τ7, G7, J7.unpinned, q7⟩
    | ret v => obtain ⟨x7, τ7, G7, J7, r7, q7⟩ := q7; exact ⟨x7, τ7, G7, J7.unpinned, r7, q7⟩
end
/-! ### a comprehension over a text whose reckoning wants a token -/
section
variable {X : Cx}
theorem pet_lcS {elt tg iter : Expr} {ifs : List Expr} {scope : Scope} {own : List (Str × Nat)} {pos : Pos} {ti : TE} {g : TG} {tt : TT} {te : TE} (hc : X.calm = true) (hN : X.N.Nodup) (hi : PET X iter ti) (ok : BlkOk X.N X.env.scope scope own)
    (hg : ∀ s H C cl fp, PG (X.blk s H scope (compEnvC scope cl C X.env) fp) tg g) (ht : ∀ s H C cl fp, PTs (X.blk s H scope (compEnvC scope cl C X.env) fp) ifs tt) (he : ∀ s H C cl fp, PE (X.blk s H scope (compEnvC scope cl C X.env) fp) elt te)
    (hs : ∀ x, foldedSetIterable iter X.env x = pure x := by intro _; rfl) : PET X (.ListComp elt [⟨tg, iter, ifs, 0⟩] scope pos) (tLc (iStr ti) g tt te (own.map (·.2))) := by
  intro pins s σ H Q h0 I h
  rw [eval_ListComp]
  have closed := closure_ok (scope := scope) (env := X.env) fun y hy e => (ok.free y hy e).elim (fun c => I.ok.has _ (.inl c)) fun c => I.ok.has _ (.inr c)
  refine wpAny_comprehension_free (use := none) rfl hs closed ok.kind (fun y hy e => (ok.uniq y hy).trans (by rw [e])) (thn (hi pins s σ H _ h0 I h) fun v s1 hv => ?_)
  obtain ⟨_, H1, I1, r1, x, rfl, q⟩ := hv
  obtain ⟨t, rfl⟩ := r1
  have rest : ∀ itv s2, PIE X pins σ tg (fun J G => ∀ D, G D = none → ∃ W : Nat → Nat → Hp → Prop, (∃ m, W 0 m (upd G D (.lst []))) ∧ ∀ i m F, W i m F →
      (J.stop i F ∧ Q (.ref D) F) ∨ (J.go i F ∧ ∃ Nx : Hp → Prop, (∀ F', Nx F' → ∃ m', m' < m ∧ W (i + 1) m' F') ∧ ∀ x F', J.yld i F x F' → g x (wipe σ (own.map (·.2))) F' fun σ2 F2 => wipe σ2 (own.map (·.2)) = wipe σ (own.map (·.2)) ∧ tt σ2 F2 fun b F3 =>
        if b = true then te σ2 F3 fun y F4 => ∃ acc, F4 D = some (.lst acc) ∧ acc.length < sizeLine ∧ Nx (upd F4 D (.lst (acc ++ [y]))) else Nx F3)) itv s2 →
      wpAny (model X.prog X.w) X.A (newList []) (fun acc s3 => wpAny (model X.prog X.w) X.A (newFunctionEnv scope X.env.globals (cloFrom X.env.cells scope.names []) [] X.env.qual none .none (some X.env)) (fun cenv s4 =>
        codeAny (model X.prog X.w) X.A (.compStart (.ListComp elt [⟨tg, iter, ifs, 0⟩] scope pos) 0 itv acc { cenv with scope := relabel scope X.env }) (compPost (model X.prog X.w) X.A X.xe none (EP X pins σ Q) acc cenv.locals) s4) X.xe s3) X.xe s2 := by
    intro itv s2 hP
    obtain ⟨it, fp, tn, J, H2, rfl, I2, T, b2, f2, q⟩ := hP
    refine wpAny_newObj_type (newEnv_comp ?_) (Nat.zero_le _)
    have nD : H2 s2.heap.objs.size = none := I2.hok.fresh (Nat.le_refl _)
    obtain ⟨W, ⟨m0, w0⟩, turn⟩ := q _ nD
    have I3 : Inv X pins σ (upd H2 s2.heap.objs.size (.lst [])) { s2 with heap := s2.heap.push { cls := .type "list", data := .seq ([] : List Value).toArray } } :=
      I2.laid (t' := s2.toks) (fun b o e => Heap.get?_push_of_some _ e) (Nat.le_refl _) ⟨Nat.zero_le _, [], 0, .nil, Heap.get?_push_size _ rfl⟩
    have old : ∀ b ∈ fp, b < s2.heap.objs.size := fun b hb => by
      obtain ⟨o, e, _⟩ := T.obj _ _ b2 b hb
      exact Heap.lt_size e
    have b3 : tn 0 (s2.heap.push { cls := .type "list", data := .seq ([] : List Value).toArray }) := T.keep _ _ _ b2 fun b _ o e => Heap.get?_push_of_some _ e
    have f3 : ∀ b ∈ fp, FpOk X pins (upd H2 s2.heap.objs.size (.lst [])) b := fun b hb => ⟨by rw [upd_ne (Nat.ne_of_lt (old b hb))]; exact (f2 b hb).1, (f2 b hb).2⟩
    have l3 : ∀ b ∈ fp, b < (s2.heap.push { cls := .type "list", data := .seq ([] : List Value).toArray }).objs.size := fun b hb => by
      rw [Heap.size_push]
      exact Nat.lt_succ_of_lt (old b hb)
    generalize s2.heap.objs.size = D at *
    show codeAny _ _ _ _ { ({ s2 with heap := s2.heap.push { cls := .type "list", data := .seq ([] : List Value).toArray } } : Shared) with heap := pushCells ((s2.heap.push { cls := .type "list", data := .seq ([] : List Value).toArray }).push { cls := .type "dict", data := .dict #[] }) scope.names }
    generalize hs3 : ({ s2 with heap := s2.heap.push { cls := .type "list", data := .seq ([] : List Value).toArray } } : Shared) = s3 at I3 ⊢
    have hh : s2.heap.push { cls := .type "list", data := .seq ([] : List Value).toArray } = s3.heap := by rw [← hs3]
    rw [hh] at b3 l3 ⊢
    generalize upd H2 D (.lst []) = H3 at *
    have I4 := block_start I3 ok hN fun b hb => ⟨f3 b hb, l3 b hb⟩
    have G_ := hg s3 H3 s3.heap.objs.size (cellsFrom (s3.heap.objs.size + 1) scope.names (cloFrom X.env.cells scope.names [])) fp
    have T_ := ht s3 H3 s3.heap.objs.size (cellsFrom (s3.heap.objs.size + 1) scope.names (cloFrom X.env.cells scope.names [])) fp
    have E_ := he s3 H3 s3.heap.objs.size (cellsFrom (s3.heap.objs.size + 1) scope.names (cloFrom X.env.cells scope.names [])) fp
    show codeAny _ _ (.compStart _ 0 (.ref it) (.ref D) (compEnvC scope (cellsFrom (s3.heap.objs.size + 1) scope.names (cloFrom X.env.cells scope.names [])) s3.heap.objs.size X.env)) (compPost _ _ _ none (EP X pins σ Q) (.ref D) s3.heap.objs.size) { s3 with heap := pushCells (s3.heap.push { cls := .type "dict", data := .dict #[] }) scope.names }
    have here : (compEnvC scope (cellsFrom (s3.heap.objs.size + 1) scope.names (cloFrom X.env.cells scope.names [])) s3.heap.objs.size X.env).locals = s3.heap.objs.size := rfl
    generalize compEnvC scope (cellsFrom (s3.heap.objs.size + 1) scope.names (cloFrom X.env.cells scope.names [])) s3.heap.objs.size X.env = ce at I4 G_ T_ E_ here ⊢
    have b4 : tn 0 (pushCells (s3.heap.push { cls := .type "dict", data := .dict #[] }) scope.names) := T.keep _ _ _ b3 fun b _ o e => pushCells_keeps _ _ _ _ (Heap.get?_push_of_some _ e)
    generalize hs4 : ({ s3 with heap := pushCells (s3.heap.push { cls := .type "dict", data := .dict #[] }) scope.names } : Shared) = s4 at I4 ⊢
    have b4' : tn 0 s4.heap := by rw [← hs4]; exact b4
    have its_ : ∀ {τ : L2.St} {G : Hp} {z : Shared}, Inv (X.blk s3 H3 scope ce fp) [] τ G z → (∀ b ∈ fp, G b = none) → ∀ b ∈ fp, FpOk (X.blk s3 H3 scope ce fp) [] G b := fun J n b hb =>
      ⟨n b hb, (J.ok.exf b hb).1, J.ok.exfs b hb, .inl hb, fun c d e => (J.ok.exf b hb).2 c d e, fun p hp => by cases hp⟩
    refine codeAny_compStart_list ?_ (T.self X.A 0 _ _ _ b4' ?_)
    all_goals
      refine compLoop_any (fun n z => ∃ i G, Inv (X.blk s3 H3 scope ce fp) [] (wipe σ (own.map (·.2))) G z ∧ tn i z.heap ∧ (∀ b ∈ fp, G b = none) ∧ W i n G) (fun n z hz => ?_) m0 ⟨0, H3, I4, b4', fun b hb => (f3 b hb).1, w0⟩
      obtain ⟨i, G, J5, b5, n5, w5⟩ := hz
      rcases turn i n G w5 with ⟨stop, qq⟩ | ⟨go, Nx, hNx, step⟩
      · refine thnF (T.done (X.blk s3 H3 scope ce fp) rfl rfl rfl hc i [] z _ G (fun _ _ => False) J5 (its_ J5 n5) b5 stop) fun r z6 hr => ?_
        obtain ⟨rfl, J6⟩ := hr
        have out : Inv X pins σ G z6 := I3.call' (ch := fp) J6.os J6.base J6.hok J6.bare fun b hb => let f := f3 b hb; ⟨f.2.2.2.1, f.2.1, f.2.2.2.2.1, f.2.2.2.2.2⟩
        have gone : G s3.heap.objs.size = none := by rw [← here]; exact J6.free
        obtain ⟨m, names, _⟩ := J6.loc
        obtain ⟨p0, p1, _, p3, p4, p5⟩ := I3.fpOk (H' := G) (Nat.le_refl _) gone
        refine ⟨m, by rw [← here]; exact names, fun hp sb => ⟨.ref D, G, out.turned (t' := z6.toks) (fun b o nb e => (sb.2 b nb).trans e) p0 p1 p3 p4 p5, rfl, qq⟩⟩
      · refine thnF (T.item (X.blk s3 H3 scope ce fp) rfl rfl rfl hc i [] z _ G (fun _ _ => False) J5 (its_ J5 n5) b5 go) fun r z6 hr => ?_
        obtain ⟨u, rfl, hu⟩ := hr
        refine thnF hu fun _ z7 hx => ?_
        obtain ⟨y, G7, J7, r7, y7, b7, n7⟩ := hx
        have J7' := J7.pinned (its_ J7 n7) (T.obj _ _ b7)
        refine thnF (G_.run _ z7 _ G7 y u _ J7' r7 (step y G7 y7)) fun _ z8 hx => ?_
        obtain ⟨τ8, G8, J8, e8, q8⟩ := hx
        refine thnF (T_.run _ z8 τ8 G8 _ J8 q8) fun b z9 hx => ?_
        obtain ⟨G9, J9, q9⟩ := hx
        have turn_ : ∀ {z' : Shared} {G' : Hp}, Inv (X.blk s3 H3 scope ce fp) ([] ++ pinsAt fp z7.heap) τ8 G' z' → Nx G' → ∃ m, m < n ∧ ∃ i G, Inv (X.blk s3 H3 scope ce fp) [] (wipe σ (own.map (·.2))) G z' ∧ tn i z'.heap ∧ (∀ b ∈ fp, G b = none) ∧ W i m G := fun {z' G'} J' nx => by
          obtain ⟨m', hm, w'⟩ := hNx G' nx
          have at_ : ∀ b ∈ fp, ∀ o, z7.heap.get? b = some o → z'.heap.get? b = some o ∧ G' b = none := fun b hb o e => by
            have p := J'.pin (b, o) (List.mem_append_right _ (List.mem_append_right _ (mem_pinsAt hb e)))
            exact ⟨p.1, p.2.1⟩
          refine ⟨m', hm, i + 1, G', (J'.unpinned (pins := [])).weak (by rw [← e8, wipe_length]) (fun j v e => ?_), T.keep _ _ _ b7 fun b hb o e => (at_ b hb o e).1, fun b hb => ?_, w'⟩
          · rw [← e8] at e
            exact (wipe_some e).1
          · obtain ⟨o, e, _⟩ := T.obj _ _ b7 b hb
            exact (at_ b hb o e).2
        cases b with
        | false =>
          rw [if_neg (by decide)] at q9 ⊢
          exact turn_ J9 q9
        | true =>
          rw [if_pos rfl] at q9 ⊢
          refine thnF (E_.run _ z9 τ8 G9 _ J9 q9) fun v' z10 hx => ?_
          obtain ⟨yv, G10, J10, r10, acc, a1, a2, nx⟩ := hx
          exact app_ok (X := X.blk s3 H3 scope ce fp) J10 a1 a2 r10 fun z11 J11 => turn_ J11 nx
  cases ha : x.cps.all (· < 128)
  · exact wpAny_pyIter_wide ha (rest _ _ (pi_one (tk := s1.toks) I1 _ (turn_str _ x t "str_iterator" (.inr rfl)) ⟨_, Heap.get?_push_size _ rfl, rfl, rfl⟩ q))
  · exact wpAny_pyIter_ascii ha (rest _ _ (pi_one (tk := s1.toks) I1 _ (turn_str _ x t "str_ascii_iterator" (.inl rfl)) ⟨_, Heap.get?_push_size _ rfl, rfl, rfl⟩ q))
end
/-! ### a test that wants a token -/
section
variable {X : Cx} {a b c : Expr} {ta tb : TE} {pos : Pos}
def PTT (X : Cx) (e : Expr) (t : TT) : Prop :=
  ∀ (pins : List (Addr × Obj)) (s : Shared) (σ : L2.St) (H : Hp) (Q : Bool → Hp → Prop), 1 ≤ s.toks → Inv X pins σ H s → t σ H Q → wpAny (model X.prog X.w) X.A (PySem.isTrue e X.env (eval e X.env)) (TP X pins σ Q) X.xe s
theorem ptt_cmp {op : CmpOp} {r : R2} (ho : OpR X (compareOp op) r) (ha : PET X a ta) (hb : PE X b tb) (hm : behindInMarks op b = false) : PTT X (.Compare a [op] [b] pos) (tTest (tOp r ta tb)) := by
  intro pins s σ H Q h0 I h
  refine wpAny_isTrue_Compare1 (thn (ha pins s σ H _ h0 I h) fun v s1 hv => ?_) hm
  obtain ⟨x, H1, I1, r1, q1⟩ := hv
  refine thn (hb.run pins s1 σ H1 _ I1 q1) fun u s2 hu => ?_
  obtain ⟨y, H2, I2, r2, q2⟩ := hu
  refine thn (ho pins s2 σ H2 x y v u _ I2 r1 r2 q2) fun d s3 hd => ?_
  obtain ⟨_, H3, I3, r3, k, rfl, q3⟩ := hd
  cases r3
  exact wpAny_truthy_bool ⟨H3, I3, q3⟩
theorem pst_ifT {ss us : List Stmt} {tc : TT} {t u : TS} (hc : PTT X c tc) (ha : PSsT X ss t) (hb : PSsT X us u) : PST X (.If c ss us pos) (tIfS tc t u) := by
  intro pins s σ H D h0 I h
  refine wpAny_If (thnT h0 (hc pins s σ H _ h0 I h) fun d s1 t1 hd => ?_)
  obtain ⟨H1, I1, q1⟩ := hd
  cases d with
  | true => exact ha pins s1 σ H1 D t1 I1 q1
  | false => exact hb pins s1 σ H1 D t1 I1 q1
end
end RK

/-! a def that makes lambdas for told; what is kept by one -/
namespace RK
open PySem PySem.Spec PyProof.Rows L2 LamX
section
variable {P : Program} {w : World} {K : PySem.W.Frag} {mg : Str → Option Value} {base : Heap} {CX : CXT} {k : Nat} {f : Addr} {fd : FuncData} {N ps : List Str} {sp : Sp} {x qual : Str} {st : Stmt}
/-- as funG, the body's code object is told -/
theorem funGc {CX : CXT} (F : Fun K x qual st f fd) (S : FnScope N ps (defScope st)) (len : ∀ vs H Q E, sp vs H Q E → vs.length = ps.length)
    (hbody : ∀ (cdv : Value) (A : Around) (outer : List Env) (s : Shared) (H : Hp) (vs : List V) (Q : VK) (E : XK), fd.code = cdv → A.guards = some [] → Room k (A.deeper (envOfC qual (defScope st) s.heap.objs.size f cdv)) → sp vs H Q E →
      ∃ t, PSs (cxOf CX P w K mg base N qual (defScope st) f cdv A outer s H E) (defBody st) t ∧ t { nx := fun _ H' => Q .non H', rt := Q } (L2.start N vs) H) : FnOkG P w K mg base CX (k + 1) f fd ps sp := by
  obtain ⟨oc, od, kV, doc, pm, an, cdv, ct, osl, e, lk, hcd⟩ := F.ex
  subst e
  exact ⟨len, fun A outer s H args us vs Q E hg hr e0 hb r q => LamX.run_ofS lk hcd S hr e0 hb r (len _ _ _ _ q) fun hr' => hbody cdv A outer s H vs Q E rfl hg hr' q⟩
end
/-! ### what a lambda's making keeps -/
theorem tabs_kp {T : List (Addr × Str)} {b : Addr} {H H' : Hp} (k : Kp b H H') (t : Tabs T H) : Tabs T H' := fun p hp => by
  obtain ⟨ps, h1, h2, h3⟩ := t p hp
  obtain ⟨f, s, n, hb⟩ := k.bag
  have other : ∀ {c : Addr} {o : HO}, H c = some o → (∀ xs, o ≠ .lst xs) → H' c = some o := fun {c o} h ne => k.keep c o (fun z => by rw [z, hb] at h; cases h; exact ne _ rfl) h
  refine ⟨ps, other h1 (fun xs z => by cases z), h2, fun pos cv hc => ?_⟩
  obtain ⟨c, e1, e2⟩ := h3 pos cv hc
  exact ⟨c, e1, other e2 fun xs z => by unfold CodeO at z; cases z⟩
theorem Same.ext {H H' : Hp} (e : Same H H') : ExtN H H' := fun b o h _ => e b o h
/-- all stays but the bag's numbers and the tables -/
structure Kb (T : List (Addr × Str)) (b : Addr) (H H' : Hp) : Prop where
  bag : Bag H b
  bag' : Bag H' b
  keep : ∀ c o, c ≠ b → H c = some o → (∀ ps, o ≠ .tbl ps) → H' c = some o
  tabs : Tabs T H'
variable {T : List (Addr × Str)} {b : Addr} {H H1 H2 : Hp}
theorem Kb.refl (h : Bag H b) (t : Tabs T H) : Kb T b H H := ⟨h, h, fun _ _ _ q _ => q, t⟩
theorem Kb.kp (a : Kb T b H H1) (c : Kp b H1 H2) : Kb T b H H2 := ⟨a.bag, c.bag', fun d o n q t => c.keep d o n (a.keep d o n q t), tabs_kp c a.tabs⟩
theorem Kb.same (a : Kb T b H H1) (c : Same H1 H2) : Kb T b H H2 := a.kp (.of a.bag' c)
theorem Kb.ext (a : Kb T b H H1) (c : ExtN H1 H2) (t : Tabs T H2) : Kb T b H H2 := by
  obtain ⟨f, s, n, hb⟩ := a.bag'
  exact ⟨a.bag, ⟨f, s, n, c _ _ hb fun ps z => by cases z⟩, fun d o n q y => c d o (a.keep d o n q y) y, t⟩
theorem Kb.trans (a : Kb T b H H1) (c : Kb T b H1 H2) : Kb T b H H2 := ⟨a.bag, c.bag', fun d o n q y => c.keep d o n (a.keep d o n q y) y, c.tabs⟩
theorem Kb.lst {a : Addr} {xs : List V} (k : Kb T b H H1) (n : a ≠ b) (h : H a = some (.lst xs)) : H1 a = some (.lst xs) := k.keep a _ n h fun ps z => by cases z
theorem Kb.tup {a : Addr} {xs : List V} (k : Kb T b H H1) (h : H a = some (.tup xs)) : H1 a = some (.tup xs) := by
  obtain ⟨f, s, n, hb⟩ := k.bag
  exact k.keep a _ (ne_of h hb (by intro z; cases z)) h fun ps z => by cases z
theorem Kb.ins {a C dx : Addr} {fs : List (Str × V)} (k : Kb T b H H1) (h : H a = some (.ins C dx fs)) : H1 a = some (.ins C dx fs) := by
  obtain ⟨f, s, n, hb⟩ := k.bag
  exact k.keep a _ (ne_of h hb (by intro z; cases z)) h fun ps z => by cases z
/-! ### a list that the law was handed, whatever is made beside it -/
def StL (K : PySem.W.Frag) (c : Addr) (xs : List V) (H : Hp) : Prop := (∀ H', SqL K H' c xs) ∨ ∃ o, H c = some o ∧ (∀ ps, o ≠ .tbl ps) ∧ ∀ H', H' c = some o → SqL K H' c xs
section
variable {K : PySem.W.Frag} {c : Addr} {xs : List V}
theorem StL.of (h : SqL K H c xs) : StL K c xs H := by
  rcases h with (h | ⟨o, h⟩) | h
  · exact .inr ⟨_, h, (fun ps z => by cases z), fun H' h' => .inl (.inl h')⟩
  · exact .inr ⟨_, h, (fun ps z => by cases z), fun H' h' => .inl (.inr ⟨o, h'⟩)⟩
  · exact .inl fun H' => .inr h
theorem StL.sql (s : StL K c xs H) : SqL K H c xs := by
  rcases s with h | ⟨o, h1, _, h3⟩
  · exact h H
  · exact h3 H h1
theorem StL.keep (s : StL K c xs H) (k : ∀ o, H c = some o → (∀ ps, o ≠ .tbl ps) → H1 c = some o) : StL K c xs H1 := by
  rcases s with h | ⟨o, h1, h2, h3⟩
  · exact .inl h
  · exact .inr ⟨o, k o h1 h2, h2, h3⟩
theorem StL.same (s : StL K c xs H) (e : Same H H1) : StL K c xs H1 := s.keep fun o h _ => e _ _ h
/-- a bag is made, and what then keeps all but it and the tables -/
theorem StL.kb {p : Addr} (s : StL K c xs H) (hp : H p = none) (e : Same H H1) (k : Kb T p H1 H2) : StL K c xs H2 := s.keep fun o h t => k.keep _ _ (ne_of_none h hp) (e _ _ h) t
theorem StL.new {D : Addr} {o : HO} (s : StL K c xs H) (hD : H D = none) : StL K c xs (upd H D o) := s.same (w_new hD)
/-- [true, ..]: each element by a bag of its own -/
theorem lc_rngT {lo : Int} {n j : Nat} {W : TI} {te : TE} {vs : List Nat} {σ : L2.St} {Q : VK} (hn : n ≤ 1000) (hwi : ∀ R : It → Hp → Prop, R (Itr lo n) H → W σ H R) (hw : ∀ x, wipe ((wipe σ vs).set j (some x)) vs = wipe σ vs) (hc : StL K c xs H) (ht : Tabs T H)
    (he : ∀ i H', i < n → StL K c xs H' → Tabs T H' → ∀ Q' : VK, (∀ H'', StL K c xs H'' → Tabs T H'' → (∀ D acc, H' D = some (.lst acc) → H'' D = some (.lst acc)) → Q' (.bl true) H'') → te ((wipe σ vs).set j (some (.int (lo + i)))) H' Q')
    (k : ∀ D H', H' D = some (.lst (List.replicate n (.bl true))) → Q (.ref D) H') : tLc W (gName j) tYes te vs σ H Q := by
  refine hwi _ fun D hD => ?_
  refine lc_range (lo := lo) (n := n) (fun i G => G D = some (.lst (List.replicate i (.bl true))) ∧ StL K c xs G ∧ Tabs T G ∧ ∀ o, H c = some o → c ≠ D) ⟨upd_same, hc.new hD, ht.ext (w_new hD), fun o h => ne_of_none h hD⟩ ?_ ?_
  · rintro i G hi ⟨hG, st, tb, ne⟩
    refine ⟨hw _, ?_⟩
    refine w_yes ?_
    rw [if_pos rfl]
    refine he i G hi st tb _ fun G2 st2 tb2 kp => ?_
    have h2 := kp D _ hG
    have up : upd G2 D (.lst (List.replicate i (.bl true) ++ [.bl true])) D = some (.lst (List.replicate (i + 1) (.bl true))) := by rw [upd_same, List.replicate_succ']
    refine ⟨_, h2, by rw [List.length_replicate]; exact Nat.lt_of_lt_of_le (show i < 1001 by omega) (by decide), up, ?_, ?_, ne⟩
    · rcases hc with h | ⟨o, h1, h2, h3⟩
      · exact .inl h
      · have nc := ne _ h1
        exact st2.keep fun o' h' _ => by rw [upd_ne nc]; exact h'
    · exact fun p hp => by
        obtain ⟨ps, t1, t2, t3⟩ := tb2 p hp
        have a1 : p.1 ≠ D := fun z => by rw [z, h2] at t1; cases t1
        refine ⟨ps, by rw [upd_ne a1]; exact t1, t2, fun pos cv hv => ?_⟩
        obtain ⟨d, d1, d2⟩ := t3 pos cv hv
        have a2 : d ≠ D := fun z => by
          rw [z, h2] at d2
          unfold CodeO at d2
          cases d2
        exact ⟨d, d1, by rw [upd_ne a2]; exact d2⟩
  · rintro G ⟨hG, _⟩
    exact k D G hG
theorem all_rep {Q : VK} {D : Addr} {n : Nat} (h : H D = some (.lst (List.replicate n (.bl true)))) (q : Q (.bl true) H) : rAll K [.ref D] H Q := by
  have e : List.replicate n (V.bl true) = (List.replicate n true).map V.bl := by rw [List.map_replicate]
  refine ⟨D, List.replicate n true, rfl, by rw [← e]; exact SqL.of h, ?_⟩
  rw [show (List.replicate n true).all id = true from List.all_eq_true.mpr fun x hx => (List.mem_replicate.mp hx).2]
  exact q
end
/-- the table of the code object at c -/
def tabOf (K : PySem.W.Frag) (c : Addr) : Option Addr := match K.lookup c with
  | some o => (match o.data with
    | .fields vs => (match (vs[11]? : Option Value) with
      | some (.ref P) => some P
      | _ => none)
    | _ => none)
  | none => none
end RK

namespace RK3
open PySem PySem.Spec L2 RK
def top (i : Nat) : Stmt := PySem.Challenge.pw_slackstrings_k03_texts_of_ratios.main.body.getD i (.Pass ⟨0, 0, 0, 0⟩)
abbrev s_is_whole : Stmt := top 9
theorem sc_is_whole : FnScope ["value"] ["value"] (defScope s_is_whole) := ⟨rfl, rfl, rfl, by decide +kernel, rfl, by decide +kernel, by decide +kernel⟩
abbrev s_Ratio_init : Stmt := inClass (top 11) 0
theorem sc_Ratio_init : FnScope ["self", "top", "bottom", "shared"] ["self", "top", "bottom"] (defScope s_Ratio_init) := ⟨rfl, rfl, rfl, by decide +kernel, rfl, by decide +kernel, by decide +kernel⟩
abbrev s_Ratio_eq : Stmt := inClass (top 11) 1
theorem sc_Ratio_eq : FnScope ["self", "other", "beside"] ["self", "other"] (defScope s_Ratio_eq) := ⟨rfl, rfl, rfl, by decide +kernel, rfl, by decide +kernel, by decide +kernel⟩
abbrev s_Ratio_str : Stmt := inClass (top 11) 2
theorem sc_Ratio_str : FnScope ["self"] ["self"] (defScope s_Ratio_str) := ⟨rfl, rfl, rfl, by decide +kernel, rfl, by decide +kernel, by decide +kernel⟩
abbrev s_is_fraction : Stmt := top 12
theorem sc_is_fraction : FnScope ["value"] ["value"] (defScope s_is_fraction) := ⟨rfl, rfl, rfl, by decide +kernel, rfl, by decide +kernel, by decide +kernel⟩
abbrev s_as_ratio : Stmt := top 13
theorem sc_as_ratio : FnScope ["fraction"] ["fraction"] (defScope s_as_ratio) := ⟨rfl, rfl, rfl, by decide +kernel, rfl, by decide +kernel, by decide +kernel⟩
abbrev s_Ratio_read : Stmt := inClass (top 11) 12
theorem sc_Ratio_read : FnScope ["text", "found"] ["text"] (defScope s_Ratio_read) := ⟨rfl, rfl, rfl, by decide +kernel, rfl, by decide +kernel, by decide +kernel⟩
abbrev s_ratio_in : Stmt := top 14
theorem sc_ratio_in : FnScope ["text", "top", "slash", "bottom"] ["text"] (defScope s_ratio_in) := ⟨rfl, rfl, rfl, by decide +kernel, rfl, by decide +kernel, by decide +kernel⟩
abbrev s_has_digits_alone : Stmt := top 15
theorem sc_has_digits_alone : FnScope ["text"] ["text"] (defScope s_has_digits_alone) := ⟨rfl, rfl, rfl, by decide +kernel, rfl, by decide +kernel, by decide +kernel⟩
abbrev s_InvalidText_init : Stmt := inClass (top 7) 0
theorem sc_InvalidText_init : FnScope ["self", "value"] ["self", "value"] (defScope s_InvalidText_init) := ⟨rfl, rfl, rfl, by decide +kernel, rfl, by decide +kernel, by decide +kernel⟩
abbrev s_bag : Stmt := top 17
theorem sc_bag : FnScope ["_law_cells", "_law_k", "_law_cell", "_law_seed", "_law_this", "_law_figures"] ["_law_cells", "_law_k"] (defScope s_bag) := ⟨rfl, rfl, rfl, by decide +kernel, rfl, by decide +kernel, by decide +kernel⟩
abbrev s_draw : Stmt := top 18
theorem sc_draw : FnScope ["_law_bag_here", "_law_wide", "_law_figure", "_law_held", "_law_times"] ["_law_bag_here", "_law_wide"] (defScope s_draw) := ⟨rfl, rfl, rfl, by decide +kernel, rfl, by decide +kernel, by decide +kernel⟩
abbrev s_one : Stmt := top 19
theorem sc_one : FnScope ["_law_bag_here", "_law_some"] ["_law_bag_here", "_law_some"] (defScope s_one) := ⟨rfl, rfl, rfl, by decide +kernel, rfl, by decide +kernel, by decide +kernel⟩
abbrev s_lowest : Stmt := top 20
theorem sc_lowest : FnScope ["_law_upper", "_law_lower", "_law_one_here", "_law_two", "_law_by"] ["_law_upper", "_law_lower"] (defScope s_lowest) := ⟨rfl, rfl, rfl, by decide +kernel, rfl, by decide +kernel, by decide +kernel⟩
abbrev s_told : Stmt := top 21
theorem sc_told : FnScope ["_law_act", "_law_got", "_law_e"] ["_law_act"] (defScope s_told) := ⟨rfl, rfl, rfl, by decide +kernel, rfl, by decide +kernel, by decide +kernel⟩
abbrev s_sort : Stmt := top 22
theorem sc_sort : FnScope ["_law_e", "_law_bases", "_law_kinds", "_law_found"] ["_law_e"] (defScope s_sort) := ⟨rfl, rfl, rfl, by decide +kernel, rfl, by decide +kernel, by decide +kernel⟩
abbrev s_written : Stmt := top 23
theorem sc_written : FnScope ["_law_pair"] ["_law_pair"] (defScope s_written) := ⟨rfl, rfl, rfl, by decide +kernel, rfl, by decide +kernel, by decide +kernel⟩
abbrev s_read : Stmt := top 24
theorem sc_read : FnScope ["_law_line", "_law_bits", "_law_bit", "_law_pair", "_law_sign"] ["_law_line"] (defScope s_read) := ⟨rfl, rfl, rfl, by decide +kernel, rfl, by decide +kernel, by decide +kernel⟩
abbrev s_right : Stmt := top 25
theorem sc_right : FnScope ["_law_bag_here", "_law_turn", "_law_upper", "_law_pair", "_law_line", "_law_mine", "_law_at", "_law_more", "_law_ways", "_law_made", "_law_told_here", "_law_some", "_law_odd"] ["_law_bag_here"] (defScope s_right) := ⟨rfl, rfl, rfl, by decide +kernel, rfl, by decide +kernel, by decide +kernel⟩
abbrev s_law : Stmt := top 26
theorem sc_law : FnScope ["_law_cells", "_law_k"] ["_law_cells"] (defScope s_law) := ⟨rfl, rfl, rfl, by decide +kernel, rfl, by decide +kernel, by decide +kernel⟩
structure Ad where
  C_Ratio : Addr
  C_ShapeError : Addr
  C_QuestionError : Addr
  C_SizeError : Addr
  C_InvalidText : Addr
  f_is_whole : Addr
  d_is_whole : FuncData
  f_Ratio_init : Addr
  d_Ratio_init : FuncData
  f_Ratio_eq : Addr
  d_Ratio_eq : FuncData
  f_Ratio_str : Addr
  d_Ratio_str : FuncData
  f_is_fraction : Addr
  d_is_fraction : FuncData
  f_as_ratio : Addr
  d_as_ratio : FuncData
  f_Ratio_read : Addr
  d_Ratio_read : FuncData
  f_ratio_in : Addr
  d_ratio_in : FuncData
  f_has_digits_alone : Addr
  d_has_digits_alone : FuncData
  f_InvalidText_init : Addr
  d_InvalidText_init : FuncData
  f_bag : Addr
  d_bag : FuncData
  f_draw : Addr
  d_draw : FuncData
  f_one : Addr
  d_one : FuncData
  f_lowest : Addr
  d_lowest : FuncData
  f_told : Addr
  d_told : FuncData
  f_sort : Addr
  d_sort : FuncData
  f_written : Addr
  d_written : FuncData
  f_read : Addr
  d_read : FuncData
  f_right : Addr
  d_right : FuncData
  f_law : Addr
  d_law : FuncData

structure Txt (K : PySem.W.Frag) (mg : Str → Option Value) (a : Ad) : Prop where
  F_is_whole : Fun K "is_whole" "is_whole" s_is_whole a.f_is_whole a.d_is_whole
  b_is_whole : L2.Binds K a.d_is_whole ["value"] []
  m_is_whole : mg "is_whole" = some (.ref a.f_is_whole)
  F_Ratio_init : FunD K "__init__" "Ratio.__init__" (defArgs s_Ratio_init) (defBody s_Ratio_init) (defScope s_Ratio_init) [.int 1] [] a.f_Ratio_init a.d_Ratio_init
  me_Ratio_init : Meth K a.C_Ratio "__init__" a.f_Ratio_init
  F_Ratio_eq : Fun K "__eq__" "Ratio.__eq__" s_Ratio_eq a.f_Ratio_eq a.d_Ratio_eq
  b_Ratio_eq : L2.Binds K a.d_Ratio_eq ["self", "other"] []
  me_Ratio_eq : Meth K a.C_Ratio "__eq__" a.f_Ratio_eq
  F_Ratio_str : Fun K "__str__" "Ratio.__str__" s_Ratio_str a.f_Ratio_str a.d_Ratio_str
  b_Ratio_str : L2.Binds K a.d_Ratio_str ["self"] []
  me_Ratio_str : Meth K a.C_Ratio "__str__" a.f_Ratio_str
  F_is_fraction : Fun K "is_fraction" "is_fraction" s_is_fraction a.f_is_fraction a.d_is_fraction
  b_is_fraction : L2.Binds K a.d_is_fraction ["value"] []
  m_is_fraction : mg "is_fraction" = some (.ref a.f_is_fraction)
  F_as_ratio : Fun K "as_ratio" "as_ratio" s_as_ratio a.f_as_ratio a.d_as_ratio
  b_as_ratio : L2.Binds K a.d_as_ratio ["fraction"] []
  m_as_ratio : mg "as_ratio" = some (.ref a.f_as_ratio)
  F_Ratio_read : Fun K "read" "Ratio.read" s_Ratio_read a.f_Ratio_read a.d_Ratio_read
  b_Ratio_read : L2.Binds K a.d_Ratio_read ["text"] []
  sm_Ratio_read : ∃ p, RK.SMet K a.C_Ratio (.type "type") "read" p a.f_Ratio_read
  F_ratio_in : Fun K "ratio_in" "ratio_in" s_ratio_in a.f_ratio_in a.d_ratio_in
  b_ratio_in : L2.Binds K a.d_ratio_in ["text"] []
  m_ratio_in : mg "ratio_in" = some (.ref a.f_ratio_in)
  F_has_digits_alone : Fun K "has_digits_alone" "has_digits_alone" s_has_digits_alone a.f_has_digits_alone a.d_has_digits_alone
  b_has_digits_alone : L2.Binds K a.d_has_digits_alone ["text"] []
  m_has_digits_alone : mg "has_digits_alone" = some (.ref a.f_has_digits_alone)
  F_InvalidText_init : Fun K "__init__" "InvalidText.__init__" s_InvalidText_init a.f_InvalidText_init a.d_InvalidText_init
  b_InvalidText_init : L2.Binds K a.d_InvalidText_init ["self", "value"] []
  me_InvalidText_init : Meth K a.C_InvalidText "__init__" a.f_InvalidText_init
  F_bag : Fun K "_law_bag" "_law_bag" s_bag a.f_bag a.d_bag
  b_bag : L2.Binds K a.d_bag ["_law_cells", "_law_k"] []
  m_bag : mg "_law_bag" = some (.ref a.f_bag)
  F_draw : Fun K "_law_draw" "_law_draw" s_draw a.f_draw a.d_draw
  b_draw : L2.Binds K a.d_draw ["_law_bag_here", "_law_wide"] []
  m_draw : mg "_law_draw" = some (.ref a.f_draw)
  F_one : Fun K "_law_one" "_law_one" s_one a.f_one a.d_one
  b_one : L2.Binds K a.d_one ["_law_bag_here", "_law_some"] []
  m_one : mg "_law_one" = some (.ref a.f_one)
  F_lowest : Fun K "_law_lowest" "_law_lowest" s_lowest a.f_lowest a.d_lowest
  b_lowest : L2.Binds K a.d_lowest ["_law_upper", "_law_lower"] []
  m_lowest : mg "_law_lowest" = some (.ref a.f_lowest)
  F_told : Fun K "_law_told" "_law_told" s_told a.f_told a.d_told
  b_told : L2.Binds K a.d_told ["_law_act"] []
  m_told : mg "_law_told" = some (.ref a.f_told)
  F_sort : Fun K "_law_sort" "_law_sort" s_sort a.f_sort a.d_sort
  b_sort : L2.Binds K a.d_sort ["_law_e"] []
  m_sort : mg "_law_sort" = some (.ref a.f_sort)
  F_written : Fun K "_law_written" "_law_written" s_written a.f_written a.d_written
  b_written : L2.Binds K a.d_written ["_law_pair"] []
  m_written : mg "_law_written" = some (.ref a.f_written)
  F_read : Fun K "_law_read" "_law_read" s_read a.f_read a.d_read
  b_read : L2.Binds K a.d_read ["_law_line"] []
  m_read : mg "_law_read" = some (.ref a.f_read)
  F_right : Fun K "_law_right" "_law_right" s_right a.f_right a.d_right
  b_right : L2.Binds K a.d_right ["_law_bag_here"] []
  m_right : mg "_law_right" = some (.ref a.f_right)
  F_law : Fun K "law" "law" s_law a.f_law a.d_law
  b_law : L2.Binds K a.d_law ["_law_cells"] []
  m_law : mg "law" = some (.ref a.f_law)
  cl_Ratio : Cls K a.C_Ratio
  m_Ratio : mg "Ratio" = some (.ref a.C_Ratio)
  mk_Ratio : Mk K a.C_Ratio a.f_Ratio_init
  m_ShapeError : mg "ShapeError" = some (.ref a.C_ShapeError)
  m_QuestionError : mg "QuestionError" = some (.ref a.C_QuestionError)
  m_SizeError : mg "SizeError" = some (.ref a.C_SizeError)
  m_InvalidText : mg "InvalidText" = some (.ref a.C_InvalidText)
  oex_InvalidText : OexC K a.C_InvalidText
  exc_InvalidText : ExcC K a.C_InvalidText
  xf_InvalidText : XfC K a.C_InvalidText
  ti_InvalidText : PySem.W.typeIn K (.ref a.f_InvalidText_init) = some (.type "function")
  z_isinstance : mg "isinstance" = none
  z_int : mg "int" = none
  z_bool : mg "bool" = none
  z_len : mg "len" = none
  z_abs : mg "abs" = none
  z_range : mg "range" = none
  z_all : mg "all" = none
  z_max : mg "max" = none
  z_min : mg "min" = none
  z_repr : mg "repr" = none
  z_str : mg "str" = none
  z_ValueError : mg "ValueError" = none
  z_LookupError : mg "LookupError" = none
  z_ArithmeticError : mg "ArithmeticError" = none
  m_gcd : mg "gcd" = some (.builtin "math.gcd")
  tc_right : ∃ c P, a.d_right.code = .ref c ∧ PySem.W.codeHdIn K c P = true ∧ K.lookup P = none
  ki_ShapeError : PySem.W.kitOne K (.ref a.C_InvalidText) (.ref a.C_ShapeError) = some true
  ki_QuestionError : PySem.W.kitOne K (.ref a.C_InvalidText) (.ref a.C_QuestionError) = some false
  ki_SizeError : PySem.W.kitOne K (.ref a.C_InvalidText) (.ref a.C_SizeError) = some false
  ki_InvalidText : PySem.W.kitOne K (.ref a.C_InvalidText) (.ref a.C_InvalidText) = some true
  ki_ValueError : PySem.W.kitOne K (.ref a.C_InvalidText) (.type "ValueError") = some true
  ki_LookupError : PySem.W.kitOne K (.ref a.C_InvalidText) (.type "LookupError") = some false
  ki_ArithmeticError : PySem.W.kitOne K (.ref a.C_InvalidText) (.type "ArithmeticError") = some false
  fo : PySem.W.findIn K (.ref a.C_InvalidText) "value" = some none
  exm : RK.exm3 K (.ref a.C_InvalidText) (.ref a.C_ShapeError) (.ref a.C_QuestionError) (.ref a.C_SizeError) = some true
  nT : NoAttr K a.C_Ratio "top"
  nB : NoAttr K a.C_Ratio "bottom"
  iA : PySem.W.findIn K (.ref a.C_Ratio) "__class__" = some (some (.builtin "object.__class__"))
  iN : PySem.W.specialIn K (.builtin "object.__class__") "__get__" = some (some (.builtin "getset_descriptor.__get__"))
  iT : PySem.W.takesIn K (.builtin "object.__class__") = some true
  iM : PySem.W.mroIn K a.C_Ratio (.type "object") = some true
  kRR : PySem.W.kitOne K (.ref a.C_Ratio) (.ref a.C_Ratio) = some true
  kIR : PySem.W.kitOne K (.type "int") (.ref a.C_Ratio) = some false
  nfR : PySem.W.notFirst K a.C_Ratio (.ref a.C_Ratio) = true

theorem all_mk {K : PySem.W.Frag} {h : Heap} {mg : Str → Option Value} (X : K.In h) (G : h.Ns mainGlobals mg)
    {C_Ratio C_ShapeError C_QuestionError C_SizeError C_InvalidText f_is_whole f_Ratio_init T_Ratio_init f_Ratio_eq f_Ratio_str f_is_fraction f_as_ratio f_Ratio_read sp_Ratio_read f_ratio_in f_has_digits_alone f_InvalidText_init f_bag f_draw f_one f_lowest f_told f_sort f_written f_read f_right f_law cR_right tP_right : Addr} {oc_is_whole kV_is_whole dc_is_whole pm_is_whole cd_is_whole ct_is_whole oc_Ratio_init kV_Ratio_init dc_Ratio_init pm_Ratio_init cd_Ratio_init ct_Ratio_init tc_Ratio_init oc_Ratio_eq kV_Ratio_eq dc_Ratio_eq pm_Ratio_eq cd_Ratio_eq ct_Ratio_eq oc_Ratio_str kV_Ratio_str dc_Ratio_str pm_Ratio_str cd_Ratio_str ct_Ratio_str oc_is_fraction kV_is_fraction dc_is_fraction pm_is_fraction cd_is_fraction ct_is_fraction oc_as_ratio kV_as_ratio dc_as_ratio pm_as_ratio cd_as_ratio ct_as_ratio oc_Ratio_read kV_Ratio_read dc_Ratio_read pm_Ratio_read cd_Ratio_read ct_Ratio_read oc_ratio_in kV_ratio_in dc_ratio_in pm_ratio_in cd_ratio_in ct_ratio_in oc_has_digits_alone kV_has_digits_alone dc_has_digits_alone pm_has_digits_alone cd_has_digits_alone ct_has_digits_alone oc_InvalidText_init kV_InvalidText_init dc_InvalidText_init pm_InvalidText_init cd_InvalidText_init ct_InvalidText_init oc_bag kV_bag dc_bag pm_bag cd_bag ct_bag oc_draw kV_draw dc_draw pm_draw cd_draw ct_draw oc_one kV_one dc_one pm_one cd_one ct_one oc_lowest kV_lowest dc_lowest pm_lowest cd_lowest ct_lowest oc_told kV_told dc_told pm_told cd_told ct_told oc_sort kV_sort dc_sort pm_sort cd_sort ct_sort oc_written kV_written dc_written pm_written cd_written ct_written oc_read kV_read dc_read pm_read cd_read ct_read oc_right kV_right dc_right pm_right ct_right oc_law kV_law dc_law pm_law cd_law ct_law : Value} {xd_InvalidText od_is_whole an_is_whole od_Ratio_init an_Ratio_init td_Ratio_init od_Ratio_eq an_Ratio_eq od_Ratio_str an_Ratio_str od_is_fraction an_is_fraction od_as_ratio an_as_ratio od_Ratio_read an_Ratio_read od_ratio_in an_ratio_in od_has_digits_alone an_has_digits_alone od_InvalidText_init an_InvalidText_init od_bag an_bag od_draw an_draw od_one an_one od_lowest an_lowest od_told an_told od_sort an_sort od_written an_written od_read an_read od_right an_right od_law an_law : Option Addr} {xs_InvalidText sl_is_whole sl_Ratio_init ts_Ratio_init sl_Ratio_eq sl_Ratio_str sl_is_fraction sl_as_ratio sl_Ratio_read sl_ratio_in sl_has_digits_alone sl_InvalidText_init sl_bag sl_draw sl_one sl_lowest sl_told sl_sort sl_written sl_read sl_right sl_law : Array (Option Value)} {xc_InvalidText : ClassData} {sr_Ratio_read : List Value} {tk0 : Tok} {tn_Ratio_init : Nat}
    (aC_Ratio : PySem.W.nsIn K mainGlobals "Ratio" = some (some (.ref C_Ratio)))
    (pg_Ratio : PySem.W.plainGet K C_Ratio Str.empty = true)
    (hd_Ratio : PySem.W.hasDictIn K C_Ratio = true)
    (po_Ratio : PySem.W.plainOver K C_Ratio = true)
    (sa_Ratio : PySem.W.findIn K (.ref C_Ratio) "__setattr__" = some (some (.builtin "object.__setattr__")))
    (mk_Ratio : PySem.W.makesIn K C_Ratio = true)
    (kc_Ratio : PySem.W.keepIn K (.ref C_Ratio) = true)
    (aC_ShapeError : PySem.W.nsIn K mainGlobals "ShapeError" = some (some (.ref C_ShapeError)))
    (aC_QuestionError : PySem.W.nsIn K mainGlobals "QuestionError" = some (some (.ref C_QuestionError)))
    (aC_SizeError : PySem.W.nsIn K mainGlobals "SizeError" = some (some (.ref C_SizeError)))
    (aC_InvalidText : PySem.W.nsIn K mainGlobals "InvalidText" = some (some (.ref C_InvalidText)))
    (xl_InvalidText : K.lookup C_InvalidText = some ⟨.type "type", xd_InvalidText, .cls xc_InvalidText, xs_InvalidText⟩)
    (xy_InvalidText : RK.oexS C_InvalidText xc_InvalidText xs_InvalidText = true)
    (xa_InvalidText : PySem.W.findIn K (.ref C_InvalidText) "__setattr__" = some (some (.builtin "object.__setattr__")))
    (xe_InvalidText : PySem.W.subIn K (.ref C_InvalidText) (.type "BaseException") = some true)
    (xt_InvalidText : PySem.W.typeIn K (.ref C_InvalidText) = some (.type "type"))
    (xk_InvalidText : PySem.W.keepIn K (.ref C_InvalidText) = true)
    (xg_InvalidText : PySem.W.findIn K (.ref C_InvalidText) "__getattribute__" = some (some (.builtin "BaseException.__getattribute__")))
    (xh_InvalidText : PySem.W.findIn K (.ref C_InvalidText) "__getattr__" = some none)
    (xi_InvalidText : PySem.W.hasDictIn K C_InvalidText = true)
    (xj_InvalidText : PySem.W.findIn K (.ref C_InvalidText) "__class__" = some (some (.builtin "object.__class__")))
    (xm_InvalidText : PySem.W.specialIn K (.builtin "object.__class__") "__get__" = some (some (.builtin "getset_descriptor.__get__")))
    (xn_InvalidText : PySem.W.takesIn K (.builtin "object.__class__") = some true)
    (xo_InvalidText : PySem.W.mroIn K C_InvalidText (.type "object") = some true)
    (xp_InvalidText : PySem.W.typeIn K (.ref f_InvalidText_init) = some (.type "function"))
    (a_is_whole : PySem.W.nsIn K mainGlobals "is_whole" = some (some (.ref f_is_whole)))
    (l_is_whole : K.lookup f_is_whole = some ⟨oc_is_whole, od_is_whole, .func (PySem.W.fnOf "is_whole" "is_whole" (defArgs s_is_whole) (defBody s_is_whole) (defScope s_is_whole) .none kV_is_whole dc_is_whole pm_is_whole an_is_whole cd_is_whole ct_is_whole), sl_is_whole⟩) (c_is_whole : PySem.W.codeIn K cd_is_whole "is_whole" = true) (k_is_whole : PySem.W.keepIn K (.ref f_is_whole) = true)
    (a_Ratio_init : PySem.W.findIn K (.ref C_Ratio) "__init__" = some (some (.ref f_Ratio_init))) (i_Ratio_init : PySem.W.isFn K (.ref f_Ratio_init) = true)
    (l_Ratio_init : K.lookup f_Ratio_init = some ⟨oc_Ratio_init, od_Ratio_init, .func (PySem.W.fnOf "__init__" "Ratio.__init__" (defArgs s_Ratio_init) (defBody s_Ratio_init) (defScope s_Ratio_init) (.ref T_Ratio_init) kV_Ratio_init dc_Ratio_init pm_Ratio_init an_Ratio_init cd_Ratio_init ct_Ratio_init), sl_Ratio_init⟩) (c_Ratio_init : PySem.W.codeIn K cd_Ratio_init "Ratio.__init__" = true) (k_Ratio_init : PySem.W.keepIn K (.ref f_Ratio_init) = true)
    (t_Ratio_init : K.lookup T_Ratio_init = some ⟨tc_Ratio_init, td_Ratio_init, .seq #[.int 1 tk0] tn_Ratio_init, ts_Ratio_init⟩)
    (a_Ratio_eq : PySem.W.findIn K (.ref C_Ratio) "__eq__" = some (some (.ref f_Ratio_eq))) (i_Ratio_eq : PySem.W.isFn K (.ref f_Ratio_eq) = true)
    (l_Ratio_eq : K.lookup f_Ratio_eq = some ⟨oc_Ratio_eq, od_Ratio_eq, .func (PySem.W.fnOf "__eq__" "Ratio.__eq__" (defArgs s_Ratio_eq) (defBody s_Ratio_eq) (defScope s_Ratio_eq) .none kV_Ratio_eq dc_Ratio_eq pm_Ratio_eq an_Ratio_eq cd_Ratio_eq ct_Ratio_eq), sl_Ratio_eq⟩) (c_Ratio_eq : PySem.W.codeIn K cd_Ratio_eq "Ratio.__eq__" = true) (k_Ratio_eq : PySem.W.keepIn K (.ref f_Ratio_eq) = true)
    (a_Ratio_str : PySem.W.findIn K (.ref C_Ratio) "__str__" = some (some (.ref f_Ratio_str))) (i_Ratio_str : PySem.W.isFn K (.ref f_Ratio_str) = true)
    (l_Ratio_str : K.lookup f_Ratio_str = some ⟨oc_Ratio_str, od_Ratio_str, .func (PySem.W.fnOf "__str__" "Ratio.__str__" (defArgs s_Ratio_str) (defBody s_Ratio_str) (defScope s_Ratio_str) .none kV_Ratio_str dc_Ratio_str pm_Ratio_str an_Ratio_str cd_Ratio_str ct_Ratio_str), sl_Ratio_str⟩) (c_Ratio_str : PySem.W.codeIn K cd_Ratio_str "Ratio.__str__" = true) (k_Ratio_str : PySem.W.keepIn K (.ref f_Ratio_str) = true)
    (a_is_fraction : PySem.W.nsIn K mainGlobals "is_fraction" = some (some (.ref f_is_fraction)))
    (l_is_fraction : K.lookup f_is_fraction = some ⟨oc_is_fraction, od_is_fraction, .func (PySem.W.fnOf "is_fraction" "is_fraction" (defArgs s_is_fraction) (defBody s_is_fraction) (defScope s_is_fraction) .none kV_is_fraction dc_is_fraction pm_is_fraction an_is_fraction cd_is_fraction ct_is_fraction), sl_is_fraction⟩) (c_is_fraction : PySem.W.codeIn K cd_is_fraction "is_fraction" = true) (k_is_fraction : PySem.W.keepIn K (.ref f_is_fraction) = true)
    (a_as_ratio : PySem.W.nsIn K mainGlobals "as_ratio" = some (some (.ref f_as_ratio)))
    (l_as_ratio : K.lookup f_as_ratio = some ⟨oc_as_ratio, od_as_ratio, .func (PySem.W.fnOf "as_ratio" "as_ratio" (defArgs s_as_ratio) (defBody s_as_ratio) (defScope s_as_ratio) .none kV_as_ratio dc_as_ratio pm_as_ratio an_as_ratio cd_as_ratio ct_as_ratio), sl_as_ratio⟩) (c_as_ratio : PySem.W.codeIn K cd_as_ratio "as_ratio" = true) (k_as_ratio : PySem.W.keepIn K (.ref f_as_ratio) = true)
    (sa_Ratio_read : PySem.W.findCls K (.ref C_Ratio) (.type "type") "read" = some (.get (.builtin "staticmethod.__get__") (.ref sp_Ratio_read) .none (.ref C_Ratio)))
    (sb_Ratio_read : PySem.W.recIn K sp_Ratio_read "staticmethod" = some (.ref f_Ratio_read :: sr_Ratio_read))
    (sc_Ratio_read : PySem.W.readsIn K C_Ratio (.type "type") = true)
    (sd_Ratio_read : PySem.W.specialIn K (.ref C_Ratio) "__getattribute__" = some (some (.builtin "type.__getattribute__")))
    (l_Ratio_read : K.lookup f_Ratio_read = some ⟨oc_Ratio_read, od_Ratio_read, .func (PySem.W.fnOf "read" "Ratio.read" (defArgs s_Ratio_read) (defBody s_Ratio_read) (defScope s_Ratio_read) .none kV_Ratio_read dc_Ratio_read pm_Ratio_read an_Ratio_read cd_Ratio_read ct_Ratio_read), sl_Ratio_read⟩) (c_Ratio_read : PySem.W.codeIn K cd_Ratio_read "Ratio.read" = true) (k_Ratio_read : PySem.W.keepIn K (.ref f_Ratio_read) = true)
    (a_ratio_in : PySem.W.nsIn K mainGlobals "ratio_in" = some (some (.ref f_ratio_in)))
    (l_ratio_in : K.lookup f_ratio_in = some ⟨oc_ratio_in, od_ratio_in, .func (PySem.W.fnOf "ratio_in" "ratio_in" (defArgs s_ratio_in) (defBody s_ratio_in) (defScope s_ratio_in) .none kV_ratio_in dc_ratio_in pm_ratio_in an_ratio_in cd_ratio_in ct_ratio_in), sl_ratio_in⟩) (c_ratio_in : PySem.W.codeIn K cd_ratio_in "ratio_in" = true) (k_ratio_in : PySem.W.keepIn K (.ref f_ratio_in) = true)
    (a_has_digits_alone : PySem.W.nsIn K mainGlobals "has_digits_alone" = some (some (.ref f_has_digits_alone)))
    (l_has_digits_alone : K.lookup f_has_digits_alone = some ⟨oc_has_digits_alone, od_has_digits_alone, .func (PySem.W.fnOf "has_digits_alone" "has_digits_alone" (defArgs s_has_digits_alone) (defBody s_has_digits_alone) (defScope s_has_digits_alone) .none kV_has_digits_alone dc_has_digits_alone pm_has_digits_alone an_has_digits_alone cd_has_digits_alone ct_has_digits_alone), sl_has_digits_alone⟩) (c_has_digits_alone : PySem.W.codeIn K cd_has_digits_alone "has_digits_alone" = true) (k_has_digits_alone : PySem.W.keepIn K (.ref f_has_digits_alone) = true)
    (a_InvalidText_init : PySem.W.findIn K (.ref C_InvalidText) "__init__" = some (some (.ref f_InvalidText_init))) (i_InvalidText_init : PySem.W.isFn K (.ref f_InvalidText_init) = true)
    (l_InvalidText_init : K.lookup f_InvalidText_init = some ⟨oc_InvalidText_init, od_InvalidText_init, .func (PySem.W.fnOf "__init__" "InvalidText.__init__" (defArgs s_InvalidText_init) (defBody s_InvalidText_init) (defScope s_InvalidText_init) .none kV_InvalidText_init dc_InvalidText_init pm_InvalidText_init an_InvalidText_init cd_InvalidText_init ct_InvalidText_init), sl_InvalidText_init⟩) (c_InvalidText_init : PySem.W.codeIn K cd_InvalidText_init "InvalidText.__init__" = true) (k_InvalidText_init : PySem.W.keepIn K (.ref f_InvalidText_init) = true)
    (a_bag : PySem.W.nsIn K mainGlobals "_law_bag" = some (some (.ref f_bag)))
    (l_bag : K.lookup f_bag = some ⟨oc_bag, od_bag, .func (PySem.W.fnOf "_law_bag" "_law_bag" (defArgs s_bag) (defBody s_bag) (defScope s_bag) .none kV_bag dc_bag pm_bag an_bag cd_bag ct_bag), sl_bag⟩) (c_bag : PySem.W.codeIn K cd_bag "_law_bag" = true) (k_bag : PySem.W.keepIn K (.ref f_bag) = true)
    (a_draw : PySem.W.nsIn K mainGlobals "_law_draw" = some (some (.ref f_draw)))
    (l_draw : K.lookup f_draw = some ⟨oc_draw, od_draw, .func (PySem.W.fnOf "_law_draw" "_law_draw" (defArgs s_draw) (defBody s_draw) (defScope s_draw) .none kV_draw dc_draw pm_draw an_draw cd_draw ct_draw), sl_draw⟩) (c_draw : PySem.W.codeIn K cd_draw "_law_draw" = true) (k_draw : PySem.W.keepIn K (.ref f_draw) = true)
    (a_one : PySem.W.nsIn K mainGlobals "_law_one" = some (some (.ref f_one)))
    (l_one : K.lookup f_one = some ⟨oc_one, od_one, .func (PySem.W.fnOf "_law_one" "_law_one" (defArgs s_one) (defBody s_one) (defScope s_one) .none kV_one dc_one pm_one an_one cd_one ct_one), sl_one⟩) (c_one : PySem.W.codeIn K cd_one "_law_one" = true) (k_one : PySem.W.keepIn K (.ref f_one) = true)
    (a_lowest : PySem.W.nsIn K mainGlobals "_law_lowest" = some (some (.ref f_lowest)))
    (l_lowest : K.lookup f_lowest = some ⟨oc_lowest, od_lowest, .func (PySem.W.fnOf "_law_lowest" "_law_lowest" (defArgs s_lowest) (defBody s_lowest) (defScope s_lowest) .none kV_lowest dc_lowest pm_lowest an_lowest cd_lowest ct_lowest), sl_lowest⟩) (c_lowest : PySem.W.codeIn K cd_lowest "_law_lowest" = true) (k_lowest : PySem.W.keepIn K (.ref f_lowest) = true)
    (a_told : PySem.W.nsIn K mainGlobals "_law_told" = some (some (.ref f_told)))
    (l_told : K.lookup f_told = some ⟨oc_told, od_told, .func (PySem.W.fnOf "_law_told" "_law_told" (defArgs s_told) (defBody s_told) (defScope s_told) .none kV_told dc_told pm_told an_told cd_told ct_told), sl_told⟩) (c_told : PySem.W.codeIn K cd_told "_law_told" = true) (k_told : PySem.W.keepIn K (.ref f_told) = true)
    (a_sort : PySem.W.nsIn K mainGlobals "_law_sort" = some (some (.ref f_sort)))
    (l_sort : K.lookup f_sort = some ⟨oc_sort, od_sort, .func (PySem.W.fnOf "_law_sort" "_law_sort" (defArgs s_sort) (defBody s_sort) (defScope s_sort) .none kV_sort dc_sort pm_sort an_sort cd_sort ct_sort), sl_sort⟩) (c_sort : PySem.W.codeIn K cd_sort "_law_sort" = true) (k_sort : PySem.W.keepIn K (.ref f_sort) = true)
    (a_written : PySem.W.nsIn K mainGlobals "_law_written" = some (some (.ref f_written)))
    (l_written : K.lookup f_written = some ⟨oc_written, od_written, .func (PySem.W.fnOf "_law_written" "_law_written" (defArgs s_written) (defBody s_written) (defScope s_written) .none kV_written dc_written pm_written an_written cd_written ct_written), sl_written⟩) (c_written : PySem.W.codeIn K cd_written "_law_written" = true) (k_written : PySem.W.keepIn K (.ref f_written) = true)
    (a_read : PySem.W.nsIn K mainGlobals "_law_read" = some (some (.ref f_read)))
    (l_read : K.lookup f_read = some ⟨oc_read, od_read, .func (PySem.W.fnOf "_law_read" "_law_read" (defArgs s_read) (defBody s_read) (defScope s_read) .none kV_read dc_read pm_read an_read cd_read ct_read), sl_read⟩) (c_read : PySem.W.codeIn K cd_read "_law_read" = true) (k_read : PySem.W.keepIn K (.ref f_read) = true)
    (a_right : PySem.W.nsIn K mainGlobals "_law_right" = some (some (.ref f_right)))
    (l_right : K.lookup f_right = some ⟨oc_right, od_right, .func (PySem.W.fnOf "_law_right" "_law_right" (defArgs s_right) (defBody s_right) (defScope s_right) .none kV_right dc_right pm_right an_right (.ref cR_right) ct_right), sl_right⟩) (c_right : PySem.W.codeIn K (.ref cR_right) "_law_right" = true) (k_right : PySem.W.keepIn K (.ref f_right) = true)
    (a_law : PySem.W.nsIn K mainGlobals "law" = some (some (.ref f_law)))
    (l_law : K.lookup f_law = some ⟨oc_law, od_law, .func (PySem.W.fnOf "law" "law" (defArgs s_law) (defBody s_law) (defScope s_law) .none kV_law dc_law pm_law an_law cd_law ct_law), sl_law⟩) (c_law : PySem.W.codeIn K cd_law "law" = true) (k_law : PySem.W.keepIn K (.ref f_law) = true)
    (ht_right : RK.tabOf K cR_right = some tP_right) (hh_right : PySem.W.codeHdIn K cR_right tP_right = true) (hn_right : K.lookup tP_right = none)
    (z_isinstance : PySem.W.nsIn K mainGlobals "isinstance" = some none)
    (z_int : PySem.W.nsIn K mainGlobals "int" = some none)
    (z_bool : PySem.W.nsIn K mainGlobals "bool" = some none)
    (z_len : PySem.W.nsIn K mainGlobals "len" = some none)
    (z_abs : PySem.W.nsIn K mainGlobals "abs" = some none)
    (z_range : PySem.W.nsIn K mainGlobals "range" = some none)
    (z_all : PySem.W.nsIn K mainGlobals "all" = some none)
    (z_max : PySem.W.nsIn K mainGlobals "max" = some none)
    (z_min : PySem.W.nsIn K mainGlobals "min" = some none)
    (z_repr : PySem.W.nsIn K mainGlobals "repr" = some none)
    (z_str : PySem.W.nsIn K mainGlobals "str" = some none)
    (z_ValueError : PySem.W.nsIn K mainGlobals "ValueError" = some none)
    (z_LookupError : PySem.W.nsIn K mainGlobals "LookupError" = some none)
    (z_ArithmeticError : PySem.W.nsIn K mainGlobals "ArithmeticError" = some none)
    (g_gcd : PySem.W.nsIn K mainGlobals "gcd" = some (some (.builtin "math.gcd")))
    (h_ki_ShapeError : PySem.W.kitOne K (.ref C_InvalidText) (.ref C_ShapeError) = some true)
    (h_ki_QuestionError : PySem.W.kitOne K (.ref C_InvalidText) (.ref C_QuestionError) = some false)
    (h_ki_SizeError : PySem.W.kitOne K (.ref C_InvalidText) (.ref C_SizeError) = some false)
    (h_ki_InvalidText : PySem.W.kitOne K (.ref C_InvalidText) (.ref C_InvalidText) = some true)
    (h_ki_ValueError : PySem.W.kitOne K (.ref C_InvalidText) (.type "ValueError") = some true)
    (h_ki_LookupError : PySem.W.kitOne K (.ref C_InvalidText) (.type "LookupError") = some false)
    (h_ki_ArithmeticError : PySem.W.kitOne K (.ref C_InvalidText) (.type "ArithmeticError") = some false)
    (h_fo : PySem.W.findIn K (.ref C_InvalidText) "value" = some none)
    (h_exm : RK.exm3 K (.ref C_InvalidText) (.ref C_ShapeError) (.ref C_QuestionError) (.ref C_SizeError) = some true)
    (h_nT : PySem.W.findIn K (.ref C_Ratio) "top" = some none)
    (h_nB : PySem.W.findIn K (.ref C_Ratio) "bottom" = some none)
    (h_iA : PySem.W.findIn K (.ref C_Ratio) "__class__" = some (some (.builtin "object.__class__")))
    (h_iN : PySem.W.specialIn K (.builtin "object.__class__") "__get__" = some (some (.builtin "getset_descriptor.__get__")))
    (h_iT : PySem.W.takesIn K (.builtin "object.__class__") = some true)
    (h_iM : PySem.W.mroIn K C_Ratio (.type "object") = some true)
    (h_kRR : PySem.W.kitOne K (.ref C_Ratio) (.ref C_Ratio) = some true)
    (h_kIR : PySem.W.kitOne K (.type "int") (.ref C_Ratio) = some false)
    (h_nfR : PySem.W.notFirst K C_Ratio (.ref C_Ratio) = true) :
    ∃ a : Ad, Txt K mg a :=
  ⟨{ C_Ratio := C_Ratio, C_ShapeError := C_ShapeError, C_QuestionError := C_QuestionError, C_SizeError := C_SizeError, C_InvalidText := C_InvalidText, f_is_whole := f_is_whole, d_is_whole := PySem.W.fnOf "is_whole" "is_whole" (defArgs s_is_whole) (defBody s_is_whole) (defScope s_is_whole) .none kV_is_whole dc_is_whole pm_is_whole an_is_whole cd_is_whole ct_is_whole, f_Ratio_init := f_Ratio_init, d_Ratio_init := PySem.W.fnOf "__init__" "Ratio.__init__" (defArgs s_Ratio_init) (defBody s_Ratio_init) (defScope s_Ratio_init) (.ref T_Ratio_init) kV_Ratio_init dc_Ratio_init pm_Ratio_init an_Ratio_init cd_Ratio_init ct_Ratio_init, f_Ratio_eq := f_Ratio_eq, d_Ratio_eq := PySem.W.fnOf "__eq__" "Ratio.__eq__" (defArgs s_Ratio_eq) (defBody s_Ratio_eq) (defScope s_Ratio_eq) .none kV_Ratio_eq dc_Ratio_eq pm_Ratio_eq an_Ratio_eq cd_Ratio_eq ct_Ratio_eq, f_Ratio_str := f_Ratio_str, d_Ratio_str := PySem.W.fnOf "__str__" "Ratio.__str__" (defArgs s_Ratio_str) (defBody s_Ratio_str) (defScope s_Ratio_str) .none kV_Ratio_str dc_Ratio_str pm_Ratio_str an_Ratio_str cd_Ratio_str ct_Ratio_str, f_is_fraction := f_is_fraction, d_is_fraction := PySem.W.fnOf "is_fraction" "is_fraction" (defArgs s_is_fraction) (defBody s_is_fraction) (defScope s_is_fraction) .none kV_is_fraction dc_is_fraction pm_is_fraction an_is_fraction cd_is_fraction ct_is_fraction, f_as_ratio := f_as_ratio, d_as_ratio := PySem.W.fnOf "as_ratio" "as_ratio" (defArgs s_as_ratio) (defBody s_as_ratio) (defScope s_as_ratio) .none kV_as_ratio dc_as_ratio pm_as_ratio an_as_ratio cd_as_ratio ct_as_ratio, f_Ratio_read := f_Ratio_read, d_Ratio_read := PySem.W.fnOf "read" "Ratio.read" (defArgs s_Ratio_read) (defBody s_Ratio_read) (defScope s_Ratio_read) .none kV_Ratio_read dc_Ratio_read pm_Ratio_read an_Ratio_read cd_Ratio_read ct_Ratio_read, f_ratio_in := f_ratio_in, d_ratio_in := PySem.W.fnOf "ratio_in" "ratio_in" (defArgs s_ratio_in) (defBody s_ratio_in) (defScope s_ratio_in) .none kV_ratio_in dc_ratio_in pm_ratio_in an_ratio_in cd_ratio_in ct_ratio_in, f_has_digits_alone := f_has_digits_alone, d_has_digits_alone := PySem.W.fnOf "has_digits_alone" "has_digits_alone" (defArgs s_has_digits_alone) (defBody s_has_digits_alone) (defScope s_has_digits_alone) .none kV_has_digits_alone dc_has_digits_alone pm_has_digits_alone an_has_digits_alone cd_has_digits_alone ct_has_digits_alone, f_InvalidText_init := f_InvalidText_init, d_InvalidText_init := PySem.W.fnOf "__init__" "InvalidText.__init__" (defArgs s_InvalidText_init) (defBody s_InvalidText_init) (defScope s_InvalidText_init) .none kV_InvalidText_init dc_InvalidText_init pm_InvalidText_init an_InvalidText_init cd_InvalidText_init ct_InvalidText_init, f_bag := f_bag, d_bag := PySem.W.fnOf "_law_bag" "_law_bag" (defArgs s_bag) (defBody s_bag) (defScope s_bag) .none kV_bag dc_bag pm_bag an_bag cd_bag ct_bag, f_draw := f_draw, d_draw := PySem.W.fnOf "_law_draw" "_law_draw" (defArgs s_draw) (defBody s_draw) (defScope s_draw) .none kV_draw dc_draw pm_draw an_draw cd_draw ct_draw, f_one := f_one, d_one := PySem.W.fnOf "_law_one" "_law_one" (defArgs s_one) (defBody s_one) (defScope s_one) .none kV_one dc_one pm_one an_one cd_one ct_one, f_lowest := f_lowest, d_lowest := PySem.W.fnOf "_law_lowest" "_law_lowest" (defArgs s_lowest) (defBody s_lowest) (defScope s_lowest) .none kV_lowest dc_lowest pm_lowest an_lowest cd_lowest ct_lowest, f_told := f_told, d_told := PySem.W.fnOf "_law_told" "_law_told" (defArgs s_told) (defBody s_told) (defScope s_told) .none kV_told dc_told pm_told an_told cd_told ct_told, f_sort := f_sort, d_sort := PySem.W.fnOf "_law_sort" "_law_sort" (defArgs s_sort) (defBody s_sort) (defScope s_sort) .none kV_sort dc_sort pm_sort an_sort cd_sort ct_sort, f_written := f_written, d_written := PySem.W.fnOf "_law_written" "_law_written" (defArgs s_written) (defBody s_written) (defScope s_written) .none kV_written dc_written pm_written an_written cd_written ct_written, f_read := f_read, d_read := PySem.W.fnOf "_law_read" "_law_read" (defArgs s_read) (defBody s_read) (defScope s_read) .none kV_read dc_read pm_read an_read cd_read ct_read, f_right := f_right, d_right := PySem.W.fnOf "_law_right" "_law_right" (defArgs s_right) (defBody s_right) (defScope s_right) .none kV_right dc_right pm_right an_right (.ref cR_right) ct_right, f_law := f_law, d_law := PySem.W.fnOf "law" "law" (defArgs s_law) (defBody s_law) (defScope s_law) .none kV_law dc_law pm_law an_law cd_law ct_law : Ad }, {
    F_is_whole := fun_mk (st := s_is_whole) l_is_whole c_is_whole k_is_whole,
    b_is_whole := (fun_mk (st := s_is_whole) l_is_whole c_is_whole k_is_whole).binds (ps := ["value"]) fun _ _ _ _ _ _ us hl => match us, hl with | [_], _ => rfl,
    m_is_whole := PySem.W.mg_of X G a_is_whole,
    F_Ratio_init := ⟨⟨_, _, _, _, _, _, _, _, _, _, rfl, l_Ratio_init, c_Ratio_init, .inr ⟨(fun h => nomatch h), _, _, [.int 1 tk0], _, rfl, t_Ratio_init, rfl, .cons ⟨_, rfl⟩ (.nil)⟩, .inl rfl⟩, k_Ratio_init⟩,
    me_Ratio_init := ⟨a_Ratio_init, i_Ratio_init, k_Ratio_init⟩,
    F_Ratio_eq := fun_mk (st := s_Ratio_eq) l_Ratio_eq c_Ratio_eq k_Ratio_eq,
    b_Ratio_eq := (fun_mk (st := s_Ratio_eq) l_Ratio_eq c_Ratio_eq k_Ratio_eq).binds (ps := ["self", "other"]) fun _ _ _ _ _ _ us hl => match us, hl with | [_, _], _ => rfl,
    me_Ratio_eq := ⟨a_Ratio_eq, i_Ratio_eq, k_Ratio_eq⟩,
    F_Ratio_str := fun_mk (st := s_Ratio_str) l_Ratio_str c_Ratio_str k_Ratio_str,
    b_Ratio_str := (fun_mk (st := s_Ratio_str) l_Ratio_str c_Ratio_str k_Ratio_str).binds (ps := ["self"]) fun _ _ _ _ _ _ us hl => match us, hl with | [_], _ => rfl,
    me_Ratio_str := ⟨a_Ratio_str, i_Ratio_str, k_Ratio_str⟩,
    F_is_fraction := fun_mk (st := s_is_fraction) l_is_fraction c_is_fraction k_is_fraction,
    b_is_fraction := (fun_mk (st := s_is_fraction) l_is_fraction c_is_fraction k_is_fraction).binds (ps := ["value"]) fun _ _ _ _ _ _ us hl => match us, hl with | [_], _ => rfl,
    m_is_fraction := PySem.W.mg_of X G a_is_fraction,
    F_as_ratio := fun_mk (st := s_as_ratio) l_as_ratio c_as_ratio k_as_ratio,
    b_as_ratio := (fun_mk (st := s_as_ratio) l_as_ratio c_as_ratio k_as_ratio).binds (ps := ["fraction"]) fun _ _ _ _ _ _ us hl => match us, hl with | [_], _ => rfl,
    m_as_ratio := PySem.W.mg_of X G a_as_ratio,
    F_Ratio_read := fun_mk (st := s_Ratio_read) l_Ratio_read c_Ratio_read k_Ratio_read,
    b_Ratio_read := (fun_mk (st := s_Ratio_read) l_Ratio_read c_Ratio_read k_Ratio_read).binds (ps := ["text"]) fun _ _ _ _ _ _ us hl => match us, hl with | [_], _ => rfl,
    sm_Ratio_read := ⟨_, sa_Ratio_read, ⟨_, sb_Ratio_read⟩, sc_Ratio_read, sd_Ratio_read, k_Ratio_read⟩,
    F_ratio_in := fun_mk (st := s_ratio_in) l_ratio_in c_ratio_in k_ratio_in,
    b_ratio_in := (fun_mk (st := s_ratio_in) l_ratio_in c_ratio_in k_ratio_in).binds (ps := ["text"]) fun _ _ _ _ _ _ us hl => match us, hl with | [_], _ => rfl,
    m_ratio_in := PySem.W.mg_of X G a_ratio_in,
    F_has_digits_alone := fun_mk (st := s_has_digits_alone) l_has_digits_alone c_has_digits_alone k_has_digits_alone,
    b_has_digits_alone := (fun_mk (st := s_has_digits_alone) l_has_digits_alone c_has_digits_alone k_has_digits_alone).binds (ps := ["text"]) fun _ _ _ _ _ _ us hl => match us, hl with | [_], _ => rfl,
    m_has_digits_alone := PySem.W.mg_of X G a_has_digits_alone,
    F_InvalidText_init := fun_mk (st := s_InvalidText_init) l_InvalidText_init c_InvalidText_init k_InvalidText_init,
    b_InvalidText_init := (fun_mk (st := s_InvalidText_init) l_InvalidText_init c_InvalidText_init k_InvalidText_init).binds (ps := ["self", "value"]) fun _ _ _ _ _ _ us hl => match us, hl with | [_, _], _ => rfl,
    me_InvalidText_init := ⟨a_InvalidText_init, i_InvalidText_init, k_InvalidText_init⟩,
    F_bag := fun_mk (st := s_bag) l_bag c_bag k_bag,
    b_bag := (fun_mk (st := s_bag) l_bag c_bag k_bag).binds (ps := ["_law_cells", "_law_k"]) fun _ _ _ _ _ _ us hl => match us, hl with | [_, _], _ => rfl,
    m_bag := PySem.W.mg_of X G a_bag,
    F_draw := fun_mk (st := s_draw) l_draw c_draw k_draw,
    b_draw := (fun_mk (st := s_draw) l_draw c_draw k_draw).binds (ps := ["_law_bag_here", "_law_wide"]) fun _ _ _ _ _ _ us hl => match us, hl with | [_, _], _ => rfl,
    m_draw := PySem.W.mg_of X G a_draw,
    F_one := fun_mk (st := s_one) l_one c_one k_one,
    b_one := (fun_mk (st := s_one) l_one c_one k_one).binds (ps := ["_law_bag_here", "_law_some"]) fun _ _ _ _ _ _ us hl => match us, hl with | [_, _], _ => rfl,
    m_one := PySem.W.mg_of X G a_one,
    F_lowest := fun_mk (st := s_lowest) l_lowest c_lowest k_lowest,
    b_lowest := (fun_mk (st := s_lowest) l_lowest c_lowest k_lowest).binds (ps := ["_law_upper", "_law_lower"]) fun _ _ _ _ _ _ us hl => match us, hl with | [_, _], _ => rfl,
    m_lowest := PySem.W.mg_of X G a_lowest,
    F_told := fun_mk (st := s_told) l_told c_told k_told,
    b_told := (fun_mk (st := s_told) l_told c_told k_told).binds (ps := ["_law_act"]) fun _ _ _ _ _ _ us hl => match us, hl with | [_], _ => rfl,
    m_told := PySem.W.mg_of X G a_told,
    F_sort := fun_mk (st := s_sort) l_sort c_sort k_sort,
    b_sort := (fun_mk (st := s_sort) l_sort c_sort k_sort).binds (ps := ["_law_e"]) fun _ _ _ _ _ _ us hl => match us, hl with | [_], _ => rfl,
    m_sort := PySem.W.mg_of X G a_sort,
    F_written := fun_mk (st := s_written) l_written c_written k_written,
    b_written := (fun_mk (st := s_written) l_written c_written k_written).binds (ps := ["_law_pair"]) fun _ _ _ _ _ _ us hl => match us, hl with | [_], _ => rfl,
    m_written := PySem.W.mg_of X G a_written,
    F_read := fun_mk (st := s_read) l_read c_read k_read,
    b_read := (fun_mk (st := s_read) l_read c_read k_read).binds (ps := ["_law_line"]) fun _ _ _ _ _ _ us hl => match us, hl with | [_], _ => rfl,
    m_read := PySem.W.mg_of X G a_read,
    F_right := fun_mk (st := s_right) l_right c_right k_right,
    b_right := (fun_mk (st := s_right) l_right c_right k_right).binds (ps := ["_law_bag_here"]) fun _ _ _ _ _ _ us hl => match us, hl with | [_], _ => rfl,
    m_right := PySem.W.mg_of X G a_right,
    F_law := fun_mk (st := s_law) l_law c_law k_law,
    b_law := (fun_mk (st := s_law) l_law c_law k_law).binds (ps := ["_law_cells"]) fun _ _ _ _ _ _ us hl => match us, hl with | [_], _ => rfl,
    m_law := PySem.W.mg_of X G a_law,
    cl_Ratio := ⟨pg_Ratio, hd_Ratio, po_Ratio, sa_Ratio⟩,
    m_Ratio := PySem.W.mg_of X G aC_Ratio,
    mk_Ratio := ⟨mk_Ratio, a_Ratio_init, i_Ratio_init, kc_Ratio⟩,
    m_ShapeError := PySem.W.mg_of X G aC_ShapeError,
    m_QuestionError := PySem.W.mg_of X G aC_QuestionError,
    m_SizeError := PySem.W.mg_of X G aC_SizeError,
    m_InvalidText := PySem.W.mg_of X G aC_InvalidText,
    oex_InvalidText := RK.oex_mk xl_InvalidText xy_InvalidText xa_InvalidText xe_InvalidText xt_InvalidText xk_InvalidText,
    exc_InvalidText := ⟨xg_InvalidText, xh_InvalidText, xe_InvalidText, xi_InvalidText, xj_InvalidText, xm_InvalidText, xn_InvalidText, xo_InvalidText⟩,
    xf_InvalidText := ⟨xg_InvalidText, xh_InvalidText, xe_InvalidText, xi_InvalidText⟩,
    ti_InvalidText := xp_InvalidText,
    tc_right := ⟨_, _, rfl, hh_right, hn_right⟩,
    z_isinstance := PySem.W.mg_none_of X G z_isinstance,
    z_int := PySem.W.mg_none_of X G z_int,
    z_bool := PySem.W.mg_none_of X G z_bool,
    z_len := PySem.W.mg_none_of X G z_len,
    z_abs := PySem.W.mg_none_of X G z_abs,
    z_range := PySem.W.mg_none_of X G z_range,
    z_all := PySem.W.mg_none_of X G z_all,
    z_max := PySem.W.mg_none_of X G z_max,
    z_min := PySem.W.mg_none_of X G z_min,
    z_repr := PySem.W.mg_none_of X G z_repr,
    z_str := PySem.W.mg_none_of X G z_str,
    z_ValueError := PySem.W.mg_none_of X G z_ValueError,
    z_LookupError := PySem.W.mg_none_of X G z_LookupError,
    z_ArithmeticError := PySem.W.mg_none_of X G z_ArithmeticError,
    m_gcd := PySem.W.mg_of X G g_gcd,
    ki_ShapeError := h_ki_ShapeError,
    ki_QuestionError := h_ki_QuestionError,
    ki_SizeError := h_ki_SizeError,
    ki_InvalidText := h_ki_InvalidText,
    ki_ValueError := h_ki_ValueError,
    ki_LookupError := h_ki_LookupError,
    ki_ArithmeticError := h_ki_ArithmeticError,
    fo := h_fo,
    exm := h_exm,
    nT := h_nT,
    nB := h_nB,
    iA := h_iA,
    iN := h_iN,
    iT := h_iT,
    iM := h_iM,
    kRR := h_kRR,
    kIR := h_kIR,
    nfR := h_nfR }⟩

end RK3

local macro_rules | `(tactic| walk_at "at") => `(tactic| first | assumption | exact L2.upd_same | ((refine RK.Same.at (by assumption) ?_); walk_at "at") | ((refine RK.SameT.tup (RK.Grown.same (by assumption)) ?_); walk_at "at"))
local macro_rules | `(tactic| walk_at "s") => `(tactic| first
  | with_reducible refine RK.w_seq ?_
  | with_reducible refine RK.w_asg ?_
  | with_reducible refine RK.w_gn ?_
  | with_reducible refine RK.w_if ?_
  | with_reducible refine RK.w_ret ?_
  | with_reducible refine RK.w_next ?_
  | with_reducible refine RK.w_drop ?_
  | with_reducible refine RK.w_par ?_
  | with_reducible refine RK.w_two ?_
  | with_reducible refine RK.w_test ?_
  | with_reducible refine RK.w_tB ?_
  | with_reducible refine RK.w_bl ?_
  | with_reducible refine RK.w_not ?_
  | with_reducible refine RK.w_and ?_
  | with_reducible refine RK.w_or ?_
  | ((with_reducible refine' RK.w_var ?hv ?_); (case hv => exact rfl))
  | with_reducible refine RK.w_c ?_
  | with_reducible refine RK.w_op ?_
  | with_reducible refine RK.w_un ?_
  | with_reducible refine RK.w_I0 ?_
  | with_reducible refine RK.w_U ?_
  | with_reducible refine RK.w_nil ?_
  | with_reducible refine RK.w_cons ?_
  | with_reducible refine RK.w_andV ?_
  | with_reducible refine RK.w_orV ?_
  | with_reducible refine RK.w_notV ?_
  | with_reducible refine RK.w_CB ?_
  | with_reducible refine RK.w_call ?_
  | with_reducible refine RK.w_tup ?_
  | with_reducible refine RK.w_lst ?_
  | with_reducible refine RK.w_sub ?_
  | with_reducible refine RK.w_sfld ?_
  | with_reducible refine RK.w_meth ?_
  | with_reducible refine RK.w_methK ?_
  | with_reducible refine RK.w_make ?_
  | with_reducible refine RK.w_makeK ?_
  | with_reducible refine RK.w_BM ?_
  | with_reducible refine RK.w_sl ?_
  | with_reducible refine RK.w_po ?_
  | with_reducible refine RK.w_pt ?_
  | with_reducible refine RK.w_in ?_
  | with_reducible refine RK.w_fld ?_
  | with_reducible refine RK.w_lcL ?_
  | with_reducible refine RK.w_forL ?_
  | with_reducible refine RK.w_retN ?_
  | with_reducible refine RK.w_yes ?_
  | with_reducible refine RK.w_int ?_
  | with_reducible refine RK.w_intB ?_
  | with_reducible refine RK.w_abs ?_
  | with_reducible refine RK.w_max ?_
  | with_reducible refine RK.w_min ?_
  | with_reducible refine RK.w_gcd ?_
  | ((with_reducible refine RK.w_I ?hc ?_); (case hc => first | assumption | (show _ < _; omega) | exact RK.Sz.ok (by assumption) (by assumption) | exact RK.Sz.div (by assumption) (by assumption) | (show _ ∧ _; omega) | (show _ ∨ _; omega) | exact ⟨by decide, by decide, by decide⟩))
  | ((with_reducible refine' RK.w_ixL ?hh ?hi ?_); (case hh => walk_at "at"); (case hi => exact rfl))
  | ((with_reducible refine' RK.w_ixT ?hh ?hi ?_); (case hh => walk_at "at"); (case hi => exact rfl))
  | ((with_reducible refine' RK.w_setL ?hh ?hi ?_); (case hh => walk_at "at"); (case hi => exact rfl))
  | ((with_reducible refine RK.w_eq ?hh ?_); (case hh => exact rfl))
  | ((with_reducible refine RK.w_ne ?hh ?_); (case hh => exact rfl)))
local macro_rules | `(tactic| walk_at "r") => `(tactic| repeat walk_at "s")

namespace RK3
open PySem PySem.Spec L2 RK
section
variable {P : Program} {w : World} {K : PySem.W.Frag} {mg : Str → Option Value} {base : Heap} {a : Ad}
theorem _root_.RK.ExAt.same {H H' : Hp} {e C : Addr} {fs : List (Str × V)} (x : ExAt H e C fs) (s : Same H H') : ExAt H' e C fs := by
  obtain ⟨oe, dd, h1, h2, h3, h4⟩ := x.ex
  exact ⟨oe, dd, s _ _ h1, h2, h3, s _ _ h4⟩
theorem ne_of_none' {H : Hp} {c l : Addr} {o : HO} (h : H c = some o) (n : H l = none) : l ≠ c := fun z => by
  rw [z, h] at n
  cases n
theorem isx_own {H : Hp} {Q : VK} {e C c : Addr} {fs : List (Str × V)} {b : Bool} (x : ExAt H e C fs) (X : ExcC K C) (f : PySem.W.kitOne K (.ref C) (.ref c) = some b) (q : Q (.bl b) H) : rIsX K [.ref e, .ref c] H Q := ⟨e, C, fs, .ref c, .ref c, b, rfl, x, X, fun u r => r, f, q⟩
theorem isx_ty {H : Hp} {Q : VK} {e C : Addr} {c : String} {fs : List (Str × V)} {b : Bool} (x : ExAt H e C fs) (X : ExcC K C) (f : PySem.W.kitOne K (.ref C) (.type c) = some b) (q : Q (.bl b) H) : rIsX K [.ref e, .ty c] H Q := ⟨e, C, fs, .ty c, .type c, b, rfl, x, X, fun u r => r, f, q⟩
/-- what it tells of an InvalidText whose value is data -/
def spSort (K : PySem.W.Frag) (C : Addr) : Sp := fun vs H Q _ => ∃ (e : Addr) (x : V) (d : PyData), vs = [.ref e] ∧ ExAt H e C [("value", x)] ∧ (∀ H', Same H H' → Dp K H' x d) ∧ d.showable = true ∧ d.hasDict = false ∧ d.depth < 60 ∧ d.shown.length ≤ sizeLine ∧
  ∀ p H', H p = none → Same H H' → H' p = some (.lst [.str "InvalidText", .str d.shown]) → Q (.ref p) H'
theorem ok_sort (T : Txt K mg a) : FnS P w K mg base C8.CX0 1 a.f_sort a.d_sort ["_law_e"] (spSort K a.C_InvalidText) := by
  refine funS T.F_sort sc_sort (fun vs H Q E h => ?_) (fun cdv o A outer s H vs Q E hG hr h => ?_)
  · obtain ⟨e, x, d, rfl, _⟩ := h
    rfl
  · obtain ⟨e, x, d, rfl, ex, dp, h1, h2, h3, h4, k⟩ := h
    refine ⟨_, (pss_cons (ps_set (i := 1) sc_sort.nd rfl (Or.inl rfl) (pe_lst (pa_cons (pe_callB cr_isX (by rfl) T.z_isinstance (by decide +kernel) (pa_cons (pv 0) (pa_cons (pe_glob (v := .ref a.C_ShapeError) rfl T.m_ShapeError rfl) pa_nil))) (pa_cons (pe_callB cr_isX (by rfl) T.z_isinstance (by decide +kernel) (pa_cons (pv 0) (pa_cons (pe_glob (v := .ref a.C_QuestionError) rfl T.m_QuestionError rfl) pa_nil))) (pa_cons (pe_callB cr_isX (by rfl) T.z_isinstance (by decide +kernel) (pa_cons (pv 0) (pa_cons (pe_glob (v := .ref a.C_SizeError) rfl T.m_SizeError rfl) pa_nil))) pa_nil)))))
      (pss_cons (ps_set (i := 2) sc_sort.nd rfl (Or.inl rfl) (pe_lst (pa_cons (pe_callB cr_isX (by rfl) T.z_isinstance (by decide +kernel) (pa_cons (pv 0) (pa_cons (pe_bltn (v := .ty "ValueError") (by rfl) T.z_ValueError (by decide +kernel) rfl) pa_nil))) (pa_cons (pe_callB cr_isX (by rfl) T.z_isinstance (by decide +kernel) (pa_cons (pv 0) (pa_cons (pe_bltn (v := .ty "LookupError") (by rfl) T.z_LookupError (by decide +kernel) rfl) pa_nil))) (pa_cons (pe_callB cr_isX (by rfl) T.z_isinstance (by decide +kernel) (pa_cons (pv 0) (pa_cons (pe_bltn (v := .ty "ArithmeticError") (by rfl) T.z_ArithmeticError (by decide +kernel) rfl) pa_nil))) pa_nil)))))
      (pss_cons (ps_set (i := 3) sc_sort.nd rfl (Or.inl rfl) (pe_lst pa_nil))
      (pss_cons (ps_if (pt_val (pe_callB cr_isX (by rfl) T.z_isinstance (by decide +kernel) (pa_cons (pv 0) (pa_cons (pe_glob (v := .ref a.C_InvalidText) rfl T.m_InvalidText rfl) pa_nil)))) (pss_one (ps_expr (pe_bm PySem.F.plainAttrs_list PySem.F.slot_list_append PySem.F.type_list_append mt_append (pv 3) (pa_cons (pe_lst (pa_cons pe_str (pa_cons (pe_callB (cr_reprD hG hr.units) (by rfl) T.z_repr (by decide +kernel) (pa_cons (pe_xfT (pv 0) rfl) pa_nil)) pa_nil))) pa_nil)))) pss_nil)
      (pss_one (ps_ret (pe_ifExp (PW.pt (pw_and (pt_cmpR op_eq (pe_callB cr_len (by rfl) T.z_len PySem.boot_len (pa_cons (pv 3) pa_nil)) pe_int (nomark _)) (pw_and (pt_cmpR (op_eqD hr.units) (pv 1) (pv 2) (nomark _)) (pw_and1 (pt_cmpR op_eq (pe_bm PySem.F.plainAttrs_list PySem.F.slot_list_count PySem.F.type_list_count mt_countB (pv 1) (pa_cons pe_bl pa_nil)) pe_int (nomark _)))))) (pe_ix ix_list (pv 3) pe_int (fun _ _ => rfl)) (pe_lst (pa_cons pe_str pa_nil))))))))), ?_⟩
    walk_at "r"
    refine isx_own ex T.exc_InvalidText T.ki_ShapeError ?_
    walk_at "r"
    refine isx_own ex T.exc_InvalidText T.ki_QuestionError ?_
    walk_at "r"
    refine isx_own ex T.exc_InvalidText T.ki_SizeError ?_
    walk_at "r"
    refine w_newL (by show 3 ≤ 100000; decide) fun l1 H1 n1 e1 i1 => ?_
    walk_at "r"
    refine isx_ty (ex.same e1) T.exc_InvalidText T.ki_ValueError ?_
    walk_at "r"
    refine isx_ty (ex.same e1) T.exc_InvalidText T.ki_LookupError ?_
    walk_at "r"
    refine isx_ty (ex.same e1) T.exc_InvalidText T.ki_ArithmeticError ?_
    walk_at "r"
    refine w_newL (by show 3 ≤ 100000; decide) fun l2 H2 n2 e2 i2 => ?_
    walk_at "r"
    refine w_newL (by show 0 ≤ 100000; decide) fun l3 H3 n3 e3 i3 => ?_
    have ex3 := ((ex.same e1).same e2).same e3
    walk_at "r"
    refine isx_own ex3 T.exc_InvalidText T.ki_InvalidText ?_
    walk_at "r"
    refine iteT ?_
    walk_at "r"
    refine ⟨.inl ⟨rfl, _, SqL.of i3⟩, ?_⟩
    walk_at "r"
    refine ⟨.ref e, rfl, e, a.C_InvalidText, _, x, rfl, ex3, T.xf_InvalidText, T.fo, rfl, ?_⟩
    walk_at "r"
    refine ⟨x, d, rfl, dp _ ((e1.trans e2).trans e3), h1, h2, h3, h4, ?_⟩
    walk_at "r"
    refine w_newL (by show 2 ≤ 100000; decide) fun l4 H4 n4 e4 i4 => ?_
    walk_at "r"
    refine w_app (e4 _ _ i3) (by show 0 ≤ 1000; decide) fun H5 G5 => ?_
    walk_at "r"
    have j1 : H5 l1 = some (.lst [.bl true, .bl false, .bl false]) := G5.keep _ _ (ne_of_none (e2 _ _ i1) n3) (e4 _ _ (e3 _ _ (e2 _ _ i1)))
    have j2 : H5 l2 = some (.lst [.bl true, .bl false, .bl false]) := G5.keep _ _ (ne_of_none i2 n3) (e4 _ _ (e3 _ _ i2))
    refine w_tIf ?_
    walk_at "r"
    refine w_lenL (SqL.of G5.at_) ?_
    walk_at "r"
    rw [if_pos (by rfl)]
    walk_at "r"
    refine ⟨.list [.bool true, .bool false, .bool false], _, .lst (SqL.of j1) (.cons (.bl _) (.cons (.bl _) (.cons (.bl _) .nil))), .lst (SqL.of j2) (.cons (.bl _) (.cons (.bl _) (.cons (.bl _) .nil))), rfl, rfl, ?_⟩
    rw [SeqAt.eqv_refl _ (by rfl)]
    walk_at "r"
    refine iteT ?_
    walk_at "r"
    refine ⟨.inl ⟨rfl, _, SqL.of j1⟩, ?_⟩
    walk_at "r"
    refine ⟨l1, [true, false, false], rfl, rfl, SqL.of j1, ?_⟩
    have j3 := G5.at_
    walk_at "r"
    rw [if_pos (by rfl)]
    walk_at "r"
    have S3 := (e1.trans e2).trans e3
    refine k l4 H5 ?_ (fun c o hc => G5.keep _ _ (ne_of_none (e2 _ _ (e1 _ _ hc)) n3) (e4 _ _ (S3 _ _ hc))) (G5.keep _ _ (ne_of_none' i3 n4) i4)
    cases q : H l4 with
    | none => rfl
    | some o =>
      have z := S3 _ _ q
      rw [n4] at z
      cases z
end
end RK3


namespace RK3
open PySem PySem.Spec L2 RK
section
variable {P : Program} {w : World} {K : PySem.W.Frag} {mg : Str → Option Value} {base : Heap} {a : Ad}
/-- the making of the error: its value is kept -/
def spXi (C : Addr) : Sp := fun vs H Q _ => ∃ (e : Addr) (x : V), vs = [.ref e, x] ∧ H e = some (exo e C none) ∧ ∀ dx, H dx = none → dx ≠ e → Q .non (upd (upd H dx (exd dx [("value", x)])) e (exo e C (some dx)))
theorem ok_InvalidText_init (T : Txt K mg a) : FnOk P w K mg base CX0 1 a.f_InvalidText_init a.d_InvalidText_init ["self", "value"] (spXi a.C_InvalidText) := by
  refine T.F_InvalidText_init.ok sc_InvalidText_init (fun vs H Q E h => ?_) (fun cdv A outer s H vs Q E hr h => ?_)
  · obtain ⟨e, x, rfl, _⟩ := h
    rfl
  · obtain ⟨e, x, rfl, he, k⟩ := h
    refine ⟨_, (pss_one (ps_ost (pv 0) (pv 1))), ?_⟩
    walk_at "r"
    refine ⟨x, rfl, .ref e, rfl, e, a.C_InvalidText, rfl, T.oex_InvalidText, T.fo, .inl ⟨he, fun dx h1 h2 => ?_⟩⟩
    walk_at "r"
    exact k dx h1 h2
end
end RK3


namespace RK3
open PySem PySem.Spec L2 RK
/-! ### values -/
def rfs (t b : Int) : List (Str × V) := [(("top" : Str), .int t), (("bottom" : Str), .int b)]
theorem rfs_top (t b : Int) : (rfs t b).lookup ("top" : Str) = some (.int t) := by simp [rfs, List.lookup]
theorem rfs_bot (t b : Int) : (rfs t b).lookup ("bottom" : Str) = some (.int b) := by
  have h : (("bottom" : Str) == ("top" : Str)) = false := by decide +kernel
  simp [rfs, List.lookup, h]
theorem rfs_no (t b : Int) {m : Str} (h1 : (m == ("top" : Str)) = false) (h2 : (m == ("bottom" : Str)) = false) : (rfs t b).lookup m = none := by simp [rfs, List.lookup, h1, h2]
theorem rfs_put (t b : Int) : putF "bottom" (.int b) (putF "top" (.int t) []) = rfs t b := by
  have k : ¬ (("top" : Str) = "bottom") := by decide +kernel
  show (if ("top" : Str) = "bottom" then [(("top" : Str), V.int b)] else (("top" : Str), V.int t) :: putF "bottom" (V.int b) []) = rfs t b
  rw [if_neg k]
  all_goals rfl
/-- a Ratio stands at p: t / b in lowest terms -/
structure Rat (C : Addr) (H : Hp) (p : Addr) (t b : Int) : Prop where
  ob : ∃ dx, H p = some (.ins C dx (rfs t b))
  pos : 0 < b
  cop : Int.gcd t b = 1
theorem Rat.same {C : Addr} {H H' : Hp} {p : Addr} {t b : Int} (r : Rat C H p t b) (e : Same H H') : Rat C H' p t b := let ⟨dx, h⟩ := r.ob; ⟨⟨dx, e _ _ h⟩, r.pos, r.cop⟩
theorem Rat.sameT {C : Addr} {H H' : Hp} {p : Addr} {t b : Int} (r : Rat C H p t b) (e : SameT H H') : Rat C H' p t b := let ⟨dx, h⟩ := r.ob; ⟨⟨dx, e.ins h⟩, r.pos, r.cop⟩
theorem Rat.kp {C : Addr} {H H' : Hp} {p bg : Addr} {t b : Int} (r : Rat C H p t b) (e : Kp bg H H') : Rat C H' p t b := let ⟨dx, h⟩ := r.ob; ⟨⟨dx, e.ins h⟩, r.pos, r.cop⟩
/-- a fraction: an int, or a Ratio -/
def Frn (C : Addr) (H : Hp) (x : V) (t b : Int) : Prop := (x = .int t ∧ b = 1) ∨ ∃ p, x = .ref p ∧ Rat C H p t b
theorem Frn.pos {C : Addr} {H : Hp} {x : V} {t b : Int} (f : Frn C H x t b) : 0 < b := by
  rcases f with ⟨_, e⟩ | ⟨p, _, r⟩
  · omega
  · exact r.pos
theorem Frn.cop {C : Addr} {H : Hp} {x : V} {t b : Int} (f : Frn C H x t b) : Int.gcd t b = 1 := by
  rcases f with ⟨_, e⟩ | ⟨p, _, r⟩
  · rw [e]; exact Int.gcd_one_right ..
  · exact r.cop
section
variable {P : Program} {w : World} {K : PySem.W.Frag} {mg : Str → Option Value} {base : Heap} {a : Ad}
theorem ins_ty (T : Txt K mg a) {H : Hp} {p : Addr} {t b : Int} (r : Rat a.C_Ratio H p t b) : TyX K H (.ref p) (.ref a.C_Ratio) := by
  obtain ⟨dx, h⟩ := r.ob
  exact .base (.ins h T.cl_Ratio T.iA T.iN T.iT T.iM)
/-- what is neither an int nor a Ratio -/
def NotFr (K : PySem.W.Frag) (C : Addr) (H : Hp) (x : V) : Prop := ∃ t b1 b2, TyX K H x t ∧ PySem.W.kitOne K t (.ref C) = some false ∧ PySem.W.kitOne K t (.type "int") = some b1 ∧ PySem.W.kitOne K t (.type "bool") = some b2 ∧ (b1 && !b2) = false
def spWhole (K : PySem.W.Frag) : Sp := fun vs H Q _ => ∃ x t b1 b2, vs = [x] ∧ TyX K H x t ∧ PySem.W.kitOne K t (.type "int") = some b1 ∧ PySem.W.kitOne K t (.type "bool") = some b2 ∧ Q (.bl (b1 && !b2)) H
theorem ok_is_whole (T : Txt K mg a) : FnOk P w K mg base CX0 1 a.f_is_whole a.d_is_whole ["value"] (spWhole K) := by
  refine T.F_is_whole.ok sc_is_whole (fun vs H Q E h => ?_) (fun cdv A outer s H vs Q E hr h => ?_)
  · obtain ⟨x, t, b1, b2, rfl, _⟩ := h
    rfl
  · obtain ⟨x, t, b1, b2, rfl, ty, h1, h2, k⟩ := h
    refine ⟨_, (pss_one (ps_ret (pe_and (pe_callB call_isi (by rfl) T.z_isinstance (by decide +kernel) (pa_cons (pv 0) (pa_cons (pe_bltn (v := .ty "int") (by rfl) T.z_int (by decide +kernel) rfl) pa_nil))) (pe_one (pe_not (pe_callB call_isi (by rfl) T.z_isinstance (by decide +kernel) (pa_cons (pv 0) (pa_cons (pe_bltn (v := .ty "bool") (by rfl) T.z_bool (by decide +kernel) rfl) pa_nil)))))))), ?_⟩
    walk_at "r"
    refine ⟨x, .ty "int", t, .type "int", b1, rfl, .ty _, ty, h1, b1, rfl, ?_⟩
    cases b1 with
    | false => exact iteF k
    | true =>
      refine iteT ?_
      walk_at "r"
      exact ⟨x, .ty "bool", t, .type "bool", b2, rfl, .ty _, ty, h2, b2, rfl, by simpa using k⟩
theorem whole_int {K : PySem.W.Frag} {H : Hp} {Q : VK} {E : XK} {i : Int} (q : Q (.bl true) H) : spWhole K [.int i] H Q E :=
  ⟨.int i, .type "int", true, false, rfl, .base (.int i), kit_ty (by decide +kernel), kit_ty (by decide +kernel), q⟩
/-! ### making -/
def spInit (C : Addr) : Sp := fun vs H Q _ => ∃ (p dx : Addr) (t b : Int), vs = [.ref p, .int t, .int b] ∧ H p = some (.ins C dx []) ∧ 0 < b ∧ Sz 8000 b ∧
  ∀ H' x y, H' p = some (.ins C dx (rfs x y)) → (∀ c o, c ≠ p → H c = some o → H' c = some o) → Nrm t b x y → Q .non H'
theorem ok_Ratio_init (T : Txt K mg a) : FnOk P w K mg base CX0 2 a.f_Ratio_init a.d_Ratio_init ["self", "top", "bottom"] (spInit a.C_Ratio) := by
  refine T.F_Ratio_init.ok sc_Ratio_init (fun vs H Q E h => ?_) (fun cdv A outer s H vs Q E hr h => ?_)
  · obtain ⟨p, dx, t, b, rfl, _⟩ := h
    rfl
  · obtain ⟨p, dx, t, b, rfl, hp, h0, hz, k⟩ := h
    refine ⟨_, PSs.nox ((pss_cons (ps_if (pt_not (pt_val (pe_call (ok_is_whole T) (hr.mono (by decide)) (by rfl) T.m_is_whole T.F_is_whole.kp T.b_is_whole .nil pass0 (pa_cons (pv 1) pa_nil)))) (pss_one ps_never) pss_nil)
      (pss_cons (ps_if (PW.pt (pw_or (pt_not (pt_val (pe_call (ok_is_whole T) (hr.mono (by decide)) (by rfl) T.m_is_whole T.F_is_whole.kp T.b_is_whole .nil pass0 (pa_cons (pv 2) pa_nil)))) (pw_or1 (pt_cmpR op_lt (pv 2) pe_int (nomark _))))) (pss_one ps_never) pss_nil)
      (pss_cons (ps_set (i := 3) sc_Ratio_init.nd rfl (Or.inl rfl) (pe_callBfun cr_gcd rfl T.m_gcd (pa_cons (pv 1) (pa_cons (pv 2) pa_nil))))
      (pss_cons (ps_fld (pv 0) (pe_op op_fdivW (pv 1) (pv 3)) rfl)
      (pss_one (ps_fld (pv 0) (pe_op op_fdivW (pv 2) (pv 3)) rfl))))))), ?_⟩
    have hN := nrm_div (u := t) h0
    have g0 : 0 < Int.gcd t b := Int.gcd_pos_of_ne_zero_right t (by omega)
    have gle : (Int.gcd t b : Int) ≤ b := Int.le_of_dvd h0 (Int.gcd_dvd_right ..)
    have gz : CDivW 0 (Int.gcd t b : Int) := wide_div (by omega) (wide_le (by omega) gle hz) (by decide) (by decide)
    walk_at "r"
    refine whole_int ?_
    walk_at "r"
    refine iteF ?_
    walk_at "r"
    refine whole_int ?_
    walk_at "r"
    refine iteF ?_
    walk_at "r"
    rw [decide_eq_false (by omega)]
    refine iteF ?_
    walk_at "r"
    refine ⟨p, _, dx, _, rfl, hp, T.cl_Ratio, T.nT, by decide, ?_⟩
    walk_at "r"
    refine ⟨p, _, dx, _, rfl, upd_same, T.cl_Ratio, T.nB, by show 1 < 1000; decide, ?_⟩
    rw [upd_upd]
    exact k _ (t / (Int.gcd t b : Int)) (b / (Int.gcd t b : Int)) (Eq.trans upd_same (congrArg (fun l => some (HO.ins a.C_Ratio dx l)) (rfs_put _ _))) (fun c o hc e => by rw [upd_ne hc]; exact e) hN
theorem bd_Ratio (T : Txt K mg a) : L2.Binds K a.d_Ratio_init ["self", "top", "bottom"] [] := by
  obtain ⟨ds, v, b⟩ := T.F_Ratio_init.binds1 (ps := ["self", "top", "bottom"]) 3 1 (by simp) rfl (fun _ _ _ _ _ _ _ us its h1 h2 => match us, its, h1, h2 with | [_, _, _], [_], _, _ => ⟨_, rfl, rfl⟩)
  cases v
  exact b
theorem bd1_Ratio (T : Txt K mg a) : ∃ ds, L2.Vals [.int 1] ds ∧ L2.Binds K a.d_Ratio_init ["self", "top", "bottom"] ds :=
  T.F_Ratio_init.binds1 (ps := ["self", "top", "bottom"]) 2 0 (by simp) rfl (fun _ _ _ _ _ _ _ us its h1 h2 => match us, its, h1, h2 with | [_, _], [_], _, _ => ⟨_, rfl, rfl⟩)
theorem mk_leaf {C : Addr} {H : Hp} {Q : VK} {t b : Int} (h0 : 0 < b) (hz : Sz 8000 b) (k : ∀ p H' x y, H p = none → Same H H' → Rat C H' p x y → Nrm t b x y → Q (.ref p) H') : MkL C (spInit C) E0 [.int t, .int b] H Q := by
  intro p dx hp hdx hne
  refine ⟨p, dx, t, b, rfl, upd_same, h0, hz, fun H' x y e kp n => ⟨rfl, ?_⟩⟩
  refine k p H' x y hp (fun c o q => kp c o (ne_of_none q hp) ?_) ⟨⟨dx, e⟩, n.pos, n.cop⟩ n
  rw [upd_ne (ne_of_none q hp), upd_ne (ne_of_none q hdx)]
  exact q
theorem mk1_leaf {C : Addr} {H : Hp} {Q : VK} {t : Int} (k : ∀ p H', H p = none → Same H H' → Rat C H' p t 1 → Q (.ref p) H') : MkL C (spInit C) E0 [.int t, .int 1] H Q :=
  mk_leaf (by decide) Sz.one fun p H' x y hp e r n => by
    have z := n.uniq (u' := t) (l' := 1) (x' := t) (y' := 1) ⟨by decide, Int.gcd_one_right .., rfl⟩ (by decide) (by decide) rfl
    obtain ⟨rfl, rfl⟩ := z
    exact k p H' hp e r
/-! ### the fields -/
theorem top_leaf (T : Txt K mg a) {H : Hp} {Q : VK} {p : Addr} {t b : Int} (r : Rat a.C_Ratio H p t b) (q : Q (.int t) H) : Fl K "top" (.ref p) H Q := by
  obtain ⟨dx, h⟩ := r.ob
  exact ⟨p, _, dx, _, _, rfl, h, T.cl_Ratio, T.nT, rfs_top _ _, q⟩
theorem bot_leaf (T : Txt K mg a) {H : Hp} {Q : VK} {p : Addr} {t b : Int} (r : Rat a.C_Ratio H p t b) (q : Q (.int b) H) : Fl K "bottom" (.ref p) H Q := by
  obtain ⟨dx, h⟩ := r.ob
  exact ⟨p, _, dx, _, _, rfl, h, T.cl_Ratio, T.nB, rfs_bot _ _, q⟩
end
end RK3


namespace RK3
open PySem PySem.Spec L2 RK
section
variable {P : Program} {w : World} {K : PySem.W.Frag} {mg : Str → Option Value} {base : Heap} {a : Ad}
def spFrac (K : PySem.W.Frag) (C : Addr) : Sp := fun vs H Q _ => ∃ x, vs = [x] ∧ ((∃ t b, Frn C H x t b ∧ Q (.bl true) H) ∨ (NotFr K C H x ∧ Q (.bl false) H))
theorem ok_is_fraction (T : Txt K mg a) : FnOk P w K mg base CX0 3 a.f_is_fraction a.d_is_fraction ["value"] (spFrac K a.C_Ratio) := by
  refine T.F_is_fraction.ok sc_is_fraction (fun vs H Q E h => ?_) (fun cdv A outer s H vs Q E hr h => ?_)
  · obtain ⟨x, rfl, _⟩ := h
    rfl
  · obtain ⟨x, rfl, h⟩ := h
    refine ⟨_, (pss_one (ps_ret (pe_or (pe_callB call_isi (by rfl) T.z_isinstance (by decide +kernel) (pa_cons (pv 0) (pa_cons (pe_glob (v := .ref a.C_Ratio) rfl T.m_Ratio rfl) pa_nil))) (pe_one (pe_call (ok_is_whole T) (hr.mono (by decide)) (by rfl) T.m_is_whole T.F_is_whole.kp T.b_is_whole .nil pass0 (pa_cons (pv 0) pa_nil)))))), ?_⟩
    walk_at "r"
    rcases h with ⟨t, b, f, k⟩ | ⟨⟨t, b1, b2, ty, h1, h2, h3, h4⟩, k⟩
    · rcases f with ⟨rfl, _⟩ | ⟨p, rfl, r⟩
      · refine ⟨_, .ref a.C_Ratio, .type "int", .ref a.C_Ratio, false, rfl, .own _, .base (.int t), T.kIR, false, rfl, ?_⟩
        refine iteF ?_
        walk_at "r"
        exact whole_int k
      · exact ⟨_, .ref a.C_Ratio, .ref a.C_Ratio, .ref a.C_Ratio, true, rfl, .own _, ins_ty T r, T.kRR, true, rfl, iteT k⟩
    · refine ⟨_, .ref a.C_Ratio, t, .ref a.C_Ratio, false, rfl, .own _, ty, h1, false, rfl, ?_⟩
      refine iteF ?_
      walk_at "r"
      exact ⟨x, t, b1, b2, rfl, ty, h2, h3, by rw [h4]; exact k⟩
/-- the Ratio of a fraction -/
def spAs (C : Addr) : Sp := fun vs H Q _ => ∃ x t b, vs = [x] ∧ Frn C H x t b ∧ ∀ p H', Same H H' → Rat C H' p t b → Q (.ref p) H'
theorem ok_as_ratio (T : Txt K mg a) : FnOk P w K mg base CX0 4 a.f_as_ratio a.d_as_ratio ["fraction"] (spAs a.C_Ratio) := by
  refine T.F_as_ratio.ok sc_as_ratio (fun vs H Q E h => ?_) (fun cdv A outer s H vs Q E hr h => ?_)
  · obtain ⟨x, t, b, rfl, _⟩ := h
    rfl
  · obtain ⟨x, t, b, rfl, f, k⟩ := h
    obtain ⟨ds, vd1, bd1⟩ := bd1_Ratio T
    refine ⟨_, (pss_cons (ps_if (pt_val (pe_callB call_isi (by rfl) T.z_isinstance (by decide +kernel) (pa_cons (pv 0) (pa_cons (pe_glob (v := .ref a.C_Ratio) rfl T.m_Ratio rfl) pa_nil)))) (pss_one (ps_ret (pv 0))) pss_nil)
      (pss_one (ps_ret (pe_make T.mk_Ratio (ok_Ratio_init T) (hr.mono (by decide)) (by rfl) T.m_Ratio bd1 vd1 pass0 (pa_cons (pv 0) pa_nil))))), ?_⟩
    walk_at "r"
    rcases f with ⟨rfl, rfl⟩ | ⟨p, rfl, r⟩
    · refine ⟨_, .ref a.C_Ratio, .type "int", .ref a.C_Ratio, false, rfl, .own _, .base (.int t), T.kIR, false, rfl, ?_⟩
      refine iteF ?_
      walk_at "r"
      exact mk1_leaf fun p H' _ e r => k p H' e r
    · refine ⟨_, .ref a.C_Ratio, .ref a.C_Ratio, .ref a.C_Ratio, true, rfl, .own _, ins_ty T r, T.kRR, true, rfl, iteT ?_⟩
      walk_at "r"
      exact k p H (w_same H) r
theorem frac_leaf {K : PySem.W.Frag} {C : Addr} {H : Hp} {Q : VK} {E : XK} {x : V} {t b : Int} (f : Frn C H x t b) (q : Q (.bl true) H) : spFrac K C [x] H Q E := ⟨x, rfl, .inl ⟨t, b, f, q⟩⟩
theorem as_leaf {C : Addr} {H : Hp} {Q : VK} {E : XK} {x : V} {t b : Int} (f : Frn C H x t b) (q : ∀ p H', Same H H' → Rat C H' p t b → Q (.ref p) H') : spAs C [x] H Q E := ⟨x, t, b, rfl, f, q⟩
local macro_rules | `(tactic| walk_at "f") => `(tactic| first
  | ((refine' top_leaf (by assumption) ?hr ?_); (case hr => first | assumption | exact Rat.same (by assumption) (by assumption)); walk_at "r")
  | ((refine' bot_leaf (by assumption) ?hr ?_); (case hr => first | assumption | exact Rat.same (by assumption) (by assumption)); walk_at "r"))
def spEq (K : PySem.W.Frag) (C : Addr) : Sp := fun vs H Q _ => ∃ p x t b, vs = [.ref p, x] ∧ Rat C H p t b ∧ ((∃ t2 b2, Frn C H x t2 b2 ∧ ∀ k H', Same H H' → (k = true ↔ t = t2 ∧ b = b2) → Q (.bl k) H') ∨ (NotFr K C H x ∧ Q (.bl false) H))
theorem ok_Ratio_eq (T : Txt K mg a) : FnOk P w K mg base CX0 5 a.f_Ratio_eq a.d_Ratio_eq ["self", "other"] (spEq K a.C_Ratio) := by
  refine T.F_Ratio_eq.ok sc_Ratio_eq (fun vs H Q E h => ?_) (fun cdv A outer s H vs Q E hr h => ?_)
  · obtain ⟨p, x, t, b, rfl, _⟩ := h
    rfl
  · obtain ⟨p, x, t, b, rfl, r, h⟩ := h
    refine ⟨_, (pss_cons (ps_if (pt_not (pt_val (pe_call (ok_is_fraction T) (hr.mono (by decide)) (by rfl) T.m_is_fraction T.F_is_fraction.kp T.b_is_fraction .nil pass0 (pa_cons (pv 1) pa_nil)))) (pss_one (ps_ret pe_bl)) pss_nil)
      (pss_cons (ps_set (i := 2) sc_Ratio_eq.nd rfl (Or.inl rfl) (pe_call (ok_as_ratio T) (hr.mono (by decide)) (by rfl) T.m_as_ratio T.F_as_ratio.kp T.b_as_ratio .nil pass0 (pa_cons (pv 1) pa_nil)))
      (pss_one (ps_ret (pe_and (pe_cmpR op_eq (pe_fld (pv 0) rfl) (pe_fld (pv 2) rfl) (nomark _)) (pe_one (pe_cmpR op_eq (pe_fld (pv 0) rfl) (pe_fld (pv 2) rfl) (nomark _)))))))), ?_⟩
    walk_at "r"
    rcases h with ⟨t2, b2, f, k⟩ | ⟨nf, k⟩
    · refine frac_leaf f ?_
      walk_at "r"
      refine iteF ?_
      walk_at "r"
      refine as_leaf f fun p2 H1 e1 r2 => ?_
      have r1 := r.same e1
      walk_at "r"
      repeat walk_at "f"
      refine w_iteD (fun c => ?_) (fun c => ?_)
      · walk_at "r"
        repeat walk_at "f"
        refine k _ H1 e1 ?_
        rw [decide_eq_true_iff]
        exact ⟨fun c2 => ⟨V.int.inj c, V.int.inj c2⟩, fun c2 => by rw [c2.2]⟩
      · exact k false H1 e1 ⟨fun z => Bool.noConfusion z, fun c2 => absurd (by rw [c2.1]) c⟩
    · refine ⟨x, rfl, .inr ⟨nf, ?_⟩⟩
      walk_at "r"
      exact iteT k
theorem oEqq {X : Cx} (T : Txt X.K X.mg a) (hr : Room 5 X.A) : OpR X (compareOp .Eq) (rEqO X.K a.C_Ratio (spEq X.K a.C_Ratio) E0) := op_eqO T.me_Ratio_eq.at_ T.me_Ratio_eq.fn (ok_Ratio_eq T) hr T.b_Ratio_eq pass0
abbrev oEqqq := @oEqq
theorem eqq_leaf (T : Txt K mg a) {H : Hp} {Q : VK} {p q : Addr} {t b t2 b2 : Int} (r : Rat a.C_Ratio H p t b) (r2 : Rat a.C_Ratio H q t2 b2) (k : ∀ k H', Same H H' → (k = true ↔ t = t2 ∧ b = b2) → Q (.bl k) H') :
    rEqO K a.C_Ratio (spEq K a.C_Ratio) E0 (.ref p) (.ref q) H Q := by
  obtain ⟨dx, h⟩ := r.ob
  exact ⟨p, dx, _, .ref a.C_Ratio, rfl, h, ins_ty T r2, T.nfR, p, .ref q, t, b, rfl, r, .inl ⟨t2, b2, .inr ⟨q, rfl, r2⟩, k⟩⟩
end
end RK3


namespace RK3
open PySem PySem.Spec L2 RK
section
variable {P : Program} {w : World} {K : PySem.W.Frag} {mg : Str → Option Value} {base : Heap} {a : Ad}
theorem kp_upd {H : Hp} {b : Addr} {f s n : Int} (h : Bag H b) : Kp b H (upd H b (.lst [.int f, .int s, .int n])) := ⟨h, ⟨f, s, n, upd_same⟩, fun c o hc e => by rw [upd_ne hc]; exact e⟩
/-! ### the bag and its draws -/
def spBag (K : PySem.W.Frag) : Sp := fun vs H Q _ => ∃ (c : Addr) (ns : List Int) (i : Nat), vs = [.ref c, .int i] ∧ SqL K H c (ns.map V.int) ∧ i < 100 ∧ ∀ p H', H p = none → Same H H' → Bag H' p → Q (.ref p) H'
theorem ok_bag (T : Txt K mg a) : FnOk P w K mg base CX0 1 a.f_bag a.d_bag ["_law_cells", "_law_k"] (spBag K) := by
  refine T.F_bag.ok sc_bag (fun vs H Q E h => ?_) (fun cdv A outer s H vs Q E hr h => ?_)
  · obtain ⟨c, ns, i, rfl, _⟩ := h
    rfl
  · obtain ⟨c, ns, i, rfl, hS, hi, k⟩ := h
    refine ⟨_, (pss_cons (ps_par (i := 2) (j := 3) (by rfl) sc_bag.nd rfl rfl (by decide) rfl rfl (pa_cons (pe_ifExp (pt_cmpR op_lt (pv 1) (pe_callB cr_len (by rfl) T.z_len PySem.boot_len (pa_cons (pv 0) pa_nil)) (nomark _)) (pe_callTy cr_int1 (by rfl) T.z_int (by decide +kernel) (pa_cons (pe_ix ix_list (pv 0) (pv 1) (fun _ _ => rfl)) pa_nil)) pe_int) (pa_cons (pe_op op_mul pe_int (pe_op op_add (pv 1) pe_int)) pa_nil)) (by rfl))
      (pss_cons (ps_for PassesOwn.never rfl (pi_list (pe_slice sl_list (pv 0) po_none (po_some pe_int))) (pg_name (i := 4) sc_bag.nd rfl (Or.inl rfl)) (pss_one (ps_set (i := 3) sc_bag.nd rfl (Or.inl rfl) (pe_op op_mod (pe_callTy cr_int1 (by rfl) T.z_int (by decide +kernel) (pa_cons (pe_op op_add (pe_op op_add (pe_op op_mul (pv 3) pe_int) (pe_op op_mod (pe_callTy cr_int1 (by rfl) T.z_int (by decide +kernel) (pa_cons (pv 4) pa_nil)) pe_int)) (pe_op op_mul pe_int (pv 1))) pa_nil)) pe_int))))
      (pss_cons (ps_set (i := 5) sc_bag.nd rfl (Or.inl rfl) (pe_ifExp (PW.pt (pw_or (pt_cmpR op_lt (pv 2) pe_int (nomark _)) (pw_or1 (pt_cmpR op_ge (pv 2) (pe_op op_pow pe_int pe_int) (nomark _))))) (pe_callB cr_abs (by rfl) T.z_abs (by decide +kernel) (pa_cons (pv 2) pa_nil)) pe_int))
      (pss_one (ps_ret (pe_lst (pa_cons (pv 5) (pa_cons (pe_op op_mod (pe_callTy cr_int1 (by rfl) T.z_int (by decide +kernel) (pa_cons (pe_op op_add (pv 3) (pe_op op_mul pe_int (pe_op op_mod (pe_callTy cr_int1 (by rfl) T.z_int (by decide +kernel) (pa_cons (pv 2) pa_nil)) pe_int))) pa_nil)) pe_int) (pa_cons pe_int pa_nil))))))))), ?_⟩
    walk_at "r"
    refine w_cutI (fun _ => True) (fun Q' all => ?_) (fun z _ => ?_)
    · refine w_tIf ?_
      walk_at "r"
      refine w_lenL hS ?_
      walk_at "r"
      refine w_iteD (fun c => ?_) (fun c => ?_)
      · walk_at "r"
        have hi2 : i < ns.length := by rw [List.length_map] at c; omega
        refine ⟨_, _, (i : Int), .int (ns[i]), rfl, rfl, hS, atI_nat (by rw [List.getElem?_map, List.getElem?_eq_getElem hi2]; rfl), ?_⟩
        walk_at "r"
        exact all _ trivial
      · walk_at "r"
        exact all _ trivial
    walk_at "r"
    -- the first seven numbers
    obtain ⟨zs, hz⟩ : ∃ zs : List Int, cutV (ns.map V.int) none (some 7) = zs.map V.int := by
      unfold cutV
      exact ⟨(ns.drop _).take _, by rw [List.map_take, List.map_drop]⟩
    refine ⟨c, _, rfl, hS, fun p hp => ⟨p, rfl, ⟨_, SqL.of upd_same⟩, for_list (K := K) (a := p) (xs := zs.map V.int)
      (fun j σ' H' => H' = upd H p (.lst (cutV (ns.map V.int) none (some 7))) ∧ ∃ (sd : Int) (v : Option V), σ' = [some (.ref c), some (.int i), some (.int z), some (.int sd), v, none]) ⟨rfl, _, _, rfl⟩ (fun j σ' H' _ ⟨e, _⟩ => ?_) ?_ ?_⟩⟩
    · rw [e, hz]
      exact SqL.of upd_same
    · rintro j y σ' H' hj ⟨e, sd, v, rfl⟩
      subst e
      obtain ⟨x, hx, rfl⟩ : ∃ x, zs[j]? = some x ∧ V.int x = y := by
        rw [List.getElem?_map] at hj
        cases q : zs[j]? with
        | none => rw [q] at hj; cases hj
        | some x => rw [q] at hj; exact ⟨x, rfl, Option.some.inj hj⟩
      walk_at "r"
      exact ⟨rfl, _, _, rfl⟩
    · rintro σ' H' ⟨e, sd, v, rfl⟩
      subst e
      walk_at "r"
      refine w_cutI (fun _ => True) (fun Q' all => ?_) (fun f _ => ?_)
      · refine w_tIf ?_
        walk_at "r"
        refine w_ite (fun _ => ?_) (fun _ => ?_)
        · refine iteT ?_
          walk_at "r"
          exact all _ trivial
        · walk_at "r"
          refine w_ite (fun _ => ?_) (fun _ => ?_)
          · walk_at "r"
            exact all _ trivial
          · walk_at "r"
            exact all _ trivial
      walk_at "r"
      refine w_newL (by show 3 ≤ 100000; decide) fun q H2 hq e2 h2 => ?_
      refine k q H2 ?_ ((w_new hp).trans e2) ⟨_, _, _, h2⟩
      exact (w_new hp).free hq
def spDraw : Sp := fun vs H Q _ => ∃ (b : Addr) (n : Int), vs = [.ref b, .int n] ∧ Bag H b ∧ 0 < n ∧ n < 1073741824 ∧ ∀ r H', 0 ≤ r → r < n → Kp b H H' → Q (.int r) H'
theorem ok_draw (T : Txt K mg a) : FnOk P w K mg base CX0 1 a.f_draw a.d_draw ["_law_bag_here", "_law_wide"] spDraw := by
  refine T.F_draw.ok sc_draw (fun vs H Q E h => ?_) (fun cdv A outer s H vs Q E hr h => ?_)
  · obtain ⟨b, n, rfl, _⟩ := h
    rfl
  · obtain ⟨b, n, rfl, hb, h0, h1, k⟩ := h
    obtain ⟨f, sd, m, hH⟩ := id hb
    refine ⟨_, (pss_cons (ps_asg (pe_op op_add (pe_ix ix_list (pv 0) pe_int (fun _ _ => rfl)) pe_int) (pg_sub (pv 0) pe_int set_list))
      (pss_cons (ps_if (pt_cmpR op_gt (pe_ix ix_list (pv 0) pe_int (fun _ _ => rfl)) pe_int (nomark _)) (pss_cons (ps_set (i := 2) sc_draw.nd rfl (Or.inl rfl) (pe_op op_mod (pe_callTy cr_int1 (by rfl) T.z_int (by decide +kernel) (pa_cons (pe_ix ix_list (pv 0) pe_int (fun _ _ => rfl)) pa_nil)) (pv 1)))
      (pss_cons (ps_asg (pe_op op_fdiv (pe_ix ix_list (pv 0) pe_int (fun _ _ => rfl)) (pv 1)) (pg_sub (pv 0) pe_int set_list))
      (pss_one (ps_ret (pv 2))))) pss_nil)
      (pss_cons (ps_set (i := 3) sc_draw.nd rfl (Or.inl rfl) (pe_op op_add (pe_callTy cr_int1 (by rfl) T.z_int (by decide +kernel) (pa_cons (pe_ix ix_list (pv 0) pe_int (fun _ _ => rfl)) pa_nil)) (pe_op op_mul pe_int (pe_ix ix_list (pv 0) pe_int (fun _ _ => rfl)))))
      (pss_cons (ps_set (i := 4) sc_draw.nd rfl (Or.inl rfl) (pe_op op_add (pe_op op_mod (pe_callTy cr_int1 (by rfl) T.z_int (by decide +kernel) (pa_cons (pv 3) pa_nil)) pe_int) pe_int))
      (pss_cons (ps_asg (pe_op op_mod (pe_callTy cr_int1 (by rfl) T.z_int (by decide +kernel) (pa_cons (pe_op op_add (pe_op op_add (pe_op op_mul (pv 3) (pv 4)) (pe_op op_mul pe_int (pe_ix ix_list (pv 0) pe_int (fun _ _ => rfl)))) pe_int) pa_nil)) pe_int) (pg_sub (pv 0) pe_int set_list))
      (pss_one (ps_ret (pe_op op_mod (pe_op op_fdiv (pe_callTy cr_int1 (by rfl) T.z_int (by decide +kernel) (pa_cons (pe_ix ix_list (pv 0) pe_int (fun _ _ => rfl)) pa_nil)) pe_int) (pv 1))))))))), ?_⟩
    walk_at "r"
    refine w_iteD (fun c => ?_) (fun c => ?_)
    all_goals
      walk_at "r"
      refine k _ _ (Int.emod_nonneg _ (by omega)) (Int.emod_lt_of_pos _ h0) ?_
      rw [upd_upd]
      exact kp_upd hb
/-- one of the list's values, at a drawn place -/
def spOne : Sp := fun vs H Q _ => ∃ (b l : Addr) (xs : List V), vs = [.ref b, .ref l] ∧ Bag H b ∧ H l = some (.lst xs) ∧ l ≠ b ∧ 0 < xs.length ∧ xs.length < 1000 ∧ ∀ v H', v ∈ xs → Kp b H H' → Q v H'
theorem ok_one (T : Txt K mg a) : FnOk P w K mg base CX0 2 a.f_one a.d_one ["_law_bag_here", "_law_some"] spOne := by
  refine T.F_one.ok sc_one (fun vs H Q E h => ?_) (fun cdv A outer s H vs Q E hr h => ?_)
  · obtain ⟨b, l, xs, rfl, _⟩ := h
    rfl
  · obtain ⟨b, l, xs, rfl, hb, hl, hne, h0, h1, k⟩ := h
    refine ⟨_, (pss_one (ps_ret (pe_ix ix_list (pv 1) (pe_call (ok_draw T) (hr.mono (by decide)) (by rfl) T.m_draw T.F_draw.kp T.b_draw .nil pass0 (pa_cons (pv 0) (pa_cons (pe_callB cr_len (by rfl) T.z_len PySem.boot_len (pa_cons (pv 1) pa_nil)) pa_nil))) (fun _ _ => rfl)))), ?_⟩
    walk_at "r"
    refine w_lenL (SqL.of hl) ?_
    walk_at "r"
    refine ⟨b, (xs.length : Int), rfl, hb, by omega, by omega, fun r H1 r0 r1 k1 => ?_⟩
    have hr2 : r.toNat < xs.length := by omega
    refine ⟨_, xs, r, xs[r.toNat], rfl, rfl, SqL.of (k1.keep _ _ hne hl), at_of (by omega) (List.getElem?_eq_getElem hr2), ?_⟩
    exact k _ H1 (List.getElem_mem hr2) k1
/-! ### lowest terms by the law's own -/
def spLowest : Sp := fun vs H Q _ => ∃ (u l : Int), vs = [.int u, .int l] ∧ l ≠ 0 ∧ Sz 3000 u ∧ Sz 3000 l ∧ ∀ p H' x y, H p = none → Same H H' → H' p = some (.tup [.int x, .int y]) → Nrm u l x y → Q (.ref p) H'
theorem ok_lowest (T : Txt K mg a) : FnOk P w K mg base CX0 1 a.f_lowest a.d_lowest ["_law_upper", "_law_lower"] spLowest := by
  refine T.F_lowest.ok sc_lowest (fun vs H Q E h => ?_) (fun cdv A outer s H vs Q E hr h => ?_)
  · obtain ⟨u, l, rfl, _⟩ := h
    rfl
  · obtain ⟨u, l, rfl, hl, zu, zl, k⟩ := h
    refine ⟨_, (pss_cons (ps_par (i := 2) (j := 3) (by rfl) sc_lowest.nd rfl rfl (by decide) rfl rfl (pa_cons (pe_callB cr_abs (by rfl) T.z_abs (by decide +kernel) (pa_cons (pv 0) pa_nil)) (pa_cons (pe_callB cr_abs (by rfl) T.z_abs (by decide +kernel) (pa_cons (pv 1) pa_nil)) pa_nil)) (by rfl))
      (pss_cons (ps_while PassesOwn.never (pt_cmpR op_gt (pv 3) pe_int (nomark _)) (pss_one (ps_par (i := 2) (j := 3) (by rfl) sc_lowest.nd rfl rfl (by decide) rfl rfl (pa_cons (pv 3) (pa_cons (pe_op op_mod (pe_callTy cr_int1 (by rfl) T.z_int (by decide +kernel) (pa_cons (pv 2) pa_nil)) (pv 3)) pa_nil)) (by rfl))))
      (pss_cons (ps_set (i := 4) sc_lowest.nd rfl (Or.inl rfl) (pe_ifExp (pt_cmpR op_gt (pv 1) pe_int (nomark _)) (pv 2) (pe_op op_sub pe_int (pv 2))))
      (pss_one (ps_ret (pe_tup (pa_cons (pe_op op_fdivZ (pv 0) (pv 4)) (pa_cons (pe_op op_fdivZ (pv 1) (pv 4)) pa_nil)))))))), ?_⟩
    walk_at "r"
    refine ⟨fun m σ' H' => H' = H ∧ ∃ x y : Int, σ' = [some (.int u), some (.int l), some (.int x), some (.int y), none] ∧ 0 ≤ x ∧ 0 ≤ y ∧ Int.gcd x y = Int.gcd u l ∧ m = y.toNat, ⟨_, rfl, _, _, rfl, by split <;> omega, by split <;> omega, gcd_abs u l, rfl⟩, ?_⟩
    rintro m σ' H' ⟨e, x, y, rfl, h0, h1, hg, rfl⟩
    subst e
    walk_at "r"
    refine w_iteD (fun c => ?_) (fun c => ?_)
    · refine ⟨fun σ' H2 => H2 = H' ∧ ∃ x' y' : Int, σ' = [some (.int u), some (.int l), some (.int x'), some (.int y'), none] ∧ 0 ≤ x' ∧ 0 ≤ y' ∧ Int.gcd x' y' = Int.gcd u l ∧ y'.toNat < y.toNat, ?_, ?_⟩
      · rintro σ' H2 ⟨e, x', y', rfl, a1, a2, a3, a4⟩
        exact ⟨_, a4, e, x', y', rfl, a1, a2, a3, rfl⟩
      · walk_at "r"
        have b1 := Int.emod_nonneg x (show y ≠ 0 by omega)
        have b2 := Int.emod_lt_of_pos x c
        exact ⟨rfl, y, x % y, rfl, h1, b1, (gcd_step h0 c).trans hg, by omega⟩
    · have ey : y = 0 := by omega
      subst ey
      have ex : x = (Int.gcd u l : Int) := by
        rw [← hg, Int.gcd_zero_right]
        omega
      have gle : (Int.gcd u l : Int).natAbs ≤ l.natAbs := by
        have := Nat.le_of_dvd (by omega) (Nat.gcd_dvd_right u.natAbs l.natAbs)
        exact this
      walk_at "r"
      refine w_cutI (fun d => d = if 0 < l then (Int.gcd u l : Int) else 0 - (Int.gcd u l : Int)) (fun Q' all => ?_) (fun d hd => ?_)
      · refine w_tIf ?_
        walk_at "r"
        refine w_iteD (fun c2 => ?_) (fun c2 => ?_)
        · walk_at "r"
          exact all _ (by rw [if_pos c2, ex])
        · walk_at "r"
          exact all _ (by rw [if_neg c2, ex])
      · obtain ⟨n, d0⟩ := nrm_low hl hd
        have zd : Sz 3000 d := zl.le (by rw [hd]; split <;> omega)
        have cd : ∀ i, CDivZ i d := fun i => ⟨d0, Nat.lt_of_lt_of_le (PySem.Flt.log2_lt_of (by decide) zd) (by decide)⟩
        have cu := cd u
        have cl := cd l
        walk_at "r"
        exact w_newT (by show 2 ≤ 100000; decide) fun q H2 hq e2 h2 => k q H2 _ _ hq e2 h2 n
end
end RK3


namespace RK3
open PySem PySem.Spec L2 RK
section
variable {P : Program} {w : World} {K : PySem.W.Frag} {mg : Str → Option Value} {base : Heap} {a : Ad}
/-- digits 0 to 9 alone, one at least -/
def dg (t : Str) : Bool := decide (t.cps.toList ≠ []) && t.cps.toList.all fun c => decide (48 ≤ c) && decide (c ≤ 57)
theorem low_digit : ∀ c : Nat, c < 128 → Unicode.isDigit c = (decide (48 ≤ c) && decide (c ≤ 57)) := by decide +kernel
theorem dg_of (t : Str) : (Txt.isascii t && Txt.isdigit t) = dg t := by
  unfold Txt.isascii Txt.isdigit dg
  have hl : t.length = t.cps.toList.length := Array.length_toList.symm
  rw [hl, ← Array.all_toList, ← Array.all_toList]
  generalize t.cps.toList = l
  by_cases h : l.all (fun c => decide (c < 128)) = true
  · have e : l.all Unicode.isDigit = l.all fun c => decide (48 ≤ c) && decide (c ≤ 57) := by
      rw [Bool.eq_iff_iff, List.all_eq_true, List.all_eq_true]
      exact forall_congr' fun c => forall_congr' fun hc => by rw [low_digit c (of_decide_eq_true (List.all_eq_true.mp h c hc))]
    rw [h, e]
    cases l <;> simp
  · rw [Bool.not_eq_true] at h
    have e : l.all (fun c => decide (48 ≤ c) && decide (c ≤ 57)) = false := by
      rw [Bool.eq_false_iff]
      intro z
      rw [Bool.eq_false_iff] at h
      exact h (List.all_eq_true.mpr fun c hc => by
        have := List.all_eq_true.mp z c hc
        simp only [Bool.and_eq_true, decide_eq_true_eq] at this
        exact decide_eq_true (by omega))
    rw [h, e]
    simp
def spDig : Sp := fun vs H Q _ => ∃ t, vs = [.str t] ∧ Q (.bl (dg t)) H
theorem ok_has_digits_alone (T : Txt K mg a) : FnOk P w K mg base CX0 1 a.f_has_digits_alone a.d_has_digits_alone ["text"] spDig := by
  refine T.F_has_digits_alone.ok sc_has_digits_alone (fun vs H Q E h => ?_) (fun cdv A outer s H vs Q E hr h => ?_)
  · obtain ⟨t, rfl, _⟩ := h
    rfl
  · obtain ⟨t, rfl, k⟩ := h
    refine ⟨_, (pss_one (ps_ret (pe_and (pe_m0 PySem.F.slot_str_isascii PySem.F.type_str_isascii mt_isascii (pv 0)) (pe_one (pe_m0 PySem.F.slot_str_isdigit PySem.F.type_str_isdigit mt_isdigit (pv 0)))))), ?_⟩
    walk_at "r"
    refine ⟨.str t, rfl, ⟨t, rfl⟩, t, rfl, rfl, trivial, Txt.isascii t, rfl, ?_⟩
    rw [← dg_of] at k
    cases e : Txt.isascii t with
    | false =>
      rw [e] at k
      rw [if_neg (by decide)]
      exact k
    | true =>
      rw [e] at k
      rw [if_pos rfl]
      exact ⟨.str t, rfl, ⟨t, rfl⟩, t, rfl, rfl, trivial, k⟩
theorem fold_lt : ∀ (cs : List Nat) (m : Nat), NumText.AllDigits cs → cs.foldl (fun acc c => acc * 10 + (c - 48)) m < (m + 1) * 10 ^ cs.length
  | [], m, _ => by simp
  | c :: r, m, h => by
    have ih := fold_lt r (m * 10 + (c - 48)) fun x hx => h x (List.mem_cons_of_mem _ hx)
    have hc := h c List.mem_cons_self
    rw [List.foldl_cons, List.length_cons]
    refine Nat.lt_of_lt_of_le ih ?_
    calc (m * 10 + (c - 48) + 1) * 10 ^ r.length ≤ ((m + 1) * 10) * 10 ^ r.length := Nat.mul_le_mul_right _ (by omega)
      _ = (m + 1) * 10 ^ (r.length + 1) := by rw [Nat.pow_succ, Nat.mul_assoc, Nat.mul_comm 10]
theorem dg_all {t : Str} (h : dg t = true) : NumText.AllDigits t.cps.toList ∧ t.cps.toList ≠ [] := by
  obtain ⟨h1, h2⟩ := Bool.and_eq_true_iff.mp h
  refine ⟨fun c hc => ?_, of_decide_eq_true h1⟩
  have z := List.all_eq_true.mp h2 c hc
  rw [Bool.and_eq_true, decide_eq_true_eq, decide_eq_true_eq] at z
  exact z
/-- a row of digits is a number -/
theorem dg_int {t : Str} (h : dg t = true) (hl : t.length ≤ 640) : ∃ n : Nat, intText? t = some (n : Int) ∧ Sz 3000 (n : Int) := by
  obtain ⟨h1, h2⟩ := dg_all h
  refine ⟨_, PySem.intText_digits h1 h2 (by omega), ?_⟩
  have z := fold_lt t.cps.toList 0 h1
  have e : t.cps.toList.length = t.length := Array.length_toList
  rw [e] at z
  show ((NumText.digitsVal t.cps.toList : Nat) : Int).natAbs < 2 ^ 3000
  rw [Int.natAbs_natCast]
  refine Nat.lt_of_lt_of_le z ?_
  rw [Nat.zero_add, Nat.one_mul]
  exact Nat.le_trans (Nat.pow_le_pow_right (by decide) hl) (by decide +kernel)
theorem pre_int {t : Str} (h : dg (Txt.removeprefix t "-") = true) (hl : t.length ≤ 640) : ∃ n : Int, intText? t = some n := by
  rw [StrLaws.removeprefix_eq] at h
  split at h
  · rename_i c
    have c2 := (Bool.and_eq_true_iff.mp c).2
    rw [StrLaws.subAt_eq, List.drop_zero] at c2
    have c3 : t.cps.toList.take 1 = [45] := beq_iff_eq.mp c2
    cases e : t.cps.toList with
    | nil => rw [e] at c3; cases c3
    | cons d cs =>
      rw [e] at c3
      obtain rfl : d = 45 := by simpa using c3
      obtain ⟨h1, h2⟩ := dg_all h
      have el : t.cps.toList.length = t.length := Array.length_toList
      have e2 : ((t.cps.toList.drop 1).take (t.length - 1)).toArray.toList = cs := by
        rw [← el, e]
        simp
      have e3 : ((⟨((t.cps.toList.drop ("-" : Str).length).take (t.length - ("-" : Str).length)).toArray⟩ : Str)).cps.toList = cs := e2
      rw [e3] at h1 h2
      exact ⟨_, PySem.intText_neg e h1 h2 (by omega)⟩
  · obtain ⟨n, h1, _⟩ := dg_int h hl
    exact ⟨_, h1⟩
/-- what a text tells: top and bottom as they stand -/
def cut (t : Str) : Str × Str × Str := Txt.partition t "/"
def low (t : Str) : Str := if (cut t).2.1 = Str.empty then "1" else (cut t).2.2
def good (t : Str) : Bool := dg (Txt.removeprefix (cut t).1 "-") && dg (low t)
theorem part_sep (t : Str) : (Txt.partition t "/").2.1 = "/" ∨ (Txt.partition t "/").2.1 = Str.empty := by
  unfold Txt.partition
  split
  · exact .inl rfl
  · exact .inr rfl
theorem cut_len (t : Str) : (cut t).1.length ≤ t.length ∧ (cut t).2.1.length ≤ t.length + 1 ∧ (cut t).2.2.length ≤ t.length := by
  unfold cut Txt.partition
  split
  · exact ⟨le_strSub .., by show 1 ≤ t.length + 1; omega, le_strSub ..⟩
  · exact ⟨Nat.le_refl _, Nat.zero_le _, Nat.zero_le _⟩
/-- the pair that a text tells -/
def told? (t : Str) : Option (Int × Int) := if good t = true then (intText? (cut t).1).bind fun u => (intText? (low t)).bind fun l => if l = 0 then none else some (u, l) else none
def spRin (C : Addr) : Sp := fun vs H Q _ => ∃ t, vs = [.str t] ∧ t.length ≤ 600 ∧ (told? t = none → ∀ H', Same H H' → Q .non H') ∧
  ∀ u l, told? t = some (u, l) → ∀ p H' x y, H p = none → Same H H' → Rat C H' p x y → Nrm u l x y → Q (.ref p) H'
theorem ok_ratio_in (T : Txt K mg a) : FnOk P w K mg base CX0 5 a.f_ratio_in a.d_ratio_in ["text"] (spRin a.C_Ratio) := by
  refine T.F_ratio_in.ok sc_ratio_in (fun vs H Q E h => ?_) (fun cdv A outer s H vs Q E hr h => ?_)
  · obtain ⟨t, rfl, _⟩ := h
    rfl
  · obtain ⟨t, rfl, hl, k0, k1⟩ := h
    refine ⟨_, (pss_cons (ps_asg (pe_m1 PySem.F.slot_str_partition PySem.F.type_str_partition mt_partition (pv 0) pe_str) (pg_tup rfl (pgs_cons (pg_name (i := 1) sc_ratio_in.nd rfl (Or.inl rfl)) (pgs_cons (pg_name (i := 2) sc_ratio_in.nd rfl (Or.inl rfl)) (pgs_cons (pg_name (i := 3) sc_ratio_in.nd rfl (Or.inl rfl)) pgs_nil)))))
      (pss_cons (ps_if (pt_not (pt_truth (pv 2) (fun _ => rfl))) (pss_one (ps_set (i := 3) sc_ratio_in.nd rfl (Or.inl rfl) pe_str)) pss_nil)
      (pss_cons (ps_if (PW.pt (pw_or (pt_not (pt_val (pe_call (ok_has_digits_alone T) (hr.mono (by decide)) (by rfl) T.m_has_digits_alone T.F_has_digits_alone.kp T.b_has_digits_alone .nil pass0 (pa_cons (pe_m1 PySem.F.slot_str_removeprefix PySem.F.type_str_removeprefix mt_removeprefix (pv 1) pe_str) pa_nil)))) (pw_or1 (pt_not (pt_val (pe_call (ok_has_digits_alone T) (hr.mono (by decide)) (by rfl) T.m_has_digits_alone T.F_has_digits_alone.kp T.b_has_digits_alone .nil pass0 (pa_cons (pv 3) pa_nil))))))) (pss_one (ps_ret pe_non)) pss_nil)
      (pss_cons (ps_if (pt_cmpR op_eq (pe_callTy call_int_str (by rfl) T.z_int (by decide +kernel) (pa_cons (pv 3) pa_nil)) pe_int (nomark _)) (pss_one (ps_ret pe_non)) pss_nil)
      (pss_one (ps_ret (pe_make T.mk_Ratio (ok_Ratio_init T) (hr.mono (by decide)) (by rfl) T.m_Ratio (bd_Ratio T) .nil pass0 (pa_cons (pe_callTy call_int_str (by rfl) T.z_int (by decide +kernel) (pa_cons (pv 1) pa_nil)) (pa_cons (pe_callTy call_int_str (by rfl) T.z_int (by decide +kernel) (pa_cons (pv 3) pa_nil)) pa_nil))))))))), ?_⟩
    walk_at "r"
    refine ⟨.str t, rfl, ⟨t, rfl⟩, t, "/", rfl, rfl, rfl, Nat.le_trans hl (by decide), fun p hp => ?_⟩
    have e1 := w_new (o := .tup [.str (Txt.partition t "/").1, .str (Txt.partition t "/").2.1, .str (Txt.partition t "/").2.2]) hp
    refine ⟨p, _, rfl, SqT.of upd_same, rfl, _, _, rfl, _, _, rfl, _, _, rfl, rfl, ?_⟩
    generalize upd H p _ = H1 at e1 ⊢
    walk_at "r"
    have l1 : (cut t).1.length ≤ 600 := Nat.le_trans (cut_len t).1 hl
    have l2 : (cut t).2.1.length ≤ 601 := Nat.le_trans (cut_len t).2.1 (by omega)
    have l3 : (cut t).2.2.length ≤ 600 := Nat.le_trans (cut_len t).2.2 hl
    refine ⟨_, ⟨Nat.le_trans l2 (by decide), rfl⟩, ?_⟩
    have none_of : good t = false → told? t = none := fun g => by unfold told?; rw [if_neg (by rw [g]; decide)]
    have tail : ∀ (b : Str), low t = b → b.length ≤ 640 → dg (Txt.removeprefix (cut t).1 "-") = true → dg b = true → ∃ (u : Int) (n : Nat), intText? (cut t).1 = some u ∧ intText? b = some (n : Int) ∧ Sz 8000 (n : Int) ∧ (n = 0 → told? t = none) ∧ (n ≠ 0 → told? t = some (u, (n : Int))) := fun b eb hb g1 g2 => by
      obtain ⟨n, h1, h2⟩ := dg_int g2 hb
      obtain ⟨u, h3⟩ := pre_int g1 (by omega)
      have g : good t = true := by unfold good; rw [g1, eb, g2]; rfl
      have e : told? t = if (n : Int) = 0 then none else some (u, (n : Int)) := by
        unfold told?
        rw [if_pos g, h3, Option.bind_some, eb, h1, Option.bind_some]
      exact ⟨u, n, h3, h1, h2.mono (by decide), fun z => by rw [e, if_pos (by omega)], fun z => by rw [e, if_neg (by omega)]⟩
    have key : ∃ b, low t = b ∧ b.length ≤ 640 ∧ (((cut t).2.1 = Str.empty ∧ b = "1") ∨ ((cut t).2.1 ≠ Str.empty ∧ b = (cut t).2.2)) := by
      by_cases z : (cut t).2.1 = Str.empty
      · exact ⟨"1", by unfold low; rw [if_pos z], by decide, .inl ⟨z, rfl⟩⟩
      · exact ⟨(cut t).2.2, by unfold low; rw [if_neg z], by omega, .inr ⟨z, rfl⟩⟩
    obtain ⟨b, eb, hb, hcase⟩ := key
    have neg1 : dg (Txt.removeprefix (cut t).1 "-") = false → told? t = none := fun z => none_of (by unfold good; rw [z]; rfl)
    have neg2 : dg b = false → told? t = none := fun z => none_of (by unfold good; rw [eb, z, Bool.and_false])
    rcases hcase with ⟨z, rfl⟩ | ⟨z, rfl⟩
    · have z' : (Txt.partition t "/").2.1 = Str.empty := z
      rw [z']
      dsimp only
      rw [if_pos (by rfl)]
      walk_at "r"
      refine ⟨.str (cut t).1, rfl, ⟨_, rfl⟩, (cut t).1, "-", rfl, rfl, Nat.le_trans l1 (by decide), ?_⟩
      walk_at "r"
      refine ⟨_, rfl, _, rfl, ?_⟩
      cases g1 : dg (Txt.removeprefix (cut t).1 "-") with
      | false =>
        rw [if_pos (by rfl)]
        walk_at "r"
        exact k0 (neg1 g1) _ e1
      | true =>
        rw [if_neg (by decide)]
        walk_at "r"
        refine ⟨_, rfl, _, rfl, ?_⟩
        cases g2 : dg ("1" : Str) with
        | false =>
          rw [if_pos (by rfl)]
          walk_at "r"
          exact k0 (neg2 g2) _ e1
        | true =>
          rw [if_neg (by decide)]
          obtain ⟨u, n, h1, h2, zn, hz, hnz⟩ := tail _ eb hb g1 g2
          walk_at "r"
          refine ⟨_, _, rfl, h2, hb, ?_⟩
          walk_at "r"
          by_cases z0 : n = 0
          · rw [if_pos (by simp [z0])]
            walk_at "r"
            exact k0 (hz z0) _ e1
          · rw [if_neg (by simp [z0])]
            walk_at "r"
            refine ⟨_, _, rfl, h1, Nat.le_trans l1 (by decide), ?_⟩
            walk_at "r"
            refine ⟨_, _, rfl, h2, hb, ?_⟩
            walk_at "r"
            exact mk_leaf (by omega) zn fun p' H' x y hp' e' r n' => k1 u n (hnz z0) p' H' x y (by cases q : H p' with | none => rfl | some o => (have w := e1 _ _ q; rw [hp'] at w; cases w)) (e1.trans e') r n'
    · have z' : (Txt.partition t "/").2.1 = "/" := (part_sep t).resolve_right z
      rw [z']
      dsimp only
      rw [if_neg (by decide)]
      walk_at "r"
      refine ⟨.str (cut t).1, rfl, ⟨_, rfl⟩, (cut t).1, "-", rfl, rfl, Nat.le_trans l1 (by decide), ?_⟩
      walk_at "r"
      refine ⟨_, rfl, _, rfl, ?_⟩
      cases g1 : dg (Txt.removeprefix (cut t).1 "-") with
      | false =>
        rw [if_pos (by rfl)]
        walk_at "r"
        exact k0 (neg1 g1) _ e1
      | true =>
        rw [if_neg (by decide)]
        walk_at "r"
        refine ⟨_, rfl, _, rfl, ?_⟩
        cases g2 : dg (Txt.partition t "/").2.2 with
        | false =>
          rw [if_pos (by rfl)]
          walk_at "r"
          exact k0 (neg2 g2) _ e1
        | true =>
          rw [if_neg (by decide)]
          obtain ⟨u, n, h1, h2, zn, hz, hnz⟩ := tail _ eb hb g1 g2
          walk_at "r"
          refine ⟨_, _, rfl, h2, hb, ?_⟩
          walk_at "r"
          by_cases z0 : n = 0
          · rw [if_pos (by simp [z0])]
            walk_at "r"
            exact k0 (hz z0) _ e1
          · rw [if_neg (by simp [z0])]
            walk_at "r"
            refine ⟨_, _, rfl, h1, Nat.le_trans l1 (by decide), ?_⟩
            walk_at "r"
            refine ⟨_, _, rfl, h2, hb, ?_⟩
            walk_at "r"
            exact mk_leaf (by omega) zn fun p' H' x y hp' e' r n' => k1 u n (hnz z0) p' H' x y (by cases q : H p' with | none => rfl | some o => (have w := e1 _ _ q; rw [hp'] at w; cases w)) (e1.trans e') r n'
end
end RK3


namespace RK3
open PySem PySem.Spec L2 RK
section
variable {P : Program} {w : World} {K : PySem.W.Frag} {mg : Str → Option Value} {base : Heap} {a : Ad}
/-- the text of t / b -/
def txt (t b : Int) : Str := if b = 1 then Str.ofString (toString t) else Str.ofString (toString t) ++ "/" ++ Str.ofString (toString b)
def Shown (z : Int) : Prop := z.natAbs.log2 < 1900
def spStr (C : Addr) : Sp := fun vs H Q _ => ∃ p t b, vs = [.ref p] ∧ Rat C H p t b ∧ Shown t ∧ Shown b ∧ (txt t b).length ≤ 2000 ∧ Q (.str (txt t b)) H
theorem ok_Ratio_str (T : Txt K mg a) : FnOk P w K mg base CX0 1 a.f_Ratio_str a.d_Ratio_str ["self"] (spStr a.C_Ratio) := by
  refine T.F_Ratio_str.ok sc_Ratio_str (fun vs H Q E h => ?_) (fun cdv A outer s H vs Q E hr h => ?_)
  · obtain ⟨p, t, b, rfl, _⟩ := h
    rfl
  · obtain ⟨p, t, b, rfl, r, zt, zb, zl, k⟩ := h
    refine ⟨_, (pss_cons (ps_if (pt_cmpR op_eq (pe_fld (pv 0) rfl) pe_int (nomark _)) (pss_one (ps_ret (pe_callTy call_str_int (by rfl) T.z_str (by decide +kernel) (pa_cons (pe_fld (pv 0) rfl) pa_nil)))) pss_nil)
      (pss_one (ps_ret (pe_joined (.cons (pe_fmt (pe_fld (pv 0) rfl)) (.cons pe_str (.cons (pe_fmt (pe_fld (pv 0) rfl)) .nil))))))), ?_⟩
    walk_at "r"
    refine bot_leaf T r ?_
    walk_at "r"
    have lt : t.natAbs.log2 < 1920 := Nat.lt_of_lt_of_le zt (by decide)
    have lb : b.natAbs.log2 < 1920 := Nat.lt_of_lt_of_le zb (by decide)
    by_cases hb : b = 1
    · rw [if_pos (by simp [hb])]
      walk_at "r"
      refine top_leaf T r ?_
      walk_at "r"
      refine ⟨t, rfl, lt, ?_⟩
      unfold txt at k
      rw [if_pos hb] at k
      exact k
    · rw [if_neg (by simp [hb])]
      unfold txt at k zl
      rw [if_neg hb] at k zl
      have e0 : Str.empty ++ Str.ofString (toString t) = Str.ofString (toString t) := Str.empty_append _
      rw [Str.length_append, Str.length_append] at zl
      have sl : 2000 ≤ sizeLine := by decide
      walk_at "r"
      unfold tJs tFmt
      walk_at "r"
      refine top_leaf T r (.inr ⟨t, rfl, lt, _, rfl, ?_, ?_⟩)
      · rw [e0]
        omega
      · rw [e0]
        unfold tJs
        refine ⟨_, rfl, by rw [Str.length_append]; omega, ?_⟩
        unfold tJs
        show tFld _ _ _ _ _ _
        walk_at "r"
        refine bot_leaf T r (.inr ⟨b, rfl, lb, _, rfl, by rw [Str.length_append, Str.length_append]; omega, ?_⟩)
        unfold tJs
        exact k
end
end RK3


namespace RK3
open PySem PySem.Spec L2 RK
section
variable {P : Program} {w : World} {K : PySem.W.Frag} {mg : Str → Option Value} {base : Heap} {a : Ad}
theorem raise_leaf {C : Addr} {H : Hp} {x : V} {R : XK} (k : ∀ d H', Same H H' → H' d = some (.xd [("value", x)]) → R (.ref C) (some d) H') : ([x] : List V).length ≤ 1000 ∧ ∀ e, H e = none →
    spXi C (.ref e :: ([x] ++ [])) (upd H e (exo e C none)) (fun v H2 => v = .non ∧ ∃ (d : Addr) (fs : List (Str × V)), H2 e = some (exo e C (some d)) ∧ H2 d = some (exd d fs) ∧ H d = none ∧ R (.ref C) (some d) (upd (del H2 e) d (.xd fs))) (fun _ _ _ => False) := by
  refine ⟨by show 1 ≤ 1000; decide, fun e he => ⟨e, x, rfl, upd_same, fun dx h1 h2 => ⟨rfl, dx, _, upd_same, ?_, ?_, k dx _ (fun c o hc => ?_) upd_same⟩⟩⟩
  · rw [upd_ne h2, upd_same]
  · rw [upd_ne h2] at h1
    exact h1
  · rw [upd_ne h2] at h1
    have c1 : c ≠ dx := ne_of_none hc h1
    have c2 : c ≠ e := ne_of_none hc he
    rw [upd_ne c1, del_ne c2, upd_ne c2, upd_ne c1, upd_ne c2]
    exact hc
/-- the two ends of Ratio.read -/
def spRead (K : PySem.W.Frag) (C CI : Addr) : Sp := fun vs H Q E => ∃ x, vs = [x] ∧ 
  ((∃ t u l, x = .str t ∧ t.length ≤ 600 ∧ told? t = some (u, l) ∧ ∀ m n, Nrm u l m n → Shown m ∧ Shown n ∧ (txt m n).length ≤ 2000 ∧
      ((txt m n = t ∧ ∀ p H', H p = none → Same H H' → Rat C H' p m n → Q (.ref p) H') ∨ (txt m n ≠ t ∧ ∀ d H', Same H H' → H' d = some (.xd [("value", x)]) → E (.ref CI) (some d) H')))
   ∨ (∃ t, x = .str t ∧ t.length ≤ 600 ∧ told? t = none ∧ ∀ d H', Same H H' → H' d = some (.xd [("value", x)]) → E (.ref CI) (some d) H')
   ∨ (∃ ty, TyX K H x ty ∧ PySem.W.kitOne K ty (.type "str") = some false ∧ ∀ d H', Same H H' → H' d = some (.xd [("value", x)]) → E (.ref CI) (some d) H'))
theorem ok_Ratio_read (T : Txt K mg a) : FnOk P w K mg base (L2.CX P w) 6 a.f_Ratio_read a.d_Ratio_read ["text"] (spRead K a.C_Ratio a.C_InvalidText) := by
  refine T.F_Ratio_read.okX sc_Ratio_read (fun vs H Q E h => ?_) (fun cdv A outer s H vs Q E hr h => ?_)
  · obtain ⟨x, rfl, _⟩ := h
    rfl
  · obtain ⟨x, rfl, h⟩ := h
    refine ⟨_, (pss_cons (ps_set (i := 1) sc_Ratio_read.nd rfl (Or.inl rfl) (pe_ifExp (pt_val (pe_callB call_isi (by rfl) T.z_isinstance (by decide +kernel) (pa_cons (pv 0) (pa_cons (pe_bltn (v := .ty "str") (by rfl) T.z_str (by decide +kernel) rfl) pa_nil)))) (pe_call (ok_ratio_in T) (hr.mono (by decide)) (by rfl) T.m_ratio_in T.F_ratio_in.kp T.b_ratio_in .nil pass0 (pa_cons (pv 0) pa_nil)) pe_non))
      (pss_cons (ps_if (PW.pt (pw_or (pt_cmpR op_isN (pv 1) pe_non (nomark _)) (pw_or1 (pt_cmpR op_ne (pe_callTy (cr_strO T.me_Ratio_str.at_ T.me_Ratio_str.fn (ok_Ratio_str T) (hr.mono (by decide)) T.b_Ratio_str pass0) (by rfl) T.z_str (by decide +kernel) (pa_cons (pv 1) pa_nil)) (pv 0) (nomark _))))) (pss_one (ps_raise rfl (takes_of rfl rfl rfl rfl) (pmk_oex T.oex_InvalidText T.me_InvalidText_init.at_ T.ti_InvalidText (ok_InvalidText_init T) (hr.mono (by decide)) T.b_InvalidText_init .nil pass0 (by rfl) T.m_InvalidText (pa_cons (pv 0) pa_nil)))) pss_nil)
      (pss_one (ps_ret (pv 1))))), ?_⟩
    walk_at "r"
    refine w_tIf ?_
    walk_at "r"
    have str_ : ∀ (t : Str) (R : VK), R (.bl true) H → rIsi K [.str t, .ty "str"] H R := fun t R q => ⟨.str t, .ty "str", .type "str", .type "str", true, rfl, .ty _, .base (.str t), kit_ty (by decide +kernel), q⟩
    rcases h with ⟨t, u, l, rfl, hl, ht, k⟩ | ⟨t, rfl, hl, ht, k⟩ | ⟨ty, tx, hk, k⟩
    · refine str_ t _ ⟨true, rfl, iteT ?_⟩
      walk_at "r"
      refine ⟨t, rfl, hl, fun h0 => (by rw [ht] at h0; cases h0), fun u' l' hs p H1 m n hp e1 r nm => ?_⟩
      rw [ht] at hs
      cases hs
      obtain ⟨sm, sn, sl, k⟩ := k m n nm
      walk_at "r"
      refine ⟨rfl, _, rfl, ?_⟩
      rw [if_neg (by simp)]
      obtain ⟨dx, ob⟩ := r.ob
      walk_at "r"
      refine ⟨p, dx, _, rfl, ob, p, m, n, rfl, r, sm, sn, sl, _, rfl, ?_⟩
      walk_at "r"
      rcases k with ⟨e, k⟩ | ⟨ne, k⟩
      · rw [if_neg (by simp [e])]
        walk_at "r"
        exact k p H1 hp e1 r
      · rw [if_pos (by simp [ne])]
        show tCons (tVar 0) tNil _ _ _
        walk_at "r"
        exact raise_leaf fun d H' e2 hd => k d H' (e1.trans e2) hd
    · refine str_ t _ ⟨true, rfl, iteT ?_⟩
      walk_at "r"
      refine ⟨t, rfl, hl, fun _ H1 e1 => ?_, fun u' l' hs => (by rw [ht] at hs; cases hs)⟩
      walk_at "r"
      refine ⟨rfl, _, rfl, ?_⟩
      rw [if_pos (by simp), if_pos rfl]
      show tCons (tVar 0) tNil _ _ _
      walk_at "r"
      exact raise_leaf fun d H' e2 hd => k d H' (e1.trans e2) hd
    · refine ⟨x, .ty "str", ty, .type "str", false, rfl, .ty _, tx, hk, false, rfl, iteF ?_⟩
      walk_at "r"
      refine ⟨rfl, _, rfl, ?_⟩
      rw [if_pos (by simp), if_pos rfl]
      show tCons (tVar 0) tNil _ _ _
      walk_at "r"
      exact raise_leaf fun d H' e2 hd => k d H' e2 hd
end
end RK3


namespace RK3
open PySem PySem.Spec L2 RK
section
variable {P : Program} {w : World} {K : PySem.W.Frag} {mg : Str → Option Value} {base : Heap} {a : Ad}
def spWritten : Sp := fun vs H Q _ => ∃ (p : Addr) (t b : Int), vs = [.ref p] ∧ H p = some (.tup [.int t, .int b]) ∧ Shown t ∧ Shown b ∧ (txt t b).length ≤ 2000 ∧ Q (.str (txt t b)) H
theorem ok_written (T : Txt K mg a) : FnOk P w K mg base CX0 1 a.f_written a.d_written ["_law_pair"] spWritten := by
  refine T.F_written.ok sc_written (fun vs H Q E h => ?_) (fun cdv A outer s H vs Q E hr h => ?_)
  · obtain ⟨p, t, b, rfl, _⟩ := h
    rfl
  · obtain ⟨p, t, b, rfl, hp, zt, zb, zl, k⟩ := h
    have lt : t.natAbs.log2 < 1920 := Nat.lt_of_lt_of_le zt (by decide)
    have lb : b.natAbs.log2 < 1920 := Nat.lt_of_lt_of_le zb (by decide)
    refine ⟨_, (pss_one (ps_ret (pe_ifExp (pt_cmpR op_eq (pe_ix ix_tup (pv 0) pe_int (fun _ _ => rfl)) pe_int (nomark _)) (pe_callTy call_str_int (by rfl) T.z_str (by decide +kernel) (pa_cons (pe_ix ix_tup (pv 0) pe_int (fun _ _ => rfl)) pa_nil)) (pe_op op_add_str (pe_op op_add_str (pe_callTy call_str_int (by rfl) T.z_str (by decide +kernel) (pa_cons (pe_ix ix_tup (pv 0) pe_int (fun _ _ => rfl)) pa_nil)) pe_str) (pe_callTy call_str_int (by rfl) T.z_str (by decide +kernel) (pa_cons (pe_ix ix_tup (pv 0) pe_int (fun _ _ => rfl)) pa_nil)))))), ?_⟩
    walk_at "r"
    refine w_tIf ?_
    walk_at "r"
    by_cases hb : b = 1
    · rw [if_pos (by simp [hb])]
      unfold txt at k
      rw [if_pos hb] at k
      walk_at "r"
      exact ⟨t, rfl, lt, k⟩
    · rw [if_neg (by simp [hb])]
      unfold txt at k zl
      rw [if_neg hb] at k zl
      rw [Str.length_append, Str.length_append] at zl
      have sl : 2000 ≤ sizeLine := by decide
      walk_at "r"
      refine ⟨t, rfl, lt, ?_⟩
      walk_at "r"
      refine ⟨_, _, rfl, rfl, by omega, ?_⟩
      walk_at "r"
      refine ⟨b, rfl, lb, ?_⟩
      walk_at "r"
      exact ⟨_, _, rfl, rfl, by rw [Str.length_append]; omega, k⟩
end
end RK3

namespace RK3
open PySem PySem.Spec L2 RK TL
/-- the signs of a whole number -/
def sg (z : Int) : List Nat := if z < 0 then 45 :: numL z.natAbs else numL z.natAbs
theorem tl_int (z : Int) : tl (Str.ofString (toString z)) = sg z := by
  cases z with
  | ofNat n => exact tl_num n
  | negSucc n =>
    have e : toString (Int.negSucc n) = "-" ++ toString ((n + 1 : Nat) : Int) := rfl
    rw [e]
    have e2 : ∀ x : String, tl (Str.ofString ("-" ++ x)) = 45 :: tl (Str.ofString x) := fun x => by
      show (Str.ofString ("-" ++ x)).cps.toList = 45 :: (Str.ofString x).cps.toList
      rw [PyProof.Rows.signs_ofString, PyProof.Rows.signs_ofString, String.toList_append, List.map_append]
      rfl
    rw [e2, tl_num]
    unfold sg
    rw [if_pos (by omega)]
    rfl
theorem sg_slash (z : Int) : 47 ∉ sg z := by
  unfold sg
  split
  · intro h
    rcases List.mem_cons.mp h with h | h
    · omega
    · exact numL_free (by omega) h
  · exact numL_free (by omega)
theorem int_back {z : Int} (h : (sg z).length ≤ 600) : intText? (Str.ofString (toString z)) = some z := by
  have e := tl_int z
  have l : (Str.ofString (toString z)).length = (sg z).length := by rw [len_tl, e]
  unfold sg at e h
  by_cases hz : z < 0
  · rw [if_pos hz] at e h
    rw [intText_neg (cs := numL z.natAbs) e (numL_digits _) (numL_ne _) (by rw [l]; unfold sg; rw [if_pos hz]; omega), numL_val]
    congr 1
    omega
  · rw [if_neg hz] at e h
    have e2 : (Str.ofString (toString z)).cps.toList = numL z.natAbs := e
    rw [intText_digits (by rw [e2]; exact numL_digits _) (by rw [e2]; exact numL_ne _) (by rw [l]; unfold sg; rw [if_neg hz]; omega), e2, numL_val]
    congr 1
    omega
theorem dg_num {x : Str} {n : Nat} (h : tl x = numL n) : dg x = true := by
  have e : x.cps.toList = numL n := h
  unfold dg
  rw [e]
  refine Bool.and_eq_true_iff.mpr ⟨decide_eq_true (numL_ne n), List.all_eq_true.mpr fun c hc => ?_⟩
  have z := numL_digits n c hc
  rw [Bool.and_eq_true, decide_eq_true_eq, decide_eq_true_eq]
  exact z
theorem dg_pre (z : Int) : dg (Txt.removeprefix (Str.ofString (toString z)) "-") = true := by
  have e := tl_int z
  generalize Str.ofString (toString z) = x at e ⊢
  have el : x.cps.toList.length = x.length := Array.length_toList
  have e' : x.cps.toList = sg z := e
  rw [StrLaws.removeprefix_eq]
  unfold sg at e'
  by_cases hz : z < 0
  · rw [if_pos hz] at e'
    have c : (decide (0 + ("-" : Str).length ≤ x.length) && Builtin.Str.subAt x "-" 0) = true := by
      rw [StrLaws.subAt_eq, List.drop_zero, e', ← el, e']
      refine Bool.and_eq_true_iff.mpr ⟨decide_eq_true (by rw [List.length_cons]; show 0 + 1 ≤ _; omega), ?_⟩
      show ((45 :: numL z.natAbs).take 1 == [45]) = true
      rfl
    rw [if_pos c]
    refine dg_num (n := z.natAbs) ?_
    show ((x.cps.toList.drop 1).take (x.length - 1)).toArray.toList = numL z.natAbs
    rw [← el, e']
    simp
  · rw [if_neg hz] at e'
    have c : ¬ (decide (0 + ("-" : Str).length ≤ x.length) && Builtin.Str.subAt x "-" 0) = true := by
      intro w
      have w2 := (Bool.and_eq_true_iff.mp w).2
      rw [StrLaws.subAt_eq, List.drop_zero, e'] at w2
      have w3 : (numL z.natAbs).take 1 = [45] := beq_iff_eq.mp w2
      cases q : numL z.natAbs with
      | nil => exact numL_ne _ q
      | cons d r =>
        rw [q] at w3
        obtain rfl : d = 45 := by simpa using w3
        have := numL_digits z.natAbs 45 (by rw [q]; exact List.mem_cons_self)
        omega
    rw [if_neg c]
    exact dg_num e'
theorem tl_slash : tl ("/" : Str) = 47 :: [] := rfl
theorem cut_one (t : Int) : cut (txt t 1) = (Str.ofString (toString t), Str.empty, Str.empty) := by
  unfold cut txt
  rw [if_pos rfl]
  exact TL.partition_none tl_slash (by rw [tl_int]; exact sg_slash t)
theorem cut_two (t : Int) {b : Int} (hb : b ≠ 1) : cut (txt t b) = (Str.ofString (toString t), ("/" : Str), Str.ofString (toString b)) := by
  unfold cut txt
  rw [if_neg hb]
  exact partition_app tl_slash (by rw [tl_int]; exact sg_slash t)
/-- the program reads what is written -/
theorem told_txt {t b : Int} (hb : 0 < b) (h1 : (sg t).length ≤ 600) (h2 : (sg b).length ≤ 600) : told? (txt t b) = some (t, b) := by
  have db : dg (Str.ofString (toString b)) = true := by
    refine dg_num (n := b.natAbs) ?_
    rw [tl_int]
    unfold sg
    rw [if_neg (by omega)]
  unfold told? good low
  by_cases h : b = 1
  · subst h
    rw [cut_one]
    dsimp only
    have e1 : intText? ("1" : Str) = some 1 := int_back (z := 1) (by decide +kernel)
    have d1 : dg ("1" : Str) = true := by decide +kernel
    rw [if_pos rfl, dg_pre, d1, if_pos (by rfl), int_back h1, Option.bind_some, e1, Option.bind_some, if_neg (by decide)]
  · rw [cut_two t h]
    dsimp only
    rw [if_neg (show ¬ (("/" : Str) = Str.empty) by decide +kernel), dg_pre, db, if_pos (by rfl), int_back h1, Option.bind_some, int_back h2, Option.bind_some, if_neg (by omega)]
end RK3

namespace RK3
open PySem PySem.Spec L2 RK TL
/-! ### the signs of a line, cut and looked at -/
theorem minus_eq : ("-" : Str) = ⟨#[45]⟩ := by decide +kernel
theorem slash_eq : ("/" : Str) = ⟨#[47]⟩ := by decide +kernel
theorem one_at (x : Str) (c i : Nat) : StrLaws.At x ⟨#[c]⟩ x.length i ↔ (tl x)[i]? = some c := StrLaws.subAt_one x c i
theorem rep1_free {x : Str} (h : 45 ∉ tl x) : rep1 x "-" "" = x := by
  rw [minus_eq]
  unfold rep1
  rcases StrLaws.occ_head x ⟨#[45]⟩ 1 (by decide) with ⟨e, _⟩ | ⟨i, r, e, ha, _⟩
  · rw [e, if_pos (by rfl)]
  · exact absurd (List.mem_of_getElem? ((one_at x 45 i).mp ha)) h
theorem rep1_head {x : Str} {r : List Nat} (h : tl x = 45 :: r) : tl (rep1 x "-" "") = r := by
  rw [minus_eq]
  unfold rep1
  have a0 : StrLaws.At x ⟨#[45]⟩ x.length 0 := (one_at x 45 0).mpr (by rw [h]; rfl)
  rcases StrLaws.occ_head x ⟨#[45]⟩ 1 (by decide) with ⟨_, n⟩ | ⟨i, t, e, ha, hn⟩
  · exact absurd a0 (n 0)
  · have i0 : i = 0 := by
      cases i with
      | zero => rfl
      | succ j => exact absurd a0 (hn 0 (by omega))
    subst i0
    have few := StrLaws.occ_length_le x ⟨#[45]⟩ 0 x.length 1
    rw [e] at few
    have t0 : t = [] := by cases t with | nil => rfl | cons _ _ => simp at few
    subst t0
    rw [e, if_neg (by decide), StrLaws.partsBetween_eq, StrLaws.glued_eq_join]
    have l : x.length = (tl x).length := len_tl x
    show tl (Str.join "" [Builtin.Str.strSub x 0 0, Builtin.Str.strSub x (0 + 1) x.length]) = r
    have j : ∀ a b : Str, tl (Str.join "" [a, b]) = tl a ++ tl b := fun a b => by
      rw [← join_eq]
      have := tl_join "" [a, b]
      rw [← join_eq] at this
      rw [this]
      rfl
    rw [j]
    have s0 : tl (Builtin.Str.strSub x 0 0) = [] := by rw [show tl (Builtin.Str.strSub x 0 0) = _ from StrLaws.strSub_toList x 0 0]; rfl
    have s1 : tl (Builtin.Str.strSub x (0 + 1) x.length) = r := by
      rw [show tl (Builtin.Str.strSub x (0 + 1) x.length) = _ from StrLaws.strSub_toList x 1 x.length, show x.cps.toList = 45 :: r from h, l, h]
      show List.take ((45 :: r).length - 1) r = r
      simp
    rw [s0, s1]
    rfl
theorem rep1_sub (x : Str) : ∀ c ∈ tl (rep1 x "-" ""), c ∈ tl x := by
  intro c hc
  rw [minus_eq] at hc
  unfold rep1 at hc
  rcases StrLaws.occ_head x ⟨#[45]⟩ 1 (by decide) with ⟨e, n⟩ | ⟨i, t, e, ha, hn⟩
  · rw [e, if_pos (by rfl)] at hc
    exact hc
  · have few := StrLaws.occ_length_le x ⟨#[45]⟩ 0 x.length 1
    rw [e] at few
    have t0 : t = [] := by cases t with | nil => rfl | cons _ _ => simp at few
    subst t0
    have ce : ([i].isEmpty || ((⟨#[45]⟩ : Str).length == 0 && ("" : Str).length == 0)) = false := by
      show (false || ((⟨#[45]⟩ : Str).length == 0 && ("" : Str).length == 0)) = false
      decide
    rw [e, ce, if_neg Bool.false_ne_true, StrLaws.partsBetween_eq, StrLaws.glued_eq_join] at hc
    have j : ∀ a b : Str, tl (Str.join "" [a, b]) = tl a ++ tl b := fun a b => by
      rw [tl_join]
      rfl
    have hc : c ∈ tl (Str.join "" [Builtin.Str.strSub x 0 i, Builtin.Str.strSub x (i + 1) x.length]) := hc
    rw [j, List.mem_append] at hc
    rcases hc with hc | hc
    · have hc : c ∈ (Builtin.Str.strSub x 0 i).cps.toList := hc
      rw [StrLaws.strSub_toList] at hc
      exact List.mem_of_mem_drop (List.mem_of_mem_take hc)
    · have hc : c ∈ (Builtin.Str.strSub x (i + 1) x.length).cps.toList := hc
      rw [StrLaws.strSub_toList] at hc
      exact List.mem_of_mem_drop (List.mem_of_mem_take hc)
theorem joinL_mem {S : List Nat} : ∀ {ps : List (List Nat)} {p : List Nat}, p ∈ ps → ∀ c ∈ p, c ∈ joinL S ps
  | [a], p, h, c, hc => by
    rw [List.mem_singleton.mp h] at hc
    exact hc
  | a :: b :: r, p, h, c, hc => by
    unfold joinL
    rcases List.mem_cons.mp h with rfl | h
    · exact List.mem_append.mpr (.inl (by first | exact hc | exact List.mem_append.mpr (.inl hc)))
    · exact List.mem_append.mpr (.inr (List.mem_append.mpr (.inr (joinL_mem h c hc))))
theorem bits_sub {t b : Str} (h : b ∈ Txt.split t "/") : (∀ c ∈ tl b, c ∈ tl t) ∧ b.length ≤ t.length := by
  have e := StrLaws.join_split t "/"
  have e2 : joinL (tl "/") ((Txt.split t "/").map tl) = tl t := by rw [← tl_join, e]
  constructor
  · intro c hc
    rw [← e2]
    exact joinL_mem (List.mem_map.mpr ⟨b, h, rfl⟩) c hc
  · have : ∀ {ps : List (List Nat)} {p : List Nat}, p ∈ ps → p.length ≤ (joinL (tl "/") ps).length := by
      intro ps
      induction ps with
      | nil => intro p h; cases h
      | cons a r ih =>
        intro p h
        cases r with
        | nil =>
          rw [List.mem_singleton.mp h]
          exact Nat.le_refl _
        | cons b r =>
          unfold joinL
          rw [List.length_append, List.length_append]
          rcases List.mem_cons.mp h with rfl | h
          · first | omega | (rw [List.length_append]; omega)
          · have := ih h
            omega
    have l := this (List.mem_map.mpr ⟨b, h, rfl⟩ : tl b ∈ (Txt.split t "/").map tl)
    rw [e2] at l
    rw [len_tl, len_tl t]
    exact l
theorem bits_some (t : Str) : Txt.split t "/" ≠ [] := by
  unfold Txt.split
  split
  · simp
  · split
    · simp
    · obtain ⟨p, r, e⟩ := StrLaws.partsFrom_ne t ("/" : Str).length 0 (Builtin.Str.occurrences t "/" 0 t.length (t.length + 1))
      rw [StrLaws.partsBetween_eq, e]
      simp
/-- what the line's reader lets pass -/
def okBit (b : Str) : Prop := (∀ c ∈ tl (rep1 b "-" ""), 48 ≤ c ∧ c ≤ 57) ∧ (45 ∈ tl b → (tl b)[0]? = some 45) ∧ tl b ≠ [] ∧ tl b ≠ [45]
theorem val_lt {cs : List Nat} (h : NumText.AllDigits cs) (hl : cs.length ≤ 40) : NumText.digitsVal cs < 2 ^ 140 := by
  have z := fold_lt cs 0 h
  rw [Nat.zero_add, Nat.one_mul] at z
  exact Nat.lt_of_lt_of_le (Nat.lt_of_lt_of_le z (Nat.pow_le_pow_right (by decide) hl)) (by decide +kernel)
theorem ok_int {b : Str} (h : okBit b) (hl : b.length ≤ 40) : ∃ n : Int, intText? b = some n ∧ Sz 140 n := by
  obtain ⟨h1, h2, h3, h4⟩ := h
  have l : b.length = (tl b).length := len_tl b
  by_cases m : 45 ∈ tl b
  · have z := h2 m
    cases e : tl b with
    | nil => exact absurd e h3
    | cons d r =>
      rw [e] at z l
      obtain rfl : d = 45 := by simpa using z
      rw [rep1_head e] at h1
      rw [List.length_cons] at l
      refine ⟨_, PySem.intText_neg (cs := r) e h1 (fun w => h4 (by rw [e, w])) (by omega), ?_⟩
      have v := val_lt h1 (by omega)
      unfold Sz
      rw [Int.natAbs_neg, Int.natAbs_natCast]
      exact v
  · rw [rep1_free m] at h1
    refine ⟨_, PySem.intText_digits h1 h3 (by omega), ?_⟩
    have v := val_lt h1 (by omega)
    unfold Sz
    rw [Int.natAbs_natCast]
    exact v
theorem shown_of {z : Int} (h : Sz 140 z) : Shown z := Nat.lt_trans (PySem.Flt.log2_lt_of (by decide) h) (by decide)
theorem sg_len {z : Int} (h : Sz 140 z) : (sg z).length ≤ 44 := by
  have h : z.natAbs < 2 ^ 140 := h
  have z1 := numL_len (n := z.natAbs) (k := 43) (by decide) (Nat.lt_of_lt_of_le h (by decide +kernel))
  unfold sg
  split
  · rw [List.length_cons]
    omega
  · omega
theorem txt_len {t b : Int} (h : Sz 140 t) (h2 : Sz 140 b) : (txt t b).length ≤ 89 := by
  have l : ∀ z : Int, (Str.ofString (toString z)).length = (sg z).length := fun z => by rw [len_tl, tl_int]
  have a1 := sg_len h
  have a2 := sg_len h2
  unfold txt
  split
  · rw [l]
    omega
  · rw [Str.length_append, Str.length_append, l, l]
    show (sg t).length + 1 + (sg b).length ≤ 89
    omega
theorem ok_sg (z : Int) {b : Str} (e : tl b = sg z) : okBit b := by
  unfold okBit
  unfold sg at e
  split at e
  · have r := rep1_head e
    refine ⟨fun c hc => ?_, fun _ => by rw [e]; rfl, by rw [e]; exact List.cons_ne_nil _ _, fun w => ?_⟩
    · rw [r] at hc
      exact numL_digits _ c hc
    · rw [e] at w
      injection w with _ w
      exact numL_ne _ w
  · have no : 45 ∉ tl b := by rw [e]; exact numL_free (by omega)
    refine ⟨fun c hc => ?_, fun w => absurd w no, by rw [e]; exact numL_ne _, fun w => no (by rw [w]; exact List.mem_singleton.mpr rfl)⟩
    rw [rep1_free no, e] at hc
    exact numL_digits _ c hc
/-- the bits of what is written -/
theorem bits_txt (u l : Int) : Txt.split (txt u l) "/" = if l = 1 then [Str.ofString (toString u)] else [Str.ofString (toString u), Str.ofString (toString l)] := by
  have no : ∀ z : Int, 47 ∉ tl (Str.ofString (toString z)) := fun z => by rw [tl_int]; exact sg_slash z
  by_cases h : l = 1
  · rw [if_pos h]
    have := split_join (y := "/") (s := 47) (S := []) tl_slash (by decide +kernel) (parts := [Str.ofString (toString u)]) (by simp) (fun p hp => by rw [List.mem_singleton.mp hp]; exact no u)
    have e : Txt.join "/" [Str.ofString (toString u)] = txt u l := by
      unfold txt
      rw [if_pos h]
      rfl
    rw [← e]
    exact this
  · rw [if_neg h]
    have := split_join (y := "/") (s := 47) (S := []) tl_slash (by decide +kernel) (parts := [Str.ofString (toString u), Str.ofString (toString l)]) (by simp) (fun p hp => by
      rcases List.mem_cons.mp hp with rfl | hp
      · exact no u
      · rw [List.mem_singleton.mp hp]
        exact no l)
    have e : Txt.join "/" [Str.ofString (toString u), Str.ofString (toString l)] = txt u l := by
      unfold txt
      rw [if_neg h]
      rw [join_eq]
      rfl
    rw [← e]
    exact this
/-! ### comprehensions that pick -/
section
variable {σ : L2.St} {H : Hp} {Q : VK} {j : Nat} {vs : List Nat} {tt : TT}
/-- [c for c in a text if ..] -/
theorem lc_pickS {x : Str} (p : Nat → Bool) (hlen : x.length ≤ 1000) (hw : ∀ y, wipe ((wipe σ vs).set j (some y)) vs = wipe σ vs) (hj : j < (wipe σ vs).length)
    (ht : ∀ c H', c ∈ tl x → Same H H' → ∀ Q' : Bool → Hp → Prop, Q' (p c) H' → tt ((wipe σ vs).set j (some (.str ⟨#[c]⟩))) H' Q')
    (k : ∀ D H', H D = none → Same H H' → H' D = some (.lst (((tl x).filter p).map fun c => V.str ⟨#[c]⟩)) → Q (.ref D) H') :
    ∀ D, H D = none → ∃ W : Nat → Nat → Hp → Prop, (∃ m, W 0 m (upd H D (.lst []))) ∧ ∀ i m G, W i m G →
      ((Its x).stop i G ∧ Q (.ref D) G) ∨ ((Its x).go i G ∧ ∃ Nx : Hp → Prop, (∀ G', Nx G' → ∃ m', m' < m ∧ W (i + 1) m' G') ∧ ∀ y G', (Its x).yld i G y G' → gName j y (wipe σ vs) G' fun σ2 H2 => wipe σ2 vs = wipe σ vs ∧ tt σ2 H2 fun b H3 =>
        if b = true then tVar j σ2 H3 fun y H4 => ∃ acc, H4 D = some (.lst acc) ∧ acc.length < sizeLine ∧ Nx (upd H4 D (.lst (acc ++ [y]))) else Nx H3) := by
  intro D hD
  have sz : x.cps.size = (tl x).length := Array.length_toList.symm
  refine ⟨fun i m G => m = (tl x).length - i ∧ i ≤ (tl x).length ∧ Same H G ∧ G D = some (.lst ((((tl x).take i).filter p).map fun c => V.str ⟨#[c]⟩)), ⟨_, rfl, Nat.zero_le _, w_new hD, upd_same⟩, ?_⟩
  rintro i m G ⟨rfl, hi, e, hG⟩
  by_cases hlt : i < (tl x).length
  · have hc : (tl x)[i]? = some (tl x)[i] := List.getElem?_eq_getElem hlt
    have hn : (tl x).take (i + 1) = (tl x).take i ++ [(tl x)[i]] := by rw [List.take_succ, hc]; rfl
    refine .inr ⟨by show i < x.cps.size; omega, fun G' => Same H G' ∧ G' D = some (.lst ((((tl x).take (i + 1)).filter p).map fun c => V.str ⟨#[c]⟩)), fun G' hx => ⟨_, by omega, rfl, hlt, hx.1, hx.2⟩, fun y G' hy => ?_⟩
    obtain ⟨rfl, c, hc2, rfl⟩ := hy
    have ec : c = (tl x)[i] := by
      have : (tl x)[i]? = some c := by
        show x.cps.toList[i]? = some c
        rw [Array.getElem?_toList]
        exact hc2
      rw [hc] at this
      exact (Option.some.inj this).symm
    refine ⟨hw _, ht c G' (ec ▸ List.getElem_mem hlt) e _ ?_⟩
    rw [hn, List.filter_append, List.map_append, ← ec]
    cases hp : p c with
    | false =>
      rw [if_neg (by decide)]
      refine ⟨e, ?_⟩
      rw [List.filter_cons_of_neg (by rw [hp]; decide), List.filter_nil, List.map_nil, List.append_nil]
      exact hG
    | true =>
      rw [if_pos rfl]
      refine ⟨_, List.getElem?_set_self hj, _, hG, ?_, RK.Same.updL e hD, ?_⟩
      · rw [List.length_map]
        have a1 := List.length_filter_le p ((tl x).take i)
        have a2 : ((tl x).take i).length ≤ (tl x).length := by rw [List.length_take]; omega
        have l : x.length = (tl x).length := len_tl x
        have : 1001 ≤ sizeLine := by decide
        omega
      · rw [upd_same, List.filter_cons_of_pos hp, List.filter_nil, List.map_cons, List.map_nil]
  · have hi2 : i = (tl x).length := by omega
    subst hi2
    rw [List.take_length] at hG
    exact .inl ⟨by show x.cps.size ≤ _; omega, k D G hD e hG⟩
theorem lc_rep1 {i : Nat} {b y z : Str} (p : Nat → Bool) (hi : σ[i]? = some (some (.str b))) (hb : b.length ≤ 10000) (hlen : (rep1 b y z).length ≤ 1000) (hw : ∀ y, wipe ((wipe σ vs).set j (some y)) vs = wipe σ vs) (hj : j < (wipe σ vs).length)
    (ht : ∀ c H', c ∈ tl (rep1 b y z) → Same H H' → ∀ Q' : Bool → Hp → Prop, Q' (p c) H' → tt ((wipe σ vs).set j (some (.str ⟨#[c]⟩))) H' Q')
    (k : ∀ D H', H D = none → Same H H' → H' D = some (.lst (((tl (rep1 b y z)).filter p).map fun c => V.str ⟨#[c]⟩)) → Q (.ref D) H') : tLc (iStr (tRep1 (tVar i) y z)) (gName j) tt (tVar j) vs σ H Q :=
  ⟨.str b, hi, b, rfl, hb, rep1 b y z, rfl, lc_pickS p hlen hw hj ht k⟩
/-- [x for x in a list if ..], the test may make new objects -/
theorem lc_pickL {K : PySem.W.Frag} {l : Addr} {xs : List V} (p : V → Bool) (hl : H l = some (.lst xs)) (hlen : xs.length ≤ 1000) (hw : ∀ y, wipe ((wipe σ vs).set j (some y)) vs = wipe σ vs) (hj : j < (wipe σ vs).length)
    (ht : ∀ y H', y ∈ xs → Same H H' → ∀ Q' : Bool → Hp → Prop, (∀ H'', Same H' H'' → Q' (p y) H'') → tt ((wipe σ vs).set j (some y)) H' Q')
    (k : ∀ D H', H D = none → Same H H' → H' D = some (.lst (xs.filter p)) → Q (.ref D) H') : LcS K (gName j) tt (tVar j) vs σ (.ref l) H Q := by
  refine ⟨l, rfl, ⟨_, SqL.of hl⟩, fun D hD => ?_⟩
  have ne : l ≠ D := ne_of_none hl hD
  refine lc_list (K := K) (a := l) (xs := xs) (fun i G => Same H G ∧ G D = some (.lst ((xs.take i).filter p))) ⟨w_new hD, upd_same⟩ (fun i G _ hG => SqL.of (hG.1 _ _ hl)) ?_ ?_
  · rintro i y G hy ⟨e, hG⟩
    refine ⟨hw _, ht y G (List.mem_of_getElem? hy) e _ fun G2 e2 => ?_⟩
    have hn : xs.take (i + 1) = xs.take i ++ [y] := by rw [List.take_succ, hy]; rfl
    rw [hn, List.filter_append]
    cases hp : p y with
    | false =>
      rw [if_neg (by decide)]
      refine ⟨e.trans e2, ?_⟩
      rw [List.filter_cons_of_neg (by rw [hp]; decide), List.filter_nil, List.append_nil]
      exact e2 _ _ hG
    | true =>
      rw [if_pos rfl]
      refine ⟨_, List.getElem?_set_self hj, _, e2 _ _ hG, ?_, RK.Same.updL (e.trans e2) hD, ?_⟩
      · have a1 := List.length_filter_le p (xs.take i)
        have a2 : (xs.take i).length ≤ xs.length := by rw [List.length_take]; omega
        have : 1001 ≤ sizeLine := by decide
        omega
      · rw [upd_same, List.filter_cons_of_pos hp, List.filter_nil]
  · rintro G ⟨e, hG⟩
    rw [List.take_length] at hG
    exact k D G hD e hG
/-- a list of texts is not [] -/
theorem ne_nil {K : PySem.W.Frag} {H : Hp} {Q : VK} {a b : Addr} {ss : List Str} (h : H a = some (.lst (ss.map V.str))) (hok : ∀ s ∈ ss, PyData.strOk s = true) (h2 : H b = some (.lst [])) (k : Q (.bl (!ss.isEmpty)) H) : rNeD K (.ref a) (.ref b) H Q := by
  have hd : ∀ ss : List Str, DpAll K H (ss.map V.str) (ss.map PyData.str) := fun ss => by
    induction ss with
    | nil => exact .nil
    | cons s r ih => exact .cons (.str _) ih
  refine ⟨.list (ss.map PyData.str), .list [], .lst (SqL.of h) (hd ss), .lst (SqL.of h2) .nil, ?_, rfl, ?_⟩
  · have e : PyData.canLayAll0 (ss.map PyData.str) = true := by
      clear h hd k
      induction ss with
      | nil => rfl
      | cons s r ih =>
        rw [List.map_cons]
        unfold PyData.canLayAll0
        rw [ih fun z hz => hok z (List.mem_cons_of_mem _ hz)]
        unfold PyData.canLay0
        rw [hok s List.mem_cons_self]
        rfl
    have dp : ∀ ss : List Str, PyData.depthAll (ss.map PyData.str) = 0 := fun ss => by
      induction ss with
      | nil => rfl
      | cons s r ih => 
        rw [List.map_cons]
        unfold PyData.depthAll
        rw [ih]
        unfold PyData.depth
        rfl
    unfold SeqAt.shaped PyData.canLay0 PyData.depth
    rw [e, dp]
    rfl
  · cases ss <;> exact k
end
section
variable {K : PySem.W.Frag}
theorem dp2 {H : Hp} {p : Addr} {x y : Int} (h : H p = some (.tup [.int x, .int y])) : Dp K H (.ref p) (.tuple [.int x, .int y]) := .tup (SqT.of h) (.cons (.int _) (.cons (.int _) .nil))
theorem ne2 {H : Hp} {Q : VK} {p q : Addr} {x y u v : Int} (h : H p = some (.tup [.int x, .int y])) (h2 : H q = some (.tup [.int u, .int v])) (k : Q (.bl (!(decide (x = u) && decide (y = v)))) H) : rNeD K (.ref p) (.ref q) H Q := by
  refine ⟨_, _, dp2 h, dp2 h2, rfl, rfl, ?_⟩
  have e : PyData.eqv (.tuple [.int x, .int y]) (.tuple [.int u, .int v]) = (decide (x = u) && decide (y = v)) := by
    by_cases c : x = u ∧ y = v
    · obtain ⟨rfl, rfl⟩ := c
      rw [SeqAt.eqv_refl _ (by rfl)]
      simp
    · have e1 : PyData.eqv (.tuple [.int x, .int y]) (.tuple [.int u, .int v]) = ((x == u) && ((y == v) && true)) := rfl
      rw [e1, Bool.and_true]
      rfl
  rw [e]
  exact k
theorem low_leaf {H : Hp} {Q : VK} {E : XK} {u l : Int} (hl : l ≠ 0) (z1 : Sz 3000 u) (z2 : Sz 3000 l) (k : ∀ p H' x y, H p = none → Same H H' → H' p = some (.tup [.int x, .int y]) → Nrm u l x y → Q (.ref p) H') : spLowest [.int u, .int l] H Q E := ⟨u, l, rfl, hl, z1, z2, k⟩
end
end RK3


namespace RK3
open PySem PySem.Spec L2 RK TL CwR
section
variable {P : Program} {w : World} {K : PySem.W.Frag} {mg : Str → Option Value} {base : Heap} {a : Ad}
/-- the pair that just this text tells, if it tells one -/
def spReader : Sp := fun vs H Q _ => ∃ t : Str, vs = [.str t] ∧ t.length ≤ 40 ∧ PyData.strOk t = true ∧
  ((∀ u l, 0 < l → Int.gcd u l = 1 → txt u l ≠ t) → ∀ H', Same H H' → Q .non H') ∧
  (∀ u l, 0 < l → Int.gcd u l = 1 → txt u l = t → ∀ p H', H p = none → Same H H' → H' p = some (.tup [.int u, .int l]) → Q (.ref p) H')
theorem str_isi {K : PySem.W.Frag} {H : Hp} {R : VK} (t : Str) (q : R (.bl true) H) : rIsi K [.str t, .ty "str"] H R := ⟨.str t, .ty "str", .type "str", .type "str", true, rfl, .ty _, .base (.str t), kit_ty (by decide +kernel), q⟩
theorem ok_read (T : Txt K mg a) : FnOk P w K mg base CX0 2 a.f_read a.d_read ["_law_line"] spReader := by
  refine funT T.F_read sc_read (by decide +kernel) (by decide) (fun vs H Q E h => ?_) (fun cdv A outer s H vs Q E hr h => ?_)
  · obtain ⟨t, rfl, _⟩ := h
    rfl
  · obtain ⟨t, rfl, hl, hok, k0, k1⟩ := h
    refine ⟨_, (psst_cons (PST.of (ps_if (PW.pt (pw_or (pt_not (pt_val (pe_callB call_isi (by rfl) T.z_isinstance (by decide +kernel) (pa_cons (pv 0) (pa_cons (pe_bltn (v := .ty "str") (by rfl) T.z_str (by decide +kernel) rfl) pa_nil))))) (pw_or1 (pt_cmpR op_gt (pe_callB cr_len (by rfl) T.z_len PySem.boot_len (pa_cons (pv 0) pa_nil)) pe_int (nomark _))))) (pss_one (ps_ret pe_non)) pss_nil))
      (psst_cons (PST.of (ps_set (i := 1) sc_read.nd rfl (Or.inl rfl) (pe_m1 PySem.F.slot_str_split PySem.F.type_str_split mt_split (pv 0) pe_str)))
      (psst_cons (PST.of (ps_if (PW.pt (pw_or (pt_cmpR op_gt (pe_callB cr_len (by rfl) T.z_len PySem.boot_len (pa_cons (pv 1) pa_nil)) pe_int (nomark _)) (pw_or1 (pt_cmpR (op_neD hr.units) (pe_lc (own := [("_law_bit", 2)]) (g := gName 2) rfl sc_read.nd (pi_list (pv 1)) (blkOk_by (own := [("_law_bit", 2)]) (N := ["_law_line", "_law_bits", "_law_bit", "_law_pair", "_law_sign"]) (sc := defScope s_read) (by decide +kernel)) (fun _ _ _ _ _ => pg_name (i := 2) sc_read.nd rfl (Or.inl rfl)) (fun _ _ _ _ _ => (pts_one (pt_cmpR (show OpR _ _ (rIn K false) from op_in_seq) (pv 2) (pe_lst (pa_cons pe_str (pa_cons pe_str pa_nil))) (by rfl)))) (fun _ _ _ _ _ => by exact (pv 2))) (pe_lst pa_nil) (nomark _))))) (pss_one (ps_ret pe_non)) pss_nil))
      (psst_cons (pst_forT PassesOwn.never rfl (pi_list (pv 1)) (pg_name (i := 2) sc_read.nd rfl (Or.inl rfl)) (psst_cons (pst_ifT (ptt_cmp (op_neD hr.units) (pet_lcS (own := [("_law_sign", 4)]) (g := gName 4) rfl sc_read.nd (pet_rep1 (pv 2)) (blkOk_by (own := [("_law_sign", 4)]) (N := ["_law_line", "_law_bits", "_law_bit", "_law_pair", "_law_sign"]) (sc := defScope s_read) (by decide +kernel)) (fun _ _ _ _ _ => pg_name (i := 4) sc_read.nd rfl (Or.inl rfl)) (fun _ _ _ _ _ => (pts_one (pt_cmpR op_notin_str (pv 4) pe_str (by rfl)))) (fun _ _ _ _ _ => by exact (pv 4))) (pe_lst pa_nil) (nomark _)) (psst_one (PST.of (ps_ret pe_non))) psst_nil)
      (psst_one (PST.of (ps_if (PW.pt (pw_and (pt_cmpR op_in_str pe_str (pv 2) (by rfl)) (pw_and1 (pt_cmpR op_ne (pe_ix ix_str (pv 2) pe_int (fun _ _ => rfl)) pe_str (nomark _))))) (pss_one (ps_ret pe_non)) pss_nil)))))
      (psst_cons (PST.of (ps_set (i := 3) sc_read.nd rfl (Or.inl rfl) (pe_tup (pa_cons (pe_callTy call_int_str (by rfl) T.z_int (by decide +kernel) (pa_cons (pe_ix ix_list (pv 1) pe_int (fun _ _ => rfl)) pa_nil)) (pa_cons (pe_ifExp (pt_cmpR op_gt (pe_callB cr_len (by rfl) T.z_len PySem.boot_len (pa_cons (pv 1) pa_nil)) pe_int (nomark _)) (pe_callTy call_int_str (by rfl) T.z_int (by decide +kernel) (pa_cons (pe_ix ix_list (pv 1) pe_int (fun _ _ => rfl)) pa_nil)) pe_int) pa_nil)))))
      (psst_cons (PST.of (ps_if (PW.pt (pw_or (pt_cmpR op_lt (pe_ix ix_tup (pv 3) pe_int (fun _ _ => rfl)) pe_int (nomark _)) (pw_or (pt_cmpR (op_neD hr.units) (pe_call (ok_lowest T) (hr.mono (by decide)) (by rfl) T.m_lowest T.F_lowest.kp T.b_lowest .nil pass0 (pa_cons (pe_ix ix_tup (pv 3) pe_int (fun _ _ => rfl)) (pa_cons (pe_ix ix_tup (pv 3) pe_int (fun _ _ => rfl)) pa_nil))) (pv 3) (nomark _)) (pw_or1 (pt_cmpR op_ne (pe_call (ok_written T) (hr.mono (by decide)) (by rfl) T.m_written T.F_written.kp T.b_written .nil pass0 (pa_cons (pv 3) pa_nil)) (pv 0) (nomark _)))))) (pss_one (ps_ret pe_non)) pss_nil))
      (psst_one (PST.of (ps_ret (pv 3)))))))))), ?_⟩
    walk_at "r"
    refine str_isi t ?_
    walk_at "r"
    rw [if_neg (by decide)]
    walk_at "r"
    have s40 : 1000 ≤ sizeLine := by decide
    refine ⟨.str t, _, rfl, ⟨by omega, rfl⟩, ?_⟩
    walk_at "r"
    rw [if_neg (by simp; omega)]
    walk_at "r"
    refine ⟨.str t, rfl, ⟨t, rfl⟩, t, "/", rfl, rfl, by decide +kernel, by omega, fun p hp => ?_⟩
    -- the bits
    have e1 := w_new (o := .lst ((Txt.split t "/").map V.str)) hp
    have h1 : upd H p (.lst ((Txt.split t "/").map V.str)) p = some (.lst ((Txt.split t "/").map V.str)) := upd_same
    generalize upd H p (.lst ((Txt.split t "/").map V.str)) = H1 at e1 h1 ⊢
    have key : ∀ u l, 0 < l → Int.gcd u l = 1 → txt u l = t → (l = 1 ∧ Txt.split t "/" = [Str.ofString (toString u)]) ∨ (l ≠ 1 ∧ Txt.split t "/" = [Str.ofString (toString u), Str.ofString (toString l)]) := fun u l _ _ e => by
      rw [← e, bits_txt]
      by_cases hl1 : l = 1
      · exact .inl ⟨hl1, by rw [if_pos hl1]⟩
      · exact .inr ⟨hl1, by rw [if_neg hl1]⟩
    have keyB : ∀ u l, 0 < l → Int.gcd u l = 1 → txt u l = t → ∀ b ∈ Txt.split t "/", okBit b := fun u l c1 c2 c3 b hb => by
      rcases key u l c1 c2 c3 with ⟨_, e⟩ | ⟨_, e⟩ <;> rw [e] at hb
      · rw [List.mem_singleton.mp hb]
        exact ok_sg u (tl_int u)
      · rcases List.mem_cons.mp hb with rfl | hb
        · exact ok_sg u (tl_int u)
        · rw [List.mem_singleton.mp hb]
          exact ok_sg l (tl_int l)
    have sub : ∀ b ∈ Txt.split t "/", (∀ c ∈ tl b, c ∈ tl t) ∧ b.length ≤ t.length := fun b hb => bits_sub hb
    have some_ := bits_some t
    have okc : ∀ c ∈ tl t, c < 0x110000 := fun c hc => by
      have z : t.cps.all (· < 0x110000) = true := hok
      rw [← Array.all_toList] at z
      exact of_decide_eq_true (List.all_eq_true.mp z c hc)
    generalize hbs : Txt.split t "/" = bs at *
    walk_at "r"
    refine w_lenL (SqL.of h1) ?_
    walk_at "r"
    refine w_iteD (fun c => ?_) (fun c => ?_)
    · rw [if_pos rfl]
      walk_at "r"
      refine k0 (fun u l c1 c2 c3 => ?_) _ e1
      rw [List.length_map] at c
      rcases key u l c1 c2 c3 with ⟨_, e⟩ | ⟨_, e⟩ <;> rw [e] at c <;> simp at c
    rw [List.length_map] at c
    walk_at "r"
    refine lc_pickL (fun y => inV y [V.str "", V.str "-"]) h1 (by rw [List.length_map]; omega) (fun _ => rfl) (by show 2 < 5; decide) (fun y H' hy e Q' kq => ?_) (fun D H2 nD e2 hD => ?_)
    · walk_at "r"
      refine w_newL (by show 2 ≤ 100000; decide) fun l3 H3 n3 e3 i3 => ?_
      obtain ⟨b, hb, rfl⟩ := List.mem_map.mp hy
      exact ⟨l3, _, rfl, .inl (SqL.of i3), rfl, rfl, _, rfl, kq _ e3⟩
    rw [show (bs.map V.str).filter (fun y => inV y [V.str "", V.str "-"]) = (bs.filter fun b => inV (.str b) [V.str "", V.str "-"]).map V.str from List.filter_map] at hD
    walk_at "r"
    refine w_newL (by show 0 ≤ 100000; decide) fun l3 H3 n3 e3 i3 => ?_
    have bad : ∀ b : Str, inV (.str b) [V.str "", V.str "-"] = true → b = "" ∨ b = "-" := fun b hb => by
      have hb : (("" : Str) == b || (("-" : Str) == b || false)) = true := hb
      rw [Bool.or_false, Bool.or_eq_true] at hb
      exact hb.imp (fun z => (eq_of_beq z).symm) fun z => (eq_of_beq z).symm
    refine ne_nil (e3 _ _ hD) (fun b hb => ?_) i3 ?_
    · rcases bad b (List.mem_filter.mp hb).2 with rfl | rfl <;> decide +kernel
    have S3 := (e1.trans e2).trans e3
    refine ⟨_, rfl, ?_⟩
    cases hem : (bs.filter fun b => inV (.str b) [V.str "", V.str "-"]).isEmpty with
    | false =>
      rw [if_pos (by rfl)]
      walk_at "r"
      refine k0 (fun u l c1 c2 c3 => ?_) _ S3
      obtain ⟨b, hb⟩ : ∃ b, b ∈ bs.filter fun b => inV (.str b) [V.str "", V.str "-"] := by
        cases q : bs.filter fun b => inV (.str b) [V.str "", V.str "-"] with
        | nil => rw [q] at hem; cases hem
        | cons b r => exact ⟨b, List.mem_cons_self⟩
      have g := keyB u l c1 c2 c3 b (List.mem_filter.mp hb).1
      rcases bad b (List.mem_filter.mp hb).2 with rfl | rfl
      · exact g.2.2.1 (by decide +kernel)
      · exact g.2.2.2 (by decide +kernel)
    | true =>
    rw [if_neg (by decide)]
    have nbad : ∀ b ∈ bs, tl b ≠ [] ∧ tl b ≠ [45] := fun b hb => by
      have q : bs.filter (fun b => inV (.str b) [V.str "", V.str "-"]) = [] := List.isEmpty_iff.mp hem
      have no := List.filter_eq_nil_iff.mp q b hb
      constructor
      · intro z
        obtain rfl : b = "" := ext_tl (by rw [z]; decide +kernel)
        exact no (by decide +kernel)
      · intro z
        obtain rfl : b = "-" := ext_tl (by rw [z]; decide +kernel)
        exact no (by decide +kernel)
    have h3 : H3 p = some (.lst (bs.map V.str)) := e3 _ _ (e2 _ _ h1)
    walk_at "r"
    refine ⟨p, rfl, ⟨_, SqL.of h3⟩, for_list (K := K) (a := p) (xs := bs.map V.str)
      (fun j σ' H' => Same H3 H' ∧ (∃ v : Option V, σ' = [some (.str t), some (.ref p), v, none, none]) ∧ ∀ i b, i < j → bs[i]? = some b → okBit b)
      ⟨w_same H3, ⟨none, rfl⟩, fun i b z => absurd z (Nat.not_lt_zero _)⟩ (fun j σ' H' _ q => SqL.of (q.1 _ _ h3)) ?_ ?_⟩
    · rintro j y σ' H' hj ⟨e, ⟨v, rfl⟩, okj⟩
      obtain ⟨b, hb, rfl⟩ : ∃ b, bs[j]? = some b ∧ V.str b = y := by
        rw [List.getElem?_map] at hj
        cases q : bs[j]? with
        | none => rw [q] at hj; cases hj
        | some b => rw [q] at hj; exact ⟨b, rfl, Option.some.inj hj⟩
      have hbm := List.mem_of_getElem? hb
      have hbl := (sub b hbm).2
      have rl : (rep1 b "-" "").length ≤ 40 := by
        have z := glued1_len b "-" ""
        unfold rep1
        split
        · omega
        · have : ("" : Str).length = 0 := by decide
          omega
      walk_at "r"
      refine lc_rep1 (fun c => !decide (c ∈ tl ("0123456789" : Str))) rfl (by omega) (by omega) (fun _ => rfl) (by show 4 < 5; decide) (fun c H4 hc e4 Q' kq => ?_) (fun D4 H4 nD4 e4 hD4 => ?_)
      · walk_at "r"
        refine ⟨⟨#[c]⟩, "0123456789", rfl, rfl, _, rfl, ?_⟩
        rw [StrLaws.found_one]
        exact kq
      have dig : ∀ c : Nat, c ∈ tl ("0123456789" : Str) ↔ 48 ≤ c ∧ c ≤ 57 := fun c => by
        have e : tl ("0123456789" : Str) = [48, 49, 50, 51, 52, 53, 54, 55, 56, 57] := by decide +kernel
        rw [e]
        simp only [List.mem_cons, List.not_mem_nil, or_false]
        omega
      rw [show (List.map (fun c => V.str ⟨#[c]⟩) ((tl (rep1 b "-" "")).filter fun c => !decide (c ∈ tl ("0123456789" : Str)))) = (((tl (rep1 b "-" "")).filter fun c => !decide (c ∈ tl ("0123456789" : Str))).map fun c => (⟨#[c]⟩ : Str)).map V.str from (List.map_map ..).symm] at hD4
      walk_at "r"
      refine w_newL (by show 0 ≤ 100000; decide) fun l5 H5 n5 e5 i5 => ?_
      refine ne_nil (e5 _ _ hD4) (fun z hz => ?_) i5 ?_
      · obtain ⟨c, hc, rfl⟩ := List.mem_map.mp hz
        have lt := okc c ((sub b hbm).1 c (rep1_sub b c (List.mem_filter.mp hc).1))
        show (#[c] : Array Nat).all (· < 0x110000) = true
        simpa using lt
      have S5 := (e.trans e4).trans e5
      refine ⟨_, rfl, ?_⟩
      cases hem4 : (((tl (rep1 b "-" "")).filter fun c => !decide (c ∈ tl ("0123456789" : Str))).map fun c => (⟨#[c]⟩ : Str)).isEmpty with
      | false =>
        rw [if_pos (by rfl)]
        walk_at "r"
        refine k0 (fun u l c1 c2 c3 => ?_) _ (S3.trans S5)
        have g := (keyB u l c1 c2 c3 b hbm).1
        cases q : (tl (rep1 b "-" "")).filter fun c => !decide (c ∈ tl ("0123456789" : Str)) with
        | nil => rw [q] at hem4; cases hem4
        | cons c r =>
          have hm : c ∈ (tl (rep1 b "-" "")).filter fun c => !decide (c ∈ tl ("0123456789" : Str)) := by rw [q]; exact List.mem_cons_self
          have h2 := (List.mem_filter.mp hm).2
          rw [decide_eq_true ((dig c).mpr (g c (List.mem_filter.mp hm).1))] at h2
          cases h2
      | true =>
      rw [if_neg (by decide)]
      have alld : ∀ c ∈ tl (rep1 b "-" ""), 48 ≤ c ∧ c ≤ 57 := fun c hc => by
        have q := List.map_eq_nil_iff.mp (List.isEmpty_iff.mp hem4)
        have no := List.filter_eq_nil_iff.mp q c hc
        refine (dig c).mp (Decidable.byContradiction fun z => no ?_)
        rw [decide_eq_false z]
        rfl
      walk_at "r"
      refine ⟨"-", b, rfl, rfl, _, rfl, ?_⟩
      rw [show (!(Builtin.Str.occurrences b "-" 0 b.length 1).isEmpty) = decide (45 ∈ tl b) from by rw [minus_eq]; exact StrLaws.found_one b 45]
      have done : okBit b → ∀ i b', i < j + 1 → bs[i]? = some b' → okBit b' := fun g i b' hi hb' => by
        by_cases hij : i = j
        · subst hij
          rw [hb] at hb'
          cases hb'
          exact g
        · exact okj i b' (by omega) hb'
      have nb := nbad b hbm
      by_cases m : 45 ∈ tl b
      · rw [if_pos (decide_eq_true m)]
        obtain ⟨c, r, hcr⟩ : ∃ c r, tl b = c :: r := by
          cases q : tl b with
          | nil => exact absurd q nb.1
          | cons c r => exact ⟨c, r, rfl⟩
        walk_at "r"
        refine ⟨b, 0, c, rfl, rfl, by omega, ?_, ?_⟩
        · show atI (tl b) 0 = some c
          rw [hcr]
          exact atI_nat (j := 0) rfl
        walk_at "r"
        by_cases hc : c = 45
        · subst hc
          rw [if_neg (by decide +kernel)]
          walk_at "r"
          exact ⟨S5, ⟨_, rfl⟩, done ⟨alld, fun _ => by rw [hcr]; rfl, nb⟩⟩
        · rw [if_pos (by
            rw [decide_eq_false (fun z => ?_)]
            · rfl
            · injection z with z
              rw [minus_eq] at z
              injection z with z
              injection z with z
              injection z with z
              exact hc z)]
          walk_at "r"
          refine k0 (fun u l c1 c2 c3 => ?_) _ (S3.trans S5)
          have g := (keyB u l c1 c2 c3 b hbm).2.1 m
          rw [hcr] at g
          exact hc (by simpa using g)
      · rw [decide_eq_false m, if_neg Bool.false_ne_true]
        dsimp only
        rw [if_neg Bool.false_ne_true]
        walk_at "r"
        exact ⟨S5, ⟨_, rfl⟩, done ⟨alld, fun z => absurd z m, nb⟩⟩
    · rintro σ' H' ⟨e, ⟨v, rfl⟩, okj⟩
      have allok : ∀ b ∈ bs, okBit b := fun b hb => by
        obtain ⟨i, hi, hib⟩ := List.mem_iff_getElem.mp hb
        exact okj i b (by rw [List.length_map]; exact hi) (by rw [List.getElem?_eq_getElem hi, hib])
      have hp' : H' p = some (.lst (bs.map V.str)) := e _ _ h3
      have S' := S3.trans e
      have len0 : bs.length ≠ 0 := fun z => some_ (List.length_eq_zero_iff.mp z)
      with_reducible refine w_seq ?_
      with_reducible refine w_asg ?_
      with_reducible refine w_tup ?_
      refine w_cutA (fun vs G => G = H' ∧ ∃ n0 n1 : Int, vs = [.int n0, .int n1] ∧ Sz 140 n0 ∧ Sz 140 n1 ∧ ∀ u l, 0 < l → Int.gcd u l = 1 → txt u l = t → n0 = u ∧ n1 = l) (fun Q' all => ?_) ?_
      · have back : ∀ {z n : Int} {b : Str}, b = Str.ofString (toString z) → b ∈ bs → intText? b = some n → n = z := fun {z n b} e hb h => by
          have l1 := (sub b hb).2
          have l2 : b.length = (sg z).length := by rw [len_tl, e, tl_int]
          rw [e, int_back (by omega)] at h
          exact (Option.some.inj h).symm
        cases q : bs with
        | nil => exact absurd (by rw [q]; rfl) len0
        | cons b0 r =>
          have m0 : b0 ∈ bs := by rw [q]; exact List.mem_cons_self
          obtain ⟨n0, i0, z0⟩ := ok_int (allok b0 m0) (Nat.le_trans (sub b0 m0).2 hl)
          have l0 := (sub b0 m0).2
          cases r with
          | nil =>
            have hb1 : H' p = some (.lst [V.str b0]) := by rw [hp', q]; rfl
            walk_at "r"
            refine ⟨b0, n0, rfl, i0, by omega, ?_⟩
            walk_at "r"
            refine w_tIf ?_
            walk_at "r"
            refine w_lenL (SqL.of hb1) ?_
            walk_at "r"
            rw [if_neg (by simp)]
            walk_at "r"
            refine all _ _ ⟨rfl, n0, 1, rfl, z0, Sz.one, fun u l c1 c2 c3 => ?_⟩
            rcases key u l c1 c2 c3 with ⟨e1, e2⟩ | ⟨e1, e2⟩ <;> rw [q] at e2
            · injection e2 with e2 _
              exact ⟨back e2 m0 i0, e1.symm⟩
            · simp at e2
          | cons b1 r =>
            cases r with
            | cons b2 r =>
              rw [q] at c
              simp only [List.length_cons] at c
              omega
            | nil =>
              have m1 : b1 ∈ bs := by rw [q]; exact List.mem_cons_of_mem _ List.mem_cons_self
              have l1 := (sub b1 m1).2
              obtain ⟨n1, i1, z1⟩ := ok_int (allok b1 m1) (Nat.le_trans (sub b1 m1).2 hl)
              have hb1 : H' p = some (.lst [V.str b0, V.str b1]) := by rw [hp', q]; rfl
              walk_at "r"
              refine ⟨b0, n0, rfl, i0, by omega, ?_⟩
              walk_at "r"
              refine w_tIf ?_
              walk_at "r"
              refine w_lenL (SqL.of hb1) ?_
              walk_at "r"
              rw [if_pos (by simp)]
              walk_at "r"
              refine ⟨b1, n1, rfl, i1, by omega, ?_⟩
              walk_at "r"
              refine all _ _ ⟨rfl, n0, n1, rfl, z0, z1, fun u l c1 c2 c3 => ?_⟩
              rcases key u l c1 c2 c3 with ⟨e1, e2⟩ | ⟨e1, e2⟩ <;> rw [q] at e2
              · simp at e2
              · injection e2 with e2 e3
                injection e3 with e3 _
                exact ⟨back e2 m0 i0, back e3 m1 i1⟩
      · rintro vs G ⟨rfl, n0, n1, rfl, z0, z1, kn⟩
        refine w_newT (by show 2 ≤ 100000; decide) fun q6 H6 n6 e6 i6 => ?_
        walk_at "r"
        have S6 := S'.trans e6
        have free6 : H q6 = none := by
          cases z : H q6 with
          | none => rfl
          | some o => have w := S' _ _ z; rw [n6] at w; cases w
        refine w_iteD (fun c1 => ?_) (fun c1 => ?_)
        · rw [if_pos rfl]
          walk_at "r"
          refine k0 (fun u l d1 d2 d3 => ?_) _ S6
          have := (kn u l d1 d2 d3).2
          omega
        walk_at "r"
        refine low_leaf (by omega) (z0.mono (by decide)) (z1.mono (by decide)) fun q7 H7 x y n7 e7 i7 m7 => ?_
        walk_at "r"
        refine ne2 i7 (e7 _ _ i6) ?_
        walk_at "r"
        by_cases c2 : x = n0 ∧ y = n1
        · obtain ⟨rfl, rfl⟩ := c2
          rw [if_neg (by simp)]
          walk_at "r"
          refine ⟨q6, x, y, rfl, e7 _ _ i6, shown_of z0, shown_of z1, Nat.le_trans (txt_len z0 z1) (by decide), ?_⟩
          walk_at "r"
          by_cases c3 : txt x y = t
          · rw [if_neg (by simp [c3])]
            walk_at "r"
            exact k1 x y (by omega) m7.cop c3 q6 H7 free6 (S6.trans e7) (e7 _ _ i6)
          · rw [if_pos (by simp [c3])]
            walk_at "r"
            refine k0 (fun u l d1 d2 d3 => ?_) _ (S6.trans e7)
            obtain ⟨rfl, rfl⟩ := kn u l d1 d2 d3
            exact c3 d3
        · rw [if_pos (by
            rw [Bool.not_eq_true', Bool.and_eq_false_iff, decide_eq_false_iff_not, decide_eq_false_iff_not]
            by_cases z : x = n0
            · exact .inr fun w => c2 ⟨z, w⟩
            · exact .inl z), if_pos rfl]
          walk_at "r"
          refine k0 (fun u l d1 d2 d3 => ?_) _ (S6.trans e7)
          obtain ⟨rfl, rfl⟩ := kn u l d1 d2 d3
          exact c2 (m7.uniq ⟨d1, d2, rfl⟩ (by omega) (by omega) rfl)
end
end RK3


namespace RK3
open PySem PySem.Spec L2 RK TL LamX
section
variable {P : Program} {w : World} {K : PySem.W.Frag} {mg : Str → Option Value} {base : Heap} {a : Ad}
theorem kb_Ratio_read (T : Txt K mg a) : KBn K a.d_Ratio_read ["text"] 0 ["text"] (fun us ws => us ++ ws) (fun vs zs => vs ++ zs) := by
  obtain ⟨oc, od, kV, doc, pm, an, cdv, ct, osl, e, _⟩ := T.F_Ratio_read.ex
  rw [e]
  exact ⟨fun s us ws _ h1 h2 => match us, ws, h1, h2 with | [], [_], _, _ => .of_eq rfl, fun r1 r2 => r1.append r2⟩
/-! ### texts -/
theorem ok_iff {x : Str} : PyData.strOk x = true ↔ ∀ c ∈ tl x, c < 0x110000 := by
  show x.cps.all (· < 0x110000) = true ↔ _
  rw [← Array.all_toList, List.all_eq_true]
  exact forall_congr' fun c => forall_congr' fun _ => decide_eq_true_iff
def Asc (x : Str) : Prop := ∀ c ∈ tl x, c < 128
theorem asc_ok {x : Str} (h : Asc x) : PyData.strOk x = true := ok_iff.mpr fun c hc => Nat.lt_of_lt_of_le (h c hc) (by decide)
theorem ok_app {x y : Str} (hx : Asc x) (hy : Asc y) : Asc (x ++ y) := fun c hc => by
  rw [tl_append] at hc
  rcases List.mem_append.mp hc with h | h
  · exact hx c h
  · exact hy c h
theorem ok_cut {z : Str} (h : Asc z) (lo hi : Option Int) : Asc (cutS z lo hi) := fun c hc => h c (List.mem_of_mem_drop (List.mem_of_mem_take hc))
theorem ok_sgs (z : Int) : Asc (Str.ofString (toString z)) := fun c hc => by
  rw [tl_int] at hc
  unfold sg at hc
  split at hc
  · rcases List.mem_cons.mp hc with rfl | hc
    · decide
    · have := numL_digits _ c hc
      omega
  · have := numL_digits _ c hc
    omega
theorem asc_by {x : Str} (h : x.cps.toList.all (fun c => decide (c < 128)) = true) : Asc x := fun c hc => of_decide_eq_true (List.all_eq_true.mp h c hc)
theorem ok_txt (t b : Int) : Asc (txt t b) := by
  unfold txt
  split
  · exact ok_sgs t
  · exact ok_app (ok_app (ok_sgs t) (asc_by (by decide +kernel))) (ok_sgs b)
theorem char_ok : ∀ c : Nat, c < 128 → (Builtin.Str.reprChar 34 c).all (fun d => decide (d < 128)) = true ∧ (Builtin.Str.reprChar 39 c).all (fun d => decide (d < 128)) = true := by decide +kernel
theorem fold_ok (q : Nat) (hq : q = 34 ∨ q = 39) : ∀ (l : List Nat) (acc : Array Nat), (∀ c ∈ l, c < 128) → (∀ c ∈ acc.toList, c < 128) → ∀ c ∈ (l.foldl (fun out c => out ++ (Builtin.Str.reprChar q c).toArray) acc).toList, c < 128
  | [], acc, _, h => h
  | d :: r, acc, hl, h => by
    rw [List.foldl_cons]
    refine fold_ok q hq r _ (fun c hc => hl c (List.mem_cons_of_mem _ hc)) fun c hc => ?_
    rw [Array.toList_append] at hc
    rcases List.mem_append.mp hc with z | z
    · exact h c z
    · have w := char_ok d (hl d List.mem_cons_self)
      have z : c ∈ Builtin.Str.reprChar q d := z
      rcases hq with rfl | rfl
      · exact of_decide_eq_true (List.all_eq_true.mp w.1 c z)
      · exact of_decide_eq_true (List.all_eq_true.mp w.2 c z)
theorem asc_repr {x : Str} (h : Asc x) : Asc (reprText x) := fun c hc => by
  have hq : reprQuote x = 34 ∨ reprQuote x = 39 := by
    unfold reprQuote
    split
    · exact .inl rfl
    · exact .inr rfl
  unfold reprText at hc
  have hc : c ∈ ((x.cps.foldl (fun out c => out ++ (Builtin.Str.reprChar (reprQuote x) c).toArray) #[reprQuote x]).push (reprQuote x)).toList := hc
  rw [Array.toList_push, List.mem_append, ← Array.foldl_toList] at hc
  have q128 : reprQuote x < 128 := by rcases hq with e | e <;> rw [e] <;> decide
  rcases hc with hc | hc
  · exact fold_ok _ hq _ _ h (fun d hd => by have : d ∈ [reprQuote x] := hd; rw [List.mem_singleton.mp this]; exact q128) c hc
  · rw [List.mem_singleton.mp hc]
    exact q128
theorem shown_str (x : Str) : PyData.shown (.str x) = reprText x := by unfold PyData.shown; rfl
theorem line_len {t b : Int} (h : t.natAbs < 10 ^ 9) (h2 : b.natAbs < 10 ^ 2) (h0 : 0 < b) : (txt t b).length ≤ 13 := by
  have l : ∀ z : Int, (Str.ofString (toString z)).length = (sg z).length := fun z => by rw [len_tl, tl_int]
  have a1 := numL_len (n := t.natAbs) (k := 9) (by decide) h
  have a2 := numL_len (n := b.natAbs) (k := 2) (by decide) h2
  have b1 : (sg t).length ≤ 10 := by
    unfold sg
    split
    · rw [List.length_cons]
      omega
    · omega
  have b2 : (sg b).length ≤ 2 := by
    unfold sg
    rw [if_neg (by omega)]
    exact a2
  unfold txt
  split
  · rw [l]
    omega
  · rw [Str.length_append, Str.length_append, l, l]
    show (sg t).length + 1 + (sg b).length ≤ 13
    omega
theorem repr_len {t : Str} (ok : PyData.strOk t = true) (hl : t.length ≤ 1000) : (PyData.shown (.str t)).length ≤ sizeLine := by
  have z := StrLaws.reprText_len t fun c hc => by have := ok_iff.mp ok c hc; omega
  have e : PyData.shown (.str t) = reprText t := by unfold PyData.shown; rfl
  rw [e]
  have : 20000 ≤ sizeLine := by decide
  omega
theorem repr_str {H : Hp} {Q : VK} {t : Str} (ok : PyData.strOk t = true) (hl : t.length ≤ 1000) (q : Q (.str (PyData.shown (.str t))) H) : rReprD K [.str t] H Q := ⟨.str t, .str t, rfl, .str t, rfl, rfl, by show (0 : Nat) < 60; decide, repr_len ok hl, q⟩
/-! ### leaves -/
theorem bag_ne {H : Hp} {b l : Addr} (hb : Bag H b) (n : H l = none) : l ≠ b := fun z => by
  obtain ⟨f, s, m, h⟩ := hb
  rw [z, h] at n
  cases n
theorem draw_leaf {H : Hp} {Q : VK} {E : XK} {b : Addr} {n : Int} (hb : Bag H b) (h0 : 0 < n) (h1 : n < 1073741824) (k : ∀ r H', 0 ≤ r → r < n → Kp b H H' → Q (.int r) H') : spDraw [.ref b, .int n] H Q E := ⟨b, n, rfl, hb, h0, h1, k⟩
theorem one_leaf {H : Hp} {Q : VK} {E : XK} {b l : Addr} {xs : List V} (hb : Bag H b) (hl : H l = some (.lst xs)) (ne : l ≠ b) (h0 : 0 < xs.length) (h1 : xs.length < 1000) (k : ∀ v H', v ∈ xs → Kp b H H' → Q v H') : spOne [.ref b, .ref l] H Q E := ⟨b, l, xs, rfl, hb, hl, ne, h0, h1, k⟩
theorem str_leaf {C : Addr} {H : Hp} {Q : VK} {p : Addr} {t b : Int} (r : Rat C H p t b) (s1 : Shown t) (s2 : Shown b) (hl : (txt t b).length ≤ 2000) (q : Q (.str (txt t b)) H) : rStrO C (spStr C) E0 [.ref p] H Q := by
  obtain ⟨dx, ob⟩ := r.ob
  exact ⟨p, dx, _, rfl, ob, p, t, b, rfl, r, s1, s2, hl, _, rfl, q⟩
/-- the read-back of what is written -/
theorem read_leaf {C CI : Addr} {H : Hp} {Q : VK} {E : XK} {t b : Int} (hb : 0 < b) (hc : Int.gcd t b = 1) (s1 : Shown t) (s2 : Shown b) (hl : (txt t b).length ≤ 500) (l1 : (sg t).length ≤ 600) (l2 : (sg b).length ≤ 600) (k : ∀ p H', H p = none → Same H H' → Rat C H' p t b → Q (.ref p) H') : spRead K C CI [.str (txt t b)] H Q E := by
  refine ⟨_, rfl, .inl ⟨txt t b, t, b, rfl, by omega, told_txt hb l1 l2, fun m n nm => ?_⟩⟩
  obtain ⟨rfl, rfl⟩ := nm.uniq ⟨hb, hc, rfl⟩ (by omega) (by omega) rfl
  exact ⟨s1, s2, by omega, .inl ⟨rfl, k⟩⟩
/-- what told's clause wishes of an error -/
def ErrT (K : PySem.W.Frag) (c1 c2 c3 : Value) (spS : Sp) (Q : VK) : XK := fun cls d H' => ∃ b, exm3 K cls c1 c2 c3 = some b ∧
  (b = true → ∀ a oe, H' a = none → Zc cls d oe → (∃ vs, oe.data = .fields vs) → spS [.ref a] (upd H' a (ExE oe a)) (fun v H2 => H2 a = some (ExE oe a) ∧ Q v (delH H2 a)) C8.E0) ∧ (b = false → False)
theorem t3 {K : PySem.W.Frag} {c1 c2 c3 : Value} {spS : Sp} {word : Str} {tl : XK → Hp → VK → Prop} {H : Hp} {Q : VK} (h : tl (ErrT K c1 c2 c3 spS Q) H fun v H' => ∀ p, H' p = none → Q (.ref p) (upd H' p (.lst [.str word, v]))) : TTold3 K c1 c2 c3 spS word tl H Q := h
/-- what told makes of an error whose value is data -/
theorem told_err (T : Txt K mg a) {H : Hp} {Q : VK} {x : V} {d : PyData} {dd : Addr} (hd : H dd = some (.xd [("value", x)])) (hD : ∀ H', Same H H' → Dp K H' x d) (h1 : d.showable = true) (h2 : d.hasDict = false) (h3 : d.depth < 60) (h4 : d.shown.length ≤ sizeLine)
    (k : ∀ p H', H p = none → Same H H' → H' p = some (.lst [.str "InvalidText", .str d.shown]) → Q (.ref p) H') :
    ErrT K (.ref a.C_ShapeError) (.ref a.C_QuestionError) (.ref a.C_SizeError) (spSort K a.C_InvalidText) Q (.ref a.C_InvalidText) (some dd) H := by
  refine ⟨true, T.exm, fun _ e oe he hz hf => ?_, fun z => by cases z⟩
  have ed : dd ≠ e := fun z => by rw [z, he] at hd; cases hd
  have s0 : Same H (upd H e (ExE oe e)) := w_new he
  refine ⟨e, x, d, rfl, ⟨oe, dd, upd_same, hz, hf, s0 _ _ hd⟩, fun H' s => hD H' (s0.trans s), h1, h2, h3, h4, fun p H' np s hp => ⟨s _ _ upd_same, ?_⟩⟩
  have pe : p ≠ e := fun z => by rw [z, upd_same] at np; cases np
  refine k p _ (by rw [upd_ne pe] at np; exact np) (fun c o h => ?_) (by rw [delH_ne pe]; exact hp)
  have ce : c ≠ e := fun z => by rw [z, he] at h; cases h
  rw [delH_ne ce]
  exact s _ _ (s0 _ _ h)
theorem shaped3 {L : Str} (h : PyData.strOk L = true) : SeqAt.shaped (.list [.str L, .str L, .bool true]) = true := by
  unfold SeqAt.shaped PyData.canLay0 PyData.depth
  simp only [PyData.canLayAll0, PyData.canLay0, PyData.depthAll, PyData.depth, h]
  rfl
theorem shaped2 {L M : Str} (h : PyData.strOk L = true) (h2 : PyData.strOk M = true) : SeqAt.shaped (.list [.str L, .str M]) = true := by
  unfold SeqAt.shaped PyData.canLay0 PyData.depth
  simp only [PyData.canLayAll0, PyData.canLay0, PyData.depthAll, PyData.depth, h, h2]
  rfl
theorem dg_sz {t : Str} (h : dg t = true) (hl : t.length ≤ 40) : ∃ n : Nat, intText? t = some (n : Int) ∧ Sz 140 (n : Int) := by
  obtain ⟨h1, h2⟩ := dg_all h
  have l : t.length = (tl t).length := len_tl t
  refine ⟨_, PySem.intText_digits h1 h2 (by omega), ?_⟩
  have v := val_lt h1 (show (tl t).length ≤ 40 by omega)
  unfold Sz
  rw [Int.natAbs_natCast]
  exact v
theorem pre_sz {t : Str} (h : dg (Txt.removeprefix t "-") = true) (hl : t.length ≤ 40) : ∃ n : Int, intText? t = some n ∧ Sz 140 n := by
  rw [StrLaws.removeprefix_eq] at h
  split at h
  · rename_i c
    have c2 := (Bool.and_eq_true_iff.mp c).2
    rw [StrLaws.subAt_eq, List.drop_zero] at c2
    have c3 : t.cps.toList.take 1 = [45] := beq_iff_eq.mp c2
    cases e : t.cps.toList with
    | nil => rw [e] at c3; cases c3
    | cons d cs =>
      rw [e] at c3
      obtain rfl : d = 45 := by simpa using c3
      obtain ⟨h1, h2⟩ := dg_all h
      have el : t.cps.toList.length = t.length := Array.length_toList
      have e2 : ((t.cps.toList.drop 1).take (t.length - 1)).toArray.toList = cs := by
        rw [← el, e]
        simp
      have e3 : ((⟨((t.cps.toList.drop ("-" : Str).length).take (t.length - ("-" : Str).length)).toArray⟩ : Str)).cps.toList = cs := e2
      rw [e3] at h1 h2
      have lc : cs.length ≤ 40 := by
        rw [e, List.length_cons] at el
        omega
      refine ⟨_, PySem.intText_neg e h1 h2 (by omega), ?_⟩
      have v := val_lt h1 lc
      unfold Sz
      rw [Int.natAbs_neg, Int.natAbs_natCast]
      exact v
  · obtain ⟨n, h1, h2⟩ := dg_sz h hl
    exact ⟨_, h1, h2⟩
theorem told_sz {t : Str} {u l : Int} (h : told? t = some (u, l)) (hl : t.length ≤ 39) : Sz 140 u ∧ Sz 140 l ∧ l ≠ 0 := by
  unfold told? at h
  split at h
  · rename_i g
    obtain ⟨g1, g2⟩ := Bool.and_eq_true_iff.mp g
    have c1 := cut_len t
    obtain ⟨n1, i1, z1⟩ := pre_sz g1 (by omega)
    have ll : (low t).length ≤ 40 := by
      unfold low
      split
      · decide
      · omega
    obtain ⟨n2, i2, z2⟩ := dg_sz g2 ll
    rw [i1, Option.bind_some, i2, Option.bind_some] at h
    split at h
    · cases h
    · rename_i ne
      cases h
      exact ⟨z1, z2, ne⟩
  · cases h
theorem read_bad {C CI : Addr} {H : Hp} {Q : VK} {E : XK} {t : Str} (ht : t.length ≤ 39) (no : ∀ u l, 0 < l → Int.gcd u l = 1 → txt u l ≠ t) (k : ∀ d H', Same H H' → H' d = some (.xd [("value", .str t)]) → E (.ref CI) (some d) H') : spRead K C CI [.str t] H Q E := by
  refine ⟨_, rfl, ?_⟩
  cases hq : told? t with
  | none => exact .inr (.inl ⟨t, rfl, by omega, hq, k⟩)
  | some q =>
    obtain ⟨u, l⟩ := q
    obtain ⟨z1, z2, ne⟩ := told_sz hq ht
    refine .inl ⟨t, u, l, rfl, by omega, hq, fun m n nm => ?_⟩
    obtain ⟨b1, b2⟩ := nm.le ne
    have w1 : Sz 140 m := z1.le b2
    have w2 : Sz 140 n := z2.le b1
    exact ⟨shown_of w1, shown_of w2, Nat.le_trans (txt_len w1 w2) (by decide), .inr ⟨no m n nm.pos nm.cop, k⟩⟩
theorem sg_sz {z : Int} (h : (sg z).length ≤ 40) : Sz 140 z := by
  have key : (numL z.natAbs).length ≤ 40 := by
    unfold sg at h
    split at h
    · rw [List.length_cons] at h
      omega
    · exact h
  have v := val_lt (numL_digits z.natAbs) key
  rw [numL_val] at v
  exact v
theorem txt_sz {u l : Int} (h : (txt u l).length ≤ 40) : (sg u).length ≤ 40 ∧ (sg l).length ≤ 40 := by
  have e : ∀ z : Int, (Str.ofString (toString z)).length = (sg z).length := fun z => by rw [len_tl, tl_int]
  unfold txt at h
  split at h
  · rename_i c
    rw [e] at h
    refine ⟨h, ?_⟩
    rw [c]
    decide +kernel
  · rw [Str.length_append, Str.length_append, e, e] at h
    omega
/-! ### the odd ones -/
def badB (t : Str) : Bool := match told? t with
  | none => true
  | some (u, l) => !decide (Int.gcd u l = 1) || !decide (txt u l = t)
theorem no_by {t : Str} (h : badB t = true) (hl : t.length ≤ 40) : ∀ u l, 0 < l → Int.gcd u l = 1 → txt u l ≠ t := fun u l h0 h1 e => by
  obtain ⟨b1, b2⟩ := txt_sz (u := u) (l := l) (by rw [e]; exact hl)
  have z := told_txt h0 (t := u) (b := l) (by omega) (by omega)
  rw [e] at z
  unfold badB at h
  rw [z] at h
  simp only [h1, e, decide_true, Bool.not_true, Bool.or_self] at h
  cases h
/-- a value that is read by no one, its text -/
structure Odd (K : PySem.W.Frag) (H : Hp) (x : V) (d : PyData) : Prop where
  dp : ∀ H', ExtN H H' → Dp K H' x d
  sh : d.showable = true
  nd : d.hasDict = false
  dep : d.depth < 60
  len : d.shown.length ≤ sizeLine
  asc : Asc d.shown
  rd : ∀ {C CI : Addr} {H' : Hp} {Q : VK} {E : XK}, ExtN H H' → (∀ dd H'', Same H' H'' → H'' dd = some (.xd [("value", x)]) → E (.ref CI) (some dd) H'') → spRead K C CI [x] H' Q E
theorem odd_str {H : Hp} {t : Str} (ht : t.length ≤ 39) (ha : Asc t) (hb : badB t = true) : Odd K H (.str t) (.str t) := ⟨fun _ _ => .str t, rfl, rfl, by show (0 : Nat) < 60; decide, repr_len (asc_ok ha) (by omega), by rw [shown_str]; exact asc_repr ha, fun _ k => read_bad ht (no_by hb (by omega)) k⟩
theorem odd_any {H : Hp} {x : V} {d : PyData} (h1 : ∀ H', ExtN H H' → Dp K H' x d) (h2 : d.showable = true) (h3 : d.hasDict = false) (h4 : d.depth < 60) (h5 : d.shown.length ≤ 1000) (h6 : d.shown.cps.toList.all (fun c => decide (c < 128)) = true) (ty : ∀ H', ExtN H H' → ∃ t, TyX K H' x t ∧ PySem.W.kitOne K t (.type "str") = some false) : Odd K H x d :=
  ⟨h1, h2, h3, h4, Nat.le_trans h5 (by decide), asc_by h6, fun e k => let ⟨t, a, b⟩ := ty _ e; ⟨x, rfl, .inr (.inr ⟨t, a, b, k⟩)⟩⟩
theorem ext_tup {H H' : Hp} {p : Addr} {xs : List V} (e : ExtN H H') (h : H p = some (.tup xs)) : H' p = some (.tup xs) := e _ _ h fun ps z => by cases z
theorem ext_lst {H H' : Hp} {p : Addr} {xs : List V} (e : ExtN H H') (h : H p = some (.lst xs)) : H' p = some (.lst xs) := e _ _ h fun ps z => by cases z
theorem odd_all {H : Hp} {v : V} {p q : Addr} (hp : H p = some (.tup [.str "1"])) (hq : H q = some (.lst []))
    (hv : v ∈ [V.non, V.int 3, V.str "", V.str "-", V.str "/", V.str "1/", V.str "/2", V.str "0/3", V.str "2/4", V.str "3/1", V.str "1/0"] ++ [V.str "-0", V.str "+1", V.str " 1", V.str "1/-2", V.ref p, V.ref q]) : ∃ d, Odd K H v d := by
  simp only [List.cons_append, List.nil_append, List.mem_cons, List.not_mem_nil, or_false] at hv
  rcases hv with rfl | rfl | rfl | rfl | rfl | rfl | rfl | rfl | rfl | rfl | rfl | rfl | rfl | rfl | rfl | rfl | rfl
  · exact ⟨.none, odd_any (fun _ _ => .non) rfl rfl (by decide) (by decide +kernel) (by decide +kernel) fun _ _ => ⟨_, .base .non, kit_ty (by decide +kernel)⟩⟩
  · exact ⟨.int 3, odd_any (fun _ _ => .int 3) rfl rfl (by decide) (by decide +kernel) (by decide +kernel) fun _ _ => ⟨_, .base (.int 3), kit_ty (by decide +kernel)⟩⟩
  · exact ⟨_, odd_str (by decide) (asc_by (by decide +kernel)) (by decide +kernel)⟩
  · exact ⟨_, odd_str (by decide) (asc_by (by decide +kernel)) (by decide +kernel)⟩
  · exact ⟨_, odd_str (by decide) (asc_by (by decide +kernel)) (by decide +kernel)⟩
  · exact ⟨_, odd_str (by decide) (asc_by (by decide +kernel)) (by decide +kernel)⟩
  · exact ⟨_, odd_str (by decide) (asc_by (by decide +kernel)) (by decide +kernel)⟩
  · exact ⟨_, odd_str (by decide) (asc_by (by decide +kernel)) (by decide +kernel)⟩
  · exact ⟨_, odd_str (by decide) (asc_by (by decide +kernel)) (by decide +kernel)⟩
  · exact ⟨_, odd_str (by decide) (asc_by (by decide +kernel)) (by decide +kernel)⟩
  · exact ⟨_, odd_str (by decide) (asc_by (by decide +kernel)) (by decide +kernel)⟩
  · exact ⟨_, odd_str (by decide) (asc_by (by decide +kernel)) (by decide +kernel)⟩
  · exact ⟨_, odd_str (by decide) (asc_by (by decide +kernel)) (by decide +kernel)⟩
  · exact ⟨_, odd_str (by decide) (asc_by (by decide +kernel)) (by decide +kernel)⟩
  · exact ⟨_, odd_str (by decide) (asc_by (by decide +kernel)) (by decide +kernel)⟩
  · exact ⟨.tuple [.str "1"], odd_any (fun _ e => .tup (SqT.of (ext_tup e hp)) (.cons (.str _) .nil)) rfl rfl (by decide) (by decide +kernel) (by decide +kernel) fun _ e => ⟨_, .base (.tup (ext_tup e hp)), kit_ty (by decide +kernel)⟩⟩
  · exact ⟨.list [], odd_any (fun _ e => .lst (SqL.of (ext_lst e hq)) .nil) rfl rfl (by decide) (by decide +kernel) (by decide +kernel) fun _ e => ⟨_, .base (.lst (ext_lst e hq)), kit_ty (by decide +kernel)⟩⟩
end
end RK3


namespace RK3
open PySem PySem.Spec L2 RK TL LamX
section
variable {P : Program} {w : World} {K : PySem.W.Frag} {mg : Str → Option Value} {base : Heap} {a : Ad}
def TLr (Pt : Addr) : List (Addr × Str) := [(Pt, (("_law_right" : Str) ++ ".<locals>.") ++ "<lambda>")]
def spRight (TT : List (Addr × Str)) : Sp := fun vs H Q _ => ∃ b, vs = [.ref b] ∧ Bag H b ∧ Tabs TT H ∧ ∀ H', Kb TT b H H' → Q (.bl true) H'
theorem ok_right (T : Txt K mg a) {cR Pt : Addr} (hc : a.d_right.code = .ref cR) (TB : TabB base mg cR Pt) : FnOkG P w K mg base CX0 13 a.f_right a.d_right ["_law_bag_here"] (spRight (TLr Pt)) := by
  obtain ⟨oc, od, kV, doc, pm, an, cdv0, ct, osl, ed, lk0, hcT⟩ := T.F_told.ex
  have lkT := lk0
  rw [ed] at lkT
  have bT := T.b_told
  rw [ed] at bT
  obtain ⟨pR, st_Ratio_read⟩ := T.sm_Ratio_read
  refine funGc T.F_right sc_right (fun vs H Q E h => ?_) (fun cdv A outer s H vs Q E hcode0 hG hr h => ?_)
  · obtain ⟨b, rfl, _⟩ := h
    rfl
  · obtain ⟨b, rfl, hb, hT, k⟩ := h
    obtain rfl : cdv = .ref cR := by rw [← hcode0]; exact hc
    have hcode : Value.ref cR = Value.ref cR := rfl
    have hmT : (Pt, (("_law_right" : Str) ++ ".<locals>.") ++ "<lambda>") ∈ TLr Pt := List.mem_singleton.mpr rfl
    have huT : ∀ p ∈ TLr Pt, p.1 = Pt → p.2 = (("_law_right" : Str) ++ ".<locals>.") ++ "<lambda>" := fun p hp _ => by rw [List.mem_singleton.mp hp]
    generalize hTL : TLr Pt = TL at *
    refine ⟨_, PSs.nox ((pss_cons (ps_for PassesOwn.never rfl (pi_range1 (by rfl) T.z_range (pa_cons pe_int pa_nil)) (pg_name (i := 1) sc_right.nd rfl (Or.inl rfl)) (pss_cons (ps_set (i := 2) sc_right.nd rfl (Or.inl rfl) (pe_op op_mulW (pe_call (ok_one T) (hr.mono (by decide)) (by rfl) T.m_one T.F_one.kp T.b_one .nil pass0 (pa_cons (pv 0) (pa_cons (pe_lst (pa_cons pe_int (pa_cons pe_int (pa_cons (pe_call (ok_draw T) (hr.mono (by decide)) (by rfl) T.m_draw T.F_draw.kp T.b_draw .nil pass0 (pa_cons (pv 0) (pa_cons pe_int pa_nil))) (pa_cons (pe_call (ok_draw T) (hr.mono (by decide)) (by rfl) T.m_draw T.F_draw.kp T.b_draw .nil pass0 (pa_cons (pv 0) (pa_cons (pe_op op_pow pe_int pe_int) pa_nil))) pa_nil))))) pa_nil))) (pe_call (ok_one T) (hr.mono (by decide)) (by rfl) T.m_one T.F_one.kp T.b_one .nil pass0 (pa_cons (pv 0) (pa_cons (pe_lst (pa_cons pe_int (pa_cons (pe_op op_sub pe_int pe_int) pa_nil))) pa_nil)))))
      (pss_cons (ps_set (i := 3) sc_right.nd rfl (Or.inl rfl) (pe_call (ok_lowest T) (hr.mono (by decide)) (by rfl) T.m_lowest T.F_lowest.kp T.b_lowest .nil pass0 (pa_cons (pv 2) (pa_cons (pe_op op_add pe_int (pe_call (ok_draw T) (hr.mono (by decide)) (by rfl) T.m_draw T.F_draw.kp T.b_draw .nil pass0 (pa_cons (pv 0) (pa_cons pe_int pa_nil)))) pa_nil))))
      (pss_cons (ps_set (i := 4) sc_right.nd rfl (Or.inr rfl) (pe_call (ok_written T) (hr.mono (by decide)) (by rfl) T.m_written T.F_written.kp T.b_written .nil pass0 (pa_cons (pv 3) pa_nil)))
      (pss_cons (ps_set (i := 5) sc_right.nd rfl (Or.inl rfl) (pe_make T.mk_Ratio (ok_Ratio_init T) (hr.mono (by decide)) (by rfl) T.m_Ratio (bd_Ratio T) .nil pass0 (pa_cons (pe_ix ix_tup (pv 3) pe_int (fun _ _ => rfl)) (pa_cons (pe_ix ix_tup (pv 3) pe_int (fun _ _ => rfl)) pa_nil))))
      (pss_cons (ps_if (pt_cmpR (op_neD hr.units) (pe_lst (pa_cons (pe_callTy (cr_strO T.me_Ratio_str.at_ T.me_Ratio_str.fn (ok_Ratio_str T) (hr.mono (by decide)) T.b_Ratio_str pass0) (by rfl) T.z_str (by decide +kernel) (pa_cons (pv 5) pa_nil)) (pa_cons (pe_callTy (cr_strO T.me_Ratio_str.at_ T.me_Ratio_str.fn (ok_Ratio_str T) (hr.mono (by decide)) T.b_Ratio_str pass0) (by rfl) T.z_str (by decide +kernel) (pa_cons (pe_smeth (pe_glob (v := .ref a.C_Ratio) rfl T.m_Ratio rfl) st_Ratio_read (ok_Ratio_read T) (hr.mono (by decide)) T.b_Ratio_read (passL : Passes _ _ E0) (pa_cons (pv 4) pa_nil)) pa_nil)) (pa_cons (pe_cmpR (oEqqq T (hr.mono (by decide))) (pe_smethK (pe_glob (v := .ref a.C_Ratio) rfl T.m_Ratio rfl) st_Ratio_read (ok_Ratio_read T) (hr.mono (by decide)) (kb_Ratio_read T) (passL : Passes _ _ E0) (pk_cons (pv 4) pk_nil)) (pv 5) (nomark _)) pa_nil)))) (pe_lst (pa_cons (pv 4) (pa_cons (pv 4) (pa_cons pe_bl pa_nil)))) (nomark _)) (pss_one (ps_ret pe_bl)) pss_nil)
      (pss_cons (ps_par (i := 6) (j := 7) (by rfl) sc_right.nd rfl rfl (by decide) rfl rfl (pa_cons (pe_call (ok_draw T) (hr.mono (by decide)) (by rfl) T.m_draw T.F_draw.kp T.b_draw .nil pass0 (pa_cons (pv 0) (pa_cons (pe_op op_add (pe_callB cr_len (by rfl) T.z_len PySem.boot_len (pa_cons (pv 4) pa_nil)) pe_int) pa_nil))) (pa_cons (pe_call (ok_one T) (hr.mono (by decide)) (by rfl) T.m_one T.F_one.kp T.b_one .nil pass0 (pa_cons (pv 0) (pa_cons (pe_lst (pa_cons pe_str (pa_cons pe_str (pa_cons pe_str (pa_cons pe_str (pa_cons pe_str (pa_cons pe_str (pa_cons pe_str (pa_cons pe_str (pa_cons pe_str pa_nil)))))))))) pa_nil))) pa_nil)) (by rfl))
      (pss_cons (ps_set (i := 8) sc_right.nd rfl (Or.inl rfl) (pe_lst (pa_cons (pe_op op_add_str (pe_op op_add_str (pe_slice sl_str (pv 4) po_none (po_some (pv 6))) (pv 7)) (pe_slice sl_str (pv 4) (po_some (pv 6)) po_none)) (pa_cons (pe_op op_add_str (pe_slice sl_str (pv 4) po_none (po_some (pv 6))) (pe_slice sl_str (pv 4) (po_some (pe_op op_add (pv 6) pe_int)) po_none)) (pa_cons (pe_op op_add_str (pe_op op_add_str (pe_slice sl_str (pv 4) po_none (po_some (pv 6))) (pv 7)) (pe_slice sl_str (pv 4) (po_some (pe_op op_add (pv 6) pe_int)) po_none)) pa_nil)))))
      (pss_cons (ps_set (i := 4) sc_right.nd rfl (Or.inr rfl) (pe_call (ok_one T) (hr.mono (by decide)) (by rfl) T.m_one T.F_one.kp T.b_one .nil pass0 (pa_cons (pv 0) (pa_cons (pv 8) pa_nil))))
      (pss_cons (ps_set (i := 9) sc_right.nd rfl (Or.inl rfl) (pe_call (ok_read T) (hr.mono (by decide)) (by rfl) T.m_read T.F_read.kp T.b_read .nil pass0 (pa_cons (pv 4) pa_nil)))
      (pss_cons (ps_set (i := 10) sc_right.nd rfl (Or.inl rfl) (pe_lamcall (T := TL) (k := 8) (by rfl) T.m_told T.F_told.kp lkT hcT bT sc_told rfl (Or.inl rfl) (told_gives3 hG (hr.mono (by decide)) (ok_sort T) sc_told rfl rfl rfl rfl T.m_ShapeError T.m_QuestionError T.m_SizeError T.m_sort T.F_sort.kp T.b_sort rfl rfl (by decide +kernel) (by decide +kernel) (by decide +kernel) (by decide +kernel) (by decide +kernel) (by decide +kernel) (by decide +kernel) (by decide +kernel)) TB hcode hmT huT (hr.mono (by decide)) (lamS_by (sc := defScope s_right) (by decide +kernel)) rfl (fun _ _ _ _ _ => rfl) (fun A outer s H E f c_ hr => (pe_callTy (cr_strO T.me_Ratio_str.at_ T.me_Ratio_str.fn (ok_Ratio_str T) (hr.mono (by decide)) T.b_Ratio_str pass0) (by rfl) T.z_str (by decide +kernel) (pa_cons (pe_smeth (pe_glob (v := .ref a.C_Ratio) rfl T.m_Ratio rfl) st_Ratio_read (ok_Ratio_read T) (hr.mono (by decide)) T.b_Ratio_read (passes_call (takes_of rfl rfl rfl rfl) fun _ _ _ _ h => h) (pa_cons (pv 4) pa_nil)) pa_nil)))))
      (pss_one (ps_if (pt_cmpR (op_neD hr.units) (pv 10) (pe_ifExp (pt_cmpR op_isN (pv 9) pe_non (nomark _)) (pe_lst (pa_cons pe_str (pa_cons (pe_callB (cr_reprD hG hr.units) (by rfl) T.z_repr (by decide +kernel) (pa_cons (pv 4) pa_nil)) pa_nil))) (pe_lst (pa_cons pe_str (pa_cons (pv 4) pa_nil)))) (nomark _)) (pss_one (ps_ret pe_bl)) pss_nil)))))))))))))
      (pss_cons (ps_set (i := 11) sc_right.nd rfl (Or.inl rfl) (pe_lst (pa_cons pe_non (pa_cons pe_int (pa_cons pe_str (pa_cons pe_str (pa_cons pe_str (pa_cons pe_str (pa_cons pe_str (pa_cons pe_str (pa_cons pe_str (pa_cons pe_str (pa_cons pe_str pa_nil)))))))))))))
      (pss_cons (ps_set (i := 12) sc_right.nd rfl (Or.inr rfl) (pe_call (ok_one T) (hr.mono (by decide)) (by rfl) T.m_one T.F_one.kp T.b_one .nil pass0 (pa_cons (pv 0) (pa_cons (pe_op op_cat (pv 11) (pe_lst (pa_cons pe_str (pa_cons pe_str (pa_cons pe_str (pa_cons pe_str (pa_cons (pe_tup (pa_cons pe_str pa_nil)) (pa_cons (pe_lst pa_nil) pa_nil)))))))) pa_nil))))
      (pss_one (ps_ret (pe_cmpR (op_eqD hr.units) (pe_lamcall (T := TL) (k := 8) (by rfl) T.m_told T.F_told.kp lkT hcT bT sc_told rfl (Or.inl rfl) (told_gives3 hG (hr.mono (by decide)) (ok_sort T) sc_told rfl rfl rfl rfl T.m_ShapeError T.m_QuestionError T.m_SizeError T.m_sort T.F_sort.kp T.b_sort rfl rfl (by decide +kernel) (by decide +kernel) (by decide +kernel) (by decide +kernel) (by decide +kernel) (by decide +kernel) (by decide +kernel) (by decide +kernel)) TB hcode hmT huT (hr.mono (by decide)) (lamS_by (sc := defScope s_right) (by decide +kernel)) rfl (fun _ _ _ _ _ => rfl) (fun A outer s H E f c_ hr => (pe_smeth (pe_glob (v := .ref a.C_Ratio) rfl T.m_Ratio rfl) st_Ratio_read (ok_Ratio_read T) (hr.mono (by decide)) T.b_Ratio_read (passes_call (takes_of rfl rfl rfl rfl) fun _ _ _ _ h => h) (pa_cons (pv 12) pa_nil)))) (pe_lst (pa_cons pe_str (pa_cons (pe_callB (cr_reprD hG hr.units) (by rfl) T.z_repr (by decide +kernel) (pa_cons (pv 12) pa_nil)) pa_nil))) (nomark _)))))))), ?_⟩
    walk_at "r"
    refine ⟨6, rfl, by decide, by decide, for_range (lo := 0) (n := 6) (fun i σ' H' => Kb TL b H H' ∧ ∃ v1 v2 v3 v4 v5 v6 v7 v8 v9 v10 : Option V, σ' = [some (.ref b), v1, v2, v3, v4, v5, v6, v7, v8, v9, v10, none, none])
      ⟨Kb.refl hb hT, none, none, none, none, none, none, none, none, none, none, rfl⟩ (fun i σ' H0 hi hp => ?_) (fun σ' H0 hp => ?_)⟩
    · obtain ⟨kb, v1, v2, v3, v4, v5, v6, v7, v8, v9, v10, rfl⟩ := hp
      walk_at "r"
      refine draw_leaf kb.bag' (by decide) (by decide) fun d1 H1 d10 d11 k1 => ?_
      have kb1 := kb.kp k1
      walk_at "r"
      refine draw_leaf kb1.bag' (by decide) (by decide) fun d2 H2 d20 d21 k2 => ?_
      have kb2 := kb1.kp k2
      walk_at "r"
      refine w_newL (by show 4 ≤ 100000; decide) fun l3 H3 n3 e3 i3 => ?_
      have kb3 := kb2.same e3
      walk_at "r"
      refine one_leaf kb3.bag' i3 (bag_ne kb2.bag' n3) (by show 0 < 4; decide) (by show 4 < 1000; decide) fun v H4 hv k4 => ?_
      have kb4 := kb3.kp k4
      obtain ⟨up, rfl, hup⟩ : ∃ z : Int, v = .int z ∧ z.natAbs < 10 ^ 9 := by
        have d21' : d2 < 10 ^ 9 := d21
        rcases List.mem_cons.mp hv with rfl | hv
        · exact ⟨0, rfl, by decide⟩
        · rcases List.mem_cons.mp hv with rfl | hv
          · exact ⟨7, rfl, by decide⟩
          · rcases List.mem_cons.mp hv with rfl | hv
            · exact ⟨d1, rfl, by omega⟩
            · rw [List.mem_singleton.mp hv]
              exact ⟨d2, rfl, by omega⟩
      walk_at "r"
      refine w_newL (by show 2 ≤ 100000; decide) fun l5 H5 n5 e5 i5 => ?_
      have kb5 := kb4.same e5
      walk_at "r"
      refine one_leaf kb5.bag' i5 (bag_ne kb4.bag' n5) (by show 0 < 2; decide) (by show 2 < 1000; decide) fun v H6 hv k6 => ?_
      have kb6 := kb5.kp k6
      obtain ⟨sn, rfl, hsn⟩ : ∃ z : Int, v = .int z ∧ (z = 1 ∨ z = -1) := by
        rcases List.mem_cons.mp hv with rfl | hv
        · exact ⟨1, rfl, .inl rfl⟩
        · rw [List.mem_singleton.mp hv]
          exact ⟨_, rfl, .inr rfl⟩
      have hU : (up * sn).natAbs < 10 ^ 9 := by
        rcases hsn with rfl | rfl
        · rw [Int.mul_one]; exact hup
        · rw [show up * -1 = -up from by omega, Int.natAbs_neg]; exact hup
      refine w_I (Sz.ok (k := 40) (j := 40) (Nat.lt_of_lt_of_le hup (by decide)) (by rcases hsn with rfl | rfl <;> (show _ < _; decide))) ?_
      generalize up * sn = U at hU ⊢
      walk_at "r"
      refine draw_leaf kb6.bag' (by decide) (by decide) fun d7 H7 d70 d71 k7 => ?_
      have kb7 := kb6.kp k7
      walk_at "r"
      refine low_leaf (by omega) (Nat.lt_of_lt_of_le hU (by decide +kernel)) (Sz.small (by omega)) fun p8 H8 x y n8 e8 i8 m8 => ?_
      have kb8 := kb7.same e8
      obtain ⟨ly, lx⟩ := m8.le (by omega)
      have y60 : y ≤ 60 := by omega
      have y0 := m8.pos
      have hX : x.natAbs < 10 ^ 9 := by omega
      have hL := line_len (t := x) (b := y) hX (by omega) y0
      have zx : Sz 140 x := Nat.lt_of_lt_of_le hX (by decide +kernel)
      have zy : Sz 140 y := Sz.small (by omega)
      have sx := shown_of zx
      have sy := shown_of zy
      walk_at "r"
      refine ⟨p8, x, y, rfl, i8, sx, sy, by omega, ?_⟩
      have l1 : (sg x).length ≤ 600 := Nat.le_trans (sg_len zx) (by decide)
      have l2 : (sg y).length ≤ 600 := Nat.le_trans (sg_len zy) (by decide)
      have cop := m8.cop
      walk_at "r"
      refine mk_leaf y0 (zy.mono (by decide)) fun m9 H9 x' y' n9 e9 r9 nm9 => ?_
      obtain ⟨rfl, rfl⟩ := nm9.uniq ⟨y0, cop, rfl⟩ (by omega) (by omega) rfl
      have kb9 := kb8.same e9
      walk_at "r"
      refine str_leaf r9 sx sy (by omega) ?_
      walk_at "r"
      refine ⟨rfl, ?_⟩
      walk_at "r"
      refine read_leaf y0 cop sx sy (by omega) l1 l2 fun p10 H10 n10 e10 r10 => ?_
      have kb10 := kb9.same e10
      walk_at "r"
      refine str_leaf r10 sx sy (by omega) ?_
      refine ⟨rfl, ?_⟩
      walk_at "r"
      refine ⟨rfl, read_leaf y0 cop sx sy (by omega) l1 l2 fun p11 H11 n11 e11 r11 => ?_⟩
      have kb11 := kb10.same e11
      walk_at "r"
      refine eqq_leaf T r11 ((r9.same e10).same e11) fun q12 H12 e12 hq12 => ?_
      obtain rfl : q12 = true := hq12.mpr ⟨rfl, rfl⟩
      have kb12 := kb11.same e12
      walk_at "r"
      refine w_newL (by show 3 ≤ 100000; decide) fun l13 H13 n13 e13 i13 => ?_
      have kb13 := kb12.same e13
      walk_at "r"
      refine w_newL (by show 3 ≤ 100000; decide) fun l14 H14 n14 e14 i14 => ?_
      have kb14 := kb13.same e14
      have okL := ok_txt x' y'
      generalize hLt : txt x' y' = L at *
      refine ⟨.list [.str L, .str L, .bool true], .list [.str L, .str L, .bool true], .lst (SqL.of (e14 _ _ i13)) (.cons (.str _) (.cons (.str _) (.cons (.bl _) .nil))), .lst (SqL.of i14) (.cons (.str _) (.cons (.str _) (.cons (.bl _) .nil))), shaped3 (asc_ok okL), shaped3 (asc_ok okL), ?_⟩
      rw [SeqAt.eqv_refl _ (SeqAt.canLay_of_shaped (shaped3 (asc_ok okL)))]
      walk_at "r"
      rw [if_neg (by decide)]
      walk_at "r"
      have s1000 : 1000 ≤ sizeLine := by decide
      refine ⟨.str L, _, rfl, ⟨by omega, rfl⟩, ?_⟩
      walk_at "r"
      refine draw_leaf kb14.bag' (by omega) (by omega) fun at_ H15 a0 a1 k15 => ?_
      have kb15 := kb14.kp k15
      walk_at "r"
      refine w_newL (by show 9 ≤ 100000; decide) fun l16 H16 n16 e16 i16 => ?_
      have kb16 := kb15.same e16
      walk_at "r"
      refine one_leaf kb16.bag' i16 (bag_ne kb15.bag' n16) (by show 0 < 9; decide) (by show 9 < 1000; decide) fun v H17 hv k17 => ?_
      have kb17 := kb16.kp k17
      obtain ⟨mo, rfl, hmo, okm⟩ : ∃ m : Str, v = .str m ∧ m.length ≤ 1 ∧ Asc m := by
        simp only [List.mem_cons, List.not_mem_nil, or_false] at hv
        rcases hv with rfl | rfl | rfl | rfl | rfl | rfl | rfl | rfl | rfl <;> exact ⟨_, rfl, by decide, asc_by (by decide +kernel)⟩
      have c1 := cutS_length L none (some at_)
      have c2 := cutS_length L (some at_) none
      have c3 := cutS_length L (some (at_ + 1)) none
      have sum : ∀ a b : Str, (a ++ b).length = a.length + b.length := fun a b => Str.length_append ..
      walk_at "r"
      refine ⟨L, rfl, by omega, ?_⟩
      walk_at "r"
      refine ⟨_, _, rfl, rfl, by omega, ?_⟩
      walk_at "r"
      refine ⟨L, rfl, by omega, ?_⟩
      refine ⟨_, _, rfl, rfl, by rw [sum]; omega, ?_⟩
      walk_at "r"
      refine ⟨L, rfl, by omega, ?_⟩
      walk_at "r"
      refine ⟨L, rfl, by omega, ?_⟩
      refine ⟨_, _, rfl, rfl, by omega, ?_⟩
      walk_at "r"
      refine ⟨L, rfl, by omega, ?_⟩
      walk_at "r"
      refine ⟨_, _, rfl, rfl, by omega, ?_⟩
      walk_at "r"
      refine ⟨L, rfl, by omega, ?_⟩
      refine ⟨_, _, rfl, rfl, by rw [sum]; omega, ?_⟩
      walk_at "r"
      refine w_newL (by show 3 ≤ 100000; decide) fun l18 H18 n18 e18 i18 => ?_
      have kb18 := kb17.same e18
      walk_at "r"
      refine one_leaf kb18.bag' i18 (bag_ne kb17.bag' n18) (by show 0 < 3; decide) (by show 3 < 1000; decide) fun v H19 hv k19 => ?_
      have kb19 := kb18.kp k19
      obtain ⟨t, rfl, ht, okt⟩ : ∃ t : Str, v = .str t ∧ t.length ≤ 27 ∧ Asc t := by
        simp only [List.mem_cons, List.not_mem_nil, or_false] at hv
        rcases hv with rfl | rfl | rfl
        · exact ⟨_, rfl, by rw [sum, sum]; omega, ok_app (ok_app (ok_cut okL _ _) okm) (ok_cut okL _ _)⟩
        · exact ⟨_, rfl, by rw [sum]; omega, ok_app (ok_cut okL _ _) (ok_cut okL _ _)⟩
        · exact ⟨_, rfl, by rw [sum, sum]; omega, ok_app (ok_app (ok_cut okL _ _) okm) (ok_cut okL _ _)⟩
      walk_at "r"
      refine ⟨t, rfl, by omega, asc_ok okt, fun no H20 e20 => ?_, fun u l g1 g2 g3 q20 H20 n20 e20 i20 => ?_⟩
      · have kb20 := kb19.same e20
        walk_at "r"
        refine ⟨kb20.tabs, fun H21 x21 T21 => ?_⟩
        have kb21 := kb20.ext x21 T21
        refine t3 ?_
        walk_at "r"
        refine ⟨rfl, ?_⟩
        walk_at "r"
        refine read_bad (by omega) no fun d22 H22 e22 i22 => ?_
        have kb22 := kb21.same e22
        refine told_err T i22 (fun _ _ => .str t) rfl rfl (by show (0 : Nat) < 60; decide) (repr_len (asc_ok okt) (by omega)) fun p23 H23 n23 e23 i23 => ?_
        have kb23 := kb22.same e23
        walk_at "r"
        refine w_tIf ?_
        walk_at "r"
        refine ⟨rfl, _, rfl, ?_⟩
        rw [if_pos (by simp)]
        walk_at "r"
        refine repr_str (asc_ok okt) (by omega) ?_
        walk_at "r"
        refine w_newL (by show 2 ≤ 100000; decide) fun l24 H24 n24 e24 i24 => ?_
        have kb24 := kb23.same e24
        have sh := shaped2 (L := "InvalidText") (M := PyData.shown (.str t)) (asc_ok (asc_by (by decide +kernel))) (by rw [shown_str]; exact asc_ok (asc_repr okt))
        refine ⟨.list [.str "InvalidText", .str (PyData.shown (.str t))], _, .lst (SqL.of (e24 _ _ i23)) (.cons (.str _) (.cons (.str _) .nil)), .lst (SqL.of i24) (.cons (.str _) (.cons (.str _) .nil)), sh, sh, ?_⟩
        rw [SeqAt.eqv_refl _ (SeqAt.canLay_of_shaped sh)]
        refine ⟨_, rfl, ?_⟩
        rw [if_neg (by decide)]
        walk_at "r"
        exact ⟨kb24, _, _, _, _, _, _, _, _, _, _, rfl⟩
      · have kb20 := kb19.same e20
        subst g3
        obtain ⟨b1, b2⟩ := txt_sz (show (txt u l).length ≤ 40 by omega)
        have w1 := shown_of (sg_sz b1)
        have w2 := shown_of (sg_sz b2)
        walk_at "r"
        refine ⟨kb20.tabs, fun H21 x21 T21 => ?_⟩
        have kb21 := kb20.ext x21 T21
        refine t3 ?_
        walk_at "r"
        refine ⟨rfl, ?_⟩
        walk_at "r"
        refine read_leaf g1 g2 w1 w2 (by omega) (by omega) (by omega) fun p22 H22 n22 e22 r22 => ?_
        have kb22 := kb21.same e22
        walk_at "r"
        refine str_leaf r22 w1 w2 (by omega) fun p23 n23 => ?_
        have e23 := w_new (o := .lst [.str "returned", .str (txt u l)]) n23
        have i23 : upd H22 p23 (.lst [.str "returned", .str (txt u l)]) p23 = some (.lst [.str "returned", .str (txt u l)]) := upd_same
        generalize upd H22 p23 (.lst [.str "returned", .str (txt u l)]) = H23 at e23 i23 ⊢
        have kb23 := kb22.same e23
        walk_at "r"
        refine w_tIf ?_
        walk_at "r"
        refine ⟨rfl, _, rfl, ?_⟩
        rw [if_neg (by simp)]
        walk_at "r"
        refine w_newL (by show 2 ≤ 100000; decide) fun l24 H24 n24 e24 i24 => ?_
        have kb24 := kb23.same e24
        have sh := shaped2 (L := "returned") (M := txt u l) (asc_ok (asc_by (by decide +kernel))) (asc_ok okt)
        refine ⟨.list [.str "returned", .str (txt u l)], _, .lst (SqL.of (e24 _ _ i23)) (.cons (.str _) (.cons (.str _) .nil)), .lst (SqL.of i24) (.cons (.str _) (.cons (.str _) .nil)), sh, sh, ?_⟩
        rw [SeqAt.eqv_refl _ (SeqAt.canLay_of_shaped sh)]
        refine ⟨_, rfl, ?_⟩
        rw [if_neg (by decide)]
        walk_at "r"
        exact ⟨kb24, _, _, _, _, _, _, _, _, _, _, rfl⟩
    · obtain ⟨kb, v1, v2, v3, v4, v5, v6, v7, v8, v9, v10, rfl⟩ := hp
      walk_at "r"
      refine w_newL (by show 11 ≤ 100000; decide) fun l1 H1 n1 e1 i1 => ?_
      have kb1 := kb.same e1
      walk_at "r"
      refine w_newT (by show 1 ≤ 100000; decide) fun p2 H2 n2 e2 i2 => ?_
      have kb2 := kb1.same e2
      walk_at "r"
      refine w_newL (by show 0 ≤ 100000; decide) fun l3 H3 n3 e3 i3 => ?_
      have kb3 := kb2.same e3
      walk_at "r"
      refine w_newL (by show 6 ≤ 100000; decide) fun l4 H4 n4 e4 i4 => ?_
      have kb4 := kb3.same e4
      refine ⟨l1, l4, _, _, rfl, rfl, e4 _ _ (e3 _ _ (e2 _ _ i1)), i4, by show 17 ≤ sizeLine; decide, fun l5 n5 => ?_⟩
      have e5 := w_new (o := .lst ([V.non, V.int 3, V.str "", V.str "-", V.str "/", V.str "1/", V.str "/2", V.str "0/3", V.str "2/4", V.str "3/1", V.str "1/0"] ++ [V.str "-0", V.str "+1", V.str " 1", V.str "1/-2", V.ref p2, V.ref l3])) n5
      have i5 : upd H4 l5 (.lst ([V.non, V.int 3, V.str "", V.str "-", V.str "/", V.str "1/", V.str "/2", V.str "0/3", V.str "2/4", V.str "3/1", V.str "1/0"] ++ [V.str "-0", V.str "+1", V.str " 1", V.str "1/-2", V.ref p2, V.ref l3])) l5 = _ := upd_same
      have kb5 := kb4.same e5
      have nb5 := bag_ne kb4.bag' n5
      generalize upd H4 l5 (.lst ([V.non, V.int 3, V.str "", V.str "-", V.str "/", V.str "1/", V.str "/2", V.str "0/3", V.str "2/4", V.str "3/1", V.str "1/0"] ++ [V.str "-0", V.str "+1", V.str " 1", V.str "1/-2", V.ref p2, V.ref l3])) = H5 at e5 i5 kb5 ⊢
      walk_at "r"
      refine one_leaf kb5.bag' i5 nb5 (by show 0 < 17; decide) (by show 17 < 1000; decide) fun v H6 hv k6 => ?_
      have kb6 := kb5.kp k6
      have t6 : H6 p2 = some (.tup [.str "1"]) := k6.tup (e5 _ _ (e4 _ _ (e3 _ _ i2)))
      have q6 : H6 l3 = some (.lst []) := k6.keep _ _ (bag_ne kb2.bag' n3) (e5 _ _ (e4 _ _ i3))
      obtain ⟨d, od⟩ := odd_all (K := K) t6 q6 hv
      walk_at "r"
      refine ⟨kb6.tabs, fun H7 x7 T7 => ?_⟩
      have kb7 := kb6.ext x7 T7
      refine t3 ?_
      refine ⟨rfl, ?_⟩
      walk_at "r"
      refine od.rd x7 fun d8 H8 e8 i8 => ?_
      have kb8 := kb7.same e8
      have x8 := x7.trans (Same.ext e8)
      refine told_err T i8 (fun H' e' => od.dp H' (x8.trans (Same.ext e'))) od.sh od.nd od.dep od.len fun p9 H9 n9 e9 i9 => ?_
      have kb9 := kb8.same e9
      have x9 := x8.trans (Same.ext e9)
      walk_at "r"
      refine ⟨v, d, rfl, od.dp _ x9, od.sh, od.nd, od.dep, od.len, ?_⟩
      walk_at "r"
      refine w_newL (by show 2 ≤ 100000; decide) fun l10 H10 n10 e10 i10 => ?_
      have kb10 := kb9.same e10
      have sh := shaped2 (L := "InvalidText") (M := d.shown) (asc_ok (asc_by (by decide +kernel))) (asc_ok od.asc)
      refine ⟨.list [.str "InvalidText", .str d.shown], _, .lst (SqL.of (e10 _ _ i9)) (.cons (.str _) (.cons (.str _) .nil)), .lst (SqL.of i10) (.cons (.str _) (.cons (.str _) .nil)), sh, sh, ?_⟩
      rw [SeqAt.eqv_refl _ (SeqAt.canLay_of_shaped sh)]
      exact k _ kb10
end
end RK3


namespace RK3
open PySem PySem.Spec L2 RK TL LamX
section
variable {P : Program} {w : World} {K : PySem.W.Frag} {mg : Str → Option Value} {base : Heap} {a : Ad}
def spLaw (K : PySem.W.Frag) (TT : List (Addr × Str)) : Sp := fun vs H Q _ => ∃ (c : Addr) (ns : List Int), vs = [.ref c] ∧ SqL K H c (ns.map V.int) ∧ ns.length ≤ 63 ∧ Tabs TT H ∧ ∀ H', Q (.bl true) H'
theorem ok_law (T : Txt K mg a) {cR Pt : Addr} (hc : a.d_right.code = .ref cR) (TB : TabB base mg cR Pt) : FnOkG P w K mg base CX0 40 a.f_law a.d_law ["_law_cells"] (spLaw K (TLr Pt)) := by
  refine funG T.F_law sc_law (fun vs H Q E h => ?_) (fun cdv A outer s H vs Q E hG hr h => ?_)
  · obtain ⟨c, ns, rfl, _⟩ := h
    rfl
  · obtain ⟨c, ns, rfl, hcs, hl, ht, k⟩ := h
    have st := StL.of hcs
    refine ⟨_, PSs.nox ((pss_one (ps_ret (pe_callB (cr_all rfl) (by rfl) T.z_all (by decide +kernel) (pa_cons (pe_lc (own := [("_law_k", 1)]) (g := gName 1) (tt := tYes) rfl sc_law.nd (pi_range1 (by rfl) T.z_range (pa_cons (pe_callB (cr_max2 rfl) (by rfl) T.z_max (by decide +kernel) (pa_cons pe_int (pa_cons (pe_callB (cr_min2 rfl) (by rfl) T.z_min (by decide +kernel) (pa_cons (pe_callB cr_len (by rfl) T.z_len PySem.boot_len (pa_cons (pv 0) pa_nil)) (pa_cons pe_int pa_nil))) pa_nil))) pa_nil)) (blkOk_by (own := [("_law_k", 1)]) (N := ["_law_cells", "_law_k"]) (sc := defScope s_law) (by decide +kernel)) (fun _ _ _ _ _ => pg_name (i := 1) sc_law.nd rfl (Or.inl rfl)) (fun _ _ _ _ _ => pts_nil) (fun _ _ _ _ _ => by exact (pe_callG (ok_right T hc TB) hG (hr.mono (by decide)) (by rfl) T.m_right T.F_right.kp T.b_right pass0 (pa_cons (pe_call (ok_bag T) (hr.mono (by decide)) (by rfl) T.m_bag T.F_bag.kp T.b_bag .nil pass0 (pa_cons (pv 0) (pa_cons (pv 1) pa_nil))) pa_nil)))) pa_nil))))), ?_⟩
    walk_at "r"
    refine lc_rngT (T := TLr Pt) (K := K) (c := c) (xs := ns.map V.int) (lo := 0) (n := (if (if (6 : Int) < ((ns.map V.int).length : Int) then (6 : Int) else ((ns.map V.int).length : Int)) > 2 then (if (6 : Int) < ((ns.map V.int).length : Int) then (6 : Int) else ((ns.map V.int).length : Int)) else 2).toNat) (by split <;> (try split) <;> omega) (fun R h => ?_) (fun _ => rfl) st ht (fun i H' hi st' tb' Q' kq => ?_) (fun D H8 h8 => ?_)
    · show tCons _ _ _ _ _
      walk_at "r"
      refine w_lenL hcs ?_
      walk_at "r"
      exact ⟨_, rfl, by split <;> (try split) <;> omega, by split <;> (try split) <;> omega, h⟩
    · walk_at "r"
      refine ⟨c, ns, i, by rw [Int.zero_add]; rfl, st'.sql, by revert hi; split <;> (try split) <;> omega, fun b H8 hb e8 bag => ?_⟩
      walk_at "r"
      refine ⟨b, rfl, bag, tb'.ext e8, fun H9 k9 => kq _ (st'.kb hb e8 k9) k9.tabs fun D acc hD => k9.lst (ne_of_none hD hb) (e8 _ _ hD)⟩
    · walk_at "r"
      exact all_rep h8 (k _)
end
end RK3

namespace RK3
open PySem PySem.Spec PyProof.Rows L2 RK LamX
theorem walk {l : PySem.W.OpenLaw} {q : Program} {loose : List Str} {XP : (Str → Option Value) → Heap → Prop} {YP : World → Heap → Prop} {d : DefRec} {K : Params → PySem.W.Frag} (hn : l.most = some 63) (hdf : d.params.defaults = []) (hd : d.name = "law")
    (hrec : ((recsOf q).any fun e => e.name == ("_law_right" : Str)) = true) (hY : ∀ (w : World) (h : Heap), YP w h → (K w.params).In h)
    (F : ∀ (w : World) (mg : Str → Option Value) (h : Heap), (K w.params).In h → h.Ns mainGlobals mg → ∃ a : Ad, Txt (K w.params) mg a) :
    PySem.W.WalkO q loose XP YP l.row.toRowW d [] (fun f vs => PySem.call f vs) :=
  RK.walk_G (n := 63) (k := 40) (x := "_law_cells") (CX := fun _ => CX0) hn (by decide) hdf ⟨rfl, by decide, by decide⟩ hY (fun w mg fa h Y KX G hmg recs => by
    obtain ⟨a, T⟩ := F w mg h KX G
    rw [hd, T.m_law] at hmg
    cases hmg
    obtain ⟨cR, Pt, e1, e2, e3⟩ := T.tc_right
    obtain ⟨dR, hm, hn1⟩ := List.any_eq_true.mp hrec
    obtain ⟨a', o', fd', c', P', h1, h2, h3, h4, h5, h6⟩ := recs dR hm
    rw [beq_iff_eq.mp hn1, T.m_right] at h1
    cases h1
    obtain ⟨oc, od, kV, doc, pm, an, cdv, ct, osl, ed, lk, hcd⟩ := T.F_right.ex
    have g1 := KX _ _ lk
    rw [g1] at h2
    cases h2
    cases h3
    rw [e1] at h4
    cases h4
    have CH := PySem.W.codeHd_of_K KX e2
    obtain ⟨o2, vs, file, tf, flags, tg, inF, text, tt, u1, u2, u3, u4, rest⟩ := id CH
    obtain ⟨⟨o3, vc, t1, _, t3, t4⟩, hP⟩ := h6
    rw [t1] at u1
    cases u1
    rw [t3] at u3
    cases u3
    rw [u4] at t4
    cases t4
    refine ⟨a.d_law, [(cR, Pt)], spLaw (K w.params) (TLr Pt), fun p hp => ?_, fun p hp => ?_, fun p hp => ?_, fun s u => ?_, fun H c ns hl _ htb hS => ⟨c, ns, rfl, hS, hl, fun p hp => ?_, fun _ => rfl⟩, fun base _ _ tb => ok_law T e1 (tb (cR, Pt) (List.mem_singleton.mpr rfl))⟩
    · rw [List.mem_singleton.mp hp]
      exact hP
    · rw [List.mem_singleton.mp hp]
      exact e3
    · rw [List.mem_singleton.mp hp]
      exact CH
    · obtain ⟨oc, od, kV, doc, pm, an, cdv, ct, osl, e, _, _⟩ := T.F_law.ex
      rw [e]
      exact .of_eq rfl
    · rw [List.mem_singleton.mp hp]
      exact TabS.nil (htb (cR, Pt) (List.mem_singleton.mpr rfl))) fun _ _ _ _ _ z => z
end RK3
open PySem PySem.W PyProof.Rows
set_option maxRecDepth 100000 in
set_option maxHeartbeats 0 in
theorem PySem.Challenge.cw_slackstrings_k03_texts_of_ratios_holds : PySem.Challenge.rw_slackstrings_k03_texts_of_ratios.Holds := by
  w_on; o_law; k_head; (case hw => w_witness2)
  k_fill
  refine RK3.walk (l := PySem.Challenge.rw_slackstrings_k03_texts_of_ratios) rfl rfl rfl (by decide +kernel) (fun w h Y => by first | exact PySem.W.kIn_of Y | exact PySem.W.km_in_of Y) ?F
  case F =>
    intro w mg h KX G
    refine' RK3.all_mk KX G ?aC_Ratio ?pg_Ratio ?hd_Ratio ?po_Ratio ?sa_Ratio ?mk_Ratio ?kc_Ratio ?aC_ShapeError ?aC_QuestionError ?aC_SizeError ?aC_InvalidText ?xl_InvalidText ?xy_InvalidText ?xa_InvalidText ?xe_InvalidText ?xt_InvalidText ?xk_InvalidText ?xg_InvalidText ?xh_InvalidText ?xi_InvalidText ?xj_InvalidText ?xm_InvalidText ?xn_InvalidText ?xo_InvalidText ?xp_InvalidText ?a_is_whole ?l_is_whole ?c_is_whole ?k_is_whole ?a_Ratio_init ?i_Ratio_init ?l_Ratio_init ?c_Ratio_init ?k_Ratio_init ?t_Ratio_init ?a_Ratio_eq ?i_Ratio_eq ?l_Ratio_eq ?c_Ratio_eq ?k_Ratio_eq ?a_Ratio_str ?i_Ratio_str ?l_Ratio_str ?c_Ratio_str ?k_Ratio_str ?a_is_fraction ?l_is_fraction ?c_is_fraction ?k_is_fraction ?a_as_ratio ?l_as_ratio ?c_as_ratio ?k_as_ratio ?sa_Ratio_read ?sb_Ratio_read ?sc_Ratio_read ?sd_Ratio_read ?l_Ratio_read ?c_Ratio_read ?k_Ratio_read ?a_ratio_in ?l_ratio_in ?c_ratio_in ?k_ratio_in ?a_has_digits_alone ?l_has_digits_alone ?c_has_digits_alone ?k_has_digits_alone ?a_InvalidText_init ?i_InvalidText_init ?l_InvalidText_init ?c_InvalidText_init ?k_InvalidText_init ?a_bag ?l_bag ?c_bag ?k_bag ?a_draw ?l_draw ?c_draw ?k_draw ?a_one ?l_one ?c_one ?k_one ?a_lowest ?l_lowest ?c_lowest ?k_lowest ?a_told ?l_told ?c_told ?k_told ?a_sort ?l_sort ?c_sort ?k_sort ?a_written ?l_written ?c_written ?k_written ?a_read ?l_read ?c_read ?k_read ?a_right ?l_right ?c_right ?k_right ?a_law ?l_law ?c_law ?k_law ?ht_right ?hh_right ?hn_right ?z_isinstance ?z_int ?z_bool ?z_len ?z_abs ?z_range ?z_all ?z_max ?z_min ?z_repr ?z_str ?z_ValueError ?z_LookupError ?z_ArithmeticError ?g_gcd ?h_ki_ShapeError ?h_ki_QuestionError ?h_ki_SizeError ?h_ki_InvalidText ?h_ki_ValueError ?h_ki_LookupError ?h_ki_ArithmeticError ?h_fo ?h_exm ?h_nT ?h_nB ?h_iA ?h_iN ?h_iT ?h_iM ?h_kRR ?h_kIR ?h_nfR
    (case aC_Ratio => first | k_is | rfl)
    (case pg_Ratio => first | k_is | rfl)
    (case hd_Ratio => first | k_is | rfl)
    (case po_Ratio => first | k_is | rfl)
    (case sa_Ratio => first | k_is | rfl)
    (case mk_Ratio => first | k_is | rfl)
    (case kc_Ratio => first | k_is | rfl)
    (case aC_ShapeError => first | k_is | rfl)
    (case aC_QuestionError => first | k_is | rfl)
    (case aC_SizeError => first | k_is | rfl)
    (case aC_InvalidText => first | k_is | rfl)
    (case xl_InvalidText => first | k_is | rfl)
    (case xy_InvalidText => first | k_is | rfl)
    (case xa_InvalidText => first | k_is | rfl)
    (case xe_InvalidText => first | k_is | rfl)
    (case xt_InvalidText => first | k_is | rfl)
    (case xk_InvalidText => first | k_is | rfl)
    (case xg_InvalidText => first | k_is | rfl)
    (case xh_InvalidText => first | k_is | rfl)
    (case xi_InvalidText => first | k_is | rfl)
    (case xj_InvalidText => first | k_is | rfl)
    (case xm_InvalidText => first | k_is | rfl)
    (case xn_InvalidText => first | k_is | rfl)
    (case xo_InvalidText => first | k_is | rfl)
    (case a_is_whole => first | k_is | rfl)
    (case l_is_whole => first | k_is | rfl)
    (case c_is_whole => first | k_is | rfl)
    (case k_is_whole => first | k_is | rfl)
    (case a_Ratio_init => first | k_is | rfl)
    (case i_Ratio_init => first | k_is | rfl)
    (case l_Ratio_init => first | k_is | rfl)
    (case c_Ratio_init => first | k_is | rfl)
    (case k_Ratio_init => first | k_is | rfl)
    (case t_Ratio_init => first | k_is | rfl)
    (case a_Ratio_eq => first | k_is | rfl)
    (case i_Ratio_eq => first | k_is | rfl)
    (case l_Ratio_eq => first | k_is | rfl)
    (case c_Ratio_eq => first | k_is | rfl)
    (case k_Ratio_eq => first | k_is | rfl)
    (case a_Ratio_str => first | k_is | rfl)
    (case i_Ratio_str => first | k_is | rfl)
    (case l_Ratio_str => first | k_is | rfl)
    (case c_Ratio_str => first | k_is | rfl)
    (case k_Ratio_str => first | k_is | rfl)
    (case a_is_fraction => first | k_is | rfl)
    (case l_is_fraction => first | k_is | rfl)
    (case c_is_fraction => first | k_is | rfl)
    (case k_is_fraction => first | k_is | rfl)
    (case a_as_ratio => first | k_is | rfl)
    (case l_as_ratio => first | k_is | rfl)
    (case c_as_ratio => first | k_is | rfl)
    (case k_as_ratio => first | k_is | rfl)
    (case sa_Ratio_read => first | k_is | rfl)
    (case sb_Ratio_read => first | k_is | rfl)
    (case sc_Ratio_read => first | k_is | rfl)
    (case sd_Ratio_read => first | k_is | rfl)
    (case l_Ratio_read => first | k_is | rfl)
    (case c_Ratio_read => first | k_is | rfl)
    (case k_Ratio_read => first | k_is | rfl)
    (case a_ratio_in => first | k_is | rfl)
    (case l_ratio_in => first | k_is | rfl)
    (case c_ratio_in => first | k_is | rfl)
    (case k_ratio_in => first | k_is | rfl)
    (case a_has_digits_alone => first | k_is | rfl)
    (case l_has_digits_alone => first | k_is | rfl)
    (case c_has_digits_alone => first | k_is | rfl)
    (case k_has_digits_alone => first | k_is | rfl)
    (case a_InvalidText_init => first | k_is | rfl)
    (case i_InvalidText_init => first | k_is | rfl)
    (case l_InvalidText_init => first | k_is | rfl)
    (case c_InvalidText_init => first | k_is | rfl)
    (case k_InvalidText_init => first | k_is | rfl)
    (case a_bag => first | k_is | rfl)
    (case l_bag => first | k_is | rfl)
    (case c_bag => first | k_is | rfl)
    (case k_bag => first | k_is | rfl)
    (case a_draw => first | k_is | rfl)
    (case l_draw => first | k_is | rfl)
    (case c_draw => first | k_is | rfl)
    (case k_draw => first | k_is | rfl)
    (case a_one => first | k_is | rfl)
    (case l_one => first | k_is | rfl)
    (case c_one => first | k_is | rfl)
    (case k_one => first | k_is | rfl)
    (case a_lowest => first | k_is | rfl)
    (case l_lowest => first | k_is | rfl)
    (case c_lowest => first | k_is | rfl)
    (case k_lowest => first | k_is | rfl)
    (case a_told => first | k_is | rfl)
    (case l_told => first | k_is | rfl)
    (case c_told => first | k_is | rfl)
    (case k_told => first | k_is | rfl)
    (case a_sort => first | k_is | rfl)
    (case l_sort => first | k_is | rfl)
    (case c_sort => first | k_is | rfl)
    (case k_sort => first | k_is | rfl)
    (case a_written => first | k_is | rfl)
    (case l_written => first | k_is | rfl)
    (case c_written => first | k_is | rfl)
    (case k_written => first | k_is | rfl)
    (case a_read => first | k_is | rfl)
    (case l_read => first | k_is | rfl)
    (case c_read => first | k_is | rfl)
    (case k_read => first | k_is | rfl)
    (case a_right => first | k_is | rfl)
    (case l_right => first | k_is | rfl)
    (case c_right => first | k_is | rfl)
    (case k_right => first | k_is | rfl)
    (case a_law => first | k_is | rfl)
    (case l_law => first | k_is | rfl)
    (case c_law => first | k_is | rfl)
    (case k_law => first | k_is | rfl)
    (case ht_right => first | k_is | rfl)
    (case hh_right => first | k_is | rfl)
    (case hn_right => first | k_is | rfl)
    (case z_isinstance => first | k_is | rfl)
    (case z_int => first | k_is | rfl)
    (case z_bool => first | k_is | rfl)
    (case z_len => first | k_is | rfl)
    (case z_abs => first | k_is | rfl)
    (case z_range => first | k_is | rfl)
    (case z_all => first | k_is | rfl)
    (case z_max => first | k_is | rfl)
    (case z_min => first | k_is | rfl)
    (case z_repr => first | k_is | rfl)
    (case z_str => first | k_is | rfl)
    (case z_ValueError => first | k_is | rfl)
    (case z_LookupError => first | k_is | rfl)
    (case z_ArithmeticError => first | k_is | rfl)
    (case g_gcd => first | k_is | rfl)
    (case h_ki_ShapeError => first | k_is | rfl)
    (case h_ki_QuestionError => first | k_is | rfl)
    (case h_ki_SizeError => first | k_is | rfl)
    (case h_ki_InvalidText => first | k_is | rfl)
    (case h_ki_ValueError => first | k_is | rfl)
    (case h_ki_LookupError => first | k_is | rfl)
    (case h_ki_ArithmeticError => first | k_is | rfl)
    (case h_fo => first | k_is | rfl)
    (case h_exm => first | k_is | rfl)
    (case h_nT => first | k_is | rfl)
    (case h_nB => first | k_is | rfl)
    (case h_iA => first | k_is | rfl)
    (case h_iN => first | k_is | rfl)
    (case h_iT => first | k_is | rfl)
    (case h_iM => first | k_is | rfl)
    (case h_kRR => first | k_is | rfl)
    (case h_kIR => first | k_is | rfl)
    (case h_nfR => first | k_is | rfl)
    (case xp_InvalidText => first | k_is | rfl)
