import PyProof.Rows.All
import Wide.All
import OpenK.AllK
import Wide.FinOn
import HandS.ForMost
import HandS.OwnEq
import HandS.IterVal
import HandS.ClsMeth
import HandS.Small
import KE.KCallOwn
import HandS.Text
import HandS.StrMore
import HandS.Codes
import PyProof.Rows.ReprOcc
import PyProof.Rows.StrAscii
import HandS.Zip
import HandS.Walk
import HandS.Star
import HandS.Style
import HandS.Gcd
import HandS.WideBits
import HandS.IsInst
import HandS.Defaults
import HandS.RaiseMore
import KE.GoesMore
import HandS.ExcInit
import HandS.ExcField
import HandS.Wide
import KE.GoesZip
import HandS.ForExc
import HandS.ExcIs
import HandS.List
import HandS.TupMul
import HandS.TupAny
import HandS.Property
import PySem.Challenge.RW_sumlives_k11_texts_of_factors
set_option Elab.async false
set_option maxRecDepth 100000
set_option maxHeartbeats 8000000
namespace L2
open PySem PySem.Spec PyProof.Rows
/-! ### x in o, o | p, o <= p by the class's own methods -/
section
variable {X : Cx}
/-- what a call of an own method by a sign gives -/
theorem run_own {CX : CXT} {k : Nat} {g : Addr} {fd : FuncData} {ps : List Str} {sp : Sp} {E : XK} {pins : List (Addr × Obj)} {s : Shared} {σ : St} {H : Hp} {vs : List V} {us : List Value} {Q : VK} {R : Value → Shared → Prop} (F : FnOk X.prog X.w X.K X.mg X.base CX k g fd ps sp) (hr : Room k X.A) (hb : Binds X.K fd ps []) (hx : Passes CX X E)
    (I : Inv X pins σ H s) (r : Vals vs us) (q : sp vs H Q E) (hR : ∀ (w : Value) (z : V) (s' : Shared) (H' : Hp), Inv X pins σ H' s' → RelV z w → Q z H' → R w s') : wpAny (model X.prog X.w) X.A (call (.ref g) us) R X.xe s := by
  have hl := F.len _ _ _ _ q
  refine wpAny_call (codeAny_mono (F.run X.A X.stack s H ⟨us, []⟩ us vs _ E hr I.env0 (by
    have := hb s us I.kIn (by rw [List.append_nil, ← r.length]; exact hl)
    simpa using this) r q) fun r' s' hq => ?_)
  cases r' with
  | error e => exact hx pins σ H s e s' I hq
  | ok fl =>
    cases fl with
    | ret w =>
      obtain ⟨z, H', I', rz, q'⟩ := I.after hq
      exact hR w z s' H' I' rz q'
    | next => exact False.elim hq
    | brk => exact False.elim hq
    | cont => exact False.elim hq
def rInO (C : Addr) (sp : Sp) (E : XK) (n : Bool) : R2 := fun x y H Q => ∃ a dx fs, y = .ref a ∧ H a = some (.ins C dx fs) ∧ sp [.ref a, x] H (fun r H' => ∃ b, r = .bl b ∧ Q (.bl (n != b)) H') E
variable {CX : CXT} {C g : Addr} {k : Nat} {fd : FuncData} {ps : List Str} {sp : Sp} {E : XK}
theorem op_inO (F : FnOk X.prog X.w X.K X.mg X.base CX k g fd ps sp) (hs : PySem.W.findIn X.K (.ref C) "__contains__" = some (some (.ref g))) (hf : PySem.W.isFn X.K (.ref g) = true) (hr : Room k X.A) (hb : Binds X.K fd ps []) (hx : Passes CX X E) : OpR X (compareOp .In) (rInO C sp E false) := by
  intro pins s σ H x y v u Q I rx ry h
  obtain ⟨a, dx, fs, rfl, ha, q⟩ := h
  cases ry
  obtain ⟨mA, J, _⟩ := ins_get I.hok ha
  obtain ⟨od, J, _⟩ := J.look
  obtain ⟨m, hF⟩ := I.fr
  refine PySem.W.in_K hF I.ok.mod.kin J hs hf ?_
  refine run_own F hr hb hx I (show Vals [V.ref a, x] [Value.ref a, v] from .cons rfl (.cons rx .nil)) q fun w z s' H' I' rz qz => ?_
  obtain ⟨b, rfl, qb⟩ := qz
  cases rz
  refine wpAny_truthy_bool ⟨.bl b, H', I', rfl, ?_⟩
  cases b <;> exact qb
theorem op_notInO (F : FnOk X.prog X.w X.K X.mg X.base CX k g fd ps sp) (hs : PySem.W.findIn X.K (.ref C) "__contains__" = some (some (.ref g))) (hf : PySem.W.isFn X.K (.ref g) = true) (hr : Room k X.A) (hb : Binds X.K fd ps []) (hx : Passes CX X E) : OpR X (compareOp .NotIn) (rInO C sp E true) := by
  intro pins s σ H x y v u Q I rx ry h
  obtain ⟨a, dx, fs, rfl, ha, q⟩ := h
  cases ry
  obtain ⟨mA, J, _⟩ := ins_get I.hok ha
  obtain ⟨od, J, _⟩ := J.look
  obtain ⟨m, hF⟩ := I.fr
  refine PySem.W.notIn_K hF I.ok.mod.kin J hs hf ?_
  refine run_own F hr hb hx I (show Vals [V.ref a, x] [Value.ref a, v] from .cons rfl (.cons rx .nil)) q fun w z s' H' I' rz qz => ?_
  obtain ⟨b, rfl, qb⟩ := qz
  cases rz
  refine wpAny_truthy_bool ⟨.bl (!b), H', I', rfl, ?_⟩
  cases b <;> exact qb
end
end L2

namespace PySem.W
open PySem PySem.Calls PyProof.Rows Builtin
section
variable {prog : Program} {w : World} {A : Around} {E : Value → Shared → Prop} {s : Shared} {K : Frag} {x C L f : Addr} {h₀ : Heap} {m : Str → Option Value} {ox : Obj} {od : Option Obj} {b : Value}
/-- x != y by the class's own ==: object's own __ne__ asks it -/
theorem call_ne_own {Q : Value → Shared → Prop} (hu : A.units + 2 < cLine) (X : K.In s.heap) (I : InstAt s.heap x ox C od) (hm : mroIn K C (.type "object") = some true) (hs : findIn K (.ref C) "__eq__" = some (some (.ref f))) (hf : isFn K (.ref f) = true)
    (h : wpAny (model prog w) A.in1 (call (.ref f) [.ref x, b]) (fun v s' => ∃ r, v = .bool r ∧ Q (.bool (!r)) s') E s) : wpAny (model prog w) A (call (.builtin "object.__ne__") [.ref x, b]) Q E s := by
  have LI : Looks (model prog w) s.heap (isInstance (.ref x) (.type "object")) true := I.type.andThen (looks_mroIn X hm)
  refine wpAny_call (codeAny_call_builtin F.slot_object_ne.plain F.entry_object_ne (check_slot (i := "object.__ne__") (owner := "object") (n := "__ne__") (self := .ref x) (rest := [b]) (kw := []) (by decide +kernel) (by decide +kernel) LI (F.args_object_ne_2 _ _) ?_))
  show wpAny _ _ (Builtin.«object.__ne__» ⟨[.ref x, b], []⟩) _ _ s
  unfold Builtin.«object.__ne__»
  refine wpAny_bind (wpAny_pure ?_)
  refine wpAny_bind (wpAny_cRoomFor (show A.units + 1 < cLine by omega) ?_)
  refine wpAny_bind (ifBound_K X I hs hf (wpAny_mono h (fun v s' q => ?_) fun _ _ z => z))
  obtain ⟨r, rfl, q⟩ := q
  exact wpAny_bind (wpAny_truthy_bool (wpAny_pure q))
theorem ne_own {Q : Value → Shared → Prop} {tb : Value} (hu : A.units + 2 < cLine) (F : Fr h₀ L s.heap m) (X₀ : K.In h₀) (I : InstAt s.heap x ox C od) (hb : Looks (model prog w) s.heap (typeOf b) tb) (hn : notFirst K C tb = true) (hm : mroIn K C (.type "object") = some true)
    (hne : findIn K (.ref C) "__ne__" = some (some (.builtin "object.__ne__"))) (hs : findIn K (.ref C) "__eq__" = some (some (.ref f))) (hf : isFn K (.ref f) = true)
    (h : wpAny (model prog w) A.in1 (call (.ref f) [.ref x, b]) (fun v s' => ∃ r, v = .bool r ∧ Q (.bool (!r)) s') E s) : wpAny (model prog w) A (richCompare .NotEq (.ref x) b) Q E s := by
  have X := X₀.keeps F.keep
  have bd : bindSpecial (.builtin "object.__ne__") (.ref x) = pure (.builtin "object.__ne__", [.ref x]) := _root_.PySem.F.slot_object_ne.bind _
  have asked := call_ne_own (prog := prog) (w := w) (A := A) (b := b) (Q := fun v s' => ∃ r, v = Value.bool r ∧ Q (.bool r) s') hu X I hm hs hf (wpAny_mono h (fun v s' z => by
    obtain ⟨r, e, q⟩ := z
    exact ⟨r, e, !r, rfl, q⟩) fun _ _ e => e)
  have bound : wpAny (model prog w) A (callSpecialIfBound? (.ref x) (cmpInfo .NotEq).2.1 [b]) (fun r s' => ∃ v, r = some (Value.bool v) ∧ Q (.bool v) s') E s := by
    simp only [bindSpecialIfBound?, callSpecialIfBound?]
    have goes : wpAny (model prog w) A (call (.builtin "object.__ne__") ([.ref x] ++ [b]) >>= fun u => pure (some u)) (fun r s' => ∃ v, r = some (Value.bool v) ∧ Q (.bool v) s') E s := by
      refine wpAny_bind (wpAny_mono asked (fun v s' z => ?_) fun _ _ e => e)
      obtain ⟨r, rfl, q⟩ := z
      exact wpAny_pure ⟨r, rfl, q⟩
    refine wpAny_holding (wpAny_bind (wpAny_bind (wpAny_bind (I.type.here ((looks_findIn X hne).here ?_)))))
    refine wpAny_bind (wpAny_askSetting (wpAny_ite ?_))
    rw [bd]
    split
    · exact wpAny_bind (wpAny_pure (wpAny_pure (by exact goes)))
    · exact wpAny_tryCatch (wpAny_bind (wpAny_pure (wpAny_pure (by exact goes))))
  have one : wpAny (model prog w) A (tryCompare (.ref x) (cmpInfo .NotEq).2.1 b) (fun r s' => ∃ v, r = some v ∧ Q v s') E s := by
    unfold tryCompare
    refine wpAny_bind (wpAny_mono bound (fun r s' z => ?_) fun _ _ e => e)
    obtain ⟨v, rfl, q⟩ := z
    exact wpAny_pure ⟨_, rfl, q⟩
  unfold richCompare
  simp only [oneThing_ref]
  refine wpAny_holding (wpAny_bind (wpAny_cRoomFor (show A.units < cLine by omega) ?_))
  refine wpAny_bind (I.type.here (wpAny_bind (hb.here ?_)))
  split
  · rename_i q
    have e : subIn K tb (.ref C) = some false := by
      rcases Bool.or_eq_true_iff.mp hn with e | e
      · rw [beq_iff_eq.mp e] at q; simp at q
      · exact beq_iff_eq.mp e
    refine wpAny_bind ((looks_subIn X e).here ?_)
    rw [if_neg (by decide)]
    refine wpAny_bind (wpAny_mono one (fun r s' z => ?_) fun _ _ e => e)
    obtain ⟨v, rfl, hq⟩ := z
    exact wpAny_pure hq
  · refine wpAny_bind (wpAny_pure ?_)
    rw [if_neg (by decide)]
    refine wpAny_bind (wpAny_mono one (fun r s' z => ?_) fun _ _ e => e)
    obtain ⟨v, rfl, hq⟩ := z
    exact wpAny_pure hq
end
end PySem.W
namespace L2
open PySem PySem.Spec PyProof.Rows
section
variable {X : Cx} {CX : CXT} {C g : Addr} {k : Nat} {fd : FuncData} {ps : List Str} {sp : Sp} {E : XK}
/-- what the class's facts say beside its attributes -/
structure Two (K : PySem.W.Frag) (C : Addr) : Prop where
  self : PySem.W.selfFirst K C = true
  obj : PySem.W.mroIn K C (.type "object") = some true
  ne : PySem.W.findIn K (.ref C) "__ne__" = some (some (.builtin "object.__ne__"))
theorem run_own1 {pins : List (Addr × Obj)} {s : Shared} {σ : St} {H : Hp} {vs : List V} {us : List Value} {Q : VK} {R : Value → Shared → Prop} {A : Around} (F : FnOk X.prog X.w X.K X.mg X.base CX k g fd ps sp) (hr : Room k A) (hA : A.frames = X.A.frames) (hb : Binds X.K fd ps []) (hx : Passes CX X E)
    (I : Inv X pins σ H s) (r : Vals vs us) (q : sp vs H Q E) (hR : ∀ (w : Value) (z : V) (s' : Shared) (H' : Hp), Inv X pins σ H' s' → RelV z w → Q z H' → R w s') : wpAny (model X.prog X.w) A (call (.ref g) us) R X.xe s := by
  have hl := F.len _ _ _ _ q
  have e0 : Env0 X.prog X.w X.K X.mg X.base A X.stack s H := by
    have e := I.env0
    exact ⟨hA.trans e.frames, e.mod, e.bs, e.bsz, e.funs, e.frf, e.hok, e.bare⟩
  refine wpAny_call (codeAny_mono (F.run A X.stack s H ⟨us, []⟩ us vs _ E hr e0 (by
    have := hb s us I.kIn (by rw [List.append_nil, ← r.length]; exact hl)
    simpa using this) r q) fun r' s' hq => ?_)
  cases r' with
  | error e => exact hx pins σ H s e s' I hq
  | ok fl =>
    cases fl with
    | ret w =>
      obtain ⟨z, H', I', rz, q'⟩ := I.after hq
      exact hR w z s' H' I' rz q'
    | next => exact False.elim hq
    | brk => exact False.elim hq
    | cont => exact False.elim hq
def rOrO (C : Addr) (sp : Sp) (E : XK) : R2 := fun x y H Q => ∃ a dx fs b dy gs, x = .ref a ∧ H a = some (.ins C dx fs) ∧ y = .ref b ∧ H b = some (.ins C dy gs) ∧ sp [.ref a, .ref b] H (fun r H' => ∃ p, r = .ref p ∧ Q (.ref p) H') E
theorem op_orO (t : Two X.K C) (F : FnOk X.prog X.w X.K X.mg X.base CX k g fd ps sp) (hs : PySem.W.findIn X.K (.ref C) "__or__" = some (some (.ref g))) (hf : PySem.W.isFn X.K (.ref g) = true) (hr : Room k X.A) (hb : Binds X.K fd ps []) (hx : Passes CX X E) : OpR X (binaryOp .BitOr) (rOrO C sp E) := by
  intro pins s σ H x y v u Q I rx ry h
  obtain ⟨a, dx, fs, b, dy, gs, rfl, ha, rfl, hb', q⟩ := h
  cases rx
  cases ry
  obtain ⟨mA, J, _⟩ := ins_get I.hok ha
  obtain ⟨mB, J', _⟩ := ins_get I.hok hb'
  obtain ⟨od, J, _⟩ := J.look
  obtain ⟨od', J', _⟩ := J'.look
  obtain ⟨m, hF⟩ := I.fr
  refine PySem.W.binop_K (op := .BitOr) hF I.ok.mod.kin J J'.type t.self hs hf ?_
  refine run_own F hr hb hx I (show Vals [V.ref a, V.ref b] [Value.ref a, Value.ref b] from .cons rfl (.cons rfl .nil)) q fun w z s' H' I' rz qz => ?_
  obtain ⟨p, rfl, qp⟩ := qz
  cases rz
  exact ⟨.ref p, H', I', rfl, qp⟩
def rCmpO (C : Addr) (sp : Sp) (E : XK) (n : Bool) : R2 := fun x y H Q => ∃ a dx fs b dy gs, x = .ref a ∧ H a = some (.ins C dx fs) ∧ y = .ref b ∧ H b = some (.ins C dy gs) ∧ sp [.ref a, .ref b] H (fun r H' => ∃ c, r = .bl c ∧ Q (.bl (n != c)) H') E
theorem op_cmpO {op : CmpOp} {nm : Str} (hop : (PySem.cmpInfo op).2.1 = nm) (hcmp : ∀ a b, compareOp op a b = richCompare op a b) (F : FnOk X.prog X.w X.K X.mg X.base CX k g fd ps sp) (hs : PySem.W.findIn X.K (.ref C) nm = some (some (.ref g))) (hf : PySem.W.isFn X.K (.ref g) = true) (hr : Room k X.A) (hb : Binds X.K fd ps []) (hx : Passes CX X E) :
    OpR X (compareOp op) (rCmpO C sp E false) := by
  intro pins s σ H x y v u Q I rx ry h
  obtain ⟨a, dx, fs, b, dy, gs, rfl, ha, rfl, hb', q⟩ := h
  cases rx
  cases ry
  obtain ⟨mA, J, _⟩ := ins_get I.hok ha
  obtain ⟨mB, J', _⟩ := ins_get I.hok hb'
  obtain ⟨od, J, _⟩ := J.look
  obtain ⟨od', J', _⟩ := J'.look
  obtain ⟨m, hF⟩ := I.fr
  rw [hcmp]
  subst hop
  refine PySem.W.cmp_K (op := op) (tb := .ref C) hr.units0 hF I.ok.mod.kin J J'.type (by simp [PySem.W.notFirst]) hs hf ?_
  refine run_own F hr hb hx I (show Vals [V.ref a, V.ref b] [Value.ref a, Value.ref b] from .cons rfl (.cons rfl .nil)) q fun w z s' H' I' rz qz => ?_
  obtain ⟨c, rfl, qc⟩ := qz
  cases rz
  refine ⟨.bl c, H', I', rfl, ?_⟩
  cases c <;> exact qc
theorem op_neO (t : Two X.K C) (F : FnOk X.prog X.w X.K X.mg X.base CX k g fd ps sp) (hs : PySem.W.findIn X.K (.ref C) "__eq__" = some (some (.ref g))) (hf : PySem.W.isFn X.K (.ref g) = true) (hr : Room (k + 1) X.A) (hb : Binds X.K fd ps []) (hx : Passes CX X E) : OpR X (compareOp .NotEq) (rCmpO C sp E true) := by
  intro pins s σ H x y v u Q I rx ry h
  obtain ⟨a, dx, fs, b, dy, gs, rfl, ha, rfl, hb', q⟩ := h
  cases rx
  cases ry
  obtain ⟨mA, J, _⟩ := ins_get I.hok ha
  obtain ⟨mB, J', _⟩ := ins_get I.hok hb'
  obtain ⟨od, J, _⟩ := J.look
  obtain ⟨od', J', _⟩ := J'.look
  obtain ⟨m, hF⟩ := I.fr
  refine PySem.W.ne_own (tb := .ref C) (show X.A.units + 2 < cLine from Nat.lt_of_le_of_lt (Nat.add_le_add_left (by decide : 2 ≤ 64) _) hr.units) hF I.ok.mod.kin J J'.type (by simp [PySem.W.notFirst]) t.obj t.ne hs hf ?_
  refine run_own1 F hr.in1 rfl hb hx I (show Vals [V.ref a, V.ref b] [Value.ref a, Value.ref b] from .cons rfl (.cons rfl .nil)) q fun w z s' H' I' rz qz => ?_
  obtain ⟨c, rfl, qc⟩ := qz
  cases rz
  refine ⟨c, rfl, .bl (!c), H', I', rfl, ?_⟩
  cases c <;> exact qc
end
end L2

namespace L2
open PySem PySem.Spec PyProof.Rows
section
variable {X : Cx} {CX : CXT} {k i : Nat} {C f g : Addr} {fd : FuncData} {ps : List Str} {ds : List Value} {dvs : List V} {sp : Sp} {E : XK} {x : Str} {e : Expr} {es : List Expr} {t : TA} {p pos : Pos}
/-- c(e, ..), c a local name that holds the class at C -/
def tMakeV (i : Nat) (C : Addr) (sp : Sp) (dvs : List V) (E : XK) (t : TA) : TE := fun σ H Q => σ[i]? = some (some (.ref C)) ∧ tMake C sp dvs E t σ H Q
theorem pe_makeV (M : Mk X.K C f) (F : FnOk X.prog X.w X.K X.mg X.base CX k f fd ps sp) (hr : Room (k + 1) X.A) (hN : X.N[i]? = some x) (hv : Vis X.env.scope x) (hb : Binds X.K fd ps ds) (hd : Vals dvs ds) (hx : Passes CX X E)
    (ha : PA X (e :: es) t) (hdb : (x == ("__debug__" : Str)) = false := by decide) (hcd : (x == ("__classdict__" : Str)) = false := by decide)
    (he : starEach (e :: es) X.env = (false, eval e X.env) :: starEach es X.env := by rfl) (hpl : (backTo pos (starEach es X.env)).any (·.1) = false := by rfl) : PE X (.Call (.Name x p) (e :: es) [] pos) (tMakeV i C sp dvs E t) := by
  refine ⟨fun pins s σ H Q I h => ?_⟩
  obtain ⟨hs, h⟩ := h
  refine wpAny_Call_Name_kw (thn ((pe_var (pos := p) (i := i) hN hv hdb hcd).run pins s σ H (fun v H1 => v = .ref C ∧ H1 = H) I ⟨.ref C, hs, rfl, rfl⟩) fun u s1 ⟨v, H1, I1, r1, ev, eH⟩ => ?_)
  subst ev
  rw [eH] at I1
  cases r1
  refine PySem.W.callWith_K (h₀ := X.base) I.ok.mod.kin M.kp (thn (ha.run pos pins s1 σ H _ I1 h) fun us s2 ⟨vs, H2, I2, r, q⟩ => ⟨I2.kIn, ?_⟩) he hpl
  exact run_make M F hr hb hd hx I2 r q
/-- bool(x), x an instance with its own __bool__ -/
theorem call_boolO (F : FnOk X.prog X.w X.K X.mg X.base CX k g fd ps sp) (hs : PySem.W.findIn X.K (.ref C) "__bool__" = some (some (.ref g))) (hf : PySem.W.isFn X.K (.ref g) = true) (hr : Room (k + 2) X.A) (hb : Binds X.K fd ps []) (hx : Passes CX X E) :
    CallR X (.type "bool") (fun xs H Q => ∃ a dx fs, xs = [.ref a] ∧ H a = some (.ins C dx fs) ∧ sp [.ref a] H (fun r H' => ∃ c, r = .bl c ∧ Q (.bl c) H') E) := by
  intro pins s σ H xs us Q I r h
  obtain ⟨a, dx, fs, rfl, ha, q⟩ := h
  obtain rfl := Vals.ref1 r
  obtain ⟨mA, J, _⟩ := ins_get I.hok ha
  obtain ⟨od, J, _⟩ := J.look
  obtain ⟨m, hF⟩ := I.fr
  have go : ∀ (A' : Around), Room k A' → A'.frames = X.A.frames → wpAny (model X.prog X.w) A' (truthy (.ref a)) (fun b s' => EP X pins σ Q (.bool b) s') X.xe s := fun A' hr' hA => by
    refine PySem.W.truthy_K hF I.ok.mod.kin J hs hf ?_
    refine run_own1 F hr' hA hb hx I (show Vals [V.ref a] [Value.ref a] from .cons rfl .nil) q fun w z s' H' I' rz qz => ?_
    obtain ⟨c, rfl, qc⟩ := qz
    cases rz
    exact ⟨.bl c, H', I', rfl, qc⟩
  have mt : MeetsIn X.prog X.w (Builtin.«bool.__new__» ⟨[.type "bool", .ref a], []⟩) (fun A' R s' => s' = s ∧ wpAny (model X.prog X.w) A'.in1 (truthy (.ref a)) (fun b s'' => R (.ok (.ret (.bool b))) s'') (fun e s'' => R (.error e) s'') s) := by
    intro A' R s' h
    obtain ⟨rfl, h⟩ := h
    have f1 := PySem.F.conv_sub_bool
    unfold Builtin.«bool.__new__»
    refine wpAny_bind (m := isType (.type "bool")) (wpAny_pure ?_)
    rw [if_neg (by decide)]
    simp only [f1, pure_bind]
    rw [if_neg (by decide)]
    refine wpAny_bind (m := someArgs "bool" 0 1 { pos := [Value.ref a] }) (wpAny_pure ?_)
    refine wpAny_bind (wpAny_mono h (fun b s'' q' => ?_) fun _ _ e => e)
    exact wpAny_pure q'
  refine callType_newIn PySem.F.called_bool PySem.F.newNe_bool (PySem.F.typeCall_bool_1 _) (PySem.F.newCall_bool_1 _) (fun obj => PySem.F.args_object_init_2 obj _) PySem.F.entry_bool_new mt ⟨rfl, ?_⟩
  refine wpAny_mono (go X.A.in1.in1 hr.in1.in1 rfl) (fun b s' q => ?_) fun _ _ e => e
  exact ⟨rfl, q⟩
/-- own == a tuple -/
def rCmpT (K : PySem.W.Frag) (C : Addr) (sp : Sp) (E : XK) : R2 := fun x y H Q => ∃ a dx fs b xs, x = .ref a ∧ H a = some (.ins C dx fs) ∧ y = .ref b ∧ H b = some (.tup xs) ∧ sp [.ref a, .ref b] H (fun r H' => ∃ c, r = .bl c ∧ Q (.bl c) H') E
theorem op_eqT (F : FnOk X.prog X.w X.K X.mg X.base CX k g fd ps sp) (hn : PySem.W.notFirst X.K C (.type "tuple") = true) (hs : PySem.W.findIn X.K (.ref C) "__eq__" = some (some (.ref g))) (hf : PySem.W.isFn X.K (.ref g) = true) (hr : Room k X.A) (hb : Binds X.K fd ps []) (hx : Passes CX X E) :
    OpR X (compareOp .Eq) (rCmpT X.K C sp E) := by
  intro pins s σ H x y v u Q I rx ry h
  obtain ⟨a, dx, fs, b, xs, rfl, ha, rfl, hb', q⟩ := h
  cases rx
  cases ry
  obtain ⟨mA, J, _⟩ := ins_get I.hok ha
  obtain ⟨od, J, _⟩ := J.look
  obtain ⟨m, hF⟩ := I.fr
  obtain ⟨_, _, _, pp⟩ := (show ObjOk X.prog X.w H s.heap b (.tup xs) from I.hok b _ hb')
  obtain ⟨o, h1, h2, _⟩ := pp
  have LT : PySem.W.Looks (model X.prog X.w) s.heap (typeOf (.ref b)) (.type "tuple") := fun A Q E s k q => wpAny_typeOf_ref (k _ _ h1) (by rw [h2]; exact q)
  show wpAny _ _ (richCompare .Eq (.ref a) (.ref b)) _ _ _
  refine PySem.W.cmp_K (op := .Eq) (tb := .type "tuple") hr.units0 hF I.ok.mod.kin J LT hn hs hf ?_
  refine run_own F hr hb hx I (show Vals [V.ref a, V.ref b] [Value.ref a, Value.ref b] from .cons rfl (.cons rfl .nil)) q fun w z s' H' I' rz qz => ?_
  obtain ⟨c, rfl, qc⟩ := qz
  cases rz
  refine ⟨.bl c, H', I', rfl, ?_⟩
  cases c <;> exact qc
end
end L2

namespace L2
open PySem PySem.Spec PyProof.Rows
section
variable {X : Cx} {CX : CXT} {k : Nat} {C g : Addr} {fd : FuncData} {ps : List Str} {sp : Sp} {E : XK}
/-- str(x), x an instance with its own __str__ -/
theorem call_strO (F : FnOk X.prog X.w X.K X.mg X.base CX k g fd ps sp) (hs : PySem.W.findIn X.K (.ref C) "__str__" = some (some (.ref g))) (hf : PySem.W.isFn X.K (.ref g) = true) (hr : Room (k + 2) X.A) (hb : Binds X.K fd ps []) (hx : Passes CX X E) :
    CallR X (.type "str") (fun xs H Q => ∃ a dx fs, xs = [.ref a] ∧ H a = some (.ins C dx fs) ∧ sp [.ref a] H (fun r H' => ∃ z, r = .str z ∧ Q (.str z) H') E) := by
  intro pins s σ H xs us Q I r h
  obtain ⟨a, dx, fs, rfl, ha, q⟩ := h
  obtain rfl := Vals.ref1 r
  obtain ⟨mA, J, _⟩ := ins_get I.hok ha
  obtain ⟨od, J, _⟩ := J.look
  have h2 : Room k X.A.in1.in1 := hr.in1.in1
  refine PySem.W.kso_call (by have := h2.units; omega) I.kIn J hs hf ?_
  refine run_own1 F h2 rfl hb hx I (show Vals [V.ref a] [Value.ref a] from .cons rfl .nil) q fun w z s' H' I' rz qz => ?_
  obtain ⟨y, rfl, qy⟩ := qz
  obtain ⟨t, rfl⟩ := rz
  exact ⟨.str y, H', I', ⟨t, rfl⟩, qy⟩
end
theorem join_len (sep : Str) (l : List Str) : (PySem.Txt.join sep l).length ≤ (l.map (·.length)).sum + l.length * sep.length := by
  rw [show PySem.Txt.join sep l = PySem.Str.join sep l from PySem.StrLaws.glued_eq_join sep l]
  cases l with
  | nil => exact Nat.zero_le _
  | cons a r =>
    rw [len_join_cons, List.length_cons, Nat.add_mul]
    omega
/-- a number as a text -/
def iS (i : Int) : Str := Str.ofString (toString i)
theorem iS_len {i : Int} (h : i.natAbs.log2 < 1920) : (iS i).length ≤ 1921 := by
  have q := int_text_length_le (a := i) (k := 1920) (by decide) h
  unfold iS
  rw [PySem.ofString_length]; exact q
theorem iSs_len : ∀ {v : List Int}, (∀ i ∈ v, i.natAbs.log2 < 1920) → ((v.map iS).map (·.length)).sum ≤ 1921 * v.length
  | [], _ => Nat.le_refl _
  | i :: v, h => by
    have h1 := iS_len (h i List.mem_cons_self)
    have h2 := iSs_len (v := v) fun x hx => h x (List.mem_cons_of_mem _ hx)
    simp only [List.map_cons, List.sum_cons, List.length_cons]
    omega
/-- a vector as a text -/
def wS (v : List Int) : Str := PySem.Txt.join (Str.ofString " ") (v.map iS)
theorem wS_len {v : List Int} (h : ∀ i ∈ v, i.natAbs.log2 < 1920) : (wS v).length ≤ 1922 * v.length := by
  have h1 := iSs_len h
  have h2 := join_len (Str.ofString " ") (v.map iS)
  rw [List.length_map, show (Str.ofString " ").length = 1 by decide +kernel] at h2
  unfold wS; omega
theorem wSs_len : ∀ {B : List (List Int)} {n : Nat}, (∀ v ∈ B, v.length = n ∧ ∀ i ∈ v, i.natAbs.log2 < 1920) → ((B.map wS).map (·.length)).sum ≤ 1922 * n * B.length
  | [], _, _ => Nat.le_refl _
  | v :: B, n, h => by
    obtain ⟨l, h0⟩ := h v List.mem_cons_self
    have h1 := wS_len h0
    have h2 := wSs_len (B := B) (n := n) fun x hx => h x (List.mem_cons_of_mem _ hx)
    rw [l] at h1
    simp only [List.map_cons, List.sum_cons, List.length_cons, Nat.mul_add, Nat.mul_one]
    omega
end L2
namespace L2
open PySem PySem.Spec PyProof.Rows
theorem strOk_app (a b : Str) : PyData.strOk (a ++ b) = (PyData.strOk a && PyData.strOk b) := by
  show (a.cps ++ b.cps).all _ = _
  rw [Array.all_append]; rfl
theorem strOk_string (s : String) : PyData.strOk (Str.ofString s) = true := by
  rw [Str.ofString_eq_toList]
  show ((s.toList.map Char.toNat).toArray).all (fun n => decide (n < 0x110000)) = true
  rw [Array.all_eq_true']
  intro x hx
  rw [List.mem_toArray] at hx
  obtain ⟨c, _, rfl⟩ := List.mem_map.mp hx
  exact decide_eq_true (by
    have := c.valid
    have h2 : c.toNat = c.val.toNat := rfl
    rcases this with h | h
    · have : c.val.toNat < 0xD800 := h
      omega
    · have : c.val.toNat < 0x110000 := h.2
      omega)
theorem strOk_join {sep : Str} (hs : PyData.strOk sep = true) : ∀ {l : List Str}, (∀ x ∈ l, PyData.strOk x = true) → PyData.strOk (PySem.Txt.join sep l) = true := by
  have key : ∀ l : List Str, (∀ x ∈ l, PyData.strOk x = true) → PyData.strOk (PySem.Str.join sep l) = true := by
    intro l
    induction l with
    | nil =>
      intro _
      show PyData.strOk PySem.Str.empty = true
      decide +kernel
    | cons a r ih =>
      intro h
      cases r with
      | nil => exact h a List.mem_cons_self
      | cons b r =>
        show PyData.strOk (a ++ sep ++ PySem.Str.join sep (b :: r)) = true
        rw [strOk_app, strOk_app, h a List.mem_cons_self, hs, ih fun x hx => h x (List.mem_cons_of_mem _ hx)]; rfl
  intro l h
  rw [show PySem.Txt.join sep l = PySem.Str.join sep l from PySem.StrLaws.glued_eq_join sep l]
  exact key l h
theorem strOk_w (v : List Int) : PyData.strOk (wS v) = true := strOk_join (strOk_string _) fun x hx => by
  obtain ⟨i, _, rfl⟩ := List.mem_map.mp hx
  exact strOk_string _
theorem strs_shaped {l : List Str} (h : ∀ x ∈ l, PyData.strOk x = true) : SeqAt.shaped (.list (l.map PyData.str)) = true := by
  have h1 : ∀ l : List Str, (∀ x ∈ l, PyData.strOk x = true) → PyData.canLayAll0 (l.map PyData.str) = true ∧ PyData.depthAll (l.map PyData.str) = 0 := by
    intro l
    induction l with
    | nil => exact fun _ => ⟨rfl, rfl⟩
    | cons a r ih =>
      intro h
      obtain ⟨i1, i2⟩ := ih fun x hx => h x (List.mem_cons_of_mem _ hx)
      exact ⟨by simp only [List.map_cons, PyData.canLayAll0, PyData.canLay0, h a List.mem_cons_self, i1, Bool.and_self], by simp only [List.map_cons, PyData.depthAll, PyData.depth, i2]; rfl⟩
  obtain ⟨h2, h3⟩ := h1 l h
  show (PyData.canLay0 (.list (l.map PyData.str)) && decide (PyData.depth (.list (l.map PyData.str)) ≤ 64)) = true
  rw [Bool.and_eq_true]
  exact ⟨by simp only [PyData.canLay0]; exact h2, decide_eq_true (by simp only [PyData.depth, h3]; decide)⟩
theorem strs_dp {K : PySem.W.Frag} {H : Hp} : ∀ l : List Str, DpAll K H (l.map V.str) (l.map PyData.str)
  | [] => .nil
  | s :: l => .cons (.str s) (strs_dp l)
theorem strs_eqv (l : List Str) : PyData.eqv (.list (l.map PyData.str)) (.list []) = decide (l = []) := by
  cases l with
  | nil => decide +kernel
  | cons n v => simp [PyData.eqv, PyData.eqvAll]
end L2

namespace L2
open PySem PySem.Spec PyProof.Rows
namespace RD
open TL
theorem tl_nat (n : Nat) : tl (iS ((n : Nat) : Int)) = numL n := tl_num n
theorem tl_neg (n : Nat) : tl (iS (Int.negSucc n)) = 45 :: numL (n + 1) := by
  have e : (toString (Int.negSucc n) : String) = "-" ++ toString (((n + 1 : Nat)) : Int) := rfl
  have h : tl (iS (Int.negSucc n)) = (toString (Int.negSucc n) : String).toList.map Char.toNat := tl_ofString _
  rw [h, e, String.toList_append, List.map_append]
  have h2 : (toString (((n + 1 : Nat)) : Int) : String).toList.map Char.toNat = numL (n + 1) := by rw [← tl_ofString]; exact tl_num _
  rw [h2]; rfl
theorem numL_head : ∀ n : Nat, 0 < n → ∃ c r, numL n = c :: r ∧ 49 ≤ c ∧ c ≤ 57 := by
  intro n
  induction n using Nat.strongRecOn with
  | _ n ih =>
    intro hn
    by_cases h : n < 10
    · exact ⟨48 + n, [], numL_lt h, by omega, by omega⟩
    · obtain ⟨c, r, e, h1, h2⟩ := ih (n / 10) (by omega) (by omega)
      exact ⟨c, r ++ [48 + n % 10], by rw [numL_step (by omega), e]; rfl, h1, h2⟩
theorem starts_one (x y : Str) (c : Nat) (hy : tl y = [c]) : Txt.startswith x y = ((tl x).head? == some c) := by
  have ly : y.length = 1 := by rw [len_tl, hy]; rfl
  show (decide (0 + y.length ≤ x.length) && Builtin.Str.subAt x y 0) = _
  rw [PySem.StrLaws.subAt_eq, ly, show y.cps.toList = [c] from hy, List.drop_zero, len_tl, show x.cps.toList = tl x from rfl]
  generalize tl x = l
  cases l with
  | nil => rfl
  | cons a r =>
    show (decide (0 + 1 ≤ (a :: r).length) && ((a :: r).take 1 == [c])) = (some a == some c)
    rw [decide_eq_true (show 0 + 1 ≤ (a :: r).length by rw [List.length_cons]; omega), Bool.true_and]
    rw [Bool.eq_iff_iff, beq_iff_eq, beq_iff_eq]
    constructor
    · intro e; cases e; rfl
    · intro e; cases e; rfl
theorem cut_one (x y : Str) (c : Nat) (hx : tl x = c :: tl y) : cutS x (some 1) none = y := by
  apply ext_tl
  show ((x.cps.toList.drop (HT.sIx x.length 0 (some 1))).take (HT.sIx x.length x.length none - HT.sIx x.length 0 (some 1))) = _
  have lx : x.length = (tl y).length + 1 := by rw [len_tl, hx]; rfl
  have e1 : HT.sIx x.length 0 (some 1) = 1 := by
    rw [lx]
    show (min (1 : Int).toNat ((tl y).length + 1) : Nat) = 1
    show min 1 ((tl y).length + 1) = 1
    omega
  have e2 : HT.sIx x.length x.length none = x.length := rfl
  rw [e1, e2, show x.cps.toList = c :: tl y from hx, lx]
  show (tl y).take _ = _
  exact List.take_of_length_le (by omega)
theorem ascii_all {x : Str} (h : ∀ c ∈ tl x, c < 128) : Txt.isascii x = true := by
  show x.cps.all (fun c => decide (c < 128)) = true
  rw [← Array.all_toList, List.all_eq_true]
  exact fun c hc => decide_eq_true (h c hc)
theorem digit_all {x : Str} (hne : tl x ≠ []) (h : NumText.AllDigits (tl x)) : Txt.isdigit x = true := by
  show (decide (x.length > 0) && x.cps.all Unicode.isDigit) = true
  rw [decide_eq_true (by rw [len_tl]; exact List.length_pos_iff.mpr hne), Bool.true_and, ← Array.all_toList, List.all_eq_true]
  intro c hc
  have hd : ∀ c, c < 128 → 48 ≤ c → c ≤ 57 → Unicode.isDigit c = true := by decide +kernel
  obtain ⟨h1, h2⟩ := h c hc
  exact hd c (by omega) h1 h2
theorem free32 (i : Int) : 32 ∉ tl (iS i) := PyProof.Rows.int_text_free' 32 ⟨by decide, by decide⟩ i
theorem ne_plus (i : Int) : iS i ≠ "+" := fun e => by
  have := PyProof.Rows.int_text_free' 43 ⟨by decide, by decide⟩ i
  refine this ?_
  show 43 ∈ tl (iS i)
  rw [e]; decide +kernel
/-- the figures of a number -/
def figs (i : Int) : Str := iS ((i.natAbs : Nat) : Int)
theorem tl_figs (i : Int) : tl (figs i) = numL i.natAbs := tl_nat _
theorem figs_pos (n : Nat) : figs ((n : Nat) : Int) = iS ((n : Nat) : Int) := rfl
theorem minus (i : Int) : Txt.startswith (iS i) "-" = decide (i < 0) := by
  rw [starts_one _ _ 45 (by decide +kernel)]
  cases i with
  | ofNat n =>
    rw [show tl (iS (Int.ofNat n)) = numL n from tl_nat n, decide_eq_false (show ¬ Int.ofNat n < 0 from by simp)]
    have hd := numL_digits n
    cases h : numL n with
    | nil => exact absurd h (numL_ne n)
    | cons c r =>
      rw [h] at hd
      have := hd.head
      show (some c == some 45) = false
      exact beq_eq_false_iff_ne.mpr fun e => by injection e with e; omega
  | negSucc n =>
    rw [tl_neg, decide_eq_true (Int.negSucc_lt_zero n)]
    rfl
theorem cut_neg {i : Int} (h : i < 0) : cutS (iS i) (some 1) none = figs i := by
  cases i with
  | ofNat n => exact absurd h (by simp)
  | negSucc n => exact cut_one _ _ 45 (by rw [tl_neg, tl_figs]; rfl)
theorem figs_ascii (i : Int) : Txt.isascii (figs i) = true := ascii_all fun c hc => by
  rw [tl_figs] at hc
  have := numL_digits _ c hc
  omega
theorem figs_digit (i : Int) : Txt.isdigit (figs i) = true := digit_all (by rw [tl_figs]; exact numL_ne _) (by rw [tl_figs]; exact numL_digits _)
theorem figs_zero (i : Int) : Txt.startswith (figs i) "0" = decide (i = 0) := by
  rw [starts_one _ _ 48 (by decide +kernel), tl_figs]
  by_cases h : i = 0
  · subst h
    rw [show (0 : Int).natAbs = 0 from rfl, numL_lt (by decide), decide_eq_true rfl]; rfl
  · obtain ⟨c, r, e, h1, h2⟩ := numL_head i.natAbs (by omega)
    rw [e, decide_eq_false h]
    exact beq_eq_false_iff_ne.mpr fun e => by injection e with e; omega
theorem zero_text : iS 0 = "0" := by decide +kernel
theorem figs_le (i : Int) : (figs i).length ≤ (iS i).length := by
  rw [len_tl, len_tl, tl_figs]
  cases i with
  | ofNat n => rw [show tl (iS (Int.ofNat n)) = numL n from tl_nat n]; exact Nat.le_refl _
  | negSucc n => rw [tl_neg, List.length_cons]; exact Nat.le_succ _
theorem back (i : Int) (h : (iS i).length ≤ 4300) : intText? (iS i) = some i := by
  cases i with
  | ofNat n =>
    have : (numL n).length ≤ 4300 := by rw [len_tl, show tl (iS (Int.ofNat n)) = numL n from tl_nat n] at h; exact h
    exact int_num this
  | negSucc n =>
    have e := intText_neg (x := iS (Int.negSucc n)) (tl_neg n) (numL_digits _) (numL_ne _) h
    rw [e, numL_val]; rfl
theorem plus_minus : Txt.startswith "+" "-" = false := by decide +kernel
theorem plus_ascii : Txt.isascii "+" = true := by decide +kernel
theorem plus_digit : Txt.isdigit "+" = false := by decide +kernel
end RD
end L2

namespace L2
open PySem PySem.Spec PyProof.Rows
namespace RD
open TL
theorem joinL_app {S : List Nat} : ∀ {a b : List (List Nat)}, a ≠ [] → b ≠ [] → joinL S (a ++ b) = joinL S a ++ (S ++ joinL S b)
  | [], _, h, _ => absurd rfl h
  | [p], [], _, h => absurd rfl h
  | [p], q :: r, _, _ => rfl
  | p :: q :: r, b, _, hb => by
    show p ++ (S ++ joinL S ((q :: r) ++ b)) = (p ++ (S ++ joinL S (q :: r))) ++ (S ++ joinL S b)
    rw [joinL_app (a := q :: r) (by simp) hb, List.append_assoc, List.append_assoc]
/-- the words of a set's text -/
inductive Wd where
  | num (i : Int)
  | plus
def Wd.txt : Wd → Str
  | .num i => iS i
  | .plus => "+"
def wds (p : List Int) : List (List Int) → List Wd
  | [] => p.map .num
  | v :: B => p.map .num ++ .plus :: wds v B
def textP (p : List Int) (B : List (List Int)) : Str := PySem.Txt.join (Str.ofString " + ") ((p :: B).map wS)
theorem tl_wS (v : List Int) : tl (wS v) = joinL [32] ((v.map iS).map tl) := by
  unfold wS
  rw [join_eq, tl_join, show tl (Str.ofString " ") = [32] from by decide +kernel]
theorem num_txt (v : List Int) : (v.map Wd.num).map Wd.txt = v.map iS := by rw [List.map_map]; rfl
theorem wds_ne {p : List Int} (h : p ≠ []) : ∀ B, wds p B ≠ []
  | [] => fun e => h (List.map_eq_nil_iff.mp e)
  | v :: B => by simp [wds]
theorem text_words : ∀ (B : List (List Int)) (p : List Int), p ≠ [] → (∀ v ∈ B, v ≠ []) → textP p B = PySem.Txt.join (Str.ofString " ") ((wds p B).map Wd.txt) := by
  intro B
  induction B with
  | nil =>
    intro p hp _
    refine ext_tl ?_
    unfold textP
    rw [join_eq, join_eq, tl_join, tl_join, show tl (Str.ofString " ") = [32] from by decide +kernel]
    show tl (wS p) = joinL [32] (((p.map Wd.num).map Wd.txt).map tl)
    rw [num_txt, tl_wS]
  | cons v B ih =>
    intro p hp hB
    have hv := hB v List.mem_cons_self
    have e := congrArg tl (ih v hv fun x hx => hB x (List.mem_cons_of_mem _ hx))
    refine ext_tl ?_
    unfold textP at e ⊢
    rw [join_eq, join_eq, tl_join, tl_join, show tl (Str.ofString " ") = [32] from by decide +kernel, show tl (Str.ofString " + ") = [32, 43, 32] from by decide +kernel] at e ⊢
    show tl (wS p) ++ ([32, 43, 32] ++ joinL [32, 43, 32] (((v :: B).map wS).map tl)) = joinL [32] (((p.map Wd.num ++ Wd.plus :: wds v B).map Wd.txt).map tl)
    rw [e, List.map_append, List.map_append, joinL_app (by simpa using hp) (by simp), num_txt, tl_wS]
    have : joinL [32] (((Wd.plus :: wds v B).map Wd.txt).map tl) = [43] ++ ([32] ++ joinL [32] (((wds v B).map Wd.txt).map tl)) := by
      have hne := wds_ne hv B
      cases hw : wds v B with
      | nil => exact absurd hw hne
      | cons a r => rfl
    rw [this]; rfl
theorem txt_free (w : Wd) : 32 ∉ tl w.txt := by
  cases w with
  | num i => exact free32 i
  | plus => decide +kernel
theorem split_text {p : List Int} {B : List (List Int)} (hp : p ≠ []) (hB : ∀ v ∈ B, v ≠ []) : Txt.split (textP p B) (Str.ofString " ") = (wds p B).map Wd.txt := by
  rw [text_words B p hp hB]
  exact split_join (s := 32) (S := []) (by decide +kernel) (by decide +kernel) (fun e => wds_ne hp B (List.map_eq_nil_iff.mp e)) fun q hq => by
    obtain ⟨w, _, rfl⟩ := List.mem_map.mp hq
    exact txt_free w
/-! ## the reading -/
def lastV (R : List (List Int)) : List Int := R.getLast?.getD []
def fullB (R : List (List Int)) : Bool := decide ((lastV R).length > 0) && decide ((lastV R).length = (R.head?.getD []).length)
def rstep (R : List (List Int)) : Wd → Option (List (List Int))
  | .plus => if fullB R then some (R ++ [[]]) else none
  | .num i => if fullB R && decide (R.length > 1) then none else some (R.dropLast ++ [lastV R ++ [i]])
theorem lastV_snoc (R : List (List Int)) (z : List Int) : lastV (R ++ [z]) = z := by unfold lastV; rw [List.getLast?_concat]; rfl
/-- the first row -/
theorem read_first : ∀ (p a : List Int), (p.map Wd.num).foldlM rstep [a] = some [a ++ p]
  | [], a => by rw [List.append_nil]; rfl
  | i :: p, a => by
    have h := read_first p (a ++ [i])
    rw [List.append_assoc] at h
    rw [List.map_cons, List.foldlM_cons]
    have : rstep [a] (.num i) = some [a ++ [i]] := by
      show (if fullB [a] && decide ([a].length > 1) then none else some _) = _
      rw [show decide ([a].length > 1) = false from rfl, Bool.and_false]; rfl
    rw [this]
    exact h
theorem head_app {R : List (List Int)} (h : R ≠ []) (S : List (List Int)) : (R ++ S).head?.getD [] = R.head?.getD [] := by
  cases R with
  | nil => exact absurd rfl h
  | cons a r => rfl
/-- a later row -/
theorem read_row {R : List (List Int)} (hR : R ≠ []) : ∀ (p a : List Int), a.length + p.length ≤ (R.head?.getD []).length → (p.map Wd.num).foldlM rstep (R ++ [a]) = some (R ++ [a ++ p])
  | [], a, _ => by rw [List.append_nil]; rfl
  | i :: p, a, hl => by
    rw [List.length_cons] at hl
    have h := read_row hR p (a ++ [i]) (by rw [List.length_append]; show a.length + 1 + p.length ≤ _; omega)
    rw [List.append_assoc] at h
    rw [List.map_cons, List.foldlM_cons]
    have : rstep (R ++ [a]) (.num i) = some (R ++ [a ++ [i]]) := by
      show (if fullB (R ++ [a]) && decide ((R ++ [a]).length > 1) then none else some _) = _
      have : fullB (R ++ [a]) = false := by
        unfold fullB
        rw [lastV_snoc, head_app hR, decide_eq_false (show ¬ a.length = (R.head?.getD []).length by omega), Bool.and_false]
      rw [this, Bool.false_and, lastV_snoc, List.dropLast_concat]; rfl
    rw [this]
    exact h
theorem read_plus {R : List (List Int)} {z : List Int} (h0 : 0 < z.length) (h1 : z.length = ((R ++ [z]).head?.getD []).length) : rstep (R ++ [z]) .plus = some ((R ++ [z]) ++ [[]]) := by
  show (if fullB (R ++ [z]) then some _ else none) = _
  unfold fullB
  rw [lastV_snoc, decide_eq_true (show z.length > 0 from h0), decide_eq_true h1]; rfl
theorem read_rest {n : Nat} (hn : 0 < n) : ∀ (B R : List (List Int)) (z : List Int), z.length = n → ((R ++ [z]).head?.getD []).length = n → (∀ v ∈ B, v.length = n) → ∀ v, v.length = n → (Wd.plus :: wds v B).foldlM rstep (R ++ [z]) = some (R ++ [z] ++ (v :: B))
  | [], R, z, hz, hh, _, v, hv => by
    rw [List.foldlM_cons, read_plus (by omega) (by omega)]
    show ((v.map Wd.num).foldlM rstep ((R ++ [z]) ++ [[]])) = _
    rw [read_row (by simp) v [] (by rw [hh, hv]; show 0 + n ≤ n; omega)]; rfl
  | u :: B, R, z, hz, hh, hB, v, hv => by
    rw [List.foldlM_cons, read_plus (by omega) (by omega)]
    show ((v.map Wd.num ++ Wd.plus :: wds u B).foldlM rstep ((R ++ [z]) ++ [[]])) = _
    rw [List.foldlM_append, read_row (by simp) v [] (by rw [hh, hv]; show 0 + n ≤ n; omega)]
    show (Wd.plus :: wds u B).foldlM rstep ((R ++ [z]) ++ [v]) = _
    rw [read_rest hn B (R ++ [z]) v hv (by rw [head_app (by simp)]; exact hh) (fun x hx => hB x (List.mem_cons_of_mem _ hx)) u (hB u List.mem_cons_self), List.append_assoc]; rfl
theorem read_all {n : Nat} (hn : 0 < n) (p : List Int) (B : List (List Int)) (hp : p.length = n) (hB : ∀ v ∈ B, v.length = n) : (wds p B).foldlM rstep [[]] = some (p :: B) := by
  cases B with
  | nil => exact read_first p []
  | cons v B =>
    show ((p.map Wd.num ++ Wd.plus :: wds v B).foldlM rstep [[]]) = _
    rw [List.foldlM_append, read_first p []]
    show (Wd.plus :: wds v B).foldlM rstep ([] ++ [p]) = _
    exact read_rest hn B [] p hp hp (fun x hx => hB x (List.mem_cons_of_mem _ hx)) v (hB v List.mem_cons_self)
/-- a run so far -/
theorem run_so_far {W : List Wd} {R0 E : List (List Int)} (h : W.foldlM rstep R0 = some E) (t : Nat) {w : Wd} {R : List (List Int)} (hw : W[t]? = some w) (hR : (W.take t).foldlM rstep R0 = some R) : ∃ R', rstep R w = some R' ∧ (W.take (t + 1)).foldlM rstep R0 = some R' := by
  have e : (W.take (t + 1)).foldlM rstep R0 = rstep R w := by
    rw [List.take_add_one, hw, List.foldlM_append, hR]
    show ([w].foldlM rstep R) = _
    rw [List.foldlM_cons]
    cases rstep R w <;> rfl
  have h2 := h
  rw [← List.take_append_drop (t + 1) W, List.foldlM_append, e] at h2
  cases hs : rstep R w with
  | none => rw [hs] at h2; cases h2
  | some R' => exact ⟨R', rfl, e.trans hs⟩
theorem wds_mem {p : List Int} {B : List (List Int)} {w : Wd} : w ∈ wds p B → w = .plus ∨ ∃ i, w = .num i ∧ (i ∈ p ∨ ∃ v ∈ B, i ∈ v) := by
  induction B generalizing p with
  | nil =>
    intro h
    obtain ⟨i, hi, rfl⟩ := List.mem_map.mp h
    exact .inr ⟨i, rfl, .inl hi⟩
  | cons v B ih =>
    intro h
    rcases List.mem_append.mp h with h | h
    · obtain ⟨i, hi, rfl⟩ := List.mem_map.mp h
      exact .inr ⟨i, rfl, .inl hi⟩
    · rcases List.mem_cons.mp h with h | h
      · exact .inl h
      · rcases ih h with h | ⟨i, e, h | ⟨u, hu, h⟩⟩
        · exact .inl h
        · exact .inr ⟨i, e, .inr ⟨v, List.mem_cons_self, h⟩⟩
        · exact .inr ⟨i, e, .inr ⟨u, List.mem_cons_of_mem _ hu, h⟩⟩
theorem wds_len {n : Nat} : ∀ (B : List (List Int)) (p : List Int), p.length = n → (∀ v ∈ B, v.length = n) → (wds p B).length + 1 = (n + 1) * (B.length + 1)
  | [], p, hp, _ => by show (p.map Wd.num).length + 1 = _; rw [List.length_map, hp]; simp
  | v :: B, p, hp, hB => by
    have := wds_len B v (hB v List.mem_cons_self) fun x hx => hB x (List.mem_cons_of_mem _ hx)
    show (p.map Wd.num ++ Wd.plus :: wds v B).length + 1 = _
    rw [List.length_append, List.length_map, hp, List.length_cons, List.length_cons, Nat.mul_add (n + 1) (B.length + 1) 1]
    omega
end RD
end L2

namespace L2
open PySem PySem.Spec PyProof.Rows
namespace RD
open TL
/-! ## words that may be none of a set's text -/
inductive Odd where
  | seven | minus | none' | ten | ex | dashes | word
def Odd.txt : Odd → Str
  | .seven => "07" | .minus => "-0" | .none' => "" | .ten => "1000000000" | .ex => "x" | .dashes => "--1" | .word => "none"
inductive Wx where
  | num (i : Int)
  | plus
  | bad (o : Odd)
def Wx.txt : Wx → Str
  | .num i => iS i
  | .plus => "+"
  | .bad o => o.txt
def Wd.up : Wd → Wx
  | .num i => .num i
  | .plus => .plus
theorem up_txt (w : Wd) : w.up.txt = w.txt := by cases w <;> rfl
/-- one more word -/
def xstep (R : List (List Int)) : Wx → Option (List (List Int))
  | .plus => if fullB R then some (R ++ [[]]) else none
  | .num i => if fullB R && decide (R.length > 1) then none else some (R.dropLast ++ [lastV R ++ [i]])
  | .bad _ => none
/-- the rows read, or the place of the first word with which none goes on -/
def go : Nat → List (List Int) → List Wx → Sum Nat (List (List Int))
  | k, R, [] => if (lastV R).length < (R.head?.getD []).length then .inl k else .inr R
  | k, R, w :: ws => match xstep R w with
    | none => .inl k
    | some R' => go (k + 1) R' ws
def reads (ws : List Wx) : Sum Nat (List (List Int)) := go 0 [[]] ws
theorem xstep_up (R : List (List Int)) (w : Wd) : xstep R w.up = rstep R w := by cases w <;> rfl
theorem go_up : ∀ (W : List Wd) (k : Nat) (R E : List (List Int)), W.foldlM rstep R = some E → (lastV E).length = (E.head?.getD []).length → go k R (W.map Wd.up) = .inr E
  | [], k, R, E, h, e => by
    have : R = E := Option.some.inj h
    subst this
    show (if _ then _ else _) = _
    rw [if_neg (by omega)]
  | w :: W, k, R, E, h, e => by
    rw [List.foldlM_cons] at h
    show (match xstep R w.up with | none => Sum.inl k | some R' => go (k + 1) R' (W.map Wd.up)) = _
    rw [xstep_up]
    cases hs : rstep R w with
    | none => rw [hs] at h; cases h
    | some R' =>
      rw [hs] at h
      exact go_up W (k + 1) R' E h e
theorem last_len {n : Nat} : ∀ (p : List Int) (B : List (List Int)), p.length = n → (∀ v ∈ B, v.length = n) → (lastV (p :: B)).length = n
  | p, [], hp, _ => hp
  | p, v :: B, _, hB => by
    have := last_len v B (hB v List.mem_cons_self) fun x hx => hB x (List.mem_cons_of_mem _ hx)
    have e : lastV (p :: v :: B) = lastV (v :: B) := by unfold lastV; rw [List.getLast?_cons_cons]
    rw [e]; exact this
/-- the text of a set is read to its vectors -/
theorem reads_set {n : Nat} (hn : 0 < n) (p : List Int) (B : List (List Int)) (hp : p.length = n) (hB : ∀ v ∈ B, v.length = n) : reads ((wds p B).map Wd.up) = .inr (p :: B) :=
  go_up _ 0 _ _ (read_all hn p B hp hB) (by rw [last_len p B hp hB]; exact hp.symm)
/-- the state at a word that is reached -/
def st : List (List Int) → List Wx → Option (List (List Int)) := fun R ws => ws.foldlM xstep R
theorem go_at : ∀ (ws : List Wx) (k : Nat) (R : List (List Int)) (t : Nat) (w : Wx) (R1 : List (List Int)), ws[t]? = some w → st R (ws.take t) = some R1 → go k R ws = match xstep R1 w with | none => .inl (k + t) | some R2 => go (k + t + 1) R2 (ws.drop (t + 1))
  | [], _, _, t, _, _, h, _ => by simp at h
  | a :: ws, k, R, 0, w, R1, h, hs => by
    have ea : a = w := by simpa using h
    have eR : R = R1 := Option.some.inj hs
    subst ea; subst eR; rfl
  | a :: ws, k, R, t + 1, w, R1, h, hs => by
    have h' : ws[t]? = some w := by simpa using h
    have hs' : (a :: ws.take t).foldlM xstep R = some R1 := hs
    rw [List.foldlM_cons] at hs'
    show (match xstep R a with | none => Sum.inl k | some R' => go (k + 1) R' ws) = _
    cases ha : xstep R a with
    | none => rw [ha] at hs'; cases hs'
    | some R' =>
      rw [ha] at hs'
      have := go_at ws (k + 1) R' t w R1 h' hs'
      rw [show k + 1 + t = k + (t + 1) by omega] at this
      exact this
theorem go_end : ∀ (ws : List Wx) (k : Nat) (R R1 : List (List Int)), st R ws = some R1 → go k R ws = if (lastV R1).length < (R1.head?.getD []).length then .inl (k + ws.length) else .inr R1
  | [], k, R, R1, h => by
    have : R = R1 := Option.some.inj h
    subst this; rfl
  | a :: ws, k, R, R1, h => by
    have h' : (a :: ws).foldlM xstep R = some R1 := h
    rw [List.foldlM_cons] at h'
    show (match xstep R a with | none => Sum.inl k | some R' => go (k + 1) R' ws) = _
    cases ha : xstep R a with
    | none => rw [ha] at h'; cases h'
    | some R' =>
      rw [ha] at h'
      have := go_end ws (k + 1) R' R1 h'
      rw [List.length_cons, show k + (ws.length + 1) = k + 1 + ws.length by omega]
      exact this
theorem st_next {ws : List Wx} {R R1 R2 : List (List Int)} {t : Nat} {w : Wx} (hw : ws[t]? = some w) (h : st R (ws.take t) = some R1) (h2 : xstep R1 w = some R2) : st R (ws.take (t + 1)) = some R2 := by
  unfold st at *
  rw [List.take_add_one, hw, List.foldlM_append, h]
  show ([w].foldlM xstep R1) = _
  rw [List.foldlM_cons, h2]; rfl
/-! ## what stands along the way: all rows but the last are as wide as the first, the last no wider -/
structure Fit (R : List (List Int)) : Prop where
  ne : R ≠ []
  fst : R.length = 1 ∨ 0 < (R.head?.getD []).length
  mid : ∀ v ∈ R.dropLast, v.length = (R.head?.getD []).length
  lst : (lastV R).length ≤ (R.head?.getD []).length
theorem fit0 : Fit [[]] := ⟨by simp, .inl rfl, (fun v hv => nomatch hv), Nat.le_refl _⟩
theorem lastV_one (v : List Int) : lastV [v] = v := rfl
theorem fit_step {R R' : List (List Int)} {w : Wx} (h : Fit R) (hs : xstep R w = some R') : Fit R' := by
  obtain ⟨R0, z, rfl⟩ : ∃ R0 z, R = R0 ++ [z] := ⟨R.dropLast, R.getLast h.ne, (List.dropLast_concat_getLast h.ne).symm⟩
  have hl := h.lst
  rw [lastV_snoc] at hl
  have hm := h.mid
  rw [List.dropLast_concat] at hm
  cases w with
  | bad o => cases hs
  | plus =>
    have hs' : (if fullB (R0 ++ [z]) then some ((R0 ++ [z]) ++ [[]]) else none) = some R' := hs
    by_cases hf : fullB (R0 ++ [z]) = true
    · rw [if_pos hf] at hs'
      have e := Option.some.inj hs'
      subst e
      unfold fullB at hf
      rw [Bool.and_eq_true, decide_eq_true_iff, decide_eq_true_iff, lastV_snoc] at hf
      refine ⟨by simp, .inr ?_, fun v hv => ?_, ?_⟩
      · rw [head_app (by simp)]; omega
      · rw [List.dropLast_concat] at hv
        rw [head_app (by simp)]
        rcases List.mem_append.mp hv with hv | hv
        · exact hm v hv
        · rw [List.mem_singleton.mp hv]; exact hf.2
      · rw [lastV_snoc]; exact Nat.zero_le _
    · rw [if_neg hf] at hs'; cases hs'
  | num i =>
    have hs' : (if fullB (R0 ++ [z]) && decide ((R0 ++ [z]).length > 1) then none else some ((R0 ++ [z]).dropLast ++ [lastV (R0 ++ [z]) ++ [i]])) = some R' := hs
    by_cases hf : (fullB (R0 ++ [z]) && decide ((R0 ++ [z]).length > 1)) = true
    · rw [if_pos hf] at hs'; cases hs'
    · rw [if_neg hf, List.dropLast_concat, lastV_snoc] at hs'
      have e := Option.some.inj hs'
      subst e
      cases R0 with
      | nil => exact ⟨by simp, .inl rfl, (fun v hv => nomatch hv), Nat.le_refl _⟩
      | cons a R0 =>
        have hd : ((a :: R0) ++ [z]).head?.getD [] = a := rfl
        rw [hd] at hl hm
        have h0 : 0 < a.length := by
          rcases h.fst with q | q
          · rw [List.length_append] at q; simp at q
          · exact q
        refine ⟨by simp, .inr h0, fun v hv => ?_, ?_⟩
        · rw [List.dropLast_concat] at hv; exact hm v hv
        · rw [lastV_snoc]
          show (z ++ [i]).length ≤ a.length
          rw [List.length_append]
          have : ¬ (fullB ((a :: R0) ++ [z]) = true ∧ ((a :: R0) ++ [z]).length > 1) := fun q => hf (by rw [Bool.and_eq_true, decide_eq_true_iff]; exact q)
          have l2 : ((a :: R0) ++ [z]).length > 1 := by rw [List.length_append, List.length_cons]; show R0.length + 1 + 1 > 1; omega
          have nf : ¬ (0 < z.length ∧ z.length = a.length) := fun q => this ⟨by unfold fullB; rw [lastV_snoc, hd, decide_eq_true (show z.length > 0 from q.1), decide_eq_true q.2]; rfl, l2⟩
          show z.length + 1 ≤ a.length
          omega
theorem fit_all : ∀ (ws : List Wx) (R R' : List (List Int)), Fit R → st R ws = some R' → Fit R'
  | [], R, R', h, e => by have : R = R' := Option.some.inj e
                          subst this; exact h
  | w :: ws, R, R', h, e => by
    have e' : (w :: ws).foldlM xstep R = some R' := e
    rw [List.foldlM_cons] at e'
    cases hs : xstep R w with
    | none => rw [hs] at e'; cases e'
    | some R1 =>
      rw [hs] at e'
      exact fit_all ws R1 R' (fit_step h hs) e'
/-- what is read: rows of one width -/
theorem reads_rows {ws : List Wx} {R : List (List Int)} (hne : ws ≠ []) (h : reads ws = .inr R) : ∃ p B, R = p :: B ∧ 0 < p.length ∧ ∀ v ∈ B, v.length = p.length := by
  have key : ∀ (ws : List Wx) (k : Nat) (R0 : List (List Int)), go k R0 ws = .inr R → st R0 ws = some R ∧ ¬ (lastV R).length < (R.head?.getD []).length := by
    intro ws
    induction ws with
    | nil =>
      intro k R0 h
      have h' : (if (lastV R0).length < (R0.head?.getD []).length then Sum.inl k else Sum.inr R0) = Sum.inr R := h
      by_cases hl : (lastV R0).length < (R0.head?.getD []).length
      · rw [if_pos hl] at h'; cases h'
      · rw [if_neg hl] at h'
        cases h'
        exact ⟨rfl, hl⟩
    | cons w ws ih =>
      intro k R0 h
      have h' : (match xstep R0 w with | none => Sum.inl k | some R' => go (k + 1) R' ws) = Sum.inr R := h
      cases hs : xstep R0 w with
      | none => rw [hs] at h'; cases h'
      | some R' =>
        rw [hs] at h'
        obtain ⟨a, b⟩ := ih _ _ h'
        refine ⟨?_, b⟩
        show (w :: ws).foldlM xstep R0 = _
        rw [List.foldlM_cons, hs]; exact a
  obtain ⟨e, hl⟩ := key ws 0 [[]] h
  have f := fit_all ws _ _ fit0 e
  cases R with
  | nil => exact absurd rfl f.ne
  | cons p B =>
    have hd : (p :: B).head?.getD [] = p := rfl
    rw [hd] at hl
    have fl := f.lst
    have fm := f.mid
    rw [hd] at fl fm
    refine ⟨p, B, rfl, ?_, fun v hv => ?_⟩
    · rcases f.fst with q | q
      · have : B = [] := by
          have : B.length = 0 := by rw [List.length_cons] at q; omega
          exact List.length_eq_zero_iff.mp this
        subst this
        -- one row: the first word went into it
        cases ws with
        | nil => exact absurd rfl hne
        | cons w ws =>
          have grow : ∀ (ws : List Wx) (R0 : List (List Int)), (R0.length > 1 ∨ 0 < (lastV R0).length) → ∀ R1, st R0 ws = some R1 → R1.length > 1 ∨ 0 < (lastV R1).length := by
            intro ws
            induction ws with
            | nil => intro R0 h R1 e; have : R0 = R1 := Option.some.inj e
                     subst this; exact h
            | cons w ws ih =>
              intro R0 h R1 e
              have e' : (w :: ws).foldlM xstep R0 = some R1 := e
              rw [List.foldlM_cons] at e'
              cases hs : xstep R0 w with
              | none => rw [hs] at e'; cases e'
              | some R' =>
                rw [hs] at e'
                refine ih R' ?_ R1 e'
                cases w with
                | bad o => cases hs
                | plus =>
                  have hs' : (if fullB R0 then some (R0 ++ [[]]) else none) = some R' := hs
                  by_cases hf : fullB R0 = true
                  · rw [if_pos hf] at hs'
                    have q := Option.some.inj hs'
                    subst q
                    left
                    have : 0 < R0.length := by
                      cases R0 with
                      | nil => rcases h with h | h <;> simp [lastV] at h
                      | cons a r => simp
                    rw [List.length_append]; show R0.length + 1 > 1; omega
                  · rw [if_neg hf] at hs'; cases hs'
                | num i =>
                  have hs' : (if fullB R0 && decide (R0.length > 1) then none else some (R0.dropLast ++ [lastV R0 ++ [i]])) = some R' := hs
                  by_cases hf : (fullB R0 && decide (R0.length > 1)) = true
                  · rw [if_pos hf] at hs'; cases hs'
                  · rw [if_neg hf] at hs'
                    have q := Option.some.inj hs'
                    subst q
                    right
                    rw [lastV_snoc, List.length_append]; show 0 < _ + 1; omega
          have e' : (w :: ws).foldlM xstep [[]] = some [p] := e
          rw [List.foldlM_cons] at e'
          cases hs : xstep [[]] w with
          | none => rw [hs] at e'; cases e'
          | some R' =>
            rw [hs] at e'
            have g := grow ws R' (by
              cases w with
              | bad o => cases hs
              | plus =>
                have hs' : (if fullB [[]] = true then some ([[]] ++ [[]]) else none) = some R' := hs
                rw [if_neg (by decide)] at hs'
                cases hs'
              | num i =>
                have hs' : some [[i]] = some R' := hs
                have q := Option.some.inj hs'
                subst q
                exact .inr (by show 0 < 1; decide)) [p] e'
            rcases g with g | g
            · exact absurd g (by show ¬ 1 > 1; decide)
            · exact g
      · exact q
    · have e2 : p :: B = (p :: B).dropLast ++ [lastV (p :: B)] := by
        have := (List.dropLast_concat_getLast (l := p :: B) (by simp)).symm
        unfold lastV
        rw [List.getLast?_eq_some_getLast (by simp)]
        exact this
      have hv2 : v ∈ (p :: B).dropLast ++ [lastV (p :: B)] := by rw [← e2]; exact List.mem_cons_of_mem _ hv
      rcases List.mem_append.mp hv2 with q | q
      · exact fm v q
      · rw [List.mem_singleton.mp q]; omega
end RD
end L2

namespace L2
open PySem PySem.Spec PyProof.Rows RZ
section
variable {X : Cx}
/-- // by any number but 0 that the model divides itself -/
def CDivZ (i j : Int) : Prop := j ≠ 0 ∧ Builtin.divisionGoesByPylong i j = false
theorem op_fdivZ : OpR X (binaryOp .FloorDiv) (rI CDivZ fun i j => .int (i.fdiv j)) := opI fun _ _ _ _ _ _ _ hc q => floordiv_int hc.1 q (.inl hc.2)
/-- a for over a list or a tuple -/
def iSeq (K : PySem.W.Frag) (t : TE) : TI := fun σ H R => iList K t σ H R ∨ iTup K t σ H R
theorem pi_seq {tg l : Expr} {tl : TE} (h : PE X l tl) : PI X tg l (iSeq X.K tl) := ⟨fun pins s σ H R I q => q.elim ((pi_list h).run pins s σ H R I) ((pi_tup h).run pins s σ H R I)⟩
end
/-! ### enumerate(tuple) -/
def IteT (K : PySem.W.Frag) (a : Addr) : It :=
  ⟨fun i H => ∃ (ys : List V) (y : V), SqT K H a ys ∧ ys[i]? = some y,
   fun i H v H' => ∃ T y, v = .ref T ∧ H T = none ∧ H' = upd H T (.tup [.int (i : Nat), y]) ∧ ∀ ys, SqT K H a ys → ys[i]? = some y,
   fun i H => ∃ ys : List V, SqT K H a ys ∧ ys.length = i⟩
theorem turn_enumT {P : Program} {w : World} {K : PySem.W.Frag} {elts : List Expr} {kk : Nat} {tpos : Pos} (a e it : Addr) (hia : a ≠ it) (hea : a ≠ e) :
    Turn P w K (.Tuple elts kk tpos) (IteT K a) [e, it] e (fun i h => (∃ old, IsEnum h e it ((i : Nat) : Int) old) ∧ h.IsTupleIter it a i ∧ e ≠ it) where
  mem := List.mem_cons_self
  obj := fun i h st b hb => by
    obtain ⟨⟨old, he⟩, ⟨o, ho, _, hd⟩, _⟩ := st
    rcases List.mem_cons.mp hb with z | z
    · rw [z]
      exact ⟨_, he, fun v q => nomatch q⟩
    · rw [List.mem_singleton.mp z]
      exact ⟨o, ho, fun v q => by rw [hd] at q; cases q⟩
  keep := fun i h h' st k => by
    obtain ⟨⟨old, he⟩, hi, hne⟩ := st
    exact ⟨⟨old, k e (by simp) _ he⟩, hi.at fun o q => k it (by simp) o q, hne⟩
  item := by
    intro X hP hw hK hc i pins s σ H E I hf st hg
    subst hP hw hK
    obtain ⟨⟨old, he⟩, hit, hne⟩ := st
    obtain ⟨ys, y, hq, hy⟩ := hg
    obtain ⟨its, rv, p, hz⟩ := I.tuple hq
    obtain ⟨u, hu, ru⟩ := rv.get hy
    have hel : e < s.heap.objs.size := Heap.lt_size he
    have hil : it < s.heap.objs.size := by
      obtain ⟨_, q, _⟩ := id hit
      exact Heap.lt_size q
    have hsz : i < its.toArray.size := by
      rw [List.size_toArray]
      exact (List.getElem?_eq_some_iff.mp hu).1
    refine wpAny_pyNext_enum_itemD (Draws.tuple (A := X.A.in1) (I.ok.hd hc) it a hia its.toArray) he ⟨hit, p⟩ hsz hne (fun z => ?_) fun x h' tk hx ho st' hT hs1 hk => ?_
    · rcases List.mem_cons.mp z with z | z
      · exact hne z
      · exact hea (List.mem_singleton.mp z).symm
    have ex : x = u := by
      have z : its.toArray[i]? = some x := hx
      rw [show its.toArray[i]? = its[i]? by simp, hu] at z
      exact (Option.some.inj z).symm
    subst ex
    refine ⟨_, rfl, wpAny_letOwnedTupleGo_enum (s := { s with heap := h', toks := tk + 1 }) ho fun h'' he' sb => ?_⟩
    have hT2 : h''.get? s.heap.objs.size = some { cls := .type "tuple", data := .seq #[.int i tk, x] } := (sb.2 _ (Nat.ne_of_gt hel)).trans hT
    have new : ObjOk X.prog X.w (upd H s.heap.objs.size (.tup [.int (i : Nat), y])) h'' s.heap.objs.size (.tup [.int (i : Nat), y]) :=
      ⟨by show 2 ≤ sizeLine; decide, [.int i tk, x], .cons ⟨_, rfl⟩ (.cons ru .nil), _, hT2, rfl, _, rfl⟩
    have J : Inv X pins σ (upd H s.heap.objs.size (.tup [.int (i : Nat), y])) { s with heap := h'', toks := tk + 1 } :=
      I.turnedNew (ch := [e, it]) (fun b ob hb q => (sb.2 b fun z => hb (by simp [z])).trans (hk b ob (fun z => hb (by simp [z])) (fun z => hb (by simp [z])) q)) hf (Nat.le_refl _) new
    refine ⟨.ref s.heap.objs.size, _, J, rfl, ⟨_, y, rfl, I.hok.fresh (Nat.le_refl _), rfl, fun l hl => by rw [I.tuple_inj hl hq]; exact hy⟩, ⟨⟨x, ?_⟩, st'.1.at fun o q => (sb.2 it (Ne.symm hne)).trans q, hne⟩, fun b hb => ?_⟩
    · rw [show ((i + 1 : Nat) : Int) = (i : Int) + 1 by omega]
      exact he'
    · have hlt : b < s.heap.objs.size := by
        rcases List.mem_cons.mp hb with z | z
        · rw [z]; exact hel
        · rw [List.mem_singleton.mp z]; exact hil
      rw [upd_ne (Nat.ne_of_lt hlt)]
      exact (hf b hb).1
  done := by
    intro X hP hw hK hc i pins s σ H E I hf st hg
    subst hP hw hK
    obtain ⟨⟨old, he⟩, hit, hne⟩ := st
    obtain ⟨ys, hq, hy⟩ := hg
    obtain ⟨its, rv, p, hz⟩ := I.tuple hq
    obtain ⟨f0, f1, f2, f3, f4, f5⟩ := hf it (by simp)
    have hl := rv.length
    have hn : i = its.toArray.size := by rw [List.size_toArray]; omega
    subst hn
    exact wpAny_pyNext_enum_endD (Draws.tuple (A := X.A.in1) (I.ok.hd hc) it a hia its.toArray) he ⟨hit, p⟩ fun h' eb => ⟨rfl, I.turned (t' := s.toks) (fun b o hb q => eb b o hb q) f0 f1 f3 f4 f5⟩
  self := fun A i s Q E st h => by
    obtain ⟨⟨_, he⟩, _⟩ := st
    exact wpAny_pyIter_enum he h
theorem meets_enum_tup (t : Addr) (items : Array Value) : Meets (Builtin.«enumerate.__new__» ⟨[.type "enumerate", .ref t], []⟩) (fun _ R s => s.heap.IsTuple t items ∧
    R (.ok (.ret (.ref (s.heap.objs.size + 1)))) { s with heap := (s.heap.push { cls := .type "tuple_iterator", data := .fields #[.ref t, .int 0 0] }).push { cls := .type "enumerate", data := .fields #[.none, .bool false, .ref s.heap.objs.size, rawInt 0, .none, .none] } }) :=
  .of_wp fun prog w A R s h => by
    obtain ⟨hp, g, d, tk, os⟩ := s
    obtain ⟨ht, h⟩ := h
    have hsub := sub_enumerate
    have e1 : (hp.push { cls := .type "tuple_iterator", data := .fields #[.ref t, .int 0 0] }).objs.size = hp.objs.size + 1 := Heap.size_push ..
    have q1 : ∀ {A' : Around} {E : Value → Shared → Prop} {Q : Value → Shared → Prop}, Q (.ref hp.objs.size) ⟨hp.push { cls := .type "tuple_iterator", data := .fields #[.ref t, .int 0 0] }, g, d, tk, os⟩ →
        wpAny (model prog w) A' (pyIter (.ref t)) Q E ⟨hp, g, d, tk, os⟩ := fun q => wpAny_pyIter_tuple ht q
    wp_walk using q1
    refine wpAny_stack_any fun st => wpAny_pure ?_
    split
    · rename_i c _ _ _ _ _
      cases (c == Value.type "enumerate") <;> (wp_walk using q1; rw [e1]; exact ⟨_, rfl, h⟩)
    · wp_walk using q1
      rw [e1]; exact ⟨_, rfl, h⟩
theorem call_enum_tup {prog : Program} {w : World} {A : Around} {E : Value → Shared → Prop} {s : Shared} {t : Addr} {items : Array Value} {Q : Value → Shared → Prop} (ht : s.heap.IsTuple t items)
    (h : ∀ h', IsEnum h' (s.heap.objs.size + 1) s.heap.objs.size 0 .none → h'.IsTupleIter s.heap.objs.size t 0 → (∀ b o, s.heap.get? b = some o → h'.get? b = some o) → Q (.ref (s.heap.objs.size + 1)) { s with heap := h' }) :
    wpAny (model prog w) A (call (.type "enumerate") [.ref t]) Q E s := by
  refine callType_new F.called_enumerate (by decide) (F.typeCall_enumerate_1 _) (F.newCall_enumerate_1 _) (fun obj => F.args_object_init_2 obj _) F.entry_enumerate_new (meets_enum_tup t items) ⟨ht, ?_⟩
  have he : IsEnum ((s.heap.push { cls := .type "tuple_iterator", data := .fields #[.ref t, .int 0 0] }).push { cls := .type "enumerate", data := .fields #[.none, .bool false, .ref s.heap.objs.size, rawInt 0, .none, .none] }) (s.heap.objs.size + 1) s.heap.objs.size 0 .none := by
    heap_get
  exact ⟨⟨_, he, rfl⟩, h _ he ⟨_, Heap.get?_push_of_some _ (Heap.get?_push_size _ rfl), rfl, rfl⟩ fun b o x => Heap.get?_push_of_some _ (Heap.get?_push_of_some _ x)⟩
def iEnumT (K : PySem.W.Frag) (ta : TA) : TI := fun σ H R => ta σ H fun vs H1 => ∃ a ys, vs = [.ref a] ∧ SqT K H1 a ys ∧ R (IteT K a) H1
theorem pi_enumT {X : Cx} {e : Expr} {ta : TA} {p pos tpos : Pos} {elts : List Expr} {kk : Nat} (hg : Gl X "enumerate") (hm : X.mg "enumerate" = none) (ha : PA X [e] ta) (hs : starEach [e] X.env = [(false, eval e X.env)] := by rfl) :
    PI X (.Tuple elts kk tpos) (.Call (.Name "enumerate" p) [e] [] pos) (iEnumT X.K ta) := by
  refine ⟨fun pins s σ H R I h => Call_ (ld_blt I hg hm boot_enumerate (PyProof.Rows.callWith_type1 (thn (ha.run pos pins s σ H _ I h) fun us s1 z => ?_) hs rfl))⟩
  obtain ⟨vs, H1, I1, r1, a, ys, ex, hq, q⟩ := z
  subst ex
  match us, r1 with
  | [u], .cons r .nil =>
    obtain rfl : u = Value.ref a := r
    obtain ⟨its, rv, pt, hz⟩ := I1.tuple hq
    have la : a < s1.heap.objs.size := by
      obtain ⟨o, ho, _⟩ := id pt
      exact Heap.lt_size ho
    refine call_enum_tup (items := its.toArray) pt fun h' he hit hk => wpAny_pyIter_enum he ?_
    have I2 : Inv X pins σ H1 { s1 with heap := h' } := I1.kept (t' := s1.toks) hk
    refine ⟨s1.heap.objs.size + 1, [s1.heap.objs.size + 1, s1.heap.objs.size], _, _, H1, rfl, I2, turn_enumT a (s1.heap.objs.size + 1) s1.heap.objs.size (Nat.ne_of_lt la) (Nat.ne_of_lt (Nat.lt_succ_of_lt la)), ⟨⟨.none, he⟩, hit, Nat.succ_ne_self _⟩, fun b hb => ?_, q⟩
    have hle : s1.heap.objs.size ≤ b := by
      rcases List.mem_cons.mp hb with z | z
      · rw [z]; exact Nat.le_succ _
      · rw [List.mem_singleton.mp z]; exact Nat.le_refl _
    exact I1.fpOk hle (I1.hok.fresh hle)
theorem walk_enumT {K : PySem.W.Frag} {a : Addr} {ys : List V} : Walk (IteT K a) ys.length (fun H => SqT K H a ys) (YPair (fun i => some (.int (i : Nat))) (fun i => ys[i]?)) := by
  refine ⟨fun i H hi h => ⟨ys, ys[i], h, List.getElem?_eq_getElem hi⟩, fun H h => ⟨ys, h, rfl⟩, fun i H x H' hi h y => ?_⟩
  obtain ⟨T, z, e1, e2, e3, e4⟩ := y
  exact ⟨T, _, z, e1, e2, e3, rfl, e4 ys h⟩
theorem walk_zipT {K : PySem.W.Frag} {a b : Addr} {xs ys : List V} {n : Nat} (hn : n = min xs.length ys.length) : Walk (ItzT K a b) n (fun H => SqT K H a xs ∧ SqT K H b ys) (YPair (fun i => xs[i]?) (fun i => ys[i]?)) := by
  refine ⟨fun i H hi h => ⟨xs, ys, xs[i]'(by omega), ys[i]'(by omega), h.1, h.2, List.getElem?_eq_getElem _, List.getElem?_eq_getElem _⟩, fun H h => ⟨xs, ys, h.1, h.2, by omega⟩, fun i H x H' hi h y => ?_⟩
  obtain ⟨T, z, z2, e1, e2, e3, e4, e5⟩ := y
  exact ⟨T, z, z2, e1, e2, e3, e4 xs h.1, e5 ys h.2⟩
end L2

namespace L2
open PySem PySem.Spec PyProof.Rows
/-! ### a def that a def calls, by its name -/
def Has (P : Program) (w : World) (K : PySem.W.Frag) (mg : Str → Option Value) (base : Heap) (k : Nat) (nm : Str) (ps : List Str) (sp : Sp) : Prop :=
  ∃ (f : Addr) (fd : FuncData), FnOk P w K mg base CX0 k f fd ps sp ∧ mg nm = some (.ref f) ∧ PySem.W.keepIn K (.ref f) = true ∧ Binds K fd ps []
theorem pe_callHas {X : Cx} {k : Nat} {x : Str} {ps : List Str} {sp : Sp} {p pos : Pos} {e : Expr} {es : List Expr} {t : TA} (G : Has X.prog X.w X.K X.mg X.base k x ps sp) (hr : Room k X.A) (hg : Gl X x) (ha : PA X (e :: es) t)
    (hdb : (x == ("__debug__" : Str)) = false := by decide) (he : starEach (e :: es) X.env = (false, eval e X.env) :: starEach es X.env := by rfl) (hpl : (backTo pos (starEach es X.env)).any (·.1) = false := by rfl) :
    PE X (.Call (.Name x p) (e :: es) [] pos) (tCall sp [] E0 t) := by
  obtain ⟨f, fd, F, m, kp, b⟩ := G
  exact pe_call F hr hg m kp b .nil pass0 ha hdb he hpl
/-- where a def of the text stands behind the top -/
def DefAt (K : PySem.W.Frag) (mg : Str → Option Value) (nm : Str) (st : Stmt) (ps : List Str) : Prop :=
  ∃ (f : Addr) (fd : FuncData), Fun K nm nm st f fd ∧ mg nm = some (.ref f) ∧ Binds K fd ps []
theorem DefAt.has {P : Program} {w : World} {K : PySem.W.Frag} {mg : Str → Option Value} {base : Heap} {k : Nat} {nm : Str} {st : Stmt} {N ps : List Str} {sp : Sp} (F : DefAt K mg nm st ps) (S : FnScope N ps (defScope st)) (len : ∀ vs H Q E, sp vs H Q E → vs.length = ps.length)
    (hbody : ∀ (f : Addr) (cdv : Value) (A : Around) (outer : List Env) (s : Shared) (H : Hp) (vs : List V) (Q : VK) (E : XK), Room k (A.deeper (envOfC nm (defScope st) s.heap.objs.size f cdv)) → sp vs H Q E →
      ∃ t, PSs (cxOf CX0 P w K mg base N nm (defScope st) f cdv A outer s H E).nox (defBody st) t ∧ t { nx := fun _ H' => Q .non H', rt := Q } (start N vs) H) : Has P w K mg base (k + 1) nm ps sp := by
  obtain ⟨f, fd, F, m, b⟩ := F
  exact ⟨f, fd, F.ok S len (hbody f), m, F.kp, b⟩
end L2

/-! ## vectors: what the defs compute -/
namespace Lat
abbrev Vec := List Int
def addV (v : Vec) (t : Int) (w : Vec) : Vec := List.zipWith (fun n m => n + t * m) v w
def dotV (f v : Vec) : Int := (List.zipWith (fun n t => n * t) v f).sum
def piv : Vec → Nat
  | [] => 0
  | x :: v => if x ≠ 0 then 0 else piv v + 1
def itm (v : Vec) (i : Nat) : Int := v.getD i 0
def redV : List Vec → Vec → Vec
  | [], v => v
  | r :: rs, v => redV rs (addV v (-((itm v (piv r)).fdiv (itm r (piv r)))) r)
def clr : Nat → Vec → Vec → Nat → Vec × Vec
  | 0, r, v, _ => (r, v)
  | n + 1, r, v, i => if itm v i = 0 then (r, v) else clr n v (addV r (-((itm r i).fdiv (itm v i))) v) i
def clear (r v : Vec) (i : Nat) : Vec × Vec := clr (itm v i).natAbs r v i
def stepGo : List Vec → Vec → List Vec × Vec
  | [], l => ([], l)
  | r :: rs, l => if piv l < piv r then (l :: (stepGo rs r).1, (stepGo rs r).2) else ((clear r l (piv r)).1 :: (stepGo rs (clear r l (piv r)).2).1, (stepGo rs (clear r l (piv r)).2).2)
def stepped (steps : List Vec) (v : Vec) : List Vec := if piv (stepGo steps v).2 = (stepGo steps v).2.length then (stepGo steps v).1 else (stepGo steps v).1 ++ [(stepGo steps v).2]
def posV (r : Vec) : Vec := if itm r (piv r) > 0 then r else addV r (-2) r
def tidy : List Vec → List Vec
  | [] => []
  | r :: rs => redV (tidy rs) (posV r) :: tidy rs
def grow (basis : List Vec) (v : Vec) : List Vec := if piv (redV basis v) = (redV basis v).length then basis else tidy (stepped basis (redV basis v))

theorem piv_le : ∀ v : Vec, piv v ≤ v.length
  | [] => Nat.le_refl _
  | x :: v => by
    have h := piv_le v
    unfold piv
    split
    · exact Nat.zero_le _
    · exact Nat.succ_le_succ h
theorem addV_len {v : Vec} {t : Int} {w : Vec} (h : v.length = w.length) : (addV v t w).length = v.length := by
  unfold addV
  rw [List.length_zipWith, h, Nat.min_self]
theorem itm_of {v : Vec} {i : Nat} (h : i < v.length) : v[i]? = some (itm v i) := by
  unfold itm
  rw [List.getD_eq_getElem?_getD, List.getElem?_eq_getElem h]; rfl
theorem itm_add {v w : Vec} {t : Int} (h : v.length = w.length) (i : Nat) : itm (addV v t w) i = itm v i + t * itm w i := by
  unfold itm addV
  by_cases hi : i < v.length
  · have hw : i < w.length := by omega
    rw [List.getD_eq_getElem?_getD, List.getD_eq_getElem?_getD, List.getD_eq_getElem?_getD, List.getElem?_zipWith, List.getElem?_eq_getElem hi, List.getElem?_eq_getElem hw]
    rfl
  · have hw : w.length ≤ i := by omega
    rw [List.getD_eq_getElem?_getD, List.getD_eq_getElem?_getD, List.getD_eq_getElem?_getD, List.getElem?_zipWith, List.getElem?_eq_none (by omega : v.length ≤ i), List.getElem?_eq_none hw]
    simp
theorem piv_spec : ∀ v : Vec, (∀ j, j < piv v → itm v j = 0) ∧ (piv v < v.length → itm v (piv v) ≠ 0)
  | [] => ⟨fun j h => absurd h (Nat.not_lt_zero _), fun h => absurd h (Nat.not_lt_zero _)⟩
  | x :: v => by
    obtain ⟨h1, h2⟩ := piv_spec v
    unfold piv
    split
    · next hx => exact ⟨fun j h => absurd h (Nat.not_lt_zero _), fun _ => hx⟩
    · next hx =>
      have hx0 : x = 0 := Decidable.not_not.mp hx
      refine ⟨fun j h => ?_, fun h => ?_⟩
      · cases j with
        | zero => exact hx0
        | succ j => exact h1 j (Nat.lt_of_succ_lt_succ h)
      · exact h2 (Nat.lt_of_succ_lt_succ h)
theorem clr_len : ∀ (n : Nat) (r v : Vec) (i : Nat), r.length = v.length → (clr n r v i).1.length = r.length ∧ (clr n r v i).2.length = r.length
  | 0, r, v, i, h => ⟨rfl, h.symm⟩
  | n + 1, r, v, i, h => by
    unfold clr
    split
    · exact ⟨rfl, h.symm⟩
    · have e := addV_len (t := -((itm r i).fdiv (itm v i))) h
      obtain ⟨a, b⟩ := clr_len n v (addV r (-((itm r i).fdiv (itm v i))) v) i (by rw [e, h])
      exact ⟨a.trans h.symm, b.trans h.symm⟩
end Lat

namespace K06
open PySem L2 RZ Lat
def top (i : Nat) : Stmt := PySem.Challenge.pw_sumlives_k11_texts_of_factors.main.body.getD i (.Pass ⟨0, 0, 0, 0⟩)
structure Txt (mg : Str → Option Value) : Prop where
  z_len : mg "len" = none
  z_abs : mg "abs" = none
  z_int : mg "int" = none
  z_max : mg "max" = none
  z_min : mg "min" = none
  z_range : mg "range" = none
  z_enumerate : mg "enumerate" = none
  z_isinstance : mg "isinstance" = none
  z_repr : mg "repr" = none
  z_zip : mg "zip" = none
  z_sum : mg "sum" = none
  z_all : mg "all" = none
  z_tuple : mg "tuple" = none
  z_list : mg "list" = none
  z_bool : mg "bool" = none
  z_sorted : mg "sorted" = none
  z_dict : mg "dict" = none
theorem new_at {H : Hp} {p : Addr} {o : HO} (h : H p = none) : Same H (upd H p o) ∧ upd H p o p = some o :=
  ⟨fun b u z => by rw [upd_ne (ne_of_none z h)]; exact z, upd_same⟩
/-- a tuple of ints -/
abbrev IsV (H : Hp) (a : Addr) (v : Vec) : Prop := H a = some (.tup (v.map V.int))
theorem Same.sqt {K : PySem.W.Frag} {H H' : Hp} {a : Addr} {xs : List V} (e : Same H H') (h : SqT K H a xs) : SqT K H' a xs := by
  rcases h with (h | ⟨o, h⟩) | h
  · exact .inl (.inl (e _ _ h))
  · exact .inl (.inr ⟨o, e _ _ h⟩)
  · exact .inr h
theorem map_at {v : Vec} {i : Nat} {x : V} (h : (v.map V.int)[i]? = some x) : ∃ n, v[i]? = some n ∧ x = V.int n := by
  rw [List.getElem?_map] at h
  cases e : v[i]? with
  | none => rw [e] at h; cases h
  | some n => rw [e] at h; exact ⟨n, rfl, (Option.some.inj h).symm⟩
theorem take_snoc {v : Vec} {i : Nat} {n : Int} (h : v[i]? = some n) : ((v.take (i + 1)).map V.int) = (v.take i).map V.int ++ [V.int n] := by
  rw [List.take_add_one, h, List.map_append]; rfl
theorem take_all {v : Vec} {n : Nat} (h : v.length = n) : (v.take n).map V.int = v.map V.int := by rw [← h, List.take_length]
section
variable {P : Program} {w : World} {K : PySem.W.Frag} {mg : Str → Option Value} {base : Heap}
theorem Has.imp {k : Nat} {nm : Str} {ps : List Str} {sp sp' : Sp} (h : Has P w K mg base k nm ps sp) (i : ∀ vs H Q E, sp' vs H Q E → sp vs H Q E) : Has P w K mg base k nm ps sp' := by
  obtain ⟨f, fd, F, m, kp, b⟩ := h
  exact ⟨f, fd, F.imp i, m, kp, b⟩
/-- ints, bools, None -/
inductive Flat : V → Bool → Prop where
  | int (i : Int) : Flat (.int i) true
  | bl (b : Bool) : Flat (.bl b) false
  | non : Flat .non false
abbrev s_is_integer : Stmt := top 2
abbrev n_is_integer : List Str := ["value"]
theorem sc_is_integer : FnScope n_is_integer ["value"] (defScope s_is_integer) := ⟨rfl, rfl, rfl, by decide +kernel, rfl, by decide +kernel, by decide +kernel⟩
def spIntG : Sp := fun vs H Q _ => ∃ (x : V) (b : Bool), vs = [x] ∧ Flat x b ∧ Q (.bl b) H
theorem ok_is_integerG (T : Txt mg) (F : DefAt K mg "is_integer" s_is_integer ["value"]) : Has P w K mg base 1 "is_integer" ["value"] spIntG := by
  refine F.has sc_is_integer (fun vs H Q E h => ?_) (fun f cdv A outer s H vs Q E hr h => ?_)
  · obtain ⟨x, b, rfl, _⟩ := h
    rfl
  · obtain ⟨x, b, rfl, fl, k⟩ := h
    refine ⟨_, (pss_one (ps_ret (pe_and (pe_callB call_isi (by rfl) T.z_isinstance (by decide +kernel) (pa_cons (pv 0) (pa_cons (pe_bltn (v := .ty "int") (by rfl) T.z_int (by decide +kernel) rfl) pa_nil))) (pe_one (pe_not (pe_callB call_isi (by rfl) T.z_isinstance (by decide +kernel) (pa_cons (pv 0) (pa_cons (pe_bltn (v := .ty "bool") (by rfl) T.z_bool (by decide +kernel) rfl) pa_nil)))))))), ?_⟩
    cases fl with
    | int i =>
      refine ⟨_, rfl, _, _, _, _, true, rfl, .ty _, .base (.int i), kit_ty (by decide +kernel), _, rfl, ?_⟩
      exact ⟨_, rfl, _, _, _, _, false, rfl, .ty _, .base (.int i), kit_ty (by decide +kernel), _, rfl, k⟩
    | bl b =>
      refine ⟨_, rfl, _, _, _, _, true, rfl, .ty _, .base (.bl b), kit_ty (by decide +kernel), _, rfl, ?_⟩
      exact ⟨_, rfl, _, _, _, _, true, rfl, .ty _, .base (.bl b), kit_ty (by decide +kernel), _, rfl, k⟩
    | non => exact ⟨_, rfl, _, _, _, _, false, rfl, .ty _, .base .non, kit_ty (by decide +kernel), _, rfl, k⟩
def spInt : Sp := fun vs H Q _ => ∃ i : Int, vs = [.int i] ∧ Q (.bl true) H
theorem ok_is_integer (g : Has P w K mg base 1 "is_integer" ["value"] spIntG) : Has P w K mg base 1 "is_integer" ["value"] spInt :=
  Has.imp g fun vs H Q E h => by
    obtain ⟨i, rfl, k⟩ := h
    exact ⟨_, _, rfl, .int i, k⟩
/-- a list, or a tuple of the run or of the text -/
def InSeq (K : PySem.W.Frag) (H : Hp) (l : Addr) (as : List V) : Prop := H l = some (.lst as) ∨ ((∀ H', Same H H' → SqT K H' l as) ∧ ∀ H', Same H H' → TyX K H' (.ref l) (.type "tuple"))
theorem InSeq.keep {K : PySem.W.Frag} {H H' : Hp} {l : Addr} {as : List V} (s : Same H H') (h : InSeq K H l as) : InSeq K H' l as := h.imp (s _ _) fun z => ⟨fun H2 t => z.1 H2 (s.trans t), fun H2 t => z.2 H2 (s.trans t)⟩
theorem InSeq.tup {K : PySem.W.Frag} {H : Hp} {l : Addr} {as : List V} (h : H l = some (.tup as)) : InSeq K H l as := .inr ⟨fun H' s => SqT.of (s _ _ h), fun H' s => .base (.tup (s _ _ h))⟩
theorem InSeq.kt {K : PySem.W.Frag} {H : Hp} {l : Addr} {o : Obj} {as : List V} (ho : K.lookup l = some o) (hc : o.cls = .type "tuple") (hq : ∀ H, SqT K H l as) : InSeq K H l as := .inr ⟨fun H' _ => hq H', fun H' _ => .kTuple ho hc⟩
abbrev s_is_sequence : Stmt := top 3
abbrev n_is_sequence : List Str := ["value"]
theorem sc_is_sequence : FnScope n_is_sequence ["value"] (defScope s_is_sequence) := ⟨rfl, rfl, rfl, by decide +kernel, rfl, by decide +kernel, by decide +kernel⟩
def spSeq (K : PySem.W.Frag) : Sp := fun vs H Q _ => ∃ (l : Addr) (xs : List V), vs = [.ref l] ∧ InSeq K H l xs ∧ ∀ H', Same H H' → Q (.bl true) H'
theorem ok_is_sequence (T : Txt mg) (F : DefAt K mg "is_sequence" s_is_sequence ["value"]) : Has P w K mg base 1 "is_sequence" ["value"] (spSeq K) := by
  refine F.has sc_is_sequence (fun vs H Q E h => ?_) (fun f cdv A outer s H vs Q E hr h => ?_)
  · obtain ⟨l, xs, rfl, _⟩ := h
    rfl
  · obtain ⟨l, xs, rfl, hl, k⟩ := h
    refine ⟨_, (pss_one (ps_ret (pe_callB call_isiT (by rfl) T.z_isinstance (by decide +kernel) (pa_cons (pv 0) (pa_cons (pe_tup (pa_cons (pe_bltn (v := .ty "list") (by rfl) T.z_list (by decide +kernel) rfl) (pa_cons (pe_bltn (v := .ty "tuple") (by rfl) T.z_tuple (by decide +kernel) rfl) pa_nil))) pa_nil))))), ?_⟩
    refine ⟨_, rfl, (by decide : 2 ≤ sizeLine), fun t ht => ?_⟩
    obtain ⟨s1, h1⟩ := new_at (o := .tup [.ty "list", .ty "tuple"]) ht
    rcases hl with hl | hq
    · exact ⟨_, t, _, _, _, true, rfl, h1, .cons (.ty _) (.cons (.ty _) .nil), .base (.lst (s1 _ _ hl)), kitAny_cons (b := true) (kit_ty (by decide +kernel)) (fun z => nomatch z) (fun _ => rfl), k _ s1⟩
    · exact ⟨_, t, _, _, _, true, rfl, h1, .cons (.ty _) (.cons (.ty _) .nil), hq.2 _ s1, kitAny_cons (b := false) (kit_ty (by decide +kernel)) (fun _ => kitAny_cons (b := true) (kit_ty (by decide +kernel)) (fun z => nomatch z) (fun _ => rfl)) (fun z => nomatch z), k _ s1⟩
abbrev s_added : Stmt := top 7
abbrev n_added : List Str := ["vector", "times", "other", "number", "more"]
theorem sc_added : FnScope n_added ["vector", "times", "other"] (defScope s_added) := ⟨rfl, rfl, rfl, by decide +kernel, rfl, by decide +kernel, by decide +kernel⟩
def spAdded : Sp := fun vs H Q _ => ∃ (a b : Addr) (t : Int) (v u : Vec), vs = [.ref a, .int t, .ref b] ∧ IsV H a v ∧ IsV H b u ∧ v.length = u.length ∧ v.length ≤ 1000 ∧ (∀ m ∈ u, CMulX t m) ∧ ∀ (H' : Hp) (p : Addr), Same H H' → IsV H' p (addV v t u) → Q (.ref p) H'
theorem ok_added (T : Txt mg) (F : DefAt K mg "added" s_added ["vector", "times", "other"]) : Has P w K mg base 1 "added" ["vector", "times", "other"] spAdded := by
  refine F.has sc_added (fun vs H Q E h => ?_) (fun f cdv A outer s H vs Q E hr h => ?_)
  · obtain ⟨a, b, t, v, u, rfl, _⟩ := h
    rfl
  · obtain ⟨a, b, t, v, u, rfl, hv, hu, hl, h1, hm, k⟩ := h
    refine ⟨_, (pss_one (ps_ret (pe_callTy call_tuple_of (by rfl) T.z_tuple (by decide +kernel) (pa_cons (pe_lc (own := [("number", 3), ("more", 4)]) (g := gTup K 2 (gCons (gName 3) (gCons (gName 4) gNil))) (by rfl) sc_added.nd (pi_zipA (by rfl) T.z_zip (pa_cons (pv 0) (pa_cons (pv 2) pa_nil))) (blkOk_by (own := [("number", 3), ("more", 4)]) (N := n_added) (sc := defScope s_added) (by decide +kernel)) (fun _ _ _ _ _ => (pg_tup rfl (pgs_cons (pg_name (i := 3) sc_added.nd rfl (Or.inl rfl)) (pgs_cons (pg_name (i := 4) sc_added.nd rfl (Or.inl rfl)) pgs_nil)))) (fun _ _ _ _ _ => pts_nil) (fun _ _ _ _ _ => (pe_op op_add (pv 3) (pe_op op_mulX (pv 1) (pv 4))))) pa_nil)))), ?_⟩
    have lv : (v.map V.int).length = v.length := List.length_map ..
    have lu : (u.map V.int).length = u.length := List.length_map ..
    have la : (addV v t u).length = v.length := addV_len hl
    have ln : min (v.map V.int).length (u.map V.int).length = v.length := by rw [lv, lu, hl, Nat.min_self]
    refine ⟨_, rfl, _, rfl, a, b, _, _, rfl, .inr ⟨SqT.of hv, SqT.of hu, fun D hD => lc_it (walk_zipT (xs := v.map V.int) (ys := u.map V.int) ln.symm) (fun i H' => Same H H' ∧ H' D = some (.lst (((addV v t u).take i).map V.int))) ?_ ?_ ?_ ?_⟩⟩
    · exact ⟨(new_at hD).1, upd_same⟩
    · exact fun i H' _ q => ⟨SqT.of (q.1 _ _ hv), SqT.of (q.1 _ _ hu)⟩
    · rintro i x H' H'' hi ⟨sm, hD'⟩ ⟨q, y1, y2, rfl, hq, rfl, e1, e2⟩
      obtain ⟨n, en, rfl⟩ := map_at e1
      obtain ⟨m, em, rfl⟩ := map_at e2
      refine ⟨q, _, rfl, SqT.of upd_same, rfl, _, _, rfl, _, _, rfl, rfl, rfl, ?_⟩
      refine ⟨_, rfl, _, rfl, _, rfl, _, _, rfl, rfl, hm m (List.mem_of_getElem? em), _, _, rfl, rfl, ?_⟩
      have nDq : D ≠ q := ne_of_none hD' hq
      refine ⟨_, (upd_ne nDq).trans hD', by rw [List.length_map, List.length_take]; exact Nat.lt_of_le_of_lt (Nat.le_trans (Nat.min_le_right _ _) (la ▸ h1)) (by decide), fun x o z => ?_, ?_⟩
      · rw [upd_ne (ne_of_none z hD)]
        exact (new_at hq).1 _ _ (sm _ _ z)
      · rw [upd_same, take_snoc (n := n + t * m)]
        unfold addV
        rw [List.getElem?_zipWith, en, em]
    · rintro H' ⟨sm, hD'⟩
      rw [take_all la] at hD'
      refine ⟨_, _, rfl, .inl ⟨SqL.of hD', fun p hp => ?_⟩⟩
      obtain ⟨sp, hp1⟩ := new_at (o := .tup ((addV v t u).map V.int)) hp
      exact k _ p (sm.trans sp) hp1
abbrev s_pivot_of : Stmt := top 8
abbrev n_pivot_of : List Str := ["vector", "at", "number"]
theorem sc_pivot_of : FnScope n_pivot_of ["vector"] (defScope s_pivot_of) := ⟨rfl, rfl, rfl, by decide +kernel, rfl, by decide +kernel, by decide +kernel⟩
def spPivot : Sp := fun vs H Q _ => ∃ (a : Addr) (v : Vec), vs = [.ref a] ∧ IsV H a v ∧ ∀ H', Same H H' → Q (.int ((piv v : Nat) : Int)) H'
theorem ok_pivot_of (T : Txt mg) (F : DefAt K mg "pivot_of" s_pivot_of ["vector"]) : Has P w K mg base 1 "pivot_of" ["vector"] spPivot := by
  refine F.has sc_pivot_of (fun vs H Q E h => ?_) (fun f cdv A outer s H vs Q E hr h => ?_)
  · obtain ⟨a, v, rfl, _⟩ := h
    rfl
  · obtain ⟨a, v, rfl, hv, k⟩ := h
    refine ⟨_, (pss_cons (ps_for PassesOwn.never rfl (pi_enumT (by rfl) T.z_enumerate (pa_cons (pv 0) pa_nil)) (pg_tup rfl (pgs_cons (pg_name (i := 1) sc_pivot_of.nd rfl (Or.inl rfl)) (pgs_cons (pg_name (i := 2) sc_pivot_of.nd rfl (Or.inl rfl)) pgs_nil))) (pss_one (ps_if (pt_cmpR op_ne (pv 2) pe_int (nomark _)) (pss_one (ps_ret (pv 1))) pss_nil)))
      (pss_one (ps_ret (pe_callB call_len (by rfl) T.z_len (by decide +kernel) (pa_cons (pv 0) pa_nil))))), ?_⟩
    obtain ⟨z0, z1⟩ := piv_spec v
    refine ⟨_, rfl, a, _, rfl, SqT.of hv, for_it (walk_enumT (ys := v.map V.int)) (fun i σ H' => Same H H' ∧ i ≤ piv v ∧ ∃ x y, σ = [some (.ref a), x, y]) ⟨Same.refl _, Nat.zero_le _, _, _, rfl⟩ (fun i σ H' _ q => SqT.of (q.1 _ _ hv)) ?_ ?_⟩
    · rintro i x σ H' H'' hi ⟨sm, hp, x1, x2, rfl⟩ ⟨q, y1, y2, rfl, hq, rfl, e1, e2⟩
      obtain ⟨n, en, rfl⟩ := map_at e2
      cases e1
      rw [List.length_map] at hi
      have ei : itm v i = n := by
        have q1 := itm_of hi
        rw [en] at q1
        exact (Option.some.inj q1).symm
      refine ⟨q, _, rfl, SqT.of upd_same, rfl, _, _, rfl, _, _, rfl, rfl, ?_⟩
      refine ⟨_, rfl, rfl, _, rfl, ?_⟩
      have s2 := sm.trans (new_at (o := .tup [.int ((i : Nat) : Int), .int n]) hq).1
      by_cases h0 : n = 0
      · subst h0
        have hlt : i < piv v := by
          rcases Nat.lt_or_ge i (piv v) with h | h
          · exact h
          · have e : i = piv v := Nat.le_antisymm hp h
            exact absurd ei (by rw [e]; exact z1 (by rw [← e]; exact hi))
        show if (!decide (V.int 0 = V.int 0)) = true then _ else _
        rw [decide_eq_true rfl]
        exact ⟨s2, hlt, _, _, rfl⟩
      · have e : i = piv v := by
          rcases Nat.lt_or_ge i (piv v) with h | h
          · exact absurd (ei.symm.trans (z0 i h)) h0
          · exact Nat.le_antisymm hp h
        show if (!decide (V.int n = V.int 0)) = true then _ else _
        rw [decide_eq_false (fun z => h0 (V.int.inj z))]
        refine ⟨_, rfl, ?_⟩
        rw [e] at s2 ⊢
        exact k _ s2
    · rintro σ H' ⟨sm, hp, x1, x2, rfl⟩
      have e : piv v = v.length := by
        rw [List.length_map] at hp
        exact Nat.le_antisymm (piv_le v) hp
      refine ⟨_, rfl, _, _, rfl, .inr ⟨_, SqT.of (sm _ _ hv), rfl⟩, ?_⟩
      rw [List.length_map, ← e]
      exact k _ sm
abbrev s_is_zero : Stmt := top 9
abbrev n_is_zero : List Str := ["vector"]
theorem sc_is_zero : FnScope n_is_zero ["vector"] (defScope s_is_zero) := ⟨rfl, rfl, rfl, by decide +kernel, rfl, by decide +kernel, by decide +kernel⟩
def spZero : Sp := fun vs H Q _ => ∃ (a : Addr) (v : Vec), vs = [.ref a] ∧ IsV H a v ∧ ∀ H', Same H H' → Q (.bl (decide (piv v = v.length))) H'
theorem ok_is_zero (T : Txt mg) (g_pivot_of : Has P w K mg base 1 "pivot_of" ["vector"] spPivot) (F : DefAt K mg "is_zero" s_is_zero ["vector"]) : Has P w K mg base 2 "is_zero" ["vector"] spZero := by
  refine F.has sc_is_zero (fun vs H Q E h => ?_) (fun f cdv A outer s H vs Q E hr h => ?_)
  · obtain ⟨a, v, rfl, _⟩ := h
    rfl
  · obtain ⟨a, v, rfl, hv, k⟩ := h
    refine ⟨_, (pss_one (ps_ret (pe_cmpR op_eq (pe_callHas g_pivot_of (hr.mono (by decide)) rfl (pa_cons (pv 0) pa_nil)) (pe_callB call_len (by rfl) T.z_len (by decide +kernel) (pa_cons (pv 0) pa_nil)) (nomark _)))), ?_⟩
    refine ⟨_, rfl, a, v, rfl, hv, fun H' sm => ⟨_, rfl, _, _, rfl, .inr ⟨_, SqT.of (sm _ _ hv), rfl⟩, rfl, ?_⟩⟩
    rw [List.length_map]
    have e : decide (V.int ((piv v : Nat) : Int) = V.int ((v.length : Nat) : Int)) = decide (piv v = v.length) := by
      by_cases h : piv v = v.length
      · rw [h, decide_eq_true rfl, decide_eq_true rfl]
      · rw [decide_eq_false h, decide_eq_false (fun z => h (by have := V.int.inj z; omega))]
    rw [e]
    exact k _ sm
abbrev s_is_width : Stmt := top 4
abbrev n_is_width : List Str := ["value"]
theorem sc_is_width : FnScope n_is_width ["value"] (defScope s_is_width) := ⟨rfl, rfl, rfl, by decide +kernel, rfl, by decide +kernel, by decide +kernel⟩
def spWidth : Sp := fun vs H Q _ => ∃ n : Int, vs = [.int n] ∧ 1 ≤ n ∧ Q (.bl true) H
theorem ok_is_width (T : Txt mg) (g_is_integer : Has P w K mg base 1 "is_integer" ["value"] spInt) (F : DefAt K mg "is_width" s_is_width ["value"]) : Has P w K mg base 2 "is_width" ["value"] spWidth := by
  refine F.has sc_is_width (fun vs H Q E h => ?_) (fun f cdv A outer s H vs Q E hr h => ?_)
  · obtain ⟨n, rfl, _⟩ := h
    rfl
  · obtain ⟨n, rfl, h1, k⟩ := h
    refine ⟨_, (pss_one (ps_ret (pe_and (pe_callHas g_is_integer (hr.mono (by decide)) rfl (pa_cons (pv 0) pa_nil)) (pe_one (pe_cmpR op_ge (pv 0) pe_int (nomark _)))))), ?_⟩
    refine ⟨_, rfl, n, rfl, _, rfl, _, rfl, _, _, rfl, rfl, ?_⟩
    show Q (.bl (decide (1 ≤ n))) H
    rw [decide_eq_true h1]
    exact k
theorem paired_get {α β : Type} {R : α → β → Prop} : ∀ {xs : List α} {ys : List β} {i : Nat} {x : α}, Paired R xs ys → xs[i]? = some x → ∃ y, ys[i]? = some y ∧ R x y
  | _, _, _, _, .nil, e => by simp at e
  | _, _, 0, x, .cons r _, e => by simp at e; subst e; exact ⟨_, rfl, r⟩
  | _, _, i + 1, x, .cons _ t, e => by
    obtain ⟨y, h1, h2⟩ := paired_get (i := i) (x := x) t (by simpa using e)
    exact ⟨y, by simpa using h1, h2⟩
theorem all_true : ∀ n : Nat, (List.replicate n true).all id = true
  | 0 => rfl
  | n + 1 => by rw [List.replicate_succ, List.all_cons, all_true n]; rfl
theorem rep_snoc (n : Nat) : (List.replicate (n + 1) true).map V.bl = (List.replicate n true).map V.bl ++ [V.bl true] := by
  rw [List.replicate_succ', List.map_append]; rfl
abbrev s_is_vector : Stmt := top 5
abbrev n_is_vector : List Str := ["value", "width", "part"]
theorem sc_is_vector : FnScope n_is_vector ["value", "width"] (defScope s_is_vector) := ⟨rfl, rfl, rfl, by decide +kernel, rfl, by decide +kernel, by decide +kernel⟩
/-- what is no tuple -/
inductive NoTup (H : Hp) : V → Prop where
  | non : NoTup H .non
  | int (i : Int) : NoTup H (.int i)
  | str (s : Str) : NoTup H (.str s)
  | lst {a : Addr} {xs : List V} (h : H a = some (.lst xs)) : NoTup H (.ref a)
theorem NoTup.ty {H : Hp} {x : V} (h : NoTup H x) : ∃ t : String, TyX K H x (.type t) ∧ (t = "NoneType" ∨ t = "int" ∨ t = "str" ∨ t = "list") := by
  cases h with
  | non => exact ⟨_, .base .non, .inl rfl⟩
  | int i => exact ⟨_, .base (.int i), .inr (.inl rfl)⟩
  | str s => exact ⟨_, .base (.str s), .inr (.inr (.inl rfl))⟩
  | lst h => exact ⟨_, .base (.lst h), .inr (.inr (.inr rfl))⟩
theorem noTup_kit {t : String} (h : t = "NoneType" ∨ t = "int" ∨ t = "str" ∨ t = "list") : PySem.W.kitOne K (.type t) (.type "tuple") = some false := by
  rcases h with h | h | h | h <;> subst h <;> exact kit_ty (by decide +kernel)
def spIsVectorG : Sp := fun vs H Q _ => ∃ (x : V) (n : Nat), vs = [x, .int ((n : Nat) : Int)] ∧
  ((∃ (a : Addr) (xs : List V) (bs : List Bool), x = .ref a ∧ H a = some (.tup xs) ∧ Paired Flat xs bs ∧ xs.length ≤ 1000 ∧ ∀ H', Same H H' → Q (.bl (decide (xs.length = n) && bs.all id)) H') ∨ (NoTup H x ∧ Q (.bl false) H))
theorem ok_is_vectorG (T : Txt mg) (g_is_integer : Has P w K mg base 1 "is_integer" ["value"] spIntG) (F : DefAt K mg "is_vector" s_is_vector ["value", "width"]) : Has P w K mg base 2 "is_vector" ["value", "width"] spIsVectorG := by
  refine F.has sc_is_vector (fun vs H Q E h => ?_) (fun f cdv A outer s H vs Q E hr h => ?_)
  · obtain ⟨x, n, rfl, _⟩ := h
    rfl
  · obtain ⟨x, n, rfl, h⟩ := h
    refine ⟨_, (pss_one (ps_ret (pe_and (pe_callB call_isi (by rfl) T.z_isinstance (by decide +kernel) (pa_cons (pv 0) (pa_cons (pe_bltn (v := .ty "tuple") (by rfl) T.z_tuple (by decide +kernel) rfl) pa_nil))) (pe_and (pe_cmpR op_eq (pe_callB call_len (by rfl) T.z_len (by decide +kernel) (pa_cons (pv 0) pa_nil)) (pv 1) (nomark _)) (pe_one (pe_callB (cr_all rfl) (by rfl) T.z_all (by decide +kernel) (pa_cons (pe_lc (own := [("part", 2)]) (g := gName 2) (by rfl) sc_is_vector.nd (pi_tup (pv 0)) (blkOk_by (own := [("part", 2)]) (N := n_is_vector) (sc := defScope s_is_vector) (by decide +kernel)) (fun _ _ _ _ _ => (pg_name (i := 2) sc_is_vector.nd rfl (Or.inl rfl))) (fun _ _ _ _ _ => pts_nil) (fun _ _ _ _ _ => (pe_callHas g_is_integer (hr.mono (by decide)) rfl (pa_cons (pv 2) pa_nil)))) pa_nil))))))), ?_⟩
    rcases h with ⟨a, xs, bs, rfl, ha, fl, h1, k⟩ | ⟨nt, k⟩
    · refine ⟨_, rfl, _, _, _, _, true, rfl, .ty _, .base (.tup ha), kit_ty (by decide +kernel), _, rfl, ?_⟩
      refine ⟨_, rfl, _, _, rfl, .inr ⟨_, SqT.of ha, rfl⟩, _, rfl, rfl, _, rfl, ?_⟩
      by_cases hn : xs.length = n
      · show if decide (V.int ((xs.length : Nat) : Int) = V.int ((n : Nat) : Int)) = true then _ else _
        rw [decide_eq_true (by rw [hn])]
        refine ⟨_, rfl, a, rfl, ⟨_, SqT.of ha⟩, fun D hD => lc_it (walk_tup (xs := xs)) (fun i H' => Same H H' ∧ H' D = some (.lst ((bs.take i).map V.bl))) ?_ ?_ ?_ ?_⟩
        · exact ⟨(new_at hD).1, upd_same⟩
        · exact fun i H' _ q => SqT.of (q.1 _ _ ha)
        · rintro i x H' H'' hi ⟨sm, hD'⟩ ⟨rfl, e1⟩
          obtain ⟨b, eb, fb⟩ := paired_get fl e1
          refine ⟨rfl, ?_⟩
          refine ⟨_, rfl, x, b, rfl, fb, ?_⟩
          refine ⟨_, hD', by rw [List.length_map, List.length_take]; exact Nat.lt_of_le_of_lt (Nat.le_trans (Nat.min_le_right _ _) (fl.length ▸ h1)) (by decide), fun x o z => ?_, ?_⟩
          · rw [upd_ne (ne_of_none z hD)]
            exact sm _ _ z
          · rw [upd_same, List.take_add_one, eb, List.map_append]; rfl
        · rintro H' ⟨sm, hD'⟩
          rw [show xs.length = bs.length from fl.length, List.take_length] at hD'
          refine ⟨_, _, rfl, SqL.of hD', ?_⟩
          have := k _ sm
          rw [decide_eq_true hn, Bool.true_and] at this
          exact this
      · show if decide (V.int ((xs.length : Nat) : Int) = V.int ((n : Nat) : Int)) = true then _ else _
        rw [decide_eq_false (fun z => hn (by have := V.int.inj z; omega))]
        have := k _ (Same.refl H)
        rw [decide_eq_false hn, Bool.false_and] at this
        exact this
    · obtain ⟨t, ty, ht⟩ := nt.ty (K := K)
      exact ⟨_, rfl, _, _, _, _, false, rfl, .ty _, ty, noTup_kit ht, _, rfl, k⟩
def spIsVector : Sp := fun vs H Q _ => ∃ (a : Addr) (v : Vec), vs = [.ref a, .int ((v.length : Nat) : Int)] ∧ IsV H a v ∧ v.length ≤ 1000 ∧ ∀ H', Same H H' → Q (.bl true) H'
theorem flat_ints : ∀ v : Vec, Paired Flat (v.map V.int) (List.replicate v.length true)
  | [] => .nil
  | n :: v => .cons (.int n) (flat_ints v)
theorem ok_is_vector (g : Has P w K mg base 2 "is_vector" ["value", "width"] spIsVectorG) : Has P w K mg base 2 "is_vector" ["value", "width"] spIsVector :=
  Has.imp g fun vs H Q E h => by
    obtain ⟨a, v, rfl, hv, h1, k⟩ := h
    refine ⟨_, _, rfl, .inl ⟨a, _, _, rfl, hv, flat_ints v, by rw [List.length_map]; exact h1, fun H' sm => ?_⟩⟩
    rw [List.length_map, decide_eq_true rfl, all_true]
    exact k _ sm
/-- a row of vectors of one width -/
def Rows (H : Hp) (n : Nat) (as : List V) (vs : List Vec) : Prop := Paired (fun x v => ∃ a, x = V.ref a ∧ IsV H a v) as vs ∧ ∀ v ∈ vs, v.length = n
theorem Rows.keep {H H' : Hp} {n : Nat} {as : List V} {vs : List Vec} (s : Same H H') (h : Rows H n as vs) : Rows H' n as vs :=
  ⟨Paired.mapP h.1 fun x v z => by obtain ⟨a, e, q⟩ := z; exact ⟨a, e, s _ _ q⟩, h.2⟩
theorem Rows.at {H : Hp} {n i : Nat} {as : List V} {vs : List Vec} {x : V} (h : Rows H n as vs) (e : as[i]? = some x) : ∃ a v, vs[i]? = some v ∧ x = .ref a ∧ IsV H a v ∧ v.length = n := by
  obtain ⟨v, ev, a, ea, q⟩ := paired_get h.1 e
  exact ⟨a, v, ev, ea, q, h.2 v (List.mem_of_getElem? ev)⟩
theorem Rows.len {H : Hp} {n : Nat} {as : List V} {vs : List Vec} (h : Rows H n as vs) : as.length = vs.length := Paired.length h.1
abbrev s_are_vectors : Stmt := top 6
abbrev n_are_vectors : List Str := ["value", "width", "part"]
theorem sc_are_vectors : FnScope n_are_vectors ["value", "width"] (defScope s_are_vectors) := ⟨rfl, rfl, rfl, by decide +kernel, rfl, by decide +kernel, by decide +kernel⟩
def spAreVectors (K : PySem.W.Frag) : Sp := fun vs H Q _ => ∃ (l : Addr) (as : List V) (rs : List Vec) (n : Nat), vs = [.ref l, .int ((n : Nat) : Int)] ∧ InSeq K H l as ∧ Rows H n as rs ∧ n ≤ 1000 ∧ rs.length ≤ 1000 ∧ ∀ H', Same H H' → Q (.bl true) H'
theorem ok_are_vectors (T : Txt mg) (g_is_sequence : Has P w K mg base 1 "is_sequence" ["value"] (spSeq K)) (g_is_vector : Has P w K mg base 2 "is_vector" ["value", "width"] spIsVector) (F : DefAt K mg "are_vectors" s_are_vectors ["value", "width"]) : Has P w K mg base 3 "are_vectors" ["value", "width"] (spAreVectors K) := by
  refine F.has sc_are_vectors (fun vs H Q E h => ?_) (fun f cdv A outer s H vs Q E hr h => ?_)
  · obtain ⟨l, as, rs, n, rfl, _⟩ := h
    rfl
  · obtain ⟨l, as, rs, n, rfl, hl, hrs, hn, h1, k⟩ := h
    refine ⟨_, (pss_one (ps_ret (pe_and (pe_callHas g_is_sequence (hr.mono (by decide)) rfl (pa_cons (pv 0) pa_nil)) (pe_one (pe_callB (cr_all rfl) (by rfl) T.z_all (by decide +kernel) (pa_cons (pe_lc (own := [("part", 2)]) (g := gName 2) (by rfl) sc_are_vectors.nd (pi_seq (pv 0)) (blkOk_by (own := [("part", 2)]) (N := n_are_vectors) (sc := defScope s_are_vectors) (by decide +kernel)) (fun _ _ _ _ _ => (pg_name (i := 2) sc_are_vectors.nd rfl (Or.inl rfl))) (fun _ _ _ _ _ => pts_nil) (fun _ _ _ _ _ => (pe_callHas g_is_vector (hr.mono (by decide)) rfl (pa_cons (pv 2) (pa_cons (pv 1) pa_nil))))) pa_nil)))))), ?_⟩
    refine ⟨_, rfl, l, as, rfl, hl, fun H1 s1 => ⟨_, rfl, ?_⟩⟩
    rcases hl with hl | hq
    · refine Or.inl ⟨_, rfl, l, rfl, ⟨_, SqL.of (s1 _ _ hl)⟩, fun D hD => lc_it (walk_list (xs := as)) (fun i H' => Same H1 H' ∧ H' D = some (.lst ((List.replicate i true).map V.bl))) ?_ ?_ ?_ ?_⟩
      · exact ⟨(new_at hD).1, upd_same⟩
      · exact fun i H' _ q => SqL.of (q.1 _ _ (s1 _ _ hl))
      · rintro i x H' H'' hi ⟨sm, hD'⟩ ⟨rfl, e1⟩
        obtain ⟨a, v, ev, rfl, hv, lv⟩ := (hrs.keep (s1.trans sm)).at e1
        refine ⟨rfl, ?_⟩
        refine ⟨_, rfl, _, rfl, a, v, (by rw [lv]; rfl), hv, by omega, fun H2 s2 => ?_⟩
        have hi' : i < rs.length := hrs.len ▸ hi
        refine ⟨_, s2 _ _ hD', by rw [List.length_map, List.length_replicate]; exact Nat.lt_of_le_of_lt (Nat.le_trans (Nat.le_of_lt hi') h1) (by decide), fun x o z => ?_, ?_⟩
        · rw [upd_ne (ne_of_none z hD)]
          exact s2 _ _ (sm _ _ z)
        · rw [upd_same, rep_snoc]
      · rintro H' ⟨sm, hD'⟩
        refine ⟨_, _, rfl, SqL.of hD', ?_⟩
        rw [all_true]
        exact k _ (s1.trans sm)
    · refine Or.inr ⟨_, rfl, l, rfl, ⟨_, hq.1 _ s1⟩, fun D hD => lc_it (walk_tup (xs := as)) (fun i H' => Same H1 H' ∧ H' D = some (.lst ((List.replicate i true).map V.bl))) ?_ ?_ ?_ ?_⟩
      · exact ⟨(new_at hD).1, upd_same⟩
      · exact fun i H' _ q => hq.1 _ (s1.trans q.1)
      · rintro i x H' H'' hi ⟨sm, hD'⟩ ⟨rfl, e1⟩
        obtain ⟨a, v, ev, rfl, hv, lv⟩ := (hrs.keep (s1.trans sm)).at e1
        refine ⟨rfl, ?_⟩
        refine ⟨_, rfl, _, rfl, a, v, (by rw [lv]; rfl), hv, by omega, fun H2 s2 => ?_⟩
        have hi' : i < rs.length := hrs.len ▸ hi
        refine ⟨_, s2 _ _ hD', by rw [List.length_map, List.length_replicate]; exact Nat.lt_of_le_of_lt (Nat.le_trans (Nat.le_of_lt hi') h1) (by decide), fun x o z => ?_, ?_⟩
        · rw [upd_ne (ne_of_none z hD)]
          exact s2 _ _ (sm _ _ z)
        · rw [upd_same, rep_snoc]
      · rintro H' ⟨sm, hD'⟩
        refine ⟨_, _, rfl, SqL.of hD', ?_⟩
        rw [all_true]
        exact k _ (s1.trans sm)
end
end K06

namespace K06
open PySem L2 RZ Lat
def figOf (z : Str) : Str := if cutS z none (some 1) = "-" then cutS z (some 1) none else z
def isNum (z : Str) : Bool := (decide (0 < (figOf z).length) && decide ((figOf z).length < 10)) && ((figOf z).cps.toList.filter fun c => !decide (c ∈ (Str.ofString "0123456789").cps.toList)).isEmpty && (!decide ((figOf z).cps.toList.head? = some 48) || decide (z = "0"))
theorem iteSf {b : Bool} {A B : Prop} (h : b = false) (k : B) : if b = true then A else B := by rw [h, if_neg (by decide)]; exact k
theorem iteSe {b : Bool} {A B : Prop} (h : b = true) (k : A) : if b = true then A else B := by rw [if_pos h]; exact k
section
variable {P : Program} {w : World} {K : PySem.W.Frag} {mg : Str → Option Value} {base : Heap}
abbrev s_law_is_number : Stmt := top 46
abbrev n_law_is_number : List Str := ["_law_word", "_law_digits", "_law_sign"]
theorem sc_law_is_number : FnScope n_law_is_number ["_law_word"] (defScope s_law_is_number) := ⟨rfl, rfl, rfl, by decide +kernel, rfl, by decide +kernel, by decide +kernel⟩
def spIsNum : Sp := fun vs H Q _ => ∃ z : Str, vs = [.str z] ∧ z.length ≤ 1000 ∧ PyData.strOk (figOf z) = true ∧ ∀ H', Same H H' → Q (.bl (isNum z)) H'
theorem ok_is_number (T : Txt mg) (F : DefAt K mg "_law_is_number" s_law_is_number ["_law_word"]) : Has P w K mg base 1 "_law_is_number" ["_law_word"] spIsNum := by
  refine F.has sc_law_is_number (fun vs H Q E h => ?_) (fun f cdv A outer s H vs Q E hr h => ?_)
  · obtain ⟨z, rfl, _⟩ := h
    rfl
  · have hu := hr.units
    obtain ⟨z, rfl, lz, okz, k⟩ := h
    refine ⟨_, (C8.pss_cut (ps_set (i := 1) sc_law_is_number.nd rfl (Or.inl rfl) (pe_ifExp (pt_cmpR op_eq (pe_slice sl_str (pv 0) po_none (po_some pe_int)) pe_str (nomark _)) (pe_slice sl_str (pv 0) (po_some pe_int) po_none) (pv 0)))
      (pss_cons (ps_if (PW.pt (pw_or (pt_not (pt_chain op_lt op_lt pe_int (pe_callB call_len (by rfl) T.z_len (by decide +kernel) (pa_cons (pv 1) pa_nil)) pe_int)) (pw_or1 (pt_cmpR (op_neD hu) (pe_lc (own := [("_law_sign", 2)]) (g := gName 2) (by rfl) sc_law_is_number.nd (pi_str (pv 1)) (blkOk_by (own := [("_law_sign", 2)]) (N := n_law_is_number) (sc := defScope s_law_is_number) (by decide +kernel)) (fun _ _ _ _ _ => (pg_name (i := 2) sc_law_is_number.nd rfl (Or.inl rfl))) (fun _ _ _ _ _ => (pts_one (pt_cmpR op_notIn_sign (pv 2) pe_str (by rfl)))) (fun _ _ _ _ _ => (pv 2))) (pe_lst pa_nil) (nomark _))))) (pss_one (ps_ret pe_bl)) pss_nil)
      (pss_one (ps_ret (pe_or (pe_cmpR op_ne (pe_ix ix_str (pv 1) pe_int (fun _ _ => rfl)) pe_str (nomark _)) (pe_one (pe_cmpR op_eq (pv 0) pe_str (nomark _)))))))), ?_⟩
    have lz' : z.length ≤ sizeLine := Nat.le_trans lz (by decide)
    have lf : (figOf z).length ≤ 1000 := by
      unfold figOf; split
      · exact Nat.le_trans (cutS_length _ _ _) lz
      · exact lz
    refine ⟨fun σ' H' => H' = H ∧ σ' = [some (.str z), some (.str (figOf z)), none], ?_, ?_⟩
    · refine ⟨_, rfl, _, rfl, _, rfl, lz', rfl, _, rfl, ?_⟩
      by_cases e : cutS z none (some 1) = "-"
      · refine iteSe (decide_eq_true (congrArg V.str e)) ?_
        refine ⟨_, rfl, _, rfl, _, rfl, lz', rfl, ?_⟩
        have : figOf z = cutS z (some 1) none := by unfold figOf; rw [if_pos e]
        rw [this]; rfl
      · refine iteSf (decide_eq_false fun q => e (V.str.inj q)) ?_
        refine ⟨_, rfl, rfl, ?_⟩
        have : figOf z = z := by unfold figOf; rw [if_neg e]
        rw [this]; rfl
    rintro σ' H' ⟨rfl, rfl⟩
    have key : ∀ d : Str, figOf z = d → isNum z = ((decide (0 < d.length) && decide (d.length < 10)) && (d.cps.toList.filter fun c => !decide (c ∈ (Str.ofString "0123456789").cps.toList)).isEmpty && (!decide (d.cps.toList.head? = some 48) || decide (z = "0"))) := fun d e => by unfold isNum; rw [e]
    generalize hd : figOf z = d at *
    rw [key d rfl] at k
    refine ⟨_, rfl, _, _, rfl, ⟨Nat.le_trans lf (by decide), rfl⟩, _, _, rfl, rfl, _, rfl, ?_⟩
    by_cases h0 : 0 < d.length
    case neg =>
      rw [decide_eq_false h0] at k
      exact iteSf (decide_eq_false (by omega)) ⟨_, rfl, iteSe rfl (k _ (Same.refl _))⟩
    rw [decide_eq_true h0] at k
    refine iteSe (decide_eq_true (by omega)) ?_
    refine ⟨_, _, rfl, rfl, _, rfl, ?_⟩
    by_cases h10 : d.length < 10
    case neg =>
      rw [decide_eq_false h10] at k
      have e : decide (((d.length : Nat) : Int) < 10) = false := decide_eq_false (by omega)
      rw [e]
      exact iteSe rfl (k _ (Same.refl _))
    rw [decide_eq_true h10] at k
    have e10 : decide (((d.length : Nat) : Int) < 10) = true := decide_eq_true (by omega)
    rw [e10]
    refine iteSf rfl ?_
    have oks : ∀ c ∈ d.cps.toList, PyData.strOk (⟨#[c]⟩ : Str) = true := fun c hc => by
      have h2 : d.cps.all (fun n => decide (n < 0x110000)) = true := okz
      rw [← Array.all_toList, List.all_eq_true] at h2
      have := h2 c hc
      show (#[c] : Array Nat).all (fun n => decide (n < 0x110000)) = true
      rw [← Array.all_toList]
      show ([c].all fun n => decide (n < 0x110000)) = true
      rw [List.all_cons, this]; rfl
    have ld : d.cps.toList.length = d.length := Array.length_toList
    refine ⟨_, rfl, d, rfl, fun D hD => lc_it (walk_str (z := d)) (fun t H2 => Same H' H2 ∧ H2 D = some (.lst ((((d.cps.toList.take t).filter fun c => !decide (c ∈ (Str.ofString "0123456789").cps.toList)).map fun c => (⟨#[c]⟩ : Str)).map V.str))) ⟨(new_at hD).1, upd_same⟩ (fun t H2 _ _ => trivial) ?_ ?_⟩
    · rintro t yv H2 H3 ht ⟨sm, hD'⟩ ⟨rfl, c, ec, rfl⟩
      refine ⟨rfl, _, rfl, c, _, rfl, rfl, _, rfl, ?_⟩
      have ec' : d.cps.toList[t]? = some c := by rw [Array.getElem?_toList]; exact ec
      have ltk : ((((d.cps.toList.take t).filter fun c => !decide (c ∈ (Str.ofString "0123456789").cps.toList)).map fun c => (⟨#[c]⟩ : Str)).map V.str).length < sizeLine := by
        rw [List.length_map, List.length_map]
        exact Nat.lt_of_le_of_lt (Nat.le_trans (List.length_filter_le _ _) (Nat.le_trans (List.length_take_le' _ _) (show d.cps.toList.length ≤ 10 by omega))) (by decide)
      generalize (Str.ofString "0123456789").cps.toList = Ds at *
      by_cases hc : c ∈ Ds
      · refine iteSf (by rw [decide_eq_true hc]; rfl) ⟨sm, ?_⟩
        rw [hD', List.take_add_one, ec', List.filter_append]
        have : [c].filter (fun c => !decide (c ∈ Ds)) = [] := by rw [List.filter_cons, if_neg (by rw [decide_eq_true hc]; decide)]; rfl
        show _ = some (HO.lst (((_ ++ [c].filter _).map _).map V.str))
        rw [this, List.append_nil]
      · refine iteSe (by rw [decide_eq_false hc]; rfl) ?_
        refine ⟨_, rfl, _, hD', ltk, fun y o w => by rw [upd_ne (ne_of_none w hD)]; exact sm _ _ w, ?_⟩
        rw [upd_same, List.take_add_one, ec', List.filter_append, List.map_append, List.map_append]
        have : [c].filter (fun c => !decide (c ∈ Ds)) = [c] := by rw [List.filter_cons, if_pos (by rw [decide_eq_false hc]; rfl)]; rfl
        show _ = some (HO.lst (_ ++ (([c].filter _).map _).map V.str))
        rw [this]; rfl
    · rintro H2 ⟨sm, hD'⟩
      rw [show d.cps.size = d.cps.toList.length from Array.length_toList.symm, List.take_length] at hD'
      refine ⟨Nat.zero_le _, fun z6 hz6 => ?_⟩
      obtain ⟨s6, hz6'⟩ := new_at (o := .lst []) hz6
      generalize hL : (d.cps.toList.filter fun c => !decide (c ∈ (Str.ofString "0123456789").cps.toList)) = L at *
      have okL : ∀ u ∈ L.map (fun c => (⟨#[c]⟩ : Str)), PyData.strOk u = true := fun u hu => by
        obtain ⟨c, hc, rfl⟩ := List.mem_map.mp hu
        rw [← hL] at hc
        exact oks c (List.mem_filter.mp hc).1
      refine ⟨.list ((L.map fun c => (⟨#[c]⟩ : Str)).map PyData.str), .list [], .lst (SqL.of (s6 _ _ hD')) (strs_dp _), .lst (SqL.of hz6') .nil, strs_shaped okL, by decide +kernel, _, rfl, ?_⟩
      rw [strs_eqv]
      have s26 := sm.trans s6
      cases L with
      | cons c L =>
        exact iteSe rfl (k _ s26)
      | nil =>
        refine iteSf rfl ?_
        obtain ⟨c, r, ecs⟩ : ∃ c r, d.cps.toList = c :: r := by
          cases h : d.cps.toList with
          | nil => rw [h] at ld; simp at ld; omega
          | cons c r => exact ⟨c, r, rfl⟩
        have k2 := k _ s26
        rw [ecs] at k2
        have at0 : atI d.cps.toList 0 = some c := by
          rw [ecs]
          unfold atI ixN
          rw [if_pos (by decide), if_pos (by rw [List.length_cons]; omega)]; rfl
        refine ⟨_, rfl, d, 0, c, rfl, rfl, Nat.le_trans lf (by decide), at0, rfl, ?_⟩
        have e48 : decide (V.str (⟨#[c]⟩ : Str) = V.str "0") = decide (c = 48) := decide_eq_decide.mpr ⟨fun q => by
          have := congrArg TL.tl (V.str.inj q)
          rw [show TL.tl (Str.ofString "0") = [48] from by decide +kernel] at this
          exact List.head_eq_of_cons_eq this, fun q => by rw [q]; exact congrArg V.str (TL.ext_tl (by decide +kernel))⟩
        have h48 : decide ((c :: r).head? = some 48) = decide (c = 48) := decide_eq_decide.mpr ⟨fun q => Option.some.inj q, fun q => by rw [q]; rfl⟩
        rw [h48] at k2
        rw [e48]
        refine ⟨_, rfl, ?_⟩
        by_cases hc : c = 48
        · rw [decide_eq_true hc] at k2 ⊢
          refine iteSf rfl ⟨_, rfl, rfl, ?_⟩
          have ez : decide (V.str z = V.str "0") = decide (z = "0") := decide_eq_decide.mpr ⟨fun q => V.str.inj q, fun q => by rw [q]⟩
          show Q (.bl (decide (V.str z = V.str "0"))) _
          rw [ez]
          exact k2
        · rw [decide_eq_false hc] at k2 ⊢
          exact iteSe rfl k2
end
end K06

namespace K06
open PySem L2 Lat
theorem cut_first (z : Str) : TL.tl (cutS z none (some 1)) = (TL.tl z).take 1 := by
  show ((z.cps.toList.drop (HT.sIx z.length 0 none)).take (HT.sIx z.length z.length (some 1) - HT.sIx z.length 0 none)) = _
  have e1 : HT.sIx z.length 0 none = 0 := rfl
  have lz : z.length = z.cps.toList.length := TL.len_tl z
  have e2 : HT.sIx z.length z.length (some 1) = min 1 z.length := by
    show HT.sIx z.length z.length (some ((1 : Nat) : Int)) = _
    exact HT.sIx_nat _ _ 1
  rw [e1, e2, List.drop_zero, Nat.sub_zero]
  show (TL.tl z).take (min 1 z.length) = _
  rw [lz]
  cases h : TL.tl z with
  | nil => simp
  | cons c r =>
    have : z.cps.toList = c :: r := h
    rw [this, List.length_cons, show min 1 (r.length + 1) = 1 by omega]
theorem first_minus (i : Int) : cutS (iS i) none (some 1) = "-" ↔ i < 0 := by
  have h1 : TL.tl (Str.ofString "-") = [45] := by decide +kernel
  constructor
  · intro e
    have := congrArg TL.tl e
    rw [cut_first, h1] at this
    cases i with
    | ofNat n =>
      rw [show TL.tl (iS (Int.ofNat n)) = TL.numL n from L2.RD.tl_nat n] at this
      have hd := TL.numL_digits n
      cases h : TL.numL n with
      | nil => exact absurd h (TL.numL_ne n)
      | cons c r =>
        rw [h] at this hd
        have := List.head_eq_of_cons_eq this
        have := hd.head
        omega
    | negSucc n => exact Int.negSucc_lt_zero n
  · intro h
    refine TL.ext_tl ?_
    rw [cut_first, h1]
    cases i with
    | ofNat n => exact absurd h (by simp)
    | negSucc n => rw [L2.RD.tl_neg]; rfl
theorem figOf_num (i : Int) : figOf (iS i) = L2.RD.figs i := by
  unfold figOf
  by_cases h : i < 0
  · rw [if_pos ((first_minus i).mpr h)]; exact L2.RD.cut_neg h
  · rw [if_neg fun e => h ((first_minus i).mp e)]
    unfold L2.RD.figs; exact congrArg iS (by omega)
/-- what both readers want of a word -/
def Nine : L2.RD.Wx → Prop
  | .num i => (L2.RD.figs i).length ≤ 9
  | _ => True
def isNumX : L2.RD.Wx → Bool
  | .num _ => true
  | _ => false
theorem isNum_word (w : L2.RD.Wx) (h : Nine w) : isNum w.txt = isNumX w := by
  cases w with
  | plus => decide +kernel
  | bad o => cases o <;> decide +kernel
  | num i =>
    show isNum (iS i) = true
    unfold isNum
    rw [figOf_num]
    have h9 : (L2.RD.figs i).length ≤ 9 := h
    have tf : (L2.RD.figs i).cps.toList = TL.numL i.natAbs := L2.RD.tl_figs i
    have l0 : 0 < (L2.RD.figs i).length := by
      rw [TL.len_tl, L2.RD.tl_figs]; exact List.length_pos_iff.mpr (TL.numL_ne _)
    rw [decide_eq_true l0, decide_eq_true (show (L2.RD.figs i).length < 10 by omega), tf]
    have dg : (TL.numL i.natAbs).filter (fun c => !decide (c ∈ (Str.ofString "0123456789").cps.toList)) = [] := by
      refine List.filter_eq_nil_iff.mpr fun c hc => ?_
      have hd : ∀ c, 48 ≤ c → c ≤ 57 → c ∈ (Str.ofString "0123456789").cps.toList := by
        intro c h1 h2
        have : c = 48 ∨ c = 49 ∨ c = 50 ∨ c = 51 ∨ c = 52 ∨ c = 53 ∨ c = 54 ∨ c = 55 ∨ c = 56 ∨ c = 57 := by omega
        rcases this with e | e | e | e | e | e | e | e | e | e <;> subst e <;> decide +kernel
      have := TL.numL_digits _ c hc
      rw [decide_eq_true (hd c this.1 this.2)]; decide
    rw [dg]
    show (!decide ((TL.numL i.natAbs).head? = some 48) || decide (iS i = "0")) = true
    by_cases hi : i = 0
    · rw [decide_eq_true (show iS i = "0" by rw [hi]; exact L2.RD.zero_text), Bool.or_true]
    · obtain ⟨c, r, e, h1, h2⟩ := L2.RD.numL_head i.natAbs (by omega)
      rw [e, decide_eq_false (show ¬ (c :: r).head? = some 48 from fun q => by have := Option.some.inj q; omega)]; rfl
theorem word_ok (w : L2.RD.Wx) : PyData.strOk (figOf w.txt) = true := by
  cases w with
  | plus => decide +kernel
  | bad o => cases o <;> decide +kernel
  | num i => rw [show (L2.RD.Wx.num i).txt = iS i from rfl, figOf_num]; exact strOk_string _
theorem word_plus (w : L2.RD.Wx) : (w.txt = "+") ↔ w = .plus := by
  cases w with
  | plus => exact ⟨fun _ => rfl, fun _ => rfl⟩
  | bad o => exact ⟨fun e => by cases o <;> exact absurd e (by decide +kernel), fun e => nomatch e⟩
  | num i => exact ⟨fun e => absurd e (L2.RD.ne_plus i), fun e => nomatch e⟩
theorem word_len (w : L2.RD.Wx) (h : Nine w) : w.txt.length ≤ 10 := by
  cases w with
  | plus => decide +kernel
  | bad o => cases o <;> decide +kernel
  | num i =>
    have h9 : (L2.RD.figs i).length ≤ 9 := h
    show (iS i).length ≤ 10
    rw [TL.len_tl] at h9 ⊢
    rw [L2.RD.tl_figs] at h9
    cases i with
    | ofNat n => rw [show TL.tl (iS (Int.ofNat n)) = TL.numL n from L2.RD.tl_nat n]; exact Nat.le_succ_of_le h9
    | negSucc n => rw [L2.RD.tl_neg, List.length_cons]; exact Nat.succ_le_succ h9
theorem word_free (w : L2.RD.Wx) : 32 ∉ TL.tl w.txt := by
  cases w with
  | plus => decide +kernel
  | bad o => cases o <;> decide +kernel
  | num i => exact L2.RD.free32 i
end K06

namespace K06
open PySem L2 Lat
def figN (z : Str) : Str := if Txt.startswith z "-" = true then cutS z (some 1) none else z
def notNum (z : Str) : Bool := (!Txt.isascii (figN z) || (!Txt.isdigit (figN z) || decide (9 < (figN z).length))) || (Txt.startswith (figN z) "0" && !decide (z = "0"))
theorem figN_num (i : Int) : figN (iS i) = L2.RD.figs i := by
  unfold figN
  by_cases h : i < 0
  · rw [if_pos (by rw [L2.RD.minus]; exact decide_eq_true h)]; exact L2.RD.cut_neg h
  · rw [if_neg (by rw [L2.RD.minus, decide_eq_false h]; decide)]
    unfold L2.RD.figs; exact congrArg iS (by omega)
theorem notNum_word (w : L2.RD.Wx) (h : Nine w) : notNum w.txt = !isNumX w := by
  cases w with
  | plus => decide +kernel
  | bad o => cases o <;> decide +kernel
  | num i =>
    show notNum (iS i) = false
    have h9 : (L2.RD.figs i).length ≤ 9 := h
    unfold notNum
    rw [figN_num, L2.RD.figs_ascii, L2.RD.figs_digit, decide_eq_false (show ¬ 9 < (L2.RD.figs i).length by omega), L2.RD.figs_zero]
    by_cases hi : i = 0
    · rw [decide_eq_true (show iS i = "0" by rw [hi]; exact L2.RD.zero_text), decide_eq_true hi]; rfl
    · rw [decide_eq_false hi]; rfl
section
variable {P : Program} {w : World} {K : PySem.W.Frag} {mg : Str → Option Value} {base : Heap}
abbrev s_read_number : Stmt := top 11
abbrev n_read_number : List Str := ["word", "digits", "figures"]
theorem sc_read_number : FnScope n_read_number ["word", "digits"] (defScope s_read_number) := ⟨rfl, rfl, rfl, by decide +kernel, rfl, by decide +kernel, by decide +kernel⟩
def spReadX : Sp := fun vs H Q _ => ∃ z : Str, vs = [.str z, .int 9] ∧ z.length ≤ 1000 ∧ (notNum z = true → Q .non H) ∧ (notNum z = false → ∃ n, intText? z = some n ∧ z.length ≤ 640 ∧ Q (.int n) H)
theorem ok_read_number (T : Txt mg) (F : DefAt K mg "read_number" s_read_number ["word", "digits"]) : Has P w K mg base 1 "read_number" ["word", "digits"] spReadX := by
  refine F.has sc_read_number (fun vs H Q E h => ?_) (fun f cdv A outer s H vs Q E hr h => ?_)
  · obtain ⟨z, rfl, _⟩ := h
    rfl
  · obtain ⟨z, rfl, lz, k1, k2⟩ := h
    refine ⟨_, (C8.pss_cut (ps_set (i := 2) sc_read_number.nd rfl (Or.inl rfl) (pe_ifExp (pt_val (pe_m1 PySem.F.slot_str_startswith PySem.F.type_str_startswith mt_startswith (pv 0) pe_str)) (pe_slice sl_str (pv 0) (po_some pe_int) po_none) (pv 0)))
      (pss_cons (ps_if (PW.pt (pw_or (pt_not (pt_val (pe_m0 PySem.F.slot_str_isascii PySem.F.type_str_isascii mt_isascii (pv 2)))) (pw_or (pt_not (pt_val (pe_m0 PySem.F.slot_str_isdigit PySem.F.type_str_isdigit mt_isdigit (pv 2)))) (pw_or1 (pt_cmpR op_gt (pe_callB call_len (by rfl) T.z_len (by decide +kernel) (pa_cons (pv 2) pa_nil)) (pv 1) (nomark _)))))) (pss_one (ps_ret pe_non)) pss_nil)
      (pss_cons (ps_if (PW.pt (pw_and (pt_val (pe_m1 PySem.F.slot_str_startswith PySem.F.type_str_startswith mt_startswith (pv 2) pe_str)) (pw_and1 (pt_cmpR op_ne (pv 0) pe_str (nomark _))))) (pss_one (ps_ret pe_non)) pss_nil)
      (pss_one (ps_ret (pe_callTy call_int_str (by rfl) T.z_int (by decide +kernel) (pa_cons (pv 0) pa_nil))))))), ?_⟩
    have lz' : z.length ≤ sizeLine := Nat.le_trans lz (by decide)
    refine ⟨fun σ' H' => H' = H ∧ σ' = [some (.str z), some (.int 9), some (.str (figN z))], ?_, ?_⟩
    · refine ⟨_, rfl, ⟨_, rfl⟩, _, _, rfl, rfl, _, rfl, ?_⟩
      by_cases h : Txt.startswith z "-" = true
      · refine iteSe h ⟨_, rfl, _, rfl, _, rfl, lz', rfl, ?_⟩
        have : figN z = cutS z (some 1) none := if_pos h
        rw [this]; rfl
      · refine iteSf (by cases hb : Txt.startswith z "-" with | true => exact absurd hb h | false => rfl) ⟨_, rfl, rfl, ?_⟩
        have : figN z = z := if_neg h
        rw [this]; rfl
    rintro σ' H' ⟨rfl, rfl⟩
    have ld : (figN z).length ≤ sizeLine := by
      unfold figN; split
      · exact Nat.le_trans (cutS_length _ _ _) lz'
      · exact lz'
    have e : notNum z = ((!Txt.isascii (figN z) || (!Txt.isdigit (figN z) || decide (9 < (figN z).length))) || (Txt.startswith (figN z) "0" && !decide (z = "0"))) := rfl
    generalize figN z = d at *
    refine ⟨_, rfl, ⟨_, rfl⟩, _, rfl, rfl, trivial, _, rfl, ?_⟩
    cases hA : Txt.isascii d with
    | false => exact iteSe rfl (k1 (by rw [e, hA]; rfl))
    | true =>
    refine iteSf rfl ?_
    refine ⟨_, rfl, ⟨_, rfl⟩, _, rfl, rfl, trivial, _, rfl, ?_⟩
    cases hD : Txt.isdigit d with
    | false => exact iteSe rfl (k1 (by rw [e, hA, hD]; rfl))
    | true =>
    refine iteSf rfl ?_
    refine ⟨_, rfl, _, _, rfl, ⟨ld, rfl⟩, _, rfl, _, _, rfl, rfl, _, rfl, ?_⟩
    by_cases h9 : 9 < d.length
    · refine iteSe (decide_eq_true (by omega)) (k1 (by rw [e, hA, hD, decide_eq_true h9]; rfl))
    refine iteSf (decide_eq_false (by omega)) ?_
    refine ⟨_, rfl, ⟨_, rfl⟩, _, _, rfl, rfl, _, rfl, ?_⟩
    have ez : decide (V.str z = V.str "0") = decide (z = "0") := decide_eq_decide.mpr ⟨fun q => V.str.inj q, fun q => by rw [q]⟩
    cases h0 : Txt.startswith d "0" with
    | false =>
      refine iteSf rfl ?_
      obtain ⟨n, hn, l6, k⟩ := k2 (by rw [e, hA, hD, decide_eq_false h9, h0]; rfl)
      exact iteSf rfl ⟨_, rfl, _, _, rfl, hn, l6, k⟩
    | true =>
      refine iteSe rfl ?_
      refine ⟨_, rfl, rfl, _, rfl, ?_⟩
      by_cases hz : z = "0"
      · refine iteSf (by rw [ez, decide_eq_true hz]; rfl) ?_
        obtain ⟨n, hn, l6, k⟩ := k2 (by rw [e, hA, hD, decide_eq_false h9, h0, decide_eq_true hz]; rfl)
        exact ⟨_, rfl, _, _, rfl, hn, l6, k⟩
      · refine iteSe (by rw [ez, decide_eq_false hz]; rfl) ?_
        exact k1 (by rw [e, hA, hD, decide_eq_false h9, h0, decide_eq_false hz]; rfl)
end
end K06

namespace K06
open PySem L2 Lat
section
variable {P : Program} {w : World} {K : PySem.W.Frag} {mg : Str → Option Value} {base : Heap}
abbrev s_InvalidText_init : Stmt := inClass (top 15) 0
abbrev n_InvalidText_init : List Str := ["self", "at"]
theorem sc_InvalidText_init : FnScope n_InvalidText_init ["self", "at"] (defScope s_InvalidText_init) := ⟨rfl, rfl, rfl, by decide +kernel, rfl, by decide +kernel, by decide +kernel⟩
/-- what is left of a new InvalidText behind its own __init__ -/
def spInitT (C : Addr) : Sp := fun vs H Q _ => ∃ (a : Addr) (y : V), vs = [.ref a, y] ∧ H a = some (exo a C none) ∧ ∀ dx, H dx = none → dx ≠ a → Q .non (upd (upd H dx (exd dx [("at", y)])) a (exo a C (some dx)))
theorem ok_initT {C fI : Addr} {fd : FuncData} (OX : OexC K C) (no : PySem.W.findIn K (.ref C) "at" = some none) (F : Fun K "__init__" "InvalidText.__init__" s_InvalidText_init fI fd) : FnOk P w K mg base CX0 1 fI fd ["self", "at"] (spInitT C) := by
  refine F.ok sc_InvalidText_init (fun vs H Q E h => ?_) (fun cdv A outer s H vs Q E hr h => ?_)
  · obtain ⟨a, y, rfl, _⟩ := h
    rfl
  · obtain ⟨a, y, rfl, ha, k⟩ := h
    refine ⟨_, (pss_one (ps_ost (pv 0) (pv 1))), ?_⟩
    exact ⟨_, rfl, _, rfl, a, C, rfl, OX, no, .inl ⟨ha, fun dx hdx ne => k dx hdx ne⟩⟩
end
end K06

namespace Lat
/-! ## sets of vectors closed under what the defs do -/
structure Cl (S : (Nat → Int) → Prop) : Prop where
  zero : S fun _ => 0
  add : ∀ f h t, S f → S h → S fun i => f i + t * h i
theorem Cl.of {S : (Nat → Int) → Prop} (C : Cl S) {f h g : Nat → Int} {t : Int} (a : S f) (b : S h) (e : ∀ i, g i = f i + t * h i) : S g := by
  rw [show g = _ from funext e]; exact C.add f h t a b
theorem Cl.scale {S : (Nat → Int) → Prop} (C : Cl S) {h : Nat → Int} (t : Int) (b : S h) : S fun i => t * h i :=
  C.of (t := t) C.zero b fun i => by rw [Int.zero_add]
theorem Cl.addV {S : (Nat → Int) → Prop} (C : Cl S) {v w : Vec} (t : Int) (l : v.length = w.length) (b : S (itm w)) : S (itm (addV v t w)) ↔ S (itm v) :=
  ⟨fun h => C.of (t := -t) h b fun i => by rw [itm_add l]; grind, fun h => C.of (t := t) h b fun i => itm_add l i⟩
theorem redV_len : ∀ (B : List Vec) (v : Vec), (∀ r ∈ B, r.length = v.length) → (redV B v).length = v.length
  | [], v, _ => rfl
  | r :: rs, v, h => by
    have e := addV_len (t := -((itm v (piv r)).fdiv (itm r (piv r)))) (h r List.mem_cons_self).symm
    have := redV_len rs (addV v (-((itm v (piv r)).fdiv (itm r (piv r)))) r) fun s hs => (h s (List.mem_cons_of_mem _ hs)).trans e.symm
    exact this.trans e
theorem redV_cl {S : (Nat → Int) → Prop} (C : Cl S) : ∀ (B : List Vec) (v : Vec), (∀ r ∈ B, r.length = v.length) → (∀ r ∈ B, S (itm r)) → (S (itm (redV B v)) ↔ S (itm v))
  | [], v, _, _ => Iff.rfl
  | r :: rs, v, h, hS => by
    have l := (h r List.mem_cons_self).symm
    have e := addV_len (t := -((itm v (piv r)).fdiv (itm r (piv r)))) l
    have := redV_cl C rs (addV v (-((itm v (piv r)).fdiv (itm r (piv r)))) r) (fun s hs => (h s (List.mem_cons_of_mem _ hs)).trans e.symm) fun s hs => hS s (List.mem_cons_of_mem _ hs)
    exact this.trans (C.addV _ l (hS r List.mem_cons_self))
theorem clr_cl {S : (Nat → Int) → Prop} (C : Cl S) : ∀ (n : Nat) (r v : Vec) (i : Nat), r.length = v.length → ((S (itm (clr n r v i).1) ∧ S (itm (clr n r v i).2)) ↔ (S (itm r) ∧ S (itm v)))
  | 0, r, v, i, _ => Iff.rfl
  | n + 1, r, v, i, l => by
    unfold clr
    split
    · exact Iff.rfl
    · have e := addV_len (t := -((itm r i).fdiv (itm v i))) l
      refine (clr_cl C n v (addV r (-((itm r i).fdiv (itm v i))) v) i (by rw [e, l])).trans ⟨fun h => ⟨(C.addV _ l h.1).mp h.2, h.1⟩, fun h => ⟨h.2, (C.addV _ l h.2).mpr h.1⟩⟩
theorem clear_len {r v : Vec} {i : Nat} (l : r.length = v.length) : (clear r v i).1.length = r.length ∧ (clear r v i).2.length = r.length := clr_len _ r v i l
theorem stepGo_len : ∀ (B : List Vec) (v : Vec) (n : Nat), v.length = n → (∀ r ∈ B, r.length = n) → (∀ r ∈ (stepGo B v).1, r.length = n) ∧ (stepGo B v).2.length = n
  | [], v, n, l, _ => ⟨fun r h => (nomatch h), l⟩
  | r :: rs, v, n, l, h => by
    have lr := h r List.mem_cons_self
    have h' : ∀ s ∈ rs, s.length = n := fun s hs => h s (List.mem_cons_of_mem _ hs)
    unfold stepGo
    split
    · obtain ⟨a, b⟩ := stepGo_len rs r n lr h'
      exact ⟨fun s hs => (List.mem_cons.mp hs).elim (fun e => e ▸ l) (a s), b⟩
    · obtain ⟨c1, c2⟩ := clear_len (i := piv r) (lr.trans l.symm)
      obtain ⟨a, b⟩ := stepGo_len rs (clear r v (piv r)).2 n (c2.trans lr) h'
      exact ⟨fun s hs => (List.mem_cons.mp hs).elim (fun e => e ▸ c1.trans lr) (a s), b⟩
theorem all_cons {S : Vec → Prop} {r : Vec} {rs : List Vec} : (∀ s ∈ r :: rs, S s) ↔ S r ∧ ∀ s ∈ rs, S s := List.forall_mem_cons
theorem stepGo_cl {S : (Nat → Int) → Prop} (C : Cl S) : ∀ (B : List Vec) (v : Vec), (∀ r ∈ B, r.length = v.length) → (((∀ r ∈ (stepGo B v).1, S (itm r)) ∧ S (itm (stepGo B v).2)) ↔ ((∀ r ∈ B, S (itm r)) ∧ S (itm v)))
  | [], v, _ => Iff.rfl
  | r :: rs, v, h => by
    have lr := h r List.mem_cons_self
    have h' : ∀ s ∈ rs, s.length = v.length := fun s hs => h s (List.mem_cons_of_mem _ hs)
    unfold stepGo
    split
    · have ih := stepGo_cl C rs r (fun s hs => (h' s hs).trans lr.symm)
      simp only [all_cons]
      grind
    · obtain ⟨c1, c2⟩ := clear_len (i := piv r) lr
      have ih := stepGo_cl C rs (clear r v (piv r)).2 (fun s hs => by rw [c2, lr]; exact h' s hs)
      have cc : (S (itm (clear r v (piv r)).1) ∧ S (itm (clear r v (piv r)).2)) ↔ _ := clr_cl C _ r v (piv r) lr
      simp only [all_cons]
      grind
theorem itm_zero {v : Vec} (h : piv v = v.length) (i : Nat) : itm v i = 0 := by
  by_cases hi : i < v.length
  · exact (piv_spec v).1 i (h ▸ hi)
  · unfold itm
    rw [List.getD_eq_getElem?_getD, List.getElem?_eq_none (by omega)]; rfl
theorem Cl.itm_zero {S : (Nat → Int) → Prop} (C : Cl S) {v : Vec} (h : piv v = v.length) : S (itm v) := by
  rw [show itm v = _ from funext (Lat.itm_zero h)]; exact C.zero
theorem stepped_len {B : List Vec} {v : Vec} {n : Nat} (l : v.length = n) (h : ∀ r ∈ B, r.length = n) : ∀ r ∈ stepped B v, r.length = n := by
  obtain ⟨a, b⟩ := stepGo_len B v n l h
  unfold stepped
  split
  · exact a
  · intro r hr
    rcases List.mem_append.mp hr with hr | hr
    · exact a r hr
    · rw [List.mem_singleton.mp hr]; exact b
theorem stepped_cl {S : (Nat → Int) → Prop} (C : Cl S) {B : List Vec} {v : Vec} (h : ∀ r ∈ B, r.length = v.length) : (∀ r ∈ stepped B v, S (itm r)) ↔ ((∀ r ∈ B, S (itm r)) ∧ S (itm v)) := by
  refine Iff.trans ?_ (stepGo_cl C B v h)
  unfold stepped
  split
  · next e => exact ⟨fun q => ⟨q, C.itm_zero e⟩, fun q => q.1⟩
  · rw [List.forall_mem_append]
    exact ⟨fun q => ⟨q.1, q.2 _ (List.mem_singleton.mpr rfl)⟩, fun q => ⟨q.1, fun r hr => by rw [List.mem_singleton.mp hr]; exact q.2⟩⟩
theorem posV_length (r : Vec) : (posV r).length = r.length := by
  unfold posV
  split
  · rfl
  · exact addV_len rfl
theorem posV_itm (r : Vec) : (∀ i, itm (posV r) i = itm r i) ∨ ∀ i, itm (posV r) i = - itm r i := by
  unfold posV
  split
  · exact .inl fun i => rfl
  · exact .inr fun i => by rw [itm_add rfl]; omega
theorem posV_cl {S : (Nat → Int) → Prop} (C : Cl S) (r : Vec) : S (itm (posV r)) ↔ S (itm r) := by
  rcases posV_itm r with h | h
  · rw [show itm (posV r) = itm r from funext h]
  · exact ⟨fun q => C.of (t := -1) C.zero q fun i => by rw [h]; omega, fun q => C.of (t := -1) C.zero q fun i => by rw [h]; omega⟩
theorem tidy_len : ∀ (B : List Vec) (n : Nat), (∀ r ∈ B, r.length = n) → ∀ r ∈ tidy B, r.length = n
  | [], n, _ => fun r h => nomatch h
  | r :: rs, n, h => by
    have ih := tidy_len rs n fun s hs => h s (List.mem_cons_of_mem _ hs)
    have lr : (posV r).length = n := (posV_length r).trans (h r List.mem_cons_self)
    unfold tidy
    exact fun s hs => (List.mem_cons.mp hs).elim (fun e => e ▸ (redV_len _ _ fun s hs => (ih s hs).trans lr.symm).trans lr) (ih s)
theorem tidy_cl {S : (Nat → Int) → Prop} (C : Cl S) : ∀ (B : List Vec) (n : Nat), (∀ r ∈ B, r.length = n) → ((∀ r ∈ tidy B, S (itm r)) ↔ ∀ r ∈ B, S (itm r))
  | [], n, _ => Iff.rfl
  | r :: rs, n, h => by
    have h' : ∀ s ∈ rs, s.length = n := fun s hs => h s (List.mem_cons_of_mem _ hs)
    have ih := tidy_cl C rs n h'
    have lr : (posV r).length = n := (posV_length r).trans (h r List.mem_cons_self)
    have lt := tidy_len rs n h'
    unfold tidy
    simp only [all_cons]
    have rc : (∀ s ∈ tidy rs, S (itm s)) → (S (itm (redV (tidy rs) (posV r))) ↔ S (itm (posV r))) := redV_cl C _ _ fun s hs => (lt s hs).trans lr.symm
    have pc := posV_cl C r
    grind
theorem grow_len {B : List Vec} {v : Vec} {n : Nat} (l : v.length = n) (h : ∀ r ∈ B, r.length = n) : ∀ r ∈ grow B v, r.length = n := by
  unfold grow
  split
  · exact h
  · exact tidy_len _ n (stepped_len ((redV_len B v fun r hr => (h r hr).trans l.symm).trans l) h)
theorem grow_cl {S : (Nat → Int) → Prop} (C : Cl S) {B : List Vec} {v : Vec} (h : ∀ r ∈ B, r.length = v.length) : (∀ r ∈ grow B v, S (itm r)) ↔ ((∀ r ∈ B, S (itm r)) ∧ S (itm v)) := by
  have lr := redV_len B v h
  have rc := redV_cl C B v h
  unfold grow
  split
  · next e => exact ⟨fun q => ⟨q, (rc q).mp (C.itm_zero e)⟩, fun q => q.1⟩
  · have hl : ∀ r ∈ B, r.length = (redV B v).length := fun r hr => (h r hr).trans lr.symm
    rw [tidy_cl C _ v.length (stepped_len lr h), stepped_cl C hl]
    exact ⟨fun q => ⟨q.1, (rc q.1).mp q.2⟩, fun q => ⟨q.1, (rc q.1).mpr q.2⟩⟩
end Lat

namespace Lat
/-! ## whole combinations of echelon rows -/
def In : List Vec → (Nat → Int) → Prop
  | [], f => ∀ i, f i = 0
  | r :: rs, f => ∃ a : Int, In rs fun i => f i - a * itm r i
theorem In.cl : ∀ B : List Vec, Cl (In B)
  | [] => ⟨fun i => rfl, fun f h t a b i => by
      have x : f i = 0 := a i
      have y : h i = 0 := b i
      show f i + t * h i = 0
      rw [x, y]; omega⟩
  | r :: rs => ⟨⟨0, (In.cl rs).of (t := 0) (In.cl rs).zero (In.cl rs).zero fun i => by show (0 : Int) - 0 * itm r i = 0 + 0 * 0; omega⟩, fun f h t a b => by
      obtain ⟨x, hx⟩ := a
      obtain ⟨y, hy⟩ := b
      exact ⟨x + t * y, (In.cl rs).of (t := t) hx hy fun i => by grind⟩⟩
theorem In.mem : ∀ (B : List Vec) (r : Vec), r ∈ B → In B (itm r)
  | s :: rs, r, h => by
    rcases List.mem_cons.mp h with e | h
    · subst e
      exact ⟨1, (In.cl rs).of (t := 0) (In.cl rs).zero (In.cl rs).zero fun i => by omega⟩
    · exact ⟨0, (In.cl rs).of (t := 0) (In.mem rs r h) (In.cl rs).zero fun i => by omega⟩
def Ech (n : Nat) : Nat → List Vec → Prop
  | _, [] => True
  | c, r :: rs => r.length = n ∧ c ≤ piv r ∧ piv r < n ∧ Ech n (piv r + 1) rs
theorem Ech.mono {n c d : Nat} (h : d ≤ c) : ∀ {B : List Vec}, Ech n c B → Ech n d B
  | [], _ => trivial
  | _ :: _, e => ⟨e.1, Nat.le_trans h e.2.1, e.2.2⟩
theorem Ech.row {n : Nat} : ∀ {c : Nat} {B : List Vec}, Ech n c B → ∀ r ∈ B, r.length = n ∧ c ≤ piv r ∧ piv r < n
  | _, [], _ => fun r h => nomatch h
  | c, s :: rs, e => fun r h => by
    rcases List.mem_cons.mp h with z | h
    · subst z; exact ⟨e.1, e.2.1, e.2.2.1⟩
    · obtain ⟨a, b, d⟩ := Ech.row e.2.2.2 r h
      exact ⟨a, by have := e.2.1; omega, d⟩
theorem Ech.ne {n c : Nat} {B : List Vec} (e : Ech n c B) {r : Vec} (h : r ∈ B) : itm r (piv r) ≠ 0 := by
  obtain ⟨a, _, b⟩ := e.row r h
  exact (piv_spec r).2 (a ▸ b)
theorem Ech.zero {n c : Nat} {B : List Vec} (e : Ech n c B) {r : Vec} (h : r ∈ B) {i : Nat} (hi : i < c) : itm r i = 0 :=
  (piv_spec r).1 i (Nat.lt_of_lt_of_le hi (e.row r h).2.1)
theorem Ech.inj {n : Nat} : ∀ {c : Nat} {B : List Vec}, Ech n c B → ∀ r ∈ B, ∀ s ∈ B, piv r = piv s → r = s
  | _, [], _ => fun r h => nomatch h
  | c, t :: rs, e => fun r hr s hs h => by
    rcases List.mem_cons.mp hr with z | hr
    · rcases List.mem_cons.mp hs with y | hs
      · exact z.trans y.symm
      · have := (e.2.2.2.row s hs).2.1
        rw [z] at h; omega
    · rcases List.mem_cons.mp hs with y | hs
      · have := (e.2.2.2.row r hr).2.1
        rw [y] at h; omega
      · exact Ech.inj e.2.2.2 r hr s hs h
theorem Ech.count {n : Nat} : ∀ {c : Nat} {B : List Vec}, Ech n c B → c ≤ n → c + B.length ≤ n
  | _, [], _, h => h
  | c, r :: rs, e, h => by
    have := Ech.count e.2.2.2 e.2.2.1
    have := e.2.1
    rw [List.length_cons]; omega
theorem In.low {n : Nat} : ∀ {c : Nat} {B : List Vec} {f : Nat → Int}, Ech n c B → In B f → ∀ i, i < c → f i = 0
  | _, [], _, _, h => fun i _ => h i
  | c, r :: rs, f, e, ⟨a, h⟩ => fun i hi => by
    have h1 := In.low e.2.2.2 h i (by have := e.2.1; omega)
    have h2 : itm r i = 0 := (piv_spec r).1 i (Nat.lt_of_lt_of_le hi e.2.1)
    have h3 : f i - a * itm r i = 0 := h1
    rw [h2] at h3; omega
theorem lead {n : Nat} : ∀ {c : Nat} {B : List Vec} {f : Nat → Int}, Ech n c B → In B f → (∀ i, f i = 0) ∨ ∃ s ∈ B, ∃ a : Int, a ≠ 0 ∧ (∀ i, i < piv s → f i = 0) ∧ f (piv s) = a * itm s (piv s)
  | _, [], _, _, h => .inl h
  | c, r :: rs, f, e, ⟨a, h⟩ => by
    by_cases ha : a = 0
    · subst ha
      have h' : In rs f := (In.cl rs).of (t := 0) h (In.cl rs).zero fun i => by omega
      rcases lead e.2.2.2 h' with z | ⟨s, hs, b, hb⟩
      · exact .inl z
      · exact .inr ⟨s, List.mem_cons_of_mem _ hs, b, hb⟩
    · refine .inr ⟨r, List.mem_cons_self, a, ha, fun i hi => ?_, ?_⟩
      · have h3 : f i - a * itm r i = 0 := In.low e.2.2.2 h i (by omega)
        rw [(piv_spec r).1 i hi] at h3; omega
      · have h3 : f (piv r) - a * itm r (piv r) = 0 := In.low e.2.2.2 h (piv r) (by omega)
        omega
/-! ## multiples of them -/
def RIn (G : List Vec) (f : Nat → Int) : Prop := ∃ D : Int, D ≠ 0 ∧ In G fun i => D * f i
theorem RIn.cl (G : List Vec) : Cl (RIn G) :=
  ⟨⟨1, by decide, (In.cl G).of (t := 0) (In.cl G).zero (In.cl G).zero fun i => by show (1 : Int) * 0 = 0 + 0 * 0; omega⟩, fun f h t ⟨D, hD, a⟩ ⟨E, hE, b⟩ =>
    ⟨D * E, Int.mul_ne_zero hD hE, (In.cl G).of (t := t * D) ((In.cl G).scale E a) b fun i => by grind⟩⟩
theorem RIn.of {G : List Vec} {f : Nat → Int} (h : In G f) : RIn G f := ⟨1, by decide, (In.cl G).of (t := 0) h (In.cl G).zero fun i => by omega⟩
/-- the pivots of two echelon families of one lattice -/
theorem piv_bound {n : Nat} {B G : List Vec} (eB : Ech n 0 B) (eG : Ech n 0 G) (hG : ∀ g ∈ G, In B (itm g)) (hB : ∀ s ∈ B, RIn G (itm s)) : ∀ s ∈ B, ∃ g ∈ G, piv g = piv s ∧ (itm s (piv s)).natAbs ≤ (itm g (piv g)).natAbs := by
  intro s hs
  obtain ⟨D, hD, h⟩ := hB s hs
  have sn := eB.ne hs
  rcases lead eG h with z | ⟨g, hg, a, ha, z, y⟩
  · exact absurd (z (piv s)) (Int.mul_ne_zero hD sn)
  · have gn := eG.ne hg
    have e : piv g = piv s := by
      rcases Nat.lt_trichotomy (piv g) (piv s) with l | l | l
      · have : itm s (piv g) = 0 := (piv_spec s).1 _ l
        rw [this, Int.mul_zero] at y
        exact absurd y.symm (Int.mul_ne_zero ha gn)
      · exact l
      · exact absurd (z _ l) (Int.mul_ne_zero hD sn)
    refine ⟨g, hg, e, ?_⟩
    rcases lead eB (hG g hg) with z' | ⟨s', hs', b, hb, z', y'⟩
    · exact absurd (z' _) gn
    · have sn' := eB.ne hs'
      have e' : piv s' = piv g := by
        rcases Nat.lt_trichotomy (piv s') (piv g) with l | l | l
        · rw [(piv_spec g).1 _ l] at y'
          exact absurd y'.symm (Int.mul_ne_zero hb sn')
        · exact l
        · exact absurd (z' _ l) gn
      have es := eB.inj s' hs' s hs (e'.trans e)
      subst es
      rw [e, y', Int.natAbs_mul]
      exact Nat.le_mul_of_pos_left _ (Int.natAbs_pos.mpr hb)
/-- what is small at the pivots is small -/
theorem all_bound {n b : Nat} (b1 : 1 ≤ b) : ∀ {c : Nat} {G : List Vec} {f : Nat → Int} {A : Nat}, Ech n c G → (∀ g ∈ G, ∀ i, (itm g i).natAbs ≤ b) → RIn G f → (∀ g ∈ G, (f (piv g)).natAbs ≤ A) → ∀ i, (f i).natAbs ≤ A * (4 * b) ^ G.length
  | _, [], f, A, _, _, ⟨D, hD, h⟩, _ => fun i => by
    have h3 : D * f i = 0 := h i
    rcases Int.mul_eq_zero.mp h3 with z | z
    · exact absurd z hD
    · rw [z]; exact Nat.zero_le _
  | c, g :: gs, f, A, e, hb, ⟨D, hD, a, h⟩, hA => fun i => by
    have gn : itm g (piv g) ≠ 0 := e.ne List.mem_cons_self
    have h0 : D * f (piv g) - a * itm g (piv g) = 0 := In.low e.2.2.2 h (piv g) (by omega)
    have hp := hA g List.mem_cons_self
    have hr : RIn gs fun i => itm g (piv g) * f i - f (piv g) * itm g i := ⟨D, hD, (In.cl gs).of (t := itm g (piv g)) (In.cl gs).zero h fun i => by grind⟩
    have ih := all_bound (A := 2 * b * A) b1 e.2.2.2 (fun s hs => hb s (List.mem_cons_of_mem _ hs)) hr (fun s hs => ?_) i
    · have hg := hb g List.mem_cons_self i
      have e1 : itm g (piv g) * f i = (itm g (piv g) * f i - f (piv g) * itm g i) + f (piv g) * itm g i := by omega
      have e2 : (f i).natAbs ≤ (itm g (piv g) * f i).natAbs := by
        rw [Int.natAbs_mul]; exact Nat.le_mul_of_pos_left _ (Int.natAbs_pos.mpr gn)
      have e3 := Int.natAbs_add_le (itm g (piv g) * f i - f (piv g) * itm g i) (f (piv g) * itm g i)
      rw [← e1] at e3
      have e4 : (f (piv g) * itm g i).natAbs ≤ A * b := by rw [Int.natAbs_mul]; exact Nat.mul_le_mul hp hg
      have e5 : 1 ≤ (4 * b) ^ gs.length := Nat.one_le_pow _ _ (by omega)
      have e6 : A * b ≤ A * b * (4 * b) ^ gs.length := Nat.le_mul_of_pos_right _ e5
      rw [List.length_cons, Nat.pow_succ]
      have e7 : 2 * b * A * (4 * b) ^ gs.length = 2 * (A * b * (4 * b) ^ gs.length) := by grind
      have e8 : A * ((4 * b) ^ gs.length * (4 * b)) = 4 * (A * b * (4 * b) ^ gs.length) := by grind
      rw [e7] at ih
      rw [e8]
      omega
    · have h1 := hA s (List.mem_cons_of_mem _ hs)
      have h2 := hb g List.mem_cons_self (piv g)
      have h3 := hb g List.mem_cons_self (piv s)
      have h4 : (itm g (piv g) * f (piv s)).natAbs ≤ b * A := by rw [Int.natAbs_mul]; exact Nat.mul_le_mul h2 h1
      have h5 : (f (piv g) * itm g (piv s)).natAbs ≤ A * b := by rw [Int.natAbs_mul]; exact Nat.mul_le_mul hp h3
      have h6 : 2 * b * A = b * A + A * b := by grind
      rw [h6]
      show (itm g (piv g) * f (piv s) - f (piv g) * itm g (piv s)).natAbs ≤ _
      omega
/-! ## ghosts: echelon vectors of the lattice, made with no division -/
def crossV (g v : Vec) : Vec := List.zipWith (fun x y => itm g (piv g) * x - itm v (piv g) * y) v g
theorem crossV_len {g v : Vec} (h : v.length = g.length) : (crossV g v).length = v.length := by
  unfold crossV; rw [List.length_zipWith, h, Nat.min_self]
theorem crossV_itm {g v : Vec} (h : v.length = g.length) (i : Nat) : itm (crossV g v) i = itm g (piv g) * itm v i - itm v (piv g) * itm g i := by
  have key : ∀ a b : Int, itm (List.zipWith (fun x y => a * x - b * y) v g) i = a * itm v i - b * itm g i := by
    intro a b
    unfold itm
    by_cases hi : i < v.length
    · have hw : i < g.length := by omega
      rw [List.getD_eq_getElem?_getD, List.getD_eq_getElem?_getD, List.getD_eq_getElem?_getD, List.getElem?_zipWith, List.getElem?_eq_getElem hi, List.getElem?_eq_getElem hw]
      rfl
    · have hw : g.length ≤ i := by omega
      rw [List.getD_eq_getElem?_getD, List.getD_eq_getElem?_getD, List.getD_eq_getElem?_getD, List.getElem?_zipWith, List.getElem?_eq_none (by omega : v.length ≤ i), List.getElem?_eq_none hw]
      simp
  exact key _ _
def insG : List Vec → Vec → List Vec
  | [], v => if piv v = v.length then [] else [v]
  | g :: gs, v => if piv v < piv g then v :: g :: gs else g :: insG gs (crossV g v)
theorem piv_ge {v : Vec} {c : Nat} (h : ∀ i, i < c → itm v i = 0) (hc : c ≤ v.length) : c ≤ piv v := by
  apply Nat.le_of_not_lt
  intro l
  exact (piv_spec v).2 (by omega) (h _ l)
theorem cross_zero {n : Nat} {g v : Vec} (hg : piv g < n) (lg : g.length = n) (lv : v.length = n) (h : ¬ piv v < piv g) : ∀ i, i < piv g + 1 → itm (crossV g v) i = 0 := by
  intro i hi
  rw [crossV_itm (lv.trans lg.symm)]
  by_cases e : i = piv g
  · subst e; grind
  · rw [(piv_spec v).1 i (by omega), (piv_spec g).1 i (by omega)]; omega
theorem insG_ech {n : Nat} : ∀ {c : Nat} {G : List Vec} {v : Vec}, Ech n c G → v.length = n → c ≤ n → (∀ i, i < c → itm v i = 0) → Ech n c (insG G v)
  | c, [], v, _, l, hc, z => by
    unfold insG
    split
    · trivial
    · exact ⟨l, piv_ge z (l ▸ hc), by have := piv_le v; omega, trivial⟩
  | c, g :: gs, v, e, l, hc, z => by
    unfold insG
    split
    · next h => exact ⟨l, piv_ge z (l ▸ hc), by have := e.2.2.1; omega, e.1, by omega, e.2.2⟩
    · next h =>
      have lc := crossV_len (l.trans e.1.symm)
      exact ⟨e.1, e.2.1, e.2.2.1, insG_ech e.2.2.2 (lc.trans l) (by have := e.2.2.1; omega) (cross_zero e.2.2.1 e.1 l h)⟩
theorem insG_cl {S : (Nat → Int) → Prop} (C : Cl S) {n : Nat} : ∀ {c : Nat} {G : List Vec} {v : Vec}, Ech n c G → v.length = n → (∀ g ∈ G, S (itm g)) → S (itm v) → ∀ g ∈ insG G v, S (itm g)
  | c, [], v, _, l, _, hv => by
    unfold insG
    split
    · exact fun g h => nomatch h
    · exact fun g h => by rw [List.mem_singleton.mp h]; exact hv
  | c, g :: gs, v, e, l, h, hv => by
    obtain ⟨h1, h2⟩ := List.forall_mem_cons.mp h
    unfold insG
    split
    · exact List.forall_mem_cons.mpr ⟨hv, h⟩
    · have lc := crossV_len (l.trans e.1.symm)
      refine List.forall_mem_cons.mpr ⟨h1, insG_cl C e.2.2.2 (lc.trans l) h2 ?_⟩
      exact C.of (t := - itm v (piv g)) (C.scale (itm g (piv g)) hv) h1 fun i => by rw [crossV_itm (l.trans e.1.symm)]; grind
theorem insG_old : ∀ {G : List Vec} {v : Vec}, ∀ g ∈ G, In (insG G v) (itm g)
  | g :: gs, v, s, hs => by
    unfold insG
    split
    · exact In.mem _ _ (List.mem_cons_of_mem _ hs)
    · rcases List.mem_cons.mp hs with e | hs
      · subst e; exact In.mem _ _ List.mem_cons_self
      · exact ⟨0, (In.cl _).of (t := 0) (insG_old s hs) (In.cl _).zero fun i => by omega⟩
theorem insG_new {n : Nat} : ∀ {c : Nat} {G : List Vec} {v : Vec}, Ech n c G → v.length = n → RIn (insG G v) (itm v)
  | c, [], v, _, l => by
    unfold insG
    split
    · next h => exact (RIn.cl []).itm_zero h
    · exact RIn.of (In.mem _ _ List.mem_cons_self)
  | c, g :: gs, v, e, l => by
    unfold insG
    split
    · exact RIn.of (In.mem _ _ List.mem_cons_self)
    · have lc := crossV_len (l.trans e.1.symm)
      obtain ⟨D, hD, h⟩ := insG_new (c := piv g + 1) (v := crossV g v) e.2.2.2 (lc.trans l)
      refine ⟨D * itm g (piv g), Int.mul_ne_zero hD (e.ne List.mem_cons_self), D * itm v (piv g), (In.cl _).of (t := 0) h (In.cl _).zero fun i => ?_⟩
      rw [crossV_itm (l.trans e.1.symm)]
      grind
theorem insG_count : ∀ {G : List Vec} {v : Vec}, (insG G v).length ≤ G.length + 1
  | [], v => by
    unfold insG
    split
    · exact Nat.zero_le _
    · exact Nat.le_refl 1
  | g :: gs, v => by
    unfold insG
    split
    · exact Nat.le_refl _
    · exact Nat.succ_le_succ insG_count
theorem insG_size {n b : Nat} (b1 : 1 ≤ b) : ∀ {c : Nat} {G : List Vec} {v : Vec} {x X : Nat}, Ech n c G → v.length = n → (∀ g ∈ G, ∀ i, (itm g i).natAbs ≤ b) → (∀ i, (itm v i).natAbs ≤ x) → b ≤ X → x * (2 * b) ^ G.length ≤ X → ∀ g ∈ insG G v, ∀ i, (itm g i).natAbs ≤ X
  | c, [], v, x, X, _, l, _, hv, _, h => by
    unfold insG
    split
    · exact fun g h => nomatch h
    · exact fun g hg i => by
        rw [List.mem_singleton.mp hg]
        have := hv i
        rw [List.length_nil, Nat.pow_zero] at h; omega
  | c, g :: gs, v, x, X, e, l, hG, hv, hb, h => by
    obtain ⟨h1, h2⟩ := List.forall_mem_cons.mp hG
    have e5 : 1 ≤ (2 * b) ^ (g :: gs).length := Nat.one_le_pow _ _ (by omega)
    have e6 : x ≤ x * (2 * b) ^ (g :: gs).length := Nat.le_mul_of_pos_right _ e5
    unfold insG
    split
    · exact List.forall_mem_cons.mpr ⟨fun i => Nat.le_trans (hv i) (Nat.le_trans e6 h), fun s hs i => Nat.le_trans (hG s hs i) hb⟩
    · have lc := crossV_len (l.trans e.1.symm)
      refine List.forall_mem_cons.mpr ⟨fun i => Nat.le_trans (h1 i) hb, insG_size b1 (x := x * (2 * b)) e.2.2.2 (lc.trans l) h2 (fun i => ?_) hb ?_⟩
      · rw [crossV_itm (l.trans e.1.symm)]
        have q1 : (itm g (piv g) * itm v i).natAbs ≤ b * x := by rw [Int.natAbs_mul]; exact Nat.mul_le_mul (h1 _) (hv i)
        have q2 : (itm v (piv g) * itm g i).natAbs ≤ x * b := by rw [Int.natAbs_mul]; exact Nat.mul_le_mul (hv _) (h1 i)
        have q3 : x * (2 * b) = b * x + x * b := by grind
        rw [q3]; omega
      · rw [List.length_cons, Nat.pow_succ] at h
        have q4 : x * (2 * b) * (2 * b) ^ gs.length = x * ((2 * b) ^ gs.length * (2 * b)) := by grind
        rw [q4]; exact h
end Lat

namespace Lat
/-! ## the defs keep the form -/
theorem fdiv_rem (a b : Int) (hb : 0 < b) : 0 ≤ a - a.fdiv b * b ∧ a - a.fdiv b * b < b := by
  have h1 := Int.fmod_nonneg_of_pos a hb
  have h2 := Int.fmod_lt_of_pos a hb
  have h3 := Int.fmod_def a b
  rw [Int.mul_comm] at h3
  omega
theorem fdiv_rem_neg (a b : Int) (hb : b < 0) : b < a - a.fdiv b * b ∧ a - a.fdiv b * b ≤ 0 := by
  have h := fdiv_rem (-a) (-b) (by omega)
  rw [Int.neg_fdiv_neg] at h
  have e : a.fdiv b * -b = -(a.fdiv b * b) := Int.mul_neg _ _
  omega
theorem fdiv_small (a b : Int) (hb : b ≠ 0) : (a + -(a.fdiv b) * b).natAbs < b.natAbs := by
  have e : a + -(a.fdiv b) * b = a - a.fdiv b * b := by grind
  rw [e]
  rcases Int.lt_or_gt_of_ne hb with h | h
  · have := fdiv_rem_neg a b h; omega
  · have := fdiv_rem a b h; omega
theorem itm_out {v : Vec} {i : Nat} (h : v.length ≤ i) : itm v i = 0 := by
  unfold itm
  rw [List.getD_eq_getElem?_getD, List.getElem?_eq_none h]; rfl
theorem piv_eq {v : Vec} {c : Nat} (z : ∀ i, i < c → itm v i = 0) (h : itm v c ≠ 0) : piv v = c := by
  have hc : c < v.length := by
    apply Nat.lt_of_not_le
    intro l; exact h (itm_out l)
  have h1 := piv_ge z (Nat.le_of_lt hc)
  rcases Nat.lt_or_ge c (piv v) with l | l
  · exact absurd ((piv_spec v).1 c l) h
  · omega
theorem redV_low {n : Nat} : ∀ {c : Nat} {B : List Vec} {v : Vec}, Ech n c B → v.length = n → ∀ i, i < c → itm (redV B v) i = itm v i
  | _, [], v, _, _ => fun i _ => rfl
  | c, r :: rs, v, e, l => fun i hi => by
    have lr : v.length = r.length := l.trans e.1.symm
    have ih := redV_low (v := addV v (-((itm v (piv r)).fdiv (itm r (piv r)))) r) e.2.2.2 ((addV_len lr).trans l) i (by have := e.2.1; omega)
    refine Eq.trans ih ?_
    rw [itm_add lr, (piv_spec r).1 i (Nat.lt_of_lt_of_le hi e.2.1)]; omega
theorem redV_small {n : Nat} : ∀ {c : Nat} {B : List Vec} {v : Vec}, Ech n c B → v.length = n → ∀ s ∈ B, (itm (redV B v) (piv s)).natAbs < (itm s (piv s)).natAbs
  | _, [], v, _, _ => fun s h => nomatch h
  | c, r :: rs, v, e, l => fun s hs => by
    have lr : v.length = r.length := l.trans e.1.symm
    have l' : (addV v (-((itm v (piv r)).fdiv (itm r (piv r)))) r).length = n := (addV_len lr).trans l
    rcases List.mem_cons.mp hs with z | hs
    · subst z
      have h1 := redV_low e.2.2.2 l' (piv s) (by omega)
      show (itm (redV rs (addV v (-((itm v (piv s)).fdiv (itm s (piv s)))) s)) (piv s)).natAbs < _
      rw [h1, itm_add lr]
      exact fdiv_small _ _ (e.ne List.mem_cons_self)
    · exact redV_small e.2.2.2 l' s hs
theorem posV_piv (r : Vec) (h : piv r < r.length) : piv (posV r) = piv r := by
  rcases posV_itm r with q | q
  · exact piv_eq (fun i hi => by rw [q]; exact (piv_spec r).1 i hi) (by rw [q]; exact (piv_spec r).2 h)
  · exact piv_eq (fun i hi => by rw [q, (piv_spec r).1 i hi]; rfl) (by rw [q]; have := (piv_spec r).2 h; omega)
theorem posV_abs (r : Vec) (i : Nat) : (itm (posV r) i).natAbs = (itm r i).natAbs := by
  rcases posV_itm r with q | q
  · rw [q]
  · rw [q, Int.natAbs_neg]
theorem clr_facts {n : Nat} : ∀ (m : Nat) (r v : Vec) (i : Nat), r.length = n → v.length = n → (itm v i).natAbs ≤ m → itm r i ≠ 0 → itm (clr m r v i).2 i = 0 ∧ itm (clr m r v i).1 i ≠ 0 ∧ ∀ j, itm r j = 0 → itm v j = 0 → itm (clr m r v i).1 j = 0 ∧ itm (clr m r v i).2 j = 0
  | 0, r, v, i, lr, lv, h, h0 => ⟨by show itm v i = 0; omega, h0, fun j a b => ⟨a, b⟩⟩
  | m + 1, r, v, i, lr, lv, h, h0 => by
    unfold clr
    split
    · next z => exact ⟨z, h0, fun j a b => ⟨a, b⟩⟩
    · next z =>
      have l := lr.trans lv.symm
      have e := itm_add (t := -((itm r i).fdiv (itm v i))) l i
      have sm := fdiv_small (itm r i) (itm v i) z
      rw [← e] at sm
      obtain ⟨a, b, c⟩ := clr_facts m v (addV r (-((itm r i).fdiv (itm v i))) v) i lv ((addV_len l).trans lr) (by omega) z
      exact ⟨a, b, fun j x y => c j y (by rw [itm_add l, x, y]; omega)⟩
theorem clear_facts {n : Nat} {r v : Vec} {i : Nat} (lr : r.length = n) (lv : v.length = n) (h : itm r i ≠ 0) : itm (clear r v i).2 i = 0 ∧ itm (clear r v i).1 i ≠ 0 ∧ ∀ j, itm r j = 0 → itm v j = 0 → itm (clear r v i).1 j = 0 ∧ itm (clear r v i).2 j = 0 :=
  clr_facts _ r v i lr lv (Nat.le_refl _) h
theorem stepped_nil (v : Vec) : stepped [] v = if piv v = v.length then [] else [v] := rfl
theorem stepped_cons (r : Vec) (rs : List Vec) (v : Vec) : stepped (r :: rs) v = if piv v < piv r then v :: stepped rs r else (clear r v (piv r)).1 :: stepped rs (clear r v (piv r)).2 := by
  unfold stepped
  rw [stepGo]
  split
  · by_cases h : piv (stepGo rs r).2 = (stepGo rs r).2.length
    · rw [if_pos h, if_pos h]
    · rw [if_neg h, if_neg h]; rfl
  · by_cases h : piv (stepGo rs (clear r v (piv r)).2).2 = (stepGo rs (clear r v (piv r)).2).2.length
    · rw [if_pos h, if_pos h]
    · rw [if_neg h, if_neg h]; rfl
theorem stepped_ech {n : Nat} : ∀ {c : Nat} {B : List Vec} {v : Vec}, Ech n c B → v.length = n → c ≤ n → (∀ i, i < c → itm v i = 0) → Ech n c (stepped B v)
  | c, [], v, _, l, hc, z => by
    rw [stepped_nil]
    split
    · trivial
    · exact ⟨l, piv_ge z (l ▸ hc), by have := piv_le v; omega, trivial⟩
  | c, r :: rs, v, e, l, hc, z => by
    rw [stepped_cons]
    split
    · next h =>
      have ih := stepped_ech (c := piv r) (Ech.mono (by omega) e.2.2.2) e.1 (Nat.le_of_lt e.2.2.1) (piv_spec r).1
      exact ⟨l, piv_ge z (l ▸ hc), by have := e.2.2.1; omega, Ech.mono (by omega) ih⟩
    · next h =>
      obtain ⟨c1, c2⟩ := clear_len (i := piv r) (e.1.trans l.symm)
      obtain ⟨f1, f2, f3⟩ := clear_facts (i := piv r) e.1 l (e.ne List.mem_cons_self)
      have f4 : ∀ j, j < piv r → itm (clear r v (piv r)).1 j = 0 ∧ itm (clear r v (piv r)).2 j = 0 := fun j hj => f3 j ((piv_spec r).1 j hj) ((piv_spec v).1 j (by omega))
      have pe : piv (clear r v (piv r)).1 = piv r := piv_eq (fun j hj => (f4 j hj).1) f2
      have ih := stepped_ech (v := (clear r v (piv r)).2) e.2.2.2 (c2.trans e.1) (by have := e.2.2.1; omega) (fun j hj => by
        by_cases q : j = piv r
        · rw [q]; exact f1
        · exact (f4 j (by omega)).2)
      exact ⟨c1.trans e.1, by rw [pe]; exact e.2.1, by rw [pe]; exact e.2.2.1, by rw [pe]; exact ih⟩
theorem stepped_count : ∀ {B : List Vec} {v : Vec}, (stepped B v).length ≤ B.length + 1
  | [], v => by
    rw [stepped_nil]
    split
    · exact Nat.zero_le _
    · exact Nat.le_refl 1
  | r :: rs, v => by
    rw [stepped_cons]
    split
    · exact Nat.succ_le_succ stepped_count
    · exact Nat.succ_le_succ stepped_count
theorem tidy_count : ∀ {B : List Vec}, (tidy B).length = B.length
  | [] => rfl
  | r :: rs => congrArg (· + 1) (tidy_count (B := rs))
theorem tidy_ech {n : Nat} : ∀ {c : Nat} {B : List Vec}, Ech n c B → Ech n c (tidy B)
  | c, [], _ => trivial
  | c, r :: rs, e => by
    have ih := tidy_ech e.2.2.2
    have lp : (posV r).length = n := (posV_length r).trans e.1
    have pp := posV_piv r (e.1 ▸ e.2.2.1)
    have lo := redV_low ih lp
    have pe : piv (redV (tidy rs) (posV r)) = piv r := piv_eq (fun i hi => by rw [lo i (by omega), ← Int.natAbs_eq_zero, posV_abs, (piv_spec r).1 i hi]; rfl) (by
      rw [lo _ (by omega)]
      intro q
      have := posV_abs r (piv r)
      rw [q] at this
      exact e.ne List.mem_cons_self (by omega))
    unfold tidy
    refine ⟨(redV_len _ _ fun s hs => (ih.row s hs).1.trans lp.symm).trans lp, ?_⟩
    rw [pe]
    exact ⟨e.2.1, e.2.2.1, ih⟩
/-- each row is small at the others' pivots -/
def Redd (B : List Vec) : Prop := ∀ s ∈ B, ∀ r ∈ B, (itm r (piv s)).natAbs ≤ (itm s (piv s)).natAbs
theorem tidy_redd {n : Nat} : ∀ {c : Nat} {B : List Vec}, Ech n c B → Redd (tidy B)
  | c, [], _ => fun s h => nomatch h
  | c, r :: rs, e => by
    have ih := tidy_redd e.2.2.2
    have et := tidy_ech e
    have lp : (posV r).length = n := (posV_length r).trans e.1
    have h' := tidy_ech e.2.2.2
    unfold tidy at et ⊢
    intro s hs t ht
    rcases List.mem_cons.mp hs with z | hs
    · rcases List.mem_cons.mp ht with y | ht
      · rw [z, y]; exact Nat.le_refl _
      · have : itm t (piv s) = 0 := by rw [z]; exact et.2.2.2.zero ht (Nat.lt_succ_self _)
        rw [this]; exact Nat.zero_le _
    · rcases List.mem_cons.mp ht with y | ht
      · rw [y]; exact Nat.le_of_lt (redV_small h' lp s hs)
      · exact ih s hs t ht
theorem In.sub {S : (Nat → Int) → Prop} (C : Cl S) : ∀ {B : List Vec} {f : Nat → Int}, (∀ r ∈ B, S (itm r)) → In B f → S f
  | [], f, _, h => by
    rw [show f = _ from funext h]; exact C.zero
  | r :: rs, f, hS, ⟨a, h⟩ => C.of (t := a) (In.sub C (fun s hs => hS s (List.mem_cons_of_mem _ hs)) h) (hS r List.mem_cons_self) fun i => by omega
end Lat

namespace Lat
/-! ## a table of rows by their places, as the law keeps it -/
abbrev Tab := List (Option Vec)
def negV (v : Vec) : Vec := v.map fun n => 0 - n
def posAt (v : Vec) (p : Nat) : Vec := if itm v p < 0 then negV v else v
def putL : Tab → Nat → Vec → Tab
  | [], _, _ => []
  | o :: os, p, v => if itm v p = 0 then o :: putL os (p + 1) v else match o with
    | none => some (posAt v p) :: os
    | some h => some (posAt (clear h v p).1 p) :: putL os (p + 1) (clear h v p).2
def rowsOf (t : Tab) : List Vec := t.filterMap id
def leftL : Tab → Nat → Vec → Vec
  | [], _, v => v
  | none :: os, p, v => leftL os (p + 1) v
  | some h :: os, p, v => leftL os (p + 1) (addV v (-((itm v p).fdiv (itm h p))) h)
def EchT (n : Nat) : Nat → Tab → Prop
  | p, [] => p = n
  | p, o :: os => (∀ r, o = some r → r.length = n ∧ piv r = p ∧ 0 < itm r p) ∧ EchT n (p + 1) os
theorem EchT.len {n : Nat} : ∀ {p : Nat} {t : Tab}, EchT n p t → p + t.length = n
  | p, [], h => h
  | p, o :: os, h => by have := EchT.len h.2; rw [List.length_cons]; omega
theorem EchT.lt {n p : Nat} {o : Option Vec} {os : Tab} (h : EchT n p (o :: os)) : p < n := by have := h.len; rw [List.length_cons] at this; omega
theorem rows_none {os : Tab} : rowsOf (none :: os) = rowsOf os := rfl
theorem rows_some {h : Vec} {os : Tab} : rowsOf (some h :: os) = h :: rowsOf os := rfl
theorem EchT.ech {n : Nat} : ∀ {p : Nat} {t : Tab}, EchT n p t → Ech n p (rowsOf t)
  | _, [], _ => trivial
  | p, none :: os, h => Ech.mono (Nat.le_succ p) (EchT.ech (t := os) h.2)
  | p, some r :: os, h => by
    obtain ⟨a, b, c⟩ := h.1 r rfl
    have := h.lt
    refine ⟨a, by omega, by omega, ?_⟩
    rw [b]; exact EchT.ech (t := os) h.2
theorem EchT.pos {n : Nat} : ∀ {p : Nat} {t : Tab}, EchT n p t → ∀ s ∈ rowsOf t, 0 < itm s (piv s)
  | _, [], _ => fun s h => nomatch h
  | p, none :: os, h => EchT.pos (t := os) h.2
  | p, some r :: os, h => fun s hs => by
    rcases List.mem_cons.mp hs with e | hs
    · obtain ⟨a, b, c⟩ := h.1 r rfl
      subst e; rw [b]; exact c
    · exact EchT.pos (t := os) h.2 s hs
theorem EchT.empty (n : Nat) : ∀ k p, p + k = n → EchT n p (List.replicate k none)
  | 0, p, h => h
  | k + 1, p, h => ⟨fun r e => (nomatch e), EchT.empty n k (p + 1) (by omega)⟩
theorem rows_empty : ∀ k, rowsOf (List.replicate k none) = []
  | 0 => rfl
  | k + 1 => rows_empty k
theorem negV_len (v : Vec) : (negV v).length = v.length := List.length_map ..
theorem negV_itm (v : Vec) (i : Nat) : itm (negV v) i = - itm v i := by
  unfold itm negV
  rw [List.getD_eq_getElem?_getD, List.getD_eq_getElem?_getD, List.getElem?_map]
  cases v[i]? with
  | none => rfl
  | some x => show 0 - x = -x; omega
theorem posAt_len (v : Vec) (p : Nat) : (posAt v p).length = v.length := by
  unfold posAt; split
  · exact negV_len v
  · rfl
theorem posAt_itm (v : Vec) (p : Nat) : (∀ i, itm (posAt v p) i = itm v i) ∨ ∀ i, itm (posAt v p) i = - itm v i := by
  unfold posAt; split
  · exact .inr (negV_itm v)
  · exact .inl fun i => rfl
theorem posAt_abs (v : Vec) (p i : Nat) : (itm (posAt v p) i).natAbs = (itm v i).natAbs := by
  rcases posAt_itm v p with q | q
  · rw [q]
  · rw [q, Int.natAbs_neg]
theorem posAt_pos {v : Vec} {p : Nat} (h : itm v p ≠ 0) : 0 < itm (posAt v p) p := by
  unfold posAt; split
  · rw [negV_itm]; omega
  · omega
theorem posAt_row {v : Vec} {p : Nat} (h : itm v p ≠ 0) (z : ∀ i, i < p → itm v i = 0) : piv (posAt v p) = p := by
  refine piv_eq (fun i hi => ?_) (by have := posAt_pos h; omega)
  have := posAt_abs v p i
  rw [z i hi] at this
  omega
theorem posAt_cl {S : (Nat → Int) → Prop} (C : Cl S) (r : Vec) (p : Nat) : S (itm (posAt r p)) ↔ S (itm r) := by
  rcases posAt_itm r p with h | h
  · rw [show itm (posAt r p) = itm r from funext h]
  · exact ⟨fun q => C.of (t := -1) C.zero q fun i => by rw [h]; omega, fun q => C.of (t := -1) C.zero q fun i => by rw [h]; omega⟩
theorem zero_more {v : Vec} {p : Nat} (z : ∀ i, i < p → itm v i = 0) (h : itm v p = 0) : ∀ i, i < p + 1 → itm v i = 0 := fun i hi => by
  by_cases e : i = p
  · rw [e]; exact h
  · exact z i (by omega)
theorem clear_at {n p : Nat} {h v : Vec} (lh : h.length = n) (lv : v.length = n) (ph : piv h = p) (hp : 0 < itm h p) (z : ∀ i, i < p → itm v i = 0) :
    (clear h v p).1.length = n ∧ (clear h v p).2.length = n ∧ itm (clear h v p).1 p ≠ 0 ∧ (∀ i, i < p → itm (clear h v p).1 i = 0) ∧ ∀ i, i < p + 1 → itm (clear h v p).2 i = 0 := by
  obtain ⟨c1, c2⟩ := clear_len (i := p) (lh.trans lv.symm)
  obtain ⟨f1, f2, f3⟩ := clear_facts (i := p) lh lv (by omega)
  have f4 : ∀ j, j < p → itm (clear h v p).1 j = 0 ∧ itm (clear h v p).2 j = 0 := fun j hj => f3 j ((piv_spec h).1 j (by omega)) (z j hj)
  exact ⟨c1.trans lh, c2.trans lh, f2, fun i hi => (f4 i hi).1, zero_more (fun i hi => (f4 i hi).2) f1⟩
theorem putL_tab {n : Nat} : ∀ {p : Nat} {t : Tab} {v : Vec}, EchT n p t → v.length = n → (∀ i, i < p → itm v i = 0) → EchT n p (putL t p v)
  | _, [], _, h, _, _ => h
  | p, o :: os, v, h, l, z => by
    unfold putL
    split
    · next e => exact ⟨h.1, putL_tab h.2 l (zero_more z e)⟩
    · next e =>
      cases o with
      | none => exact ⟨fun r q => by cases q; exact ⟨(posAt_len v p).trans l, posAt_row e z, posAt_pos e⟩, h.2⟩
      | some r =>
        obtain ⟨a, b, c⟩ := h.1 r rfl
        obtain ⟨q1, q2, q3, q4, q5⟩ := clear_at a l b c z
        exact ⟨fun r q => by cases q; exact ⟨(posAt_len _ p).trans q1, posAt_row q3 q4, posAt_pos q3⟩, putL_tab h.2 q2 q5⟩
theorem zero_all {n : Nat} {v : Vec} (l : v.length = n) (z : ∀ i, i < n → itm v i = 0) : piv v = v.length := by
  rcases Nat.lt_or_ge (piv v) v.length with h | h
  · exact absurd (z _ (l ▸ h)) ((piv_spec v).2 h)
  · exact Nat.le_antisymm (piv_le v) h
theorem putL_cl {S : (Nat → Int) → Prop} (C : Cl S) {n : Nat} : ∀ {p : Nat} {t : Tab} {v : Vec}, EchT n p t → v.length = n → (∀ i, i < p → itm v i = 0) → ((∀ r ∈ rowsOf (putL t p v), S (itm r)) ↔ ((∀ r ∈ rowsOf t, S (itm r)) ∧ S (itm v)))
  | p, [], v, h, l, z => ⟨fun _ => ⟨fun r q => (nomatch q), C.itm_zero (zero_all l (fun i hi => z i (by rw [show p = n from h]; exact hi)))⟩, fun _ r q => nomatch q⟩
  | p, o :: os, v, h, l, z => by
    unfold putL
    split
    · next e =>
      have ih := putL_cl C h.2 l (zero_more z e)
      cases o with
      | none => exact ih
      | some r =>
        rw [rows_some, rows_some, List.forall_mem_cons, List.forall_mem_cons, ih, and_assoc]
    · next e =>
      cases o with
      | none =>
        show (∀ r ∈ posAt v p :: rowsOf os, S (itm r)) ↔ ((∀ r ∈ rowsOf os, S (itm r)) ∧ S (itm v))
        rw [List.forall_mem_cons, posAt_cl C, and_comm]
      | some r =>
        obtain ⟨a, b, c⟩ := h.1 r rfl
        obtain ⟨q1, q2, q3, q4, q5⟩ := clear_at a l b c z
        have ih := putL_cl C h.2 q2 q5
        have cc : (S (itm (clear r v p).1) ∧ S (itm (clear r v p).2)) ↔ _ := clr_cl C _ r v p (a.trans l.symm)
        show (∀ s ∈ posAt (clear r v p).1 p :: rowsOf (putL os (p + 1) (clear r v p).2), S (itm s)) ↔ ((∀ s ∈ r :: rowsOf os, S (itm s)) ∧ S (itm v))
        rw [List.forall_mem_cons, List.forall_mem_cons, posAt_cl C, ih]
        constructor
        · rintro ⟨h1, h2, h3⟩
          obtain ⟨h4, h5⟩ := cc.mp ⟨h1, h3⟩
          exact ⟨⟨h4, h2⟩, h5⟩
        · rintro ⟨⟨h1, h2⟩, h3⟩
          obtain ⟨h4, h5⟩ := cc.mpr ⟨h1, h3⟩
          exact ⟨h4, h2, h5⟩
theorem leftL_red {n : Nat} : ∀ {p : Nat} {t : Tab} {v : Vec}, EchT n p t → leftL t p v = redV (rowsOf t) v
  | _, [], _, _ => rfl
  | p, none :: os, v, h => leftL_red (t := os) h.2
  | p, some r :: os, v, h => by
    obtain ⟨a, b, c⟩ := h.1 r rfl
    show leftL os (p + 1) _ = redV (r :: rowsOf os) v
    rw [leftL_red (t := os) h.2]
    show _ = redV (rowsOf os) (addV v (-((itm v (piv r)).fdiv (itm r (piv r)))) r)
    rw [b]
theorem rows_count : ∀ t : Tab, (rowsOf t).length ≤ t.length
  | [] => Nat.le_refl _
  | none :: os => Nat.le_succ_of_le (rows_count os)
  | some r :: os => Nat.succ_le_succ (rows_count os)
/-- the law's table of some rows -/
def putsL (t : Tab) (rs : List Vec) : Tab := rs.foldl (fun t r => putL t 0 r) t
theorem putsL_tab {n : Nat} : ∀ {rs : List Vec} {t : Tab}, EchT n 0 t → (∀ r ∈ rs, r.length = n) → EchT n 0 (putsL t rs)
  | [], t, h, _ => h
  | r :: rs, t, h, hr => putsL_tab (rs := rs) (putL_tab h (hr r List.mem_cons_self) fun i hi => absurd hi (Nat.not_lt_zero _)) fun s hs => hr s (List.mem_cons_of_mem _ hs)
theorem putsL_cl {S : (Nat → Int) → Prop} (C : Cl S) {n : Nat} : ∀ {rs : List Vec} {t : Tab}, EchT n 0 t → (∀ r ∈ rs, r.length = n) → ((∀ r ∈ rowsOf (putsL t rs), S (itm r)) ↔ ((∀ r ∈ rowsOf t, S (itm r)) ∧ ∀ r ∈ rs, S (itm r)))
  | [], t, h, _ => ⟨fun q => ⟨q, fun r hr => nomatch hr⟩, fun q => q.1⟩
  | r :: rs, t, h, hr => by
    have l := hr r List.mem_cons_self
    have z : ∀ i, i < 0 → itm r i = 0 := fun i hi => absurd hi (Nat.not_lt_zero _)
    have ih := putsL_cl C (rs := rs) (putL_tab h l z) fun s hs => hr s (List.mem_cons_of_mem _ hs)
    have e : putsL t (r :: rs) = putsL (putL t 0 r) rs := rfl
    rw [e, ih, putL_cl C h l z, List.forall_mem_cons, and_assoc]
/-! ## what is reduced is one alone -/
def PosP (B : List Vec) : Prop := ∀ s ∈ B, 0 < itm s (piv s)
theorem redV_rng {n : Nat} : ∀ {c : Nat} {B : List Vec} {v : Vec}, Ech n c B → PosP B → v.length = n → ∀ s ∈ B, 0 ≤ itm (redV B v) (piv s) ∧ itm (redV B v) (piv s) < itm s (piv s)
  | _, [], v, _, _, _ => fun s h => nomatch h
  | c, r :: rs, v, e, P, l => fun s hs => by
    have lr : v.length = r.length := l.trans e.1.symm
    have l' : (addV v (-((itm v (piv r)).fdiv (itm r (piv r)))) r).length = n := (addV_len lr).trans l
    rcases List.mem_cons.mp hs with z | hs
    · subst z
      have h1 := redV_low e.2.2.2 l' (piv s) (by omega)
      show 0 ≤ itm (redV rs (addV v (-((itm v (piv s)).fdiv (itm s (piv s)))) s)) (piv s) ∧ _
      have h2 := fdiv_rem (itm v (piv s)) (itm s (piv s)) (P s List.mem_cons_self)
      have h3 : itm (redV rs (addV v (-((itm v (piv s)).fdiv (itm s (piv s)))) s)) (piv s) = itm v (piv s) - (itm v (piv s)).fdiv (itm s (piv s)) * itm s (piv s) := by
        rw [h1, itm_add lr]; grind
      rw [h3]
      refine ⟨h2.1, ?_⟩
      show itm (redV rs (addV v (-((itm v (piv s)).fdiv (itm s (piv s)))) s)) (piv s) < _
      rw [h3]; exact h2.2
    · exact redV_rng e.2.2.2 (fun t ht => P t (List.mem_cons_of_mem _ ht)) l' s hs
theorem redV_diff {S : (Nat → Int) → Prop} (C : Cl S) : ∀ (B : List Vec) (v : Vec), (∀ r ∈ B, r.length = v.length) → (∀ r ∈ B, S (itm r)) → S fun i => itm v i - itm (redV B v) i
  | [], v, _, _ => C.of (t := 0) C.zero C.zero fun i => by show itm v i - itm v i = 0 + 0 * 0; omega
  | r :: rs, v, h, hS => by
    have l := (h r List.mem_cons_self).symm
    have e := addV_len (t := -((itm v (piv r)).fdiv (itm r (piv r)))) l
    have ih := redV_diff C rs (addV v (-((itm v (piv r)).fdiv (itm r (piv r)))) r) (fun s hs => (h s (List.mem_cons_of_mem _ hs)).trans e.symm) fun s hs => hS s (List.mem_cons_of_mem _ hs)
    refine C.of (t := (itm v (piv r)).fdiv (itm r (piv r))) ih (hS r List.mem_cons_self) fun i => ?_
    show itm v i - itm (redV rs _) i = _
    rw [itm_add l]; grind
theorem first_eq {f : Nat → Int} {p q : Nat} (hp : ∀ i, i < p → f i = 0) (hp' : f p ≠ 0) (hq : ∀ i, i < q → f i = 0) (hq' : f q ≠ 0) : p = q := by
  rcases Nat.lt_trichotomy p q with l | l | l
  · exact absurd (hq _ l) hp'
  · exact l
  · exact absurd (hp _ l) hq'
theorem mul_ge {a b : Int} (ha : a ≠ 0) (hb : 0 < b) : a * b ≤ -b ∨ b ≤ a * b := by
  rcases Int.lt_or_gt_of_ne ha with h | h
  · left
    have := Int.mul_le_mul_of_nonneg_right (show a ≤ -1 by omega) (show 0 ≤ b by omega)
    omega
  · right
    have := Int.mul_le_mul_of_nonneg_right (show 1 ≤ a by omega) (show 0 ≤ b by omega)
    omega
/-- two vectors that differ by one of the lattice, each reduced by an echelon family of it, are one -/
theorem uniq {n : Nat} {B T : List Vec} (eB : Ech n 0 B) (eT : Ech n 0 T) (pB : PosP B) (pT : PosP T) {u w : Nat → Int} (hu : ∀ s ∈ B, 0 ≤ u (piv s) ∧ u (piv s) < itm s (piv s)) (hw : ∀ s ∈ T, 0 ≤ w (piv s) ∧ w (piv s) < itm s (piv s))
    (dB : In B fun i => u i - w i) (dT : In T fun i => u i - w i) : ∀ i, u i = w i := by
  rcases lead eB dB with z | ⟨s, hs, a, ha, z, y⟩
  · intro i; have := z i; omega
  · rcases lead eT dT with z' | ⟨t, ht, b, hb, z', y'⟩
    · intro i; have := z' i; omega
    · have ps := pB s hs
      have pt := pT t ht
      have e : piv s = piv t := first_eq z (by rw [y]; exact Int.mul_ne_zero ha (by omega)) z' (by rw [y']; exact Int.mul_ne_zero hb (by omega))
      have h1 := hu s hs
      have h2 := hw t ht
      rw [← e] at h2 y' pt
      have q1 := mul_ge ha ps
      have q2 := mul_ge hb pt
      rw [← y] at q1
      rw [← y'] at q2
      omega
theorem vec_ext {u w : Vec} (l : u.length = w.length) (h : ∀ i, itm u i = itm w i) : u = w := by
  apply List.ext_getElem? 
  intro i
  rcases Nat.lt_or_ge i u.length with hi | hi
  · rw [itm_of hi, itm_of (l ▸ hi), h]
  · rw [List.getElem?_eq_none hi, List.getElem?_eq_none (l ▸ hi)]
/-- reduced by either of two families of one lattice -/
theorem red_same {n : Nat} {B T : List Vec} (eB : Ech n 0 B) (eT : Ech n 0 T) (pB : PosP B) (pT : PosP T) (hBT : ∀ r ∈ B, In T (itm r)) (hTB : ∀ r ∈ T, In B (itm r)) {v v' : Vec} (l : v.length = n) (l' : v'.length = n) (d : In B fun i => itm v i - itm v' i) : redV B v = redV T v' := by
  have lB : ∀ r ∈ B, r.length = v.length := fun r hr => (eB.row r hr).1.trans l.symm
  have lT : ∀ r ∈ T, r.length = v'.length := fun r hr => (eT.row r hr).1.trans l'.symm
  have h1 := redV_diff (In.cl B) B v lB fun r hr => In.mem _ _ hr
  have h2 := redV_diff (In.cl B) T v' lT hTB
  have h3 : In B fun i => itm (redV B v) i - itm (redV T v') i := by
    have q1 := (In.cl B).of (t := -1) d h1 (g := fun i => itm (redV B v) i - itm v' i) fun i => by show _ = (itm v i - itm v' i) + -1 * (itm v i - itm (redV B v) i); omega
    exact (In.cl B).of (t := 1) q1 h2 fun i => by show _ = (itm (redV B v) i - itm v' i) + 1 * (itm v' i - itm (redV T v') i); omega
  refine vec_ext ?_ (uniq eB eT pB pT (redV_rng eB pB l) (redV_rng eT pT l') h3 (In.sub (In.cl T) hBT h3))
  rw [redV_len B v lB, redV_len T v' lT, l, l']
theorem red_zero {n : Nat} {B : List Vec} (eB : Ech n 0 B) {v : Vec} (l : v.length = n) (h : In B (itm v)) : piv (redV B v) = (redV B v).length := by
  have lB : ∀ r ∈ B, r.length = v.length := fun r hr => (eB.row r hr).1.trans l.symm
  have h1 := (redV_cl (In.cl B) B v lB fun r hr => In.mem _ _ hr).mpr h
  have ll := (redV_len B v lB).trans l
  rcases lead eB h1 with z | ⟨s, hs, a, ha, z, y⟩
  · exact zero_all ll fun i _ => z i
  · have sm := redV_small eB l s hs
    rw [y, Int.natAbs_mul] at sm
    have := Nat.le_mul_of_pos_left (itm s (piv s)).natAbs (Int.natAbs_pos.mpr ha)
    omega
theorem red_in {B : List Vec} {v : Vec} (lB : ∀ r ∈ B, r.length = v.length) (h : piv (redV B v) = (redV B v).length) : In B (itm v) :=
  (redV_cl (In.cl B) B v lB fun r hr => In.mem _ _ hr).mp ((In.cl B).itm_zero h)
/-! ## the basis has positive pivots -/
theorem tidy_pos {n : Nat} : ∀ {c : Nat} {B : List Vec}, Ech n c B → PosP (tidy B)
  | c, [], _ => fun s h => nomatch h
  | c, r :: rs, e => by
    have ih := tidy_ech e.2.2.2
    have lp : (posV r).length = n := (posV_length r).trans e.1
    have pp := posV_piv r (e.1 ▸ e.2.2.1)
    have lo := redV_low ih lp
    have rn := e.ne List.mem_cons_self
    have pe : piv (redV (tidy rs) (posV r)) = piv r := piv_eq (fun i hi => by rw [lo i (by omega), ← Int.natAbs_eq_zero, posV_abs, (piv_spec r).1 i hi]; rfl) (by
      rw [lo _ (by omega)]
      intro q
      have := posV_abs r (piv r)
      rw [q] at this
      exact rn (by omega))
    unfold tidy
    intro s hs
    rcases List.mem_cons.mp hs with z | hs
    · rw [z, pe, lo _ (by omega)]
      unfold posV
      split
      · next h => exact h
      · next h =>
        rw [itm_add rfl]; omega
    · exact tidy_pos e.2.2.2 s hs
end Lat

namespace Lat
/-! ## ghosts, by their number -/
def gbx (x : Nat) : Nat → Nat
  | 0 => 0
  | j + 1 => x + j * (gbx x j + 1)
theorem insG_or : ∀ {G : List Vec} {v : Vec}, insG G v = G ∨ (insG G v).length = G.length + 1
  | [], v => by
    unfold insG
    split
    · exact .inl rfl
    · exact .inr rfl
  | g :: gs, v => by
    unfold insG
    split
    · exact .inr rfl
    · rcases insG_or (G := gs) (v := crossV g v) with e | e
      · rw [e]; exact .inl rfl
      · exact .inr (congrArg (· + 1) e)
theorem gbx_mono {x : Nat} : ∀ j, gbx x j ≤ gbx x (j + 1)
  | 0 => Nat.zero_le _
  | j + 1 => by
    have ih := gbx_mono (x := x) j
    show x + j * (gbx x j + 1) ≤ x + (j + 1) * (gbx x (j + 1) + 1)
    have := Nat.mul_le_mul (Nat.le_succ j) (Nat.succ_le_succ ih)
    exact Nat.add_le_add_left this x
theorem gbx_le {x : Nat} {i j : Nat} (h : i ≤ j) : gbx x i ≤ gbx x j := by
  induction h with
  | refl => exact Nat.le_refl _
  | step _ ih => exact Nat.le_trans ih (gbx_mono _)
theorem p2le {a b : Nat} (h : a ≤ b) : 2 ^ a ≤ 2 ^ b := Nat.pow_le_pow_right (by decide) h
structure Gh (x n : Nat) (B : List Vec) : Prop where
  eB : Ech n 0 B
  ex : ∃ G, Ech n 0 G ∧ (∀ g ∈ G, In B (itm g)) ∧ (∀ s ∈ B, RIn G (itm s)) ∧ ∀ g ∈ G, ∀ i, (itm g i).natAbs ≤ 2 ^ gbx x G.length
theorem Gh.nil (x n : Nat) : Gh x n [] := ⟨trivial, [], trivial, fun g h => (nomatch h), fun g h => (nomatch h), fun g h => (nomatch h)⟩
theorem Gh.step {x n : Nat} {B B' : List Vec} {v : Vec} (I : Gh x n B) (x1 : x ≤ gbx x 1) (eB' : Ech n 0 B') (l : v.length = n) (hv : ∀ i, (itm v i).natAbs ≤ 2 ^ x) (h : ∀ S, Cl S → ((∀ r ∈ B', S (itm r)) ↔ ((∀ r ∈ B, S (itm r)) ∧ S (itm v)))) : Gh x n B' := by
  obtain ⟨G, eG, h1, h2, h3⟩ := I.ex
  have eG' : Ech n 0 (insG G v) := insG_ech eG l (Nat.zero_le _) fun i hi => absurd hi (Nat.not_lt_zero _)
  have rB : ∀ s ∈ B, RIn (insG G v) (itm s) := fun s hs => by
    obtain ⟨D, hD, h⟩ := h2 s hs
    exact ⟨D, hD, In.sub (In.cl _) (fun g hg => insG_old g hg) h⟩
  have rv : RIn (insG G v) (itm v) := insG_new eG l
  obtain ⟨q1, q2⟩ := (h (In B') (In.cl B')).mp fun r hr => In.mem _ _ hr
  refine ⟨eB', insG G v, eG', insG_cl (In.cl B') eG l (fun g hg => In.sub (In.cl B') q1 (h1 g hg)) q2, (h (RIn (insG G v)) (RIn.cl _)).mpr ⟨rB, rv⟩, ?_⟩
  rcases insG_or (G := G) (v := v) with e | e
  · rw [e]; exact h3
  · rw [e]
    refine insG_size (b := 2 ^ gbx x G.length) (x := 2 ^ x) (Nat.two_pow_pos _) eG l h3 hv (p2le (gbx_mono _)) ?_
    have e1 : 2 * 2 ^ gbx x G.length = 2 ^ (gbx x G.length + 1) := by rw [Nat.pow_succ, Nat.mul_comm]
    rw [e1, ← Nat.pow_mul, ← Nat.pow_add]
    refine p2le ?_
    show _ ≤ x + G.length * (gbx x G.length + 1)
    rw [Nat.mul_comm]; exact Nat.le_refl _
theorem Gh.piv {x n : Nat} {B : List Vec} (I : Gh x n B) : ∀ s ∈ B, (itm s (Lat.piv s)).natAbs ≤ 2 ^ gbx x n := by
  obtain ⟨G, eG, h1, h2, h3⟩ := I.ex
  intro s hs
  obtain ⟨g, hg, _, q⟩ := piv_bound I.eB eG h1 h2 s hs
  have c := eG.count (Nat.zero_le _)
  exact Nat.le_trans q (Nat.le_trans (h3 g hg _) (p2le (gbx_le (by omega))))
theorem Ech.full {n : Nat} : ∀ {c : Nat} {G : List Vec}, Ech n c G → c + G.length = n → ∀ i, c ≤ i → i < n → ∃ g ∈ G, Lat.piv g = i
  | c, [], _, h => fun i h1 h2 => by rw [List.length_nil] at h; omega
  | c, r :: rs, e, h => fun i h1 h2 => by
    have c1 := Ech.count e.2.2.2 e.2.2.1
    have := e.2.1
    rw [List.length_cons] at h
    by_cases q : i = Lat.piv r
    · exact ⟨r, List.mem_cons_self, q.symm⟩
    · obtain ⟨g, hg, z⟩ := Ech.full e.2.2.2 (by omega) i (by omega) h2
      exact ⟨g, List.mem_cons_of_mem _ hg, z⟩
/-- what is reduced is small: by the ghosts if they are fewer than columns, by the pivots else -/
theorem Gh.red {x n y z w : Nat} {B : List Vec} (I : Gh x n B) {v : Vec} (l : v.length = n) (hv : ∀ i, (itm v i).natAbs ≤ 2 ^ y) (n1 : 1 ≤ n)
    (hz : gbx x n ≤ z) (hw : ∀ k, k < n → (gbx x k + y + 1) + k * (gbx x k + 2) + 1 ≤ z) (hy : y ≤ z) : ∀ i, (itm (redV B v) i).natAbs ≤ 2 ^ (z + 1) := by
  obtain ⟨G, eG, h1, h2, h3⟩ := I.ex
  have lB : ∀ r ∈ B, r.length = v.length := fun r hr => (I.eB.row r hr).1.trans l.symm
  have lr := (redV_len B v lB).trans l
  -- at the pivots of the basis
  have atB : ∀ g ∈ G, ∃ s ∈ B, Lat.piv s = Lat.piv g ∧ (itm s (Lat.piv s)).natAbs ≤ (itm g (Lat.piv g)).natAbs := by
    intro g hg
    have gn := eG.ne hg
    rcases lead I.eB (h1 g hg) with z | ⟨t, ht, a, ha, z, y⟩
    · exact absurd (z _) gn
    · have tn := I.eB.ne ht
      have e' : Lat.piv t = Lat.piv g := first_eq z (by rw [y]; exact Int.mul_ne_zero ha tn) (piv_spec g).1 gn
      refine ⟨t, ht, e', ?_⟩
      rw [← e', y, Int.natAbs_mul]
      exact Nat.le_mul_of_pos_left _ (Int.natAbs_pos.mpr ha)
  have small : ∀ g ∈ G, (itm (redV B v) (Lat.piv g)).natAbs ≤ 2 ^ gbx x G.length := by
    intro g hg
    obtain ⟨s, hs, e, q⟩ := atB g hg
    have := redV_small I.eB l s hs
    rw [e] at this q
    have := h3 g hg (Lat.piv g)
    omega
  have cG := eG.count (Nat.zero_le _)
  intro i
  by_cases hf : G.length = n
  · rcases Nat.lt_or_ge i n with hi | hi
    · obtain ⟨g, hg, e⟩ := Ech.full eG (by omega) i (Nat.zero_le _) hi
      have := small g hg
      rw [e, hf] at this
      exact Nat.le_trans this (p2le (by omega))
    · rw [itm_out (by omega)]; exact Nat.zero_le _
  · have d := redV_diff (RIn.cl G) B v lB fun s hs => h2 s hs
    have q := all_bound (b := 2 ^ gbx x G.length) (A := 2 ^ (gbx x G.length + y + 1)) (Nat.two_pow_pos _) eG h3 d (fun g hg => ?_) i
    · have e1 : 4 * 2 ^ gbx x G.length = 2 ^ (gbx x G.length + 2) := by rw [Nat.pow_add, Nat.mul_comm]
      rw [e1, ← Nat.pow_mul, ← Nat.pow_add] at q
      have q2 := hw G.length (by omega)
      rw [Nat.mul_comm] at q
      have q3 : (itm v i - itm (redV B v) i).natAbs ≤ 2 ^ z := Nat.le_trans q (p2le (by omega))
      have q4 := Nat.le_trans (hv i) (p2le hy)
      rw [Nat.pow_succ]
      omega
    · show (itm v (Lat.piv g) - itm (redV B v) (Lat.piv g)).natAbs ≤ _
      have q1 := small g hg
      have q2 := hv (Lat.piv g)
      have q3 : 2 ^ gbx x G.length ≤ 2 ^ (gbx x G.length + y) := p2le (by omega)
      have q4 : 2 ^ y ≤ 2 ^ (gbx x G.length + y) := p2le (by omega)
      rw [Nat.pow_succ]
      omega
end Lat

namespace K06
open PySem L2 RZ Lat
section
variable {P : Program} {w : World} {K : PySem.W.Frag} {mg : Str → Option Value} {base : Heap}
def OkRed : List Vec → Vec → Prop
  | [], _ => True
  | r :: rs, v => piv r < r.length ∧ CDivZ (itm v (piv r)) (itm r (piv r)) ∧ (∀ m ∈ r, CMulX (-((itm v (piv r)).fdiv (itm r (piv r)))) m) ∧ OkRed rs (addV v (-((itm v (piv r)).fdiv (itm r (piv r)))) r)
/-- rows in a list or a tuple -/
def RowsAt (H : Hp) (b : Addr) (as : List V) : Prop := H b = some (.tup as) ∨ H b = some (.lst as)
theorem RowsAt.keep {H H' : Hp} {b : Addr} {as : List V} (s : Same H H') (h : RowsAt H b as) : RowsAt H' b as := h.imp (s _ _) (s _ _)
theorem int_at {v : Vec} {i : Nat} (h : i < v.length) : atI (v.map V.int) ((i : Nat) : Int) = some (V.int (itm v i)) := atI_nat (by rw [List.getElem?_map, itm_of h]; rfl)
abbrev s_reduced_by : Stmt := top 18
abbrev n_reduced_by : List Str := ["basis", "vector", "row", "at"]
theorem sc_reduced_by : FnScope n_reduced_by ["basis", "vector"] (defScope s_reduced_by) := ⟨rfl, rfl, rfl, by decide +kernel, rfl, by decide +kernel, by decide +kernel⟩
def spReduced : Sp := fun vs H Q _ => ∃ (b p : Addr) (as : List V) (rs : List Vec) (v : Vec), vs = [.ref b, .ref p] ∧ RowsAt H b as ∧ Rows H v.length as rs ∧ IsV H p v ∧ v.length ≤ 1000 ∧ OkRed rs v ∧ ∀ (H' : Hp) (q : Addr), Same H H' → IsV H' q (redV rs v) → (redV rs v).length = v.length → Q (.ref q) H'
theorem ok_reduced_by (T : Txt mg) (g_pivot_of : Has P w K mg base 1 "pivot_of" ["vector"] spPivot) (g_added : Has P w K mg base 1 "added" ["vector", "times", "other"] spAdded) (F : DefAt K mg "reduced_by" s_reduced_by ["basis", "vector"]) : Has P w K mg base 2 "reduced_by" ["basis", "vector"] spReduced := by
  refine F.has sc_reduced_by (fun vs H Q E h => ?_) (fun f cdv A outer s H vs Q E hr h => ?_)
  · obtain ⟨b, p, as, rs, v, rfl, _⟩ := h
    rfl
  · obtain ⟨b, p, as, rs, v, rfl, hb, hrs, hv, h1, ok, k⟩ := h
    refine ⟨_, (pss_cons (ps_for PassesOwn.never rfl (pi_seq (pv 0)) (pg_name (i := 2) sc_reduced_by.nd rfl (Or.inl rfl)) (pss_cons (ps_set (i := 3) sc_reduced_by.nd rfl (Or.inl rfl) (pe_callHas g_pivot_of (hr.mono (by decide)) rfl (pa_cons (pv 2) pa_nil)))
      (pss_one (ps_set (i := 1) sc_reduced_by.nd rfl (Or.inl rfl) (pe_callHas g_added (hr.mono (by decide)) rfl (pa_cons (pv 1) (pa_cons (pe_un un_neg (pe_op op_fdivZ (pe_ix ix_tup (pv 1) (pv 3) (fun _ _ => rfl)) (pe_ix ix_tup (pv 2) (pv 3) (fun _ _ => rfl)))) (pa_cons (pv 2) pa_nil))))))))
      (pss_one (ps_ret (pv 1)))), ?_⟩
    rcases hb with hb | hb
    · refine .inr ⟨_, rfl, b, rfl, ⟨_, SqT.of hb⟩, for_it (walk_tup (xs := as)) (fun i σ H' => ∃ (q : Addr) (u : Vec) (x2 x3 : Option V), σ = [some (.ref b), some (.ref q), x2, x3] ∧ Same H H' ∧ IsV H' q u ∧ u.length = v.length ∧ OkRed (rs.drop i) u ∧ redV (rs.drop i) u = redV rs v) ⟨p, v, _, _, rfl, Same.refl _, hv, rfl, ok, rfl⟩ (fun i σ H' _ q => SqT.of ((show Same H H' from by obtain ⟨_, _, _, _, _, sm, _⟩ := q; exact sm) _ _ hb)) ?_ ?_⟩
      · rintro i x σ H' H'' hi ⟨q, u, x2, x3, rfl, sm, hu, lu, oku, eu⟩ ⟨rfl, ex⟩
        obtain ⟨a, r, er, rfl, hr0, lr⟩ := (hrs.keep sm).at ex
        have hlt := (List.getElem?_eq_some_iff.mp er).1
        have ed : rs.drop i = r :: rs.drop (i + 1) := by
          rw [List.drop_eq_getElem_cons hlt, (List.getElem?_eq_some_iff.mp er).2]
        rw [ed] at oku eu
        obtain ⟨o1, o2, o3, o4⟩ := oku
        refine ⟨_, rfl, a, r, rfl, hr0, fun H1 s1 => ?_⟩
        refine ⟨_, rfl, _, rfl, _, rfl, q, _, _, _, rfl, rfl, SqT.of (s1 _ _ hu), int_at (by omega), _, rfl, _, rfl, a, _, _, _, rfl, rfl, SqT.of (s1 _ _ hr0), int_at o1, _, _, rfl, rfl, o2, _, rfl, _, rfl, ?_⟩
        refine ⟨q, a, _, u, r, rfl, s1 _ _ hu, s1 _ _ hr0, by omega, by omega, o3, fun H2 z s2 hz => ?_⟩
        exact ⟨z, _, _, _, rfl, (sm.trans s1).trans s2, hz, (addV_len (by omega)).trans lu, o4, eu⟩
      · rintro σ H' ⟨q, u, x2, x3, rfl, sm, hu, lu, oku, eu⟩
        rw [hrs.len, List.drop_length] at eu
        have eu' : u = redV rs v := eu
        subst eu'
        exact ⟨_, rfl, k _ q sm hu lu⟩
    · refine .inl ⟨_, rfl, b, rfl, ⟨_, SqL.of hb⟩, for_it (walk_list (xs := as)) (fun i σ H' => ∃ (q : Addr) (u : Vec) (x2 x3 : Option V), σ = [some (.ref b), some (.ref q), x2, x3] ∧ Same H H' ∧ IsV H' q u ∧ u.length = v.length ∧ OkRed (rs.drop i) u ∧ redV (rs.drop i) u = redV rs v) ⟨p, v, _, _, rfl, Same.refl _, hv, rfl, ok, rfl⟩ (fun i σ H' _ q => SqL.of ((show Same H H' from by obtain ⟨_, _, _, _, _, sm, _⟩ := q; exact sm) _ _ hb)) ?_ ?_⟩
      · rintro i x σ H' H'' hi ⟨q, u, x2, x3, rfl, sm, hu, lu, oku, eu⟩ ⟨rfl, ex⟩
        obtain ⟨a, r, er, rfl, hr0, lr⟩ := (hrs.keep sm).at ex
        have hlt := (List.getElem?_eq_some_iff.mp er).1
        have ed : rs.drop i = r :: rs.drop (i + 1) := by
          rw [List.drop_eq_getElem_cons hlt, (List.getElem?_eq_some_iff.mp er).2]
        rw [ed] at oku eu
        obtain ⟨o1, o2, o3, o4⟩ := oku
        refine ⟨_, rfl, a, r, rfl, hr0, fun H1 s1 => ?_⟩
        refine ⟨_, rfl, _, rfl, _, rfl, q, _, _, _, rfl, rfl, SqT.of (s1 _ _ hu), int_at (by omega), _, rfl, _, rfl, a, _, _, _, rfl, rfl, SqT.of (s1 _ _ hr0), int_at o1, _, _, rfl, rfl, o2, _, rfl, _, rfl, ?_⟩
        refine ⟨q, a, _, u, r, rfl, s1 _ _ hu, s1 _ _ hr0, by omega, by omega, o3, fun H2 z s2 hz => ?_⟩
        exact ⟨z, _, _, _, rfl, (sm.trans s1).trans s2, hz, (addV_len (by omega)).trans lu, o4, eu⟩
      · rintro σ H' ⟨q, u, x2, x3, rfl, sm, hu, lu, oku, eu⟩
        rw [hrs.len, List.drop_length] at eu
        have eu' : u = redV rs v := eu
        subst eu'
        exact ⟨_, rfl, k _ q sm hu lu⟩
/-- the turns of cleared keep to what the model can do -/
def OkClr : Nat → Vec → Vec → Nat → Prop
  | 0, _, v, i => itm v i = 0
  | n + 1, r, v, i => itm v i = 0 ∨ (CDivZ (itm r i) (itm v i) ∧ (∀ m ∈ v, CMulX (-((itm r i).fdiv (itm v i))) m) ∧ OkClr n v (addV r (-((itm r i).fdiv (itm v i))) v) i)
abbrev s_cleared : Stmt := top 19
abbrev n_cleared : List Str := ["row", "vector", "at"]
theorem sc_cleared : FnScope n_cleared ["row", "vector", "at"] (defScope s_cleared) := ⟨rfl, rfl, rfl, by decide +kernel, rfl, by decide +kernel, by decide +kernel⟩
def spCleared : Sp := fun vs H Q _ => ∃ (a p : Addr) (r v : Vec) (i n : Nat), vs = [.ref a, .ref p, .int ((i : Nat) : Int)] ∧ IsV H a r ∧ IsV H p v ∧ r.length = v.length ∧ v.length ≤ 1000 ∧ i < v.length ∧ OkClr n r v i ∧
  ∀ (H' : Hp) (t x y : Addr), Same H H' → H' t = some (.tup [.ref x, .ref y]) → IsV H' x (clr n r v i).1 → IsV H' y (clr n r v i).2 → Q (.ref t) H'
theorem ok_cleared (T : Txt mg) (g_added : Has P w K mg base 1 "added" ["vector", "times", "other"] spAdded) (F : DefAt K mg "cleared" s_cleared ["row", "vector", "at"]) : Has P w K mg base 2 "cleared" ["row", "vector", "at"] spCleared := by
  refine F.has sc_cleared (fun vs H Q E h => ?_) (fun f cdv A outer s H vs Q E hr h => ?_)
  · obtain ⟨a, p, r, v, i, n, rfl, _⟩ := h
    rfl
  · obtain ⟨a, p, r, v, i, n, rfl, ha, hp, hl, h1, hi, ok, k⟩ := h
    refine ⟨_, (pss_cons (ps_while PassesOwn.never (pt_cmpR op_ne (pe_ix ix_tup (pv 1) (pv 2) (fun _ _ => rfl)) pe_int (nomark _)) (pss_one (ps_par (i := 0) (j := 1) (by rfl) sc_cleared.nd rfl rfl (by decide) rfl rfl (pa_cons (pv 1) (pa_cons (pe_callHas g_added (hr.mono (by decide)) rfl (pa_cons (pv 0) (pa_cons (pe_un un_neg (pe_op op_fdivZ (pe_ix ix_tup (pv 0) (pv 2) (fun _ _ => rfl)) (pe_ix ix_tup (pv 1) (pv 2) (fun _ _ => rfl)))) (pa_cons (pv 1) pa_nil)))) pa_nil)) (by rfl))))
      (pss_one (ps_ret (pe_tup (pa_cons (pv 0) (pa_cons (pv 1) pa_nil)))))), ?_⟩
    refine ⟨fun m σ H' => ∃ (x y : Addr) (r' v' : Vec), σ = [some (.ref x), some (.ref y), some (.int ((i : Nat) : Int))] ∧ Same H H' ∧ IsV H' x r' ∧ IsV H' y v' ∧ r'.length = v'.length ∧ v'.length = v.length ∧ OkClr m r' v' i ∧ clr m r' v' i = clr n r v i, ⟨n, a, p, r, v, rfl, Same.refl _, ha, hp, hl, rfl, ok, rfl⟩, ?_⟩
    rintro m σ H' ⟨x, y, r', v', rfl, sm, hx, hy, hl', lv', ok', e'⟩
    refine ⟨_, rfl, _, rfl, y, _, _, _, rfl, rfl, SqT.of hy, int_at (by omega), rfl, _, rfl, ?_⟩
    have stop : itm v' i = 0 → clr m r' v' i = (r', v') := fun h0 => by
      cases m with
      | zero => rfl
      | succ m => unfold clr; rw [if_pos h0]
    by_cases h0 : itm v' i = 0
    · have e2 := stop h0
      show if (!decide (V.int (itm v' i) = V.int 0)) = true then _ else _
      rw [h0, decide_eq_true rfl]
      rw [e2] at e'
      refine ⟨_, rfl, _, rfl, (by decide : 2 ≤ sizeLine), fun t ht => ?_⟩
      obtain ⟨st, h2⟩ := new_at (o := .tup [.ref x, .ref y]) ht
      refine k _ t x y (sm.trans st) h2 (st _ _ ?_) (st _ _ ?_)
      · rw [← e']; exact hx
      · rw [← e']; exact hy
    · show if (!decide (V.int (itm v' i) = V.int 0)) = true then _ else _
      rw [decide_eq_false (fun z => h0 (V.int.inj z))]
      cases m with
      | zero => exact absurd ok' h0
      | succ m =>
        obtain ok' | ⟨o1, o2, o3⟩ := ok'
        · exact absurd ok' h0
        · have e3 : clr (m + 1) r' v' i = clr m v' (addV r' (-((itm r' i).fdiv (itm v' i))) v') i := by
            rw [clr, if_neg h0]
          rw [e3] at e'
          refine ⟨fun σ2 H2 => ∃ (x y : Addr) (r' v' : Vec), σ2 = [some (.ref x), some (.ref y), some (.int ((i : Nat) : Int))] ∧ Same H H2 ∧ IsV H2 x r' ∧ IsV H2 y v' ∧ r'.length = v'.length ∧ v'.length = v.length ∧ OkClr m r' v' i ∧ clr m r' v' i = clr n r v i, fun σ2 H2 q => ⟨m, Nat.lt_succ_self m, q⟩, ?_⟩
          refine ⟨_, rfl, _, rfl, _, rfl, _, rfl, x, _, _, _, rfl, rfl, SqT.of hx, int_at (by omega), _, rfl, _, rfl, y, _, _, _, rfl, rfl, SqT.of hy, int_at (by omega), _, _, rfl, rfl, o1, _, rfl, _, rfl, ?_⟩
          refine ⟨x, y, _, r', v', rfl, hx, hy, hl', by omega, o2, fun H2 z s2 hz => ?_⟩
          exact ⟨_, _, rfl, y, z, _, _, rfl, sm.trans s2, s2 _ _ hy, hz, by rw [addV_len hl', hl'], by rw [addV_len hl']; omega, o3, e'⟩
end
end K06

namespace K06
open PySem L2 RZ Lat
section
variable {P : Program} {w : World} {K : PySem.W.Frag} {mg : Str → Option Value} {base : Heap}
def OkStep : List Vec → Vec → Prop
  | [], _ => True
  | r :: rs, l => piv r < r.length ∧ ((piv l < piv r ∧ OkStep rs r) ∨ (¬ piv l < piv r ∧ OkClr (itm l (piv r)).natAbs r l (piv r) ∧ OkStep rs (clear r l (piv r)).2))
theorem Rows.lst_up {H : Hp} {n : Nat} {o : Addr} {ys xs as : List V} {vs : List Vec} (ho : H o = some (.lst ys)) (h : Rows H n as vs) : Rows (upd H o (.lst xs)) n as vs :=
  ⟨Paired.mapP h.1 fun x v z => by
    obtain ⟨a, e, q⟩ := z
    exact ⟨a, e, (upd_ne (ne_of q ho fun y => nomatch y)).trans q⟩, h.2⟩
theorem Rows.snoc {H : Hp} {n : Nat} {a : Addr} {as : List V} {vs : List Vec} {v : Vec} (h : Rows H n as vs) (hv : IsV H a v) (l : v.length = n) : Rows H n (as ++ [.ref a]) (vs ++ [v]) := by
  obtain ⟨h1, h2⟩ := h
  refine ⟨?_, fun u hu => ?_⟩
  · induction h1 with
    | nil => exact .cons ⟨a, rfl, hv⟩ .nil
    | cons r _ ih => exact .cons r (ih fun u hu => h2 u (List.mem_cons_of_mem _ hu))
  · rcases List.mem_append.mp hu with hu | hu
    · exact h2 u hu
    · rw [List.mem_singleton.mp hu]; exact l
theorem V_up {H : Hp} {a o : Addr} {ys xs : List V} {v : Vec} (ho : H o = some (.lst ys)) (h : IsV H a v) : IsV (upd H o (.lst xs)) a v := (upd_ne (ne_of h ho fun y => nomatch y)).trans h
abbrev s_stepped : Stmt := top 20
abbrev n_stepped : List Str := ["steps", "vector", "out", "left", "row", "at", "kept"]
theorem sc_stepped : FnScope n_stepped ["steps", "vector"] (defScope s_stepped) := ⟨rfl, rfl, rfl, by decide +kernel, rfl, by decide +kernel, by decide +kernel⟩
def spStepped : Sp := fun vs H Q _ => ∃ (b p : Addr) (as : List V) (rs : List Vec) (v : Vec), vs = [.ref b, .ref p] ∧ H b = some (.tup as) ∧ Rows H v.length as rs ∧ IsV H p v ∧ v.length ≤ 1000 ∧ rs.length ≤ 1000 ∧ OkStep rs v ∧
  ∀ (H' : Hp) (o : Addr) (os : List V), Same H H' → H' o = some (.lst os) → Rows H' v.length os (Lat.stepped rs v) → Q (.ref o) H'
theorem ok_stepped (T : Txt mg) (g_pivot_of : Has P w K mg base 1 "pivot_of" ["vector"] spPivot) (g_cleared : Has P w K mg base 2 "cleared" ["row", "vector", "at"] spCleared) (g_is_zero : Has P w K mg base 2 "is_zero" ["vector"] spZero) (F : DefAt K mg "stepped" s_stepped ["steps", "vector"]) :
    Has P w K mg base 3 "stepped" ["steps", "vector"] spStepped := by
  refine F.has sc_stepped (fun vs H Q E h => ?_) (fun f cdv A outer s H vs Q E hr h => ?_)
  · obtain ⟨b, p, as, rs, v, rfl, _⟩ := h
    rfl
  · obtain ⟨b, p, as, rs, v, rfl, hb, hrs, hv, h1, h2, ok, k⟩ := h
    refine ⟨_, (pss_cons (ps_set (i := 2) sc_stepped.nd rfl (Or.inl rfl) (pe_lst pa_nil))
      (pss_cons (ps_set (i := 3) sc_stepped.nd rfl (Or.inl rfl) (pv 1))
      (pss_cons (ps_for PassesOwn.never rfl (pi_tup (pv 0)) (pg_name (i := 4) sc_stepped.nd rfl (Or.inl rfl)) (pss_cons (ps_set (i := 5) sc_stepped.nd rfl (Or.inl rfl) (pe_callHas g_pivot_of (hr.mono (by decide)) rfl (pa_cons (pv 4) pa_nil)))
      (pss_one (ps_if (pt_cmpR op_lt (pe_callHas g_pivot_of (hr.mono (by decide)) rfl (pa_cons (pv 3) pa_nil)) (pv 5) (nomark _)) (pss_cons (ps_expr (pe_bm PySem.F.plainAttrs_list PySem.F.slot_list_append PySem.F.type_list_append mt_append (pv 2) (pa_cons (pv 3) pa_nil)))
      (pss_one (ps_set (i := 3) sc_stepped.nd rfl (Or.inl rfl) (pv 4)))) (pss_cons (ps_asg (pe_callHas g_cleared (hr.mono (by decide)) rfl (pa_cons (pv 4) (pa_cons (pv 3) (pa_cons (pv 5) pa_nil)))) (pg_tup rfl (pgs_cons (pg_name (i := 6) sc_stepped.nd rfl (Or.inl rfl)) (pgs_cons (pg_name (i := 3) sc_stepped.nd rfl (Or.inl rfl)) pgs_nil))))
      (pss_one (ps_expr (pe_bm PySem.F.plainAttrs_list PySem.F.slot_list_append PySem.F.type_list_append mt_append (pv 2) (pa_cons (pv 6) pa_nil)))))))))
      (pss_cons (ps_if (pt_not (pt_val (pe_callHas g_is_zero (hr.mono (by decide)) rfl (pa_cons (pv 3) pa_nil)))) (pss_one (ps_expr (pe_bm PySem.F.plainAttrs_list PySem.F.slot_list_append PySem.F.type_list_append mt_append (pv 2) (pa_cons (pv 3) pa_nil)))) pss_nil)
      (pss_one (ps_ret (pv 2))))))), ?_⟩
    refine ⟨Nat.zero_le _, fun o ho => ?_⟩
    obtain ⟨so, ho1⟩ := new_at (o := .lst []) ho
    refine ⟨_, rfl, ?_⟩
    refine ⟨_, rfl, b, rfl, ⟨_, SqT.of (so _ _ hb)⟩, for_it (walk_tup (xs := as)) (fun i σ H' => ∃ (q : Addr) (l : Vec) (outs : List V) (os : List Vec) (x4 x5 x6 : Option V), σ = [some (.ref b), some (.ref p), some (.ref o), some (.ref q), x4, x5, x6] ∧ Same H H' ∧ IsV H' q l ∧ l.length = v.length ∧
      H' o = some (.lst outs) ∧ Rows H' v.length outs os ∧ os.length = i ∧ OkStep (rs.drop i) l ∧ os ++ (stepGo (rs.drop i) l).1 = (stepGo rs v).1 ∧ (stepGo (rs.drop i) l).2 = (stepGo rs v).2) ⟨p, v, [], [], _, _, _, rfl, so, so _ _ hv, rfl, ho1, ⟨.nil, fun u hu => nomatch hu⟩, rfl, ok, rfl, rfl⟩ (fun i σ H' _ z => ?_) ?_ ?_⟩
    · obtain ⟨_, _, _, _, _, _, _, _, sm, _⟩ := z
      exact SqT.of (sm _ _ hb)
    · rintro i x σ H' H'' hi ⟨q, l, outs, os, x4, x5, x6, rfl, sm, hl, ll, hout, hos, los, okl, e1, e2⟩ ⟨rfl, ex⟩
      obtain ⟨a, r, er, rfl, hr0, lr⟩ := (hrs.keep sm).at ex
      have hlt := (List.getElem?_eq_some_iff.mp er).1
      have ed : rs.drop i = r :: rs.drop (i + 1) := by
        rw [List.drop_eq_getElem_cons hlt, (List.getElem?_eq_some_iff.mp er).2]
      rw [ed] at okl e1 e2
      obtain ⟨o1, o2⟩ := okl
      have lout : outs.length = i := (hos.len).trans los
      have small : outs.length < sizeLine := by rw [lout]; exact Nat.lt_of_le_of_lt (Nat.le_trans (Nat.le_of_lt hlt) h2) (by decide)
      refine ⟨_, rfl, a, r, rfl, hr0, fun H1 s1 => ?_⟩
      refine ⟨_, rfl, q, l, rfl, s1 _ _ hl, fun H2 s2 => ⟨_, rfl, _, _, rfl, rfl, _, rfl, ?_⟩⟩
      have s12 := s1.trans s2
      have ho2 := s12 _ _ hout
      have nho : ∀ x' u, H x' = some u → x' ≠ o := fun x' u z => ne_of_none z ho
      rcases o2 with ⟨hp, o3⟩ | ⟨hp, o3, o4⟩
      · show if decide (((piv l : Nat) : Int) < ((piv r : Nat) : Int)) = true then _ else _
        rw [decide_eq_true (by omega)]
        refine ⟨_, rfl, .inl ⟨rfl, _, SqL.of ho2⟩, _, rfl, o, _, _, rfl, rfl, ho2, small, ?_⟩
        have eg : stepGo (r :: rs.drop (i + 1)) l = (l :: (stepGo (rs.drop (i + 1)) r).1, (stepGo (rs.drop (i + 1)) r).2) := by rw [stepGo, if_pos hp]
        rw [eg] at e1 e2
        refine ⟨_, rfl, a, r, _, os ++ [l], _, _, _, rfl, fun x' u z => ?_, V_up ho2 (s12 _ _ hr0), lr, upd_same, Rows.snoc (Rows.lst_up ho2 (hos.keep s12)) (V_up ho2 (s12 _ _ hl)) ll, by rw [List.length_append, los]; rfl, o3, ?_, e2⟩
        · rw [upd_ne (nho x' u z)]; exact s12 _ _ (sm _ _ z)
        · rw [List.append_assoc]; exact e1
      · show if decide (((piv l : Nat) : Int) < ((piv r : Nat) : Int)) = true then _ else _
        rw [decide_eq_false (by omega)]
        refine ⟨_, rfl, _, rfl, _, rfl, a, q, r, l, piv r, (itm l (piv r)).natAbs, rfl, s12 _ _ hr0, s12 _ _ hl, by omega, by omega, by omega, o3, fun H3 t x y s3 ht hx hy => ?_⟩
        have ho3 := s3 _ _ ho2
        refine ⟨t, _, rfl, SqT.of ht, rfl, _, _, rfl, _, _, rfl, rfl, ?_⟩
        refine ⟨_, rfl, .inl ⟨rfl, _, SqL.of ho3⟩, _, rfl, o, _, _, rfl, rfl, ho3, small, ?_⟩
        have eg : stepGo (r :: rs.drop (i + 1)) l = ((clear r l (piv r)).1 :: (stepGo (rs.drop (i + 1)) (clear r l (piv r)).2).1, (stepGo (rs.drop (i + 1)) (clear r l (piv r)).2).2) := by rw [stepGo, if_neg hp]
        rw [eg] at e1 e2
        have s13 := s12.trans s3
        obtain ⟨c1, c2⟩ := clr_len (itm l (piv r)).natAbs r l (piv r) (by omega)
        refine ⟨y, _, _, os ++ [(clear r l (piv r)).1], _, _, _, rfl, fun x' u z => ?_, V_up ho3 hy, (by first | omega | (unfold clear; omega)), upd_same, Rows.snoc (Rows.lst_up ho3 (hos.keep s13)) (V_up ho3 hx) (by first | omega | (unfold clear; omega)), by rw [List.length_append, los]; rfl, o4, ?_, e2⟩
        · rw [upd_ne (nho x' u z)]; exact s13 _ _ (sm _ _ z)
        · rw [List.append_assoc]; exact e1
    · rintro σ H' ⟨q, l, outs, os, x4, x5, x6, rfl, sm, hl, ll, hout, hos, los, okl, e1, e2⟩
      rw [hrs.len, List.drop_length] at e1 e2
      have e1' : os = (stepGo rs v).1 := by rw [← e1]; exact (List.append_nil os).symm
      have e2' : l = (stepGo rs v).2 := e2
      refine ⟨_, rfl, q, l, rfl, hl, fun H1 s1 => ⟨_, rfl, ?_⟩⟩
      have ho1 := s1 _ _ hout
      by_cases hz : piv l = l.length
      · show if (!decide (piv l = l.length)) = true then _ else _
        rw [decide_eq_true hz]
        have ef : Lat.stepped rs v = os := by unfold Lat.stepped; rw [← e2', if_pos hz, e1']
        refine ⟨_, rfl, k _ o outs (sm.trans s1) ho1 ?_⟩
        rw [ef]; exact hos.keep s1
      · show if (!decide (piv l = l.length)) = true then _ else _
        rw [decide_eq_false hz]
        have ef : Lat.stepped rs v = os ++ [l] := by unfold Lat.stepped; rw [← e2', if_neg hz, e1']
        have lout : outs.length = os.length := hos.len
        have small : outs.length < sizeLine := by rw [lout, los, hrs.len]; exact Nat.lt_of_le_of_lt h2 (by decide)
        refine ⟨_, rfl, .inl ⟨rfl, _, SqL.of ho1⟩, _, rfl, o, _, _, rfl, rfl, ho1, small, ?_⟩
        refine ⟨_, rfl, k _ o _ (fun x' u z => ?_) upd_same ?_⟩
        · rw [upd_ne (ne_of_none z ho)]; exact s1 _ _ (sm _ _ z)
        · rw [ef]
          exact Rows.snoc (Rows.lst_up ho1 (hos.keep s1)) (V_up ho1 (s1 _ _ hl)) ll
def OkPos (r : Vec) : Prop := piv r < r.length ∧ ∀ m ∈ r, CMulX (-2) m
theorem posV_len (r : Vec) : (posV r).length = r.length := by
  unfold posV
  split
  · rfl
  · exact addV_len rfl
abbrev s_positive : Stmt := top 21
abbrev n_positive : List Str := ["row"]
theorem sc_positive : FnScope n_positive ["row"] (defScope s_positive) := ⟨rfl, rfl, rfl, by decide +kernel, rfl, by decide +kernel, by decide +kernel⟩
def spPositive : Sp := fun vs H Q _ => ∃ (a : Addr) (r : Vec), vs = [.ref a] ∧ IsV H a r ∧ r.length ≤ 1000 ∧ OkPos r ∧ ∀ (H' : Hp) (q : Addr), Same H H' → IsV H' q (posV r) → Q (.ref q) H'
theorem ok_positive (T : Txt mg) (g_pivot_of : Has P w K mg base 1 "pivot_of" ["vector"] spPivot) (g_added : Has P w K mg base 1 "added" ["vector", "times", "other"] spAdded) (F : DefAt K mg "positive" s_positive ["row"]) : Has P w K mg base 2 "positive" ["row"] spPositive := by
  refine F.has sc_positive (fun vs H Q E h => ?_) (fun f cdv A outer s H vs Q E hr h => ?_)
  · obtain ⟨a, r, rfl, _⟩ := h
    rfl
  · obtain ⟨a, r, rfl, ha, h1, ⟨o1, o2⟩, k⟩ := h
    refine ⟨_, (pss_one (ps_ret (pe_ifExp (pt_cmpR op_gt (pe_ix ix_tup (pv 0) (pe_callHas g_pivot_of (hr.mono (by decide)) rfl (pa_cons (pv 0) pa_nil)) (fun _ _ => rfl)) pe_int (nomark _)) (pv 0) (pe_callHas g_added (hr.mono (by decide)) rfl (pa_cons (pv 0) (pa_cons (pe_un un_neg pe_int) (pa_cons (pv 0) pa_nil))))))), ?_⟩
    refine ⟨_, rfl, _, rfl, a, r, rfl, ha, fun H1 s1 => ⟨a, _, _, _, rfl, rfl, SqT.of (s1 _ _ ha), int_at o1, _, _, rfl, rfl, _, rfl, ?_⟩⟩
    by_cases h0 : itm r (piv r) > 0
    · show if decide (0 < itm r (piv r)) = true then _ else _
      rw [decide_eq_true h0]
      have e : posV r = r := by unfold posV; rw [if_pos h0]
      exact ⟨_, rfl, k _ a s1 (by rw [e]; exact s1 _ _ ha)⟩
    · show if decide (0 < itm r (piv r)) = true then _ else _
      rw [decide_eq_false h0]
      have e : posV r = addV r (-2) r := by unfold posV; rw [if_neg h0]
      refine ⟨_, rfl, _, rfl, _, rfl, a, a, -2, r, r, rfl, s1 _ _ ha, s1 _ _ ha, rfl, h1, o2, fun H2 q s2 hq => k _ q (s1.trans s2) (by rw [e]; exact hq)⟩
def OkTidy : List Vec → Prop
  | [] => True
  | r :: rs => OkTidy rs ∧ OkPos r ∧ OkRed (tidy rs) (posV r)
theorem okTidy_drop : ∀ (i : Nat) (rs : List Vec), OkTidy rs → OkTidy (rs.drop i)
  | 0, _, h => h
  | _ + 1, [], h => h
  | i + 1, _ :: rs, h => okTidy_drop i rs h.1
theorem Rows.cons {H : Hp} {n : Nat} {a : Addr} {as : List V} {vs : List Vec} {v : Vec} (h : Rows H n as vs) (hv : IsV H a v) (l : v.length = n) : Rows H n (.ref a :: as) (v :: vs) :=
  ⟨.cons ⟨a, rfl, hv⟩ h.1, fun u hu => by
    rcases List.mem_cons.mp hu with hu | hu
    · rw [hu]; exact l
    · exact h.2 u hu⟩
theorem tidy_len : ∀ rs : List Vec, (tidy rs).length = rs.length
  | [] => rfl
  | r :: rs => by unfold tidy; rw [List.length_cons, List.length_cons, tidy_len rs]
abbrev s_tidied : Stmt := top 22
abbrev n_tidied : List Str := ["steps", "out", "row"]
theorem sc_tidied : FnScope n_tidied ["steps"] (defScope s_tidied) := ⟨rfl, rfl, rfl, by decide +kernel, rfl, by decide +kernel, by decide +kernel⟩
def spTidied : Sp := fun vs H Q _ => ∃ (l : Addr) (n : Nat) (as : List V) (rs : List Vec), vs = [.ref l] ∧ H l = some (.lst as) ∧ Rows H n as rs ∧ n ≤ 1000 ∧ rs.length ≤ 1000 ∧ OkTidy rs ∧ ∀ (H' : Hp) (q : Addr) (os : List V), Same H H' → H' q = some (.tup os) → Rows H' n os (tidy rs) → Q (.ref q) H'
theorem ok_tidied (T : Txt mg) (g_positive : Has P w K mg base 2 "positive" ["row"] spPositive) (g_reduced_by : Has P w K mg base 2 "reduced_by" ["basis", "vector"] spReduced) (F : DefAt K mg "tidied" s_tidied ["steps"]) : Has P w K mg base 3 "tidied" ["steps"] spTidied := by
  refine F.has sc_tidied (fun vs H Q E h => ?_) (fun f cdv A outer s H vs Q E hr h => ?_)
  · obtain ⟨l, n, as, rs, rfl, _⟩ := h
    rfl
  · obtain ⟨l, n, as, rs, rfl, hl, hrs, h1, h2, ok, k⟩ := h
    refine ⟨_, (pss_cons (ps_set (i := 1) sc_tidied.nd rfl (Or.inl rfl) (pe_lst pa_nil))
      (pss_cons (ps_for PassesOwn.never rfl (pi_list (pe_revL (pv 0))) (pg_name (i := 2) sc_tidied.nd rfl (Or.inl rfl)) (pss_one (ps_set (i := 1) sc_tidied.nd rfl (Or.inl rfl) (pe_lst (pa_cons (pe_callHas g_reduced_by (hr.mono (by decide)) rfl (pa_cons (pv 1) (pa_cons (pe_callHas g_positive (hr.mono (by decide)) rfl (pa_cons (pv 2) pa_nil)) pa_nil))) (StX.pa_star (pv 1) pa_nil))))))
      (pss_one (ps_ret (pe_callTy call_tuple_of (by rfl) T.z_tuple (by decide +kernel) (pa_cons (pv 1) pa_nil)))))), ?_⟩
    refine ⟨Nat.zero_le _, fun o ho => ?_⟩
    obtain ⟨so, ho1⟩ := new_at (o := .lst []) ho
    refine ⟨_, rfl, l, as, rfl, SqL.of (so _ _ hl), fun p hp => ?_⟩
    obtain ⟨sp, hp1⟩ := new_at (o := .lst as.reverse) hp
    have lrs : as.length = rs.length := hrs.len
    refine ⟨p, rfl, ⟨_, SqL.of hp1⟩, for_it (walk_list (xs := as.reverse)) (fun i σ H' => ∃ (o : Addr) (outs : List V) (x2 : Option V), σ = [some (.ref l), some (.ref o), x2] ∧ Same H H' ∧ H' p = some (.lst as.reverse) ∧ H' o = some (.lst outs) ∧ i ≤ rs.length ∧ Rows H' n outs (tidy (rs.drop (rs.length - i))))
      ⟨o, [], _, rfl, so.trans sp, hp1, sp _ _ ho1, Nat.zero_le _, by rw [Nat.sub_zero, List.drop_length]; exact ⟨.nil, fun u hu => nomatch hu⟩⟩ (fun i σ H' _ z => ?_) ?_ ?_⟩
    · obtain ⟨_, _, _, _, _, hp2, _⟩ := z
      exact SqL.of hp2
    · rintro i x σ H' H'' hi ⟨o, outs, x2, rfl, sm, hp2, hout, hi2, hos⟩ ⟨rfl, ex⟩
      rw [List.length_reverse] at hi
      rw [List.getElem?_reverse hi] at ex
      obtain ⟨a, r, er, rfl, hr0, lr⟩ := (hrs.keep sm).at ex
      have hlt := (List.getElem?_eq_some_iff.mp er).1
      have ed : rs.drop (rs.length - (i + 1)) = r :: rs.drop (rs.length - i) := by
        have e1 : rs.length - (i + 1) = as.length - 1 - i := by omega
        have e2 : rs.length - i = as.length - 1 - i + 1 := by omega
        rw [e1, e2, List.drop_eq_getElem_cons hlt, (List.getElem?_eq_some_iff.mp er).2]
      have okd := okTidy_drop (rs.length - (i + 1)) rs ok
      rw [ed] at okd
      obtain ⟨o1, o2, o3⟩ := okd
      refine ⟨_, rfl, _, rfl, a, r, rfl, hr0, by omega, o2, fun H1 q1 s1 hq1 => ?_⟩
      have lp := posV_len r
      have n1 : (posV r).length = n := lp.trans lr
      refine ⟨o, q1, outs, _, posV r, rfl, .inr (s1 _ _ hout), by rw [n1]; exact hos.keep s1, hq1, by omega, o3, fun H2 z s2 hz lz => ?_⟩
      have s12 := s1.trans s2
      refine ⟨_, rfl, o, outs, rfl, .inr (SqL.of (s12 _ _ hout)), ?_⟩
      have lout : outs.length = rs.length - (rs.length - i) := by rw [hos.len, tidy_len, List.length_drop]
      refine ⟨by show (V.ref z :: (outs ++ [])).length ≤ sizeLine; rw [List.append_nil, List.length_cons]; exact Nat.le_trans (by omega : outs.length + 1 ≤ 1001) (by decide), fun o' ho' => ?_⟩
      obtain ⟨s3, ho3⟩ := new_at (o := .lst (V.ref z :: (outs ++ []))) ho'
      have s13 := s12.trans s3
      refine ⟨o', _, _, rfl, sm.trans s13, s13 _ _ hp2, ho3, by omega, ?_⟩
      rw [ed]
      have fin : Rows _ n (V.ref z :: outs) (redV (tidy (rs.drop (rs.length - i))) (posV r) :: tidy (rs.drop (rs.length - i))) := Rows.cons (hos.keep s13) (s3 _ _ hz) (by omega)
      rw [show V.ref z :: (outs ++ []) = V.ref z :: outs by rw [List.append_nil]] at fin ⊢
      exact fin
    · rintro σ H' ⟨o, outs, x2, rfl, sm, hp2, hout, hi2, hos⟩
      rw [List.length_reverse, lrs, Nat.sub_self] at hos
      refine ⟨_, rfl, _, _, rfl, .inl ⟨SqL.of hout, fun t ht => ?_⟩⟩
      obtain ⟨s3, ht3⟩ := new_at (o := .tup outs) ht
      exact k _ t outs (sm.trans s3) ht3 (hos.keep s3)
def OkGrow (rs : List Vec) (v : Vec) : Prop := OkRed rs v ∧ (piv (redV rs v) = (redV rs v).length ∨ (OkStep rs (redV rs v) ∧ OkTidy (Lat.stepped rs (redV rs v)) ∧ (Lat.stepped rs (redV rs v)).length ≤ 1000))
abbrev s_grown : Stmt := top 23
abbrev n_grown : List Str := ["basis", "vector", "rest"]
theorem sc_grown : FnScope n_grown ["basis", "vector"] (defScope s_grown) := ⟨rfl, rfl, rfl, by decide +kernel, rfl, by decide +kernel, by decide +kernel⟩
def spGrown : Sp := fun vs H Q _ => ∃ (b p : Addr) (as : List V) (rs : List Vec) (v : Vec), vs = [.ref b, .ref p] ∧ H b = some (.tup as) ∧ Rows H v.length as rs ∧ IsV H p v ∧ v.length ≤ 1000 ∧ rs.length ≤ 1000 ∧ OkGrow rs v ∧
  ∀ (H' : Hp) (q : Addr) (os : List V), Same H H' → H' q = some (.tup os) → Rows H' v.length os (grow rs v) → Q (.ref q) H'
theorem ok_grown (T : Txt mg) (g_reduced_by : Has P w K mg base 2 "reduced_by" ["basis", "vector"] spReduced) (g_is_zero : Has P w K mg base 2 "is_zero" ["vector"] spZero) (g_stepped : Has P w K mg base 3 "stepped" ["steps", "vector"] spStepped) (g_tidied : Has P w K mg base 3 "tidied" ["steps"] spTidied)
    (F : DefAt K mg "grown" s_grown ["basis", "vector"]) : Has P w K mg base 4 "grown" ["basis", "vector"] spGrown := by
  refine F.has sc_grown (fun vs H Q E h => ?_) (fun f cdv A outer s H vs Q E hr h => ?_)
  · obtain ⟨b, p, as, rs, v, rfl, _⟩ := h
    rfl
  · obtain ⟨b, p, as, rs, v, rfl, hb, hrs, hv, h1, h2, ⟨o1, o2⟩, k⟩ := h
    refine ⟨_, (pss_cons (ps_set (i := 2) sc_grown.nd rfl (Or.inl rfl) (pe_callHas g_reduced_by (hr.mono (by decide)) rfl (pa_cons (pv 0) (pa_cons (pv 1) pa_nil))))
      (pss_cons (ps_if (pt_val (pe_callHas g_is_zero (hr.mono (by decide)) rfl (pa_cons (pv 2) pa_nil))) (pss_one (ps_ret (pv 0))) pss_nil)
      (pss_one (ps_ret (pe_callHas g_tidied (hr.mono (by decide)) rfl (pa_cons (pe_callHas g_stepped (hr.mono (by decide)) rfl (pa_cons (pv 0) (pa_cons (pv 2) pa_nil))) pa_nil)))))), ?_⟩
    refine ⟨_, rfl, _, rfl, b, p, as, rs, v, rfl, .inl hb, hrs, hv, h1, o1, fun H1 q s1 hq lq => ?_⟩
    refine ⟨_, rfl, q, _, rfl, hq, fun H2 s2 => ⟨_, rfl, ?_⟩⟩
    have s12 := s1.trans s2
    by_cases hz : piv (redV rs v) = (redV rs v).length
    · show if decide (piv (redV rs v) = (redV rs v).length) = true then _ else _
      rw [decide_eq_true hz]
      have e : grow rs v = rs := by unfold grow; rw [if_pos hz]
      exact ⟨_, rfl, k _ b as s12 (s12 _ _ hb) (by rw [e]; exact hrs.keep s12)⟩
    · show if decide (piv (redV rs v) = (redV rs v).length) = true then _ else _
      rw [decide_eq_false hz]
      have e : grow rs v = tidy (Lat.stepped rs (redV rs v)) := by unfold grow; rw [if_neg hz]
      rcases o2 with o2 | ⟨o2, o3, o4⟩
      · exact absurd o2 hz
      · refine ⟨_, rfl, _, rfl, b, q, as, rs, redV rs v, rfl, s12 _ _ hb, by rw [lq]; exact hrs.keep s12, s2 _ _ hq, by omega, h2, o2, fun H3 o os s3 ho3 hos => ?_⟩
        rw [lq] at hos
        refine ⟨o, v.length, os, _, rfl, ho3, hos, h1, o4, o3, fun H4 z zs s4 hz4 hzs => ?_⟩
        exact k _ z zs ((s12.trans s3).trans s4) hz4 (by rw [e]; exact hzs)
end
end K06

namespace K06
open PySem L2 RZ Lat
section
variable {P : Program} {w : World} {K : PySem.W.Frag} {mg : Str → Option Value} {base : Heap}
structure ClsL (K : PySem.W.Frag) (mg : Str → Option Value) (C : Addr) : Prop where
  cl : Cls K C
  nW : NoAttr K C "width"
  nB : NoAttr K C "basis"
  m : mg "Lattice" = some (.ref C)
def lf (n : Int) (b : Addr) : List (Str × V) := putF "basis" (.ref b) (putF "width" (.int n) [])
theorem wb : ¬ (("basis" : Str) = "width") := by decide +kernel
theorem lf_basis (n : Int) (b : Addr) : (lf n b).lookup ("basis" : Str) = some (.ref b) := by
  unfold lf
  rw [lookup_putF, if_pos rfl]
theorem lf_none (n : Int) (b : Addr) {m : Str} (h1 : ¬ m = "basis") (h2 : ¬ m = "width") : (lf n b).lookup m = none := by
  unfold lf
  rw [lookup_putF, if_neg h1, lookup_putF, if_neg h2]; rfl
/-- a lattice at x -/
def LatAt (C : Addr) (H : Hp) (x : Addr) (n : Nat) (rs : List Vec) : Prop := ∃ (dx b : Addr) (os : List V), H x = some (.ins C dx (lf ((n : Nat) : Int) b)) ∧ H b = some (.tup os) ∧ Rows H n os rs
theorem LatAt.keep {C : Addr} {H H' : Hp} {x : Addr} {n : Nat} {rs : List Vec} (s : Same H H') (h : LatAt C H x n rs) : LatAt C H' x n rs := by
  obtain ⟨dx, b, os, h1, h2, h3⟩ := h
  exact ⟨dx, b, os, s _ _ h1, s _ _ h2, h3.keep s⟩
theorem Rows.ins_up {H : Hp} {n : Nat} {x C dx : Addr} {fs gs : List (Str × V)} {as : List V} {vs : List Vec} (hx : H x = some (.ins C dx fs)) (h : Rows H n as vs) : Rows (upd H x (.ins C dx gs)) n as vs :=
  ⟨Paired.mapP h.1 fun y v z => by
    obtain ⟨a, e, q⟩ := z
    exact ⟨a, e, (upd_ne (ne_of q hx fun y => nomatch y)).trans q⟩, h.2⟩
def OkGrows : List Vec → List Vec → Prop
  | _, [] => True
  | bs, v :: vs => OkGrow bs v ∧ bs.length ≤ 1000 ∧ OkGrows (grow bs v) vs
def grows (bs vs : List Vec) : List Vec := vs.foldl grow bs
abbrev s_Lattice_init : Stmt := inClass (top 25) 0
abbrev n_Lattice_init : List Str := ["self", "width", "rows", "basis", "row"]
theorem sc_Lattice_init : FnScope n_Lattice_init ["self", "width", "rows"] (defScope s_Lattice_init) := ⟨rfl, rfl, rfl, by decide +kernel, rfl, by decide +kernel, by decide +kernel⟩
def spLattice (K : PySem.W.Frag) (C : Addr) : Sp := fun vs H Q _ => ∃ (x dx l : Addr) (n : Nat) (as : List V) (rs : List Vec), vs = [.ref x, .int ((n : Nat) : Int), .ref l] ∧ H x = some (.ins C dx []) ∧ 1 ≤ n ∧ n ≤ 1000 ∧ rs.length ≤ 1000 ∧ InSeq K H l as ∧ Rows H n as rs ∧ OkGrows [] rs ∧
  ∀ H' : Hp, (∀ y o, y ≠ x → H y = some o → H' y = some o) → LatAt C H' x n (grows [] rs) → Q .non H'
theorem ok_lattice {C fI : Addr} {fd : FuncData} {d : V} (T : Txt mg) (CL : ClsL K mg C) (g_is_width : Has P w K mg base 2 "is_width" ["value"] spWidth) (g_are_vectors : Has P w K mg base 3 "are_vectors" ["value", "width"] (spAreVectors K))
    (g_grown : Has P w K mg base 4 "grown" ["basis", "vector"] spGrown) (F : FunD K "__init__" "Lattice.__init__" (defArgs s_Lattice_init) (defBody s_Lattice_init) (defScope s_Lattice_init) [d] [] fI fd) : FnOk P w K mg base CX0 5 fI fd ["self", "width", "rows"] (spLattice K C) := by
  refine F.ok sc_Lattice_init (fun vs H Q E h => ?_) (fun cdv A outer s H vs Q E hr h => ?_)
  · obtain ⟨x, dx, l, n, as, rs, rfl, _⟩ := h
    rfl
  · obtain ⟨x, dx, l, n, as, rs, rfl, hx, n1, n2, lrs, hl, hrs, ok, k⟩ := h
    refine ⟨_, PSs.nox (X := cxOf CX0 P w K mg base n_Lattice_init "Lattice.__init__" (defScope s_Lattice_init) fI cdv A outer s H E) (pss_cons (ps_if (PW.pt (pw_or (pt_not (pt_val (pe_callHas g_is_width (hr.mono (by decide)) rfl (pa_cons (pv 1) pa_nil)))) (pw_or1 (pt_not (pt_val (pe_callHas g_are_vectors (hr.mono (by decide)) rfl (pa_cons (pv 2) (pa_cons (pv 1) pa_nil)))))))) (pss_one ps_never) pss_nil)
      (pss_cons (ps_set (i := 3) sc_Lattice_init.nd rfl (Or.inl rfl) (pe_tup pa_nil))
      (pss_cons (ps_for PassesOwn.never rfl (pi_seq (pv 2)) (pg_name (i := 4) sc_Lattice_init.nd rfl (Or.inl rfl)) (pss_one (ps_set (i := 3) sc_Lattice_init.nd rfl (Or.inl rfl) (pe_callHas g_grown (hr.mono (by decide)) rfl (pa_cons (pv 3) (pa_cons (pv 4) pa_nil))))))
      (pss_cons (ps_fld (pv 0) (pv 1) rfl)
      (pss_one (ps_fld (pv 0) (pv 3) rfl)))))), ?_⟩
    refine ⟨_, rfl, _, rfl, by omega, _, rfl, ?_⟩
    refine ⟨_, rfl, _, rfl, l, as, rs, n, rfl, hl, hrs, n2, lrs, fun H1 s1 => ⟨_, rfl, ?_⟩⟩
    refine ⟨Nat.zero_le _, fun b0 hb0 => ?_⟩
    obtain ⟨s2, hb1⟩ := new_at (o := .tup []) hb0
    have s12 := s1.trans s2
    rcases hl with hl | hq
    · refine Or.inl ⟨_, rfl, l, rfl, ⟨_, SqL.of (s12 _ _ hl)⟩, for_it (walk_list (xs := as)) (fun i σ H' => ∃ (b : Addr) (os : List V) (bs : List Vec) (x4 : Option V), σ = [some (.ref x), some (.int ((n : Nat) : Int)), some (.ref l), some (.ref b), x4] ∧ Same H H' ∧ H' b = some (.tup os) ∧ Rows H' n os bs ∧ OkGrows bs (rs.drop i) ∧ grows bs (rs.drop i) = grows [] rs) ⟨b0, [], [], _, rfl, s12, hb1, ⟨.nil, fun u hu => nomatch hu⟩, ok, rfl⟩ (fun i σ H' _ q => SqL.of ((show Same H H' from by obtain ⟨_, _, _, _, _, sm, _⟩ := q; exact sm) _ _ hl)) ?_ ?_⟩
      · rintro i y σ H' H'' hi ⟨b, os, bs, x4, rfl, sm, hb, hbs, okb, eb⟩ ⟨rfl, ex⟩
        obtain ⟨a, r, er, rfl, hr0, lr⟩ := (hrs.keep sm).at ex
        have hlt := (List.getElem?_eq_some_iff.mp er).1
        have ed : rs.drop i = r :: rs.drop (i + 1) := by
          rw [List.drop_eq_getElem_cons hlt, (List.getElem?_eq_some_iff.mp er).2]
        rw [ed] at okb eb
        obtain ⟨o1, o2, o3⟩ := okb
        refine ⟨_, rfl, _, rfl, b, a, os, bs, r, rfl, hb, by rw [lr]; exact hbs, hr0, by omega, o2, o1, fun H2 q os' s2 hq hos => ?_⟩
        rw [lr] at hos
        exact ⟨q, os', grow bs r, _, rfl, sm.trans s2, hq, hos, o3, eb⟩
      · rintro σ H' ⟨b, os, bs, x4, rfl, sm, hb, hbs, okb, eb⟩
        rw [hrs.len, List.drop_length] at eb
        have eb' : bs = grows [] rs := eb
        subst eb'
        have hx1 := sm _ _ hx
        refine ⟨_, rfl, _, rfl, x, C, dx, _, rfl, hx1, CL.cl, CL.nW, (by show 0 < 1000; decide), _, rfl, _, rfl, x, C, dx, _, rfl, upd_same, CL.cl, CL.nB, (by show 1 < 1000; decide), ?_⟩
        rw [upd_upd]
        have nbx : b ≠ x := ne_of hb hx1 fun z => nomatch z
        exact k _ (fun y o ny z => by rw [upd_ne ny]; exact sm _ _ z) ⟨dx, b, os, upd_same, (upd_ne nbx).trans hb, Rows.ins_up hx1 hbs⟩
    · refine Or.inr ⟨_, rfl, l, rfl, ⟨_, hq.1 _ s12⟩, for_it (walk_tup (xs := as)) (fun i σ H' => ∃ (b : Addr) (os : List V) (bs : List Vec) (x4 : Option V), σ = [some (.ref x), some (.int ((n : Nat) : Int)), some (.ref l), some (.ref b), x4] ∧ Same H H' ∧ H' b = some (.tup os) ∧ Rows H' n os bs ∧ OkGrows bs (rs.drop i) ∧ grows bs (rs.drop i) = grows [] rs) ⟨b0, [], [], _, rfl, s12, hb1, ⟨.nil, fun u hu => nomatch hu⟩, ok, rfl⟩ (fun i σ H' _ q => hq.1 _ (show Same H H' from by obtain ⟨_, _, _, _, _, sm, _⟩ := q; exact sm)) ?_ ?_⟩
      · rintro i y σ H' H'' hi ⟨b, os, bs, x4, rfl, sm, hb, hbs, okb, eb⟩ ⟨rfl, ex⟩
        obtain ⟨a, r, er, rfl, hr0, lr⟩ := (hrs.keep sm).at ex
        have hlt := (List.getElem?_eq_some_iff.mp er).1
        have ed : rs.drop i = r :: rs.drop (i + 1) := by
          rw [List.drop_eq_getElem_cons hlt, (List.getElem?_eq_some_iff.mp er).2]
        rw [ed] at okb eb
        obtain ⟨o1, o2, o3⟩ := okb
        refine ⟨_, rfl, _, rfl, b, a, os, bs, r, rfl, hb, by rw [lr]; exact hbs, hr0, by omega, o2, o1, fun H2 q os' s2 hq hos => ?_⟩
        rw [lr] at hos
        exact ⟨q, os', grow bs r, _, rfl, sm.trans s2, hq, hos, o3, eb⟩
      · rintro σ H' ⟨b, os, bs, x4, rfl, sm, hb, hbs, okb, eb⟩
        rw [hrs.len, List.drop_length] at eb
        have eb' : bs = grows [] rs := eb
        subst eb'
        have hx1 := sm _ _ hx
        refine ⟨_, rfl, _, rfl, x, C, dx, _, rfl, hx1, CL.cl, CL.nW, (by show 0 < 1000; decide), _, rfl, _, rfl, x, C, dx, _, rfl, upd_same, CL.cl, CL.nB, (by show 1 < 1000; decide), ?_⟩
        rw [upd_upd]
        have nbx : b ≠ x := ne_of hb hx1 fun z => nomatch z
        exact k _ (fun y o ny z => by rw [upd_ne ny]; exact sm _ _ z) ⟨dx, b, os, upd_same, (upd_ne nbx).trans hb, Rows.ins_up hx1 hbs⟩
def gcdV (g : Vec) (rs : List Vec) : Nat := rs.foldl (fun m r => Nat.gcd m (dotV g r).natAbs) 0
end
end K06

namespace K06
open PySem L2 RZ Lat
theorem two_at (c : Int) (b : Prop) [Decidable b] : ∃ v, atI [V.int 0, V.int c] (if decide b = true then 1 else 0) = some (V.int v) := by
  by_cases h : b
  · exact ⟨c, by rw [decide_eq_true h]; rfl⟩
  · exact ⟨0, by rw [decide_eq_false h]; rfl⟩
/-- a box: three ints -/
def Box (H : Hp) (b : Addr) : Prop := ∃ x y z : Int, H b = some (.lst [.int x, .int y, .int z])
section
variable {P : Program} {w : World} {K : PySem.W.Frag} {mg : Str → Option Value} {base : Heap}
abbrev s_law_take : Stmt := top 35
abbrev n_law_take : List Str := ["_law_box_here", "_law_many", "_law_digit", "_law_raw", "_law_wide"]
theorem sc_law_take : FnScope n_law_take ["_law_box_here", "_law_many"] (defScope s_law_take) := ⟨rfl, rfl, rfl, by decide +kernel, rfl, by decide +kernel, by decide +kernel⟩
def spTake : Sp := fun vs H Q _ => ∃ (b : Addr) (n : Int), vs = [.ref b, .int n] ∧ Box H b ∧ 0 < n ∧ n < 10000000000 ∧ ∀ (d x y z : Int), 0 ≤ d → d < n → Q (.int d) (upd H b (.lst [.int x, .int y, .int z]))
theorem ok_take (T : Txt mg) (F : DefAt K mg "_law_take" s_law_take ["_law_box_here", "_law_many"]) : Has P w K mg base 1 "_law_take" ["_law_box_here", "_law_many"] spTake := by
  refine F.has sc_law_take (fun vs H Q E h => ?_) (fun f cdv A outer s H vs Q E hr h => ?_)
  · obtain ⟨b, n, rfl, _⟩ := h
    rfl
  · obtain ⟨b, n, rfl, ⟨x, y, z, hb⟩, n0, n1, k⟩ := h
    refine ⟨_, (pss_cons (ps_if (pt_cmpR op_gt (pe_ix ix_list (pv 0) pe_int (fun _ _ => rfl)) pe_int (nomark _)) (pss_cons (ps_set (i := 2) sc_law_take.nd rfl (Or.inl rfl) (pe_op op_mod (pe_callTy call_int1 (by rfl) T.z_int (by decide +kernel) (pa_cons (pe_ix ix_list (pv 0) pe_int (fun _ _ => rfl)) pa_nil)) (pv 1)))
      (pss_cons (ps_asg (pe_op op_fdivW (pe_ix ix_list (pv 0) pe_int (fun _ _ => rfl)) (pv 1)) (pg_sub (pv 0) pe_int set_list))
      (pss_one (ps_ret (pv 2))))) pss_nil)
      (pss_cons (ps_asg (pe_op op_add (pe_ix ix_list (pv 0) pe_int (fun _ _ => rfl)) pe_int) (pg_sub (pv 0) pe_int set_list))
      (pss_cons (ps_set (i := 3) sc_law_take.nd rfl (Or.inl rfl) (pe_op op_mod (pe_callTy call_int1 (by rfl) T.z_int (by decide +kernel) (pa_cons (pe_op op_mul (pe_op op_add (pe_ix ix_list (pv 0) pe_int (fun _ _ => rfl)) (pe_op op_mul pe_int (pe_ix ix_list (pv 0) pe_int (fun _ _ => rfl)))) pe_int) pa_nil)) pe_int))
      (pss_cons (ps_asg (pe_op op_add (pe_op op_mod (pe_callTy call_int1 (by rfl) T.z_int (by decide +kernel) (pa_cons (pe_op op_add (pe_op op_mul (pv 3) pe_int) pe_int) pa_nil)) pe_int) pe_int) (pg_sub (pv 0) pe_int set_list))
      (pss_cons (ps_if (pt_cmpR op_lt (pv 1) (pe_op op_pow pe_int pe_int) (nomark _)) (pss_one (ps_ret (pe_op op_mod (pe_callTy call_int1 (by rfl) T.z_int (by decide +kernel) (pa_cons (pe_op op_fdiv (pe_op op_add (pe_op op_mul (pv 3) pe_int) (pe_ix ix_list (pv 0) pe_int (fun _ _ => rfl))) pe_int) pa_nil)) (pv 1)))) pss_nil)
      (pss_cons (ps_set (i := 4) sc_law_take.nd rfl (Or.inl rfl) (pe_op op_mul (pe_op op_add (pe_op op_mul (pv 3) pe_int) (pe_ix ix_list (pv 0) pe_int (fun _ _ => rfl))) (pe_op op_pow pe_int pe_int)))
      (pss_one (ps_ret (pe_op op_mod (pe_callTy call_int1 (by rfl) T.z_int (by decide +kernel) (pa_cons (pe_op op_add (pe_op op_add (pv 4) (pe_op op_mul (pe_op op_pow (pe_ix ix_list (pv 0) pe_int (fun _ _ => rfl)) pe_int) pe_int)) (pv 3)) pa_nil)) (pv 1)))))))))), ?_⟩
    -- if box[0] > 0: the digit; else the next number
    refine ⟨_, rfl, b, _, _, _, rfl, rfl, SqL.of hb, rfl, _, _, rfl, rfl, _, rfl, ite2 (fun _ => ?_) (fun _ => ?_)⟩
    · refine ⟨_, rfl, b, _, _, _, rfl, rfl, SqL.of hb, rfl, .inl ⟨_, rfl, _, rfl, _, _, rfl, rfl, n0, ?_⟩⟩
      refine ⟨_, rfl, b, _, _, _, rfl, rfl, SqL.of hb, rfl, _, rfl, _, _, rfl, rfl, wide_div n0 (show n.natAbs < 2 ^ 40 by omega) (by decide) (by decide), _, rfl, b, _, _, _, rfl, rfl, hb, rfl, _, rfl, ?_⟩
      exact k _ _ _ _ (Int.emod_nonneg _ (by omega)) (Int.emod_lt_of_pos _ n0)
    · refine ⟨_, rfl, b, _, _, _, rfl, rfl, SqL.of hb, rfl, _, _, rfl, rfl, _, rfl, b, _, _, _, rfl, rfl, hb, rfl, ?_⟩
      have h1 : upd H b (.lst [.int x, .int y, .int (z + 1)]) b = some (.lst [.int x, .int y, .int (z + 1)]) := upd_same
      refine ⟨_, rfl, b, _, _, _, rfl, rfl, SqL.of h1, rfl, _, rfl, b, _, _, _, rfl, rfl, SqL.of h1, rfl, _, _, rfl, rfl, .inl ⟨by decide, by decide⟩, _, _, rfl, rfl, _, _, rfl, rfl, .inr ⟨by decide, by decide⟩, .inl ⟨_, rfl, _, _, rfl, rfl, (by show (0 : Int) < 2147483647; decide), ?_⟩⟩
      generalize (y + 104729 * (z + 1)) * 69623 % 2147483647 = r
      refine ⟨_, rfl, _, _, rfl, rfl, .inr ⟨by decide, by decide⟩, _, _, rfl, rfl, .inl ⟨_, rfl, _, _, rfl, rfl, (by show (0 : Int) < 2147483629; decide), _, _, rfl, rfl, _, rfl, b, _, _, _, rfl, rfl, h1, rfl, ?_⟩⟩
      rw [upd_upd]
      refine ⟨_, rfl, _, _, rfl, rfl, ⟨by decide, by decide, by decide⟩, _, _, rfl, rfl, _, rfl, ?_⟩
      have e : decide (n < 2 ^ (40 : Int).toNat) = true := decide_eq_true (by
        have q : (2 : Int) ^ (40 : Int).toNat = 1099511627776 := by decide +kernel
        omega)
      rw [e]
      refine iteT ⟨_, rfl, _, _, rfl, rfl, .inr ⟨by decide, by decide⟩, _, rfl, b, _, _, _, rfl, rfl, SqL.of upd_same, rfl, _, _, rfl, rfl, _, _, rfl, rfl, ⟨by decide, by decide⟩, .inl ⟨_, rfl, _, rfl, _, _, rfl, rfl, n0, ?_⟩⟩
      exact k _ _ _ _ (Int.emod_nonneg _ (by omega)) (Int.emod_lt_of_pos _ n0)
abbrev s_law_box : Stmt := top 34
abbrev n_law_box : List Str := ["_law_script", "_law_k", "_law_own", "_law_cell", "_law_seed"]
theorem sc_law_box : FnScope n_law_box ["_law_script", "_law_k", "_law_own"] (defScope s_law_box) := ⟨rfl, rfl, rfl, by decide +kernel, rfl, by decide +kernel, by decide +kernel⟩
def spBox (K : PySem.W.Frag) : Sp := fun vs H Q _ => ∃ (a : Addr) (ns : List Int) (k o : Int), vs = [.ref a, .int k, .int o] ∧ SqL K H a (ns.map V.int) ∧ 0 ≤ k ∧ k < 1000 ∧ 0 ≤ o ∧ o < 1000 ∧ ∀ (H' : Hp) (p : Addr), Same H H' → H p = none → Box H' p → Q (.ref p) H'
theorem ok_box (T : Txt mg) (F : DefAt K mg "_law_box" s_law_box ["_law_script", "_law_k", "_law_own"]) : Has P w K mg base 1 "_law_box" ["_law_script", "_law_k", "_law_own"] (spBox K) := by
  refine F.has sc_law_box (fun vs H Q E h => ?_) (fun f cdv A outer s H vs Q E hr h => ?_)
  · obtain ⟨a, ns, k, o, rfl, _⟩ := h
    rfl
  · obtain ⟨a, ns, i, o, rfl, hS, i0, i1, o0, o1, k⟩ := h
    refine ⟨_, (pss_cons (ps_set (i := 3) sc_law_box.nd rfl (Or.inl rfl) (pe_op op_add (pe_op op_add (pe_op op_mul pe_int (pv 1)) (pe_op op_mul pe_int (pv 2))) pe_int))
      (pss_cons (ps_if (pt_cmpR op_lt (pv 1) (pe_callB call_len (by rfl) T.z_len (by decide +kernel) (pa_cons (pv 0) pa_nil)) (nomark _)) (pss_one (ps_set (i := 3) sc_law_box.nd rfl (Or.inl rfl) (pe_callB call_abs (by rfl) T.z_abs (by decide +kernel) (pa_cons (pe_ix ix_list (pv 0) (pv 1) (fun _ _ => rfl)) pa_nil)))) (pss_one (ps_if (pt_cmpR op_gt (pe_callB call_len (by rfl) T.z_len (by decide +kernel) (pa_cons (pv 0) pa_nil)) pe_int (nomark _)) (pss_one (ps_set (i := 3) sc_law_box.nd rfl (Or.inl rfl) (pe_op op_add (pv 3) (pe_op op_mul (pe_op op_mod (pe_callTy call_int1 (by rfl) T.z_int (by decide +kernel) (pa_cons (pe_callB call_abs (by rfl) T.z_abs (by decide +kernel) (pa_cons (pe_ix ix_list (pv 0) (pe_op op_mod (pe_callTy call_int1 (by rfl) T.z_int (by decide +kernel) (pa_cons (pv 1) pa_nil)) (pe_callB call_len (by rfl) T.z_len (by decide +kernel) (pa_cons (pv 0) pa_nil))) (fun _ _ => rfl)) pa_nil)) pa_nil)) pe_int) pe_int)))) pss_nil)))
      (pss_cons (ps_set (i := 4) sc_law_box.nd rfl (Or.inl rfl) (pe_op op_add (pe_op op_mod (pe_callTy call_int1 (by rfl) T.z_int (by decide +kernel) (pa_cons (pe_op op_add (pe_op op_mul (pe_op op_mod (pe_callTy call_int1 (by rfl) T.z_int (by decide +kernel) (pa_cons (pv 3) pa_nil)) pe_int) pe_int) (pe_op op_mul pe_int (pe_op op_add (pv 1) (pe_op op_mul pe_int (pv 2))))) pa_nil)) pe_int) pe_int))
      (pss_one (ps_ret (pe_lst (pa_cons (pe_ix ix_list (pe_lst (pa_cons pe_int (pa_cons (pv 3) pa_nil))) (pe_callTy call_int1 (by rfl) T.z_int (by decide +kernel) (pa_cons (pe_cmpR op_ge (pv 3) (pe_op op_pow pe_int pe_int) (nomark _)) pa_nil)) (fun _ _ => rfl)) (pa_cons (pv 4) (pa_cons pe_int pa_nil))))))))), ?_⟩
    refine ⟨_, rfl, _, _, rfl, rfl, .inl ⟨by decide, by decide⟩, _, rfl, _, _, rfl, rfl, .inl ⟨by decide, by decide⟩, _, _, rfl, rfl, _, _, rfl, rfl, ?_⟩
    have hlen : (ns.map V.int).length = ns.length := List.length_map ..
    -- the cell by three ways; what follows is the same
    refine ⟨_, rfl, _, rfl, _, _, rfl, .inl ⟨_, hS, rfl⟩, _, _, rfl, rfl, _, rfl, ite2 (fun h1 => ?_) (fun h1 => ?_)⟩
    · have h1' : i < ((ns.map V.int).length : Int) := of_decide_eq_true h1
      obtain ⟨j, rfl⟩ : ∃ j : Nat, i = (j : Int) := ⟨i.toNat, by omega⟩
      have hj : j < ns.length := by omega
      have ej : (ns.map V.int)[j]? = some (V.int ns[j]) := by rw [List.getElem?_map, List.getElem?_eq_getElem hj]; rfl
      refine ⟨_, rfl, _, rfl, a, _, _, _, rfl, rfl, hS, atI_nat ej, _, rfl, ?_⟩
      refine ⟨_, rfl, .inl ⟨_, rfl, _, _, rfl, rfl, (by show (0 : Int) < 2147483629; decide), _, _, rfl, rfl, .inr ⟨by decide, by decide⟩, _, rfl, _, rfl, _, _, rfl, rfl, .inl ⟨by decide, by decide⟩, _, _, rfl, rfl, _, _, rfl, rfl, .inl ⟨by decide, by decide⟩, _, _, rfl, rfl, .inl ⟨_, rfl, _, _, rfl, rfl, (by show (0 : Int) < 2147483629; decide), _, _, rfl, rfl, ?_⟩⟩⟩
      refine ⟨_, rfl, (by decide : 2 ≤ sizeLine), fun q hq => ⟨_, rfl, _, _, rfl, rfl, ⟨by decide, by decide, by decide⟩, _, _, rfl, rfl, .inr ⟨_, rfl, ?_⟩⟩⟩
      refine ⟨q, _, _, _, rfl, rfl, SqL.of upd_same, (two_at _ _).choose_spec, _, rfl, (by decide : 3 ≤ sizeLine), fun p hp => ?_⟩
      have npq : p ≠ q := fun z => by rw [z, upd_same] at hp; cases hp
      have hp0 : H p = none := by rw [upd_ne npq] at hp; exact hp
      refine k _ p (fun b o z => ?_) hp0 ⟨_, _, _, upd_same⟩
      rw [upd_ne (ne_of_none z hp0), upd_ne (ne_of_none z hq)]
      exact z
    · refine ⟨_, rfl, _, _, rfl, .inl ⟨_, hS, rfl⟩, _, _, rfl, rfl, _, rfl, ite2 (fun h2 => ?_) (fun h2 => ?_)⟩
      · have h2' : (0 : Int) < ((ns.map V.int).length : Int) := of_decide_eq_true h2
        have m0 := Int.emod_nonneg i (b := ((ns.map V.int).length : Int)) (by omega)
        have m1 := Int.emod_lt_of_pos i h2'
        obtain ⟨j, ej0⟩ : ∃ j : Nat, i % ((ns.map V.int).length : Int) = (j : Int) := ⟨(i % ((ns.map V.int).length : Int)).toNat, by omega⟩
        have hj : j < ns.length := by omega
        have ej : (ns.map V.int)[j]? = some (V.int ns[j]) := by rw [List.getElem?_map, List.getElem?_eq_getElem hj]; rfl
        refine ⟨_, rfl, _, rfl, _, rfl, .inl ⟨_, rfl, _, rfl, _, _, rfl, .inl ⟨_, hS, rfl⟩, _, _, rfl, rfl, h2', a, _, _, _, rfl, rfl, hS, (by rw [ej0]; exact atI_nat ej), _, rfl, .inl ⟨_, rfl, _, _, rfl, rfl, (by show (0 : Int) < 2147483629; decide), _, _, rfl, rfl, .inr ⟨by decide, by decide⟩, _, _, rfl, rfl, ?_⟩⟩⟩
        refine ⟨_, rfl, .inl ⟨_, rfl, _, _, rfl, rfl, (by show (0 : Int) < 2147483629; decide), _, _, rfl, rfl, .inr ⟨by decide, by decide⟩, _, rfl, _, rfl, _, _, rfl, rfl, .inl ⟨by decide, by decide⟩, _, _, rfl, rfl, _, _, rfl, rfl, .inl ⟨by decide, by decide⟩, _, _, rfl, rfl, .inl ⟨_, rfl, _, _, rfl, rfl, (by show (0 : Int) < 2147483629; decide), _, _, rfl, rfl, ?_⟩⟩⟩
        refine ⟨_, rfl, (by decide : 2 ≤ sizeLine), fun q hq => ⟨_, rfl, _, _, rfl, rfl, ⟨by decide, by decide, by decide⟩, _, _, rfl, rfl, .inr ⟨_, rfl, ?_⟩⟩⟩
        refine ⟨q, _, _, _, rfl, rfl, SqL.of upd_same, (two_at _ _).choose_spec, _, rfl, (by decide : 3 ≤ sizeLine), fun p hp => ?_⟩
        have npq : p ≠ q := fun z => by rw [z, upd_same] at hp; cases hp
        have hp0 : H p = none := by rw [upd_ne npq] at hp; exact hp
        refine k _ p (fun b o z => ?_) hp0 ⟨_, _, _, upd_same⟩
        rw [upd_ne (ne_of_none z hp0), upd_ne (ne_of_none z hq)]
        exact z
      · show tSeq _ _ _ _ _
        refine ⟨_, rfl, .inl ⟨_, rfl, _, _, rfl, rfl, (by show (0 : Int) < 2147483629; decide), _, _, rfl, rfl, .inr ⟨by decide, by decide⟩, _, rfl, _, rfl, _, _, rfl, rfl, .inl ⟨by decide, by decide⟩, _, _, rfl, rfl, _, _, rfl, rfl, .inl ⟨by decide, by decide⟩, _, _, rfl, rfl, .inl ⟨_, rfl, _, _, rfl, rfl, (by show (0 : Int) < 2147483629; decide), _, _, rfl, rfl, ?_⟩⟩⟩
        refine ⟨_, rfl, (by decide : 2 ≤ sizeLine), fun q hq => ⟨_, rfl, _, _, rfl, rfl, ⟨by decide, by decide, by decide⟩, _, _, rfl, rfl, .inr ⟨_, rfl, ?_⟩⟩⟩
        refine ⟨q, _, _, _, rfl, rfl, SqL.of upd_same, (two_at _ _).choose_spec, _, rfl, (by decide : 3 ≤ sizeLine), fun p hp => ?_⟩
        have npq : p ≠ q := fun z => by rw [z, upd_same] at hp; cases hp
        have hp0 : H p = none := by rw [upd_ne npq] at hp; exact hp
        refine k _ p (fun b o z => ?_) hp0 ⟨_, _, _, upd_same⟩
        rw [upd_ne (ne_of_none z hp0), upd_ne (ne_of_none z hq)]
        exact z
/-- but for the box all stands as before -/
def But (b : Addr) (H H' : Hp) : Prop := ∀ a o, a ≠ b → H a = some o → H' a = some o
theorem But.trans {b : Addr} {H H1 H2 : Hp} (s : But b H H1) (t : But b H1 H2) : But b H H2 := fun a o n z => t a o n (s a o n z)
theorem But.upd' {b : Addr} {H : Hp} {o : HO} : But b H (upd H b o) := fun a u n z => by rw [upd_ne n]; exact z
theorem Same.but {b : Addr} {H H' : Hp} (s : Same H H') : But b H H' := fun a o _ z => s a o z
theorem Box.keep {b : Addr} {H H' : Hp} (s : Same H H') (h : Box H b) : Box H' b := by
  obtain ⟨x, y, z, h⟩ := h
  exact ⟨x, y, z, s _ _ h⟩
theorem Box.upd' {b : Addr} {H : Hp} {x y z : Int} : Box (upd H b (.lst [.int x, .int y, .int z])) b := ⟨x, y, z, upd_same⟩
abbrev s_law_small : Stmt := top 38
abbrev n_law_small : List Str := ["_law_box_here"]
theorem sc_law_small : FnScope n_law_small ["_law_box_here"] (defScope s_law_small) := ⟨rfl, rfl, rfl, by decide +kernel, rfl, by decide +kernel, by decide +kernel⟩
def spSmall : Sp := fun vs H Q _ => ∃ b : Addr, vs = [.ref b] ∧ Box H b ∧ ∀ (H' : Hp) (d : Int), But b H H' → Box H' b → -4 ≤ d → d ≤ 4 → Q (.int d) H'
theorem ok_small (T : Txt mg) (g_law_take : Has P w K mg base 1 "_law_take" ["_law_box_here", "_law_many"] spTake) (F : DefAt K mg "_law_small" s_law_small ["_law_box_here"]) : Has P w K mg base 2 "_law_small" ["_law_box_here"] spSmall := by
  refine F.has sc_law_small (fun vs H Q E h => ?_) (fun f cdv A outer s H vs Q E hr h => ?_)
  · obtain ⟨b, rfl, _⟩ := h
    rfl
  · obtain ⟨b, rfl, hb, k⟩ := h
    refine ⟨_, (pss_one (ps_ret (pe_op op_sub (pe_callHas g_law_take (hr.mono (by decide)) rfl (pa_cons (pv 0) (pa_cons pe_int pa_nil))) pe_int))), ?_⟩
    refine ⟨_, rfl, b, 9, rfl, hb, by decide, by decide, fun d x y z d0 d1 => ⟨_, _, rfl, rfl, k _ _ But.upd' Box.upd' (by omega) (by omega)⟩⟩
abbrev s_law_number : Stmt := top 37
abbrev n_law_number : List Str := ["_law_box_here", "_law_most"]
theorem sc_law_number : FnScope n_law_number ["_law_box_here"] (defScope s_law_number) := ⟨rfl, rfl, rfl, by decide +kernel, rfl, by decide +kernel, by decide +kernel⟩
def spNumber : Sp := fun vs H Q _ => ∃ b : Addr, vs = [.ref b] ∧ Box H b ∧ ∀ (H' : Hp) (d : Int), But b H H' → Box H' b → -1000000000 ≤ d → d ≤ 1000000000 → Q (.int d) H'
theorem ok_number (T : Txt mg) (g_law_take : Has P w K mg base 1 "_law_take" ["_law_box_here", "_law_many"] spTake) (F : DefAt K mg "_law_number" s_law_number ["_law_box_here"]) : Has P w K mg base 2 "_law_number" ["_law_box_here"] spNumber := by
  refine F.has sc_law_number (fun vs H Q E h => ?_) (fun f cdv A outer s H vs Q E hr h => ?_)
  · obtain ⟨b, rfl, _⟩ := h
    rfl
  · obtain ⟨b, rfl, hb, k⟩ := h
    refine ⟨_, (pss_cons (ps_set (i := 1) sc_law_number.nd rfl (Or.inl rfl) (pe_ix ix_list (pe_lst (pa_cons pe_int (pa_cons pe_int (pa_cons pe_int (pa_cons pe_int (pa_cons pe_int (pa_cons pe_int pa_nil))))))) (pe_callHas g_law_take (hr.mono (by decide)) rfl (pa_cons (pv 0) (pa_cons pe_int pa_nil))) (fun _ _ => rfl)))
      (pss_one (ps_ret (pe_op op_sub (pe_callHas g_law_take (hr.mono (by decide)) rfl (pa_cons (pv 0) (pa_cons (pe_op op_add (pe_op op_mul pe_int (pv 1)) pe_int) pa_nil))) (pv 1))))), ?_⟩
    refine ⟨(by decide : 6 ≤ sizeLine), fun l hl => ?_⟩
    obtain ⟨s1, hl1⟩ := new_at (o := .lst [.int 3, .int 3, .int 9, .int 9, .int 40, .int 999999999]) hl
    have nlb : l ≠ b := by
      obtain ⟨x, y, z, h⟩ := hb
      exact (ne_of_none h hl).symm
    refine ⟨_, rfl, b, 6, rfl, hb.keep s1, by decide, by decide, fun d x y z d0 d1 => ?_⟩
    obtain ⟨j, rfl⟩ : ∃ j : Nat, d = (j : Int) := ⟨d.toNat, by omega⟩
    obtain ⟨m, em, m0, m1⟩ : ∃ m : Int, ([.int 3, .int 3, .int 9, .int 9, .int 40, .int 999999999] : List V)[j]? = some (.int m) ∧ 0 ≤ m ∧ m ≤ 999999999 := by
      match j, d1 with
      | 0, _ => exact ⟨_, rfl, by decide, by decide⟩
      | 1, _ => exact ⟨_, rfl, by decide, by decide⟩
      | 2, _ => exact ⟨_, rfl, by decide, by decide⟩
      | 3, _ => exact ⟨_, rfl, by decide, by decide⟩
      | 4, _ => exact ⟨_, rfl, by decide, by decide⟩
      | 5, _ => exact ⟨_, rfl, by decide, by decide⟩
      | n + 6, h => exact absurd h (by omega)
    refine ⟨l, _, _, _, rfl, rfl, SqL.of ((upd_ne nlb).trans hl1), atI_nat em, ?_⟩
    refine ⟨_, rfl, _, rfl, _, _, rfl, rfl, .inl ⟨by decide, by decide⟩, _, _, rfl, rfl, b, 2 * m + 1, rfl, Box.upd', by omega, by omega, fun d' x' y' z' d0' d1' => ⟨_, rfl, _, _, rfl, rfl, ?_⟩⟩
    exact k _ _ ((Same.but s1).trans (But.upd'.trans But.upd')) Box.upd' (by omega) (by omega)
end
end K06

namespace K06
open PySem L2 RZ Lat
section
variable {P : Program} {w : World} {K : PySem.W.Frag} {mg : Str → Option Value} {base : Heap}
/-- entries within -B .. B -/
def Within (B : Int) (v : Vec) : Prop := ∀ n ∈ v, -B ≤ n ∧ n ≤ B
def RowMid (b l : Addr) (n m i : Nat) (H1 : Hp) : St → Hp → Prop := fun σ H' => ∃ (ρ : Addr) (u : Vec) (x7 x8 x9 x10 x11 x12 : Option V),
  σ = [some (.ref b), some (.int ((n : Nat) : Int)), some (.int ((m : Nat) : Int)), some (.bl false), some (.ref l), some (.int (0 + ((i : Nat) : Int))), some (.ref ρ), x7, x8, x9, x10, x11, x12] ∧ But b H1 H' ∧ Box H' b ∧ ρ ≠ b ∧ H' ρ = some (.lst (u.map V.int)) ∧ u.length = n ∧ Within (4 + 8 * ((i : Nat) : Int)) u
theorem rep_zero : ∀ n : Nat, (List.replicate n [V.int 0]).flatten = (List.replicate n (0 : Int)).map V.int
  | 0 => rfl
  | n + 1 => by rw [List.replicate_succ, List.flatten_cons, rep_zero n, List.replicate_succ, List.map_cons]; rfl
theorem but_new {b p : Addr} {H : Hp} {o : HO} (h : H p = none) : But b H (upd H p o) := fun a u _ z => (new_at h).1 a u z
theorem Box.ne {b p : Addr} {H : Hp} (h : Box H b) (hp : H p = none) : p ≠ b := by
  obtain ⟨x, y, z, h⟩ := h
  exact (ne_of_none h hp).symm
theorem Box.new {b p : Addr} {H : Hp} {o : HO} (h : Box H b) (hp : H p = none) : Box (upd H p o) b := h.keep (new_at hp).1
theorem Rows.but {b : Addr} {H H' : Hp} {n : Nat} {as : List V} {vs : List Vec} (hb : Box H b) (s : But b H H') (h : Rows H n as vs) : Rows H' n as vs :=
  ⟨Paired.mapP h.1 fun x v z => by
    obtain ⟨a, e, q⟩ := z
    obtain ⟨x1, y1, z1, hb⟩ := hb
    exact ⟨a, e, s _ _ (ne_of q hb fun y => nomatch y) q⟩, h.2⟩
abbrev s_law_rows : Stmt := top 39
abbrev n_law_rows : List Str := ["_law_box_here", "_law_width", "_law_many", "_law_is_great", "_law_found", "_law_turn", "_law_row", "_law_first", "_law_last", "_law_at", "_law_here", "_law_there", "_law_number_here"]
theorem sc_law_rows : FnScope n_law_rows ["_law_box_here", "_law_width", "_law_many", "_law_is_great"] (defScope s_law_rows) := ⟨rfl, rfl, rfl, by decide +kernel, rfl, by decide +kernel, by decide +kernel⟩
def spRows : Sp := fun vs H Q _ => ∃ (b : Addr) (n m : Nat), vs = [.ref b, .int ((n : Nat) : Int), .int ((m : Nat) : Int), .bl false] ∧ Box H b ∧ 1 ≤ n ∧ n ≤ 12 ∧ m ≤ 12 ∧
  ∀ (H' : Hp) (l : Addr) (as : List V) (rs : List Vec), l ≠ b → H l = none → But b H H' → Box H' b → H' l = some (.lst as) → Rows H' n as rs → rs.length = m → (∀ r ∈ rs, Within (4 + 8 * (m : Int)) r) → Q (.ref l) H'
theorem ok_rows (T : Txt mg) (g_law_take : Has P w K mg base 1 "_law_take" ["_law_box_here", "_law_many"] spTake) (g_law_small : Has P w K mg base 2 "_law_small" ["_law_box_here"] spSmall) (g_law_number : Has P w K mg base 2 "_law_number" ["_law_box_here"] spNumber)
    (F : DefAt K mg "_law_rows" s_law_rows ["_law_box_here", "_law_width", "_law_many", "_law_is_great"]) : Has P w K mg base 3 "_law_rows" ["_law_box_here", "_law_width", "_law_many", "_law_is_great"] spRows := by
  refine F.has sc_law_rows (fun vs H Q E h => ?_) (fun f cdv A outer s H vs Q E hr h => ?_)
  · obtain ⟨b, n, m, rfl, _⟩ := h
    rfl
  · obtain ⟨b, n, m, rfl, hb, n1, n2, m2, k⟩ := h
    have hu := hr.units
    refine ⟨_, (pss_cons (ps_set (i := 4) sc_law_rows.nd rfl (Or.inl rfl) (pe_lst pa_nil))
      (pss_cons (ps_for PassesOwn.never rfl (pi_range1 rfl T.z_range (pa_cons (pv 2) pa_nil)) (pg_name (i := 5) sc_law_rows.nd rfl (Or.inl rfl)) (pss_cons (ps_setLc (i := 6) (own := [("_law_at", 9)]) (g := gName 9) (by rfl) sc_law_rows.nd rfl rfl (sw_true rfl rfl rfl (by decide +kernel)) (pi_range1 rfl T.z_range (pa_cons (pv 1) pa_nil)) (blkOk_by (own := [("_law_at", 9)]) (N := n_law_rows) (sc := defScope s_law_rows) (by decide +kernel)) (fun _ _ _ _ _ => (pg_name (i := 9) sc_law_rows.nd rfl (Or.inl rfl))) (fun _ _ _ _ _ => pts_nil) (fun _ _ _ _ _ => (pe_ifExp (pt_val (pv 3)) (pe_callHas g_law_number (hr.mono (by decide)) rfl (pa_cons (pv 0) pa_nil)) (pe_callHas g_law_small (hr.mono (by decide)) rfl (pa_cons (pv 0) pa_nil)))))
      (C8.pss_cut (ps_if (PW.pt (pw_and (pt_cmpR op_gt (pe_callB call_len (by rfl) T.z_len (by decide +kernel) (pa_cons (pv 4) pa_nil)) pe_int (nomark _)) (pw_and1 (pt_cmpR op_eq (pe_callHas g_law_take (hr.mono (by decide)) rfl (pa_cons (pv 0) (pa_cons pe_int pa_nil))) pe_int (nomark _))))) (pss_cons (ps_par (i := 7) (j := 8) (by rfl) sc_law_rows.nd rfl rfl (by decide) rfl rfl (pa_cons (pe_ix ix_list (pv 4) pe_int (fun _ _ => rfl)) (pa_cons (pe_ix ix_list (pv 4) (pe_op op_sub (pe_callB call_len (by rfl) T.z_len (by decide +kernel) (pa_cons (pv 4) pa_nil)) pe_int) (fun _ _ => rfl)) pa_nil)) (by rfl))
      (pss_one (ps_setLc (i := 6) (own := [("_law_here", 10), ("_law_there", 11)]) (g := gTup K 2 (gCons (gName 10) (gCons (gName 11) gNil))) (by rfl) sc_law_rows.nd rfl rfl (sw_true rfl rfl rfl (by decide +kernel)) (pi_zipA (by rfl) T.z_zip (pa_cons (pv 7) (pa_cons (pv 8) pa_nil))) (blkOk_by (own := [("_law_here", 10), ("_law_there", 11)]) (N := n_law_rows) (sc := defScope s_law_rows) (by decide +kernel)) (fun _ _ _ _ _ => (pg_tup rfl (pgs_cons (pg_name (i := 10) sc_law_rows.nd rfl (Or.inl rfl)) (pgs_cons (pg_name (i := 11) sc_law_rows.nd rfl (Or.inl rfl)) pgs_nil)))) (fun _ _ _ _ _ => pts_nil) (fun _ _ _ _ _ => (pe_op op_sub (pe_op op_mul pe_int (pv 10)) (pv 11)))))) pss_nil)
      (C8.pss_cut (ps_if (pt_cmpR op_eq (pe_callHas g_law_take (hr.mono (by decide)) rfl (pa_cons (pv 0) (pa_cons pe_int pa_nil))) pe_int (nomark _)) (pss_one (ps_set (i := 6) sc_law_rows.nd rfl (Or.inl rfl) (pe_op op_rep (pe_lst (pa_cons pe_int pa_nil)) (pv 1)))) pss_nil)
      (C8.pss_cut (ps_if (pt_cmpR (op_neD hu) (pe_lc (own := [("_law_number_here", 12)]) (g := gName 12) (by rfl) sc_law_rows.nd (pi_list (pv 6)) (blkOk_by (own := [("_law_number_here", 12)]) (N := n_law_rows) (sc := defScope s_law_rows) (by decide +kernel)) (fun _ _ _ _ _ => (pg_name (i := 12) sc_law_rows.nd rfl (Or.inl rfl))) (fun _ _ _ _ _ => (pts_one (pt_cmpR op_gt (pe_callB call_abs (by rfl) T.z_abs (by decide +kernel) (pa_cons (pv 12) pa_nil)) pe_int (nomark _)))) (fun _ _ _ _ _ => (pv 12))) (pe_lst pa_nil) (nomark _)) (pss_one (ps_setLc (i := 6) (own := [("_law_at", 9)]) (g := gName 9) (by rfl) sc_law_rows.nd rfl rfl (sw_true rfl rfl rfl (by decide +kernel)) (pi_range1 rfl T.z_range (pa_cons (pv 1) pa_nil)) (blkOk_by (own := [("_law_at", 9)]) (N := n_law_rows) (sc := defScope s_law_rows) (by decide +kernel)) (fun _ _ _ _ _ => (pg_name (i := 9) sc_law_rows.nd rfl (Or.inl rfl))) (fun _ _ _ _ _ => pts_nil) (fun _ _ _ _ _ => (pe_callHas g_law_small (hr.mono (by decide)) rfl (pa_cons (pv 0) pa_nil))))) pss_nil)
      (pss_one (ps_expr (pe_bm PySem.F.plainAttrs_list PySem.F.slot_list_append PySem.F.type_list_append mt_append (pv 4) (pa_cons (pe_callTy call_tuple_of (by rfl) T.z_tuple (by decide +kernel) (pa_cons (pv 6) pa_nil)) pa_nil)))))))))
      (pss_one (ps_ret (pv 4))))), ?_⟩
    refine ⟨Nat.zero_le _, fun l hl => ?_⟩
    obtain ⟨sl, hl1⟩ := new_at (o := .lst []) hl
    have nlb : l ≠ b := by
      obtain ⟨x, y, z, h⟩ := hb
      exact (ne_of_none h hl).symm
    refine ⟨_, rfl, ((m : Nat) : Int), rfl, by omega, by omega, for_range (lo := 0) (n := m) (fun i σ H' => ∃ (as : List V) (rs : List Vec) (x5 x6 x7 x8 x9 x10 x11 x12 : Option V),
      σ = [some (.ref b), some (.int ((n : Nat) : Int)), some (.int ((m : Nat) : Int)), some (.bl false), some (.ref l), x5, x6, x7, x8, x9, x10, x11, x12] ∧ But b H H' ∧ Box H' b ∧ H' l = some (.lst as) ∧ Rows H' n as rs ∧ rs.length = i ∧ ∀ (j : Nat) (r : Vec), rs[j]? = some r → Within (4 + 8 * ((j : Nat) : Int)) r)
      ⟨[], [], _, _, _, _, _, _, _, _, rfl, Same.but sl, hb.keep sl, hl1, ⟨.nil, fun u hu => nomatch hu⟩, rfl, fun j r e => by simp at e⟩ ?_ ?_⟩
    · rintro i σ H1 hi ⟨as, rs, x5, x6, x7, x8, x9, x10, x11, x12, rfl, sm, hb1, hl2, hrs, lrs, wrs⟩
      -- row = [..]
      refine ⟨_, rfl, ((n : Nat) : Int), rfl, by omega, by omega, fun D hD => lc_range (lo := 0) (n := n) (fun j H' => (∀ x o, x ≠ b → x ≠ D → H1 x = some o → H' x = some o) ∧ Box H' b ∧ ∃ u : Vec, H' D = some (.lst (u.map V.int)) ∧ u.length = j ∧ Within 4 u) ?_ ?_ ?_⟩
      · exact ⟨fun x o _ nD z => by rw [upd_ne nD]; exact z, hb1.new hD, [], upd_same, rfl, fun x hx => nomatch hx⟩
      · rintro j H' hj ⟨kp, hb', u, hD', lu, wu⟩
        refine ⟨rfl, ?_⟩
        refine ⟨_, rfl, _, rfl, ?_⟩
        refine ⟨_, rfl, b, rfl, hb', fun H3 d but3 hb3 d0 d1 => ?_⟩
        have nDb := hb1.ne hD
        refine ⟨_, but3 _ _ nDb hD', by rw [List.length_map, lu]; exact Nat.lt_of_lt_of_le hj (Nat.le_trans n2 (by decide)), fun x o nb nD z => by rw [upd_ne nD]; exact but3 _ _ nb (kp x o nb nD z), ?_, u ++ [d], ?_, by rw [List.length_append, lu]; rfl, ?_⟩
        · obtain ⟨y1, y2, y3, h⟩ := hb3
          exact ⟨y1, y2, y3, by rw [upd_ne nDb.symm]; exact h⟩
        · rw [upd_same, List.map_append]; rfl
        · intro x hx
          rcases List.mem_append.mp hx with hx | hx
          · exact wu x hx
          · rw [List.mem_singleton.mp hx]; omega
      rintro H2 ⟨kp2, hb2, u, hD2, lu, wu⟩
      have nDb := hb1.ne hD
      have but2 : But b H1 H2 := fun x o nb z => kp2 x o nb (ne_of_none z hD) z
      have lmap : as.length = i := hrs.len.trans lrs
      refine ⟨RowMid b l n m i H1, ?_, ?_⟩
      · -- if len(found) > 1 and ..
        have hl3 := but2 _ _ nlb hl2
        refine ⟨_, rfl, _, _, rfl, .inl ⟨_, SqL.of hl3, rfl⟩, _, _, rfl, rfl, _, rfl, ?_⟩
        have wide : Within (4 + 8 * ((i : Nat) : Int)) u := fun x hx => by have := wu x hx; omega
        have no : RowMid b l n m i H1 [some (.ref b), some (.int ((n : Nat) : Int)), some (.int ((m : Nat) : Int)), some (.bl false), some (.ref l), some (.int (0 + ((i : Nat) : Int))), some (.ref D), x7, x8, x9, x10, x11, x12] H2 := ⟨D, u, _, _, _, _, _, _, rfl, but2, hb2, nDb, hD2, lu, wide⟩
        by_cases h1 : (1 : Int) < ((as.length : Nat) : Int)
        · show if decide ((1 : Int) < ((as.length : Nat) : Int)) = true then _ else _
          rw [decide_eq_true h1]
          refine ⟨_, rfl, b, 4, rfl, hb2, by decide, by decide, fun d x y z d0 d1 => ⟨rfl, _, rfl, ?_⟩⟩
          have bu3 : But b H1 (upd H2 b (.lst [.int x, .int y, .int z])) := but2.trans But.upd'
          have hD3 : (upd H2 b (.lst [.int x, .int y, .int z])) D = some (.lst (u.map V.int)) := (upd_ne nDb).trans hD2
          by_cases h0 : d = 0
          · show if decide (V.int d = V.int 0) = true then _ else _
            rw [decide_eq_true (by rw [h0])]
            have hl4 := bu3 _ _ nlb hl2
            have hrs4 := hrs.but hb1 bu3
            obtain ⟨y0, e0⟩ : ∃ y0, as[0]? = some y0 := ⟨_, List.getElem?_eq_getElem (by omega)⟩
            obtain ⟨yl, el⟩ : ∃ yl, as[as.length - 1]? = some yl := ⟨_, List.getElem?_eq_getElem (by omega)⟩
            obtain ⟨a0, r0, f0, rfl, g0, l0⟩ := hrs4.at e0
            obtain ⟨al, rl, fl, rfl, gl, ll⟩ := hrs4.at el
            have w0 := wrs 0 r0 f0
            have wl := wrs (as.length - 1) rl fl
            have ecast : ((as.length : Nat) : Int) - 1 = ((as.length - 1 : Nat) : Int) := by omega
            refine ⟨_, rfl, l, _, _, _, rfl, rfl, SqL.of hl4, atI_nat (j := 0) e0, _, rfl, _, rfl, _, _, rfl, .inl ⟨_, SqL.of hl4, rfl⟩, _, _, rfl, rfl, l, _, _, _, rfl, rfl, SqL.of hl4, (by rw [ecast]; exact atI_nat el), _, _, rfl, ?_⟩
            have ln : min (r0.map V.int).length (rl.map V.int).length = n := by rw [List.length_map, List.length_map, l0, ll, Nat.min_self]
            have la : (List.zipWith (fun p q : Int => 2 * p - q) r0 rl).length = n := by rw [List.length_zipWith, l0, ll, Nat.min_self]
            refine ⟨_, rfl, _, rfl, a0, al, _, _, rfl, .inr ⟨SqT.of g0, SqT.of gl, fun E hE => lc_it (walk_zipT (xs := r0.map V.int) (ys := rl.map V.int) ln.symm) (fun j H' => Same (upd H2 b (.lst [.int x, .int y, .int z])) H' ∧ H' E = some (.lst (((List.zipWith (fun p q : Int => 2 * p - q) r0 rl).take j).map V.int))) ?_ ?_ ?_ ?_⟩⟩
            · exact ⟨(new_at hE).1, upd_same⟩
            · exact fun j H' _ q => ⟨SqT.of (q.1 _ _ g0), SqT.of (q.1 _ _ gl)⟩
            · rintro j x' H' H'' hj ⟨sm', hE'⟩ ⟨q, y1, y2, rfl, hq, rfl, e1, e2⟩
              obtain ⟨p1, ep1, rfl⟩ := map_at e1
              obtain ⟨p2, ep2, rfl⟩ := map_at e2
              refine ⟨q, _, rfl, SqT.of upd_same, rfl, _, _, rfl, _, _, rfl, rfl, rfl, ?_⟩
              refine ⟨_, rfl, _, _, rfl, rfl, .inl ⟨by decide, by decide⟩, _, rfl, _, _, rfl, rfl, ?_⟩
              have nEq : E ≠ q := ne_of_none hE' hq
              refine ⟨_, (upd_ne nEq).trans hE', by rw [List.length_map, List.length_take]; exact Nat.lt_of_le_of_lt (Nat.le_trans (Nat.min_le_right _ _) (la ▸ n2)) (by decide), fun x' o z' => ?_, ?_⟩
              · rw [upd_ne (ne_of_none z' hE)]
                exact (new_at hq).1 _ _ (sm' _ _ z')
              · rw [upd_same, take_snoc (n := 2 * p1 - p2)]
                rw [List.getElem?_zipWith, ep1, ep2]
            · rintro H5 ⟨sm', hE'⟩
              rw [take_all la] at hE'
              have hbx : Box (upd H2 b (.lst [.int x, .int y, .int z])) b := Box.upd'
              refine ⟨E, _, _, _, _, _, _, _, rfl, bu3.trans (Same.but sm'), hbx.keep sm', hbx.ne hE, hE', la, ?_⟩
              intro v hv
              obtain ⟨j, hj, ev⟩ := List.mem_iff_getElem.mp hv
              rw [List.getElem_zipWith] at ev
              have q1 := w0 _ (List.getElem_mem (l := r0) (by rw [List.length_zipWith] at hj; omega : j < r0.length))
              have q2 := wl _ (List.getElem_mem (l := rl) (by rw [List.length_zipWith] at hj; omega : j < rl.length))
              omega
          · show if decide (V.int d = V.int 0) = true then _ else _
            rw [decide_eq_false (fun z' => h0 (V.int.inj z'))]
            exact ⟨D, u, _, _, _, _, _, _, rfl, bu3, Box.upd', nDb, hD3, lu, wide⟩
        · show if decide ((1 : Int) < ((as.length : Nat) : Int)) = true then _ else _
          rw [decide_eq_false h1]
          exact no
      · -- if take(8) == 0: row = [0] * width
        rintro σ3 H3 ⟨ρ, u3, x7, x8, x9, x10, x11, x12, rfl, bu3, hb3, nρ, hρ, lu3, wu3⟩
        refine ⟨RowMid b l n m i H1, ?_, ?_⟩
        · refine ⟨_, rfl, b, 8, rfl, hb3, by decide, by decide, fun d x y z d0 d1 => ⟨rfl, _, rfl, ?_⟩⟩
          have bu4 : But b H1 (upd H3 b (.lst [.int x, .int y, .int z])) := bu3.trans But.upd'
          have hbx : Box (upd H3 b (.lst [.int x, .int y, .int z])) b := Box.upd'
          by_cases h0 : d = 0
          · show if decide (V.int d = V.int 0) = true then _ else _
            rw [decide_eq_true (by rw [h0])]
            refine ⟨(by decide : 1 ≤ sizeLine), fun q hq => ?_⟩
            refine ⟨_, rfl, q, ((n : Nat) : Int), _, rfl, rfl, upd_same, by omega, by omega, by show 1 * ((n : Nat) : Int).toNat ≤ sizeLine; rw [Int.toNat_natCast, Nat.one_mul]; exact Nat.le_trans n2 (by decide), fun D3 hD3 => ?_⟩
            have hb4 := hbx.new (o := .lst [.int 0]) hq
            rw [Int.toNat_natCast, rep_zero]
            refine ⟨D3, List.replicate n 0, _, _, _, _, _, _, rfl, (bu4.trans (but_new hq)).trans (but_new hD3), hb4.new hD3, hb4.ne hD3, upd_same, List.length_replicate .., fun v hv => ?_⟩
            rw [(List.mem_replicate.mp hv).2]; omega
          · show if decide (V.int d = V.int 0) = true then _ else _
            rw [decide_eq_false (fun z' => h0 (V.int.inj z'))]
            exact ⟨ρ, u3, _, _, _, _, _, _, rfl, bu4, hbx, nρ, (upd_ne nρ).trans hρ, lu3, wu3⟩
        · -- if [..] != []
          rintro σ4 H4 ⟨ρ, u4, x7, x8, x9, x10, x11, x12, rfl, bu4, hb4, nρ4, hρ4, lu4, wu4⟩
          refine ⟨RowMid b l n m i H1, ?_, ?_⟩
          · refine ⟨_, rfl, ρ, rfl, ⟨_, SqL.of hρ4⟩, fun D4 hD4 => lc_it (walk_list (xs := u4.map V.int)) (fun j H' => Same H4 H' ∧ H' D4 = some (.lst [])) ?_ ?_ ?_ ?_⟩
            · exact ⟨(new_at hD4).1, upd_same⟩
            · exact fun j H' _ q => SqL.of (q.1 _ _ hρ4)
            · rintro j x' H' H'' hj ⟨sm', hD'⟩ ⟨rfl, e1⟩
              obtain ⟨v, ev, rfl⟩ := map_at e1
              have wv := wu4 v (List.mem_of_getElem? ev)
              refine ⟨rfl, ?_⟩
              refine ⟨_, rfl, _, rfl, _, _, rfl, rfl, _, rfl, ?_⟩
              have hno : ¬ ((999999999 : Int) < (if v < 0 then -v else v)) := by split <;> omega
              show if decide ((999999999 : Int) < (if v < 0 then -v else v)) = true then _ else _
              rw [decide_eq_false hno]
              exact ⟨sm', hD'⟩
            · rintro H5 ⟨sm', hD'⟩
              refine ⟨Nat.zero_le _, fun D5 hD5 => ?_⟩
              obtain ⟨s5, h5⟩ := new_at (o := .lst []) hD5
              refine ⟨.list [], .list [], .lst (SqL.of (s5 _ _ hD')) .nil, .lst (SqL.of h5) .nil, by decide +kernel, by decide +kernel, _, rfl, ?_⟩
              have e6 : (!PyData.eqv (.list []) (.list [])) = false := by decide +kernel
              show if (!PyData.eqv (.list []) (.list [])) = true then _ else _
              rw [e6]
              have s45 := sm'.trans s5
              exact ⟨ρ, u4, _, _, _, _, _, _, rfl, bu4.trans (Same.but s45), hb4.keep s45, nρ4, s45 _ _ hρ4, lu4, wu4⟩
          · -- found.append(tuple(row))
            rintro σ5 H5 ⟨ρ, u5, x7, x8, x9, x10, x11, x12, rfl, bu5, hb5, nρ5, hρ5, lu5, wu5⟩
            have hl5 := bu5 _ _ nlb hl2
            refine ⟨_, rfl, .inl ⟨rfl, _, SqL.of hl5⟩, _, rfl, _, _, rfl, .inl ⟨SqL.of hρ5, fun t ht => ?_⟩⟩
            obtain ⟨s6, ht6⟩ := new_at (o := .tup (u5.map V.int)) ht
            have hl6 := s6 _ _ hl5
            refine ⟨l, _, _, rfl, rfl, hl6, by rw [lmap]; exact Nat.lt_of_lt_of_le hi (Nat.le_trans m2 (by decide)), ?_⟩
            have bu6 : But b H1 (upd H5 t (.tup (u5.map V.int))) := bu5.trans (Same.but s6)
            refine ⟨as ++ [.ref t], rs ++ [u5], _, _, _, _, _, _, _, _, rfl, fun x o nb z => ?_, ?_, upd_same, Rows.snoc (Rows.lst_up hl6 (hrs.but hb1 bu6)) (V_up hl6 ht6) lu5, by rw [List.length_append, lrs]; rfl, fun j r e => ?_⟩
            · rw [upd_ne (ne_of_none z hl)]
              exact bu6 _ _ nb (sm _ _ nb z)
            · obtain ⟨y1, y2, y3, h⟩ := hb5.keep s6
              exact ⟨y1, y2, y3, (upd_ne nlb.symm).trans h⟩
            · by_cases hj : j < rs.length
              · rw [List.getElem?_append_left hj] at e
                exact wrs j r e
              · rw [List.getElem?_append_right (by omega)] at e
                have hj0 : j - rs.length = 0 := by
                  have := (List.getElem?_eq_some_iff.mp e).1
                  simp at this
                  omega
                rw [hj0] at e
                have er : u5 = r := Option.some.inj e
                have ej : j = i := by omega
                subst er ej
                exact wu5
    · rintro σ H1 ⟨as, rs, x5, x6, x7, x8, x9, x10, x11, x12, rfl, sm, hb1, hl2, hrs, lrs, wrs⟩
      refine ⟨_, rfl, k _ l as rs nlb hl sm hb1 hl2 hrs lrs fun r hr' => ?_⟩
      obtain ⟨j, hj, ev⟩ := List.mem_iff_getElem.mp hr'
      intro x hx
      have := wrs j r (by rw [List.getElem?_eq_getElem hj, ev]) x hx
      omega
end
end K06

namespace K06
open PySem L2 RZ Lat
/-! ## sizes -/
theorem p2le {a b : Nat} (h : a ≤ b) : 2 ^ a ≤ 2 ^ b := Nat.pow_le_pow_right (by decide) h
theorem p2lt {a b : Nat} (h : a < b) : 2 ^ a < 2 ^ b := Nat.pow_lt_pow_right (by decide) h
theorem log_lt {j α k : Nat} (h0 : j ≠ 0) (h : j ≤ 2 ^ α) (ha : α < k) : j.log2 < k := (Nat.log2_lt h0).mpr (Nat.lt_of_le_of_lt h (p2lt ha))
theorem divz_ok {i j : Int} {α : Nat} (h0 : j ≠ 0) (h : j.natAbs ≤ 2 ^ α) (ha : α < 9000) : CDivZ i j :=
  ⟨h0, PyProof.noPylong_of_log2 (log_lt (Int.natAbs_ne_zero.mpr h0) h ha)⟩
theorem mul_ok {i j : Int} {α β : Nat} (ha : i.natAbs ≤ 2 ^ α) (hb : j.natAbs ≤ 2 ^ β) (h : α + β + 2 ≤ 134217728) : CMulX i j :=
  mulx_ok (a := α + 1) (b := β + 1) (Nat.lt_of_le_of_lt ha (p2lt (Nat.lt_succ_self _))) (Nat.lt_of_le_of_lt hb (p2lt (Nat.lt_succ_self _))) (by omega)
theorem fdiv_absP (a b : Int) (hb : 0 < b) : (a.fdiv b).natAbs ≤ a.natAbs := by
  have h := fdiv_rem a b hb
  generalize a.fdiv b = q at h ⊢
  rcases (by omega : q < 0 ∨ 0 ≤ q) with hq | hq
  · have h1 := Int.mul_le_mul_of_nonneg_left (show (1 : Int) ≤ b by omega) (show 0 ≤ -(q + 1) by omega)
    have h2 : -(q + 1) * b = -(q * b) - b := by grind
    rw [h2] at h1
    omega
  · have h1 := Int.mul_le_mul_of_nonneg_left (show (1 : Int) ≤ b by omega) hq
    omega
theorem fdiv_abs (a b : Int) (hb : b ≠ 0) : (a.fdiv b).natAbs ≤ a.natAbs := by
  rcases Int.lt_or_gt_of_ne hb with h | h
  · have := fdiv_absP (-a) (-b) (by omega)
    rw [Int.neg_fdiv_neg, Int.natAbs_neg] at this
    exact this
  · exact fdiv_absP a b h
theorem mem_itm {v : Vec} {m : Int} (h : m ∈ v) : ∃ i, itm v i = m := by
  obtain ⟨i, hi, e⟩ := List.mem_iff_getElem.mp h
  refine ⟨i, ?_⟩
  have := itm_of hi
  rw [List.getElem?_eq_getElem hi, e] at this
  exact (Option.some.inj this).symm
theorem redV_size {n π β : Nat} (hπ : π < 9000) : ∀ {c : Nat} {B : List Vec} {v : Vec} {ξ : Nat}, Ech n c B → v.length = n → (∀ s ∈ B, (itm s (piv s)).natAbs ≤ 2 ^ π) → (∀ s ∈ B, ∀ i, (itm s i).natAbs ≤ 2 ^ β) → (∀ i, (itm v i).natAbs ≤ 2 ^ ξ) →
    ξ + B.length * (β + 1) + β + 2 ≤ 134217728 → OkRed B v ∧ ∀ i, (itm (redV B v) i).natAbs ≤ 2 ^ (ξ + B.length * (β + 1))
  | c, [], v, ξ, _, _, _, _, hv, _ => ⟨trivial, fun i => by rw [List.length_nil, Nat.zero_mul]; exact hv i⟩
  | c, r :: rs, v, ξ, e, l, hp, hb, hv, ok => by
    obtain ⟨hp1, hp2⟩ := List.forall_mem_cons.mp hp
    obtain ⟨hb1, hb2⟩ := List.forall_mem_cons.mp hb
    have lr : v.length = r.length := l.trans e.1.symm
    have rn : itm r (piv r) ≠ 0 := e.ne List.mem_cons_self
    have hq := fdiv_abs (itm v (piv r)) (itm r (piv r)) rn
    have hq2 := Nat.le_trans hq (hv (piv r))
    rw [List.length_cons, Nat.add_mul, Nat.one_mul] at ok
    have ih := redV_size hπ (v := addV v (-((itm v (piv r)).fdiv (itm r (piv r)))) r) (ξ := ξ + (β + 1)) e.2.2.2 ((addV_len lr).trans l) hp2 hb2 (fun i => ?_) (by omega)
    · refine ⟨⟨e.1 ▸ e.2.2.1, divz_ok rn hp1 hπ, fun m hm => ?_, ih.1⟩, fun i => ?_⟩
      · obtain ⟨i, rfl⟩ := mem_itm hm
        exact mul_ok (α := ξ) (by rw [Int.natAbs_neg]; exact hq2) (hb1 i) (by omega)
      · refine Nat.le_trans (ih.2 i) (p2le ?_)
        rw [List.length_cons, Nat.add_mul, Nat.one_mul]; omega
    · rw [itm_add lr]
      have h1 : (-((itm v (piv r)).fdiv (itm r (piv r))) * itm r i).natAbs ≤ 2 ^ ξ * 2 ^ β := by
        rw [Int.natAbs_mul, Int.natAbs_neg]; exact Nat.mul_le_mul hq2 (hb1 i)
      have h2 := hv i
      have h3 : 2 ^ ξ ≤ 2 ^ ξ * 2 ^ β := Nat.le_mul_of_pos_right _ (Nat.two_pow_pos β)
      have h4 : 2 ^ (ξ + (β + 1)) = 2 ^ ξ * 2 ^ β * 2 := by rw [Nat.pow_add, Nat.pow_succ, Nat.mul_assoc]
      rw [h4]
      have := Int.natAbs_add_le (itm v i) (-((itm v (piv r)).fdiv (itm r (piv r))) * itm r i)
      omega
theorem sign_rem (a b : Int) (hb : b ≠ 0) : (0 ≤ b ∧ 0 ≤ a + -(a.fdiv b) * b) ∨ (b ≤ 0 ∧ a + -(a.fdiv b) * b ≤ 0) := by
  have e : a + -(a.fdiv b) * b = a - a.fdiv b * b := by grind
  rw [e]
  rcases Int.lt_or_gt_of_ne hb with h | h
  · exact .inr ⟨by omega, (fdiv_rem_neg a b h).2⟩
  · exact .inl ⟨by omega, (fdiv_rem a b h).1⟩
theorem euc_any (a b : Int) : (a.fdiv b).natAbs * b.natAbs ≤ a.natAbs + (a + -(a.fdiv b) * b).natAbs := by
  have e : a.fdiv b * b = a - (a + -(a.fdiv b) * b) := by grind
  rw [← Int.natAbs_mul, e]; omega
theorem euc (a b : Int) (hb : b ≠ 0) (hs : (0 ≤ a ∧ 0 ≤ b) ∨ (a ≤ 0 ∧ b ≤ 0)) : (a.fdiv b).natAbs * b.natAbs + (a + -(a.fdiv b) * b).natAbs = a.natAbs := by
  have e : a + -(a.fdiv b) * b = a - a.fdiv b * b := by grind
  rw [← Int.natAbs_mul, e]
  rcases Int.lt_or_gt_of_ne hb with h | h
  · have h1 := fdiv_rem_neg a b h
    generalize a.fdiv b = q at h1 ⊢
    rcases (by omega : q < 0 ∨ 0 ≤ q) with hq | hq
    · have h2 := Int.mul_le_mul_of_nonneg_left (show (1 : Int) ≤ -q by omega) (show 0 ≤ -b by omega)
      have h3 : -b * -q = q * b := by grind
      rw [h3] at h2
      omega
    · have h2 := Int.mul_nonneg hq (show 0 ≤ -b by omega)
      rw [Int.mul_neg] at h2
      omega
  · have h1 := fdiv_rem a b h
    generalize a.fdiv b = q at h1 ⊢
    rcases (by omega : q < 0 ∨ 0 ≤ q) with hq | hq
    · have h2 := Int.mul_le_mul_of_nonneg_left (show (1 : Int) ≤ -q by omega) (show 0 ≤ b by omega)
      have h3 : b * -q = -(q * b) := by grind
      rw [h3] at h2
      omega
    · have h2 := Int.mul_nonneg hq (show 0 ≤ b by omega)
      omega
theorem step_abs {a b : Int} {q : Int} {x y : Nat} (ha : a.natAbs ≤ x) (hb : b.natAbs ≤ y) : (a + -q * b).natAbs ≤ x + q.natAbs * y := by
  have h1 : (-q * b).natAbs ≤ q.natAbs * y := by rw [Int.natAbs_mul, Int.natAbs_neg]; exact Nat.mul_le_mul_left _ hb
  have := Int.natAbs_add_le a (-q * b)
  omega
theorem clr_size {n α χ : Nat} (hα : α < 9000) (hχ : α + χ + 2 ≤ 134217728) : ∀ (m : Nat) (r v : Vec) (i : Nat) (C : Nat → Prop) (Mr Mv X : Nat), r.length = n → v.length = n → itm r i ≠ 0 → ((0 ≤ itm r i ∧ 0 ≤ itm v i) ∨ (itm r i ≤ 0 ∧ itm v i ≤ 0)) →
    (∀ j, C j → (itm r j).natAbs ≤ Mr ∧ (itm v j).natAbs ≤ Mv) → Mr ≤ X → Mv * (itm r i).natAbs + Mr * (itm v i).natAbs ≤ X →
    (∀ j, C j → (itm (clr m r v i).1 j).natAbs ≤ X ∧ (itm (clr m r v i).2 j).natAbs ≤ X) ∧ ((∀ j, C j) → (itm v i).natAbs ≤ m → X ≤ 2 ^ χ → (itm r i).natAbs ≤ 2 ^ α → (itm v i).natAbs ≤ 2 ^ α → OkClr m r v i)
  | 0, r, v, i, C, Mr, Mv, X, lr, lv, h0, hs, hC, hX, hN => by
    have h1 : Mv ≤ Mv * (itm r i).natAbs := Nat.le_mul_of_pos_right _ (Int.natAbs_pos.mpr h0)
    exact ⟨fun j hj => ⟨Nat.le_trans (hC j hj).1 hX, Nat.le_trans (hC j hj).2 (by omega)⟩, fun _ hm _ _ _ => by show itm v i = 0; omega⟩
  | m + 1, r, v, i, C, Mr, Mv, X, lr, lv, h0, hs, hC, hX, hN => by
    have h1 : Mv ≤ Mv * (itm r i).natAbs := Nat.le_mul_of_pos_right _ (Int.natAbs_pos.mpr h0)
    by_cases hv : itm v i = 0
    · have e : clr (m + 1) r v i = (r, v) := by unfold clr; rw [if_pos hv]
      rw [e]
      exact ⟨fun j hj => ⟨Nat.le_trans (hC j hj).1 hX, Nat.le_trans (hC j hj).2 (by omega)⟩, fun _ _ _ _ _ => .inl hv⟩
    · have e : clr (m + 1) r v i = clr m v (addV r (-((itm r i).fdiv (itm v i))) v) i := by rw [clr, if_neg hv]
      have l := lr.trans lv.symm
      have ei := itm_add (t := -((itm r i).fdiv (itm v i))) l i
      have q1 := euc (itm r i) (itm v i) hv hs
      have q2 := sign_rem (itm r i) (itm v i) hv
      have q3 := fdiv_small (itm r i) (itm v i) hv
      rw [← ei] at q1 q2 q3
      have key : (Mr + ((itm r i).fdiv (itm v i)).natAbs * Mv) * (itm v i).natAbs + Mv * (itm (addV r (-((itm r i).fdiv (itm v i))) v) i).natAbs ≤ X := by
        have : (Mr + ((itm r i).fdiv (itm v i)).natAbs * Mv) * (itm v i).natAbs + Mv * (itm (addV r (-((itm r i).fdiv (itm v i))) v) i).natAbs = Mr * (itm v i).natAbs + Mv * (((itm r i).fdiv (itm v i)).natAbs * (itm v i).natAbs + (itm (addV r (-((itm r i).fdiv (itm v i))) v) i).natAbs) := by grind
        rw [this, q1]; omega
      have ih := clr_size hα hχ m v (addV r (-((itm r i).fdiv (itm v i))) v) i C Mv (Mr + ((itm r i).fdiv (itm v i)).natAbs * Mv) X lv ((addV_len l).trans lr) hv q2 (fun j hj => ⟨(hC j hj).2, by rw [itm_add l]; exact step_abs (hC j hj).1 (hC j hj).2⟩) (by omega) key
      rw [e]
      refine ⟨ih.1, fun hall hm hXχ hr hvα => .inr ⟨divz_ok hv hvα hα, fun x hx => ?_, ih.2 hall (by omega) hXχ hvα (by omega)⟩⟩
      obtain ⟨j, rfl⟩ := mem_itm hx
      exact mul_ok (α := α) (β := χ) (by rw [Int.natAbs_neg]; exact Nat.le_trans (fdiv_abs _ _ hv) hr) (Nat.le_trans (hC j (hall j)).2 (by omega)) hχ
theorem clear_size {n α χ : Nat} (hα : α < 9000) (hχ : α + χ + 2 ≤ 134217728) (r v : Vec) (i : Nat) (C : Nat → Prop) (M a : Nat) (lr : r.length = n) (lv : v.length = n) (h0 : itm r i ≠ 0) (a1 : 1 ≤ a) (ha : (itm r i).natAbs ≤ a) (hav : (itm v i).natAbs ≤ a)
    (hC : ∀ j, C j → (itm r j).natAbs ≤ M ∧ (itm v j).natAbs ≤ M) :
    (∀ j, C j → (itm (clear r v i).1 j).natAbs ≤ 4 * M * a ∧ (itm (clear r v i).2 j).natAbs ≤ 4 * M * a) ∧ ((∀ j, C j) → 4 * M * a ≤ 2 ^ χ → a ≤ 2 ^ α → OkClr (itm v i).natAbs r v i) := by
  have hM : M ≤ 4 * M * a := by
    have : 4 * M ≤ 4 * M * a := Nat.le_mul_of_pos_right _ a1
    omega
  unfold clear
  by_cases hv : itm v i = 0
  · have e : (itm v i).natAbs = 0 := by rw [hv]; rfl
    rw [e]
    exact ⟨fun j hj => ⟨Nat.le_trans (hC j hj).1 hM, Nat.le_trans (hC j hj).2 hM⟩, fun _ _ _ => hv⟩
  · obtain ⟨m, em⟩ : ∃ m, (itm v i).natAbs = m + 1 := ⟨(itm v i).natAbs - 1, by omega⟩
    rw [em]
    have e : clr (m + 1) r v i = clr m v (addV r (-((itm r i).fdiv (itm v i))) v) i := by rw [clr, if_neg hv]
    have l := lr.trans lv.symm
    have ei := itm_add (t := -((itm r i).fdiv (itm v i))) l i
    have q1 := euc_any (itm r i) (itm v i)
    have q2 := sign_rem (itm r i) (itm v i) hv
    have q3 := fdiv_small (itm r i) (itm v i) hv
    rw [← ei] at q1 q2 q3
    have key : (M + ((itm r i).fdiv (itm v i)).natAbs * M) * (itm v i).natAbs + M * (itm (addV r (-((itm r i).fdiv (itm v i))) v) i).natAbs ≤ 4 * M * a := by
      have e1 : (M + ((itm r i).fdiv (itm v i)).natAbs * M) * (itm v i).natAbs + M * (itm (addV r (-((itm r i).fdiv (itm v i))) v) i).natAbs = M * ((itm v i).natAbs + ((itm r i).fdiv (itm v i)).natAbs * (itm v i).natAbs + (itm (addV r (-((itm r i).fdiv (itm v i))) v) i).natAbs) := by grind
      have e2 : 4 * M * a = M * (4 * a) := by grind
      rw [e1, e2]
      exact Nat.mul_le_mul_left _ (by omega)
    have ih := clr_size hα hχ m v (addV r (-((itm r i).fdiv (itm v i))) v) i C M (M + ((itm r i).fdiv (itm v i)).natAbs * M) (4 * M * a) lv ((addV_len l).trans lr) hv q2 (fun j hj => ⟨(hC j hj).2, by rw [itm_add l]; exact step_abs (hC j hj).1 (hC j hj).2⟩) hM key
    rw [e]
    refine ⟨ih.1, fun hall hX haα => .inr ⟨divz_ok hv (Nat.le_trans hav haα) hα, fun x hx => ?_, ih.2 hall (by omega) hX (by omega) (by omega)⟩⟩
    obtain ⟨j, rfl⟩ := mem_itm hx
    exact mul_ok (α := α) (β := χ) (by rw [Int.natAbs_neg]; exact Nat.le_trans (fdiv_abs _ _ hv) (Nat.le_trans ha haα)) (Nat.le_trans (hC j (hall j)).2 (by omega)) hχ
end K06

namespace K06
open PySem L2 RZ Lat
def gd : Nat → Nat → Nat → Prop
  | 0, _, _ => True
  | k + 1, α, ξ => α < 9000 ∧ ξ + 2 * α + 4 ≤ 134217728 ∧ gd k (2 * α + 2) (ξ + α + 2)
def fxb : Nat → Nat → Nat → Nat
  | 0, _, ξ => ξ
  | k + 1, α, ξ => fxb k (2 * α + 2) (ξ + α + 2)
theorem fxb_ge : ∀ (k α ξ : Nat), ξ ≤ fxb k α ξ
  | 0, _, _ => Nat.le_refl _
  | k + 1, α, ξ => Nat.le_trans (by omega) (fxb_ge k (2 * α + 2) (ξ + α + 2))
theorem four (α β : Nat) : 4 * 2 ^ β * 2 ^ α = 2 ^ (β + α + 2) := by
  rw [Nat.pow_add, Nat.pow_add, Nat.mul_comm 4, Nat.mul_assoc, Nat.mul_comm 4, ← Nat.mul_assoc]
theorem stepped_size {n : Nat} (C : Nat → Prop) : ∀ {c : Nat} {B : List Vec} {v : Vec} {α ξ : Nat}, Ech n c B → v.length = n → (∀ s ∈ B, C (piv s)) → gd B.length α ξ →
    (∀ s ∈ B, (∀ i, (itm s i).natAbs ≤ 2 ^ ξ) ∧ ∀ i, C i → (itm s i).natAbs ≤ 2 ^ α) → (∀ i, (itm v i).natAbs ≤ 2 ^ ξ) → (∀ i, C i → (itm v i).natAbs ≤ 2 ^ α) →
    OkStep B v ∧ ∀ s ∈ stepped B v, ∀ i, (itm s i).natAbs ≤ 2 ^ fxb B.length α ξ
  | c, [], v, α, ξ, _, _, _, _, _, hv, _ => by
    refine ⟨trivial, ?_⟩
    rw [stepped_nil]
    split
    · exact fun s h => nomatch h
    · exact fun s hs i => by rw [List.mem_singleton.mp hs]; exact hv i
  | c, r :: rs, v, α, ξ, e, l, hp, g, hB, hv, hvC => by
    obtain ⟨hp1, hp2⟩ := List.forall_mem_cons.mp hp
    obtain ⟨hB1, hB2⟩ := List.forall_mem_cons.mp hB
    obtain ⟨g1, g2, g3⟩ := g
    have up : ∀ {x : Nat}, x ≤ 2 ^ ξ → x ≤ 2 ^ (ξ + α + 2) := fun h => Nat.le_trans h (p2le (by omega))
    have upA : ∀ {x : Nat}, x ≤ 2 ^ α → x ≤ 2 ^ (2 * α + 2) := fun h => Nat.le_trans h (p2le (by omega))
    have hB2' : ∀ s ∈ rs, (∀ i, (itm s i).natAbs ≤ 2 ^ (ξ + α + 2)) ∧ ∀ i, C i → (itm s i).natAbs ≤ 2 ^ (2 * α + 2) := fun s hs => ⟨fun i => up ((hB2 s hs).1 i), fun i hi => upA ((hB2 s hs).2 i hi)⟩
    have top := fxb_ge rs.length (2 * α + 2) (ξ + α + 2)
    rw [stepped_cons]
    by_cases h : piv v < piv r
    · rw [if_pos h]
      have ih := stepped_size C (v := r) e.2.2.2 e.1 hp2 g3 hB2' (fun i => up (hB1.1 i)) (fun i hi => upA (hB1.2 i hi))
      exact ⟨⟨e.1 ▸ e.2.2.1, .inl ⟨h, ih.1⟩⟩, List.forall_mem_cons.mpr ⟨fun i => Nat.le_trans (up (hv i)) (p2le top), ih.2⟩⟩
    · rw [if_neg h]
      have rn := e.ne List.mem_cons_self
      have a1 : 1 ≤ 2 ^ α := Nat.two_pow_pos α
      obtain ⟨c1, c2⟩ := clear_len (i := piv r) (e.1.trans l.symm)
      have z1 := clear_size (n := n) (χ := ξ + α + 2) g1 (by omega) r v (piv r) (fun _ => True) (2 ^ ξ) (2 ^ α) e.1 l rn a1 (hB1.2 _ hp1) (hvC _ hp1) (fun j _ => ⟨hB1.1 j, hv j⟩)
      have z2 := clear_size (n := n) (χ := ξ + α + 2) g1 (by omega) r v (piv r) C (2 ^ α) (2 ^ α) e.1 l rn a1 (hB1.2 _ hp1) (hvC _ hp1) (fun j hj => ⟨hB1.2 j hj, hvC j hj⟩)
      rw [four] at z1 z2
      have e2 : α + α + 2 = 2 * α + 2 := by omega
      rw [e2] at z2
      have ih := stepped_size C (v := (clear r v (piv r)).2) e.2.2.2 (c2.trans e.1) hp2 g3 hB2' (fun i => (z1.1 i trivial).2) (fun i hi => (z2.1 i hi).2)
      exact ⟨⟨e.1 ▸ e.2.2.1, .inr ⟨h, z1.2 (fun _ => trivial) (Nat.le_refl _) (Nat.le_refl _), ih.1⟩⟩, List.forall_mem_cons.mpr ⟨fun i => Nat.le_trans (z1.1 i trivial).1 (p2le top), ih.2⟩⟩
theorem tidy_pivs {n : Nat} : ∀ {c : Nat} {B : List Vec}, Ech n c B → ∀ s ∈ tidy B, ∃ r ∈ B, (itm s (piv s)).natAbs = (itm r (piv r)).natAbs
  | c, [], _ => fun s h => nomatch h
  | c, r :: rs, e => by
    have et := tidy_ech e
    have ih := tidy_pivs e.2.2.2
    have lp : (posV r).length = n := (posV_length r).trans e.1
    have pp := posV_piv r (e.1 ▸ e.2.2.1)
    have h' := tidy_ech e.2.2.2
    have lo := redV_low h' lp
    have pe : piv (redV (tidy rs) (posV r)) = piv r := piv_eq (fun i hi => by rw [lo i (by omega), ← Int.natAbs_eq_zero, posV_abs, (piv_spec r).1 i hi]; rfl) (by
      rw [lo _ (by omega)]
      intro q
      have := posV_abs r (piv r)
      rw [q] at this
      exact e.ne List.mem_cons_self (by omega))
    unfold tidy
    intro s hs
    rcases List.mem_cons.mp hs with z | hs
    · refine ⟨r, List.mem_cons_self, ?_⟩
      rw [z, pe, lo _ (by omega), posV_abs]
    · obtain ⟨t, ht, q⟩ := ih s hs
      exact ⟨t, List.mem_cons_of_mem _ ht, q⟩
def tb : Nat → Nat → Nat
  | 0, τ => τ
  | k + 1, τ => tb k τ + τ + k * (tb k τ + 1)
theorem tidy_size {n π τ : Nat} (hπ : π < 9000) : ∀ {c : Nat} {B : List Vec}, Ech n c B → (∀ s ∈ B, (itm s (piv s)).natAbs ≤ 2 ^ π) → (∀ s ∈ B, ∀ i, (itm s i).natAbs ≤ 2 ^ τ) → tb B.length τ + 4 ≤ 134217728 →
    OkTidy B ∧ ∀ s ∈ tidy B, ∀ i, (itm s i).natAbs ≤ 2 ^ tb B.length τ
  | c, [], _, _, _, _ => ⟨trivial, fun s h => nomatch h⟩
  | c, r :: rs, e, hp, hB, g => by
    obtain ⟨hp1, hp2⟩ := List.forall_mem_cons.mp hp
    obtain ⟨hB1, hB2⟩ := List.forall_mem_cons.mp hB
    have g' : tb rs.length τ + τ + rs.length * (tb rs.length τ + 1) + 4 ≤ 134217728 := g
    have ih := tidy_size hπ e.2.2.2 hp2 hB2 (by omega)
    have h' := tidy_ech e.2.2.2
    have lp : (posV r).length = n := (posV_length r).trans e.1
    have cnt : (tidy rs).length = rs.length := tidy_count
    have rz := redV_size hπ (v := posV r) (ξ := τ) h' lp (fun s hs => by
      obtain ⟨t, ht, q⟩ := tidy_pivs e.2.2.2 s hs
      rw [q]; exact hp2 t ht) ih.2 (fun i => by rw [posV_abs]; exact hB1 i) (by rw [cnt]; omega)
    rw [cnt] at rz
    have top : τ + rs.length * (tb rs.length τ + 1) ≤ tb (r :: rs).length τ := by
      show _ ≤ tb rs.length τ + τ + rs.length * (tb rs.length τ + 1)
      omega
    have top2 : tb rs.length τ ≤ tb (r :: rs).length τ := by
      show _ ≤ tb rs.length τ + τ + rs.length * (tb rs.length τ + 1)
      omega
    refine ⟨⟨ih.1, ⟨e.1 ▸ e.2.2.1, fun m hm => ?_⟩, rz.1⟩, ?_⟩
    · obtain ⟨i, rfl⟩ := mem_itm hm
      exact mul_ok (α := 1) (β := τ) (by decide) (hB1 i) (by omega)
    · unfold tidy
      exact List.forall_mem_cons.mpr ⟨fun i => Nat.le_trans (rz.2 i) (p2le top), fun s hs i => Nat.le_trans (ih.2 s hs i) (p2le top2)⟩
/-! ## all along the vectors -/
def gb : Nat → Nat
  | 0 => 0
  | j + 1 => 6 + j * (gb j + 1)
structure Inv (n j : Nat) (B : List Vec) : Prop where
  ech : Ech n 0 B
  count : B.length ≤ j
  redd : Redd B
  ghost : ∃ G, Ech n 0 G ∧ G.length ≤ j ∧ (∀ g ∈ G, In B (itm g)) ∧ (∀ s ∈ B, RIn G (itm s)) ∧ ∀ g ∈ G, ∀ i, (itm g i).natAbs ≤ 2 ^ gb j
theorem Inv.piv {n j : Nat} {B : List Vec} (I : Inv n j B) : ∀ s ∈ B, (itm s (piv s)).natAbs ≤ 2 ^ gb j := by
  obtain ⟨G, eG, _, h1, h2, h3⟩ := I.ghost
  intro s hs
  obtain ⟨g, hg, _, q⟩ := piv_bound I.ech eG h1 h2 s hs
  exact Nat.le_trans q (h3 g hg _)
theorem Inv.all {n j : Nat} {B : List Vec} (I : Inv n j B) : ∀ s ∈ B, ∀ i, (itm s i).natAbs ≤ 2 ^ (gb j + j * (gb j + 2)) := by
  have hp := I.piv
  obtain ⟨G, eG, c, h1, h2, h3⟩ := I.ghost
  intro s hs i
  have sn := I.ech
  have q := all_bound (b := 2 ^ gb j) (A := 2 ^ gb j) (Nat.two_pow_pos _) eG h3 (h2 s hs) (fun g hg => ?_) i
  · refine Nat.le_trans q ?_
    have e1 : 4 * 2 ^ gb j = 2 ^ (gb j + 2) := by rw [Nat.pow_add, Nat.mul_comm]
    rw [e1, ← Nat.pow_mul, ← Nat.pow_add]
    refine p2le ?_
    have := Nat.mul_le_mul_left (gb j + 2) c
    rw [Nat.mul_comm (gb j + 2) j] at this
    omega
  · -- the ghost's pivot is a pivot of the basis
    have gn := eG.ne hg
    rcases lead I.ech (h1 g hg) with z | ⟨t, ht, a, ha, z, y⟩
    · exact absurd (z _) gn
    · have tn := I.ech.ne ht
      have e' : Lat.piv t = Lat.piv g := by
        rcases Nat.lt_trichotomy (Lat.piv t) (Lat.piv g) with l | l | l
        · rw [(piv_spec g).1 _ l] at y
          exact absurd y.symm (Int.mul_ne_zero ha tn)
        · exact l
        · exact absurd (z _ l) gn
      rw [← e']
      exact Nat.le_trans (I.redd t ht s hs) (hp t ht)
theorem gb_le : ∀ j, j ≤ 4 → gb j ≤ 111 ∧ gb j ≤ gb (j + 1) ∧ gb (j + 1) ≤ 454 := by decide
theorem eb_le : ∀ j, j ≤ 4 → gb j + j * (gb j + 2) ≤ 563 := by decide
theorem gd_le : ∀ k, k ≤ 4 → gd k 111 2262 ∧ fxb k 111 2262 ≤ 6000 ∧ tb (k + 1) 6000 + 4 ≤ 134217728 := by
  intro k hk
  have : k = 0 ∨ k = 1 ∨ k = 2 ∨ k = 3 ∨ k = 4 := by omega
  rcases this with e | e | e | e | e <;> subst e <;> simp [gd, fxb, tb]
theorem tb_mono {τ : Nat} : ∀ k, tb k τ ≤ tb (k + 1) τ := fun k => by
  show _ ≤ tb k τ + τ + k * (tb k τ + 1)
  omega
theorem grow_inv {n j : Nat} {B : List Vec} {v : Vec} (I : Inv n j B) (hj : j ≤ 4) (l : v.length = n) (hv : ∀ i, (itm v i).natAbs ≤ 2 ^ 6) : OkGrow B v ∧ Inv n (j + 1) (grow B v) := by
  have hp := I.piv
  have hall := I.all
  obtain ⟨b1, b2, b3⟩ := gb_le j hj
  have b4 := eb_le j hj
  have hB6 : ∀ s ∈ B, ∀ i, (itm s i).natAbs ≤ 2 ^ 563 := fun s hs i => Nat.le_trans (hall s hs i) (p2le b4)
  have hp6 : ∀ s ∈ B, (itm s (piv s)).natAbs ≤ 2 ^ 111 := fun s hs => Nat.le_trans (hp s hs) (p2le b1)
  have cB : B.length ≤ 4 := Nat.le_trans I.count hj
  have hm : B.length * 564 ≤ 4 * 564 := Nat.mul_le_mul_right _ cB
  have rz := redV_size (π := 111) (β := 563) (by decide) I.ech l hp6 hB6 hv (by omega)
  have ru : ∀ i, (itm (redV B v) i).natAbs ≤ 2 ^ 2262 := fun i => Nat.le_trans (rz.2 i) (p2le (by omega))
  have hlen : ∀ r ∈ B, r.length = v.length := fun r hr => ((I.ech.row r hr).1).trans l.symm
  have lu := redV_len B v hlen
  have hlen' : ∀ r ∈ B, r.length = (redV B v).length := fun r hr => (hlen r hr).trans lu.symm
  obtain ⟨gdk, fk, tk⟩ := gd_le B.length cB
  have st := stepped_size (n := n) (fun i => ∃ s ∈ B, i = piv s) (v := redV B v) I.ech (lu.trans l) (fun s hs => ⟨s, hs, rfl⟩) gdk
    (fun s hs => ⟨fun i => Nat.le_trans (hB6 s hs i) (p2le (by decide)), fun i ⟨t, ht, e⟩ => e ▸ Nat.le_trans (I.redd t ht s hs) (hp6 t ht)⟩) ru
    (fun i ⟨t, ht, e⟩ => e ▸ Nat.le_trans (Nat.le_of_lt (redV_small I.ech l t ht)) (hp6 t ht))
  have es : Ech n 0 (stepped B (redV B v)) := stepped_ech I.ech (lu.trans l) (Nat.zero_le _) fun i hi => absurd hi (Nat.not_lt_zero _)
  have cs : (stepped B (redV B v)).length ≤ B.length + 1 := stepped_count
  -- the ghosts
  obtain ⟨G, eG, cG, h1, h2, h3⟩ := I.ghost
  have eG' : Ech n 0 (insG G v) := insG_ech eG l (Nat.zero_le _) fun i hi => absurd hi (Nat.not_lt_zero _)
  have cG' : (insG G v).length ≤ j + 1 := Nat.le_trans insG_count (Nat.succ_le_succ cG)
  have sG' : ∀ g ∈ insG G v, ∀ i, (itm g i).natAbs ≤ 2 ^ gb (j + 1) := by
    refine insG_size (b := 2 ^ gb j) (x := 2 ^ 6) (Nat.two_pow_pos _) eG l h3 hv (p2le b2) ?_
    have e1 : 2 * 2 ^ gb j = 2 ^ (gb j + 1) := by rw [Nat.pow_succ, Nat.mul_comm]
    rw [e1, ← Nat.pow_mul, ← Nat.pow_add]
    refine p2le ?_
    show _ ≤ 6 + j * (gb j + 1)
    have := Nat.mul_le_mul_left (gb j + 1) cG
    rw [Nat.mul_comm (gb j + 1) j] at this
    omega
  have rB : ∀ s ∈ B, RIn (insG G v) (itm s) := fun s hs => by
    obtain ⟨D, hD, h⟩ := h2 s hs
    exact ⟨D, hD, In.sub (In.cl _) (fun g hg => insG_old g hg) h⟩
  have rv : RIn (insG G v) (itm v) := insG_new eG l
  have mk : ∀ B' : List Vec, (∀ S, Cl S → ((∀ r ∈ B', S (itm r)) ↔ ((∀ r ∈ B, S (itm r)) ∧ S (itm v)))) → (∀ g ∈ insG G v, In B' (itm g)) ∧ ∀ s ∈ B', RIn (insG G v) (itm s) := by
    intro B' h
    obtain ⟨q1, q2⟩ := (h (In B') (In.cl B')).mp fun r hr => In.mem _ _ hr
    exact ⟨insG_cl (In.cl B') eG l (fun g hg => In.sub (In.cl B') q1 (h1 g hg)) q2, (h (RIn (insG G v)) (RIn.cl _)).mpr ⟨rB, rv⟩⟩
  have rc : ∀ {S : (Nat → Int) → Prop}, Cl S → (∀ r ∈ B, S (itm r)) → (S (itm (redV B v)) ↔ S (itm v)) := fun C => redV_cl C B v hlen
  have ss := mk (stepped B (redV B v)) fun S C => by
    rw [stepped_cl C hlen']
    exact ⟨fun q => ⟨q.1, (rc C q.1).mp q.2⟩, fun q => ⟨q.1, (rc C q.1).mpr q.2⟩⟩
  have sg := mk (grow B v) fun S C => grow_cl C hlen
  have ps : ∀ s ∈ stepped B (redV B v), (itm s (piv s)).natAbs ≤ 2 ^ 454 := fun s hs => by
    obtain ⟨g, hg, _, q⟩ := piv_bound es eG' ss.1 ss.2 s hs
    exact Nat.le_trans q (Nat.le_trans (sG' g hg _) (p2le b3))
  have td := tidy_size (π := 454) (τ := 6000) (by decide) es ps (fun s hs i => Nat.le_trans (st.2 s hs i) (p2le fk)) (by
    rcases Nat.lt_or_ge (stepped B (redV B v)).length (B.length + 1) with q | q
    · have q1 : ∀ m k : Nat, m ≤ k → tb m 6000 ≤ tb k 6000 := fun m k h => by
        induction h with
        | refl => exact Nat.le_refl _
        | step _ ih => exact Nat.le_trans ih (tb_mono _)
      have := q1 _ _ (Nat.le_of_lt q)
      omega
    · rw [Nat.le_antisymm cs q]; exact tk)
  refine ⟨⟨rz.1, .inr ⟨st.1, td.1, by omega⟩⟩, ?_⟩
  refine ⟨?_, ?_, ?_, insG G v, eG', cG', sg.1, sg.2, sG'⟩
  · unfold grow
    split
    · exact I.ech
    · exact tidy_ech es
  · unfold grow
    split
    · exact Nat.le_succ_of_le I.count
    · rw [tidy_count]; have := I.count; omega
  · unfold grow
    split
    · exact I.redd
    · exact tidy_redd es
theorem inv0 (n : Nat) : Inv n 0 [] := ⟨trivial, Nat.le_refl _, fun s h => (nomatch h), [], trivial, Nat.le_refl _, fun g h => (nomatch h), fun g h => (nomatch h), fun g h => (nomatch h)⟩
theorem grows_inv {n : Nat} : ∀ (rs : List Vec) (j : Nat) (B : List Vec), Inv n j B → j + rs.length ≤ 5 → (∀ r ∈ rs, r.length = n ∧ Within 44 r) → OkGrows B rs ∧ Inv n (j + rs.length) (grows B rs)
  | [], j, B, I, _, _ => ⟨trivial, I⟩
  | v :: vs, j, B, I, hj, h => by
    rw [List.length_cons] at hj ⊢
    obtain ⟨⟨l, w⟩, h2⟩ := List.forall_mem_cons.mp h
    have hv : ∀ i, (itm v i).natAbs ≤ 2 ^ 6 := fun i => by
      by_cases hi : i < v.length
      · have hm : itm v i ∈ v := List.mem_of_getElem? (itm_of hi)
        have := w _ hm
        show _ ≤ 64
        omega
      · rw [itm_out (by omega)]; exact Nat.zero_le _
    obtain ⟨g1, g2⟩ := grow_inv I (by omega) l hv
    have ih := grows_inv vs (j + 1) (grow B v) g2 (by omega) h2
    refine ⟨⟨g1, ?_, ih.1⟩, ?_⟩
    · have := I.count; omega
    · have e : j + (vs.length + 1) = j + 1 + vs.length := by omega
      rw [e]; exact ih.2
theorem math_ok (n : Nat) (rs : List Vec) (h : rs.length ≤ 5) (hr : ∀ r ∈ rs, r.length = n ∧ Within 44 r) : OkGrows [] rs := (grows_inv rs 0 [] (inv0 n) (by omega) hr).1
theorem math_mul (n : Nat) (rs : List Vec) (h : rs.length ≤ 5) (hr : ∀ r ∈ rs, r.length = n ∧ Within 44 r) : ∀ r ∈ grows [] rs, ∀ x ∈ r, ∀ m : Int, -1000000000 ≤ m → m ≤ 1000000000 → CMulX x m := by
  have I := (grows_inv rs 0 [] (inv0 n) (by omega) hr).2
  rw [Nat.zero_add] at I
  intro r hr' x hx m m1 m2
  obtain ⟨i, rfl⟩ := mem_itm hx
  have e : gb rs.length + rs.length * (gb rs.length + 2) ≤ 3000 := by
    have : ∀ k, k ≤ 5 → gb k + k * (gb k + 2) ≤ 3000 := by decide
    exact this _ h
  refine mul_ok (β := 30) (I.all r hr' i) ?_ (by omega)
  have : (2 : Nat) ^ 30 = 1073741824 := by decide
  rw [this]; omega
end K06

namespace K06
open PySem L2 RZ Lat
/-! ## the sizes of the law's own table -/
theorem bits_neg (i : Int) : Builtin.Int.intBits (-i) = Builtin.Int.intBits i := by
  unfold Builtin.Int.intBits
  by_cases h : i = 0
  · subst h; rfl
  · rw [if_neg (by simpa using h), if_neg (by simpa using h), Int.natAbs_neg]
theorem mul_neg {i j : Int} (h : CMulX (-i) j) : CMulX i j := by
  unfold CMulX at h ⊢
  rw [bits_neg] at h; exact h
theorem noPylong_num {x y : Int} (h : x.natAbs.log2 < 9000) : Builtin.divisionGoesByPylong x y = false := by
  have key : (if x == 0 then 0 else x.natAbs.log2 / 30 + 1) ≤ 300 := by
    by_cases hy : (x == 0) = true
    · rw [if_pos hy]; exact Nat.zero_le _
    · rw [if_neg hy]; omega
  show (decide ((if y == 0 then 0 else y.natAbs.log2 / 30 + 1) > 300) && decide ((if x == 0 then 0 else x.natAbs.log2 / 30 + 1) > (if y == 0 then 0 else y.natAbs.log2 / 30 + 1) + 150)) = false
  by_cases hA : (if y == 0 then 0 else y.natAbs.log2 / 30 + 1) > 300
  · rw [decide_eq_false (show ¬ (if x == 0 then 0 else x.natAbs.log2 / 30 + 1) > (if y == 0 then 0 else y.natAbs.log2 / 30 + 1) + 150 by omega), Bool.and_false]
  · rw [decide_eq_false hA, Bool.false_and]
theorem noPylong_near {x y : Int} (h0 : y ≠ 0) (h : x.natAbs ≤ 2 * y.natAbs) : Builtin.divisionGoesByPylong x y = false := by
  have y0 : y.natAbs ≠ 0 := Int.natAbs_ne_zero.mpr h0
  have key : (if x == 0 then 0 else x.natAbs.log2 / 30 + 1) ≤ (y.natAbs.log2 + 1) / 30 + 1 := by
    by_cases hx : (x == 0) = true
    · rw [if_pos hx]; exact Nat.zero_le _
    · rw [if_neg hx]
      have x0 : x.natAbs ≠ 0 := Int.natAbs_ne_zero.mpr (by simpa using hx)
      have h1 : y.natAbs < 2 ^ (y.natAbs.log2 + 1) := (Nat.log2_lt y0).mp (Nat.lt_succ_self _)
      have h2 : x.natAbs.log2 < y.natAbs.log2 + 2 := (Nat.log2_lt x0).mpr (by rw [Nat.pow_succ]; omega)
      have : x.natAbs.log2 / 30 ≤ (y.natAbs.log2 + 1) / 30 := Nat.div_le_div_right (by omega)
      omega
  show (decide ((if y == 0 then 0 else y.natAbs.log2 / 30 + 1) > 300) && decide ((if x == 0 then 0 else x.natAbs.log2 / 30 + 1) > (if y == 0 then 0 else y.natAbs.log2 / 30 + 1) + 150)) = false
  have e : (if y == 0 then 0 else y.natAbs.log2 / 30 + 1) = y.natAbs.log2 / 30 + 1 := if_neg (by simpa using h0)
  rw [e, decide_eq_false (show ¬ (if x == 0 then 0 else x.natAbs.log2 / 30 + 1) > y.natAbs.log2 / 30 + 1 + 150 by omega), Bool.and_false]
def JJ (L : Nat) (x y : Int) : Prop := x.natAbs ≤ L ∨ y.natAbs ≤ L ∨ (((0 ≤ x ∧ 0 ≤ y) ∨ (x ≤ 0 ∧ y ≤ 0)) ∧ y.natAbs ≤ x.natAbs ∧ x.natAbs ≤ y.natAbs + L)
theorem quot_small {x y : Int} (hy : y ≠ 0) (h : x.natAbs < 2 * y.natAbs) : x.fdiv y = -2 ∨ x.fdiv y = -1 ∨ x.fdiv y = 0 ∨ x.fdiv y = 1 ∨ x.fdiv y = 2 := by
  have sm := fdiv_small x y hy
  generalize x.fdiv y = q at sm ⊢
  have h1 : (q * y).natAbs < 3 * y.natAbs := by
    have e : q * y = x - (x + -q * y) := by grind
    rw [e]; omega
  rw [Int.natAbs_mul] at h1
  have h2 : q.natAbs < 3 := Nat.lt_of_mul_lt_mul_right h1
  omega
theorem JJ.step {L : Nat} {x y : Int} (hy : y ≠ 0) (h : JJ L x y) : JJ L y (x + -(x.fdiv y) * y) := by
  by_cases h1 : y.natAbs ≤ L
  · exact .inl h1
  · have sm := fdiv_small x y hy
    have sg := sign_rem x y hy
    have hx : x.natAbs < 2 * y.natAbs := by
      rcases h with h | h | h <;> omega
    have q5 := quot_small hy hx
    unfold JJ at h ⊢
    generalize x.fdiv y = q at sm sg q5 ⊢
    rcases q5 with e | e | e | e | e <;> subst e <;> omega
theorem JJ.div {π : Nat} (hπ : π < 9000) {x y : Int} (hy : y ≠ 0) (h : JJ (2 ^ π) x y) : CDivZ x y := by
  refine ⟨hy, ?_⟩
  rcases h with h | h | h
  · refine noPylong_num ?_
    by_cases h0 : x.natAbs = 0
    · rw [h0]; decide
    · exact log_lt h0 h hπ
  · exact PyProof.noPylong_of_log2 (log_lt (Int.natAbs_ne_zero.mpr hy) h hπ)
  · by_cases h1 : y.natAbs ≤ 2 ^ π
    · exact PyProof.noPylong_of_log2 (log_lt (Int.natAbs_ne_zero.mpr hy) h1 hπ)
    · exact noPylong_near hy (by omega)
theorem clr_sizeJ {n π α χ : Nat} (hπ : π < 9000) (hχ : α + χ + 2 ≤ 134217728) : ∀ (m : Nat) (r v : Vec) (i : Nat) (Mr Mv X : Nat), r.length = n → v.length = n → itm r i ≠ 0 → ((0 ≤ itm r i ∧ 0 ≤ itm v i) ∨ (itm r i ≤ 0 ∧ itm v i ≤ 0)) → JJ (2 ^ π) (itm r i) (itm v i) →
    (∀ j, (itm r j).natAbs ≤ Mr ∧ (itm v j).natAbs ≤ Mv) → Mr ≤ X → Mv * (itm r i).natAbs + Mr * (itm v i).natAbs ≤ X → (itm v i).natAbs ≤ m → X ≤ 2 ^ χ → (itm r i).natAbs ≤ 2 ^ α → (itm v i).natAbs ≤ 2 ^ α → OkClr m r v i
  | 0, r, v, i, Mr, Mv, X, lr, lv, h0, hs, hJ, hC, hX, hN, hm, _, _, _ => by show itm v i = 0; omega
  | m + 1, r, v, i, Mr, Mv, X, lr, lv, h0, hs, hJ, hC, hX, hN, hm, hXχ, hr, hvα => by
    have h1 : Mv ≤ Mv * (itm r i).natAbs := Nat.le_mul_of_pos_right _ (Int.natAbs_pos.mpr h0)
    by_cases hv : itm v i = 0
    · exact .inl hv
    · have l := lr.trans lv.symm
      have ei := itm_add (t := -((itm r i).fdiv (itm v i))) l i
      have q1 := euc (itm r i) (itm v i) hv hs
      have q2 := sign_rem (itm r i) (itm v i) hv
      have q3 := fdiv_small (itm r i) (itm v i) hv
      have q4 := hJ.step hv
      rw [← ei] at q1 q2 q3 q4
      have key : (Mr + ((itm r i).fdiv (itm v i)).natAbs * Mv) * (itm v i).natAbs + Mv * (itm (addV r (-((itm r i).fdiv (itm v i))) v) i).natAbs ≤ X := by
        have : (Mr + ((itm r i).fdiv (itm v i)).natAbs * Mv) * (itm v i).natAbs + Mv * (itm (addV r (-((itm r i).fdiv (itm v i))) v) i).natAbs = Mr * (itm v i).natAbs + Mv * (((itm r i).fdiv (itm v i)).natAbs * (itm v i).natAbs + (itm (addV r (-((itm r i).fdiv (itm v i))) v) i).natAbs) := by grind
        rw [this, q1]; omega
      refine .inr ⟨hJ.div hπ hv, fun x hx => ?_, clr_sizeJ hπ hχ m v (addV r (-((itm r i).fdiv (itm v i))) v) i Mv (Mr + ((itm r i).fdiv (itm v i)).natAbs * Mv) X lv ((addV_len l).trans lr) hv q2 q4 (fun j => ⟨(hC j).2, by rw [itm_add l]; exact step_abs (hC j).1 (hC j).2⟩) (by omega) key (by omega) hXχ hvα (by omega)⟩
      obtain ⟨j, rfl⟩ := mem_itm hx
      exact mul_ok (α := α) (β := χ) (by rw [Int.natAbs_neg]; exact Nat.le_trans (fdiv_abs _ _ hv) hr) (Nat.le_trans (hC j).2 (by omega)) hχ
theorem clear_sizeJ {n π α χ : Nat} (hπ : π < 9000) (hχ : α + χ + 2 ≤ 134217728) (r v : Vec) (i : Nat) (M a : Nat) (lr : r.length = n) (lv : v.length = n) (h0 : itm r i ≠ 0) (hp : (itm r i).natAbs ≤ 2 ^ π) (a1 : 1 ≤ a) (ha : (itm r i).natAbs ≤ a) (hav : (itm v i).natAbs ≤ a)
    (hC : ∀ j, (itm r j).natAbs ≤ M ∧ (itm v j).natAbs ≤ M) (hMχ : 4 * M * a ≤ 2 ^ χ) (haα : a ≤ 2 ^ α) : OkClr (itm v i).natAbs r v i := by
  have hM : M ≤ 4 * M * a := by
    have : 4 * M ≤ 4 * M * a := Nat.le_mul_of_pos_right _ a1
    omega
  by_cases hv : itm v i = 0
  · have e : (itm v i).natAbs = 0 := by rw [hv]; rfl
    rw [e]
    exact hv
  · obtain ⟨m, em⟩ : ∃ m, (itm v i).natAbs = m + 1 := ⟨(itm v i).natAbs - 1, by omega⟩
    rw [em]
    have l := lr.trans lv.symm
    have ei := itm_add (t := -((itm r i).fdiv (itm v i))) l i
    have q1 := euc_any (itm r i) (itm v i)
    have q2 := sign_rem (itm r i) (itm v i) hv
    have q3 := fdiv_small (itm r i) (itm v i) hv
    have hJ : JJ (2 ^ π) (itm r i) (itm v i) := .inl hp
    have q4 := hJ.step hv
    rw [← ei] at q1 q2 q3 q4
    have key : (M + ((itm r i).fdiv (itm v i)).natAbs * M) * (itm v i).natAbs + M * (itm (addV r (-((itm r i).fdiv (itm v i))) v) i).natAbs ≤ 4 * M * a := by
      have e1 : (M + ((itm r i).fdiv (itm v i)).natAbs * M) * (itm v i).natAbs + M * (itm (addV r (-((itm r i).fdiv (itm v i))) v) i).natAbs = M * ((itm v i).natAbs + ((itm r i).fdiv (itm v i)).natAbs * (itm v i).natAbs + (itm (addV r (-((itm r i).fdiv (itm v i))) v) i).natAbs) := by grind
      have e2 : 4 * M * a = M * (4 * a) := by grind
      rw [e1, e2]
      exact Nat.mul_le_mul_left _ (by omega)
    refine .inr ⟨hJ.div hπ hv, fun x hx => ?_, clr_sizeJ hπ hχ m v (addV r (-((itm r i).fdiv (itm v i))) v) i M (M + ((itm r i).fdiv (itm v i)).natAbs * M) (4 * M * a) lv ((addV_len l).trans lr) hv q2 q4 (fun j => ⟨(hC j).2, by rw [itm_add l]; exact step_abs (hC j).1 (hC j).2⟩) hM key (by omega) hMχ (by omega) (by omega)⟩
    obtain ⟨j, rfl⟩ := mem_itm hx
    exact mul_ok (α := α) (β := χ) (by rw [Int.natAbs_neg]; exact Nat.le_trans (fdiv_abs _ _ hv) (Nat.le_trans ha haα)) (Nat.le_trans (hC j).2 (by omega)) hχ
/-! ## the law's table, all along -/
def OkPut : Tab → Nat → Vec → Prop
  | [], _, _ => True
  | o :: os, p, v => (itm v p = 0 ∧ OkPut os (p + 1) v) ∨ (itm v p ≠ 0 ∧ match o with
    | none => True
    | some h => OkClr (itm v p).natAbs h v p ∧ OkPut os (p + 1) (clear h v p).2)
def OkPuts : Tab → List Vec → Prop
  | _, [] => True
  | t, v :: vs => OkPut t 0 v ∧ OkPuts (putL t 0 v) vs
def OkLeft : Tab → Nat → Vec → Prop
  | [], _, _ => True
  | none :: os, p, v => OkLeft os (p + 1) v
  | some h :: os, p, v => CDivZ (itm v p) (itm h p) ∧ (∀ m ∈ h, CMulX ((itm v p).fdiv (itm h p)) m) ∧ OkLeft os (p + 1) (addV v (-((itm v p).fdiv (itm h p))) h)
theorem okLeft_of {n : Nat} : ∀ {p : Nat} {t : Tab} {v : Vec}, EchT n p t → OkRed (rowsOf t) v → OkLeft t p v
  | _, [], _, _, _ => trivial
  | p, none :: os, v, h, ok => okLeft_of (t := os) h.2 ok
  | p, some r :: os, v, h, ok => by
    obtain ⟨a, b, c⟩ := h.1 r rfl
    obtain ⟨o1, o2, o3, o4⟩ : OkRed (r :: rowsOf os) v := ok
    rw [b] at o2 o3 o4
    exact ⟨o2, fun m hm => mul_neg (o3 m hm), okLeft_of (t := os) h.2 o4⟩
def dbl : Nat → Nat → Nat
  | 0, τ => τ
  | k + 1, τ => dbl k (2 * τ + 2)
theorem dbl_ge : ∀ (k τ : Nat), τ ≤ dbl k τ
  | 0, τ => Nat.le_refl _
  | k + 1, τ => Nat.le_trans (by omega) (dbl_ge k (2 * τ + 2))
theorem dbl_mono : ∀ (k τ : Nat), dbl k τ ≤ dbl (k + 1) τ
  | 0, τ => by show τ ≤ 2 * τ + 2; omega
  | k + 1, τ => dbl_mono k (2 * τ + 2)
theorem dbl_le {i j : Nat} (h : i ≤ j) (τ : Nat) : dbl i τ ≤ dbl j τ := by
  induction h with
  | refl => exact Nat.le_refl _
  | step _ ih => exact Nat.le_trans ih (dbl_mono _ _)
theorem putL_size {n π : Nat} (hπ : π < 9000) : ∀ {p : Nat} {t : Tab} {v : Vec} {τ : Nat}, EchT n p t → v.length = n → (∀ i, i < p → itm v i = 0) → (∀ s ∈ rowsOf t, (itm s (piv s)).natAbs ≤ 2 ^ π) → (∀ s ∈ rowsOf t, ∀ i, (itm s i).natAbs ≤ 2 ^ τ) → (∀ i, (itm v i).natAbs ≤ 2 ^ τ) → π ≤ τ →
    2 * dbl (rowsOf t).length τ + 4 ≤ 134217728 → OkPut t p v ∧ ∀ s ∈ rowsOf (putL t p v), ∀ i, (itm s i).natAbs ≤ 2 ^ dbl (rowsOf t).length τ
  | _, [], v, τ, _, _, _, _, _, _, _, _ => ⟨trivial, fun s h => nomatch h⟩
  | p, o :: os, v, τ, h, l, z, hp, hB, hv, hτ, hd => by
    by_cases e : itm v p = 0
    · have e2 : putL (o :: os) p v = o :: putL os (p + 1) v := by
        conv => lhs; unfold putL
        rw [if_pos e]
      rw [e2]
      cases o with
      | none =>
        have ih := putL_size hπ (t := os) h.2 l (zero_more z e) hp hB hv hτ hd
        exact ⟨.inl ⟨e, ih.1⟩, ih.2⟩
      | some r =>
        obtain ⟨hp1, hp2⟩ := List.forall_mem_cons.mp (show ∀ s ∈ r :: rowsOf os, _ from hp)
        obtain ⟨hB1, hB2⟩ := List.forall_mem_cons.mp (show ∀ s ∈ r :: rowsOf os, _ from hB)
        have dm := dbl_mono (rowsOf os).length τ
        have hd' : 2 * dbl ((rowsOf os).length + 1) τ + 4 ≤ 134217728 := hd
        have ih := putL_size hπ (t := os) h.2 l (zero_more z e) hp2 hB2 hv hτ (by omega)
        refine ⟨.inl ⟨e, ih.1⟩, ?_⟩
        show ∀ s ∈ r :: rowsOf (putL os (p + 1) v), ∀ i, (itm s i).natAbs ≤ 2 ^ dbl ((rowsOf os).length + 1) τ
        exact List.forall_mem_cons.mpr ⟨fun i => Nat.le_trans (hB1 i) (Lat.p2le (dbl_ge _ _)), fun s hs i => Nat.le_trans (ih.2 s hs i) (Lat.p2le dm)⟩
    · cases o with
      | none =>
        have e2 : putL (none :: os) p v = some (posAt v p) :: os := by
          conv => lhs; unfold putL
          rw [if_neg e]
        rw [e2]
        refine ⟨.inr ⟨e, trivial⟩, ?_⟩
        show ∀ s ∈ posAt v p :: rowsOf os, ∀ i, (itm s i).natAbs ≤ 2 ^ dbl (rowsOf os).length τ
        exact List.forall_mem_cons.mpr ⟨fun i => by rw [posAt_abs]; exact Nat.le_trans (hv i) (Lat.p2le (dbl_ge _ _)), fun s hs i => Nat.le_trans (hB s hs i) (Lat.p2le (dbl_ge _ _))⟩
      | some r =>
        obtain ⟨a, b, c⟩ := h.1 r rfl
        obtain ⟨q1, q2, q3, q4, q5⟩ := clear_at a l b c z
        have e2 : putL (some r :: os) p v = some (posAt (clear r v p).1 p) :: putL os (p + 1) (clear r v p).2 := by
          conv => lhs; unfold putL
          rw [if_neg e]
        rw [e2]
        obtain ⟨hp1, hp2⟩ := List.forall_mem_cons.mp (show ∀ s ∈ r :: rowsOf os, _ from hp)
        obtain ⟨hB1, hB2⟩ := List.forall_mem_cons.mp (show ∀ s ∈ r :: rowsOf os, _ from hB)
        rw [b] at hp1
        have hd' : 2 * dbl (rowsOf os).length (2 * τ + 2) + 4 ≤ 134217728 := hd
        have dg := dbl_ge (rowsOf os).length (2 * τ + 2)
        have e3 : 4 * 2 ^ τ * 2 ^ τ = 2 ^ (2 * τ + 2) := by rw [show 2 * τ + 2 = 2 + τ + τ by omega, Nat.pow_add, Nat.pow_add]
        have cz := clear_size (n := n) (α := 1) (χ := 1) (by decide) (by decide) r v p (fun _ => True) (2 ^ τ) (2 ^ τ) a l (by omega) (Nat.two_pow_pos _) (hB1 p) (hv p) fun j _ => ⟨hB1 j, hv j⟩
        rw [e3] at cz
        have ok := clear_sizeJ (n := n) (π := π) (α := τ) (χ := 2 * τ + 2) hπ (by omega) r v p (2 ^ τ) (2 ^ τ) a l (by omega) hp1 (Nat.two_pow_pos _) (hB1 p) (hv p) (fun j => ⟨hB1 j, hv j⟩) (Nat.le_of_eq e3) (Nat.le_refl _)
        have ih := putL_size hπ (t := os) (v := (clear r v p).2) (τ := 2 * τ + 2) h.2 q2 q5 hp2 (fun s hs i => Nat.le_trans (hB2 s hs i) (Lat.p2le (by omega))) (fun i => (cz.1 i trivial).2) (by omega) hd'
        refine ⟨.inr ⟨e, ok, ih.1⟩, ?_⟩
        show ∀ s ∈ posAt (clear r v p).1 p :: rowsOf (putL os (p + 1) (clear r v p).2), ∀ i, (itm s i).natAbs ≤ 2 ^ dbl (rowsOf os).length (2 * τ + 2)
        exact List.forall_mem_cons.mpr ⟨fun i => by rw [posAt_abs]; exact Nat.le_trans (cz.1 i trivial).1 (Lat.p2le dg), ih.2⟩
theorem putL_count : ∀ {t : Tab} {p : Nat} {v : Vec}, (rowsOf (putL t p v)).length ≤ (rowsOf t).length + 1
  | [], _, _ => Nat.zero_le _
  | o :: os, p, v => by
    unfold putL
    split
    · cases o with
      | none => exact putL_count (t := os)
      | some r => exact Nat.succ_le_succ (putL_count (t := os))
    · cases o with
      | none => exact Nat.le_refl _
      | some r => exact Nat.succ_le_succ (putL_count (t := os))
def sb : Nat → Nat
  | 0 => 500
  | j + 1 => dbl j (sb j)
structure InvT (n j : Nat) (t : Tab) : Prop where
  ech : EchT n 0 t
  gh : Gh 6 n (rowsOf t)
  count : (rowsOf t).length ≤ j
  size : ∀ s ∈ rowsOf t, ∀ i, (itm s i).natAbs ≤ 2 ^ sb j
theorem sb_le : ∀ j, j ≤ 4 → 500 ≤ sb j ∧ dbl j (sb j) ≤ 600000 := by
  intro j hj
  have : j = 0 ∨ j = 1 ∨ j = 2 ∨ j = 3 ∨ j = 4 := by omega
  rcases this with e | e | e | e | e <;> subst e <;> simp [sb, dbl]
theorem gbx_five : gbx 6 5 ≤ 454 := by decide
theorem put_inv {n j : Nat} {t : Tab} {v : Vec} (I : InvT n j t) (hj : j ≤ 4) (n5 : n ≤ 5) (l : v.length = n) (hv : ∀ i, (itm v i).natAbs ≤ 2 ^ 6) : OkPut t 0 v ∧ InvT n (j + 1) (putL t 0 v) := by
  have z : ∀ i, i < 0 → itm v i = 0 := fun i hi => absurd hi (Nat.not_lt_zero _)
  obtain ⟨s1, s2⟩ := sb_le j hj
  have pv : ∀ s ∈ rowsOf t, (itm s (piv s)).natAbs ≤ 2 ^ 454 := fun s hs => Nat.le_trans (I.gh.piv s hs) (Lat.p2le (Nat.le_trans (gbx_le n5) gbx_five))
  have dm := dbl_le I.count (sb j)
  have sz := putL_size (π := 454) (τ := sb j) (by decide) I.ech l z pv I.size (fun i => Nat.le_trans (hv i) (Lat.p2le (by omega))) (by omega) (by omega)
  have et := putL_tab I.ech l z
  refine ⟨sz.1, et, I.gh.step (by decide) et.ech l hv fun S C => putL_cl C I.ech l z, Nat.le_trans putL_count (Nat.succ_le_succ I.count), fun s hs i => Nat.le_trans (sz.2 s hs i) (Lat.p2le dm)⟩
theorem within6 {v : Vec} (w : Within 44 v) : ∀ i, (itm v i).natAbs ≤ 2 ^ 6 := fun i => by
  by_cases hi : i < v.length
  · have hm : itm v i ∈ v := List.mem_of_getElem? (itm_of hi)
    have := w _ hm
    show _ ≤ 64
    omega
  · rw [itm_out (by omega)]; exact Nat.zero_le _
theorem puts_inv {n : Nat} (n5 : n ≤ 5) : ∀ (rs : List Vec) (j : Nat) (t : Tab), InvT n j t → j + rs.length ≤ 5 → (∀ r ∈ rs, r.length = n ∧ Within 44 r) → OkPuts t rs ∧ InvT n (j + rs.length) (putsL t rs)
  | [], j, t, I, _, _ => ⟨trivial, I⟩
  | v :: vs, j, t, I, hj, h => by
    rw [List.length_cons] at hj ⊢
    obtain ⟨⟨l, w⟩, h2⟩ := List.forall_mem_cons.mp h
    obtain ⟨g1, g2⟩ := put_inv I (by omega) n5 l (within6 w)
    have ih := puts_inv n5 vs (j + 1) (putL t 0 v) g2 (by omega) h2
    refine ⟨⟨g1, ih.1⟩, ?_⟩
    have e : j + (vs.length + 1) = j + 1 + vs.length := by omega
    rw [e]; exact ih.2
def tab0 (n : Nat) : Tab := List.replicate n none
theorem invT0 (n : Nat) : InvT n 0 (tab0 n) := ⟨EchT.empty n n 0 (by omega), by unfold tab0; rw [rows_empty]; exact Gh.nil 6 n, by unfold tab0; rw [rows_empty]; exact Nat.le_refl _, by unfold tab0; rw [rows_empty]; exact fun s h => nomatch h⟩
end K06

namespace K06
open PySem L2 RZ Lat
section
variable {P : Program} {w : World} {K : PySem.W.Frag} {mg : Str → Option Value} {base : Heap}
abbrev s_Lattice_reduced : Stmt := inClass (top 25) 2
abbrev n_Lattice_reduced : List Str := ["self", "vector"]
theorem sc_Lattice_reduced : FnScope n_Lattice_reduced ["self", "vector"] (defScope s_Lattice_reduced) := ⟨rfl, rfl, rfl, by decide +kernel, rfl, by decide +kernel, by decide +kernel⟩
def spRedM (C : Addr) : Sp := fun vs H Q _ => ∃ (x p : Addr) (v : Vec) (rs : List Vec), vs = [.ref x, .ref p] ∧ LatAt C H x v.length rs ∧ IsV H p v ∧ v.length ≤ 1000 ∧ OkRed rs v ∧ ∀ (H' : Hp) (q : Addr), Same H H' → IsV H' q (redV rs v) → (redV rs v).length = v.length → Q (.ref q) H'
theorem ok_redM {C fI : Addr} {fd : FuncData} (CL : ClsL K mg C) (g_reduced_by : Has P w K mg base 2 "reduced_by" ["basis", "vector"] spReduced) (F : Fun K "reduced" "Lattice.reduced" s_Lattice_reduced fI fd) : FnOk P w K mg base CX0 3 fI fd ["self", "vector"] (spRedM C) := by
  refine F.ok sc_Lattice_reduced (fun vs H Q E h => ?_) (fun cdv A outer s H vs Q E hr h => ?_)
  · obtain ⟨x, p, v, rs, rfl, _⟩ := h
    rfl
  · obtain ⟨x, p, v, rs, rfl, ⟨dx, b, os, hx, hb, hrs⟩, hp, lv, ok, k⟩ := h
    refine ⟨_, (pss_one (ps_ret (pe_callHas g_reduced_by (hr.mono (by decide)) rfl (pa_cons (pe_fld (pv 0) rfl) (pa_cons (pv 1) pa_nil))))), ?_⟩
    exact ⟨_, rfl, x, C, dx, _, _, rfl, hx, CL.cl, CL.nB, lf_basis _ _, _, rfl, b, p, os, rs, v, rfl, .inl hb, hrs, hp, lv, ok, fun H' q s1 hq l1 => k H' q s1 hq l1⟩
theorem lf_width (n : Int) (b : Addr) : (lf n b).lookup ("width" : Str) = some (.int n) := by
  unfold lf
  rw [lookup_putF, if_neg (fun z => wb z.symm), lookup_putF, if_pos rfl]
end
end K06

namespace L2
open PySem PySem.Spec PyProof.Rows RZ
/-! ### zip of a list and a tuple -/
def ItzM (K : PySem.W.Frag) (a b : Addr) : It :=
  ⟨fun i H => ∃ (vs ws : List V) (v w : V), SqL K H a vs ∧ SqT K H b ws ∧ vs[i]? = some v ∧ ws[i]? = some w,
    fun i H r H' => ∃ T v w, r = .ref T ∧ H T = none ∧ H' = upd H T (.tup [v, w]) ∧ (∀ vs, SqL K H a vs → vs[i]? = some v) ∧ ∀ ws, SqT K H b ws → ws[i]? = some w,
    fun i H => ∃ vs ws : List V, SqL K H a vs ∧ SqT K H b ws ∧ i ≤ vs.length ∧ i ≤ ws.length ∧ (i = vs.length ∨ i = ws.length)⟩
theorem sep_of {z TI TO i1 i2 a b : Addr} (D : ZipApart z TI TO i1 i2 a b) : ZipSep2 z TI TO i1 i2 [i1, a] [i2, b] where
  TIz := D.TIz
  TOz := D.TOz
  TITO := D.TITO
  TIi1 := D.TIi1
  mem1 := by simp
  zf1 := by simpa using ⟨D.i1z.symm, D.l1z.symm⟩
  Tf1 := by simpa using ⟨D.TOi1, D.l1TO.symm⟩
  TIi2 := D.TIi2
  mem2 := by simp
  zf2 := by simpa using ⟨D.i2z.symm, D.l2z.symm⟩
  Tf2 := by simpa using ⟨D.TOi2, D.l2TO.symm⟩
  sep1_2 := by simpa using ⟨D.i12, D.l2i1.symm⟩
  sep2_1 := by simpa using ⟨D.i12.symm, D.l1i2.symm⟩
theorem turn_zipM {P : Program} {w : World} {K : PySem.W.Frag} {es : List Expr} {n0 : Nat} {tp : Pos} {a b z TI TO i1 i2 : Addr} (D : ZipApart z TI TO i1 i2 a b) :
    Turn P w K (.Tuple es n0 tp) (ItzM K a b) [z, TI, TO, i1, i2] z (fun i g => IsZip g z TI TO .none ∧ IsTupOf2 g TI (.ref i1) (.ref i2) ∧ (∃ p q, IsTupOf2 g TO p q) ∧ g.IsListIter i1 a i ∧ g.IsTupleIter i2 b i) where
  mem := List.mem_cons_self
  obj := fun i g st c hc => by
    obtain ⟨gz, gI, ⟨p, q, gO⟩, ⟨o1, e1, _, d1⟩, ⟨o2, e2, _, d2⟩⟩ := st
    have cases5 : c = z ∨ c = TI ∨ c = TO ∨ c = i1 ∨ c = i2 := by simpa using hc
    rcases cases5 with r | r | r | r | r <;> rw [r]
    · exact ⟨_, gz, fun _ f => nomatch f⟩
    · exact ⟨_, gI, fun _ f => nomatch f⟩
    · exact ⟨_, gO, fun _ f => nomatch f⟩
    · exact ⟨o1, e1, fun _ f => by rw [d1] at f; cases f⟩
    · exact ⟨o2, e2, fun _ f => by rw [d2] at f; cases f⟩
  keep := fun i g g' st kp => by
    obtain ⟨gz, gI, ⟨p, q, gO⟩, l1, l2⟩ := st
    have k : ∀ c, c ∈ [z, TI, TO, i1, i2] → ∀ o, g.get? c = some o → g'.get? c = some o := kp
    refine ⟨k z (by simp) _ gz, k TI (by simp) _ gI, ⟨p, q, k TO (by simp) _ gO⟩, l1.at fun o => k i1 (by simp) o, l2.at fun o => k i2 (by simp) o⟩
  item := by
    intro X eP ew eK hc i pins s σ H E I hf st hg
    subst eP ew eK
    obtain ⟨gz, gI, ⟨p, q, gO⟩, l1, l2⟩ := st
    obtain ⟨vs, ws, v, v2, qa, qb, ev, ew⟩ := hg
    obtain ⟨us, rv, pa, _⟩ := I.list qa
    obtain ⟨us2, rv2, pb, _⟩ := I.tuple qb
    obtain ⟨u, hu, ru⟩ := rv.get ev
    obtain ⟨u2, hu2, ru2⟩ := rv2.get ew
    have zlt : z < s.heap.objs.size := Heap.lt_size gz
    have bi1 : i < us.toArray.size := by rw [List.size_toArray]; exact (List.getElem?_eq_some_iff.mp hu).1
    have bi2 : i < us2.toArray.size := by rw [List.size_toArray]; exact (List.getElem?_eq_some_iff.mp hu2).1
    refine wpAny_pyNext_zipD2_item (sep_of D) (Draws.list (A := X.A.in1) (I.ok.hd hc) i1 a D.l1i1 us.toArray) (Draws.tuple (A := X.A.in1) (I.ok.hd hc) i2 b D.l2i2 us2.toArray) gz gI gO ⟨l1, pa.isList⟩ ⟨l2, pb⟩ bi1 bi2 fun x1 x2 h' tk y1 y2 z' TO' m1 m2 hT hsz kp => ?_
    have e1 : x1 = u := by
      have := (show us.toArray[i]? = some x1 from y1)
      rw [show us.toArray[i]? = us[i]? by simp, hu] at this
      exact (Option.some.inj this).symm
    have e2 : x2 = u2 := by
      have := (show us2.toArray[i]? = some x2 from y2)
      rw [show us2.toArray[i]? = us2[i]? by simp, hu2] at this
      exact (Option.some.inj this).symm
    subst e1 e2
    refine ⟨_, rfl, wpAny_letOwnedTupleGo_zip (s := { s with heap := h', toks := tk }) z' fun h'' z'' sm => ?_⟩
    have newT : h''.get? s.heap.objs.size = some { cls := .type "tuple", data := .seq #[x1, x2] } := (sm.2 _ (Nat.ne_of_gt zlt)).trans hT
    have ok : ObjOk X.prog X.w (upd H s.heap.objs.size (.tup [v, v2])) h'' s.heap.objs.size (.tup [v, v2]) :=
      ⟨by show 2 ≤ sizeLine; decide, [x1, x2], .cons ru (.cons ru2 .nil), ⟨_, newT, rfl, _, rfl⟩⟩
    have J : Inv X pins σ (upd H s.heap.objs.size (.tup [v, v2])) { s with heap := h'', toks := tk } := by
      refine I.turnedNew (t' := tk) (ch := [z, TI, TO, i1, i2]) (fun c o nc r => ?_) hf (Nat.le_refl _) ok
      have n5 : c ≠ z ∧ c ≠ TI ∧ c ≠ TO ∧ c ≠ i1 ∧ c ≠ i2 := by simpa using nc
      exact (sm.2 c n5.1).trans (kp c o n5.1 n5.2.2.1 n5.2.2.2.1 n5.2.2.2.2 r)
    refine ⟨.ref s.heap.objs.size, _, J, rfl, ⟨_, v, v2, rfl, I.hok.fresh (Nat.le_refl _), rfl, fun l hl => by rw [I.list_inj hl qa]; exact ev, fun l hl => by rw [I.tuple_inj hl qb]; exact ew⟩, ⟨z'', ?_, ⟨x1, x2, ?_⟩, ?_, ?_⟩, fun c hcm => ?_⟩
    · exact (sm.2 _ D.TIz).trans (kp _ _ D.TIz D.TITO D.TIi1 D.TIi2 gI)
    · exact (sm.2 _ D.TOz).trans TO'
    · exact m1.1.at fun o r => (sm.2 _ D.i1z).trans r
    · exact m2.1.at fun o r => (sm.2 _ D.i2z).trans r
    · have clt : c < s.heap.objs.size := by
        have cases5 : c = z ∨ c = TI ∨ c = TO ∨ c = i1 ∨ c = i2 := by simpa using hcm
        rcases cases5 with r | r | r | r | r <;> rw [r]
        · exact zlt
        · exact Heap.lt_size gI
        · exact Heap.lt_size gO
        · obtain ⟨_, e1, _⟩ := l1; exact Heap.lt_size e1
        · obtain ⟨_, e2, _⟩ := l2; exact Heap.lt_size e2
      rw [upd_ne (Nat.ne_of_lt clt)]
      exact (hf c hcm).1
  done := by
    intro X eP ew eK hc i pins s σ H E I hf st hg
    subst eP ew eK
    obtain ⟨gz, gI, ⟨p, q, gO⟩, l1, l2⟩ := st
    obtain ⟨vs, ws, qa, qb, n1, n2, fin⟩ := hg
    obtain ⟨us, rv, pa, _⟩ := I.list qa
    obtain ⟨us2, rv2, pb, _⟩ := I.tuple qb
    have len1 : us.toArray.size = vs.length := by rw [List.size_toArray, rv.length]
    have len2 : us2.toArray.size = ws.length := by rw [List.size_toArray, rv2.length]
    refine wpAny_pyNext_zipD2_end (sep_of D) (Draws.list (A := X.A.in1) (I.ok.hd hc) i1 a D.l1i1 us.toArray) (Draws.tuple (A := X.A.in1) (I.ok.hd hc) i2 b D.l2i2 us2.toArray) gz gI gO ⟨l1, pa.isList⟩ ⟨l2, pb⟩ (by omega) (by omega) (by omega) fun h' tk kp => ⟨rfl, I.turnedL (t' := tk) (ch := [z, TI, TO, i1, i2]) (fun c o nc r => ?_) hf⟩
    have n5 : c ≠ z ∧ c ≠ TI ∧ c ≠ TO ∧ c ≠ i1 ∧ c ≠ i2 := by simpa using nc
    exact kp c o n5.1 n5.2.2.1 n5.2.2.2.1 n5.2.2.2.2 r
  self := fun A i s Q E st h => wpAny_pyIter_zip st.1 h
def iZipM (K : PySem.W.Frag) (ta : TA) : TI := fun σ H R => ta σ H fun vs H1 => ∃ a b xs ys, vs = [.ref a, .ref b] ∧ SqL K H1 a xs ∧ SqT K H1 b ys ∧ R (ItzM K a b) H1
theorem pi_zipM {X : Cx} {e e2 : Expr} {ta : TA} {p pos tpos : Pos} {elts : List Expr} {kk : Nat} (hg : Gl X "zip") (hm : X.mg "zip" = none) (ha : PA X [e, e2] ta)
    (hs : starEach [e, e2] X.env = (false, eval e X.env) :: starEach [e2] X.env := by rfl) (hpl : (backTo pos (starEach [e2] X.env)).any (·.1) = false := by rfl) :
    PI X (.Tuple elts kk tpos) (.Call (.Name "zip" p) [e, e2] [] pos) (iZipM X.K ta) := by
  refine ⟨fun pins s σ H R I h => Call_ (ld_blt I hg hm PyProof.Rows.boot_zip (PyProof.Rows.callWith_type1 (thn (ha.run pos pins s σ H _ I h) fun us s1 ⟨vs, H1, I1, r1, q1⟩ => ?_) hs hpl))⟩
  obtain ⟨a, b, xs, ys, ex, qx, qy, q⟩ := q1
  subst ex
  cases r1 with
  | cons r rr =>
    cases rr with
    | cons r' rr =>
      cases rr
      cases r
      cases r'
      obtain ⟨its, rv, p1, _⟩ := I1.list qx
      obtain ⟨its2, rv2, p2, _⟩ := I1.tuple qy
      obtain ⟨o2, ho2, _⟩ := id p2
      let N := s1.heap.objs.size
      have new5 : ∀ c, c ∈ [N + 4, N + 2, N + 3, N, N + 1] → FpOk X pins H1 c := fun c hcm => by
        have q5 : c = N + 4 ∨ c = N + 2 ∨ c = N + 3 ∨ c = N ∨ c = N + 1 := by simpa using hcm
        have le5 : s1.heap.objs.size ≤ c := by
          show N ≤ c
          omega
        exact I1.fpOk le5 (I1.hok.fresh le5)
      refine zip_begins2 (begins_list a its.toArray) (begins_tuple b its2.toArray) p1.isList p2 fun h' hz hTI hTO h1 h2 hsz hk => wpAny_pyIter_zip hz ?_
      have I2 : Inv X pins σ H1 { s1 with heap := h' } := I1.kept (t' := s1.toks) hk
      exact ⟨N + 4, [N + 4, N + 2, N + 3, N, N + 1], _, _, H1, rfl, I2, turn_zipM (PySem.W.ktu_apart s1.heap.objs.size a b p1.lt (Heap.lt_size ho2)), ⟨hz, hTI, ⟨_, _, hTO⟩, ⟨_, h1, rfl, rfl⟩, ⟨_, h2, rfl, rfl⟩⟩, new5, q⟩
theorem walk_zipM {K : PySem.W.Frag} {a b : Addr} {xs ys : List V} {n : Nat} (hn : xs.length = n) (hm : ys.length = n) : Walk (ItzM K a b) n (fun H => SqL K H a xs ∧ SqT K H b ys) (YPair (fun i => xs[i]?) (fun i => ys[i]?)) := by
  refine ⟨fun i H hi h => ⟨xs, ys, xs[i]'(by omega), ys[i]'(by omega), h.1, h.2, List.getElem?_eq_getElem _, List.getElem?_eq_getElem _⟩, fun H h => ⟨xs, ys, h.1, h.2, by omega, by omega, by omega⟩, fun i H x H' hi h y => ?_⟩
  obtain ⟨T, z, z2, e1, e2, e3, e4, e5⟩ := y
  exact ⟨T, z, z2, e1, e2, e3, e4 xs h.1, e5 ys h.2⟩
end L2

namespace K06
open PySem L2 RZ Lat
/-- a list of ints -/
abbrev IsL (H : Hp) (a : Addr) (v : Vec) : Prop := H a = some (.lst (v.map V.int))
/-- the keys are places, each once -/
def KeyP (kvs : List (Key × V)) (n : Nat) : Prop := ∃ ks : List Nat, kvs.map (·.1) = ks.map (fun p => (Sum.inl ((p : Nat) : Int) : Key)) ∧ ks.Nodup ∧ ∀ p ∈ ks, p < n
theorem KeyP.nil (n : Nat) : KeyP [] n := ⟨[], rfl, .nil, fun p h => nomatch h⟩
theorem KeyP.put {kvs : List (Key × V)} {n p : Nat} {y : V} (h : KeyP kvs n) (hp : p < n) : KeyP (putK kvs (Sum.inl ((p : Nat) : Int)) y) n := by
  obtain ⟨ks, e, nd, lt⟩ := h
  unfold putK
  split
  · refine ⟨ks, ?_, nd, lt⟩
    rw [← e, List.map_map]
    refine List.map_congr_left fun kv _ => ?_
    show (if kv.1 = _ then (kv.1, y) else kv).1 = kv.1
    split <;> rfl
  · next hn =>
    refine ⟨ks ++ [p], by rw [List.map_append, List.map_append, e]; rfl, ?_, fun q hq => ?_⟩
    · refine List.nodup_append.mpr ⟨nd, List.nodup_cons.mpr ⟨List.not_mem_nil, .nil⟩, fun a ha b hb z => ?_⟩
      rw [List.mem_singleton.mp hb] at z
      subst z
      have q1 : (Sum.inl ((a : Nat) : Int) : Key) ∈ kvs.map (·.1) := by rw [e]; exact List.mem_map.mpr ⟨a, ha, rfl⟩
      obtain ⟨kv, hkv, ek⟩ := List.mem_map.mp q1
      exact hn (List.any_eq_true.mpr ⟨kv, hkv, decide_eq_true ek⟩)
    · rcases List.mem_append.mp hq with hq | hq
      · exact lt q hq
      · rw [List.mem_singleton.mp hq]; exact hp
/-- a dict of rows by their places -/
def Tb (F : Addr → Prop) (H : Hp) (d : Addr) (L : Nat) (t : Tab) : Prop := ∃ kvs : List (Key × V), H d = some (.dK kvs) ∧ kvs.length ≤ L ∧ (∀ p : Nat, (∀ r, t[p]? = some (some r) → ∃ a, valV kvs (Sum.inl ((p : Nat) : Int)) = some (.ref a) ∧ F a ∧ IsL H a r) ∧ ((∀ r, t[p]? ≠ some (some r)) → valV kvs (Sum.inl ((p : Nat) : Int)) = none)) ∧ KeyP kvs t.length
theorem putK_len {kvs : List (Key × V)} {k : Key} {v : V} : (putK kvs k v).length ≤ kvs.length + 1 := by
  unfold putK
  split
  · rw [List.length_map]; exact Nat.le_succ _
  · rw [List.length_append]; exact Nat.le_refl _
theorem Tb.but {F : Addr → Prop} {H H' : Hp} {b d : Addr} {L : Nat} {t : Tab} (hb : Box H b) (hF : ∀ a, F a → a ≠ b) (s : But b H H') (h : Tb F H d L t) : Tb F H' d L t := by
  obtain ⟨kvs, h1, h2, h3, h4⟩ := h
  obtain ⟨y1, y2, y3, hb'⟩ := hb
  refine ⟨kvs, s _ _ (ne_of h1 hb' fun z => nomatch z) h1, h2, fun p => ⟨fun r hr => ?_, (h3 p).2⟩, h4⟩
  obtain ⟨a, q1, q3, q2⟩ := (h3 p).1 r hr
  exact ⟨a, q1, q3, s _ _ (hF a q3) q2⟩
theorem Tb.keep {F : Addr → Prop} {H H' : Hp} {d : Addr} {L : Nat} {t : Tab} (s : Same H H') (h : Tb F H d L t) : Tb F H' d L t := by
  obtain ⟨kvs, h1, h2, h3, h4⟩ := h
  refine ⟨kvs, s _ _ h1, h2, fun p => ⟨fun r hr => ?_, (h3 p).2⟩, h4⟩
  obtain ⟨a, q1, q3, q2⟩ := (h3 p).1 r hr
  exact ⟨a, q1, q3, s _ _ q2⟩
theorem Tb.more {F : Addr → Prop} {H : Hp} {d : Addr} {L M : Nat} {t : Tab} (h : Tb F H d L t) (l : L ≤ M) : Tb F H d M t := by
  obtain ⟨kvs, h1, h2, h3⟩ := h
  exact ⟨kvs, h1, Nat.le_trans h2 l, h3⟩
theorem key_ne {p q : Nat} (h : p ≠ q) : (Sum.inl ((p : Nat) : Int) : Key) ≠ Sum.inl ((q : Nat) : Int) := fun z => h (by injection z with z; omega)
/-- a row is put at its place -/
theorem Tb.put {F : Addr → Prop} {H : Hp} {d a : Addr} {L p : Nat} {t : Tab} {r : Vec} {kvs : List (Key × V)} (h1 : H d = some (.dK kvs)) (h2 : kvs.length ≤ L)
    (h3 : ∀ p : Nat, (∀ r, t[p]? = some (some r) → ∃ a, valV kvs (Sum.inl ((p : Nat) : Int)) = some (.ref a) ∧ F a ∧ IsL H a r) ∧ ((∀ r, t[p]? ≠ some (some r)) → valV kvs (Sum.inl ((p : Nat) : Int)) = none)) (h4 : KeyP kvs t.length) (fa : F a) (ha : IsL H a r) (hp : p < t.length) :
    Tb F (upd H d (.dK (putK kvs (Sum.inl ((p : Nat) : Int)) (.ref a)))) d (L + 1) (t.set p (some r)) := by
  have keepL : ∀ b (v : Vec), IsL H b v → IsL (upd H d (.dK (putK kvs (Sum.inl ((p : Nat) : Int)) (.ref a)))) b v := fun b v q => (upd_ne (ne_of q h1 fun z => nomatch z)).trans q
  refine ⟨_, upd_same, Nat.le_trans putK_len (Nat.succ_le_succ h2), fun q => ?_, by rw [List.length_set]; exact h4.put hp⟩
  rw [valV_put]
  by_cases e : q = p
  · subst e
    rw [if_pos rfl, List.getElem?_set_self hp]
    refine ⟨fun s hs => ?_, fun hs => absurd rfl (hs r)⟩
    cases hs
    exact ⟨a, rfl, fa, keepL a r ha⟩
  · rw [if_neg (key_ne e), List.getElem?_set_ne (fun z => e z.symm)]
    refine ⟨fun s hs => ?_, (h3 q).2⟩
    obtain ⟨b, q1, q3, q2⟩ := (h3 q).1 s hs
    exact ⟨b, q1, q3, keepL b s q2⟩
theorem intL_at {v : Vec} {i : Nat} (h : i < v.length) : atI (v.map V.int) ((i : Nat) : Int) = some (V.int (itm v i)) := atI_nat (by rw [List.getElem?_map, itm_of h]; rfl)
theorem negV_map (v : Vec) : negV v = v.map fun n => 0 - n := rfl
theorem subV_eq (v w : Vec) (t : Int) : List.zipWith (fun a b : Int => a - t * b) v w = addV v (-t) w := by
  unfold addV
  congr 1
  funext a b
  rw [Int.neg_mul]; omega
theorem drop_at {t : Tab} {i : Nat} {o : Option Vec} (h : t[i]? = some o) : t.drop i = o :: t.drop (i + 1) := by
  have hlt := (List.getElem?_eq_some_iff.mp h).1
  rw [List.drop_eq_getElem_cons hlt, (List.getElem?_eq_some_iff.mp h).2]
theorem set_drop {t : Tab} {i : Nat} {o : Option Vec} : (t.set i o).drop (i + 1) = t.drop (i + 1) := by
  rw [List.drop_set]; rw [if_pos (Nat.lt_succ_self i)]
theorem set_take {t : Tab} {i : Nat} {o : Option Vec} (h : i < t.length) : (t.set i o).take (i + 1) = t.take i ++ [o] := by
  rw [List.take_add_one, List.getElem?_set_self h, List.take_set_of_le (Nat.le_refl i)]; rfl
section
variable {P : Program} {w : World} {K : PySem.W.Frag} {mg : Str → Option Value} {base : Heap}
end
end K06

namespace K06
open PySem L2 Lat
/-- rows that are done, in the list at l, and the one under way, at a -/
structure LD (H : Hp) (l a : Addr) (As : List Addr) (R : List Vec) : Prop where
  hl : H l = some (.lst (As.map V.ref))
  len : As.length + 1 = R.length
  nd : (As ++ [a]).Nodup
  nl : ∀ b ∈ As ++ [a], b ≠ l
  at' : ∀ (j : Nat) (b : Addr) (v : Vec), (As ++ [a])[j]? = some b → R[j]? = some v → IsL H b v
theorem LD.keep {H H' : Hp} {l a : Addr} {As : List Addr} {R : List Vec} (s : Same H H') (h : LD H l a As R) : LD H' l a As R :=
  ⟨s _ _ h.hl, h.len, h.nd, h.nl, fun j b v e1 e2 => s _ _ (h.at' j b v e1 e2)⟩
theorem LD.mem {H : Hp} {l a : Addr} {As : List Addr} {R : List Vec} (h : LD H l a As R) {b : Addr} (hb : b ∈ As ++ [a]) : ∃ v, IsL H b v := by
  obtain ⟨j, hj, e⟩ := List.getElem_of_mem hb
  have hj2 : j < R.length := by rw [← h.len]; rw [List.length_append] at hj; exact hj
  exact ⟨R[j], h.at' j b R[j] (by rw [List.getElem?_eq_getElem hj, e]) (List.getElem?_eq_getElem hj2)⟩
theorem LD.last {H : Hp} {l a : Addr} {As : List Addr} {R0 : List Vec} {z : Vec} (h : LD H l a As (R0 ++ [z])) : As.length = R0.length ∧ IsL H a z := by
  have l0 : As.length = R0.length := by have := h.len; rw [List.length_append] at this; exact Nat.add_right_cancel this
  exact ⟨l0, h.at' As.length a z (by rw [List.getElem?_append_right (Nat.le_refl _), Nat.sub_self]; rfl) (by rw [l0, List.getElem?_append_right (Nat.le_refl _), Nat.sub_self]; rfl)⟩
theorem LD.grow {H : Hp} {l a : Addr} {As : List Addr} {R0 : List Vec} {z : Vec} {i : Int} (h : LD H l a As (R0 ++ [z])) : LD (upd H a (.lst (z.map V.int ++ [.int i]))) l a As (R0 ++ [z ++ [i]]) := by
  obtain ⟨l0, ha⟩ := h.last
  have nal := h.nl a (by simp)
  refine ⟨(upd_ne nal.symm).trans h.hl, by rw [List.length_append, l0]; rfl, h.nd, h.nl, fun j b v ea ev => ?_⟩
  by_cases hj : j < As.length
  · rw [List.getElem?_append_left (by omega)] at ev
    have hv := h.at' j b v ea (by rw [List.getElem?_append_left (by omega)]; exact ev)
    rw [List.getElem?_append_left hj] at ea
    have nb : b ≠ a := fun e => (List.nodup_append.mp h.nd).2.2 b (List.mem_of_getElem? ea) a (List.mem_singleton.mpr rfl) e
    exact (upd_ne nb).trans hv
  · rw [List.getElem?_append_right (by omega)] at ea
    rw [List.getElem?_append_right (by omega), ← l0] at ev
    cases hk : j - As.length with
    | zero =>
      rw [hk] at ea ev
      cases ea; cases ev
      show upd _ _ _ a = _
      rw [upd_same, List.map_append]; rfl
    | succ k => rw [hk] at ea; cases ea
theorem LD.plus {H : Hp} {l a q : Addr} {As : List Addr} {R : List Vec} (h : LD H l a As R) (hq : upd H l (.lst (As.map V.ref ++ [.ref a])) q = none) : LD (upd (upd H l (.lst (As.map V.ref ++ [.ref a]))) q (.lst [])) l q (As ++ [a]) (R ++ [[]]) := by
  have nlq : l ≠ q := fun e => by rw [← e, upd_same] at hq; cases hq
  have hq0 : H q = none := by rw [upd_ne nlq.symm] at hq; exact hq
  refine ⟨by rw [upd_ne nlq, upd_same, List.map_append]; rfl, by rw [List.length_append, List.length_append, ← h.len]; rfl, ?_, fun b hb => ?_, fun j b v ea ev => ?_⟩
  · refine List.nodup_append.mpr ⟨h.nd, by simp, fun b hb c hc e => ?_⟩
    rw [List.mem_singleton] at hc
    obtain ⟨v, hv⟩ := h.mem hb
    rw [e, hc] at hv
    rw [show H q = _ from hv] at hq0
    cases hq0
  · rcases List.mem_append.mp hb with hb | hb
    · exact h.nl b hb
    · rw [List.mem_singleton.mp hb]; exact nlq.symm
  · have ll : (As ++ [a]).length = R.length := by rw [List.length_append]; exact h.len
    by_cases hj : j < R.length
    · rw [List.getElem?_append_left (by rw [ll]; exact hj)] at ea
      rw [List.getElem?_append_left hj] at ev
      have hv := h.at' j b v ea ev
      show upd _ _ _ b = _
      rw [upd_ne (ne_of_none hv hq0), upd_ne (h.nl b (List.mem_of_getElem? ea))]; exact hv
    · rw [List.getElem?_append_right (by rw [ll]; omega), ll] at ea
      rw [List.getElem?_append_right (by omega)] at ev
      cases hk : j - R.length with
      | zero =>
        rw [hk] at ea ev
        cases ea; cases ev
        show upd _ _ _ q = _
        rw [upd_same]; rfl
      | succ k => rw [hk] at ea; cases ea
def listD (v : Vec) : PyData := .list (v.map PyData.int)
theorem intsL_dp {K : PySem.W.Frag} {H : Hp} : ∀ v : Vec, DpAll K H (v.map V.int) (v.map PyData.int)
  | [] => .nil
  | n :: v => .cons (.int n) (intsL_dp v)
theorem lists_dp {K : PySem.W.Frag} {H : Hp} : ∀ (As : List Addr) (R : List Vec), As.length = R.length → (∀ (j : Nat) (b : Addr) (v : Vec), As[j]? = some b → R[j]? = some v → IsL H b v) → DpAll K H (As.map V.ref) (R.map listD)
  | [], [], _, _ => .nil
  | b :: As, v :: R, l, h => .cons (.lst (SqL.of (h 0 b v rfl rfl)) (intsL_dp v)) (lists_dp As R (Nat.succ.inj l) fun j c u e1 e2 => h (j + 1) c u e1 e2)
theorem lists_shaped (R : List Vec) : SeqAt.shaped (.list (R.map listD)) = true := by
  have h1 : ∀ v : Vec, PyData.canLayAll0 (v.map PyData.int) = true ∧ PyData.depthAll (v.map PyData.int) = 0 := by
    intro v
    induction v with
    | nil => exact ⟨rfl, rfl⟩
    | cons n v ih => exact ⟨by simp only [List.map_cons, PyData.canLayAll0, PyData.canLay0, ih.1, Bool.and_self], by simp only [List.map_cons, PyData.depthAll, PyData.depth, ih.2]; rfl⟩
  have h2 : PyData.canLayAll0 (R.map listD) = true ∧ PyData.depthAll (R.map listD) ≤ 1 := by
    induction R with
    | nil => exact ⟨rfl, Nat.zero_le _⟩
    | cons v R ih =>
      refine ⟨by simp only [List.map_cons, PyData.canLayAll0, listD, PyData.canLay0, (h1 v).1, ih.1, Bool.and_self], ?_⟩
      simp only [List.map_cons, PyData.depthAll, listD, PyData.depth, (h1 v).2]
      exact Nat.max_le.mpr ⟨Nat.le_refl _, ih.2⟩
  show (PyData.canLay0 (.list (R.map listD)) && decide (PyData.depth (.list (R.map listD)) ≤ 64)) = true
  rw [Bool.and_eq_true]
  refine ⟨by simp only [PyData.canLay0]; exact h2.1, decide_eq_true ?_⟩
  simp only [PyData.depth]
  have := h2.2
  omega
theorem listI_shaped (v : Vec) : SeqAt.shaped (.list (v.map PyData.int)) = true := by
  have h1 : ∀ v : Vec, PyData.canLayAll0 (v.map PyData.int) = true ∧ PyData.depthAll (v.map PyData.int) = 0 := by
    intro v
    induction v with
    | nil => exact ⟨rfl, rfl⟩
    | cons n v ih => exact ⟨by simp only [List.map_cons, PyData.canLayAll0, PyData.canLay0, ih.1, Bool.and_self], by simp only [List.map_cons, PyData.depthAll, PyData.depth, ih.2]; rfl⟩
  show (PyData.canLay0 (.list (v.map PyData.int)) && decide (PyData.depth (.list (v.map PyData.int)) ≤ 64)) = true
  rw [Bool.and_eq_true]
  exact ⟨by simp only [PyData.canLay0]; exact (h1 v).1, decide_eq_true (by simp only [PyData.depth, (h1 v).2]; decide)⟩
theorem eqv_nil_any (xs : List PyData) : PyData.eqv (.list xs) (.list []) = decide (xs = []) := by
  cases xs with
  | nil => decide +kernel
  | cons n v => simp [PyData.eqv, PyData.eqvAll]
end K06

namespace L2
open PySem PySem.Spec PyProof.Rows
/-! ### an error with nothing in it; what a sign lets out within a try; defs that raise, by their names -/
theorem pmk_own0 {X : Cx} {C : Addr} {bmB : List Value} {B newId initId : String} {x : Str} {p pos : Pos} (F : ExcBaseFacts B newId initId bmB) (q : PySem.W.excIn X.K C bmB newId = true) (gC : X.mg x = some (.ref C)) (kC : PySem.W.keepIn X.K (.ref C) = true) (r : Raises X (.ref C)) (hg : Gl X x)
    (hdb : (x == ("__debug__" : Str)) = false := by decide) : PMk X (.Call (.Name x p) [] [] pos) (fun _ H Q => Q (.ref C) none H) := by
  intro pins s σ H Q I h
  refine wpAny_Call_Name_kw (ld_glob I hg gC ?_ hdb)
  refine PySem.W.callWith_K0 I.kIn kC ?_
  show wpAny _ _ (call (.ref C) []) _ _ _
  obtain ⟨bm, N, nm, qn, bs, hdct, sn, sub, ab, col, dd, k0, k1, k2, k3, k5, mN, hC, hN, hni, T⟩ := exc_obj I.kIn q
  refine wpAny_call_exc_subT F T hC hN hni (fun h' e hm => ?_) (by show 0 ≤ sizeLine; exact Nat.zero_le _)
  exact mk_of I hm r h (I.hok.gone hm.new)
theorem passLen {X : Cx} {W : WX} (n : Nat) (hn : X.N.length = n) (tk : Takes X W) : Passes (L2.CX X.prog X.w) X (fun cls d H => ∀ σ : St, σ.length = n → W cls d σ H) := fun _ σ _ _ e s' I c => tk e s' (XE.of_call I (fun _ _ _ h => h σ (I.len.trans hn)) c)
theorem passOut {X : Cx} {E : XK} (hs : X.stack = X.env :: X.outer) (hf : X.env.frame = some X.env.locals) (hex : X.ex = []) {E₁ : Value → Shared → Prop}
    (hx : X.xe = fun e s' => wpAny (model X.prog X.w) X.A (leaving X.env e) (fun _ s'' => L2.CX X.prog X.w X.outer X.H_0 X.s_0 E e s'') E₁ s') : Passes (L2.CX X.prog X.w) X E := passes_call (takes_of hs hf hex hx) fun _ _ _ _ h => h
def HasX (P : Program) (w : World) (K : PySem.W.Frag) (mg : Str → Option Value) (base : Heap) (k : Nat) (nm : Str) (ps : List Str) (sp : Sp) : Prop :=
  ∃ (f : Addr) (fd : FuncData), FnOk P w K mg base (L2.CX P w) k f fd ps sp ∧ mg nm = some (.ref f) ∧ PySem.W.keepIn K (.ref f) = true ∧ Binds K fd ps []
theorem pe_callHasX {X : Cx} {k : Nat} {x : Str} {ps : List Str} {sp : Sp} {E : XK} {p pos : Pos} {e : Expr} {es : List Expr} {t : TA} (G : HasX X.prog X.w X.K X.mg X.base k x ps sp) (hr : Room k X.A) (hg : Gl X x) (hx : Passes (L2.CX X.prog X.w) X E) (ha : PA X (e :: es) t)
    (hdb : (x == ("__debug__" : Str)) = false := by decide) (he : starEach (e :: es) X.env = (false, eval e X.env) :: starEach es X.env := by rfl) (hpl : (backTo pos (starEach es X.env)).any (·.1) = false := by rfl) :
    PE X (.Call (.Name x p) (e :: es) [] pos) (tCall sp [] E t) := by
  obtain ⟨f, fd, F, m, kp, b⟩ := G
  exact pe_call F hr hg m kp b .nil hx ha hdb he hpl
theorem DefAt.hasX {P : Program} {w : World} {K : PySem.W.Frag} {mg : Str → Option Value} {base : Heap} {k : Nat} {nm : Str} {st : Stmt} {N ps : List Str} {sp : Sp} (F : DefAt K mg nm st ps) (S : FnScope N ps (defScope st)) (len : ∀ vs H Q E, sp vs H Q E → vs.length = ps.length)
    (hbody : ∀ (f : Addr) (cdv : Value) (A : Around) (outer : List Env) (s : Shared) (H : Hp) (vs : List V) (Q : VK) (E : XK), Room k (A.deeper (envOfC nm (defScope st) s.heap.objs.size f cdv)) → sp vs H Q E →
      ∃ t, PSs (cxOf (L2.CX P w) P w K mg base N nm (defScope st) f cdv A outer s H E) (defBody st) t ∧ t { nx := fun _ H' => Q .non H', rt := Q } (start N vs) H) : HasX P w K mg base (k + 1) nm ps sp := by
  obtain ⟨f, fd, F, m, b⟩ := F
  exact ⟨f, fd, F.okX S len (hbody f), m, F.kp, b⟩
/-- an error class of the text with no __init__ -/
structure ErrC (K : PySem.W.Frag) (mg : Str → Option Value) (x : Str) (M : Addr) : Prop where
  m : mg x = some (.ref M)
  ex : PySem.W.excIn K M [.type "ValueError", .type "Exception", .type "BaseException", .type "object"] "ValueError.__new__" = true
  kp : PySem.W.keepIn K (.ref M) = true
  sb : PySem.W.subIn K (.ref M) (.type "BaseException") = some true
  ty : PySem.W.typeIn K (.ref M) = some (.type "type")
theorem pmk_err {X : Cx} {x : Str} {M : Addr} {p pos : Pos} (T : ErrC X.K X.mg x M) (hg : Gl X x) (hdb : (x == ("__debug__" : Str)) = false := by decide) : PMk X (.Call (.Name x p) [] [] pos) (fun _ H Q => Q (.ref M) none H) :=
  pmk_own0 PySem.F.excBase_ValueError T.ex T.m T.kp (raises_own T.sb T.ty) hg hdb
end L2

set_option maxHeartbeats 2000000
namespace HT
open PySem PySem.Spec PyProof.Rows PySem.Calls
section
variable {prog : Program} {w : World} {A : Around} {E : Value → Shared → Prop} {s : Shared}
theorem back_bounds (n : Nat) : Builtin.Slice.sliceAdjust none none (-1) (n : Int) = ((n : Int) - 1, -1) := rfl
theorem back_many (n : Nat) : Builtin.Slice.slicePlaces ((n : Int) - 1) (-1) (-1) = n := by
  unfold Builtin.Slice.slicePlaces
  rw [if_neg (show ¬ ((-1 : Int) > 0) by decide)]
  split
  · rw [show (- (-1) : Int) = 1 by decide, Int.ediv_one]; omega
  · omega
theorem goesSame {α β : Type} {f g : α → Option β} : ∀ (xs : List α), (∀ x ∈ xs, f x = g x) → xs.filterMap f = xs.filterMap g
  | [], _ => rfl
  | x :: xs, h => by
    rw [List.filterMap_cons, List.filterMap_cons, h x List.mem_cons_self, goesSame xs fun y hy => h y (List.mem_cons_of_mem _ hy)]
theorem back_pick (its : Array Value) : ((List.range its.size).filterMap fun (j : Nat) => its[(((its.size : Nat) : Int) - 1 + (j : Int) * (-1)).toNat]?).toArray = its.toList.reverse.toArray := by
  have q : (List.range its.size).filterMap (fun (j : Nat) => its[(((its.size : Nat) : Int) - 1 + (j : Int) * (-1)).toNat]?) = ((List.range its.size).map fun j => its.size - 1 - j).filterMap fun j => its[j]? := by
    rw [List.filterMap_map]
    refine goesSame _ fun j hj => ?_
    have hj := List.mem_range.mp hj
    show its[(((its.size : Nat) : Int) - 1 + (j : Int) * (-1)).toNat]? = its[its.size - 1 - j]?
    rw [show (((its.size : Nat) : Int) - 1 + (j : Int) * (-1)).toNat = its.size - 1 - j by omega]
  rw [q, PySem.W.krv_range, List.filterMap_reverse, PySem.W.krv_all]
theorem applied_back {c : Addr} {v1 v2 v3 : Value} {n : Nat} {R : Int × Int × Nat → Shared → Prop} (hc : s.heap.IsSliceOf c v1 v2 v3) (p1 : IsPart v1 none) (p2 : IsPart v2 none) (p3 : IsPart v3 (some (-1)))
    (h : R ((n : Int) - 1, -1, n) s) : wpAny (model prog w) A (Builtin.Slice.sliceApplied (.ref c) (pure (n : Int))) R E s := by
  obtain ⟨ob, g1, g2, g3⟩ := id hc
  unfold Builtin.Slice.sliceApplied
  unfold Builtin.Slice.sliceFields
  refine wpAny_bind (wpAny_bind (wpAny_field g1 g3 (x := v1) rfl (wpAny_bind (wpAny_field g1 g3 (x := v2) rfl (wpAny_bind (wpAny_field g1 g3 (x := v3) rfl (wpAny_pure ?_)))))))
  refine wpAny_bind (slicePart_ p3 ?_)
  show wpAny _ _ (if ((-1 : Int) == 0) = true then _ else _) _ _ s
  rw [if_neg (show ¬ ((-1 : Int) == 0) = true by decide)]
  refine wpAny_bind (slicePart_ p1 (wpAny_bind (slicePart_ p2 (wpAny_bind (wpAny_pure (wpAny_pure ?_))))))
  show R ((n : Int) - 1, (-1 : Int), Builtin.Slice.slicePlaces ((n : Int) - 1) (-1) (-1)) s
  rw [back_many]
  exact h
/-- t[::-1] -/
theorem getItem_tuple_back {t c : Addr} {its : Array Value} {v1 v2 v3 : Value} {R : Value → Shared → Prop} (ht : IsTup s.heap t its) (hc : s.heap.IsSliceOf c v1 v2 v3) (p1 : IsPart v1 none) (p2 : IsPart v2 none) (p3 : IsPart v3 (some (-1)))
    (h : R (.ref s.heap.objs.size) { s with heap := s.heap.push { cls := .type "tuple", data := .seq its.toList.reverse.toArray } }) (hz : its.size ≤ sizeLine) : wpAny (model prog w) A (getItem (.ref t) (.ref c)) R E s := by
  have fit : sizeOk (.seq its.toList.reverse.toArray) := by
    show its.toList.reverse.toArray.size ≤ sizeLine
    rw [List.size_toArray, List.length_reverse, Array.length_toList]
    exact hz
  have kind : s.TypeIs (.ref c) "slice" := by
    obtain ⟨ob, g1, g2, _⟩ := hc
    exact ⟨ob, g1, g2⟩
  unfold getItem
  refine wpAny_holding ?_
  first | refine wpAny_bind (wpAny_pure ?_) | skip
  refine wpAny_bind (wpAny_sequenceKey ht.typeIs (by decide) (wpAny_bind (wpAny_callSpecial?_slot (name := Str.ofString "__getitem__") ht.typeIs slot_tuple_getitem (wpAny_call_entry slot_tuple_getitem ht.typeIs entry_tuple_getitem ?_ (args_tuple_getitem _ _)))))
  show wpAny _ _ (Builtin.Tuple.tupleItemsOf (.ref t) >>= _) _ _ s
  refine wpAny_bind (tupleItemsOf_ ht (wpAny_bind (wpAny_typeOf kind ?_)))
  rw [if_pos (show (Value.type "slice" == Value.type "slice") = true by decide)]
  refine wpAny_bind (applied_back hc p1 p2 p3 ?_)
  have off : ¬ (((((its.size : Nat) : Int) - 1) == 0 && (-1 : Int) == 1 && its.size == its.size) = true) := by
    intro q
    rw [Bool.and_eq_true, Bool.and_eq_true] at q
    exact absurd q.1.2 (by decide)
  show wpAny _ _ (if ((((its.size : Nat) : Int) - 1) == 0 && (-1 : Int) == 1 && its.size == its.size) = true then _ else _) _ _ s
  rw [if_neg off, back_pick]
  first
    | exact wpAny_bind (m := Builtin.Tuple.tupleExact _) (wpAny_newObj_type (wpAny_pure ⟨_, rfl, wpAny_pure h⟩) fit)
    | exact wpAny_bind (m := Builtin.Tuple.tupleExact _) (wpAny_newObj_type (wpAny_bind (wpAny_pure (wpAny_pure ⟨_, rfl, wpAny_pure h⟩))) fit)
    | exact wpAny_bind (wpAny_bind (m := Builtin.Tuple.tupleExact _) (wpAny_newObj_type (wpAny_pure (wpAny_pure ⟨_, rfl, wpAny_pure h⟩)) fit))
    | exact wpAny_bind (wpAny_bind (m := Builtin.Tuple.tupleExact _) (wpAny_newObj_type (wpAny_pure ⟨_, rfl, wpAny_pure h⟩) fit))
end
end HT
namespace L2
open PySem PySem.Spec PyProof.Rows
section
variable {X : Cx}
/-- t[::-1], a tuple: a new tuple, the other way about -/
def tRevT (K : PySem.W.Frag) (te : TE) : TE := fun σ H Q => te σ H fun x H1 => ∃ a xs, x = .ref a ∧ SqT K H1 a xs ∧ ∀ p, H1 p = none → Q (.ref p) (upd H1 p (.tup xs.reverse))
theorem pe_revT {d : Expr} {td : TE} {j : Nat} {q1 q2 q3 q4 : Pos} (hd : PE X d td) : PE X (.Subscript d (.Slice none none (some (.UnaryOp .USub (.Constant (.int 1) j q1) q2)) q3) q4) (tRevT X.K td) := by
  refine ⟨fun pins s σ H Q I h => Subscript_ (thn (hd.run pins s σ H _ I h) fun v s1 ⟨x, H1, I1, r1, a, xs, ex, hx, k⟩ => ?_)⟩
  subst ex
  cases r1
  have step : PO X (some (.UnaryOp .USub (.Constant (.int 1) j q1) q2)) (tPart (tUn (rU fun i => .int (-i)) (tC (.int 1)))) := po_some (pe_un un_neg pe_int)
  refine wpAny_Slice (thn (po_none.run pins s1 σ H1 (fun o H2 => o = none ∧ H2 = H1) I1 ⟨rfl, rfl⟩) fun v1 s2 ⟨o1, H2, I2, p1, z1, e2⟩ => thn (po_none.run pins s2 σ H2 (fun o H3 => o = none ∧ H3 = H1) I2 ⟨rfl, e2⟩) fun v2 s3 ⟨o2, H3, I3, p2, z2, e3⟩ => ?_)
  subst z1 z2 e3
  refine thn (step.run pins s3 σ H3 (fun o H4 => o = some (-1) ∧ H4 = H3) I3 ⟨1, rfl, -1, rfl, rfl, rfl⟩) fun v3 s4 ⟨o3, H4, I4, p3, z3, e4⟩ => ?_
  subst z3 e4
  have I5 : Inv X pins σ H4 { s4 with heap := s4.heap.push { cls := .type "slice", data := .fields #[v1, v2, v3] } } := I4.kept (t' := s4.toks) fun b ob q => Heap.get?_push_of_some _ q
  obtain ⟨its, r, ht, hz⟩ := I5.tuple hx
  have hlen := r.length
  show wpAny (model X.prog X.w) X.A (subscriptTail d (.Slice none none (some (.UnaryOp .USub (.Constant (.int 1) j q1) q2)) q3) (.ref a) (.ref s4.heap.objs.size)) (EP X pins σ Q) X.xe { s4 with heap := s4.heap.push { cls := .type "slice", data := .fields #[v1, v2, v3] } }
  refine tail_any (ops := [.ref a, .ref s4.heap.objs.size]) ht.typeIs slot_tuple_getitem.lookup ?_ (by with_unfolding_all rfl)
  refine HT.getItem_tuple_back ht (Heap.IsSliceOf.new _ v1 v2 v3) p1 p2 p3 ?_ (by rw [List.size_toArray]; omega)
  refine ⟨.ref _, _, I5.laid (t' := s4.toks) (o := .tup xs.reverse) (fun b ob q => Heap.get?_push_of_some _ q) (Nat.le_refl _) ⟨by rw [List.length_reverse]; exact hz, _, r.reverse, IsTup.new _ _⟩, rfl, k _ (I5.hok.fresh (Nat.le_refl _))⟩
/-! the same, the part of the kept heap named (inside a block) -/
theorem pe_revTK {K : PySem.W.Frag} (e : X.K = K) {d : Expr} {td : TE} {j : Nat} {q1 q2 q3 q4 : Pos} (hd : PE X d td) : PE X (.Subscript d (.Slice none none (some (.UnaryOp .USub (.Constant (.int 1) j q1) q2)) q3) q4) (tRevT K td) := by
  subst e; exact pe_revT hd
theorem pi_tupK {K : PySem.W.Frag} (e : X.K = K) {tg l : Expr} {tl : TE} (hl : PE X l tl) : PI X tg l (iTup K tl) := by
  subst e; exact pi_tup hl
def rTupOf (K : PySem.W.Frag) : List V → Hp → VK → Prop := fun xs H Q => ∃ p ys, xs = [.ref p] ∧ ((SqL K H p ys ∧ ∀ l, H l = none → Q (.ref l) (upd H l (.tup ys))) ∨ (SqT K H p ys ∧ Q (.ref p) H))
theorem call_tupK {K : PySem.W.Frag} (e : X.K = K) : CallR X (.type "tuple") (rTupOf K) := by
  subst e; exact call_tuple_of
end
end L2

namespace K06
open PySem L2 RZ Lat
/-- a list of lists of numbers, none of them twice -/
structure LL (H : Hp) (l : Addr) (As : List Addr) (R : List Vec) : Prop where
  hl : H l = some (.lst (As.map V.ref))
  len : As.length = R.length
  nd : As.Nodup
  at' : ∀ (j : Nat) (a : Addr) (v : Vec), As[j]? = some a → R[j]? = some v → IsL H a v
theorem atI_last (xs : List V) (x : V) : atI (xs ++ [x]) (-1) = some x := by
  unfold atI
  have : ixN (xs ++ [x]).length (-1) = some xs.length := by
    unfold ixN
    rw [List.length_append]
    show (if (0 : Int) ≤ -1 then _ else if _ then _ else _) = _
    rw [if_neg (by decide)]
    have : (-(((xs.length + [x].length : Nat)) : Int) ≤ -1) := by rw [show [x].length = 1 from rfl]; omega
    rw [if_pos this, show [x].length = 1 from rfl]
    congr 1
    omega
  rw [this]
  show (xs ++ [x])[xs.length]? = some x
  rw [List.getElem?_append_right (Nat.le_refl _), Nat.sub_self]; rfl
theorem LL.keep {H H' : Hp} {l : Addr} {As : List Addr} {R : List Vec} (s : Same H H') (h : LL H l As R) : LL H' l As R :=
  ⟨s _ _ h.hl, h.len, h.nd, fun j a v e1 e2 => s _ _ (h.at' j a v e1 e2)⟩
theorem LL.mem {H : Hp} {l : Addr} {As : List Addr} {R : List Vec} (h : LL H l As R) {a : Addr} (ha : a ∈ As) : ∃ v, IsL H a v := by
  obtain ⟨j, hj, e⟩ := List.getElem_of_mem ha
  have hj2 : j < R.length := by rw [← h.len]; exact hj
  exact ⟨R[j], h.at' j a R[j] (by rw [List.getElem?_eq_getElem hj, e]) (List.getElem?_eq_getElem hj2)⟩
theorem LL.snoc {H : Hp} {l q : Addr} {As : List Addr} {R : List Vec} (h : LL H l As R) (hq : H q = none) (fr : ∀ a ∈ As, a ≠ l) : LL (upd (upd H q (.lst [])) l (.lst (As.map V.ref ++ [.ref q]))) l (As ++ [q]) (R ++ [[]]) := by
  have nql : q ≠ l := (ne_of_none h.hl hq).symm
  refine ⟨by rw [upd_same, List.map_append]; rfl, by rw [List.length_append, List.length_append, h.len]; rfl, ?_, fun j a v ea ev => ?_⟩
  · refine List.nodup_append.mpr ⟨h.nd, by simp, fun a ha b hb e => ?_⟩
    rw [List.mem_singleton] at hb
    obtain ⟨v, hv⟩ := h.mem ha
    rw [e, hb] at hv
    rw [show H q = _ from hv] at hq
    cases hq
  · by_cases hj : j < As.length
    · rw [List.getElem?_append_left hj] at ea
      rw [List.getElem?_append_left (by rw [← h.len]; exact hj)] at ev
      have hv := h.at' j a v ea ev
      show upd _ _ _ a = _
      rw [upd_ne (fr a (List.mem_of_getElem? ea)), upd_ne (ne_of_none hv hq)]; exact hv
    · rw [List.getElem?_append_right (by omega)] at ea
      rw [List.getElem?_append_right (by rw [← h.len]; omega), ← h.len] at ev
      cases hk : j - As.length with
      | zero =>
        rw [hk] at ea ev
        cases ea; cases ev
        show upd _ _ _ q = _
        rw [upd_ne nql, upd_same]; rfl
      | succ k => rw [hk] at ea; cases ea
theorem LL.grow {H : Hp} {l a : Addr} {A0 : List Addr} {R0 : List Vec} {z : Vec} {i : Int} (h : LL H l (A0 ++ [a]) (R0 ++ [z])) (ne : a ≠ l) : LL (upd H a (.lst (z.map V.int ++ [.int i]))) l (A0 ++ [a]) (R0 ++ [z ++ [i]]) := by
  have l0 : A0.length = R0.length := by have := h.len; rw [List.length_append, List.length_append] at this; exact Nat.add_right_cancel this
  refine ⟨(upd_ne ne.symm).trans h.hl, by rw [List.length_append, List.length_append, l0]; rfl, h.nd, fun j b v ea ev => ?_⟩
  by_cases hj : j < A0.length
  · rw [List.getElem?_append_left (by omega)] at ev
    have hv := h.at' j b v ea (by rw [List.getElem?_append_left (by omega)]; exact ev)
    rw [List.getElem?_append_left hj] at ea
    have nb : b ≠ a := fun e => by
      have := List.nodup_append.mp h.nd
      exact this.2.2 b (List.mem_of_getElem? ea) a (List.mem_singleton.mpr rfl) e
    exact (upd_ne nb).trans hv
  · rw [List.getElem?_append_right (by omega)] at ea
    rw [List.getElem?_append_right (by omega), ← l0] at ev
    cases hk : j - A0.length with
    | zero =>
      rw [hk] at ea ev
      cases ea; cases ev
      show upd _ _ _ a = _
      rw [upd_same, List.map_append]; rfl
    | succ k => rw [hk] at ea; cases ea
theorem atI_head (x : V) (xs : List V) : atI (x :: xs) 0 = some x := by
  unfold atI
  have : ixN (x :: xs).length 0 = some 0 := by
    unfold ixN
    rw [if_pos (by decide), if_pos (by rw [List.length_cons]; omega)]; rfl
  rw [this]; rfl
theorem del_other {H : Hp} {a b : Addr} (h : b ≠ a) : del H a b = H b := del_ne h
/-- the way out of a raise -/
theorem raise_end {C : Addr} {H H0 : Hp} {k : V} {Q : XK} (s : Same H H0) (q : ∀ (H' : Hp) (d : Addr), Same H H' → H d = none → H' d = some (.xd [("at", k)]) → Q (.ref C) (some d) H') (a : Addr) (ha : H0 a = none) : spInitT C [.ref a, k] (upd H0 a (exo a C none)) (fun v H2 => v = .non ∧ ∃ (d : Addr) (fs : List (Str × V)), H2 a = some (exo a C (some d)) ∧ H2 d = some (exd d fs) ∧ H0 d = none ∧ Q (.ref C) (some d) (upd (del H2 a) d (.xd fs))) (fun _ _ _ => False) := by
  refine ⟨a, k, rfl, upd_same, fun dx hdx ne => ⟨rfl, dx, [("at", k)], upd_same, (upd_ne ne).trans upd_same, ?_, ?_⟩⟩
  · rw [upd_ne ne] at hdx; exact hdx
  · have h0 : H0 dx = none := by rw [upd_ne ne] at hdx; exact hdx
    have hd : H dx = none := by
      cases e : H dx with
      | none => rfl
      | some o => rw [s _ _ e] at h0; cases h0
    refine q _ dx (fun y o hy => ?_) hd upd_same
    have y0 := s _ _ hy
    have nya : y ≠ a := ne_of_none y0 ha
    have nyd : y ≠ dx := ne_of_none y0 h0
    rw [upd_ne nyd, del_ne nya, upd_ne nya, upd_ne nyd, upd_ne nya]; exact y0
section
variable {P : Program} {w : World} {K : PySem.W.Frag} {mg : Str → Option Value} {base : Heap}
abbrev s_read_vectors : Stmt := top 31
abbrev n_read_vectors : List Str := ["words", "rows", "at", "word", "number", "full", "row"]
theorem sc_read_vectors : FnScope n_read_vectors ["words"] (defScope s_read_vectors) := ⟨rfl, rfl, rfl, by decide +kernel, rfl, by decide +kernel, by decide +kernel⟩
theorem paired_snoc {α β : Type} {S : α → β → Prop} {as : List α} {vs : List β} {x : α} {v : β} (h : Paired S as vs) (hx : S x v) : Paired S (as ++ [x]) (vs ++ [v]) := by
  induction h with
  | nil => exact .cons hx .nil
  | cons r _ ih => exact .cons r ih
def nvalX : L2.RD.Wx → V
  | .num i => .int i
  | _ => .non
def spReadVX (C : Addr) : Sp := fun vs H Q E => ∃ (l : Addr) (ws : List L2.RD.Wx), vs = [.ref l] ∧ H l = some (.lst ((ws.map L2.RD.Wx.txt).map V.str)) ∧ ws ≠ [] ∧ ws.length ≤ 1000 ∧ (∀ w ∈ ws, Nine w) ∧
  (∀ k, L2.RD.reads ws = .inl k → ∀ (H' : Hp) (d : Addr), Same H H' → H d = none → H' d = some (.xd [("at", .int ((k : Nat) : Int))]) → E (.ref C) (some d) H') ∧
  ∀ R, L2.RD.reads ws = .inr R → ∀ (H' : Hp) (r : Addr) (as : List V), Same H H' → H' r = some (.lst as) → Paired (fun x v => ∃ a, x = V.ref a ∧ IsV H' a v) as R → Q (.ref r) H'
theorem ok_read_vectorsX {C fI : Addr} {fdI : FuncData} (T : Txt mg) (OXT : OexC K C) (iC : PySem.W.findIn K (.ref C) "__init__" = some (some (.ref fI))) (tI : PySem.W.typeIn K (.ref fI) = some (.type "function")) (g_initT : FnOk P w K mg base CX0 1 fI fdI ["self", "at"] (spInitT C)) (bI : Binds K fdI ["self", "at"] []) (mT : mg "InvalidText" = some (.ref C))
    (hDig : ∃ u, mg "DIGITS" = some u ∧ RelV (.int 9) u) (g_read_number : Has P w K mg base 1 "read_number" ["word", "digits"] spReadX) (F : DefAt K mg "read_vectors" s_read_vectors ["words"]) : HasX P w K mg base 3 "read_vectors" ["words"] (spReadVX C) := by
  refine F.hasX sc_read_vectors (fun vs H Q E h => ?_) (fun f cdv A outer s H vs Q E hr h => ?_)
  · obtain ⟨l, ws, rfl, _⟩ := h
    rfl
  · obtain ⟨l, ws, rfl, hl, wne, lws, nine, kl, kr⟩ := h
    refine ⟨_, (pss_cons (ps_set (i := 1) sc_read_vectors.nd rfl (Or.inl rfl) (pe_lst (pa_cons (pe_lst pa_nil) pa_nil)))
      (pss_cons (ps_for (passes_of rfl) rfl (pi_enum (by rfl) T.z_enumerate (pa_cons (pv 0) pa_nil)) (pg_tup rfl (pgs_cons (pg_name (i := 2) sc_read_vectors.nd rfl (Or.inl rfl)) (pgs_cons (pg_name (i := 3) sc_read_vectors.nd rfl (Or.inl rfl)) pgs_nil))) (C8.pss_cut (ps_set (i := 4) sc_read_vectors.nd rfl (Or.inl rfl) (pe_callHas g_read_number (hr.mono (by decide)) rfl (pa_cons (pv 3) (pa_cons (C8.pe_gc (v := .int 9) rfl hDig) pa_nil))))
      (C8.pss_cut (ps_set (i := 5) sc_read_vectors.nd rfl (Or.inl rfl) (pe_and (pe_cmpR op_gt (pe_callB call_len (by rfl) T.z_len (by decide +kernel) (pa_cons (pe_ix ix_list (pv 1) (pe_un un_neg pe_int) (fun _ _ => rfl)) pa_nil)) pe_int (nomark _)) (pe_one (pe_cmpR op_eq (pe_callB call_len (by rfl) T.z_len (by decide +kernel) (pa_cons (pe_ix ix_list (pv 1) (pe_un un_neg pe_int) (fun _ _ => rfl)) pa_nil)) (pe_callB call_len (by rfl) T.z_len (by decide +kernel) (pa_cons (pe_ix ix_list (pv 1) pe_int (fun _ _ => rfl)) pa_nil)) (nomark _)))))
      (pss_one (ps_if (PW.pt (pw_and (pt_cmpR op_eq (pv 3) pe_str (nomark _)) (pw_and1 (pt_val (pv 5))))) (pss_one (ps_expr (pe_bm PySem.F.plainAttrs_list PySem.F.slot_list_append PySem.F.type_list_append mt_append (pv 1) (pa_cons (pe_lst pa_nil) pa_nil)))) (pss_one (ps_if (PW.pt (pw_or (pt_cmpR op_isN (pv 4) pe_non (nomark _)) (pw_or1 (PW.pt (pw_and (pt_val (pv 5)) (pw_and1 (pt_cmpR op_gt (pe_callB call_len (by rfl) T.z_len (by decide +kernel) (pa_cons (pv 1) pa_nil)) pe_int (nomark _)))))))) (pss_one (ps_raise rfl (takes_of rfl rfl rfl rfl) (pmk_oex OXT iC tI g_initT (hr.mono (by decide)) bI .nil pass0 rfl mT (pa_cons (pv 2) pa_nil)))) (pss_one (ps_expr (pe_bm PySem.F.plainAttrs_list PySem.F.slot_list_append PySem.F.type_list_append mt_append (pe_ix ix_list (pv 1) (pe_un un_neg pe_int) (fun _ _ => rfl)) (pa_cons (pv 4) pa_nil)))))))))))
      (pss_cons (ps_if (pt_cmpR op_lt (pe_callB call_len (by rfl) T.z_len (by decide +kernel) (pa_cons (pe_ix ix_list (pv 1) (pe_un un_neg pe_int) (fun _ _ => rfl)) pa_nil)) (pe_callB call_len (by rfl) T.z_len (by decide +kernel) (pa_cons (pe_ix ix_list (pv 1) pe_int (fun _ _ => rfl)) pa_nil)) (nomark _)) (pss_one (ps_raise rfl (takes_of rfl rfl rfl rfl) (pmk_oex OXT iC tI g_initT (hr.mono (by decide)) bI .nil pass0 rfl mT (pa_cons (pe_callB call_len (by rfl) T.z_len (by decide +kernel) (pa_cons (pv 0) pa_nil)) pa_nil)))) pss_nil)
      (pss_one (ps_ret (pe_lc (own := [("row", 6)]) (g := gName 6) (by rfl) sc_read_vectors.nd (pi_list (pv 1)) (blkOk_by (own := [("row", 6)]) (N := n_read_vectors) (sc := defScope s_read_vectors) (by decide +kernel)) (fun _ _ _ _ _ => (pg_name (i := 6) sc_read_vectors.nd rfl (Or.inl rfl))) (fun _ _ _ _ _ => pts_nil) (fun _ _ _ _ _ => (pe_callTy (call_tupK (K := K) rfl) (by rfl) T.z_tuple (by decide +kernel) (pa_cons (pv 6) pa_nil))))))))), ?_⟩
    refine ⟨Nat.zero_le _, fun q hq => ?_⟩
    obtain ⟨sq, hq'⟩ := new_at (o := .lst []) hq
    refine ⟨(by decide : 1 ≤ sizeLine), fun r hr => ?_⟩
    obtain ⟨sr, hr'⟩ := new_at (o := .lst [V.ref q]) hr
    have nqr : q ≠ r := ne_of_none hq' hr
    have Hr : H r = none := by
      cases e : H r with
      | none => rfl
      | some o => rw [sq _ _ e] at hr; cases hr
    have s0 := sq.trans sr
    have hle : (((ws).map L2.RD.Wx.txt).map V.str).length = (ws).length := by rw [List.length_map, List.length_map]
    refine ⟨_, rfl, l, _, rfl, SqL.of (s0 _ _ hl), for_it (walk_enum (xs := (ws.map L2.RD.Wx.txt).map V.str)) (fun t σ H' => ∃ (As : List Addr) (R : List Vec) (x2 x3 x4 x5 : Option V), σ = [some (.ref l), some (.ref r), x2, x3, x4, x5, none] ∧ Same H H' ∧ L2.RD.st [[]] (ws.take t) = some R ∧ R ≠ [] ∧ R.length ≤ t + 1 ∧ (∀ v ∈ R, v.length ≤ t) ∧ LL H' r As R ∧ ∀ a ∈ As, H a = none ∧ a ≠ r) ⟨[q], [[]], _, _, _, _, rfl, s0, rfl, by simp, Nat.le_refl _, by simp, ⟨hr', rfl, by simp, fun j a v ea ev => ?_⟩, fun a ha => ?_⟩ (fun t σ H' _ z => ?_) ?_ ?_⟩
    · match j, ea, ev with
      | 0, ea, ev => cases ea; cases ev; exact sr _ _ hq'
    · rw [List.mem_singleton.mp ha]; exact ⟨hq, nqr⟩
    · obtain ⟨As, R, _, _, _, _, _, sm, _⟩ := z
      exact SqL.of (sm _ _ hl)
    · rintro t y σ H' H'' ht ⟨As, R, x2, x3, x4, x5, rfl, sm, fR, nR, lR, lv, ll, fre⟩ ⟨T1, y1, y2, rfl, hT, rfl, e1, e2⟩
      cases e1
      obtain ⟨w, ew, rfl⟩ : ∃ w, ws[t]? = some w ∧ y2 = V.str w.txt := by
        have e3 : (ws.map (V.str ∘ L2.RD.Wx.txt))[t]? = some y2 := by rw [← List.map_map]; exact e2
        rw [List.getElem?_map] at e3
        obtain ⟨w, ew, e⟩ := Option.map_eq_some_iff.mp e3
        exact ⟨w, ew, e.symm⟩
      have w9 := nine w (List.mem_of_getElem? ew)
      have hat := L2.RD.go_at ws 0 [[]] t w _ ew fR
      rw [Nat.zero_add] at hat
      obtain ⟨sT, hT'⟩ := new_at (o := .tup [V.int ((t : Nat) : Int), V.str w.txt]) hT
      replace ll := ll.keep sT
      replace sm := sm.trans sT
      clear sT e2
      refine ⟨T1, _, rfl, SqT.of hT', rfl, _, _, rfl, _, _, rfl, rfl, ?_⟩
      clear hT'
      generalize upd H' T1 _ = H2 at *
      obtain ⟨R0, z, rfl⟩ : ∃ R0 z, R = R0 ++ [z] := ⟨R.dropLast, R.getLast nR, (List.dropLast_concat_getLast nR).symm⟩
      have nA : As ≠ [] := fun e => by have := ll.len; rw [e, List.length_append] at this; cases this
      obtain ⟨A0, a, rfl⟩ : ∃ A0 a, As = A0 ++ [a] := ⟨As.dropLast, As.getLast nA, (List.dropLast_concat_getLast nA).symm⟩
      have l0 : A0.length = R0.length := by have := ll.len; rw [List.length_append, List.length_append] at this; exact Nat.add_right_cancel this
      have ha : IsL H2 a z := ll.at' A0.length a z (by rw [List.getElem?_append_right (Nat.le_refl _), Nat.sub_self]; rfl) (by rw [l0, List.getElem?_append_right (Nat.le_refl _), Nat.sub_self]; rfl)
      have hl2 : H2 r = some (.lst (A0.map V.ref ++ [V.ref a])) := by have := ll.hl; rw [List.map_append] at this; exact this
      obtain ⟨a1, v1, e0, eh, h1⟩ : ∃ a1 v1, atI (A0.map V.ref ++ [V.ref a]) 0 = some (.ref a1) ∧ (R0 ++ [z]).head?.getD [] = v1 ∧ IsL H2 a1 v1 := by
        cases A0 with
        | nil =>
          cases R0 with
          | nil => exact ⟨a, z, atI_head _ _, rfl, ha⟩
          | cons _ _ => cases l0
        | cons b A1 =>
          cases R0 with
          | nil => cases l0
          | cons u R1 => exact ⟨b, u, atI_head _ _, rfl, ll.at' 0 b u rfl rfl⟩
      refine ⟨fun σ' H3 => H3 = H2 ∧ σ' = [some (.ref l), some (.ref r), some (.int ((t : Nat) : Int)), some (.str w.txt), some (nvalX w), x5, none], ?_, ?_⟩
      · have nw := notNum_word w w9
        refine ⟨_, rfl, w.txt, rfl, Nat.le_trans (word_len w w9) (by decide), fun hn => ?_, fun hn => ?_⟩
        · cases w with
          | num i => rw [nw] at hn; cases hn
          | plus => exact ⟨rfl, rfl⟩
          | bad o => exact ⟨rfl, rfl⟩
        · cases w with
          | num i => exact ⟨i, L2.RD.back i (by have h2 : (iS i).length ≤ 10 := word_len _ w9; omega), (by have h2 : (iS i).length ≤ 10 := word_len _ w9; show (iS i).length ≤ 640; omega), rfl, rfl⟩
          | plus => rw [nw] at hn; cases hn
          | bad o => rw [nw] at hn; cases hn
      rintro σ' H3 ⟨rfl, rfl⟩
      refine ⟨fun σ' H4 => H4 = H3 ∧ σ' = [some (.ref l), some (.ref r), some (.int ((t : Nat) : Int)), some (.str w.txt), some (nvalX w), some (.bl (L2.RD.fullB (R0 ++ [z]))), none], ?_, ?_⟩
      · refine ⟨_, rfl, _, rfl, r, _, _, _, rfl, rfl, SqL.of hl2, atI_last _ _, _, _, rfl, .inl ⟨_, SqL.of ha, rfl⟩, _, _, rfl, rfl, _, rfl, ?_⟩
        have el : (z.map V.int).length = z.length := List.length_map _
        rw [el]
        by_cases hz : z.length > 0
        · refine iteSe (decide_eq_true (by omega)) ?_
          refine ⟨_, rfl, _, rfl, r, _, _, _, rfl, rfl, SqL.of hl2, atI_last _ _, _, _, rfl, .inl ⟨_, SqL.of ha, rfl⟩, ?_⟩
          refine ⟨_, rfl, r, _, _, _, rfl, rfl, SqL.of hl2, e0, _, _, rfl, .inl ⟨_, SqL.of h1, rfl⟩, ?_⟩
          refine ⟨rfl, rfl, ?_⟩
          have : L2.RD.fullB (R0 ++ [z]) = decide (V.int (((z.map V.int).length : Nat) : Int) = V.int (((v1.map V.int).length : Nat) : Int)) := by
            unfold L2.RD.fullB
            rw [L2.RD.lastV_snoc, eh, decide_eq_true hz, Bool.true_and, List.length_map, List.length_map]
            exact decide_eq_decide.mpr ⟨fun e => by rw [e], fun e => by have := V.int.inj e; omega⟩
          rw [this]; rfl
        · refine iteSf (decide_eq_false (by omega)) ?_
          refine ⟨rfl, ?_⟩
          have : L2.RD.fullB (R0 ++ [z]) = false := by
            unfold L2.RD.fullB
            rw [L2.RD.lastV_snoc, decide_eq_false hz, Bool.false_and]
          rw [this]; rfl
      rintro σ' H4 ⟨rfl, rfl⟩
      have nar := (fre a (by simp)).2
      cases w with
      | bad o =>
        refine ⟨_, rfl, rfl, _, rfl, iteSf (decide_eq_false fun e => by have := (word_plus (.bad o)).mp (V.str.inj e); cases this) (iteSf rfl ?_)⟩
        refine ⟨_, rfl, rfl, _, rfl, iteSe rfl ?_⟩
        exact ⟨_, rfl, (by decide : 1 ≤ 1000), fun a9 ha9 => raise_end sm (fun H9 d9 q1 q2 q3 => kl t hat H9 d9 q1 q2 q3) a9 ha9⟩
      | plus =>
        have hx : L2.RD.xstep (R0 ++ [z]) .plus = if L2.RD.fullB (R0 ++ [z]) = true then some ((R0 ++ [z]) ++ [[]]) else none := rfl
        cases hf : L2.RD.fullB (R0 ++ [z]) with
        | false =>
          rw [hx, hf, if_neg (by decide)] at hat
          refine ⟨_, rfl, rfl, _, rfl, iteSe (decide_eq_true rfl) ⟨_, rfl, _, rfl, iteSf rfl ?_⟩⟩
          refine ⟨_, rfl, rfl, _, rfl, iteSe rfl ?_⟩
          exact ⟨_, rfl, (by decide : 1 ≤ 1000), fun a9 ha9 => raise_end sm (fun H9 d9 q1 q2 q3 => kl t hat H9 d9 q1 q2 q3) a9 ha9⟩
        | true =>
        rw [hf, if_pos rfl] at hx
        have fR' := L2.RD.st_next ew fR hx
        refine ⟨_, rfl, rfl, _, rfl, iteSe (decide_eq_true rfl) ⟨_, rfl, _, rfl, iteSe rfl ?_⟩⟩
        refine ⟨_, rfl, .inl ⟨rfl, _, .inl (.inl hl2)⟩, Nat.zero_le _, fun q2 hq2 => ?_⟩
        have nq2 : r ≠ q2 := ne_of_none hl2 hq2
        refine ⟨r, _, _, rfl, rfl, (upd_ne nq2).trans hl2, ?_, A0 ++ [a] ++ [q2], (R0 ++ [z]) ++ [[]], _, _, _, _, rfl, fun y o hy => ?_, fR', by simp, ?_, fun v hv => ?_, (by have := ll.snoc hq2 (fun b hb => (fre b hb).2); rw [List.map_append] at this; exact this), fun b hb => ?_⟩
        · rw [← List.map_singleton, ← List.map_append, List.length_map, ll.len]
          exact Nat.lt_of_le_of_lt (Nat.le_trans lR (show t + 1 ≤ 1001 by omega)) (by decide)
        · rw [upd_ne (fun e => by rw [e, Hr] at hy; cases hy), upd_ne (ne_of_none (sm _ _ hy) hq2)]
          exact sm _ _ hy
        · rw [List.length_append]
          exact Nat.succ_le_succ lR
        · rcases List.mem_append.mp hv with hv | hv
          · exact Nat.le_trans (lv v hv) (Nat.le_succ _)
          · rw [List.mem_singleton.mp hv]; exact Nat.zero_le _
        · rcases List.mem_append.mp hb with hb | hb
          · exact fre b hb
          · rw [List.mem_singleton.mp hb]
            refine ⟨?_, nq2.symm⟩
            cases e : H q2 with
            | none => rfl
            | some o => rw [sm _ _ e] at hq2; cases hq2
      | num i =>
        have hx : L2.RD.xstep (R0 ++ [z]) (.num i) = if (L2.RD.fullB (R0 ++ [z]) && decide ((R0 ++ [z]).length > 1)) = true then none else some (R0 ++ [z ++ [i]]) := by
          show (if _ then none else some ((R0 ++ [z]).dropLast ++ [L2.RD.lastV (R0 ++ [z]) ++ [i]])) = _
          rw [List.dropLast_concat, L2.RD.lastV_snoc]
        refine ⟨_, rfl, rfl, _, rfl, iteSf (decide_eq_false fun e => L2.RD.ne_plus i (V.str.inj e)) ?_⟩
        refine iteSf rfl ?_
        refine ⟨_, rfl, rfl, _, rfl, iteSf rfl ?_⟩
        refine ⟨_, rfl, _, rfl, ?_⟩
        cases hF : L2.RD.fullB (R0 ++ [z]) with
        | true =>
          refine iteSe rfl ?_
          have lrs : (List.map V.ref A0 ++ [V.ref a]).length = (R0 ++ [z]).length := by rw [← List.map_singleton, ← List.map_append, List.length_map, ll.len]
          refine ⟨_, rfl, _, _, rfl, .inl ⟨_, SqL.of hl2, rfl⟩, _, _, rfl, rfl, _, rfl, ?_⟩
          rw [lrs]
          by_cases h1 : (R0 ++ [z]).length > 1
          · refine iteSe (decide_eq_true (by omega)) ?_
            rw [hx, hF, decide_eq_true h1, if_pos (by rfl : (true && true) = true)] at hat
            exact ⟨_, rfl, (by decide : 1 ≤ 1000), fun a9 ha9 => raise_end sm (fun H9 d9 q1 q2 q3 => kl t hat H9 d9 q1 q2 q3) a9 ha9⟩
          refine iteSf (decide_eq_false (by omega)) ?_
          rw [hF, decide_eq_false h1, if_neg (by decide)] at hx
          have fR' := L2.RD.st_next ew fR hx
          refine ⟨_, rfl, _, rfl, r, _, _, _, rfl, rfl, SqL.of hl2, atI_last _ _, .inl ⟨rfl, _, .inl (.inl ha)⟩, ?_⟩
          refine ⟨_, rfl, a, _, _, rfl, rfl, ha, ?_, A0 ++ [a], R0 ++ [z ++ [i]], _, _, _, _, rfl, fun y o hy => ?_, fR', by simp, ?_, fun v hv => ?_, ll.grow nar, fre⟩
          · rw [List.length_map]
            exact Nat.lt_of_le_of_lt (Nat.le_trans (lv z (by simp)) (show t ≤ 1000 by omega)) (by decide)
          · rw [upd_ne (fun e => by rw [e, (fre a (by simp)).1] at hy; cases hy)]
            exact sm _ _ hy
          · have := lR
            rw [List.length_append] at this ⊢
            show R0.length + 1 ≤ _
            have e : [z].length = 1 := rfl
            omega
          · rcases List.mem_append.mp hv with hv | hv
            · exact Nat.le_trans (lv v (List.mem_append_left _ hv)) (Nat.le_succ _)
            · rw [List.mem_singleton.mp hv, List.length_append]
              exact Nat.succ_le_succ (lv z (by simp))
        | false =>
          refine iteSf rfl ?_
          rw [hF, Bool.false_and, if_neg (by decide)] at hx
          have fR' := L2.RD.st_next ew fR hx
          refine ⟨_, rfl, _, rfl, r, _, _, _, rfl, rfl, SqL.of hl2, atI_last _ _, .inl ⟨rfl, _, .inl (.inl ha)⟩, ?_⟩
          refine ⟨_, rfl, a, _, _, rfl, rfl, ha, ?_, A0 ++ [a], R0 ++ [z ++ [i]], _, _, _, _, rfl, fun y o hy => ?_, fR', by simp, ?_, fun v hv => ?_, ll.grow nar, fre⟩
          · rw [List.length_map]
            exact Nat.lt_of_le_of_lt (Nat.le_trans (lv z (by simp)) (show t ≤ 1000 by omega)) (by decide)
          · rw [upd_ne (fun e => by rw [e, (fre a (by simp)).1] at hy; cases hy)]
            exact sm _ _ hy
          · have := lR
            rw [List.length_append] at this ⊢
            show R0.length + 1 ≤ _
            have e : [z].length = 1 := rfl
            omega
          · rcases List.mem_append.mp hv with hv | hv
            · exact Nat.le_trans (lv v (List.mem_append_left _ hv)) (Nat.le_succ _)
            · rw [List.mem_singleton.mp hv, List.length_append]
              exact Nat.succ_le_succ (lv z (by simp))
    · rintro σ H' ⟨As, R, x2, x3, x4, x5, rfl, sm, fR, nR, lR, lv, ll, fre⟩
      rw [hle, List.take_length] at fR
      rw [hle] at lR
      have hend := L2.RD.go_end ws 0 [[]] _ fR
      rw [Nat.zero_add] at hend
      obtain ⟨R0, z, rfl⟩ : ∃ R0 z, R = R0 ++ [z] := ⟨R.dropLast, R.getLast nR, (List.dropLast_concat_getLast nR).symm⟩
      rw [L2.RD.lastV_snoc] at hend
      have lAs := ll.len
      obtain ⟨A0, a, rfl⟩ : ∃ A0 a, As = A0 ++ [a] := by
        have nA : As ≠ [] := fun e => by rw [e, List.length_append] at lAs; cases lAs
        exact ⟨As.dropLast, As.getLast nA, (List.dropLast_concat_getLast nA).symm⟩
      have l0 : A0.length = R0.length := by rw [List.length_append, List.length_append] at lAs; exact Nat.add_right_cancel lAs
      have ha : IsL H' a z := ll.at' A0.length a z (by rw [List.getElem?_append_right (Nat.le_refl _), Nat.sub_self]; rfl) (by rw [l0, List.getElem?_append_right (Nat.le_refl _), Nat.sub_self]; rfl)
      have hl2 : H' r = some (.lst (A0.map V.ref ++ [V.ref a])) := by have := ll.hl; rw [List.map_append] at this; exact this
      obtain ⟨a1, v1, e0, eh, h1⟩ : ∃ a1 v1, atI (A0.map V.ref ++ [V.ref a]) 0 = some (.ref a1) ∧ (R0 ++ [z]).head?.getD [] = v1 ∧ IsL H' a1 v1 := by
        cases A0 with
        | nil =>
          cases R0 with
          | nil => exact ⟨a, z, atI_head _ _, rfl, ha⟩
          | cons _ _ => cases l0
        | cons b A1 =>
          cases R0 with
          | nil => cases l0
          | cons u R1 => exact ⟨b, u, atI_head _ _, rfl, ll.at' 0 b u rfl rfl⟩
      refine ⟨_, rfl, _, rfl, r, _, _, _, rfl, rfl, SqL.of hl2, atI_last _ _, _, _, rfl, .inl ⟨_, SqL.of ha, rfl⟩, ?_⟩
      refine ⟨_, rfl, r, _, _, _, rfl, rfl, SqL.of hl2, e0, _, _, rfl, .inl ⟨_, SqL.of h1, rfl⟩, _, _, rfl, rfl, _, rfl, ?_⟩
      rw [eh] at hend
      by_cases hlt : z.length < v1.length
      · refine iteSe (decide_eq_true (by rw [List.length_map, List.length_map]; omega)) ?_
        rw [if_pos hlt] at hend
        refine ⟨_, rfl, _, _, rfl, .inl ⟨_, SqL.of (sm _ _ hl), hle.symm⟩, (by decide : 1 ≤ 1000), fun a9 ha9 => raise_end sm (fun H9 d9 q1 q2 q3 => kl _ hend H9 d9 q1 q2 q3) a9 ha9⟩
      refine iteSf (decide_eq_false (by rw [List.length_map, List.length_map]; omega)) ?_
      rw [if_neg hlt] at hend
      refine ⟨_, rfl, r, rfl, ⟨_, SqL.of hl2⟩, fun D hD => lc_it (walk_list (xs := A0.map V.ref ++ [V.ref a])) (fun i H2 => Same H' H2 ∧ ∃ as : List V, H2 D = some (.lst as) ∧ Paired (fun x v => ∃ a, x = V.ref a ∧ IsV H2 a v) as ((R0 ++ [z]).take i) ∧ as.length = ((R0 ++ [z]).take i).length) ⟨(new_at hD).1, [], upd_same, .nil, rfl⟩ (fun i H2 _ q => SqL.of (q.1 _ _ hl2)) ?_ ?_⟩
      · rintro i y H2 H3 hi ⟨sm2, as, hD', hrs, las⟩ ⟨rfl, e1⟩
        rw [← List.map_singleton, ← List.map_append, List.getElem?_map] at e1
        obtain ⟨b, eb, rfl⟩ := Option.map_eq_some_iff.mp e1
        have ib : i < (R0 ++ [z]).length := by
          rw [← ll.len]
          exact (List.getElem?_eq_some_iff.mp eb).1
        have ev := List.getElem?_eq_getElem ib
        generalize (R0 ++ [z])[i] = v at ev
        have hb := sm2 _ _ (ll.at' i b v eb ev)
        refine ⟨rfl, ?_⟩
        refine ⟨_, rfl, _, _, rfl, .inl ⟨SqL.of hb, fun q2 hq2 => ?_⟩⟩
        obtain ⟨s3, hq3⟩ := new_at (o := .tup (v.map V.int)) hq2
        have hD3 := s3 _ _ hD'
        refine ⟨_, hD3, ?_, fun y o w => by rw [upd_ne (ne_of_none w hD)]; exact s3 _ _ (sm2 _ _ w), as ++ [.ref q2], upd_same, ?_, ?_⟩
        · rw [las, List.length_take]
          exact Nat.lt_of_le_of_lt (Nat.le_trans (Nat.min_le_right _ _) (Nat.le_trans lR (show ws.length + 1 ≤ 1001 by omega))) (by decide)
        · rw [List.take_add_one, ev]
          have kp : ∀ (x : V) (u : Vec), (∃ a, x = V.ref a ∧ IsV H3 a u) → ∃ a, x = V.ref a ∧ IsV (upd (upd H3 q2 (.tup (v.map V.int))) D (.lst (as ++ [.ref q2]))) a u := fun x u q => by
            obtain ⟨a', ex, hv⟩ := q
            have hv3 := s3 _ _ hv
            exact ⟨a', ex, (upd_ne (ne_of hv3 hD3 fun z => nomatch z)).trans hv3⟩
          exact paired_snoc (Paired.mapP hrs kp) ⟨q2, rfl, (upd_ne (ne_of hq3 hD3 fun z => nomatch z)).trans hq3⟩
        · rw [List.take_add_one, ev, List.length_append, List.length_append, las]; rfl
      · rintro H2 ⟨sm2, as, hD', hrs, las⟩
        rw [← List.map_singleton, ← List.map_append, List.length_map, ll.len, List.take_length] at hrs
        exact kr _ hend _ D as (sm.trans sm2) hD' hrs
end
end K06

namespace K06
open PySem L2 RZ Lat
def rowD (v : Vec) : PyData := .tuple (v.map PyData.int)
theorem ints_dp {K : PySem.W.Frag} {H : Hp} : ∀ v : Vec, DpAll K H (v.map V.int) (v.map PyData.int)
  | [] => .nil
  | n :: v => .cons (.int n) (ints_dp v)
theorem rows_dp {K : PySem.W.Frag} {H : Hp} {as : List V} {rs : List Vec} (h : Paired (fun x v => ∃ a, x = V.ref a ∧ IsV H a v) as rs) : DpAll K H as (rs.map rowD) := by
  induction h with
  | nil => exact .nil
  | cons r _ ih =>
    obtain ⟨a, rfl, q⟩ := r
    exact .cons (.tup (SqT.of q) (ints_dp _)) ih
theorem rows_shaped (rs : List Vec) : SeqAt.shaped (.list (rs.map rowD)) = true := by
  have h1 : ∀ v : Vec, PyData.canLayAll0 (v.map PyData.int) = true ∧ PyData.depthAll (v.map PyData.int) = 0 := by
    intro v
    induction v with
    | nil => exact ⟨rfl, rfl⟩
    | cons n v ih => exact ⟨by simp only [List.map_cons, PyData.canLayAll0, PyData.canLay0, ih.1, Bool.and_self], by simp only [List.map_cons, PyData.depthAll, PyData.depth, ih.2]; rfl⟩
  have h2 : PyData.canLayAll0 (rs.map rowD) = true ∧ PyData.depthAll (rs.map rowD) ≤ 1 := by
    induction rs with
    | nil => exact ⟨rfl, Nat.zero_le _⟩
    | cons v rs ih =>
      refine ⟨by simp only [List.map_cons, PyData.canLayAll0, rowD, PyData.canLay0, (h1 v).1, ih.1, Bool.and_self], ?_⟩
      have := (h1 v).2
      simp only [List.map_cons, PyData.depthAll, rowD, PyData.depth]
      omega
  show (PyData.canLay0 (.list (rs.map rowD)) && decide (PyData.depth (.list (rs.map rowD)) ≤ 64)) = true
  rw [Bool.and_eq_true]
  exact ⟨by simp only [PyData.canLay0]; exact h2.1, decide_eq_true (by simp only [PyData.depth]; omega)⟩
theorem LatAt.but {C b : Addr} {H H' : Hp} {x : Addr} {n : Nat} {rs : List Vec} (hb : Box H b) (s : But b H H') (h : LatAt C H x n rs) : LatAt C H' x n rs := by
  obtain ⟨dx, p, os, h1, h2, h3⟩ := h
  obtain ⟨y1, y2, y3, hb'⟩ := id hb
  exact ⟨dx, p, os, s _ _ (ne_of h1 hb' fun z => nomatch z) h1, s _ _ (ne_of h2 hb' fun z => nomatch z) h2, h3.but hb s⟩
theorem mem_rows {rs : List Vec} {n : Nat} {B : Int} (h1 : ∀ r ∈ rs, r.length = n) (h2 : ∀ r ∈ rs, Within B r) : ∀ r ∈ rs, r.length = n ∧ Within B r := fun r hr => ⟨h1 r hr, h2 r hr⟩
end K06

namespace Lat
theorem EchT.wid {n : Nat} : ∀ {p : Nat} {t : Tab}, EchT n p t → ∀ r, some r ∈ t → r.length = n
  | _, [], _ => fun r h => nomatch h
  | p, o :: os, e => fun r h => by
    rcases List.mem_cons.mp h with z | h
    · exact (e.1 r z.symm).1
    · exact EchT.wid e.2 r h
end Lat
namespace K06
open PySem L2 RZ Lat
theorem Tb.new {F : Addr → Prop} {H : Hp} {d : Addr} (h : H d = none) (n : Nat) : Tb F (upd H d (.dK [])) d 0 (tab0 n) :=
  ⟨[], upd_same, Nat.le_refl _, fun p => ⟨fun r e => (by
    unfold tab0 at e
    rw [List.getElem?_replicate] at e
    by_cases h : p < n
    · rw [if_pos h] at e; cases e
    · rw [if_neg h] at e; cases e), fun _ => rfl⟩, KeyP.nil _⟩
theorem intsD_shaped (v : Vec) : SeqAt.shaped (.list (v.map PyData.int)) = true := by
  have h1 : ∀ v : Vec, PyData.canLayAll0 (v.map PyData.int) = true ∧ PyData.depthAll (v.map PyData.int) = 0 := by
    intro v
    induction v with
    | nil => exact ⟨rfl, rfl⟩
    | cons n v ih => exact ⟨by simp only [List.map_cons, PyData.canLayAll0, PyData.canLay0, ih.1, Bool.and_self], by simp only [List.map_cons, PyData.depthAll, PyData.depth, ih.2]; rfl⟩
  show (PyData.canLay0 (.list (v.map PyData.int)) && decide (PyData.depth (.list (v.map PyData.int)) ≤ 64)) = true
  rw [Bool.and_eq_true]
  exact ⟨by simp only [PyData.canLay0]; exact (h1 v).1, decide_eq_true (by simp only [PyData.depth, (h1 v).2]; decide)⟩
theorem nils_eqv (v : Vec) : PyData.eqv (.list (v.map PyData.int)) (.list []) = decide (v = []) := by
  cases v with
  | nil => decide +kernel
  | cons n v => simp [PyData.eqv, PyData.eqvAll]
theorem filter_nil (u : Vec) : u.filter (fun n => decide (n ≠ 0)) = [] ↔ piv u = u.length := by
  rw [List.filter_eq_nil_iff]
  constructor
  · intro h
    refine zero_all rfl fun i hi => ?_
    have := h _ (List.mem_of_getElem? (itm_of hi))
    simpa using this
  · intro h n hn
    obtain ⟨i, rfl⟩ := mem_itm hn
    simp [Lat.itm_zero h i]
section
variable {P : Program} {w : World} {K : PySem.W.Frag} {mg : Str → Option Value} {base : Heap}
end
end K06

namespace L2
open PySem PySem.Spec PyProof.Rows
theorem tuple_mul1 (l : Addr) (items : Array Value) (n : Nat) (dd : Option Addr) (sl : Array (Option Value)) (u : Tok) :
    Meets (Builtin.«tuple.__mul__» ⟨[.ref l, .int 1 u], []⟩) (fun _ R s => s.heap.get? l = some { cls := .type "tuple", dict := dd, data := .seq items n, slots := sl } ∧ R (.ok (.ret (Value.ref l))) s) :=
  .of_wp fun prog w A R s h => by
    obtain ⟨hp, g, d, tk, os⟩ := s
    obtain ⟨hl, h⟩ := h
    have f1 := AutoSeq1.idx_int
    wp_walk using wpAny_loadPart' hl
    repeat (first
      | (refine wpAny_ite_false (decide_eq_false (by decide)) ?_; wp_walk using wpAny_loadPart' hl)
      | (refine wpAny_ite_true (decide_eq_true (by simp)) ?_; wp_walk using wpAny_loadPart' hl))
    exact ⟨_, rfl, h⟩
/-- t * k, k from 1 on: by 1 the tuple itself -/
def rRepTA (K : PySem.W.Frag) : R2 := fun x y H Q => ∃ l k xs, x = .ref l ∧ y = .int k ∧ SqT K H l xs ∧ xs ≠ [] ∧ 1 ≤ k ∧ k ≤ 1000 ∧ xs.length ≤ 1000 ∧ (k = 1 → Q (.ref l) H) ∧ (2 ≤ k → ∀ p, H p = none → Q (.ref p) (upd H p (.tup (List.replicate k.toNat xs).flatten)))
theorem op_repTA {X : Cx} : OpR X (binaryOp .Mult) (rRepTA X.K) := by
  intro pins s σ H x y v u Q I rx ry h
  obtain ⟨l, k, xs, ex, ey, hT, hne, h1, h2, hz, q1, q2⟩ := h
  by_cases hk : k = 1
  · subst hk ex ey
    cases rx
    obtain ⟨t, rfl⟩ := ry
    obtain ⟨its, r, ⟨⟨cls, dd, data, sl⟩, ho, hc, n, hd⟩, hs⟩ := I.tuple hT
    simp only at hc hd
    subst hc hd
    refine wpAny_binaryOp_repeat_ref (T := "tuple") (U := "int") (by decide) ⟨_, ho, rfl⟩ (fun s' => typeIs_int s' 1 t) noFill_tuple_mul F.fills_int_mul F.slot_int_rmul repeat_tuple F.slot_int_index.lookup
      (call_meets F.slot_int_rmul (typeIs_int s 1 t) F.entry_int_rmul (F.args_int_rmul_2 _ _) (int_rmul_tuple 1 t l its.toArray n dd sl)
        ⟨ho, rfl, ⟨_, ho, rfl⟩, call_meets F.slot_tuple_mul ⟨_, ho, rfl⟩ F.entry_tuple_mul (F.args_tuple_mul_2 _ _) (tuple_mul1 l its.toArray n dd sl t) ⟨ho, ?_⟩⟩)
    exact ⟨.ref l, H, I, rfl, q1 rfl⟩
  · exact op_repT pins s σ H x y v u Q I rx ry ⟨l, k, xs, ex, ey, hT, hne, by omega, h2, hz, q2 (by omega)⟩
end L2

namespace Lat
/-! ## ghosts, each with its own size -/
def tot (x : Nat) : Nat → Nat
  | 0 => 0
  | k + 1 => 2 * tot x k + x + 1
theorem tot_mono {x : Nat} : ∀ k, tot x k ≤ tot x (k + 1) := fun k => by show _ ≤ 2 * tot x k + x + 1; omega
theorem tot_le {x i j : Nat} (h : i ≤ j) : tot x i ≤ tot x j := by
  induction h with
  | refl => exact Nat.le_refl _
  | step _ ih => exact Nat.le_trans ih (tot_mono _)
/-- sizes of rows, one by one -/
inductive Sz : List Vec → List Nat → Prop where
  | nil : Sz [] []
  | cons {g : Vec} {G : List Vec} {e : Nat} {es : List Nat} (h : ∀ i, (itm g i).natAbs ≤ 2 ^ e) (t : Sz G es) : Sz (g :: G) (e :: es)
theorem Sz.len : ∀ {G : List Vec} {es : List Nat}, Sz G es → es.length = G.length
  | _, _, .nil => rfl
  | _, _, .cons _ t => congrArg (· + 1) t.len
theorem Sz.mem : ∀ {G : List Vec} {es : List Nat}, Sz G es → ∀ g ∈ G, ∀ i, (itm g i).natAbs ≤ 2 ^ es.sum
  | _, _, .nil => fun g h => nomatch h
  | _, _, .cons (e := e) (es := es) h t => fun s hs i => by
    rw [List.sum_cons]
    rcases List.mem_cons.mp hs with z | hs
    · rw [z]; exact Nat.le_trans (h i) (p2le (by omega))
    · exact Nat.le_trans (t.mem s hs i) (p2le (by omega))
theorem insG_sz {n : Nat} : ∀ {c : Nat} {G : List Vec} {es : List Nat} {v : Vec} {ξ : Nat}, Ech n c G → v.length = n → Sz G es → (∀ i, (itm v i).natAbs ≤ 2 ^ ξ) → insG G v = G ∨ ∃ es', Sz (insG G v) es' ∧ (insG G v).length = G.length + 1 ∧ es'.sum ≤ es.sum + ξ + (es.sum + es.length)
  | c, [], _, v, ξ, _, l, .nil, hv => by
    unfold insG
    split
    · exact .inl rfl
    · exact .inr ⟨[ξ], .cons hv .nil, rfl, by simp⟩
  | c, g :: gs, _, v, ξ, e, l, .cons (e := e0) (es := es) h t, hv => by
    unfold insG
    split
    · refine .inr ⟨ξ :: e0 :: es, .cons hv (.cons h t), rfl, ?_⟩
      simp only [List.sum_cons, List.length_cons]; omega
    · have lc := crossV_len (l.trans e.1.symm)
      have sz : ∀ i, (itm (crossV g v) i).natAbs ≤ 2 ^ (ξ + e0 + 1) := fun i => by
        rw [crossV_itm (l.trans e.1.symm)]
        have q1 : (itm g (piv g) * itm v i).natAbs ≤ 2 ^ e0 * 2 ^ ξ := by rw [Int.natAbs_mul]; exact Nat.mul_le_mul (h _) (hv i)
        have q2 : (itm v (piv g) * itm g i).natAbs ≤ 2 ^ ξ * 2 ^ e0 := by rw [Int.natAbs_mul]; exact Nat.mul_le_mul (hv _) (h i)
        have q3 : 2 ^ (ξ + e0 + 1) = 2 ^ e0 * 2 ^ ξ + 2 ^ ξ * 2 ^ e0 := by
          rw [Nat.pow_succ, Nat.pow_add, Nat.mul_comm (2 ^ e0) (2 ^ ξ)]
          omega
        rw [q3]
        have := Int.natAbs_sub_le (itm g (piv g) * itm v i) (itm v (piv g) * itm g i)
        omega
      rcases insG_sz (v := crossV g v) (ξ := ξ + e0 + 1) e.2.2.2 (lc.trans l) t sz with q | ⟨es', q1, q2, q3⟩
      · rw [q]; exact .inl rfl
      · refine .inr ⟨e0 :: es', .cons h q1, congrArg (· + 1) q2, ?_⟩
        simp only [List.sum_cons, List.length_cons]
        omega
structure G2 (x n : Nat) (B : List Vec) : Prop where
  eB : Ech n 0 B
  ex : ∃ (G : List Vec) (es : List Nat), Ech n 0 G ∧ Sz G es ∧ es.sum + G.length ≤ tot x G.length ∧ (∀ g ∈ G, In B (itm g)) ∧ ∀ s ∈ B, RIn G (itm s)
theorem G2.nil (x n : Nat) : G2 x n [] := ⟨trivial, [], [], trivial, .nil, Nat.le_refl _, fun g h => (nomatch h), fun g h => (nomatch h)⟩
/-- the same lattice by other rows -/
theorem G2.same {x n : Nat} {B B' : List Vec} (I : G2 x n B) (eB' : Ech n 0 B') (h : ∀ S, Cl S → ((∀ r ∈ B', S (itm r)) ↔ ∀ r ∈ B, S (itm r))) : G2 x n B' := by
  obtain ⟨G, es, eG, sz, hs, h1, h2⟩ := I.ex
  exact ⟨eB', G, es, eG, sz, hs, fun g hg => In.sub (In.cl _) ((h _ (In.cl B')).mp fun r hr => In.mem _ _ hr) (h1 g hg), (h _ (RIn.cl G)).mpr h2⟩
theorem G2.step {x n : Nat} {B B' : List Vec} {v : Vec} (I : G2 x n B) (eB' : Ech n 0 B') (l : v.length = n) (hv : ∀ i, (itm v i).natAbs ≤ 2 ^ x) (h : ∀ S, Cl S → ((∀ r ∈ B', S (itm r)) ↔ ((∀ r ∈ B, S (itm r)) ∧ S (itm v)))) : G2 x n B' := by
  obtain ⟨G, es, eG, sz, hs, h1, h2⟩ := I.ex
  have eG' : Ech n 0 (insG G v) := insG_ech eG l (Nat.zero_le _) fun i hi => absurd hi (Nat.not_lt_zero _)
  have rB : ∀ s ∈ B, RIn (insG G v) (itm s) := fun s hs => by
    obtain ⟨D, hD, h⟩ := h2 s hs
    exact ⟨D, hD, In.sub (In.cl _) (fun g hg => insG_old g hg) h⟩
  have rv : RIn (insG G v) (itm v) := insG_new eG l
  obtain ⟨q1, q2⟩ := (h (In B') (In.cl B')).mp fun r hr => In.mem _ _ hr
  have c1 := insG_cl (In.cl B') eG l (fun g hg => In.sub (In.cl B') q1 (h1 g hg)) q2
  have c2 := (h (RIn (insG G v)) (RIn.cl _)).mpr ⟨rB, rv⟩
  rcases insG_sz eG l sz hv with e | ⟨es', z1, z2, z3⟩
  · rw [e] at c1 c2
    exact ⟨eB', G, es, eG, sz, hs, c1, c2⟩
  · refine ⟨eB', insG G v, es', eG', z1, ?_, c1, c2⟩
    rw [z2]
    have := sz.len
    show _ ≤ 2 * tot x G.length + x + 1
    omega
theorem G2.piv {x n : Nat} {B : List Vec} (I : G2 x n B) : ∀ s ∈ B, (itm s (Lat.piv s)).natAbs ≤ 2 ^ tot x n := by
  obtain ⟨G, es, eG, sz, hs, h1, h2⟩ := I.ex
  intro s hs'
  obtain ⟨g, hg, _, q⟩ := piv_bound I.eB eG h1 h2 s hs'
  have c := eG.count (Nat.zero_le _)
  have := tot_le (x := x) (show G.length ≤ n by omega)
  exact Nat.le_trans q (Nat.le_trans (sz.mem g hg _) (p2le (by omega)))
theorem all_bound2 {n : Nat} : ∀ {c : Nat} {G : List Vec} {es : List Nat} {f : Nat → Int} {A : Nat}, Ech n c G → Sz G es → RIn G f → (∀ g ∈ G, (f (piv g)).natAbs ≤ A) → ∀ i, (f i).natAbs ≤ A * 2 ^ (es.sum + 2 * es.length)
  | _, [], _, f, A, _, .nil, ⟨D, hD, h⟩, _ => fun i => by
    have h3 : D * f i = 0 := h i
    rcases Int.mul_eq_zero.mp h3 with z | z
    · exact absurd z hD
    · rw [z]; exact Nat.zero_le _
  | c, g :: gs, _, f, A, e, .cons (e := e0) (es := es) hb t, ⟨D, hD, a, h⟩, hA => fun i => by
    have gn : itm g (piv g) ≠ 0 := e.ne List.mem_cons_self
    have h0 : D * f (piv g) - a * itm g (piv g) = 0 := In.low e.2.2.2 h (piv g) (by omega)
    have hp := hA g List.mem_cons_self
    have hr : RIn gs fun i => itm g (piv g) * f i - f (piv g) * itm g i := ⟨D, hD, (In.cl gs).of (t := itm g (piv g)) (In.cl gs).zero h fun i => by grind⟩
    have ih := all_bound2 (A := 2 * 2 ^ e0 * A) e.2.2.2 t hr (fun s hs => ?_) i
    · have hg := hb i
      have e1 : itm g (piv g) * f i = (itm g (piv g) * f i - f (piv g) * itm g i) + f (piv g) * itm g i := by omega
      have e2 : (f i).natAbs ≤ (itm g (piv g) * f i).natAbs := by
        rw [Int.natAbs_mul]; exact Nat.le_mul_of_pos_left _ (Int.natAbs_pos.mpr gn)
      have e3 := Int.natAbs_add_le (itm g (piv g) * f i - f (piv g) * itm g i) (f (piv g) * itm g i)
      rw [← e1] at e3
      have e4 : (f (piv g) * itm g i).natAbs ≤ A * 2 ^ e0 := by rw [Int.natAbs_mul]; exact Nat.mul_le_mul hp hg
      have e6 : A * 2 ^ e0 ≤ A * 2 ^ e0 * 2 ^ (es.sum + 2 * es.length) := Nat.le_mul_of_pos_right _ (Nat.two_pow_pos _)
      rw [List.sum_cons, List.length_cons]
      have e7 : 2 * 2 ^ e0 * A * 2 ^ (es.sum + 2 * es.length) = 2 * (A * 2 ^ e0 * 2 ^ (es.sum + 2 * es.length)) := by grind
      have e8 : A * 2 ^ (e0 + es.sum + 2 * (es.length + 1)) = 4 * (A * 2 ^ e0 * 2 ^ (es.sum + 2 * es.length)) := by
        rw [show e0 + es.sum + 2 * (es.length + 1) = 2 + (e0 + (es.sum + 2 * es.length)) by omega, Nat.pow_add, Nat.pow_add 2 e0]
        grind
      rw [e7] at ih
      rw [e8]
      omega
    · have h1 := hA s (List.mem_cons_of_mem _ hs)
      have h2 := hb (piv g)
      have h3 := hb (piv s)
      have h4 : (itm g (piv g) * f (piv s)).natAbs ≤ 2 ^ e0 * A := by rw [Int.natAbs_mul]; exact Nat.mul_le_mul h2 h1
      have h5 : (f (piv g) * itm g (piv s)).natAbs ≤ A * 2 ^ e0 := by rw [Int.natAbs_mul]; exact Nat.mul_le_mul hp h3
      have h6 : 2 * 2 ^ e0 * A = 2 ^ e0 * A + A * 2 ^ e0 := by grind
      rw [h6]
      show (itm g (piv g) * f (piv s) - f (piv g) * itm g (piv s)).natAbs ≤ _
      omega
/-- a vector of the lattice that is small at the pivots is small -/
theorem G2.bound {x n A : Nat} {B : List Vec} (I : G2 x n B) {f : Nat → Int} (hf : ∀ G, (∀ s ∈ B, RIn G (itm s)) → RIn G f) (z : ∀ i, n ≤ i → f i = 0) (hA : ∀ s ∈ B, (f (Lat.piv s)).natAbs ≤ 2 ^ A) : ∀ i, (f i).natAbs ≤ 2 ^ (A + 2 * tot x (n - 1)) := by
  obtain ⟨G, es, eG, sz, hs, h1, h2⟩ := I.ex
  have at' : ∀ g ∈ G, (f (Lat.piv g)).natAbs ≤ 2 ^ A := by
    intro g hg
    have gn := eG.ne hg
    rcases lead I.eB (h1 g hg) with z | ⟨t, ht, a, ha, z, y⟩
    · exact absurd (z _) gn
    · have tn := I.eB.ne ht
      have e' : Lat.piv t = Lat.piv g := first_eq z (by rw [y]; exact Int.mul_ne_zero ha tn) (piv_spec g).1 gn
      rw [← e']; exact hA t ht
  have c := eG.count (Nat.zero_le _)
  intro i
  by_cases hfull : G.length = n
  · rcases Nat.lt_or_ge i n with hi | hi
    · obtain ⟨g, hg, e⟩ := Ech.full eG (by omega) i (Nat.zero_le _) hi
      have := at' g hg
      rw [e] at this
      exact Nat.le_trans this (p2le (by omega))
    · rw [z i hi]; exact Nat.zero_le _
  · have q := all_bound2 eG sz (hf G h2) at' i
    rw [← Nat.pow_add] at q
    have l := sz.len
    have := tot_le (x := x) (show G.length ≤ n - 1 by omega)
    exact Nat.le_trans q (p2le (by omega))
/-! ## the one basis -/
def Hn : List Vec → Prop
  | [] => True
  | r :: rs => (∀ s ∈ rs, 0 ≤ itm r (piv s) ∧ itm r (piv s) < itm s (piv s)) ∧ 0 < itm r (piv r) ∧ Hn rs
theorem Hn.pos : ∀ {B : List Vec}, Hn B → PosP B
  | [], _ => fun s h => nomatch h
  | r :: rs, h => fun s hs => by
    rcases List.mem_cons.mp hs with z | hs
    · rw [z]; exact h.2.1
    · exact Hn.pos h.2.2 s hs
theorem tidy_row {n c : Nat} {r : Vec} {rs : List Vec} (e : Ech n c (r :: rs)) : piv (redV (tidy rs) (posV r)) = piv r ∧ 0 < itm (redV (tidy rs) (posV r)) (piv r) := by
  have ih := tidy_ech e.2.2.2
  have lp : (posV r).length = n := (posV_length r).trans e.1
  have lo := redV_low ih lp
  have rn := e.ne List.mem_cons_self
  have pe : piv (redV (tidy rs) (posV r)) = piv r := piv_eq (fun i hi => by rw [lo i (by omega), ← Int.natAbs_eq_zero, posV_abs, (piv_spec r).1 i hi]; rfl) (by
    rw [lo _ (by omega)]
    intro q
    have := posV_abs r (piv r)
    rw [q] at this
    exact rn (by omega))
  refine ⟨pe, ?_⟩
  have := tidy_pos e (redV (tidy rs) (posV r)) (show redV (tidy rs) (posV r) ∈ tidy (r :: rs) from List.mem_cons_self)
  rw [pe] at this
  exact this
theorem tidy_hn {n : Nat} : ∀ {c : Nat} {B : List Vec}, Ech n c B → Hn (tidy B)
  | _, [], _ => trivial
  | c, r :: rs, e => by
    have ih := tidy_ech e.2.2.2
    have lp : (posV r).length = n := (posV_length r).trans e.1
    obtain ⟨pe, pp⟩ := tidy_row e
    unfold tidy
    exact ⟨redV_rng ih (tidy_pos e.2.2.2) lp, by rw [pe]; exact pp, tidy_hn e.2.2.2⟩
theorem In.tail {n c : Nat} {r : Vec} {rs : List Vec} {f : Nat → Int} (e : Ech n c (r :: rs)) (h : In (r :: rs) f) (z : f (piv r) = 0) : In rs f := by
  obtain ⟨a, h⟩ := h
  have h3 : f (piv r) - a * itm r (piv r) = 0 := In.low e.2.2.2 h (piv r) (by omega)
  have rn := e.ne (r := r) List.mem_cons_self
  have ha : a = 0 := by
    rw [z] at h3
    rcases Int.mul_eq_zero.mp (show a * itm r (piv r) = 0 by omega) with q | q
    · exact q
    · exact absurd q rn
  subst ha
  exact (In.cl rs).of (t := 0) h (In.cl rs).zero fun i => by omega
theorem hn_one {n : Nat} : ∀ {c d : Nat} {B T : List Vec}, Ech n c B → Ech n d T → Hn B → Hn T → (∀ r ∈ B, In T (itm r)) → (∀ r ∈ T, In B (itm r)) → B = T
  | _, _, [], [], _, _, _, _, _, _ => rfl
  | _, _, [], t :: ts, _, eT, _, _, _, h2 => absurd (h2 t List.mem_cons_self (piv t)) (eT.ne List.mem_cons_self)
  | _, _, r :: rs, [], eB, _, _, _, h1, _ => absurd (h1 r List.mem_cons_self (piv r)) (eB.ne List.mem_cons_self)
  | c, d, r :: rs, t :: ts, eB, eT, hB, hT, h1, h2 => by
    have rn := eB.ne (r := r) List.mem_cons_self
    have tn := eT.ne (r := t) List.mem_cons_self
    have low : ∀ {c : Nat} {r : Vec} {rs : List Vec}, Ech n c (r :: rs) → ∀ s ∈ r :: rs, piv r ≤ piv s := fun {c r rs} e s hs => by
      rcases List.mem_cons.mp hs with z | hs
      · rw [z]; exact Nat.le_refl _
      · have := (e.2.2.2.row s hs).2.1; omega
    rcases lead eT (h1 r List.mem_cons_self) with z | ⟨s, hs, a, ha, z, y⟩
    · exact absurd (z _) rn
    rcases lead eB (h2 t List.mem_cons_self) with z' | ⟨s', hs', b, hb, z', y'⟩
    · exact absurd (z' _) tn
    have e1 : piv r = piv s := first_eq (piv_spec r).1 rn z (by rw [y]; exact Int.mul_ne_zero ha (eT.ne hs))
    have e2 : piv t = piv s' := first_eq (piv_spec t).1 tn z' (by rw [y']; exact Int.mul_ne_zero hb (eB.ne hs'))
    have q1 := low eT s hs
    have q2 := low eB s' hs'
    have pp : piv r = piv t := by omega
    have es : s = t := eT.inj s hs t List.mem_cons_self (by omega)
    have es' : s' = r := eB.inj s' hs' r List.mem_cons_self (by omega)
    subst es es'
    have pr := hB.2.1
    have pt := hT.2.1
    rw [← e1] at y
    rw [← e2] at y'
    have v1 := mul_ge ha pt
    have v2 := mul_ge hb pr
    rw [← pp] at v1 y' pt
    rw [← y] at v1
    rw [← y'] at v2
    have val : itm s' (piv s') = itm s (piv s') := by omega
    have dB : In (s' :: rs) fun i => itm s' i - itm s i := (In.cl _).of (t := -1) (In.mem _ _ List.mem_cons_self) (h2 s List.mem_cons_self) fun i => by omega
    have dT : In (s :: ts) fun i => itm s' i - itm s i := (In.cl _).of (t := -1) (h1 s' List.mem_cons_self) (In.mem _ _ List.mem_cons_self) fun i => by omega
    have dB' := In.tail eB dB (by show itm s' (piv s') - itm s (piv s') = 0; omega)
    have dT' := In.tail eT dT (by show itm s' (piv s) - itm s (piv s) = 0; rw [← pp]; omega)
    have eq : s' = s := vec_ext (eB.1.trans eT.1.symm) (uniq (Ech.mono (Nat.zero_le _) eB.2.2.2) (Ech.mono (Nat.zero_le _) eT.2.2.2) (Hn.pos hB.2.2) (Hn.pos hT.2.2) hB.1 hT.1 dB' dT')
    have ih := hn_one eB.2.2.2 eT.2.2.2 hB.2.2 hT.2.2 (fun q hq => In.tail eT (h1 q (List.mem_cons_of_mem _ hq)) (by rw [← pp]; exact eB.2.2.2.zero hq (Nat.lt_succ_self _))) (fun q hq => In.tail eB (h2 q (List.mem_cons_of_mem _ hq)) (by rw [pp]; exact eT.2.2.2.zero hq (Nat.lt_succ_self _)))
    rw [eq, ih]
end Lat

namespace Lat
theorem tidy_back {n : Nat} : ∀ {c : Nat} {B : List Vec}, Ech n c B → ∀ t ∈ B, ∃ s ∈ tidy B, piv s = piv t ∧ (itm s (piv s)).natAbs = (itm t (piv t)).natAbs
  | _, [], _ => fun t h => nomatch h
  | c, r :: rs, e => fun t ht => by
    have ih := tidy_ech e.2.2.2
    have lp : (posV r).length = n := (posV_length r).trans e.1
    have pp := posV_piv r (e.1 ▸ e.2.2.1)
    have lo := redV_low ih lp
    obtain ⟨pe, _⟩ := tidy_row e
    rcases List.mem_cons.mp ht with z | ht
    · refine ⟨redV (tidy rs) (posV r), List.mem_cons_self, by rw [z]; exact pe, ?_⟩
      rw [z, pe, lo _ (by omega), posV_abs]
    · obtain ⟨s, hs, a, b⟩ := tidy_back e.2.2.2 t ht
      exact ⟨s, List.mem_cons_of_mem _ hs, a, b⟩
theorem Ech.split {n : Nat} : ∀ {c : Nat} {D C : List Vec}, Ech n c (D ++ C) → ∃ c', Ech n c' C ∧ ∀ t ∈ D, piv t < c'
  | c, [], C, e => ⟨c, e, fun t h => nomatch h⟩
  | c, d :: D, C, e => by
    obtain ⟨c', h1, h2⟩ := Ech.split (c := piv d + 1) (D := D) (C := C) e.2.2.2
    rcases Nat.lt_or_ge (piv d) c' with q | q
    · exact ⟨c', h1, fun t ht => (List.mem_cons.mp ht).elim (fun z => z ▸ q) (h2 t)⟩
    · cases D with
      | nil => exact ⟨piv d + 1, e.2.2.2, fun t ht => (List.mem_cons.mp ht).elim (fun z => by rw [z]; omega) (fun z => nomatch z)⟩
      | cons d' D' =>
        have q1 := h2 d' List.mem_cons_self
        have q2 : piv d + 1 ≤ piv d' := e.2.2.2.2.1
        omega
theorem hn_redd {n : Nat} : ∀ {c : Nat} {B : List Vec}, Ech n c B → Hn B → ∀ s ∈ B, ∀ r ∈ B, (itm r (piv s)).natAbs ≤ (itm s (piv s)).natAbs
  | _, [], _, _ => fun s h => nomatch h
  | c, t :: ts, e, h => fun s hs r hr => by
    rcases List.mem_cons.mp hs with z | hs
    · rcases List.mem_cons.mp hr with y | hr
      · rw [z, y]; exact Nat.le_refl _
      · have : itm r (piv s) = 0 := by rw [z]; exact e.2.2.2.zero hr (Nat.lt_succ_self _)
        rw [this]; exact Nat.zero_le _
    · rcases List.mem_cons.mp hr with y | hr
      · have := h.1 s hs
        rw [y]; omega
      · exact hn_redd e.2.2.2 h.2.2 s hs r hr
/-- small all over: what the ghosts say of a reduced basis -/
theorem G2.all {x n : Nat} {B : List Vec} (I : G2 x n B) (h : Hn B) : ∀ s ∈ B, ∀ i, (itm s i).natAbs ≤ 2 ^ (tot x n + 2 * tot x (n - 1)) := fun s hs =>
  I.bound (fun G q => q s hs) (fun i hi => itm_out (by rw [(I.eB.row s hs).1]; exact hi)) fun t ht => Nat.le_trans (hn_redd I.eB h t ht s hs) (I.piv t ht)
theorem G2.tails {x n : Nat} {B : List Vec} (I : G2 x n B) {C : List Vec} (hC : C <:+ B) : ∀ s ∈ tidy C, ∀ i, (itm s i).natAbs ≤ 2 ^ (tot x n + 2 * tot x (n - 1)) := by
  obtain ⟨D, e⟩ := hC
  have eB := I.eB
  rw [← e] at eB
  obtain ⟨c', eC, hD⟩ := eB.split
  have et := tidy_ech eC
  intro s hs
  refine I.bound (fun G q => (tidy_cl (RIn.cl G) C n fun r hr => (eC.row r hr).1).mpr (fun r hr => q r (by rw [← e]; exact List.mem_append_right _ hr)) s hs) (fun i hi => itm_out (by rw [(et.row s hs).1]; exact hi)) fun t ht => ?_
  have pt := I.piv t ht
  rw [← e] at ht
  rcases List.mem_append.mp ht with ht | ht
  · rw [et.zero hs (hD t ht)]; exact Nat.zero_le _
  · obtain ⟨t', ht', a, b⟩ := tidy_back eC t ht
    have := tidy_redd eC t' ht' s hs
    rw [b, a] at this
    exact Nat.le_trans this pt
end Lat
namespace K06
open PySem L2 RZ Lat
theorem stepped_sizeJ {n π : Nat} (hπ : π < 9000) : ∀ {c : Nat} {B : List Vec} {v : Vec} {τ : Nat}, Ech n c B → v.length = n → (∀ s ∈ B, (itm s (piv s)).natAbs ≤ 2 ^ π) → (∀ s ∈ B, ∀ i, (itm s i).natAbs ≤ 2 ^ τ) → (∀ i, (itm v i).natAbs ≤ 2 ^ τ) →
    2 * dbl B.length τ + 4 ≤ 134217728 → OkStep B v ∧ ∀ s ∈ stepped B v, ∀ i, (itm s i).natAbs ≤ 2 ^ dbl B.length τ
  | c, [], v, τ, _, _, _, _, hv, _ => by
    refine ⟨trivial, ?_⟩
    rw [stepped_nil]
    split
    · exact fun s h => nomatch h
    · exact fun s h i => by rw [List.mem_singleton.mp h]; exact hv i
  | c, r :: rs, v, τ, e, l, hp, hB, hv, hd => by
    obtain ⟨hp1, hp2⟩ := List.forall_mem_cons.mp hp
    obtain ⟨hB1, hB2⟩ := List.forall_mem_cons.mp hB
    have hd' : 2 * dbl rs.length (2 * τ + 2) + 4 ≤ 134217728 := hd
    have dg := dbl_ge rs.length (2 * τ + 2)
    have dm : dbl rs.length τ ≤ dbl rs.length (2 * τ + 2) := dbl_mono rs.length τ
    rw [stepped_cons]
    by_cases h : piv v < piv r
    · rw [if_pos h]
      have ih := stepped_sizeJ hπ (v := r) (τ := τ) e.2.2.2 e.1 hp2 hB2 hB1 (by omega)
      refine ⟨⟨e.1 ▸ e.2.2.1, .inl ⟨h, ih.1⟩⟩, List.forall_mem_cons.mpr ⟨fun i => Nat.le_trans (hv i) (Lat.p2le (show τ ≤ dbl rs.length (2 * τ + 2) by omega)), fun s hs i => Nat.le_trans (ih.2 s hs i) (Lat.p2le dm)⟩⟩
    · rw [if_neg h]
      have rn := e.ne (r := r) List.mem_cons_self
      obtain ⟨c1, c2⟩ := clear_len (i := piv r) (e.1.trans l.symm)
      have e3 : 4 * 2 ^ τ * 2 ^ τ = 2 ^ (2 * τ + 2) := by rw [show 2 * τ + 2 = 2 + τ + τ by omega, Nat.pow_add, Nat.pow_add]
      have cz := clear_size (n := n) (α := 1) (χ := 1) (by decide) (by decide) r v (piv r) (fun _ => True) (2 ^ τ) (2 ^ τ) e.1 l rn (Nat.two_pow_pos _) (hB1 _) (hv _) fun j _ => ⟨hB1 j, hv j⟩
      rw [e3] at cz
      have ok := clear_sizeJ (n := n) (π := π) (α := τ) (χ := 2 * τ + 2) hπ (by omega) r v (piv r) (2 ^ τ) (2 ^ τ) e.1 l rn hp1 (Nat.two_pow_pos _) (hB1 _) (hv _) (fun j => ⟨hB1 j, hv j⟩) (Nat.le_of_eq e3) (Nat.le_refl _)
      have ih := stepped_sizeJ hπ (v := (clear r v (piv r)).2) (τ := 2 * τ + 2) e.2.2.2 (c2.trans e.1) hp2 (fun s hs i => Nat.le_trans (hB2 s hs i) (Lat.p2le (by omega))) (fun i => (cz.1 i trivial).2) hd'
      exact ⟨⟨e.1 ▸ e.2.2.1, .inr ⟨h, ok, ih.1⟩⟩, List.forall_mem_cons.mpr ⟨fun i => Nat.le_trans (cz.1 i trivial).1 (Lat.p2le dg), ih.2⟩⟩
theorem tidy_sizeX {n π τ E : Nat} (hπ : π < 9000) (hτ : τ + 5 * (E + 1) + E + 6 ≤ 134217728) : ∀ {c : Nat} {B : List Vec}, Ech n c B → B.length ≤ 6 → (∀ s ∈ B, (itm s (piv s)).natAbs ≤ 2 ^ π) → (∀ s ∈ B, ∀ i, (itm s i).natAbs ≤ 2 ^ τ) → (∀ C, C <:+ B → ∀ s ∈ tidy C, ∀ i, (itm s i).natAbs ≤ 2 ^ E) → OkTidy B
  | c, [], _, _, _, _, _ => trivial
  | c, r :: rs, e, h6, hp, hB, hE => by
    obtain ⟨hp1, hp2⟩ := List.forall_mem_cons.mp hp
    obtain ⟨hB1, hB2⟩ := List.forall_mem_cons.mp hB
    rw [List.length_cons] at h6
    have ih := tidy_sizeX hπ hτ e.2.2.2 (by omega) hp2 hB2 fun C hC => hE C (hC.trans (List.suffix_cons r rs))
    have h' := tidy_ech e.2.2.2
    have lp : (posV r).length = n := (posV_length r).trans e.1
    have cnt : (tidy rs).length = rs.length := tidy_count
    have := Nat.mul_le_mul_right (E + 1) (show rs.length ≤ 5 by omega)
    have rz := redV_size hπ (v := posV r) (ξ := τ) h' lp (fun s hs => by
      obtain ⟨t, ht, q⟩ := tidy_pivs e.2.2.2 s hs
      rw [q]; exact hp2 t ht) (hE rs (List.suffix_cons r rs)) (fun i => by rw [posV_abs]; exact hB1 i) (by rw [cnt]; omega)
    refine ⟨ih, ⟨e.1 ▸ e.2.2.1, fun m hm => ?_⟩, rz.1⟩
    obtain ⟨i, rfl⟩ := mem_itm hm
    exact mul_ok (α := 1) (β := τ) (by decide) (hB1 i) (by omega)
theorem tot5 (x : Nat) : tot x 5 = 31 * (x + 1) := by simp only [tot]; omega
theorem tot4 (x : Nat) : tot x 4 = 15 * (x + 1) := by simp only [tot]; omega
theorem growX {x n : Nat} (n5 : n ≤ 5) (x1 : x ≤ 289) {B : List Vec} {v : Vec} (I : G2 x n B) (hn : Hn B) (l : v.length = n) (hv : ∀ i, (itm v i).natAbs ≤ 2 ^ x) : OkGrow B v ∧ G2 x n (grow B v) ∧ Hn (grow B v) := by
  have t5 := tot5 x
  have t4 := tot4 x
  have tn := tot_le (x := x) n5
  have tn1 := tot_le (x := x) (show n - 1 ≤ 4 by omega)
  have hp : ∀ s ∈ B, (itm s (piv s)).natAbs ≤ 2 ^ 8990 := fun s hs => Nat.le_trans (I.piv s hs) (Lat.p2le (by omega))
  have hall : ∀ s ∈ B, ∀ i, (itm s i).natAbs ≤ 2 ^ 17690 := fun s hs i => Nat.le_trans (I.all hn s hs i) (Lat.p2le (by omega))
  have cB : B.length ≤ 5 := by have := I.eB.count (Nat.zero_le _); omega
  have hm := Nat.mul_le_mul_right 17691 cB
  have rz := redV_size (π := 8990) (β := 17690) (ξ := x) (by decide) I.eB l hp hall hv (by omega)
  have ru : ∀ i, (itm (redV B v) i).natAbs ≤ 2 ^ 90000 := fun i => Nat.le_trans (rz.2 i) (Lat.p2le (by omega))
  have hlen : ∀ r ∈ B, r.length = v.length := fun r hr => ((I.eB.row r hr).1).trans l.symm
  have lu := redV_len B v hlen
  have hlen' : ∀ r ∈ B, r.length = (redV B v).length := fun r hr => (hlen r hr).trans lu.symm
  have d5 : dbl B.length 90000 ≤ 2880062 := Nat.le_trans (dbl_le cB 90000) (by decide)
  have st := stepped_sizeJ (n := n) (π := 8990) (τ := 90000) (by decide) I.eB (lu.trans l) hp (fun s hs i => Nat.le_trans (hall s hs i) (Lat.p2le (by decide))) ru (by omega)
  have es : Ech n 0 (stepped B (redV B v)) := stepped_ech I.eB (lu.trans l) (Nat.zero_le _) fun i hi => absurd hi (Nat.not_lt_zero _)
  have cs : (stepped B (redV B v)).length ≤ B.length + 1 := stepped_count
  have rc : ∀ {S : (Nat → Int) → Prop}, Cl S → (∀ r ∈ B, S (itm r)) → (S (itm (redV B v)) ↔ S (itm v)) := fun C => redV_cl C B v hlen
  have Is : G2 x n (stepped B (redV B v)) := I.step es l hv fun S C => by
    rw [stepped_cl C hlen']
    exact ⟨fun q => ⟨q.1, (rc C q.1).mp q.2⟩, fun q => ⟨q.1, (rc C q.1).mpr q.2⟩⟩
  have ps : ∀ s ∈ stepped B (redV B v), (itm s (piv s)).natAbs ≤ 2 ^ 8990 := fun s hs => Nat.le_trans (Is.piv s hs) (Lat.p2le (by omega))
  have td := tidy_sizeX (π := 8990) (τ := 2880062) (E := 17690) (by decide) (by decide) es (by omega) ps (fun s hs i => Nat.le_trans (st.2 s hs i) (Lat.p2le d5)) fun C hC s hs i => Nat.le_trans (Is.tails hC s hs i) (Lat.p2le (by omega))
  have eg : Ech n 0 (grow B v) := by
    unfold grow; split
    · exact I.eB
    · exact tidy_ech es
  refine ⟨⟨rz.1, .inr ⟨st.1, td, by omega⟩⟩, I.step eg l hv fun S C => grow_cl C hlen, ?_⟩
  unfold grow; split
  · exact hn
  · exact tidy_hn es
theorem growsX {x n : Nat} (n5 : n ≤ 5) (x1 : x ≤ 289) : ∀ (rs B : List Vec), G2 x n B → Hn B → (∀ r ∈ rs, r.length = n ∧ ∀ i, (itm r i).natAbs ≤ 2 ^ x) → OkGrows B rs ∧ G2 x n (grows B rs) ∧ Hn (grows B rs)
  | [], B, I, h, _ => ⟨trivial, I, h⟩
  | v :: vs, B, I, h, hr => by
    obtain ⟨⟨l, w⟩, h2⟩ := List.forall_mem_cons.mp hr
    obtain ⟨g1, g2, g3⟩ := growX n5 x1 I h l w
    have ih := growsX n5 x1 vs (grow B v) g2 g3 h2
    have := I.eB.count (Nat.zero_le _)
    exact ⟨⟨g1, by omega, ih.1⟩, ih.2⟩
/-- a basis of the lattice of some rows -/
structure Bas (n : Nat) (gens B : List Vec) : Prop where
  ech : Ech n 0 B
  hn : Hn B
  cl : ∀ S, Cl S → ((∀ r ∈ B, S (itm r)) ↔ ∀ r ∈ gens, S (itm r))
theorem grows_bas {n : Nat} : ∀ (rs B gens : List Vec), Bas n gens B → (∀ r ∈ rs, r.length = n) → Bas n (gens ++ rs) (grows B rs)
  | [], B, gens, b, _ => by rw [List.append_nil]; exact b
  | v :: vs, B, gens, b, h => by
    obtain ⟨l, h2⟩ := List.forall_mem_cons.mp h
    have hlen : ∀ r ∈ B, r.length = v.length := fun r hr => ((b.ech.row r hr).1).trans l.symm
    have lu := (redV_len B v hlen).trans l
    have es : Ech n 0 (stepped B (redV B v)) := stepped_ech b.ech lu (Nat.zero_le _) fun i hi => absurd hi (Nat.not_lt_zero _)
    have b' : Bas n (gens ++ [v]) (grow B v) := by
      refine ⟨?_, ?_, fun S C => ?_⟩
      · unfold grow; split
        · exact b.ech
        · exact tidy_ech es
      · unfold grow; split
        · exact b.hn
        · exact tidy_hn es
      · rw [grow_cl C hlen, b.cl S C, List.forall_mem_append]
        exact ⟨fun q => ⟨q.1, fun r hr => by rw [List.mem_singleton.mp hr]; exact q.2⟩, fun q => ⟨q.1, q.2 v (List.mem_singleton.mpr rfl)⟩⟩
    have ih := grows_bas vs (grow B v) (gens ++ [v]) b' h2
    rw [List.append_assoc] at ih
    exact ih
theorem bas0 (n : Nat) : Bas n [] [] := ⟨trivial, trivial, fun S C => Iff.rfl⟩
theorem bas_of {n : Nat} {rs : List Vec} (h : ∀ r ∈ rs, r.length = n) : Bas n rs (grows [] rs) := grows_bas rs [] [] (bas0 n) h
/-- one lattice has one basis -/
theorem bas_one {n : Nat} {g g' B B' : List Vec} (b : Bas n g B) (b' : Bas n g' B') (h : ∀ S, Cl S → ((∀ r ∈ g, S (itm r)) ↔ ∀ r ∈ g', S (itm r))) : B = B' := by
  refine hn_one b.ech b'.ech b.hn b'.hn ?_ ?_
  · exact (b.cl _ (In.cl _)).mpr ((h _ (In.cl _)).mpr ((b'.cl _ (In.cl _)).mp fun r hr => In.mem _ _ hr))
  · exact (b'.cl _ (In.cl _)).mpr ((h _ (In.cl _)).mp ((b.cl _ (In.cl _)).mp fun r hr => In.mem _ _ hr))
end K06

namespace Lat
theorem G2.small {x n M : Nat} {B : List Vec} (I : G2 x n B) (hn : Hn B) (h1 : tot x n ≤ M) (h2 : 2 * tot x (n - 1) ≤ M) : ∀ s ∈ B, ∀ i, (itm s i).natAbs ≤ 2 ^ M := by
  obtain ⟨G, es, eG, sz, hs, q1, q2⟩ := I.ex
  intro s hs'
  have pv : ∀ t ∈ B, (itm t (Lat.piv t)).natAbs ≤ 2 ^ es.sum := fun t ht => by
    obtain ⟨g, hg, _, q⟩ := piv_bound I.eB eG q1 q2 t ht
    exact Nat.le_trans q (sz.mem g hg _)
  have at' : ∀ g ∈ G, (itm s (Lat.piv g)).natAbs ≤ 2 ^ es.sum := by
    intro g hg
    have gn := eG.ne hg
    rcases lead I.eB (q1 g hg) with z | ⟨t, ht, a, ha, z, y⟩
    · exact absurd (z _) gn
    · have tn := I.eB.ne ht
      have e' : Lat.piv t = Lat.piv g := first_eq z (by rw [y]; exact Int.mul_ne_zero ha tn) (piv_spec g).1 gn
      rw [← e']
      exact Nat.le_trans (hn_redd I.eB hn t ht s hs') (pv t ht)
  have c := eG.count (Nat.zero_le _)
  have l := sz.len
  intro i
  by_cases hfull : G.length = n
  · rcases Nat.lt_or_ge i n with hi | hi
    · obtain ⟨g, hg, e⟩ := Ech.full eG (by omega) i (Nat.zero_le _) hi
      have := at' g hg
      rw [e] at this
      rw [hfull] at hs
      exact Nat.le_trans this (p2le (by omega))
    · rw [itm_out (by rw [(I.eB.row s hs').1]; exact hi)]; exact Nat.zero_le _
  · have q := all_bound2 eG sz (q2 s hs') at' i
    rw [← Nat.pow_add] at q
    have := tot_le (x := x) (show G.length ≤ n - 1 by omega)
    exact Nat.le_trans q (p2le (by omega))
/-! ## how many rows -/
def gho (C : List Vec) : List Vec := C.foldl insG []
theorem foldG {n : Nat} : ∀ (C G : List Vec), Ech n 0 G → (∀ c ∈ C, c.length = n) → Ech n 0 (C.foldl insG G) ∧ (C.foldl insG G).length ≤ G.length + C.length ∧ (∀ f, RIn G f → RIn (C.foldl insG G) f) ∧ ∀ c ∈ C, RIn (C.foldl insG G) (itm c)
  | [], G, e, _ => ⟨e, Nat.le_refl _, fun f h => h, fun c h => nomatch h⟩
  | c :: C, G, e, h => by
    have lc := h c List.mem_cons_self
    have e' : Ech n 0 (insG G c) := insG_ech e lc (Nat.zero_le _) fun i hi => absurd hi (Nat.not_lt_zero _)
    obtain ⟨a1, a2, a3, a4⟩ := foldG C (insG G c) e' fun d hd => h d (List.mem_cons_of_mem _ hd)
    have cnt := insG_count (G := G) (v := c)
    refine ⟨a1, ?_, fun f hf => a3 f ?_, fun d hd => ?_⟩
    · rw [List.foldl_cons, List.length_cons]; omega
    · obtain ⟨D, hD, q⟩ := hf
      exact ⟨D, hD, In.sub (In.cl _) (fun g hg => insG_old g hg) q⟩
    · rcases List.mem_cons.mp hd with z | hd
      · rw [z]; exact a3 _ (insG_new e lc)
      · exact a4 d hd
theorem pivs_le {n : Nat} : ∀ {c d : Nat} {B G : List Vec}, Ech n c B → Ech n d G → (∀ s ∈ B, ∃ g ∈ G, piv g = piv s) → B.length ≤ G.length
  | _, _, [], _, _, _, _ => Nat.zero_le _
  | c, d, r :: rs, [], _, _, h => by obtain ⟨g, hg, _⟩ := h r List.mem_cons_self; exact nomatch hg
  | c, d, r :: rs, g :: gs, eB, eG, h => by
    rw [List.length_cons, List.length_cons]
    refine Nat.succ_le_succ (pivs_le eB.2.2.2 eG.2.2.2 fun s hs => ?_)
    obtain ⟨t, ht, q⟩ := h s (List.mem_cons_of_mem _ hs)
    rcases List.mem_cons.mp ht with z | ht
    · subst z
      obtain ⟨t', ht', q'⟩ := h r List.mem_cons_self
      have h1 := (eB.2.2.2.row s hs).2.1
      rcases List.mem_cons.mp ht' with z' | ht'
      · subst z'; omega
      · have h2 := (eG.2.2.2.row t' ht').2.1; omega
    · exact ⟨t, ht, q⟩
theorem rank_le {n : Nat} {B C : List Vec} (eB : Ech n 0 B) (lC : ∀ c ∈ C, c.length = n) (h : ∀ S, Cl S → (∀ c ∈ C, S (itm c)) → ∀ r ∈ B, S (itm r)) : B.length ≤ C.length := by
  obtain ⟨a1, a2, _, a4⟩ := foldG C [] (n := n) trivial lC
  have hB := h _ (RIn.cl (C.foldl insG [])) a4
  have := pivs_le eB a1 fun s hs => by
    obtain ⟨D, hD, q⟩ := hB s hs
    have sn := eB.ne hs
    rcases lead a1 q with z | ⟨g, hg, a, ha, z, y⟩
    · exact absurd (z (piv s)) (Int.mul_ne_zero hD sn)
    · have gn := a1.ne hg
      refine ⟨g, hg, ?_⟩
      refine first_eq (f := itm s) (fun i hi => ?_) (fun q => ?_) (piv_spec s).1 sn
      · rcases Int.mul_eq_zero.mp (z i hi) with w | w
        · exact absurd w hD
        · exact w
      · have : D * itm s (piv g) = 0 := by rw [q, Int.mul_zero]
        rw [this] at y
        exact Int.mul_ne_zero ha gn y.symm
  rw [List.length_nil] at a2
  omega
/-! ## multiples, turned about -/
def scV (t : Int) (v : Vec) : Vec := v.map fun x => t * x
theorem scV_len (t : Int) (v : Vec) : (scV t v).length = v.length := List.length_map ..
theorem scV_itm (t : Int) (v : Vec) (i : Nat) : itm (scV t v) i = t * itm v i := by
  unfold itm scV
  rw [List.getD_eq_getElem?_getD, List.getD_eq_getElem?_getD, List.getElem?_map]
  cases v[i]? with
  | none => show (0 : Int) = t * 0; omega
  | some x => rfl
theorem scV_piv {t : Int} (ht : t ≠ 0) {v : Vec} (h : piv v < v.length) : piv (scV t v) = piv v :=
  piv_eq (fun i hi => by rw [scV_itm, (piv_spec v).1 i hi]; omega) (by rw [scV_itm]; exact Int.mul_ne_zero ht ((piv_spec v).2 h))
theorem scV_ech {n : Nat} {t : Int} (ht : t ≠ 0) : ∀ {c : Nat} {B : List Vec}, Ech n c B → Ech n c (B.map (scV t))
  | _, [], _ => trivial
  | c, r :: rs, e => by
    have p := scV_piv ht (v := r) (e.1 ▸ e.2.2.1)
    refine ⟨(scV_len t r).trans e.1, by rw [p]; exact e.2.1, by rw [p]; exact e.2.2.1, ?_⟩
    rw [p]; exact scV_ech ht e.2.2.2
theorem scV_hn {n : Nat} {t : Int} (ht : 0 < t) : ∀ {c : Nat} {B : List Vec}, Ech n c B → Hn B → Hn (B.map (scV t))
  | _, [], _, _ => trivial
  | c, r :: rs, e, h => by
    have p := scV_piv (show t ≠ 0 by omega) (v := r) (e.1 ▸ e.2.2.1)
    refine ⟨fun s hs => ?_, by show 0 < itm (scV t r) (piv (scV t r)); rw [p, scV_itm]; exact Int.mul_pos ht h.2.1, scV_hn ht e.2.2.2 h.2.2⟩
    obtain ⟨u, hu, rfl⟩ := List.mem_map.mp hs
    obtain ⟨l, _, q⟩ := e.2.2.2.row u hu
    have p' := scV_piv (show t ≠ 0 by omega) (v := u) (l ▸ q)
    rw [p', scV_itm, scV_itm]
    obtain ⟨h1, h2⟩ := h.1 u hu
    exact ⟨Int.mul_nonneg (by omega) h1, Int.mul_lt_mul_of_pos_left h2 ht⟩
def Rv (n : Nat) (f : Nat → Int) : Nat → Int := fun i => if i < n then f (n - 1 - i) else 0
theorem Rv_rev {n : Nat} {v : Vec} (l : v.length = n) : itm v.reverse = Rv n (itm v) := by
  funext i
  unfold Rv
  by_cases hi : i < n
  · rw [if_pos hi]
    unfold itm
    rw [List.getD_eq_getElem?_getD, List.getD_eq_getElem?_getD, List.getElem?_reverse (by omega), l]
  · rw [if_neg hi]
    exact itm_out (by rw [List.length_reverse]; omega)
theorem Cl.rv {S : (Nat → Int) → Prop} (C : Cl S) (n : Nat) : Cl fun f => S (Rv n f) :=
  ⟨by
    show S (Rv n fun _ => 0)
    rw [show Rv n (fun _ => 0) = fun _ => 0 from funext fun i => by unfold Rv; split <;> rfl]
    exact C.zero, fun f h t a b => C.of (t := t) a b fun i => by
    show Rv n (fun i => f i + t * h i) i = _
    unfold Rv
    split
    · rfl
    · omega⟩
theorem Cl.sc {S : (Nat → Int) → Prop} (C : Cl S) (t : Int) : Cl fun f => S fun i => t * f i :=
  ⟨C.of (t := 0) C.zero C.zero fun i => by show t * (0 : Int) = 0 + 0 * 0; omega, fun f h a x y => C.of (t := a) x y fun i => by grind⟩
end Lat
namespace K06
open PySem L2 RZ Lat
/-! ## the divisor -/
def lin : Vec → (Nat → Int) → Int
  | [], _ => 0
  | x :: f, h => h 0 * x + lin f fun i => h (i + 1)
theorem lin_zero : ∀ f : Vec, (lin f fun _ => 0) = 0
  | [] => rfl
  | x :: f => by
    show 0 * x + lin f (fun _ => 0) = 0
    rw [lin_zero f]; omega
theorem lin_add (t : Int) : ∀ (f : Vec) (h k : Nat → Int), (lin f fun i => h i + t * k i) = lin f h + t * lin f k
  | [], _, _ => by show (0 : Int) = 0 + t * 0; omega
  | x :: f, h, k => by
    have ih := lin_add t f (fun i => h (i + 1)) fun i => k (i + 1)
    show (h 0 + t * k 0) * x + lin f (fun i => h (i + 1) + t * k (i + 1)) = (h 0 * x + lin f fun i => h (i + 1)) + t * (k 0 * x + lin f fun i => k (i + 1))
    rw [ih]; grind
theorem lin_dotV : ∀ f v : Vec, dotV f v = lin f (itm v)
  | [], v => by cases v <;> rfl
  | x :: f, [] => by
    have e : itm [] = fun _ => 0 := by funext i; rfl
    rw [e, lin_zero]; rfl
  | x :: f, y :: v => by
    have ih := lin_dotV f v
    have e : dotV (x :: f) (y :: v) = y * x + dotV f v := rfl
    rw [e, ih]; rfl
theorem div_cl (f : Vec) (d : Int) : Cl fun h => d ∣ lin f h :=
  ⟨by show d ∣ lin f (fun _ => 0); rw [lin_zero]; exact Int.dvd_zero _, fun h k t a b => by
    show d ∣ lin f (fun i => h i + t * k i)
    rw [lin_add]; exact Int.dvd_add a (Int.dvd_mul_of_dvd_right b)⟩
theorem dvd_fold (d : Nat) (f : Vec) : ∀ (rs : List Vec) (m : Nat), d ∣ rs.foldl (fun m r => Nat.gcd m (dotV f r).natAbs) m ↔ d ∣ m ∧ ∀ r ∈ rs, (d : Int) ∣ lin f (itm r)
  | [], m => ⟨fun h => ⟨h, fun r h => nomatch h⟩, fun h => h.1⟩
  | r :: rs, m => by
    rw [List.foldl_cons, dvd_fold d f rs, Nat.dvd_gcd_iff, List.forall_mem_cons, ← lin_dotV, Int.ofNat_dvd_left, and_assoc]
theorem dvd_gcdV (d : Nat) (f : Vec) (rs : List Vec) : d ∣ gcdV f rs ↔ ∀ r ∈ rs, (d : Int) ∣ lin f (itm r) := by
  unfold gcdV
  rw [dvd_fold]
  exact ⟨fun h => h.2, fun h => ⟨Nat.dvd_zero _, h⟩⟩
theorem gcdV_bas {n : Nat} {gens B : List Vec} (b : Bas n gens B) (f : Vec) : gcdV f B = gcdV f gens :=
  Nat.dvd_antisymm ((dvd_gcdV _ _ _).mpr ((b.cl _ (div_cl f _)).mp ((dvd_gcdV _ _ _).mp (Nat.dvd_refl _)))) ((dvd_gcdV _ _ _).mpr ((b.cl _ (div_cl f _)).mpr ((dvd_gcdV _ _ _).mp (Nat.dvd_refl _))))
theorem gcdV_append (f : Vec) (rs us : List Vec) : gcdV f (rs ++ us) = Nat.gcd (gcdV f rs) (gcdV f us) := by
  refine Nat.dvd_antisymm (Nat.dvd_gcd ((dvd_gcdV _ _ _).mpr fun r hr => (dvd_gcdV _ _ _).mp (Nat.dvd_refl _) r (List.mem_append_left _ hr)) ((dvd_gcdV _ _ _).mpr fun r hr => (dvd_gcdV _ _ _).mp (Nat.dvd_refl _) r (List.mem_append_right _ hr))) ((dvd_gcdV _ _ _).mpr fun r hr => ?_)
  rcases List.mem_append.mp hr with hr | hr
  · exact (dvd_gcdV _ _ _).mp (Nat.gcd_dvd_left _ _) r hr
  · exact (dvd_gcdV _ _ _).mp (Nat.gcd_dvd_right _ _) r hr
theorem dot_sc (t : Int) (f v : Vec) : dotV f (scV t v) = t * dotV f v := by
  rw [lin_dotV, lin_dotV]
  have := lin_add t f (fun _ => 0) (itm v)
  rw [lin_zero] at this
  rw [show itm (scV t v) = fun i => (fun _ => (0 : Int)) i + t * itm v i from funext fun i => by rw [scV_itm]; show t * itm v i = 0 + t * itm v i; omega, this]; omega
theorem gcdV_sc (t : Nat) (f : Vec) : ∀ (rs : List Vec) (m : Nat), (rs.map (scV (t : Int))).foldl (fun m r => Nat.gcd m (dotV f r).natAbs) (t * m) = t * rs.foldl (fun m r => Nat.gcd m (dotV f r).natAbs) m
  | [], m => rfl
  | r :: rs, m => by
    rw [List.map_cons, List.foldl_cons, List.foldl_cons, dot_sc, Int.natAbs_mul, Int.natAbs_natCast, Nat.gcd_mul_left, gcdV_sc t f rs]
theorem gcdV_times (t : Nat) (f : Vec) (rs : List Vec) : gcdV f (rs.map (scV (t : Int))) = t * gcdV f rs := by
  have := gcdV_sc t f rs 0
  rw [Nat.mul_zero] at this
  exact this
/-! ## what the law asks -/
def Small (n : Nat) (rs : List Vec) : Prop := ∀ r ∈ rs, r.length = n ∧ ∀ i, (itm r i).natAbs ≤ 2 ^ 8
theorem Small.len {n : Nat} {rs : List Vec} (h : Small n rs) : ∀ r ∈ rs, r.length = n := fun r hr => (h r hr).1
theorem Small.append {n : Nat} {rs us : List Vec} (h : Small n rs) (g : Small n us) : Small n (rs ++ us) := fun r hr => (List.mem_append.mp hr).elim (h r) (g r)
structure Nice (n : Nat) (rs B : List Vec) : Prop where
  ok : OkGrows [] rs
  bas : Bas n rs B
  size : ∀ s ∈ B, ∀ i, (itm s i).natAbs ≤ 2 ^ 289
theorem Nice.len {n : Nat} {rs B : List Vec} (h : Nice n rs B) : ∀ r ∈ B, r.length = n := fun r hr => (h.bas.ech.row r hr).1
theorem Nice.count {n : Nat} {rs B : List Vec} (h : Nice n rs B) : B.length ≤ n := by have := h.bas.ech.count (Nat.zero_le _); omega
theorem small_nice {n : Nat} (n5 : n ≤ 5) {rs : List Vec} (h : Small n rs) : Nice n rs (grows [] rs) := by
  obtain ⟨a, b, c⟩ := growsX (x := 8) n5 (by decide) rs [] (G2.nil 8 n) trivial h
  have t5 := tot5 8
  have t4 := tot4 8
  have q1 := tot_le (x := 8) n5
  have q2 := tot_le (x := 8) (show n - 1 ≤ 4 by omega)
  exact ⟨a, bas_of h.len, b.small c (by omega) (by omega)⟩
/-- rows of two such lattices are put together -/
theorem wide_ok {n : Nat} (n5 : n ≤ 5) {rs : List Vec} (h : ∀ r ∈ rs, r.length = n ∧ ∀ i, (itm r i).natAbs ≤ 2 ^ 289) : OkGrows [] rs := (growsX (x := 289) n5 (by decide) rs [] (G2.nil 289 n) trivial h).1
theorem Nice.wide {n : Nat} {rs B : List Vec} (h : Nice n rs B) : ∀ r ∈ B, r.length = n ∧ ∀ i, (itm r i).natAbs ≤ 2 ^ 289 := fun r hr => ⟨h.len r hr, h.size r hr⟩
theorem Nice.two {n : Nat} (n5 : n ≤ 5) {rs us B D : List Vec} (h : Nice n rs B) (g : Nice n us D) : OkGrows [] (B ++ D) := wide_ok n5 fun r hr => (List.mem_append.mp hr).elim (h.wide r) (g.wide r)
theorem or_bas {n : Nat} {rs us B D : List Vec} (h : Bas n rs B) (g : Bas n us D) : Bas n (rs ++ us) (grows [] (B ++ D)) := by
  have lB : ∀ r ∈ B ++ D, r.length = n := fun r hr => (List.mem_append.mp hr).elim (fun q => (h.ech.row r q).1) (fun q => (g.ech.row r q).1)
  have b := bas_of lB
  refine ⟨b.ech, b.hn, fun S C => ?_⟩
  rw [b.cl S C, List.forall_mem_append, List.forall_mem_append, h.cl S C, g.cl S C]
theorem or_eq {n : Nat} (n5 : n ≤ 5) {rs us : List Vec} (h : Small n rs) (g : Small n us) : grows [] (grows [] rs ++ grows [] us) = grows [] (rs ++ us) :=
  bas_one (or_bas (bas_of h.len) (bas_of g.len)) (bas_of (h.append g).len) fun S C => Iff.rfl
theorem Nice.red {n : Nat} (n5 : n ≤ 5) {rs B : List Vec} (h : Nice n rs B) {v : Vec} (l : v.length = n) (hv : ∀ i, (itm v i).natAbs ≤ 2 ^ 289) : OkRed B v := by
  have c := h.count
  have := Nat.mul_le_mul_right 290 (show B.length ≤ 5 by omega)
  exact (redV_size (π := 289) (β := 289) (ξ := 289) (by decide) h.bas.ech l (fun s hs => h.size s hs _) h.size hv (by omega)).1
theorem mem_bas {n : Nat} {gens B : List Vec} (b : Bas n gens B) {v : Vec} (l : v.length = n) : piv (redV B v) = (redV B v).length ↔ ∀ S, Cl S → (∀ r ∈ gens, S (itm r)) → S (itm v) := by
  have lB : ∀ r ∈ B, r.length = v.length := fun r hr => (b.ech.row r hr).1.trans l.symm
  constructor
  · exact fun h S C q => In.sub C ((b.cl S C).mpr q) (red_in lB h)
  · exact fun h => red_zero b.ech l (h _ (In.cl B) ((b.cl _ (In.cl B)).mp fun r hr => In.mem _ _ hr))
theorem leV_iff' {n : Nat} {rs us B D : List Vec} (b : Bas n rs B) (d : Bas n us D) (leD : Bool) (e : leD = (D.map fun r => decide (piv (redV B r) = (redV B r).length)).all id) : leD = true ↔ ∀ S, Cl S → (∀ r ∈ rs, S (itm r)) → ∀ r ∈ us, S (itm r) := by
  rw [e, List.all_map, List.all_eq_true]
  constructor
  · intro h S C q
    refine (d.cl S C).mp fun r hr => ?_
    have := h r hr
    simp only [Function.comp, id, decide_eq_true_eq] at this
    exact (mem_bas b (d.ech.row r hr).1).mp this S C q
  · intro h r hr
    simp only [Function.comp, id, decide_eq_true_eq]
    exact (mem_bas b (d.ech.row r hr).1).mpr fun S C q => (d.cl S C).mpr (h S C q) r hr
theorem sc_bas {n : Nat} {t : Int} (ht : 0 < t) {rs B : List Vec} (b : Bas n rs B) : Bas n (rs.map (scV t)) (B.map (scV t)) := by
  refine ⟨scV_ech (by omega) b.ech, scV_hn ht b.ech b.hn, fun S C => ?_⟩
  have q := b.cl _ (C.sc t)
  have e : ∀ v : Vec, itm (scV t v) = fun i => t * itm v i := fun v => funext (scV_itm t v)
  simp only [List.forall_mem_map, e]
  exact q
theorem rev_cl {n : Nat} {rs : List Vec} (l : ∀ r ∈ rs, r.length = n) {S : (Nat → Int) → Prop} : (∀ r ∈ rs.map List.reverse, S (itm r)) ↔ ∀ r ∈ rs, S (Rv n (itm r)) := by
  rw [List.forall_mem_map]
  exact ⟨fun h r hr => by rw [← Rv_rev (l r hr)]; exact h r hr, fun h r hr => by rw [Rv_rev (l r hr)]; exact h r hr⟩
theorem rev_rev {n : Nat} {rs : List Vec} (l : ∀ r ∈ rs, r.length = n) {S : (Nat → Int) → Prop} : (∀ r ∈ rs.map List.reverse, S (Rv n (itm r))) ↔ ∀ r ∈ rs, S (itm r) := by
  rw [List.forall_mem_map]
  have e : ∀ r ∈ rs, Rv n (itm r.reverse) = itm r := fun r hr => by
    rw [← Rv_rev (by rw [List.length_reverse]; exact l r hr), List.reverse_reverse]
  exact ⟨fun h r hr => by rw [← e r hr]; exact h r hr, fun h r hr => by rw [e r hr]; exact h r hr⟩
/-- turned about and back -/
theorem turn_cl {n : Nat} {rs B : List Vec} (l : ∀ r ∈ rs, r.length = n) (b : Bas n (rs.map List.reverse) B) (S : (Nat → Int) → Prop) (C : Cl S) : (∀ r ∈ B.map List.reverse, S (itm r)) ↔ ∀ r ∈ rs, S (itm r) := by
  rw [rev_cl (fun r hr => (b.ech.row r hr).1), b.cl _ (C.rv n), rev_rev l]
theorem turn_rank {n : Nat} {rs A B : List Vec} (l : ∀ r ∈ rs, r.length = n) (a : Bas n rs A) (b : Bas n (rs.map List.reverse) B) : B.length = A.length := by
  have l' : ∀ r ∈ rs.map List.reverse, r.length = n := fun r hr => by
    obtain ⟨u, hu, rfl⟩ := List.mem_map.mp hr
    rw [List.length_reverse]; exact l u hu
  have ll : ∀ {D : List Vec}, (∀ r ∈ D, r.length = n) → ∀ r ∈ D.map List.reverse, r.length = n := fun {D} h r hr => by
    obtain ⟨u, hu, rfl⟩ := List.mem_map.mp hr
    rw [List.length_reverse]; exact h u hu
  have h1 := rank_le (C := B.map List.reverse) a.ech (ll fun r hr => (b.ech.row r hr).1) fun S C q => (a.cl S C).mpr ((turn_cl l b S C).mp q)
  have h2 := rank_le (C := A.map List.reverse) b.ech (ll fun r hr => (a.ech.row r hr).1) fun S C q => (b.cl S C).mpr (by
    rw [rev_cl l]
    rw [rev_cl (fun r hr => (a.ech.row r hr).1)] at q
    exact (a.cl _ (C.rv n)).mp q)
  rw [List.length_map] at h1 h2
  omega
end K06

namespace K06
open PySem L2 RZ Lat
structure ClsT (K : PySem.W.Frag) (C : Addr) : Prop where
  two : Two K C
  ha : PySem.W.findIn K (.ref C) "__class__" = some (some (.builtin "object.__class__"))
  hn : PySem.W.specialIn K (.builtin "object.__class__") "__get__" = some (some (.builtin "getset_descriptor.__get__"))
  htk : PySem.W.takesIn K (.builtin "object.__class__") = some true
  kk : PySem.W.kitOne K (.ref C) (.ref C) = some true
structure ClsF (K : PySem.W.Frag) (mg : Str → Option Value) (D : Addr) : Prop where
  cl : Cls K D
  nW : NoAttr K D "width"
  nP : NoAttr K D "point"
  nB : NoAttr K D "basis"
  m : mg "Factors" = some (.ref D)
theorem ints_eq_all : ∀ v u : Vec, PyData.eqvAll (v.map PyData.int) (u.map PyData.int) = decide (v = u)
  | [], [] => by decide +kernel
  | [], m :: u => by simp [PyData.eqvAll]
  | n :: v, [] => by simp [PyData.eqvAll]
  | n :: v, m :: u => by
    have := ints_eq_all v u
    simp only [List.map_cons, PyData.eqvAll, PyData.eqv, this, List.cons.injEq]
    by_cases h : n = m
    · subst h; simp
    · simp [h]
theorem rows_eq_all : ∀ v u : List Vec, PyData.eqvAll (v.map rowD) (u.map rowD) = decide (v = u)
  | [], [] => by decide +kernel
  | [], m :: u => by simp [PyData.eqvAll]
  | n :: v, [] => by simp [PyData.eqvAll]
  | n :: v, m :: u => by
    have h1 := rows_eq_all v u
    have h2 := ints_eq_all n m
    simp only [List.map_cons, PyData.eqvAll, rowD, PyData.eqv, h2, List.cons.injEq]
    rw [show PyData.eqvAll (v.map rowD) (u.map rowD) = decide (v = u) from h1]
    by_cases h : n = m
    · subst h; simp
    · simp [h]
theorem rowsT_shaped (rs : List Vec) : SeqAt.shaped (.tuple (rs.map rowD)) = true := by
  have := rows_shaped rs
  have h1 : (PyData.canLay0 (.list (rs.map rowD)) && decide (PyData.depth (.list (rs.map rowD)) ≤ 64)) = true := this
  show (PyData.canLay0 (.tuple (rs.map rowD)) && decide (PyData.depth (.tuple (rs.map rowD)) ≤ 64)) = true
  simp only [PyData.canLay0, PyData.depth] at h1 ⊢
  exact h1
theorem tup_shaped (v : Vec) : SeqAt.shaped (.tuple (v.map PyData.int)) = true := by
  have := intsD_shaped v
  have h1 : (PyData.canLay0 (.list (v.map PyData.int)) && decide (PyData.depth (.list (v.map PyData.int)) ≤ 64)) = true := this
  show (PyData.canLay0 (.tuple (v.map PyData.int)) && decide (PyData.depth (.tuple (v.map PyData.int)) ≤ 64)) = true
  simp only [PyData.canLay0, PyData.depth] at h1 ⊢
  exact h1
theorem tup_eq (v u : Vec) : PyData.eqv (.tuple (v.map PyData.int)) (.tuple (u.map PyData.int)) = decide (v = u) := by
  simp only [PyData.eqv]; exact ints_eq_all v u
theorem rowsT_eq (v u : List Vec) : PyData.eqv (.tuple (v.map rowD)) (.tuple (u.map rowD)) = decide (v = u) := rows_eq_all v u
theorem tup_dp {K : PySem.W.Frag} {H : Hp} {a : Addr} {v : Vec} (h : IsV H a v) : Dp K H (.ref a) (.tuple (v.map PyData.int)) := .tup (SqT.of h) (ints_dp v)
theorem Rows.lst {D : Addr} {xs : List V} {H H' : Hp} {n : Nat} {as : List V} {vs : List Vec} (hD : H D = some (.lst xs)) (s : But D H H') (h : Rows H n as vs) : Rows H' n as vs :=
  ⟨Paired.mapP h.1 fun x v z => by
    obtain ⟨a, e, q⟩ := z
    exact ⟨a, e, s _ _ (ne_of q hD fun y => nomatch y) q⟩, h.2⟩
/-! ## a set of factors -/
def unitV (n p : Nat) : Vec := (List.range n).map fun a => if a = p then 1 else 0
def unitRows (n : Nat) : List Vec := (List.range n).map (unitV n)
theorem unitV_len (n p : Nat) : (unitV n p).length = n := by unfold unitV; rw [List.length_map, List.length_range]
theorem unitV_at {n p a : Nat} (h : a < n) : (unitV n p)[a]? = some (if a = p then 1 else 0) := by
  unfold unitV; rw [List.getElem?_map, List.getElem?_range h]; rfl
def ff (n : Int) (pv : V) (b : Addr) : List (Str × V) := putF "basis" (.ref b) (putF "point" pv (putF "width" (.int n) []))
theorem pb : ¬ (("basis" : Str) = "point") := by decide +kernel
theorem pw : ¬ (("point" : Str) = "width") := by decide +kernel
theorem ff_basis (n : Int) (pv : V) (b : Addr) : (ff n pv b).lookup ("basis" : Str) = some (.ref b) := by
  unfold ff; rw [lookup_putF, if_pos rfl]
theorem ff_point (n : Int) (pv : V) (b : Addr) : (ff n pv b).lookup ("point" : Str) = some pv := by
  unfold ff; rw [lookup_putF, if_neg (fun z => pb z.symm), lookup_putF, if_pos rfl]
theorem ff_width (n : Int) (pv : V) (b : Addr) : (ff n pv b).lookup ("width" : Str) = some (.int n) := by
  unfold ff; rw [lookup_putF, if_neg (fun z => wb z.symm), lookup_putF, if_neg (fun z => pw z.symm), lookup_putF, if_pos rfl]
theorem ff_none (n : Int) (pv : V) (b : Addr) {m : Str} (h1 : ¬ m = "basis") (h2 : ¬ m = "point") (h3 : ¬ m = "width") : (ff n pv b).lookup m = none := by
  unfold ff; rw [lookup_putF, if_neg h1, lookup_putF, if_neg h2, lookup_putF, if_neg h3]; rfl
/-- the point: none or a vector -/
def PtAt (H : Hp) (n : Nat) (pv : V) : Option Vec → Prop
  | none => pv = .non
  | some v => ∃ p, pv = .ref p ∧ IsV H p v ∧ v.length = n
theorem PtAt.keep {H H' : Hp} {n : Nat} {pv : V} {o : Option Vec} (s : Same H H') (h : PtAt H n pv o) : PtAt H' n pv o := by
  cases o with
  | none => exact h
  | some v =>
    obtain ⟨p, e, q, l⟩ := h
    exact ⟨p, e, s _ _ q, l⟩
def FacAt (D : Addr) (H : Hp) (x : Addr) (n : Nat) (o : Option Vec) (B : List Vec) : Prop := ∃ (dx b : Addr) (pv : V) (os : List V), H x = some (.ins D dx (ff ((n : Nat) : Int) pv b)) ∧ H b = some (.tup os) ∧ Rows H n os B ∧ PtAt H n pv o
theorem FacAt.keep {D : Addr} {H H' : Hp} {x : Addr} {n : Nat} {o : Option Vec} {B : List Vec} (s : Same H H') (h : FacAt D H x n o B) : FacAt D H' x n o B := by
  obtain ⟨dx, b, pv, os, h1, h2, h3, h4⟩ := h
  exact ⟨dx, b, pv, os, s _ _ h1, s _ _ h2, h3.keep s, h4.keep s⟩
theorem FacAt.ins {D : Addr} {H : Hp} {x : Addr} {n : Nat} {o : Option Vec} {B : List Vec} (h : FacAt D H x n o B) : ∃ dx fs, H x = some (.ins D dx fs) := by
  obtain ⟨dx, b, pv, os, h1, _⟩ := h
  exact ⟨dx, _, h1⟩
def ptD : Option Vec → PyData
  | none => .none
  | some v => .tuple (v.map PyData.int)
theorem pt_dp {K : PySem.W.Frag} {H : Hp} {n : Nat} {pv : V} {o : Option Vec} (h : PtAt H n pv o) : Dp K H pv (ptD o) := by
  cases o with
  | none => cases (show pv = .non from h); exact .non
  | some v =>
    obtain ⟨p, rfl, q, l⟩ := h
    exact tup_dp q
theorem pt_shaped (o : Option Vec) : SeqAt.shaped (ptD o) = true := by
  cases o with
  | none => decide +kernel
  | some v => exact tup_shaped v
theorem pt_eq (o o' : Option Vec) : PyData.eqv (ptD o) (ptD o') = decide (o = o') := by
  cases o with
  | none =>
    cases o' with
    | none => decide +kernel
    | some v => simp [ptD, PyData.eqv]
  | some v =>
    cases o' with
    | none => simp [ptD, PyData.eqv]
    | some u =>
      show PyData.eqv (.tuple (v.map PyData.int)) (.tuple (u.map PyData.int)) = _
      rw [tup_eq]; simp
section
variable {P : Program} {w : World} {K : PySem.W.Frag} {mg : Str → Option Value} {base : Heap}
end
end K06

namespace K06
open PySem L2 RZ Lat
section
variable {P : Program} {w : World} {K : PySem.W.Frag} {mg : Str → Option Value} {base : Heap}
theorem PtAt.but1 {H H' : Hp} {n : Nat} {pv : V} {o : Option Vec} {x : Addr} {C dx : Addr} {fs : List (Str × V)} (hx : H x = some (.ins C dx fs)) (s : ∀ y o, y ≠ x → H y = some o → H' y = some o) (h : PtAt H n pv o) : PtAt H' n pv o := by
  cases o with
  | none => exact h
  | some v =>
    obtain ⟨p, e, q, l⟩ := h
    exact ⟨p, e, s _ _ (ne_of q hx fun z => nomatch z) q, l⟩
theorem Rows.but1 {H H' : Hp} {n : Nat} {x C dx : Addr} {fs : List (Str × V)} {as : List V} {vs : List Vec} (hx : H x = some (.ins C dx fs)) (s : ∀ y o, y ≠ x → H y = some o → H' y = some o) (h : Rows H n as vs) : Rows H' n as vs :=
  ⟨Paired.mapP h.1 fun y v z => by
    obtain ⟨a, e, q⟩ := z
    exact ⟨a, e, s _ _ (ne_of q hx fun y => nomatch y) q⟩, h.2⟩
abbrev s_Factors_init : Stmt := inClass (top 32) 0
abbrev n_Factors_init : List Str := ["self", "width", "point", "rows", "lattice"]
theorem sc_Factors_init : FnScope n_Factors_init ["self", "width", "point", "rows"] (defScope s_Factors_init) := ⟨rfl, rfl, rfl, by decide +kernel, rfl, by decide +kernel, by decide +kernel⟩
def spFactors (K : PySem.W.Frag) (D : Addr) : Sp := fun vs H Q _ => ∃ (x dx l : Addr) (n : Nat) (pv : V) (o : Option Vec) (as : List V) (rs : List Vec), vs = [.ref x, .int ((n : Nat) : Int), pv, .ref l] ∧ H x = some (.ins D dx []) ∧ 1 ≤ n ∧ n ≤ 1000 ∧ rs.length ≤ 1000 ∧ InSeq K H l as ∧ Rows H n as rs ∧ OkGrows [] rs ∧ PtAt H n pv o ∧ (∀ v, o = some v → OkRed (grows [] rs) v) ∧
  ∀ H' : Hp, (∀ y o, y ≠ x → H y = some o → H' y = some o) → FacAt D H' x n (o.map (redV (grows [] rs))) (o.elim [] fun _ => grows [] rs) → Q .non H'
theorem ok_factors {C D fL fR fI : Addr} {fdL fdR fd : FuncData} {d1 d2 : V} (T : Txt mg) (CL : ClsL K mg C) (DL : ClsF K mg D) (ML : Mk K C fL) (g_lattice : FnOk P w K mg base CX0 5 fL fdL ["self", "width", "rows"] (spLattice K C)) (bL : Binds K fdL ["self", "width", "rows"] [])
    (mR : Meth K C "reduced" fR) (g_reduced : FnOk P w K mg base CX0 3 fR fdR ["self", "vector"] (spRedM C)) (bR : Binds K fdR ["self", "vector"] []) (g_is_vector : Has P w K mg base 2 "is_vector" ["value", "width"] spIsVector)
    (F : FunD K "__init__" "Factors.__init__" (defArgs s_Factors_init) (defBody s_Factors_init) (defScope s_Factors_init) [d1, d2] [] fI fd) : FnOk P w K mg base CX0 7 fI fd ["self", "width", "point", "rows"] (spFactors K D) := by
  refine F.ok sc_Factors_init (fun vs H Q E h => ?_) (fun cdv A outer s H vs Q E hr h => ?_)
  · obtain ⟨x, dx, l, n, w0, o, as, rs, rfl, _⟩ := h
    rfl
  · obtain ⟨x, dx, l, n, w0, o, as, rs, rfl, hx, n1, n2, lrs, hl, hrs, ok, hpv, okr, k⟩ := h
    refine ⟨_, PSs.nox (X := cxOf CX0 P w K mg base n_Factors_init "Factors.__init__" (defScope s_Factors_init) fI cdv A outer s H E) (pss_cons (ps_set (i := 4) sc_Factors_init.nd rfl (Or.inl rfl) (pe_make ML g_lattice (hr.mono (by decide)) rfl CL.m bL .nil pass0 (pa_cons (pv 1) (pa_cons (pv 3) pa_nil))))
      (pss_cons (ps_if (PW.pt (pw_and (pt_cmpR op_notN (pv 2) pe_non (nomark _)) (pw_and1 (pt_not (pt_val (pe_callHas g_is_vector (hr.mono (by decide)) rfl (pa_cons (pv 2) (pa_cons (pv 1) pa_nil)))))))) (pss_one ps_never) pss_nil)
      (pss_cons (ps_fld (pv 0) (pv 1) rfl)
      (pss_cons (ps_fld (pv 0) (pe_ifExp (pt_cmpR op_isN (pv 2) pe_non (nomark _)) pe_non (pe_meth (pv 4) CL.cl mR g_reduced (hr.mono (by decide)) bR .nil pass0 (pa_cons (pv 2) pa_nil))) rfl)
      (pss_one (ps_fld (pv 0) (pe_ifExp (pt_cmpR op_isN (pv 2) pe_non (nomark _)) (pe_tup pa_nil) (pe_fld (pv 4) rfl)) rfl)))))), ?_⟩
    refine ⟨_, rfl, _, rfl, fun y dy hy hdy ndy => ?_⟩
    have so : Same H (upd (upd H dy (.own y)) y (.ins C dy [])) := fun z o h => by
      rw [upd_ne (ne_of_none h hy), upd_ne (ne_of_none h hdy)]; exact h
    refine ⟨y, dy, l, n, as, rs, rfl, upd_same, n1, n2, lrs, hl.keep so, hrs.keep so, ok, fun H6 kp6 lat6 => ⟨rfl, ?_⟩⟩
    have s6 : Same H H6 := fun z o h => kp6 z o (ne_of_none h hy) (so _ _ h)
    have hx6 := s6 _ _ hx
    obtain ⟨ly, b, os, hy6, hb6, hos6⟩ := id lat6
    have nyx : y ≠ x := (ne_of_none hx hy).symm
    have nbx : b ≠ x := ne_of hb6 hx6 fun z => nomatch z
    have hpv6 := hpv.keep s6
    cases o with
    | none =>
      cases (show w0 = .non from hpv)
      refine ⟨_, rfl, rfl, _, rfl, ?_⟩
      refine ⟨_, rfl, _, rfl, x, D, dx, _, rfl, hx6, DL.cl, DL.nW, (by show 0 < 1000; decide), ?_⟩
      refine ⟨_, rfl, rfl, _, rfl, ?_⟩
      refine ⟨_, rfl, x, D, dx, _, rfl, upd_same, DL.cl, DL.nP, (by show 1 < 1000; decide), ?_⟩
      rw [upd_upd]
      refine ⟨_, rfl, rfl, _, rfl, ?_⟩
      refine ⟨Nat.zero_le _, fun q hq => ?_⟩
      obtain ⟨sq, hq'⟩ := new_at (o := .tup []) hq
      refine ⟨_, rfl, x, D, dx, _, rfl, sq _ _ upd_same, DL.cl, DL.nB, (by show 2 < 1000; decide), ?_⟩
      have nqx : q ≠ x := (ne_of_none upd_same hq).symm
      refine k _ (fun z o nz h => ?_) ⟨dx, q, .non, [], upd_same, (upd_ne nqx).trans hq', ⟨.nil, fun u hu => nomatch hu⟩, rfl⟩
      rw [upd_ne nz]
      exact sq _ _ ((upd_ne nz).trans (s6 _ _ h))
    | some v =>
      obtain ⟨p, rfl, hp6, lv⟩ := hpv6
      subst lv
      have okv := okr v rfl
      refine ⟨_, rfl, rfl, _, rfl, ?_⟩
      refine ⟨_, rfl, _, rfl, p, v, rfl, hp6, n2, fun H7 s7 => ⟨_, rfl, ?_⟩⟩
      have hx7 := s7 _ _ hx6
      refine ⟨_, rfl, _, rfl, x, D, dx, _, rfl, hx7, DL.cl, DL.nW, (by show 0 < 1000; decide), ?_⟩
      have hp7 := s7 _ _ hp6
      have npx : p ≠ x := ne_of hp7 hx7 fun z => nomatch z
      have lat8 : LatAt C (upd H7 x (.ins D dx (putF "width" (.int ((v.length : Nat) : Int)) []))) y v.length (grows [] rs) := ⟨ly, b, os, (upd_ne nyx).trans (s7 _ _ hy6), (upd_ne nbx).trans (s7 _ _ hb6), Rows.ins_up hx7 (hos6.keep s7)⟩
      have nd : (lf ((v.length : Nat) : Int) b).lookup ("reduced" : Str) = none := lf_none _ _ (by decide +kernel) (by decide +kernel)
      refine ⟨_, rfl, rfl, _, rfl, ?_⟩
      refine ⟨_, rfl, y, ly, _, rfl, (upd_ne nyx).trans (s7 _ _ hy6), nd, _, rfl, y, p, v, _, rfl, lat8, (upd_ne npx).trans hp7, n2, okv, fun H9 q s9 hq9 lq => ?_⟩
      have hx9 := s9 _ _ (upd_same (H := H7) (a := x) (o := .ins D dx (putF "width" (.int ((v.length : Nat) : Int)) [])))
      refine ⟨_, rfl, x, D, dx, _, rfl, hx9, DL.cl, DL.nP, (by show 1 < 1000; decide), ?_⟩
      refine ⟨_, rfl, rfl, _, rfl, ?_⟩
      refine ⟨_, rfl, y, C, ly, _, _, rfl, (upd_ne nyx).trans (s9 _ _ ((upd_ne nyx).trans (s7 _ _ hy6))), CL.cl, CL.nB, lf_basis _ _, ?_⟩
      refine ⟨_, rfl, x, D, dx, _, rfl, upd_same, DL.cl, DL.nB, (by show 2 < 1000; decide), ?_⟩
      rw [upd_upd]
      have nqx : q ≠ x := ne_of hq9 hx9 fun z => nomatch z
      refine k _ (fun z o nz h => ?_) ⟨dx, b, .ref q, os, upd_same, (upd_ne nbx).trans (s9 _ _ ((upd_ne nbx).trans (s7 _ _ hb6))), Rows.but1 hx6 (fun z o nz h => ?_) hos6, ⟨q, rfl, (upd_ne nqx).trans hq9, lq⟩⟩
      · rw [upd_ne nz]
        exact s9 _ _ ((upd_ne nz).trans (s7 _ _ (s6 _ _ h)))
      · rw [upd_ne nz]
        exact s9 _ _ ((upd_ne nz).trans (s7 _ _ h))
abbrev s_Factors_eq : Stmt := inClass (top 32) 8
abbrev n_Factors_eq : List Str := ["self", "other"]
theorem sc_Factors_eq : FnScope n_Factors_eq ["self", "other"] (defScope s_Factors_eq) := ⟨rfl, rfl, rfl, by decide +kernel, rfl, by decide +kernel, by decide +kernel⟩
def spEqF (D : Addr) : Sp := fun vs H Q _ => (∃ (x y : Addr) (n m : Nat) (o o' : Option Vec) (B B' : List Vec), vs = [.ref x, .ref y] ∧ FacAt D H x n o B ∧ FacAt D H y m o' B' ∧ Q (.bl (decide (n = m) && (decide (o = o') && decide (B = B')))) H) ∨ (∃ (x b : Addr) (n : Nat) (o : Option Vec) (B : List Vec) (xs : List V), vs = [.ref x, .ref b] ∧ FacAt D H x n o B ∧ H b = some (.tup xs) ∧ Q (.bl false) H)
theorem ok_eqF {D fS : Addr} {fd : FuncData} (T : Txt mg) (DL : ClsF K mg D) (TD : ClsT K D) (kt : PySem.W.kitOne K (.type "tuple") (.ref D) = some false) (F : Fun K "__eq__" "Factors.__eq__" s_Factors_eq fS fd) : FnOk P w K mg base CX0 1 fS fd ["self", "other"] (spEqF D) := by
  refine F.ok sc_Factors_eq (fun vs H Q E h => ?_) (fun cdv A outer s H vs Q E hr h => ?_)
  · rcases h with ⟨x, y, n, m, o, o', B, B', rfl, _⟩ | ⟨x, b, n, o, B, xs, rfl, _⟩ <;> rfl
  · have hu := hr.units
    refine ⟨_, (pss_one (ps_ret (pe_and (pe_callB call_isi (by rfl) T.z_isinstance (by decide +kernel) (pa_cons (pv 1) (pa_cons (pe_glob (v := .ref D) rfl DL.m rfl) pa_nil))) (pe_and (pe_cmpR op_eq (pe_fld (pv 0) rfl) (pe_fld (pv 1) rfl) (nomark _)) (pe_and (pe_cmpR (op_eqD hu) (pe_fld (pv 0) rfl) (pe_fld (pv 1) rfl) (nomark _)) (pe_one (pe_cmpR (op_eqD hu) (pe_fld (pv 0) rfl) (pe_fld (pv 1) rfl) (nomark _)))))))), ?_⟩
    rcases h with ⟨x, y, n, m, o, o', B, B', rfl, ⟨dx, b, w0, os, hx, hb, hrs, hpt⟩, ⟨dy, c, w1, os2, hy, hc, hrs2, hpt2⟩, k⟩ | ⟨x, b, n, o, B, xs, rfl, hx, hb, k⟩
    · refine ⟨_, rfl, _, _, _, _, true, rfl, .own _, .base (.ins hy DL.cl TD.ha TD.hn TD.htk TD.two.obj), TD.kk, _, rfl, ?_⟩
      refine ⟨_, rfl, x, D, dx, _, _, rfl, hx, DL.cl, DL.nW, ff_width _ _ _, _, rfl, y, D, dy, _, _, rfl, hy, DL.cl, DL.nW, ff_width _ _ _, rfl, _, rfl, ?_⟩
      show if decide (V.int ((n : Nat) : Int) = V.int ((m : Nat) : Int)) = true then _ else _
      by_cases e : n = m
      · subst e
        rw [decide_eq_true rfl, Bool.true_and] at k
        rw [decide_eq_true rfl]
        refine ⟨_, rfl, x, D, dx, _, _, rfl, hx, DL.cl, DL.nP, ff_point _ _ _, _, rfl, y, D, dy, _, _, rfl, hy, DL.cl, DL.nP, ff_point _ _ _, ptD o, ptD o', pt_dp hpt, pt_dp hpt2, pt_shaped _, pt_shaped _, _, rfl, ?_⟩
        rw [pt_eq]
        by_cases e2 : o = o'
        · rw [decide_eq_true e2] at k ⊢
          rw [Bool.true_and] at k
          refine ⟨_, rfl, x, D, dx, _, _, rfl, hx, DL.cl, DL.nB, ff_basis _ _ _, _, rfl, y, D, dy, _, _, rfl, hy, DL.cl, DL.nB, ff_basis _ _ _, .tuple (B.map rowD), .tuple (B'.map rowD), .tup (SqT.of hb) (rows_dp hrs.1), .tup (SqT.of hc) (rows_dp hrs2.1), rowsT_shaped _, rowsT_shaped _, ?_⟩
          rw [rowsT_eq]
          exact k
        · rw [decide_eq_false e2] at k ⊢
          rw [Bool.false_and] at k
          exact k
      · rw [decide_eq_false (fun z => e (by have := V.int.inj z; omega))]
        rw [decide_eq_false e, Bool.false_and] at k
        exact k
    · exact ⟨_, rfl, _, _, _, _, false, rfl, .own _, .base (.tup hb), kt, _, rfl, k⟩
end
end K06

namespace K06
open PySem L2 RZ Lat
structure TxtS (mg : Str → Option Value) : Prop extends Txt mg where
  z_str : mg "str" = none
def textO : Option Vec → List Vec → Str
  | none, _ => "none"
  | some p, B => L2.RD.textP p B
section
variable {P : Program} {w : World} {K : PySem.W.Frag} {mg : Str → Option Value} {base : Heap}
abbrev s_written : Stmt := top 10
abbrev n_written : List Str := ["vector", "number"]
theorem sc_written : FnScope n_written ["vector"] (defScope s_written) := ⟨rfl, rfl, rfl, by decide +kernel, rfl, by decide +kernel, by decide +kernel⟩
def Num1 (v : Vec) : Prop := ∀ i ∈ v, i.natAbs.log2 < 1920
def spWritten : Sp := fun vs H Q _ => ∃ (a : Addr) (v : Vec), vs = [.ref a] ∧ IsV H a v ∧ v.length ≤ 1000 ∧ Num1 v ∧ ∀ H', Same H H' → Q (.str (wS v)) H'
theorem ok_written (T : TxtS mg) (F : DefAt K mg "written" s_written ["vector"]) : Has P w K mg base 1 "written" ["vector"] spWritten := by
  refine F.has sc_written (fun vs H Q E h => ?_) (fun f cdv A outer s H vs Q E hr h => ?_)
  · obtain ⟨a, v, rfl, _⟩ := h
    rfl
  · obtain ⟨a, v, rfl, ha, l1, n1, k⟩ := h
    refine ⟨_, (pss_one (ps_ret (pe_join pe_str (pe_lc (own := [("number", 1)]) (g := gName 1) (by rfl) sc_written.nd (pi_tup (pv 0)) (blkOk_by (own := [("number", 1)]) (N := n_written) (sc := defScope s_written) (by decide +kernel)) (fun _ _ _ _ _ => (pg_name (i := 1) sc_written.nd rfl (Or.inl rfl))) (fun _ _ _ _ _ => pts_nil) (fun _ _ _ _ _ => (pe_callTy call_str_int (by rfl) T.z_str (by decide +kernel) (pa_cons (pv 1) pa_nil))))))), ?_⟩
    have el : (v.map V.int).length = v.length := List.length_map _
    refine ⟨⟨_, rfl⟩, _, rfl, a, rfl, ⟨_, SqT.of ha⟩, fun D hD => lc_it (walk_tup (xs := v.map V.int)) (fun i H' => Same H H' ∧ H' D = some (.lst ((v.take i).map fun z => V.str (iS z)))) ⟨(new_at hD).1, upd_same⟩ (fun i H' _ q => SqT.of (q.1 _ _ ha)) ?_ ?_⟩
    · rintro i y H' H'' hi ⟨sm, hD'⟩ ⟨rfl, e1⟩
      rw [List.getElem?_map] at e1
      obtain ⟨z, ez, rfl⟩ := Option.map_eq_some_iff.mp e1
      refine ⟨rfl, _, rfl, z, rfl, n1 z (List.mem_of_getElem? ez), _, hD', ?_, fun y o w => by rw [upd_ne (ne_of_none w hD)]; exact sm _ _ w, ?_⟩
      · rw [List.length_map]
        exact Nat.lt_of_le_of_lt (Nat.le_trans (List.length_take_le' _ _) l1) (by decide)
      · rw [upd_same, List.take_add_one, ez, List.map_append]; rfl
    · rintro H' ⟨sm, hD'⟩
      rw [el, List.take_length] at hD'
      have hs := iSs_len n1
      refine ⟨_, D, v.map iS, rfl, rfl, .inl (SqL.of (by rw [List.map_map]; exact hD')), ?_, k _ sm⟩
      rw [List.length_map, show (Str.ofString " ").length = 1 by decide +kernel]
      omega
abbrev s_Factors_str : Stmt := inClass (top 32) 13
abbrev n_Factors_str : List Str := ["self", "row"]
theorem sc_Factors_str : FnScope n_Factors_str ["self"] (defScope s_Factors_str) := ⟨rfl, rfl, rfl, by decide +kernel, rfl, by decide +kernel, by decide +kernel⟩
def spStrF (D : Addr) : Sp := fun vs H Q _ => ∃ (x : Addr) (n : Nat) (o : Option Vec) (B : List Vec), vs = [.ref x] ∧ FacAt D H x n o B ∧ n ≤ 60 ∧ B.length ≤ 60 ∧ (∀ p, o = some p → Num1 p) ∧ (∀ v ∈ B, Num1 v) ∧ ∀ H', Same H H' → Q (.str (textO o B)) H'
theorem ok_strF {D fS : Addr} {fd : FuncData} (T : TxtS mg) (DL : ClsF K mg D) (g_written : Has P w K mg base 1 "written" ["vector"] spWritten) (F : Fun K "__str__" "Factors.__str__" s_Factors_str fS fd) : FnOk P w K mg base CX0 2 fS fd ["self"] (spStrF D) := by
  refine F.ok sc_Factors_str (fun vs H Q E h => ?_) (fun cdv A outer s H vs Q E hr h => ?_)
  · obtain ⟨x, n, o, B, rfl, _⟩ := h
    rfl
  · obtain ⟨x, n, o, B, rfl, ⟨dx, b, w0, os, hx, hb, hos, hpt⟩, n60, b60, np, nB, k⟩ := h
    refine ⟨_, (pss_cons (ps_if (pt_cmpR op_isN (pe_fld (pv 0) rfl) pe_non (nomark _)) (pss_one (ps_ret pe_str)) pss_nil)
      (pss_one (ps_ret (pe_join pe_str (pe_lc (own := [("row", 1)]) (g := gName 1) (by rfl) sc_Factors_str.nd (pi_list (pe_lst (pa_cons (pe_fld (pv 0) rfl) (StX.pa_star (pe_fld (pv 0) rfl) pa_nil)))) (blkOk_by (own := [("row", 1)]) (N := n_Factors_str) (sc := defScope s_Factors_str) (by decide +kernel)) (fun _ _ _ _ _ => (pg_name (i := 1) sc_Factors_str.nd rfl (Or.inl rfl))) (fun _ _ _ _ _ => pts_nil) (fun _ _ _ _ _ => (pe_callHas g_written (hr.mono (by decide)) rfl (pa_cons (pv 1) pa_nil)))))))), ?_⟩
    refine ⟨_, rfl, x, D, dx, _, _, rfl, hx, DL.cl, DL.nP, ff_point _ _ _, rfl, ?_⟩
    cases o with
    | none =>
      cases (show w0 = .non from hpt)
      refine ⟨_, rfl, ?_⟩
      refine iteSe rfl ?_
      exact k _ (Same.refl H)
    | some p =>
      obtain ⟨ap, rfl, hp, lp⟩ := id hpt
      refine ⟨_, rfl, ?_⟩
      refine iteSf rfl ?_
      have los := hos.len
      refine ⟨⟨_, rfl⟩, _, rfl, x, D, dx, _, _, rfl, hx, DL.cl, DL.nP, ff_point _ _ _, _, rfl, x, D, dx, _, _, rfl, hx, DL.cl, DL.nB, ff_basis _ _ _, b, os, rfl, .inl (SqT.of hb), ?_⟩
      refine ⟨?_, fun l hl => ?_⟩
      · exact Nat.le_trans (show (V.ref ap :: (os ++ [])).length ≤ 61 by rw [List.length_cons, List.append_nil]; omega) (by decide)
      rw [List.append_nil]
      obtain ⟨s1, hl1⟩ := new_at (o := .lst (V.ref ap :: os)) hl
      have hos2 : Rows H n (V.ref ap :: os) (p :: B) := ⟨.cons ⟨ap, rfl, hp⟩ hos.1, fun v hv => (List.mem_cons.mp hv).elim (fun e => e ▸ lp) (hos.2 v)⟩
      have num : ∀ v ∈ p :: B, Num1 v := fun v hv => (List.mem_cons.mp hv).elim (fun e => e ▸ np p rfl) (nB v)
      have l61 : (p :: B).length ≤ 61 := by rw [List.length_cons]; omega
      refine ⟨l, rfl, ⟨_, SqL.of hl1⟩, fun D2 hD => lc_it (walk_list (xs := V.ref ap :: os)) (fun i H' => Same (upd H l (.lst (V.ref ap :: os))) H' ∧ H' D2 = some (.lst (((p :: B).take i).map fun z => V.str (wS z)))) ⟨(new_at hD).1, upd_same⟩ (fun i H' _ q => SqL.of (q.1 _ _ hl1)) ?_ ?_⟩
      · rintro i y H' H'' hi ⟨sm, hD'⟩ ⟨rfl, e1⟩
        obtain ⟨a, r, er, rfl, hr0, lr⟩ := (hos2.keep (s1.trans sm)).at e1
        refine ⟨rfl, _, rfl, a, r, rfl, hr0, by omega, num r (List.mem_of_getElem? er), fun H2 s2 => ⟨_, s2 _ _ hD', ?_, fun y o w => by rw [upd_ne (ne_of_none w hD)]; exact s2 _ _ (sm _ _ w), ?_⟩⟩
        · rw [List.length_map]
          exact Nat.lt_of_le_of_lt (Nat.le_trans (List.length_take_le' _ _) l61) (by decide)
        · rw [upd_same, List.take_add_one, er, List.map_append]; rfl
      · rintro H' ⟨sm, hD'⟩
        rw [hos2.len, List.take_length] at hD'
        have hs := wSs_len (B := p :: B) (n := n) fun v hv => ⟨hos2.2 v hv, num v hv⟩
        refine ⟨_, D2, (p :: B).map wS, rfl, rfl, .inl (SqL.of (by rw [List.map_map]; exact hD')), ?_, k _ (s1.trans sm)⟩
        rw [List.length_map, show (Str.ofString " + ").length = 3 by decide +kernel]
        have := Nat.mul_le_mul (show 1922 * n ≤ 1922 * 60 by omega) l61
        omega
end
end K06

namespace Lat
/-! ## short relations: more numbers to choose than places to be zero -/
theorem nodup_bound : ∀ (n : Nat) (l : List Nat), l.Nodup → (∀ p ∈ l, p < n) → l.length ≤ n
  | 0, [], _, _ => Nat.le_refl _
  | 0, p :: l, _, h => absurd (h p List.mem_cons_self) (Nat.not_lt_zero _)
  | n + 1, l, hn, h => by
    by_cases q : n ∈ l
    · have e := List.length_erase_of_mem q
      have ih := nodup_bound n (l.erase n) (hn.erase n) fun p hp => by
        have h1 := h p (List.mem_of_mem_erase hp)
        have h2 : p ≠ n := fun z => by
          rw [z] at hp
          exact (List.Nodup.mem_erase_iff hn).mp hp |>.1 rfl
        omega
      omega
    · have ih := nodup_bound n l hn fun p hp => by
        have h1 := h p hp
        have h2 : p ≠ n := fun z => q (z ▸ hp)
        omega
      omega
theorem pigeon {N R : Nat} (f : Nat → Nat) (h : ∀ t, t < N → f t < R) (hN : R < N) : ∃ t u, t < N ∧ u < N ∧ t ≠ u ∧ f t = f u := by
  refine Classical.byContradiction fun q => ?_
  have inj : ∀ t u, t < N → u < N → f t = f u → t = u := fun t u ht hu e => Classical.byContradiction fun n => q ⟨t, u, ht, hu, n, e⟩
  have nd : ((List.range N).map f).Nodup := by
    rw [List.Nodup, List.pairwise_map]
    refine List.Pairwise.imp_of_mem (R := fun a b => a ≠ b) (fun {a b} ha hb hab e => hab (inj a b (List.mem_range.mp ha) (List.mem_range.mp hb) e)) List.nodup_range
  have := nodup_bound R _ nd fun p hp => by
    obtain ⟨t, ht, rfl⟩ := List.mem_map.mp hp
    exact h t (List.mem_range.mp ht)
  rw [List.length_map, List.length_range] at this
  omega
/-- numbers below W as one number -/
def code (W : Nat) : List Nat → Nat
  | [] => 0
  | x :: l => x + W * code W l
theorem code_lt {W : Nat} : ∀ {l : List Nat}, (∀ x ∈ l, x < W) → code W l < W ^ l.length
  | [], _ => by show 0 < W ^ 0; rw [Nat.pow_zero]; exact Nat.one_pos
  | x :: l, h => by
    obtain ⟨h1, h2⟩ := List.forall_mem_cons.mp h
    have ih := code_lt h2
    show x + W * code W l < W ^ (l.length + 1)
    have := Nat.mul_le_mul_left W (show code W l + 1 ≤ W ^ l.length from ih)
    rw [Nat.mul_add, Nat.mul_one] at this
    rw [Nat.pow_succ, Nat.mul_comm _ W]
    omega
theorem code_inj {W : Nat} : ∀ {l m : List Nat}, l.length = m.length → (∀ x ∈ l, x < W) → (∀ x ∈ m, x < W) → code W l = code W m → l = m
  | [], [], _, _, _, _ => rfl
  | [], _ :: _, h, _, _, _ => nomatch h
  | _ :: _, [], h, _, _, _ => nomatch h
  | x :: l, y :: m, h, hl, hm, e => by
    obtain ⟨a1, a2⟩ := List.forall_mem_cons.mp hl
    obtain ⟨b1, b2⟩ := List.forall_mem_cons.mp hm
    have e' : x + W * code W l = y + W * code W m := e
    have m1 : (x + W * code W l) % W = x := by rw [Nat.add_mul_mod_self_left, Nat.mod_eq_of_lt a1]
    have m2 : (y + W * code W m) % W = y := by rw [Nat.add_mul_mod_self_left, Nat.mod_eq_of_lt b1]
    have exy : x = y := by rw [← m1, ← m2, e']
    have e2 : W * code W l = W * code W m := by omega
    have e3 := Nat.eq_of_mul_eq_mul_left (show 0 < W by omega) e2
    rw [exy, code_inj (Nat.succ.inj h) a2 b2 e3]
def digs (W : Nat) : Nat → Nat → List Nat
  | 0, _ => []
  | m + 1, t => (t % W) :: digs W m (t / W)
theorem digs_len {W : Nat} : ∀ (m t : Nat), (digs W m t).length = m
  | 0, _ => rfl
  | m + 1, t => congrArg (· + 1) (digs_len m (t / W))
theorem digs_lt {W : Nat} (w : 0 < W) : ∀ (m t : Nat), ∀ x ∈ digs W m t, x < W
  | 0, _ => fun x h => nomatch h
  | m + 1, t => fun x h => (List.mem_cons.mp h).elim (fun e => e ▸ Nat.mod_lt _ w) (digs_lt w m (t / W) x)
theorem code_digs {W : Nat} (w : 0 < W) : ∀ (m t : Nat), t < W ^ m → code W (digs W m t) = t
  | 0, t, h => by rw [Nat.pow_zero] at h; show 0 = t; omega
  | m + 1, t, h => by
    have : t / W < W ^ m := Nat.div_lt_of_lt_mul (by rw [Nat.mul_comm, ← Nat.pow_succ]; exact h)
    show t % W + W * code W (digs W m (t / W)) = t
    rw [code_digs w m _ this]
    exact Nat.mod_add_div t W
/-- a sum of multiples -/
def comb : List Int → List (Nat → Int) → Nat → Int
  | a :: as, f :: fs, i => a * f i + comb as fs i
  | _, _, _ => 0
theorem comb_sub : ∀ (as bs : List Int) (fs : List (Nat → Int)) (i : Nat), as.length = fs.length → bs.length = fs.length → comb (List.zipWith (fun x y => x - y) as bs) fs i = comb as fs i - comb bs fs i
  | [], [], [], _, _, _ => rfl
  | a :: as, b :: bs, f :: fs, i, h1, h2 => by
    have ih := comb_sub as bs fs i (Nat.succ.inj h1) (Nat.succ.inj h2)
    show (a - b) * f i + comb (List.zipWith (fun x y => x - y) as bs) fs i = (a * f i + comb as fs i) - (b * f i + comb bs fs i)
    rw [ih, Int.sub_mul]; omega
  | [], _ :: _, [], _, _, h => nomatch h
  | _ :: _, _, [], _, h, _ => nomatch h
  | [], _, _ :: _, _, h, _ => nomatch h
  | _ :: _, [], _ :: _, _, _, h => nomatch h
theorem comb_bound {A M : Nat} : ∀ (as : List Int) (fs : List (Nat → Int)) (i : Nat), (∀ a ∈ as, a.natAbs ≤ A) → (∀ f ∈ fs, (f i).natAbs ≤ M) → (comb as fs i).natAbs ≤ fs.length * (A * M)
  | [], fs, i, _, _ => by unfold comb; exact Nat.zero_le _
  | _ :: _, [], i, _, _ => Nat.zero_le _
  | a :: as, f :: fs, i, h1, h2 => by
    obtain ⟨a1, a2⟩ := List.forall_mem_cons.mp h1
    obtain ⟨f1, f2⟩ := List.forall_mem_cons.mp h2
    have ih := comb_bound as fs i a2 f2
    show (a * f i + comb as fs i).natAbs ≤ (fs.length + 1) * (A * M)
    have := Int.natAbs_add_le (a * f i) (comb as fs i)
    have q : (a * f i).natAbs ≤ A * M := by rw [Int.natAbs_mul]; exact Nat.mul_le_mul a1 f1
    rw [Nat.add_mul, Nat.one_mul]
    omega
theorem pow_mul_lt {A K q m : Nat} (hq : q < m) (hA : K ^ q ≤ A + 1) (k1 : 1 ≤ K) : (K * (A + 1)) ^ q ≤ (A + 1) ^ m := by
  rw [Nat.mul_pow]
  have h1 : K ^ q * (A + 1) ^ q ≤ (A + 1) * (A + 1) ^ q := Nat.mul_le_mul_right _ hA
  have h2 : (A + 1) * (A + 1) ^ q = (A + 1) ^ (q + 1) := by rw [Nat.pow_succ, Nat.mul_comm]
  rw [h2] at h1
  exact Nat.le_trans h1 (Nat.pow_le_pow_right (Nat.succ_pos _) hq)
/-- fewer places than vectors: some sum that is not idle is zero there, and its numbers are small -/
theorem siegel {M A : Nat} (fs : List (Nat → Int)) (cs : List Nat) (hc : cs.length < fs.length) (hM : ∀ f ∈ fs, ∀ c ∈ cs, (f c).natAbs ≤ M) (hA : (2 * fs.length * M + 2) ^ cs.length ≤ A + 1) (A1 : 1 ≤ A) :
    ∃ a : List Int, a.length = fs.length ∧ (∃ x ∈ a, x ≠ 0) ∧ (∀ x ∈ a, x.natAbs ≤ A) ∧ ∀ c ∈ cs, comb a fs c = 0 := by
  have w : 0 < A + 1 := Nat.succ_pos _
  -- digits as integers
  let d : Nat → List Int := fun t => (digs (A + 1) fs.length t).map Int.ofNat
  have dl : ∀ t, (d t).length = fs.length := fun t => by rw [List.length_map, digs_len]
  have dA : ∀ t, ∀ x ∈ d t, x.natAbs ≤ A := fun t x hx => by
    obtain ⟨y, hy, rfl⟩ := List.mem_map.mp hx
    have := digs_lt w _ _ y hy
    show (Int.ofNat y).natAbs ≤ A
    rw [Int.natAbs_ofNat']; omega
  let S := fs.length * (A * M)
  have cb : ∀ t, ∀ c ∈ cs, (comb (d t) fs c).natAbs ≤ S := fun t c hc => comb_bound (d t) fs c (dA t) fun f hf => hM f hf c hc
  let im : Nat → List Nat := fun t => cs.map fun c => (comb (d t) fs c + (S : Int)).toNat
  have iml : ∀ t, (im t).length = cs.length := fun t => List.length_map _
  have imlt : ∀ t, ∀ x ∈ im t, x < 2 * S + 1 := fun t x hx => by
    obtain ⟨c, hc, rfl⟩ := List.mem_map.mp hx
    have := cb t c hc
    omega
  have hR : (2 * S + 1) ^ cs.length < (A + 1) ^ fs.length ∨ cs.length = 0 := by
    rcases Nat.eq_zero_or_pos cs.length with z | z
    · exact .inr z
    · refine .inl (Nat.lt_of_lt_of_le (m := ((2 * fs.length * M + 2) * (A + 1)) ^ cs.length) (Nat.pow_lt_pow_left ?_ (by omega)) (pow_mul_lt hc hA (by omega)))
      have e : (2 * fs.length * M + 2) * (A + 1) = 2 * S + 2 * fs.length * M + 2 * A + 2 := by
        show _ = 2 * (fs.length * (A * M)) + 2 * fs.length * M + 2 * A + 2
        grind
      rw [e]; omega
  by_cases z : cs.length = 0
  · have : cs = [] := List.eq_nil_of_length_eq_zero z
    subst this
    refine ⟨(List.replicate fs.length 1), List.length_replicate, ⟨1, ?_, by decide⟩, fun x hx => ?_, fun c hc => nomatch hc⟩
    · exact List.mem_replicate.mpr ⟨by simp at hc; omega, rfl⟩
    · rw [(List.mem_replicate.mp hx).2]
      exact A1
  · have hR' := hR.resolve_right z
    obtain ⟨t, u, ht, hu, ntu, e⟩ := pigeon (N := (A + 1) ^ fs.length) (R := (2 * S + 1) ^ cs.length) (fun t => code (2 * S + 1) (im t)) (fun t _ => by
      have := code_lt (imlt t)
      rw [iml] at this
      exact this) hR'
    have eim := code_inj ((iml t).trans (iml u).symm) (imlt t) (imlt u) e
    refine ⟨List.zipWith (fun x y => x - y) (d t) (d u), by rw [List.length_zipWith, dl, dl, Nat.min_self], ?_, ?_, ?_⟩
    · refine Classical.byContradiction fun q => ntu ?_
      have q' : ∀ x ∈ List.zipWith (fun x y => x - y) (d t) (d u), x = 0 := fun x hx => Classical.byContradiction fun n => q ⟨x, hx, n⟩
      have edd : digs (A + 1) fs.length t = digs (A + 1) fs.length u := by
        refine List.ext_getElem ((digs_len _ _).trans (digs_len _ _).symm) fun i h1 h2 => ?_
        have h1' : i < (d t).length := by rw [List.length_map]; exact h1
        have h2' : i < (d u).length := by rw [List.length_map]; exact h2
        have h3 : i < (List.zipWith (fun x y => x - y) (d t) (d u)).length := by rw [List.length_zipWith]; omega
        have := q' _ (List.getElem_mem h3)
        rw [List.getElem_zipWith, List.getElem_map, List.getElem_map] at this
        have h4 : Int.ofNat (digs (A + 1) fs.length t)[i] - Int.ofNat (digs (A + 1) fs.length u)[i] = 0 := this
        have h5 : ((digs (A + 1) fs.length t)[i] : Int) = ((digs (A + 1) fs.length u)[i] : Int) := by
          show Int.ofNat _ = Int.ofNat _
          omega
        exact Int.ofNat.inj h5
      rw [← code_digs w _ t ht, ← code_digs w _ u hu, edd]
    · intro x hx
      obtain ⟨i, hi, ei⟩ := List.mem_iff_getElem.mp hx
      rw [List.getElem_zipWith, List.getElem_map, List.getElem_map] at ei
      have g1 := digs_lt w fs.length t _ (List.getElem_mem (l := digs (A + 1) fs.length t) (n := i) (by rw [List.length_zipWith, List.length_map, List.length_map] at hi; omega))
      have g2 := digs_lt w fs.length u _ (List.getElem_mem (l := digs (A + 1) fs.length u) (n := i) (by rw [List.length_zipWith, List.length_map, List.length_map] at hi; omega))
      rw [← ei]
      show ((_ : Nat) - (_ : Nat) : Int).natAbs ≤ A
      omega
    · intro c hc
      rw [comb_sub _ _ _ _ (dl t) (dl u)]
      have e1 : (comb (d t) fs c + (S : Int)).toNat = (comb (d u) fs c + (S : Int)).toNat := by
        obtain ⟨i, hi, ei⟩ := List.mem_iff_getElem.mp hc
        have h1 : i < (im t).length := by rw [iml]; exact hi
        have h2 : i < (im u).length := by rw [iml]; exact hi
        have : (im t)[i] = (im u)[i] := by simp only [eim]
        rw [List.getElem_map, List.getElem_map, ei] at this
        exact this
      have b1 := cb t c hc
      have b2 := cb u c hc
      omega
end Lat

namespace Lat
theorem In.comb : ∀ {cs : List Vec} {a : List Int}, a.length = cs.length → In cs (Lat.comb a (cs.map itm))
  | [], [], _ => fun i => rfl
  | [], _ :: _, h => nomatch h
  | _ :: _, [], h => nomatch h
  | c :: cs, x :: a, h => ⟨x, (In.cl cs).of (t := 0) (In.comb (Nat.succ.inj h)) (In.cl cs).zero fun i => by
      show x * itm c i + Lat.comb a (cs.map itm) i - x * itm c i = Lat.comb a (cs.map itm) i + 0 * 0
      omega⟩
/-- no row hangs on those behind it -/
def Ind : List Vec → Prop
  | [] => True
  | r :: rs => ¬ RIn rs (itm r) ∧ Ind rs
theorem Ind.zero : ∀ {cs : List Vec} {a : List Int}, Ind cs → a.length = cs.length → (∀ i, Lat.comb a (cs.map itm) i = 0) → ∀ x ∈ a, x = 0
  | [], [], _, _, _ => fun x h => nomatch h
  | [], _ :: _, _, h, _ => nomatch h
  | _ :: _, [], _, h, _ => nomatch h
  | c :: cs, x :: a, h, l, z => by
    have z' : ∀ i, x * itm c i + Lat.comb a (cs.map itm) i = 0 := z
    have e : x = 0 := Classical.byContradiction fun n => h.1 ⟨x, n, (In.cl cs).of (t := -1) (In.cl cs).zero (In.comb (Nat.succ.inj l)) fun i => by have := z' i; omega⟩
    intro y hy
    rcases List.mem_cons.mp hy with q | hy
    · rw [q, e]
    · exact Ind.zero h.2 (Nat.succ.inj l) (fun i => by have := z' i; rw [e] at this; omega) y hy
theorem RIn.more {c : Vec} {cs : List Vec} {f : Nat → Int} (h : RIn cs f) : RIn (c :: cs) f := by
  obtain ⟨D, hD, h⟩ := h
  exact ⟨D, hD, 0, (In.cl cs).of (t := 0) h (In.cl cs).zero fun i => by
    show D * f i - 0 * itm c i = D * f i + 0 * 0
    omega⟩
theorem RIn.trans {G cs : List Vec} {f : Nat → Int} (h : ∀ c ∈ cs, RIn G (itm c)) (hf : RIn cs f) : RIn G f := by
  obtain ⟨D, hD, q⟩ := hf
  obtain ⟨E, hE, q⟩ := In.sub (RIn.cl G) h q
  exact ⟨E * D, Int.mul_ne_zero hE hD, (In.cl G).of (t := 0) q (In.cl G).zero fun i => by grind⟩
theorem chosen : ∀ rs : List Vec, ∃ cs, Ind cs ∧ (∀ c ∈ cs, c ∈ rs) ∧ cs.length ≤ rs.length ∧ ∀ r ∈ rs, RIn cs (itm r)
  | [] => ⟨[], trivial, fun c h => (nomatch h), Nat.le_refl _, fun r h => (nomatch h)⟩
  | r :: rs => by
    obtain ⟨cs, h1, h2, h3, h4⟩ := chosen rs
    by_cases q : RIn cs (itm r)
    · exact ⟨cs, h1, fun c hc => List.mem_cons_of_mem _ (h2 c hc), Nat.le_succ_of_le h3, List.forall_mem_cons.mpr ⟨q, h4⟩⟩
    · exact ⟨r :: cs, ⟨q, h1⟩, List.forall_mem_cons.mpr ⟨List.mem_cons_self, fun c hc => List.mem_cons_of_mem _ (h2 c hc)⟩, Nat.succ_le_succ h3, List.forall_mem_cons.mpr ⟨.of (In.mem _ _ List.mem_cons_self), fun s hs => (h4 s hs).more⟩⟩
theorem nodup_sub : ∀ {l m : List Nat}, l.Nodup → (∀ x ∈ l, x ∈ m) → l.length ≤ m.length
  | [], _, _, _ => Nat.zero_le _
  | x :: l, m, h, s => by
    obtain ⟨h1, h2⟩ := List.nodup_cons.mp h
    obtain ⟨s1, s2⟩ := List.forall_mem_cons.mp s
    have ih := nodup_sub (m := m.erase x) h2 fun y hy => (List.mem_erase_of_ne (fun z => h1 (by rw [← z]; exact hy))).mpr (s2 y hy)
    have := List.length_erase_of_mem s1
    have := List.length_pos_of_mem s1
    rw [List.length_cons]; omega
theorem Ech.nodup {n : Nat} : ∀ {c : Nat} {B : List Vec}, Ech n c B → (B.map piv).Nodup
  | _, [], _ => List.nodup_nil
  | c, r :: rs, e => by
    rw [List.map_cons, List.nodup_cons]
    refine ⟨fun h => ?_, e.2.2.2.nodup⟩
    obtain ⟨s, hs, q⟩ := List.mem_map.mp h
    have := (e.2.2.2.row s hs).2.1
    omega
theorem ghosts {n : Nat} {B : List Vec} : ∀ cs : List Vec, (∀ c ∈ cs, c.length = n) → (∀ c ∈ cs, In B (itm c)) → ∃ G, Ech n 0 G ∧ G.length ≤ cs.length ∧ (∀ g ∈ G, In B (itm g)) ∧ ∀ c ∈ cs, RIn G (itm c)
  | [], _, _ => ⟨[], trivial, Nat.le_refl _, fun c h => (nomatch h), fun r h => (nomatch h)⟩
  | c :: cs, l, h => by
    obtain ⟨l1, l2⟩ := List.forall_mem_cons.mp l
    obtain ⟨h1, h2⟩ := List.forall_mem_cons.mp h
    obtain ⟨G, eG, g1, g2, g3⟩ := ghosts cs l2 h2
    refine ⟨insG G c, insG_ech eG l1 (Nat.zero_le _) (fun i hi => absurd hi (Nat.not_lt_zero _)), Nat.le_trans insG_count (Nat.succ_le_succ g1), insG_cl (In.cl B) eG l1 g2 h1, List.forall_mem_cons.mpr ⟨insG_new eG l1, fun d hd => ?_⟩⟩
    obtain ⟨D, hD, q⟩ := g3 d hd
    exact ⟨D, hD, In.sub (In.cl _) (fun g hg => insG_old g hg) q⟩
/-- an echelon family has no more rows than what makes its lattice -/
theorem dim {n : Nat} {B cs : List Vec} (eB : Ech n 0 B) (lc : ∀ c ∈ cs, c.length = n) (h1 : ∀ c ∈ cs, In B (itm c)) (h2 : ∀ s ∈ B, RIn cs (itm s)) : B.length ≤ cs.length := by
  obtain ⟨G, eG, g1, g2, g3⟩ := ghosts cs lc h1
  have q := piv_bound eB eG g2 fun s hs => RIn.trans g3 (h2 s hs)
  have := nodup_sub eB.nodup (m := G.map piv) fun x hx => by
    obtain ⟨s, hs, rfl⟩ := List.mem_map.mp hx
    obtain ⟨g, hg, e, _⟩ := q s hs
    exact List.mem_map.mpr ⟨g, hg, e⟩
  rw [List.length_map, List.length_map] at this
  omega
/-- an echelon family of the lattice that some rows of not more than x bits make -/
structure Gen (x n κ : Nat) (gens B : List Vec) : Prop where
  ech : Ech n 0 B
  cl : ∀ S, Cl S → ((∀ r ∈ B, S (itm r)) ↔ ∀ r ∈ gens, S (itm r))
  len : ∀ r ∈ gens, r.length = n
  siz : ∀ r ∈ gens, ∀ i, (itm r i).natAbs ≤ 2 ^ x
  num : gens.length ≤ 15
  cap : n ≤ κ ∨ gens.length ≤ κ
theorem Gen.cs {x n κ : Nat} {gens B : List Vec} (I : Gen x n κ gens B) : ∃ cs, Ind cs ∧ (∀ c ∈ cs, ∀ i, (itm c i).natAbs ≤ 2 ^ x) ∧ (∀ c ∈ cs, In B (itm c)) ∧ cs.length ≤ 15 ∧ (∀ s ∈ B, RIn cs (itm s)) ∧ B.length ≤ cs.length ∧ cs.length ≤ gens.length := by
  obtain ⟨cs, h1, h2, h3, h4⟩ := chosen gens
  have hB : ∀ r ∈ gens, In B (itm r) := (I.cl _ (In.cl B)).mp fun r hr => In.mem _ _ hr
  have hc : ∀ s ∈ B, RIn cs (itm s) := (I.cl _ (RIn.cl cs)).mpr h4
  exact ⟨cs, h1, fun c hc => I.siz c (h2 c hc), fun c hc => hB c (h2 c hc), Nat.le_trans h3 I.num, hc, dim I.ech (fun c hc => I.len c (h2 c hc)) (fun c hc => hB c (h2 c hc)) hc, h3⟩
theorem Gen.count {x n κ : Nat} {gens B : List Vec} (I : Gen x n κ gens B) : B.length ≤ κ := by
  obtain ⟨cs, _, _, _, _, _, h1, h2⟩ := I.cs
  have := I.ech.count (Nat.zero_le _)
  rcases I.cap with q | q <;> omega
theorem mul15 {m x : Nat} (h : m ≤ 15) : m * 2 ^ x ≤ 2 ^ (x + 4) := by
  rw [Nat.pow_add]
  have := Nat.mul_le_mul_right (2 ^ x) h
  omega
theorem Gen.piv {x n κ : Nat} {gens B : List Vec} (I : Gen x n κ gens B) : ∀ s ∈ B, (itm s (Lat.piv s)).natAbs ≤ 2 ^ ((x + 5) * κ) := by
  obtain ⟨cs, ind, siz, inB, m15, rin, km, _⟩ := I.cs
  intro s hs
  have kκ := I.count
  have k1 := List.length_pos_of_mem hs
  have x1 := Nat.one_le_two_pow (n := x)
  have le : ((B.erase s).map Lat.piv).length = B.length - 1 := by rw [List.length_map, List.length_erase_of_mem hs]
  have b0 : 2 * (cs.map itm).length * 2 ^ x + 2 ≤ 2 ^ (x + 5) := by
    rw [List.length_map, Nat.pow_add]
    have := Nat.mul_le_mul_right (2 ^ x) (show 2 * cs.length ≤ 30 by omega)
    omega
  obtain ⟨a, la, ⟨y, hy, ny⟩, sa, za⟩ := siegel (M := 2 ^ x) (A := 2 ^ ((x + 5) * (B.length - 1))) (cs.map itm) ((B.erase s).map Lat.piv) (by rw [le, List.length_map]; omega) (fun f hf c _ => by
    obtain ⟨d, hd, rfl⟩ := List.mem_map.mp hf
    exact siz d hd c) (by
    rw [le, Nat.pow_mul]
    exact Nat.le_trans (Nat.pow_le_pow_left b0 _) (Nat.le_succ _)) Nat.one_le_two_pow
  have la' : a.length = cs.length := by rw [la, List.length_map]
  have hv : In B (Lat.comb a (cs.map itm)) := In.sub (In.cl B) inB (In.comb la')
  rcases lead I.ech hv with z | ⟨t, ht, b, hb, zz, e⟩
  · exact absurd (ind.zero la' z y hy) ny
  · have ts : t = s := Classical.byContradiction fun n => by
      have := za (Lat.piv t) (List.mem_map.mpr ⟨t, (List.mem_erase_of_ne n).mpr ht, rfl⟩)
      rw [e] at this
      exact Int.mul_ne_zero hb (I.ech.ne ht) this
    subst ts
    have h1 : (itm t (Lat.piv t)).natAbs ≤ (Lat.comb a (cs.map itm) (Lat.piv t)).natAbs := by
      rw [e, Int.natAbs_mul]; exact Nat.le_mul_of_pos_left _ (Int.natAbs_pos.mpr hb)
    have h2 := comb_bound (M := 2 ^ x) a (cs.map itm) (Lat.piv t) sa fun f hf => by
      obtain ⟨d, hd, rfl⟩ := List.mem_map.mp hf
      exact siz d hd _
    rw [List.length_map] at h2
    refine Nat.le_trans h1 (Nat.le_trans h2 ?_)
    have e3 : cs.length * (2 ^ ((x + 5) * (B.length - 1)) * 2 ^ x) = cs.length * 2 ^ x * 2 ^ ((x + 5) * (B.length - 1)) := by grind
    rw [e3]
    refine Nat.le_trans (Nat.mul_le_mul_right _ (mul15 m15)) ?_
    rw [← Nat.pow_add]
    refine Nat.pow_le_pow_right (by decide) ?_
    have e4 := Nat.mul_le_mul_left (x + 5) (show B.length - 1 + 1 ≤ κ by omega)
    rw [Nat.mul_add, Nat.mul_one] at e4
    omega
/-- what is small at the pivots is small -/
theorem Gen.bound {x n κ y : Nat} {gens B : List Vec} (I : Gen x n κ gens B) {f : Nat → Int} (hf : RIn B f) (xy : x ≤ y) (hF : ∀ s ∈ B, (f (Lat.piv s)).natAbs ≤ 2 ^ y) : ∀ i, (f i).natAbs ≤ 2 ^ (x + 4 + (y + 6) * κ) := by
  obtain ⟨cs, ind, siz, inB, m15, rin, km, _⟩ := I.cs
  intro i
  have kκ := I.count
  have b0 : 2 * (f :: cs.map itm).length * 2 ^ y + 2 ≤ 2 ^ (y + 6) := by
    rw [List.length_cons, List.length_map, Nat.pow_add]
    have := Nat.mul_le_mul_right (2 ^ y) (show 2 * (cs.length + 1) ≤ 32 by omega)
    have := Nat.one_le_two_pow (n := y)
    omega
  have x2 : 2 ^ x ≤ 2 ^ y := Nat.pow_le_pow_right (by decide) xy
  obtain ⟨a, la, ⟨z, hz, nz⟩, sa, za⟩ := siegel (M := 2 ^ y) (A := 2 ^ ((y + 6) * B.length)) (f :: cs.map itm) (B.map Lat.piv) (by rw [List.length_map, List.length_cons, List.length_map]; omega) (List.forall_mem_cons.mpr ⟨fun c hc => by
    obtain ⟨s, hs, rfl⟩ := List.mem_map.mp hc
    exact hF s hs, fun g hg c _ => by
    obtain ⟨d, hd, rfl⟩ := List.mem_map.mp hg
    exact Nat.le_trans (siz d hd c) x2⟩) (by
    rw [List.length_map, Nat.pow_mul]
    exact Nat.le_trans (Nat.pow_le_pow_left b0 _) (Nat.le_succ _)) Nat.one_le_two_pow
  match a, la with
  | a0 :: as, la =>
    have la' : as.length = cs.length := by have := Nat.succ.inj la; rw [this, List.length_map]
    obtain ⟨sa0, sas⟩ := List.forall_mem_cons.mp sa
    have hin : In B (Lat.comb as (cs.map itm)) := In.sub (In.cl B) inB (In.comb la')
    have hw : RIn B fun i => a0 * f i + Lat.comb as (cs.map itm) i := (RIn.cl B).of (t := 1) ((RIn.cl B).scale a0 hf) (.of hin) fun i => by omega
    obtain ⟨D, hD, hw⟩ := hw
    have zero : ∀ i, a0 * f i + Lat.comb as (cs.map itm) i = 0 := by
      rcases lead I.ech hw with q | ⟨t, ht, b, hb, _, e⟩
      · exact fun i => (Int.mul_eq_zero.mp (q i)).resolve_left hD
      · have := za (Lat.piv t) (List.mem_map.mpr ⟨t, ht, rfl⟩)
        have q : a0 * f (Lat.piv t) + Lat.comb as (cs.map itm) (Lat.piv t) = 0 := this
        have e' : D * (a0 * f (Lat.piv t) + Lat.comb as (cs.map itm) (Lat.piv t)) = b * itm t (Lat.piv t) := e
        rw [q, Int.mul_zero] at e'
        exact absurd e'.symm (Int.mul_ne_zero hb (I.ech.ne ht))
    have n0 : a0 ≠ 0 := fun e => by
      have h0 := ind.zero la' fun i => by have := zero i; rw [e] at this; omega
      rcases List.mem_cons.mp hz with q | q
      · exact nz (q.trans e)
      · exact nz (h0 z q)
    have h1 : (f i).natAbs ≤ (a0 * f i).natAbs := by rw [Int.natAbs_mul]; exact Nat.le_mul_of_pos_left _ (Int.natAbs_pos.mpr n0)
    have h2 : (a0 * f i).natAbs = (Lat.comb as (cs.map itm) i).natAbs := by have := zero i; omega
    have h3 := comb_bound (M := 2 ^ x) as (cs.map itm) i sas fun g hg => by
      obtain ⟨d, hd, rfl⟩ := List.mem_map.mp hg
      exact siz d hd _
    rw [List.length_map] at h3
    rw [h2] at h1
    refine Nat.le_trans h1 (Nat.le_trans h3 ?_)
    have e3 : cs.length * (2 ^ ((y + 6) * B.length) * 2 ^ x) = cs.length * 2 ^ x * 2 ^ ((y + 6) * B.length) := by grind
    rw [e3]
    refine Nat.le_trans (Nat.mul_le_mul_right _ (mul15 m15)) ?_
    rw [← Nat.pow_add]
    have := Nat.mul_le_mul_left (y + 6) kκ
    exact Nat.pow_le_pow_right (by decide) (by omega)
theorem Gen.all {x n κ : Nat} {gens B : List Vec} (I : Gen x n κ gens B) (h : Hn B) (k1 : 1 ≤ κ) : ∀ s ∈ B, ∀ i, (itm s i).natAbs ≤ 2 ^ (x + 4 + ((x + 5) * κ + 6) * κ) := fun s hs =>
  I.bound (.of (In.mem _ _ hs)) (by have := Nat.mul_le_mul_left (x + 5) k1; omega) fun t ht => Nat.le_trans (hn_redd I.ech h t ht s hs) (I.piv t ht)
theorem Gen.tails {x n κ : Nat} {gens B : List Vec} (I : Gen x n κ gens B) (k1 : 1 ≤ κ) {C : List Vec} (hC : C <:+ B) : ∀ s ∈ tidy C, ∀ i, (itm s i).natAbs ≤ 2 ^ (x + 4 + ((x + 5) * κ + 6) * κ) := by
  obtain ⟨D, e⟩ := hC
  have eB := I.ech
  rw [← e] at eB
  obtain ⟨c', eC, hD⟩ := eB.split
  have et := tidy_ech eC
  intro s hs
  refine I.bound (.of ((tidy_cl (In.cl B) C n fun r hr => (eC.row r hr).1).mpr (fun r hr => In.mem _ _ (by rw [← e]; exact List.mem_append_right _ hr)) s hs)) (by have := Nat.mul_le_mul_left (x + 5) k1; omega) fun t ht => ?_
  have pt := I.piv t ht
  rw [← e] at ht
  rcases List.mem_append.mp ht with ht | ht
  · rw [et.zero hs (hD t ht)]; exact Nat.zero_le _
  · obtain ⟨t', ht', a, b⟩ := tidy_back eC t ht
    have := tidy_redd eC t' ht' s hs
    rw [b, a] at this
    exact Nat.le_trans this pt
end Lat

namespace K06
open PySem L2 RZ Lat
def E1 (x κ : Nat) : Nat := x + 4 + ((x + 5) * κ + 6) * κ
def E2 (x κ : Nat) : Nat := x + 5 + ((x + 5) * κ + 7) * κ
def Fit (x κ : Nat) : Prop := 1 ≤ κ ∧ κ ≤ 15 ∧ (x + 5) * κ < 9000 ∧ 2 * dbl κ (E2 x κ) + κ * (E1 x κ + 1) + E1 x κ + x + 6 ≤ 134217728
instance (x κ : Nat) : Decidable (Fit x κ) := by unfold Fit; infer_instance
theorem tidy_sizeY {n π τ E κ : Nat} (hπ : π < 9000) (hτ : τ + κ * (E + 1) + E + 6 ≤ 134217728) : ∀ {c : Nat} {B : List Vec}, Ech n c B → B.length ≤ κ → (∀ s ∈ B, (itm s (piv s)).natAbs ≤ 2 ^ π) → (∀ s ∈ B, ∀ i, (itm s i).natAbs ≤ 2 ^ τ) → (∀ C, C <:+ B → ∀ s ∈ tidy C, ∀ i, (itm s i).natAbs ≤ 2 ^ E) → OkTidy B
  | c, [], _, _, _, _, _ => trivial
  | c, r :: rs, e, h6, hp, hB, hE => by
    obtain ⟨hp1, hp2⟩ := List.forall_mem_cons.mp hp
    obtain ⟨hB1, hB2⟩ := List.forall_mem_cons.mp hB
    rw [List.length_cons] at h6
    have ih := tidy_sizeY hπ hτ e.2.2.2 (by omega) hp2 hB2 fun C hC => hE C (hC.trans (List.suffix_cons r rs))
    have h' := tidy_ech e.2.2.2
    have lp : (posV r).length = n := (posV_length r).trans e.1
    have cnt : (tidy rs).length = rs.length := tidy_count
    have := Nat.mul_le_mul_right (E + 1) (show rs.length ≤ κ by omega)
    have rz := redV_size hπ (v := posV r) (ξ := τ) h' lp (fun s hs => by
      obtain ⟨t, ht, q⟩ := tidy_pivs e.2.2.2 s hs
      rw [q]; exact hp2 t ht) (hE rs (List.suffix_cons r rs)) (fun i => by rw [posV_abs]; exact hB1 i) (by rw [cnt]; omega)
    refine ⟨ih, ⟨e.1 ▸ e.2.2.1, fun m hm => ?_⟩, rz.1⟩
    obtain ⟨i, rfl⟩ := mem_itm hm
    exact mul_ok (α := 1) (β := τ) (by decide) (hB1 i) (by omega)
theorem pow_add1 {a b : Nat} : 2 ^ a + 2 ^ b ≤ 2 ^ (max a b + 1) := by
  have h1 : 2 ^ a ≤ 2 ^ max a b := Nat.pow_le_pow_right (by decide) (Nat.le_max_left _ _)
  have h2 : 2 ^ b ≤ 2 ^ max a b := Nat.pow_le_pow_right (by decide) (Nat.le_max_right _ _)
  rw [Nat.pow_succ]; omega
/-- what a vector leaves over is small -/
theorem red_short {x n κ : Nat} {gens B : List Vec} {v : Vec} (k1 : 1 ≤ κ) (I : Gen x n κ gens B) (l : v.length = n) {y : Nat} (yx : x ≤ y) (yP : (x + 5) * κ ≤ y) (hv : ∀ i, (itm v i).natAbs ≤ 2 ^ y) : ∀ i, (itm (redV B v) i).natAbs ≤ 2 ^ (x + 5 + (y + 7) * κ) := fun i => by
  have hlen : ∀ r ∈ B, r.length = v.length := fun r hr => ((I.ech.row r hr).1).trans l.symm
  have hg : RIn B fun i => itm (redV B v) i - itm v i := .of ((In.cl B).of (t := -1) (In.cl B).zero (redV_diff (In.cl B) B v hlen fun r hr => In.mem _ _ hr) fun i => by show itm (redV B v) i - itm v i = 0 + -1 * (itm v i - itm (redV B v) i); omega)
  have gb := I.bound (y := y + 1) hg (by omega) (fun s hs => by
    have a := redV_small I.ech l s hs
    have b := I.piv s hs
    have c := hv (piv s)
    have d : 2 ^ ((x + 5) * κ) ≤ 2 ^ y := Nat.pow_le_pow_right (by decide) yP
    have := Int.natAbs_sub_le (itm (redV B v) (piv s)) (itm v (piv s))
    show (itm (redV B v) (piv s) - itm v (piv s)).natAbs ≤ 2 ^ (y + 1)
    rw [Nat.pow_succ]; omega) i
  have c := hv i
  have e : (itm (redV B v) i).natAbs ≤ (itm (redV B v) i - itm v i).natAbs + (itm v i).natAbs := by omega
  have p := Nat.mul_le_mul_left (y + 7) k1
  have q : 2 ^ y ≤ 2 ^ (x + 4 + (y + 7) * κ) := Nat.pow_le_pow_right (by decide) (by omega)
  have r : x + 5 + (y + 7) * κ = (x + 4 + (y + 7) * κ) + 1 := by omega
  rw [r, Nat.pow_succ]
  have gb' : (itm (redV B v) i - itm v i).natAbs ≤ 2 ^ (x + 4 + (y + 7) * κ) := gb
  omega
theorem growS {x n κ : Nat} (F : Fit x κ) {gens B : List Vec} {v : Vec} (I : Gen x n κ gens B) (hn : Hn B) (num : (gens ++ [v]).length ≤ 15) (cap : n ≤ κ ∨ (gens ++ [v]).length ≤ κ) (l : v.length = n) (hv : ∀ i, (itm v i).natAbs ≤ 2 ^ x) : OkGrow B v ∧ Gen x n κ (gens ++ [v]) (grow B v) ∧ Hn (grow B v) := by
  obtain ⟨k1, k15, hP, hL⟩ := F
  have hp := I.piv
  have hall : ∀ s ∈ B, ∀ i, (itm s i).natAbs ≤ 2 ^ E1 x κ := I.all hn k1
  have cB := I.count
  have hm := Nat.mul_le_mul_right (E1 x κ + 1) cB
  have rz := redV_size (π := (x + 5) * κ) (β := E1 x κ) (ξ := x) hP I.ech l hp hall hv (by omega)
  have xP : x ≤ (x + 5) * κ := by have := Nat.mul_le_mul_left (x + 5) k1; omega
  have ru : ∀ i, (itm (redV B v) i).natAbs ≤ 2 ^ E2 x κ := red_short k1 I l xP (Nat.le_refl _) fun i => Nat.le_trans (hv i) (Nat.pow_le_pow_right (by decide) xP)
  have e12 : E1 x κ ≤ E2 x κ := by
    have := Nat.mul_le_mul_right κ (show (x + 5) * κ + 6 ≤ (x + 5) * κ + 7 by omega)
    unfold E1 E2; omega
  have hlen : ∀ r ∈ B, r.length = v.length := fun r hr => ((I.ech.row r hr).1).trans l.symm
  have lu := redV_len B v hlen
  have hlen' : ∀ r ∈ B, r.length = (redV B v).length := fun r hr => (hlen r hr).trans lu.symm
  have d5 := dbl_le cB (E2 x κ)
  have st := stepped_sizeJ (n := n) (π := (x + 5) * κ) (τ := E2 x κ) hP I.ech (lu.trans l) hp (fun s hs i => Nat.le_trans (hall s hs i) (Nat.pow_le_pow_right (by decide) e12)) ru (by omega)
  have es : Ech n 0 (stepped B (redV B v)) := stepped_ech I.ech (lu.trans l) (Nat.zero_le _) fun i hi => absurd hi (Nat.not_lt_zero _)
  have rc : ∀ {S : (Nat → Int) → Prop}, Cl S → (∀ r ∈ B, S (itm r)) → (S (itm (redV B v)) ↔ S (itm v)) := fun C => redV_cl C B v hlen
  have clv : ∀ S, Cl S → (((∀ r ∈ B, S (itm r)) ∧ S (itm v)) ↔ ∀ r ∈ gens ++ [v], S (itm r)) := fun S C => by
    rw [I.cl S C, List.forall_mem_append]
    exact ⟨fun q => ⟨q.1, fun r hr => by rw [List.mem_singleton.mp hr]; exact q.2⟩, fun q => ⟨q.1, q.2 v (List.mem_singleton.mpr rfl)⟩⟩
  have mk : ∀ B', Ech n 0 B' → (∀ S, Cl S → ((∀ r ∈ B', S (itm r)) ↔ ((∀ r ∈ B, S (itm r)) ∧ S (itm v)))) → Gen x n κ (gens ++ [v]) B' := fun B' e h =>
    ⟨e, fun S C => (h S C).trans (clv S C), fun r hr => (List.mem_append.mp hr).elim (I.len r) fun z => by rw [List.mem_singleton.mp z]; exact l, fun r hr => (List.mem_append.mp hr).elim (I.siz r) fun z => by rw [List.mem_singleton.mp z]; exact hv, num, cap⟩
  have Is := mk (stepped B (redV B v)) es fun S C => by
    rw [stepped_cl C hlen']
    exact ⟨fun q => ⟨q.1, (rc C q.1).mp q.2⟩, fun q => ⟨q.1, (rc C q.1).mpr q.2⟩⟩
  have cs := Is.count
  have td := tidy_sizeY (π := (x + 5) * κ) (τ := dbl κ (E2 x κ)) (E := E1 x κ) (κ := κ) hP (by omega) es cs Is.piv (fun s hs i => Nat.le_trans (st.2 s hs i) (Nat.pow_le_pow_right (by decide) d5)) fun C hC s hs i => Is.tails k1 hC s hs i
  have eg : Ech n 0 (grow B v) := by
    unfold grow; split
    · exact I.ech
    · exact tidy_ech es
  refine ⟨⟨rz.1, .inr ⟨st.1, td, by omega⟩⟩, mk _ eg fun S C => grow_cl C hlen, ?_⟩
  unfold grow; split
  · exact hn
  · exact tidy_hn es
theorem growsS {x n κ : Nat} (F : Fit x κ) : ∀ (rs B gens : List Vec), Gen x n κ gens B → Hn B → (gens ++ rs).length ≤ 15 → (n ≤ κ ∨ (gens ++ rs).length ≤ κ) → (∀ r ∈ rs, r.length = n ∧ ∀ i, (itm r i).natAbs ≤ 2 ^ x) → OkGrows B rs ∧ Gen x n κ (gens ++ rs) (grows B rs) ∧ Hn (grows B rs)
  | [], B, gens, I, h, _, _, _ => by rw [List.append_nil]; exact ⟨trivial, I, h⟩
  | v :: vs, B, gens, I, h, num, cap, hr => by
    obtain ⟨⟨l, w⟩, h2⟩ := List.forall_mem_cons.mp hr
    have ea : gens ++ v :: vs = gens ++ [v] ++ vs := by rw [List.append_assoc]; rfl
    have la : (gens ++ [v]).length ≤ (gens ++ v :: vs).length := by rw [ea, List.length_append (bs := vs)]; omega
    obtain ⟨g1, g2, g3⟩ := growS F I h (by omega) (cap.imp id fun q => by omega) l w
    have ih := growsS F vs (grow B v) (gens ++ [v]) g2 g3 (by rw [← ea]; exact num) (by rw [← ea]; exact cap) h2
    rw [← ea] at ih
    have := I.count
    have := F.2.1
    exact ⟨⟨g1, by omega, ih.1⟩, ih.2⟩
theorem gen0 (x n κ : Nat) : Gen x n κ [] [] := ⟨trivial, fun S C => Iff.rfl, fun r h => (nomatch h), fun r h => (nomatch h), Nat.zero_le _, .inr (Nat.zero_le _)⟩
/-- rows of not more than x bits, not more than fit -/
structure Rws (x n κ : Nat) (rs : List Vec) : Prop where
  fit : Fit x κ
  num : rs.length ≤ 15
  cap : n ≤ κ ∨ rs.length ≤ κ
  row : ∀ r ∈ rs, r.length = n ∧ ∀ i, (itm r i).natAbs ≤ 2 ^ x
theorem Rws.len {x n κ : Nat} {rs : List Vec} (h : Rws x n κ rs) : ∀ r ∈ rs, r.length = n := fun r hr => (h.row r hr).1
theorem Rws.all {x n κ : Nat} {rs : List Vec} (h : Rws x n κ rs) : OkGrows [] rs ∧ Gen x n κ rs (grows [] rs) ∧ Hn (grows [] rs) := growsS h.fit rs [] [] (gen0 x n κ) trivial h.num h.cap h.row
theorem Rws.ok {x n κ : Nat} {rs : List Vec} (h : Rws x n κ rs) : OkGrows [] rs := h.all.1
theorem Rws.gen {x n κ : Nat} {rs : List Vec} (h : Rws x n κ rs) : Gen x n κ rs (grows [] rs) := h.all.2.1
theorem Rws.bas {x n κ : Nat} {rs : List Vec} (h : Rws x n κ rs) : Bas n rs (grows [] rs) := ⟨h.gen.ech, h.all.2.2, h.gen.cl⟩
theorem Rws.size {x n κ : Nat} {rs : List Vec} (h : Rws x n κ rs) : ∀ s ∈ grows [] rs, ∀ i, (itm s i).natAbs ≤ 2 ^ E1 x κ := h.gen.all h.all.2.2 h.fit.1
/-- a vector of not more than y bits can be reduced -/
theorem Rws.red {x n κ y : Nat} {rs : List Vec} {v : Vec} (h : Rws x n κ rs) (l : v.length = n) (hv : ∀ i, (itm v i).natAbs ≤ 2 ^ y) (hy : y + 15 * (E1 x κ + 1) + E1 x κ + 2 ≤ 134217728) : OkRed (grows [] rs) v := by
  have c := h.gen.count
  have := h.fit.2.1
  have hm := Nat.mul_le_mul_right (E1 x κ + 1) (show (grows [] rs).length ≤ 15 by omega)
  exact (redV_size (π := (x + 5) * κ) (β := E1 x κ) (ξ := y) h.fit.2.2.1 h.gen.ech l h.gen.piv h.size hv (by omega)).1
end K06

namespace K06
open PySem L2 RZ Lat PySem.Spec PyProof.Rows
/-! ## values of any kind, two deep -/
inductive Atom where
  | non
  | bl (b : Bool)
  | int (i : Int)
  | str (s : Str)
inductive D1 where
  | a (x : Atom)
  | s (isT : Bool) (xs : List Atom)
inductive D2 where
  | a (x : Atom)
  | s (isT : Bool) (xs : List D1)
def valA : Atom → V
  | .non => .non
  | .bl b => .bl b
  | .int i => .int i
  | .str s => .str s
def seqO (isT : Bool) (xs : List V) : HO := if isT then .tup xs else .lst xs
def Rel1 (H : Hp) (v : V) : D1 → Prop
  | .a x => v = valA x
  | .s t xs => ∃ p, v = .ref p ∧ H p = some (seqO t (xs.map valA))
def Rel2 (H : Hp) (v : V) : D2 → Prop
  | .a x => v = valA x
  | .s t xs => ∃ p as, v = .ref p ∧ H p = some (seqO t as) ∧ Paired (Rel1 H) as xs
theorem Rel1.keep {H H' : Hp} {v : V} {d : D1} (s : Same H H') (h : Rel1 H v d) : Rel1 H' v d := by
  cases d with
  | a x => exact h
  | s t xs => obtain ⟨p, e, q⟩ := h; exact ⟨p, e, s _ _ q⟩
theorem Rel2.keep {H H' : Hp} {v : V} {d : D2} (s : Same H H') (h : Rel2 H v d) : Rel2 H' v d := by
  cases d with
  | a x => exact h
  | s t xs => obtain ⟨p, as, e, q, r⟩ := h; exact ⟨p, as, e, s _ _ q, Paired.mapP r fun x d z => z.keep s⟩
def isIA : Atom → Bool
  | .int _ => true
  | _ => false
def isI1 : D1 → Bool
  | .a x => isIA x
  | _ => false
def isW1 : D1 → Bool
  | .a (.int i) => decide (1 ≤ i)
  | _ => false
def isV1 (n : Nat) : D1 → Bool
  | .s true xs => decide (xs.length = n) && xs.all isIA
  | _ => false
def isS1 : D1 → Bool
  | .s _ _ => true
  | _ => false
def isA2 (n : Nat) : D2 → Bool
  | .s _ xs => xs.all (isV1 n)
  | _ => false
def intA : Atom → Int
  | .int i => i
  | _ => 0
def vec1 : D1 → Vec
  | .s _ xs => xs.map intA
  | _ => []
def rows2 : D2 → List Vec
  | .s _ xs => xs.map vec1
  | _ => []
theorem valA_int {xs : List Atom} (h : xs.all isIA = true) : xs.map valA = (xs.map intA).map V.int := by
  rw [List.map_map]
  refine List.map_congr_left fun x hx => ?_
  have := List.all_eq_true.mp h x hx
  cases x <;> first | rfl | exact absurd this (fun z => nomatch z)
/-- what is a vector stands as one -/
theorem vec_of {H : Hp} {v : V} {d : D1} {n : Nat} (h : Rel1 H v d) (g : isV1 n d = true) : ∃ p, v = .ref p ∧ IsV H p (vec1 d) ∧ (vec1 d).length = n := by
  cases d with
  | a x => exact absurd g (fun z => nomatch z)
  | s t xs =>
    cases t with
    | false => exact absurd g (fun z => nomatch z)
    | true =>
      obtain ⟨p, rfl, hp⟩ := h
      obtain ⟨g1, g2⟩ := Bool.and_eq_true_iff.mp g
      refine ⟨p, rfl, ?_, ?_⟩
      · show H p = some (.tup ((xs.map intA).map V.int))
        rw [← valA_int g2]; exact hp
      · show (xs.map intA).length = n
        rw [List.length_map]; exact of_decide_eq_true g1
theorem rows_of {H : Hp} {n : Nat} : ∀ {as : List V} {xs : List D1}, Paired (Rel1 H) as xs → xs.all (isV1 n) = true → Rows H n as (xs.map vec1) := by
  intro as xs h g
  induction h with
  | nil => exact ⟨.nil, fun v hv => nomatch hv⟩
  | cons r t ih =>
    rw [List.all_cons, Bool.and_eq_true] at g
    obtain ⟨p, rfl, hv, lv⟩ := vec_of r g.1
    obtain ⟨i1, i2⟩ := ih g.2
    exact ⟨.cons ⟨p, rfl, hv⟩ i1, fun v hv => (List.mem_cons.mp hv).elim (fun e => e ▸ lv) (i2 v)⟩
end K06

namespace L2
open PySem PySem.Spec PyProof.Rows
namespace RD
open TL
/-! ## how great that may be which is read -/
def isP : Wx → Bool
  | .plus => true
  | _ => false
structure Grown (ws : List Wx) (R R' : List (List Int)) : Prop where
  ne : R' ≠ []
  cnt : R'.length = R.length + ws.countP isP
  len : ∀ m, (∀ v ∈ R, v.length ≤ m) → ∀ v ∈ R', v.length ≤ m + ws.length
  mem : ∀ v ∈ R', ∀ i ∈ v, (∃ u ∈ R, i ∈ u) ∨ Wx.num i ∈ ws
theorem st_grown : ∀ (ws : List Wx) (R R' : List (List Int)), R ≠ [] → st R ws = some R' → Grown ws R R'
  | [], R, R', h, e => by
    have : R = R' := Option.some.inj e
    subst this
    exact ⟨h, rfl, fun m q v hv => q v hv, fun v hv i hi => .inl ⟨v, hv, hi⟩⟩
  | w :: ws, R, R', h, e => by
    have e' : (w :: ws).foldlM xstep R = some R' := e
    rw [List.foldlM_cons] at e'
    obtain ⟨R0, z, rfl⟩ : ∃ R0 z, R = R0 ++ [z] := ⟨R.dropLast, R.getLast h, (List.dropLast_concat_getLast h).symm⟩
    cases hs : xstep (R0 ++ [z]) w with
    | none => rw [hs] at e'; cases e'
    | some R1 =>
      rw [hs] at e'
      cases w with
      | bad o => cases hs
      | plus =>
        have hs' : (if fullB (R0 ++ [z]) then some ((R0 ++ [z]) ++ [[]]) else none) = some R1 := hs
        split at hs'
        · have q := Option.some.inj hs'
          subst q
          have g := st_grown ws _ R' (by simp) e'
          refine ⟨g.ne, ?_, fun m q v hv => ?_, fun v hv i hi => ?_⟩
          · rw [g.cnt, List.countP_cons, List.length_append]
            show _ + 1 + _ = _ + (_ + 1)
            omega
          · refine Nat.le_trans (g.len m (fun u hu => ?_) v hv) (by rw [List.length_cons]; omega)
            rcases List.mem_append.mp hu with hu | hu
            · exact q u hu
            · rw [List.mem_singleton.mp hu]; exact Nat.zero_le _
          · rcases g.mem v hv i hi with ⟨u, hu, hi2⟩ | q
            · rcases List.mem_append.mp hu with hu | hu
              · exact .inl ⟨u, hu, hi2⟩
              · rw [List.mem_singleton.mp hu] at hi2; cases hi2
            · exact .inr (List.mem_cons_of_mem _ q)
        · cases hs'
      | num k =>
        have hs' : (if fullB (R0 ++ [z]) && decide ((R0 ++ [z]).length > 1) then none else some ((R0 ++ [z]).dropLast ++ [lastV (R0 ++ [z]) ++ [k]])) = some R1 := hs
        split at hs'
        · cases hs'
        · rw [List.dropLast_concat, lastV_snoc] at hs'
          have q := Option.some.inj hs'
          subst q
          have g := st_grown ws _ R' (by simp) e'
          refine ⟨g.ne, ?_, fun m q v hv => ?_, fun v hv i hi => ?_⟩
          · rw [g.cnt, List.countP_cons, List.length_append, List.length_append]
            show _ = _ + (_ + 0)
            rfl
          · refine Nat.le_trans (g.len (m + 1) (fun u hu => ?_) v hv) (by rw [List.length_cons]; omega)
            rcases List.mem_append.mp hu with hu | hu
            · exact Nat.le_succ_of_le (q u (List.mem_append_left _ hu))
            · rw [List.mem_singleton.mp hu, List.length_append]
              exact Nat.succ_le_succ (q z (by simp))
          · rcases g.mem v hv i hi with ⟨u, hu, hi2⟩ | q
            · rcases List.mem_append.mp hu with hu | hu
              · exact .inl ⟨u, List.mem_append_left _ hu, hi2⟩
              · rw [List.mem_singleton.mp hu] at hi2
                rcases List.mem_append.mp hi2 with hi2 | hi2
                · exact .inl ⟨z, by simp, hi2⟩
                · rw [List.mem_singleton.mp hi2]; exact .inr List.mem_cons_self
            · exact .inr (List.mem_cons_of_mem _ q)
theorem go_st : ∀ (ws : List Wx) (k : Nat) (R0 R : List (List Int)), go k R0 ws = .inr R → st R0 ws = some R
  | [], k, R0, R, h => by
    have h' : (if (lastV R0).length < (R0.head?.getD []).length then Sum.inl k else Sum.inr R0) = Sum.inr R := h
    split at h'
    · cases h'
    · cases h'; rfl
  | w :: ws, k, R0, R, h => by
    have h' : (match xstep R0 w with | none => Sum.inl k | some R' => go (k + 1) R' ws) = Sum.inr R := h
    cases hs : xstep R0 w with
    | none => rw [hs] at h'; cases h'
    | some R' =>
      rw [hs] at h'
      have := go_st ws _ _ _ h'
      show (w :: ws).foldlM xstep R0 = _
      rw [List.foldlM_cons, hs]; exact this
theorem reads_grown {ws : List Wx} {R : List (List Int)} (h : reads ws = .inr R) : R.length = 1 + ws.countP isP ∧ (∀ v ∈ R, v.length ≤ ws.length) ∧ ∀ v ∈ R, ∀ i ∈ v, Wx.num i ∈ ws := by
  have g := st_grown ws [[]] R (by simp) (go_st ws 0 _ _ h)
  refine ⟨g.cnt, fun v hv => ?_, fun v hv i hi => ?_⟩
  · have := g.len 0 (fun u hu => by rw [List.mem_singleton.mp hu]; exact Nat.zero_le _) v hv
    omega
  · rcases g.mem v hv i hi with ⟨u, hu, q⟩ | q
    · rw [List.mem_singleton.mp hu] at q; cases q
    · exact q
theorem go_le : ∀ (ws : List Wx) (k0 : Nat) (R : List (List Int)) (k : Nat), go k0 R ws = .inl k → k ≤ k0 + ws.length
  | [], k0, R, k, h => by
    have h' : (if (lastV R).length < (R.head?.getD []).length then Sum.inl k0 else Sum.inr R) = Sum.inl k := h
    split at h'
    · cases h'; exact Nat.le_refl _
    · cases h'
  | w :: ws, k0, R, k, h => by
    have h' : (match xstep R w with | none => Sum.inl k0 | some R' => go (k0 + 1) R' ws) = Sum.inl k := h
    rw [List.length_cons]
    cases hs : xstep R w with
    | none => rw [hs] at h'; cases h'; omega
    | some R' =>
      rw [hs] at h'
      have := go_le ws _ _ _ h'
      omega
theorem reads_le {ws : List Wx} {k : Nat} (h : reads ws = .inl k) : k ≤ ws.length := by
  have := go_le ws 0 _ _ h
  omega
theorem figs_short {i : Int} (h : i.natAbs < 10 ^ 9) : (figs i).length ≤ 9 := by
  rw [len_tl, tl_figs]
  exact numL_len (by decide) h
theorem num_count (p : List Int) : ((p.map Wd.num).map Wd.up).countP isP = 0 := by
  rw [List.countP_eq_zero]
  intro w hw
  obtain ⟨q, hq, rfl⟩ := List.mem_map.mp hw
  obtain ⟨i, _, rfl⟩ := List.mem_map.mp hq
  exact fun z => nomatch z
theorem wds_count : ∀ (B : List (List Int)) (p : List Int), ((wds p B).map Wd.up).countP isP = B.length
  | [], p => num_count p
  | v :: B, p => by
    show ((p.map Wd.num ++ Wd.plus :: wds v B).map Wd.up).countP isP = _
    rw [List.map_append, List.countP_append, List.map_cons, List.countP_cons, wds_count B v, num_count p]
    show 0 + (B.length + 1) = _
    rw [List.length_cons]; omega
/-- what the words of a text are, joined again -/
theorem split_words {ws : List Wx} (h : ws ≠ []) : Txt.split (PySem.Txt.join (Str.ofString " ") (ws.map Wx.txt)) (Str.ofString " ") = ws.map Wx.txt :=
  split_join (s := 32) (S := []) (by decide +kernel) (by decide +kernel) (fun e => h (List.map_eq_nil_iff.mp e)) fun q hq => by
    obtain ⟨w, _, rfl⟩ := List.mem_map.mp hq
    exact K06.word_free w
theorem split_none : Txt.split (PySem.Txt.join (Str.ofString " ") ([] : List Str)) (Str.ofString " ") = [Wx.bad .none'].map Wx.txt := by decide +kernel
end RD
end L2

namespace Lat
/-! ## a table whose rows are reduced by those behind them -/
def tidyT : Tab → Tab
  | [] => []
  | none :: os => none :: tidyT os
  | some r :: os => some (redV (rowsOf (tidyT os)) r) :: tidyT os
theorem tidyT_len : ∀ t : Tab, (tidyT t).length = t.length
  | [] => rfl
  | none :: os => congrArg (· + 1) (tidyT_len os)
  | some r :: os => congrArg (· + 1) (tidyT_len os)
theorem rows_tidyT {n : Nat} : ∀ {p : Nat} {t : Tab}, EchT n p t → rowsOf (tidyT t) = tidy (rowsOf t)
  | _, [], _ => rfl
  | p, none :: os, h => rows_tidyT (t := os) h.2
  | p, some r :: os, h => by
    obtain ⟨a, b, c⟩ := h.1 r rfl
    have ih := rows_tidyT (t := os) h.2
    show redV (rowsOf (tidyT os)) r :: rowsOf (tidyT os) = redV (tidy (rowsOf os)) (posV r) :: tidy (rowsOf os)
    have e : posV r = r := by unfold posV; rw [b, if_pos c]
    rw [ih, e]
theorem tidyT_tab {n : Nat} : ∀ {p : Nat} {t : Tab}, EchT n p t → EchT n p (tidyT t)
  | _, [], h => h
  | p, none :: os, h => ⟨fun r e => (nomatch e), tidyT_tab (t := os) h.2⟩
  | p, some r :: os, h => by
    obtain ⟨a, b, c⟩ := h.1 r rfl
    refine ⟨fun s e => ?_, tidyT_tab (t := os) h.2⟩
    cases e
    have ec : Ech n p (r :: rowsOf os) := EchT.ech (t := some r :: os) h
    have q := tidy_row ec
    have e : posV r = r := by unfold posV; rw [b, if_pos c]
    rw [e, ← rows_tidyT (t := os) h.2, b] at q
    have et := (tidyT_tab (t := os) h.2).ech
    exact ⟨(redV_len _ _ fun s hs => ((et.row s hs).1).trans a.symm).trans a, q.1, q.2⟩
theorem tidyT_at : ∀ (t : Tab) (i : Nat), (∀ r, t[i]? = some (some r) → (tidyT t)[i]? = some (some (redV (rowsOf ((tidyT t).drop (i + 1))) r))) ∧ (t[i]? = some none → (tidyT t)[i]? = some none)
  | [], i => ⟨fun r e => (by simp at e), fun e => (by simp at e)⟩
  | none :: os, 0 => ⟨fun r e => (by simp at e), fun _ => rfl⟩
  | some s :: os, 0 => ⟨fun r e => (by simp at e; subst e; rfl), fun e => (by simp at e)⟩
  | none :: os, i + 1 => tidyT_at os i
  | some s :: os, i + 1 => tidyT_at os i
theorem EchT.pad {n : Nat} : ∀ {k p : Nat} {t : Tab}, EchT n (p + k) t → EchT n p (List.replicate k none ++ t)
  | 0, p, t, h => h
  | k + 1, p, t, h => ⟨fun r e => (nomatch e), EchT.pad (k := k) (p := p + 1) (by rw [Nat.add_right_comm]; exact h)⟩
theorem EchT.drop {n : Nat} : ∀ {k p : Nat} {t : Tab}, EchT n p t → k ≤ t.length → EchT n (p + k) (t.drop k)
  | 0, p, t, h, _ => h
  | k + 1, p, [], h, l => absurd l (by simp)
  | k + 1, p, o :: os, h, l => by
    have := EchT.drop (k := k) (t := os) h.2 (by simpa using l)
    rw [Nat.add_right_comm] at this
    exact this
theorem rows_pad : ∀ (k : Nat) (t : Tab), rowsOf (List.replicate k none ++ t) = rowsOf t
  | 0, t => rfl
  | k + 1, t => rows_pad k t
/-- the rows from place k on -/
def low (k : Nat) (t : Tab) : Tab := List.replicate k none ++ t.drop k
theorem low_tab {n k : Nat} {t : Tab} (h : EchT n 0 t) (hk : k ≤ t.length) : EchT n 0 (low k t) := EchT.pad (by have := h.drop hk; exact this)
theorem low_rows (k : Nat) (t : Tab) : rowsOf (low k t) = rowsOf (t.drop k) := rows_pad k _
theorem low_len {k : Nat} {t : Tab} (h : k ≤ t.length) : (low k t).length = t.length := by
  unfold low; rw [List.length_append, List.length_replicate, List.length_drop]; omega
theorem low_at {k i : Nat} {t : Tab} (hk : k ≤ t.length) : (low k t)[i]? = if i < k then some none else t[i]? := by
  unfold low
  split
  · next h => rw [List.getElem?_append_left (by rw [List.length_replicate]; exact h), List.getElem?_replicate, if_pos h]
  · next h =>
    rw [List.getElem?_append_right (by rw [List.length_replicate]; omega), List.length_replicate, List.getElem?_drop]
    congr 1; omega
/-- the table while it is tidied: from place q on it is -/
def half (q : Nat) (t : Tab) : Tab := t.take q ++ (tidyT t).drop q
theorem half_len (q : Nat) (t : Tab) : (half q t).length = t.length := by
  unfold half; rw [List.length_append, List.length_take, List.length_drop, tidyT_len]; omega
theorem half_at (q i : Nat) (t : Tab) : (half q t)[i]? = if i < q then t[i]? else (tidyT t)[i]? := by
  unfold half
  by_cases hq : q ≤ t.length
  · split
    · next h => rw [List.getElem?_append_left (by rw [List.length_take]; omega), List.getElem?_take_of_lt h]
    · next h =>
      rw [List.getElem?_append_right (by rw [List.length_take]; omega), List.length_take, List.getElem?_drop]
      congr 1; omega
  · rw [List.take_of_length_le (by omega), List.drop_of_length_le (by rw [tidyT_len]; omega), List.append_nil]
    split
    · rfl
    · next h => rw [List.getElem?_eq_none (by omega), List.getElem?_eq_none (by rw [tidyT_len]; omega)]
theorem half_same {q q' : Nat} {t : Tab} (h : ∀ i, i < t.length → (q ≤ i ∧ i < q') ∨ (q' ≤ i ∧ i < q) → t[i]? = some none) : half q t = half q' t := by
  refine List.ext_getElem? fun i => ?_
  rw [half_at, half_at]
  by_cases hi : i < t.length
  · by_cases h1 : i < q
    · by_cases h2 : i < q'
      · rw [if_pos h1, if_pos h2]
      · have e := h i hi (.inr ⟨by omega, h1⟩)
        rw [if_pos h1, if_neg h2, e, (tidyT_at t i).2 e]
    · by_cases h2 : i < q'
      · have e := h i hi (.inl ⟨by omega, h2⟩)
        rw [if_neg h1, if_pos h2, e, (tidyT_at t i).2 e]
      · rw [if_neg h1, if_neg h2]
  · have e1 : t[i]? = none := List.getElem?_eq_none (by omega)
    have e2 : (tidyT t)[i]? = none := List.getElem?_eq_none (by rw [tidyT_len]; omega)
    rw [e1, e2]; simp
theorem rows_drop_same : ∀ {t : Tab} {q q' : Nat}, q ≤ q' → (∀ i, i < t.length → q ≤ i → i < q' → t[i]? = some none) → rowsOf (t.drop q) = rowsOf (t.drop q') := by
  intro t q q' hq
  obtain ⟨k, rfl⟩ : ∃ k, q' = q + k := ⟨q' - q, by omega⟩
  clear hq
  induction k with
  | zero => intro _; rfl
  | succ k ih =>
    intro h
    rw [ih fun i hi h1 h2 => h i hi h1 (by omega)]
    by_cases hl : q + k < t.length
    · have e := h (q + k) hl (by omega) (by omega)
      rw [List.drop_eq_getElem_cons hl]
      have e2 : t[q + k] = none := Option.some.inj ((List.getElem?_eq_getElem hl).symm.trans e)
      rw [e2]; rfl
    · rw [List.drop_of_length_le (by omega), List.drop_of_length_le (by omega)]
theorem half_set {q : Nat} {t : Tab} {r : Vec} (h : t[q]? = some (some r)) : (half (q + 1) t).set q (some (redV (rowsOf ((tidyT t).drop (q + 1))) r)) = half q t := by
  have hlt := (List.getElem?_eq_some_iff.mp h).1
  refine List.ext_getElem? fun i => ?_
  rw [List.getElem?_set, half_len, half_at, half_at]
  by_cases e : q = i
  · subst e
    rw [if_pos rfl, if_pos hlt, if_neg (Nat.lt_irrefl q), (tidyT_at t q).1 r h]
  · rw [if_neg e]
    by_cases h1 : i < q
    · rw [if_pos h1, if_pos (by omega)]
    · rw [if_neg h1, if_neg (by omega)]
theorem rows_drop_cons {t : Tab} {q : Nat} {r : Vec} (h : t[q]? = some (some r)) : rowsOf (t.drop q) = r :: rowsOf (t.drop (q + 1)) := by
  have hlt := (List.getElem?_eq_some_iff.mp h).1
  rw [List.drop_eq_getElem_cons hlt, (List.getElem?_eq_some_iff.mp h).2]; rfl
theorem half_none_iff (q i : Nat) (t : Tab) (hi : i < t.length) : (∃ r, (half q t)[i]? = some (some r)) ↔ ∃ r, t[i]? = some (some r) := by
  rw [half_at]
  obtain ⟨o, e⟩ : ∃ o, t[i]? = some o := ⟨_, List.getElem?_eq_getElem hi⟩
  cases o with
  | none => rw [(tidyT_at t i).2 e, e]; split <;> exact Iff.rfl
  | some r =>
    rw [(tidyT_at t i).1 r e, e]
    exact ⟨fun _ => ⟨r, rfl⟩, fun _ => by split <;> exact ⟨_, rfl⟩⟩
end Lat

namespace K06
open PySem L2 RZ Lat
theorem mergeK_app : ∀ (more acc : List (Key × V)), (more.map (·.1)).Nodup → (∀ k ∈ more.map (·.1), k ∉ acc.map (·.1)) → mergeK acc more = acc ++ more
  | [], acc, _, _ => (List.append_nil acc).symm
  | kv :: more, acc, nd, h => by
    have h0 := h kv.1 List.mem_cons_self
    obtain ⟨n1, n2⟩ := List.nodup_cons.mp nd
    have e : putK acc kv.1 kv.2 = acc ++ [(kv.1, kv.2)] := by
      unfold putK
      rw [if_neg]
      intro q
      obtain ⟨x, hx, e⟩ := List.any_eq_true.mp q
      exact h0 (List.mem_map.mpr ⟨x, hx, of_decide_eq_true e⟩)
    show mergeK (putK acc kv.1 kv.2) more = _
    rw [e, mergeK_app more (acc ++ [(kv.1, kv.2)]) n2 ?_, List.append_assoc]
    · rfl
    intro k hk q
    rw [List.map_append] at q
    rcases List.mem_append.mp q with q | q
    · exact h k (List.mem_cons_of_mem _ hk) q
    · have q' : k = kv.1 := List.mem_singleton.mp q
      exact n1 (by
        have q3 : k ∈ more.map (·.1) := hk
        rw [q'] at q3; exact q3)
def nk (p : Nat) : Key := Sum.inl ((p : Nat) : Int)
theorem nk_inj {p q : Nat} (h : nk p = nk q) : p = q := by
  unfold nk at h
  injection h with h
  omega
theorem valV_fn (f : Nat → V) (i : Nat) : ∀ l : List Nat, valV (l.map fun p => (nk p, f p)) (nk i) = if i ∈ l then some (f i) else none
  | [] => rfl
  | p :: l => by
    rw [List.map_cons]
    by_cases e : p = i
    · subst e
      rw [valV_pos rfl, if_pos List.mem_cons_self]
    · rw [valV_neg (fun z => e (nk_inj z)), valV_fn f i l]
      by_cases h : i ∈ l
      · rw [if_pos h, if_pos (List.mem_cons_of_mem _ h)]
      · rw [if_neg h, if_neg (fun z => by
          rcases List.mem_cons.mp z with z | z
          · exact e z.symm
          · exact h z)]
theorem nodup_lt : ∀ (n : Nat) (l : List Nat), l.Nodup → (∀ p ∈ l, p < n) → l.length ≤ n
  | 0, l, _, h => by
    cases l with
    | nil => exact Nat.le_refl _
    | cons p l => exact absurd (h p List.mem_cons_self) (Nat.not_lt_zero _)
  | n + 1, l, nd, h => by
    by_cases hn : n ∈ l
    · have q := nodup_lt n (l.erase n) (nd.erase n) fun p hp => by
        have q1 := (List.Nodup.mem_erase_iff nd).mp hp
        have := h p q1.2
        omega
      rw [List.length_erase_of_mem hn] at q
      omega
    · have q := nodup_lt n l nd fun p hp => by
        have := h p hp
        have : p ≠ n := fun z => hn (z ▸ hp)
        omega
      omega
theorem sort_places {ks : List Nat} {ns : List Int} (h : ns.Perm (ks.map fun p => ((p : Nat) : Int))) (s : ns.Pairwise (· ≤ ·)) (nd : ks.Nodup) : ∃ ps : List Nat, ns = ps.map (fun p => ((p : Nat) : Int)) ∧ ps.Perm ks ∧ ps.Pairwise (· < ·) := by
  have e : ns = (ns.map Int.toNat).map (fun p => ((p : Nat) : Int)) := by
    rw [List.map_map]
    refine ((List.map_congr_left fun x hx => ?_).trans (List.map_id ns)).symm
    obtain ⟨p, _, rfl⟩ := List.mem_map.mp (h.mem_iff.mp hx)
    show ((((p : Nat) : Int).toNat : Nat) : Int) = _
    rw [Int.toNat_natCast]; rfl
  have p1 : (ns.map Int.toNat).Perm ks := by
    have q := h.map Int.toNat
    rw [List.map_map] at q
    have e2 : ks.map (Int.toNat ∘ fun p => ((p : Nat) : Int)) = ks := (List.map_congr_left fun p _ => Int.toNat_natCast p).trans (List.map_id ks)
    rw [e2] at q
    exact q
  refine ⟨ns.map Int.toNat, e, p1, ?_⟩
  have nd' : (ns.map Int.toNat).Nodup := p1.nodup_iff.mpr nd
  have s' : (ns.map Int.toNat).Pairwise (· ≤ ·) := by
    rw [List.pairwise_map]
    exact s.imp fun {a b} hab => by omega
  exact (s'.and nd').imp fun {a b} q => Nat.lt_of_le_of_ne q.1 q.2
theorem mem_drop_sorted {ps : List Nat} (h : ps.Pairwise (· < ·)) {s p : Nat} (e : ps[s]? = some p) (i : Nat) : i ∈ ps.drop (s + 1) ↔ i ∈ ps ∧ p < i := by
  have hlt := (List.getElem?_eq_some_iff.mp e).1
  have ed : ps = ps.take s ++ p :: ps.drop (s + 1) := by
    have := List.take_append_drop s ps
    rw [List.drop_eq_getElem_cons hlt, (List.getElem?_eq_some_iff.mp e).2] at this
    exact this.symm
  have h' := h
  rw [ed] at h'
  obtain ⟨h1, h2, h3⟩ := List.pairwise_append.mp h'
  obtain ⟨h4, h5⟩ := List.pairwise_cons.mp h2
  constructor
  · exact fun q => ⟨List.mem_of_mem_drop q, h4 i q⟩
  · rintro ⟨q, lt⟩
    rw [ed] at q
    rcases List.mem_append.mp q with q | q
    · have := h3 i q p List.mem_cons_self
      omega
    · rcases List.mem_cons.mp q with q | q
      · omega
      · exact q
theorem sorted_lt {ps : List Nat} (h : ps.Pairwise (· < ·)) {i j p q : Nat} (ei : ps[i]? = some p) (ej : ps[j]? = some q) : i < j ↔ p < q := by
  obtain ⟨hi, ei⟩ := List.getElem?_eq_some_iff.mp ei
  obtain ⟨hj, ej⟩ := List.getElem?_eq_some_iff.mp ej
  have mono : ∀ {a b : Nat} (ha : a < ps.length) (hb : b < ps.length), a < b → ps[a] < ps[b] := fun ha hb hab => List.pairwise_iff_getElem.mp h _ _ ha hb hab
  constructor
  · intro q1
    have := mono hi hj q1
    omega
  · intro q1
    rcases Nat.lt_trichotomy i j with z | z | z
    · exact z
    · subst z; omega
    · have := mono hj hi z
      omega
theorem cutV_from (xs : List V) (k : Nat) (hk : k ≤ xs.length) : cutV xs (some ((k : Nat) : Int)) none = xs.drop k := by
  unfold cutV
  rw [HT.sIx_nat, HT.sIx_none, Nat.min_eq_left hk, List.take_of_length_le (by rw [List.length_drop]; exact Nat.le_refl _)]
def OkBasis (t : Tab) : Prop := ∀ (p : Nat) (r : Vec), t[p]? = some (some r) → OkLeft (low (p + 1) (tidyT t)) 0 r
def gOf (kvs : List (Key × V)) (p : Nat) : Addr := match valV kvs (nk p) with
  | some (.ref a) => a
  | _ => 0
abbrev vi (p : Nat) : V := V.int ((p : Nat) : Int)
section
variable {P : Program} {w : World} {K : PySem.W.Frag} {mg : Str → Option Value} {base : Heap}
end
end K06

namespace K06
open PySem L2 RZ Lat
theorem cutV1 (xs : List V) : cutV xs (some 1) none = xs.drop 1 := by
  cases xs with
  | nil => rfl
  | cons x xs => exact cutV_from (x :: xs) 1 (Nat.succ_le_succ (Nat.zero_le _))
section
variable {P : Program} {w : World} {K : PySem.W.Frag} {mg : Str → Option Value} {base : Heap}
abbrev s_Factors_read : Stmt := inClass (top 32) 3
abbrev n_Factors_read : List Str := ["cls", "text", "rows"]
theorem sc_Factors_read : FnScope n_Factors_read ["cls", "text"] (defScope s_Factors_read) := ⟨rfl, rfl, rfl, by decide +kernel, rfl, by decide +kernel, by decide +kernel⟩
def spReadF (D C : Addr) : Sp := fun vs H Q E => ∃ v : V, vs = [.ref D, v] ∧
  ((∃ d : D1, Rel1 H v d ∧ (∀ s, d ≠ .a (.str s)) ∧ ∀ (H' : Hp) (e : Addr), Same H H' → H e = none → H' e = some (.xd [("at", .int 0)]) → E (.ref C) (some e) H') ∨
   ∃ (line : Str) (ws : List L2.RD.Wx), v = .str line ∧ Txt.split line (Str.ofString " ") = ws.map L2.RD.Wx.txt ∧ line.length ≤ 1000000 ∧ ws ≠ [] ∧ ws.length ≤ 60 ∧ (∀ w ∈ ws, Nine w) ∧
     (∀ k, L2.RD.reads ws = .inl k → ∀ (H' : Hp) (e : Addr), Same H H' → H e = none → H' e = some (.xd [("at", .int ((k : Nat) : Int))]) → E (.ref C) (some e) H') ∧
     ∀ p B, L2.RD.reads ws = .inr (p :: B) → OkGrows [] B ∧ OkRed (grows [] B) p ∧ ∀ (H' : Hp) (x : Addr), Same H H' → FacAt D H' x p.length (some (redV (grows [] B) p)) (grows [] B) → Q (.ref x) H')
theorem ok_readF {D C fF fE fI : Addr} {fdF fdI fd : FuncData} (T : TxtS mg) (OXT : OexC K C) (iC : PySem.W.findIn K (.ref C) "__init__" = some (some (.ref fI))) (tI : PySem.W.typeIn K (.ref fI) = some (.type "function")) (g_initT : FnOk P w K mg base CX0 1 fI fdI ["self", "at"] (spInitT C)) (bI : Binds K fdI ["self", "at"] []) (mT : mg "InvalidText" = some (.ref C))
    (MD : Mk K D fF) (g_factors : FnOk P w K mg base CX0 7 fF fdF ["self", "width", "point", "rows"] (spFactors K D)) (bF : Binds K fdF ["self", "width", "point", "rows"] [])
    (g_read_vectors : HasX P w K mg base 3 "read_vectors" ["words"] (spReadVX C)) (F : Fun K "read" "Factors.read" s_Factors_read fE fd) : FnOk P w K mg base (L2.CX P w) 9 fE fd ["cls", "text"] (spReadF D C) := by
  refine F.okX sc_Factors_read (fun vs H Q E h => ?_) (fun cdv A outer s H vs Q E hr h => ?_)
  · obtain ⟨v, rfl, _⟩ := h
    rfl
  · obtain ⟨v, rfl, h⟩ := h
    refine ⟨_, (pss_cons (ps_if (pt_not (pt_val (pe_callB call_isi (by rfl) T.z_isinstance (by decide +kernel) (pa_cons (pv 1) (pa_cons (pe_bltn (v := .ty "str") (by rfl) T.z_str (by decide +kernel) rfl) pa_nil))))) (pss_one (ps_raise rfl (takes_of rfl rfl rfl rfl) (pmk_oex OXT iC tI g_initT (hr.mono (by decide)) bI .nil pass0 rfl mT (pa_cons pe_int pa_nil)))) pss_nil)
      (pss_cons (ps_set (i := 2) sc_Factors_read.nd rfl (Or.inl rfl) (pe_callHasX g_read_vectors (hr.mono (by decide)) rfl (passOut rfl rfl rfl rfl) (pa_cons (pe_split (pv 1) pe_str) pa_nil)))
      (pss_one (ps_ret (pe_makeV (i := 0) MD g_factors (hr.mono (by decide)) rfl (Or.inl rfl) bF .nil pass0 (pa_cons (pe_callB call_len (by rfl) T.z_len (by decide +kernel) (pa_cons (pe_ix ix_list (pv 2) pe_int (fun _ _ => rfl)) pa_nil)) (pa_cons (pe_ix ix_list (pv 2) pe_int (fun _ _ => rfl)) (pa_cons (pe_slice sl_list (pv 2) (po_some pe_int) po_none) pa_nil)))))))), ?_⟩
    rcases h with ⟨d, r, nstr, k⟩ | ⟨line, ws, rfl, esp, ll, wne, lws, nine, kl, kr⟩
    · cases d with
      | a y =>
        cases (show v = valA y from r)
        cases y with
        | str z => exact absurd rfl (nstr z)
        | int i => exact ⟨_, rfl, _, _, _, _, false, rfl, .ty _, .base (.int i), kit_ty (by decide +kernel), _, rfl, iteSe rfl ⟨(by decide : 1 ≤ 1000), fun a ha => raise_end (Same.refl H) (fun H9 d9 q1 q2 q3 => k H9 d9 q1 q2 q3) a ha⟩⟩
        | bl b => exact ⟨_, rfl, _, _, _, _, false, rfl, .ty _, .base (.bl b), kit_ty (by decide +kernel), _, rfl, iteSe rfl ⟨(by decide : 1 ≤ 1000), fun a ha => raise_end (Same.refl H) (fun H9 d9 q1 q2 q3 => k H9 d9 q1 q2 q3) a ha⟩⟩
        | non => exact ⟨_, rfl, _, _, _, _, false, rfl, .ty _, .base .non, kit_ty (by decide +kernel), _, rfl, iteSe rfl ⟨(by decide : 1 ≤ 1000), fun a ha => raise_end (Same.refl H) (fun H9 d9 q1 q2 q3 => k H9 d9 q1 q2 q3) a ha⟩⟩
      | s t xs =>
        obtain ⟨p, rfl, hp⟩ := r
        cases t with
        | true => exact ⟨_, rfl, _, _, _, _, false, rfl, .ty _, .base (.tup hp), kit_ty (by decide +kernel), _, rfl, iteSe rfl ⟨(by decide : 1 ≤ 1000), fun a ha => raise_end (Same.refl H) (fun H9 d9 q1 q2 q3 => k H9 d9 q1 q2 q3) a ha⟩⟩
        | false => exact ⟨_, rfl, _, _, _, _, false, rfl, .ty _, .base (.lst hp), kit_ty (by decide +kernel), _, rfl, iteSe rfl ⟨(by decide : 1 ≤ 1000), fun a ha => raise_end (Same.refl H) (fun H9 d9 q1 q2 q3 => k H9 d9 q1 q2 q3) a ha⟩⟩
    · refine ⟨_, rfl, _, _, _, _, true, rfl, .ty _, .base (.str _), kit_ty (by decide +kernel), _, rfl, iteSf rfl ?_⟩
      refine ⟨_, rfl, ⟨_, rfl⟩, _, _, rfl, rfl, by decide +kernel, Nat.le_trans (Nat.add_le_add_right ll 2) (by decide), fun c hc => ?_⟩
      rw [esp]
      obtain ⟨sc, hc'⟩ := new_at (o := .lst ((ws.map L2.RD.Wx.txt).map V.str)) hc
      have fr : ∀ e, upd H c (.lst ((ws.map L2.RD.Wx.txt).map V.str)) e = none → H e = none := fun e q => by
        cases hh : H e with
        | none => rfl
        | some o => rw [sc _ _ hh] at q; cases q
      refine ⟨c, ws, rfl, hc', wne, by omega, nine, fun k hk H' e s q1 q2 => kl k hk H' e (sc.trans s) (fr e q1) q2, fun R hR H1 r as s1 hr1 hrs => ?_⟩
      obtain ⟨p, B, rfl, p0, lB⟩ := L2.RD.reads_rows wne hR
      obtain ⟨ok, okr, kq⟩ := kr p B hR
      obtain ⟨g1, g2, _⟩ := L2.RD.reads_grown hR
      have cP := List.countP_le_length (p := L2.RD.isP) (l := ws)
      have lp := g2 p List.mem_cons_self
      rw [List.length_cons] at g1
      obtain ⟨b0, as', rfl, h0, hrs1⟩ : ∃ b0 as', as = V.ref b0 :: as' ∧ IsV H1 b0 p ∧ Rows H1 p.length as' B := by
        cases hrs with
        | cons h q => obtain ⟨b0, rfl, h0⟩ := h; exact ⟨b0, _, rfl, h0, q, lB⟩
      refine ⟨rfl, ?_⟩
      refine ⟨_, rfl, r, _, _, _, rfl, rfl, SqL.of hr1, atI_head _ _, _, _, rfl, .inr ⟨_, SqT.of h0, rfl⟩, ?_⟩
      refine ⟨_, rfl, r, _, _, _, rfl, rfl, SqL.of hr1, atI_head _ _, ?_⟩
      refine ⟨_, rfl, _, rfl, r, _, rfl, SqL.of hr1, fun c2 hc2 => ?_⟩
      obtain ⟨s2, hc2'⟩ := new_at (o := .lst (cutV (V.ref b0 :: as') (some 1) none)) hc2
      rw [cutV1] at hc2' s2 ⊢
      refine fun x dx hx hdx ndx => ?_
      rw [List.length_map]
      have so : ∀ {H3 : Hp}, H3 x = none → H3 dx = none → Same H3 (upd (upd H3 dx (.own x)) x (.ins D dx [])) := fun {H3} hx hdx z o h => by
        rw [upd_ne (ne_of_none h hx), upd_ne (ne_of_none h hdx)]; exact h
      have s3 := so hx hdx
      refine ⟨x, dx, c2, p.length, .ref b0, some p, as', B, rfl, upd_same, p0, by omega, by omega, .inl (s3 _ _ hc2'), hrs1.keep (s2.trans s3), ok, ⟨b0, rfl, s3 _ _ (s2 _ _ h0), rfl⟩, (fun v e => by cases e; exact okr), fun H' kp fac => ⟨rfl, kq _ x (fun y o h => ?_) fac⟩⟩
      have h4 := s2 _ _ (s1 _ _ (sc _ _ h))
      exact kp y o (ne_of_none h4 hx) (s3 _ _ h4)
end
end K06

namespace L2
open PySem PySem.Spec PyProof.Rows
theorem pe_joinK {X : Cx} {K : PySem.W.Frag} (e0 : X.K = K) {o e : Expr} {to te : TE} {apos pos : Pos} (ho : PE X o to) (he : PE X e te) (hs : starEach [e] X.env = [(false, eval e X.env)] := by rfl) (hbase : attributeBase o "join" X.env (eval o X.env) = eval o X.env := by rfl) (hline : (apos.endLine == pos.line) = true := by rfl) :
    PE X (.Call (.Attribute o "join" apos) [e] [] pos) (tM1 (fun x xs H Q => ∃ a p, ∃ ys : List Str, x = .str a ∧ xs = [.ref p] ∧ (SqL K H p (ys.map V.str) ∨ SqT K H p (ys.map V.str)) ∧
      (ys.map (·.length)).sum + ys.length * a.length ≤ 16777216 ∧ Q (.str (Txt.join a ys)) H) to te) := by
  subst e0; exact pe_join ho he hs hbase hline
end L2
namespace K06
open PySem L2 RZ Lat
theorem map_atI {v : Vec} {y : V} {i : Nat} (h : (v.map V.int)[i]? = some y) : ∃ z, v[i]? = some z ∧ y = V.int z := by
  rw [List.getElem?_map] at h
  obtain ⟨z, ez, e⟩ := Option.map_eq_some_iff.mp h
  exact ⟨z, ez, e.symm⟩
section
variable {P : Program} {w : World} {K : PySem.W.Frag} {mg : Str → Option Value} {base : Heap}
abbrev s_law_pick : Stmt := top 36
abbrev n_law_pick : List Str := ["_law_box_here", "_law_items"]
theorem sc_law_pick : FnScope n_law_pick ["_law_box_here", "_law_items"] (defScope s_law_pick) := ⟨rfl, rfl, rfl, by decide +kernel, rfl, by decide +kernel, by decide +kernel⟩
def spPick : Sp := fun vs H Q _ => ∃ (b l : Addr) (as : List V), vs = [.ref b, .ref l] ∧ Box H b ∧ H l = some (.lst as) ∧ l ≠ b ∧ 0 < as.length ∧ as.length ≤ 1000 ∧ ∀ (i : Nat) (v : V) (x y z : Int), as[i]? = some v → Q v (upd H b (.lst [.int x, .int y, .int z]))
theorem ok_pick (T : Txt mg) (g_law_take : Has P w K mg base 1 "_law_take" ["_law_box_here", "_law_many"] spTake) (F : DefAt K mg "_law_pick" s_law_pick ["_law_box_here", "_law_items"]) : Has P w K mg base 2 "_law_pick" ["_law_box_here", "_law_items"] spPick := by
  refine F.has sc_law_pick (fun vs H Q E h => ?_) (fun f cdv A outer s H vs Q E hr h => ?_)
  · obtain ⟨b, l, as, rfl, _⟩ := h
    rfl
  · obtain ⟨b, l, as, rfl, hb, hl, nb, l0, l1, k⟩ := h
    refine ⟨_, (pss_one (ps_ret (pe_ix ix_list (pv 1) (pe_callHas g_law_take (hr.mono (by decide)) rfl (pa_cons (pv 0) (pa_cons (pe_callB call_len (by rfl) T.z_len (by decide +kernel) (pa_cons (pv 1) pa_nil)) pa_nil))) (fun _ _ => rfl)))), ?_⟩
    refine ⟨_, rfl, _, rfl, _, rfl, _, _, rfl, .inl ⟨as, SqL.of hl, rfl⟩, b, (as.length : Int), rfl, hb, by omega, by omega, fun d x y z d0 d1 => ?_⟩
    obtain ⟨i, rfl⟩ : ∃ i : Nat, d = ((i : Nat) : Int) := ⟨d.toNat, by omega⟩
    have hi : i < as.length := by omega
    have e := List.getElem?_eq_getElem hi
    refine ⟨l, as, _, _, rfl, rfl, SqL.of (by rw [upd_ne nb]; exact hl), atI_nat e, ?_⟩
    exact k i _ x y z e
abbrev s_law_line : Stmt := top 45
abbrev n_law_line : List Str := ["_law_vectors", "_law_row", "_law_number_here"]
theorem sc_law_line : FnScope n_law_line ["_law_vectors"] (defScope s_law_line) := ⟨rfl, rfl, rfl, by decide +kernel, rfl, by decide +kernel, by decide +kernel⟩
def spLine : Sp := fun vs H Q _ => ∃ (l : Addr) (as : List V) (n : Nat) (R : List Vec), vs = [.ref l] ∧ H l = some (.lst as) ∧ Rows H n as R ∧ n ≤ 60 ∧ R.length ≤ 61 ∧ (∀ v ∈ R, Num1 v) ∧ ∀ H', Same H H' → Q (.str (Txt.join (Str.ofString " + ") (R.map wS))) H'
theorem ok_line (T : TxtS mg) (F : DefAt K mg "_law_line" s_law_line ["_law_vectors"]) : Has P w K mg base 1 "_law_line" ["_law_vectors"] spLine := by
  refine F.has sc_law_line (fun vs H Q E h => ?_) (fun f cdv A outer s H vs Q E hr h => ?_)
  · obtain ⟨l, as, n, R, rfl, _⟩ := h
    rfl
  · obtain ⟨l, as, n, R, rfl, hl, hR, n60, l61, num, k⟩ := h
    refine ⟨_, (pss_one (ps_ret (pe_join pe_str (pe_lc (own := [("_law_row", 1)]) (g := gName 1) (by rfl) sc_law_line.nd (pi_list (pv 0)) (blkOk_by (own := [("_law_row", 1)]) (N := n_law_line) (sc := defScope s_law_line) (by decide +kernel)) (fun _ _ _ _ _ => (pg_name (i := 1) sc_law_line.nd rfl (Or.inl rfl))) (fun _ _ _ _ _ => pts_nil) (fun _ _ _ _ _ => (pe_joinK (K := K) rfl pe_str (pe_lc (own := [("_law_number_here", 2)]) (g := gName 2) (by rfl) sc_law_line.nd (pi_tupK (K := K) rfl (pv 1)) (blkOk_by (own := [("_law_number_here", 2)]) (N := n_law_line) (sc := ({ kind := .function, names := [((".0" : Str), .local), ("_law_row", .local)], isGenerator := false, isCoroutine := false } : Scope)) (by decide +kernel)) (fun _ _ _ _ _ => (pg_name (i := 2) sc_law_line.nd rfl (Or.inl rfl))) (fun _ _ _ _ _ => pts_nil) (fun _ _ _ _ _ => (pe_callTy call_str_int (by rfl) T.z_str (by decide +kernel) (pa_cons (pv 2) pa_nil)))))))))), ?_⟩
    refine ⟨⟨_, rfl⟩, _, rfl, l, rfl, ⟨_, SqL.of hl⟩, fun D hD => lc_it (walk_list (xs := as)) (fun i H' => Same H H' ∧ H' D = some (.lst ((R.take i).map fun z => V.str (wS z)))) ⟨(new_at hD).1, upd_same⟩ (fun i H' _ q => SqL.of (q.1 _ _ hl)) ?_ ?_⟩
    · rintro i y H' H'' hi ⟨sm, hD'⟩ ⟨rfl, e1⟩
      obtain ⟨a, v, ev, rfl, ha, lv⟩ := (hR.keep sm).at e1
      have nv := num v (List.mem_of_getElem? ev)
      refine ⟨rfl, ⟨_, rfl⟩, _, rfl, a, rfl, ⟨_, SqT.of ha⟩, fun D2 hD2 => lc_it (walk_tup (xs := v.map V.int)) (fun t H3 => Same H'' H3 ∧ H3 D2 = some (.lst ((v.take t).map fun z => V.str (iS z)))) ⟨(new_at hD2).1, upd_same⟩ (fun t H3 _ q => SqT.of (q.1 _ _ ha)) ?_ ?_⟩
      · rintro t y H3 H4 ht ⟨sm2, hD3⟩ ⟨rfl, e2⟩
        obtain ⟨z, ez, rfl⟩ := map_atI e2
        refine ⟨rfl, _, rfl, z, rfl, nv z (List.mem_of_getElem? ez), _, hD3, ?_, fun y o w => by rw [upd_ne (ne_of_none w hD2)]; exact sm2 _ _ w, ?_⟩
        · rw [List.length_map]
          exact Nat.lt_of_le_of_lt (Nat.le_trans (List.length_take_le' _ _) (show v.length ≤ 60 by omega)) (by decide)
        · rw [upd_same, List.take_add_one, ez, List.map_append]; rfl
      · rintro H3 ⟨sm2, hD3⟩
        rw [List.length_map, List.take_length] at hD3
        have hs := iSs_len nv
        refine ⟨_, D2, v.map iS, rfl, rfl, .inl (SqL.of (by rw [List.map_map]; exact hD3)), ?_, _, sm2 _ _ hD', ?_, fun y o w => by rw [upd_ne (ne_of_none w hD)]; exact sm2 _ _ (sm _ _ w), ?_⟩
        · rw [List.length_map, show (Str.ofString " ").length = 1 by decide +kernel]
          omega
        · rw [List.length_map]
          exact Nat.lt_of_le_of_lt (Nat.le_trans (List.length_take_le' _ _) l61) (by decide)
        · rw [upd_same, List.take_add_one, ev, List.map_append]; rfl
    · rintro H' ⟨sm, hD'⟩
      rw [hR.len, List.take_length] at hD'
      have hs := wSs_len (B := R) (n := n) fun v hv => ⟨hR.2 v hv, num v hv⟩
      refine ⟨_, D, R.map wS, rfl, rfl, .inl (SqL.of (by rw [List.map_map]; exact hD')), ?_, k _ sm⟩
      rw [List.length_map, show (Str.ofString " + ").length = 3 by decide +kernel]
      have := Nat.mul_le_mul (show 1922 * n ≤ 1922 * 60 by omega) l61
      omega
abbrev s_law_is_short : Stmt := top 49
abbrev n_law_is_short : List Str := ["_law_vectors", "_law_row", "_law_number_here"]
theorem sc_law_is_short : FnScope n_law_is_short ["_law_vectors"] (defScope s_law_is_short) := ⟨rfl, rfl, rfl, by decide +kernel, rfl, by decide +kernel, by decide +kernel⟩
def shortB (R : List Vec) : Bool := R.all fun v => v.all fun i => decide (i.natAbs < 1000000000)
def spShort : Sp := fun vs H Q _ => ∃ (l : Addr) (as : List V) (n : Nat) (R : List Vec), vs = [.ref l] ∧ H l = some (.lst as) ∧ Rows H n as R ∧ n ≤ 60 ∧ ∀ H', Same H H' → Q (.bl (shortB R)) H'
theorem ok_short (T : TxtS mg) (F : DefAt K mg "_law_is_short" s_law_is_short ["_law_vectors"]) : Has P w K mg base 1 "_law_is_short" ["_law_vectors"] spShort := by
  refine F.has sc_law_is_short (fun vs H Q E h => ?_) (fun f cdv A outer s H vs Q E hr h => ?_)
  · obtain ⟨l, as, n, R, rfl, _⟩ := h
    rfl
  · have hu := hr.units
    obtain ⟨l, as, n, R, rfl, hl, hR, n60, k⟩ := h
    refine ⟨_, (pss_cons (ps_for PassesOwn.never rfl (pi_list (pv 0)) (pg_name (i := 1) sc_law_is_short.nd rfl (Or.inl rfl)) (pss_one (ps_if (pt_cmpR (op_neD hu) (pe_lc (own := [("_law_number_here", 2)]) (g := gName 2) (by rfl) sc_law_is_short.nd (pi_tup (pv 1)) (blkOk_by (own := [("_law_number_here", 2)]) (N := n_law_is_short) (sc := defScope s_law_is_short) (by decide +kernel)) (fun _ _ _ _ _ => (pg_name (i := 2) sc_law_is_short.nd rfl (Or.inl rfl))) (fun _ _ _ _ _ => (pts_one (pt_cmpR op_ge (pe_callB call_abs (by rfl) T.z_abs (by decide +kernel) (pa_cons (pv 2) pa_nil)) (pe_op op_pow pe_int pe_int) (nomark _)))) (fun _ _ _ _ _ => (pv 2))) (pe_lst pa_nil) (nomark _)) (pss_one (ps_ret pe_bl)) pss_nil)))
      (pss_one (ps_ret pe_bl))), ?_⟩
    refine ⟨_, rfl, l, rfl, ⟨_, SqL.of hl⟩, for_it (walk_list (xs := as)) (fun t σ H' => Same H H' ∧ shortB (R.take t) = true ∧ ∃ x1 x2, σ = [some (.ref l), x1, x2]) ⟨Same.refl H, rfl, _, _, rfl⟩ (fun t σ H' _ z => SqL.of (z.1 _ _ hl)) ?_ ?_⟩
    · rintro t y σ H' H'' ht ⟨sm, sh, x1, x2, rfl⟩ ⟨rfl, e1⟩
      obtain ⟨a, v, ev, rfl, ha, lv⟩ := (hR.keep sm).at e1
      refine ⟨_, rfl, a, rfl, ⟨_, SqT.of ha⟩, fun D hD => lc_it (walk_tup (xs := v.map V.int)) (fun i H3 => Same H'' H3 ∧ H3 D = some (.lst (((v.take i).filter fun m => decide (1000000000 ≤ m.natAbs)).map V.int))) ⟨(new_at hD).1, upd_same⟩ (fun i H3 _ z => SqT.of (z.1 _ _ ha)) ?_ ?_⟩
      · rintro i y H3 H4 hi ⟨sm2, hD'⟩ ⟨rfl, ey⟩
        obtain ⟨m1, em1, rfl⟩ := map_atI ey
        refine ⟨rfl, ?_⟩
        refine ⟨_, rfl, _, rfl, _, _, rfl, rfl, ⟨by decide, by decide, by decide⟩, _, _, rfl, rfl, _, rfl, ?_⟩
        have et : v.take (i + 1) = v.take i ++ [m1] := by rw [List.take_add_one, em1]; rfl
        have e9 : (10 : Int) ^ (9 : Int).toNat = 1000000000 := by decide +kernel
        rw [e9]
        have eq : decide ((1000000000 : Int) ≤ (if m1 < 0 then -m1 else m1)) = decide (1000000000 ≤ m1.natAbs) := decide_eq_decide.mpr (by split <;> omega)
        by_cases hbig : 1000000000 ≤ m1.natAbs
        · refine iteSe (eq.trans (decide_eq_true hbig)) ?_
          refine ⟨_, rfl, _, hD', ?_, fun y o z => ?_, ?_⟩
          · rw [List.length_map]
            exact Nat.lt_of_le_of_lt (Nat.le_trans (List.length_filter_le _ _) (by rw [List.length_take]; exact Nat.le_trans (Nat.min_le_right _ _) (show v.length ≤ 60 by omega))) (by decide)
          · rw [upd_ne (ne_of_none z hD)]
            exact sm2 _ _ z
          · rw [upd_same, et, List.filter_append, List.map_append]
            simp [hbig]
        · refine iteSf (eq.trans (decide_eq_false hbig)) ?_
          refine ⟨sm2, ?_⟩
          rw [et, List.filter_append, List.map_append]
          simpa [hbig] using hD'
      rintro H3 ⟨sm2, hD'⟩
      rw [List.length_map, List.take_length] at hD'
      refine ⟨Nat.zero_le _, fun z4 hz4 => ?_⟩
      obtain ⟨s27, hz27⟩ := new_at (o := .lst []) hz4
      refine ⟨.list ((v.filter fun m => decide (1000000000 ≤ m.natAbs)).map PyData.int), .list [], .lst (SqL.of (s27 _ _ hD')) (intsL_dp _), .lst (SqL.of hz27) .nil, listI_shaped _, by decide +kernel, ?_⟩
      rw [eqv_nil_any]
      have st : shortB (R.take (t + 1)) = v.all fun i => decide (i.natAbs < 1000000000) := by
        unfold shortB at sh ⊢
        rw [List.take_add_one, ev, List.all_append, sh]
        show (true && (_ && true)) = _
        rw [Bool.true_and, Bool.and_true]
      by_cases hv : (v.filter fun m => decide (1000000000 ≤ m.natAbs)) = []
      · refine ⟨_, rfl, iteSf (by rw [hv]; rfl) ?_⟩
        refine ⟨sm.trans (sm2.trans s27), ?_, _, _, rfl⟩
        rw [st, List.all_eq_true]
        intro x hx
        have := (List.filter_eq_nil_iff.mp hv) x hx
        have h2 : ¬ 1000000000 ≤ x.natAbs := fun z => this (decide_eq_true z)
        exact decide_eq_true (by omega)
      · refine ⟨_, rfl, iteSe (by rw [decide_eq_false (fun e => hv (List.map_eq_nil_iff.mp e))]; rfl) ?_⟩
        have hf : shortB R = false := by
          cases h : shortB R with
          | false => rfl
          | true =>
            refine absurd ?_ hv
            refine List.filter_eq_nil_iff.mpr fun x hx => ?_
            unfold shortB at h
            have := of_decide_eq_true (List.all_eq_true.mp (List.all_eq_true.mp h v (List.mem_of_getElem? ev)) x hx)
            rw [decide_eq_false (by omega)]; decide
        have := k (upd H3 z4 (.lst [])) (sm.trans (sm2.trans s27))
        rw [hf] at this
        exact this
    · rintro σ H' ⟨sm, sh, x1, x2, rfl⟩
      rw [hR.len, List.take_length] at sh
      have := k H' sm
      rw [sh] at this
      exact this
abbrev s_law_read : Stmt := top 48
abbrev n_law_read : List Str := ["_law_line_here", "_law_found", "e"]
theorem sc_law_read : FnScope n_law_read ["_law_line_here"] (defScope s_law_read) := ⟨rfl, rfl, rfl, by decide +kernel, rfl, by decide +kernel, by decide +kernel⟩
def spLRead (D : Addr) : Sp := fun vs H Q _ => ∃ v : V, vs = [v] ∧
  ((∃ d : D1, Rel1 H v d ∧ (∀ s, d ≠ .a (.str s)) ∧ ∀ (H' : Hp), Same H H' → Q (.int 0) H') ∨
   ∃ (line : Str) (ws : List L2.RD.Wx), v = .str line ∧ Txt.split line (Str.ofString " ") = ws.map L2.RD.Wx.txt ∧ line.length ≤ 1000000 ∧ ws ≠ [] ∧ ws.length ≤ 60 ∧ (∀ w ∈ ws, Nine w) ∧
     (∀ k, L2.RD.reads ws = .inl k → ∀ (H' : Hp), Same H H' → Q (.int ((k : Nat) : Int)) H') ∧
     ∀ p B, L2.RD.reads ws = .inr (p :: B) → OkGrows [] B ∧ OkRed (grows [] B) p ∧ ∀ (H' : Hp) (x : Addr), Same H H' → FacAt D H' x p.length (some (redV (grows [] B) p)) (grows [] B) → Q (.ref x) H')
theorem ok_lread {D IT pU fU : Addr} {mcD : Value} (T : TxtS mg) (DL : ClsF K mg D) (te : PySem.W.exmOne K (.ref IT) (.ref IT) = some true) (mT : mg "InvalidText" = some (.ref IT)) (XT : XfC K IT) (nAt : PySem.W.findIn K (.ref IT) "at" = some none)
    (RD : ClX.CRead K D mcD) (CR : ClX.CMet K D mcD "read" pU fU) (g_readX : FnR P w K mg base (L2.CX P w) 9 fU (spReadF D IT)) (F : DefAt K mg "_law_read" s_law_read ["_law_line_here"]) : Has P w K mg base 11 "_law_read" ["_law_line_here"] (spLRead D) := by
  refine F.has sc_law_read (fun vs H Q E h => ?_) (fun f cdv A outer s H vs Q E hr h => ?_)
  · obtain ⟨v, rfl, _⟩ := h
    rfl
  · obtain ⟨v, rfl, h⟩ := h
    refine ⟨_, (pss_cons (ps_set (i := 1) sc_law_read.nd rfl (Or.inl rfl) pe_non)
      (pss_cons (ps_try_as (i := 2) (Wout := fun _ _ _ _ => False) rfl rfl sc_law_read.nd rfl rfl ⟨rfl, by decide, Or.inl mT⟩ takes0 (fun W pn xe tk _ => (pss_one (ps_set (i := 1) sc_law_read.nd rfl (Or.inl rfl) (ClX.pe_cmeth (pe_glob (v := .ref D) rfl DL.m rfl) RD CR g_readX (hr.mono (by decide)) (passLen 3 (by rfl) tk) (pa_cons (pv 0) pa_nil))))) (fun a oe cls d pn hz hf => (pss_one (ps_set (i := 1) sc_law_read.nd rfl (Or.inl rfl) (pe_xf XT nAt hz hf (pv 2))))))
      (pss_one (ps_ret (pv 1))))), ?_⟩
    refine ⟨rfl, _, rfl, v, rfl, ?_⟩
    rcases h with ⟨d, r, nstr, k⟩ | ⟨line, ws, ev, esp, ll, wne, lws, nine, kl, kr⟩
    · refine .inl ⟨d, r, nstr, fun H' e sm hn he σ hσ => ?_⟩
      match σ, hσ with
      | [x0, x1, x2], _ =>
        refine ⟨true, te, fun _ a ha => ?_, fun q => nomatch q⟩
        exact ⟨_, rfl, rfl, rfl, e, _, _, rfl, he, rfl, _, rfl, k H' sm⟩
    · refine .inr ⟨line, ws, ev, esp, ll, wne, lws, nine, fun k hk H' e sm hn he σ hσ => ?_, fun p B hR => ?_⟩
      · match σ, hσ with
        | [x0, x1, x2], _ =>
          refine ⟨true, te, fun _ a ha => ?_, fun q => nomatch q⟩
          exact ⟨_, rfl, rfl, rfl, e, _, _, rfl, he, rfl, _, rfl, kl k hk H' sm⟩
      · obtain ⟨q1, q2, q3⟩ := kr p B hR
        exact ⟨q1, q2, fun H' x sm fac => ⟨_, rfl, q3 H' x sm fac⟩⟩
end
end K06

namespace K06
open PySem L2 RZ Lat
theorem atI_headD (x : V) (xs : List V) : atI (x :: xs) 0 = some x := by
  unfold atI ixN
  rw [if_pos (by decide), if_pos (by rw [List.length_cons]; omega)]; rfl
/-- behind a word there is a number, or a second row -/
theorem st_grow : ∀ (ws : List L2.RD.Wx) (R0 : List Vec), (R0.length > 1 ∨ 0 < (L2.RD.lastV R0).length) → ∀ R1, L2.RD.st R0 ws = some R1 → R1.length > 1 ∨ 0 < (L2.RD.lastV R1).length := by
  intro ws
  induction ws with
  | nil =>
    intro R0 h R1 e
    have : R0 = R1 := Option.some.inj e
    subst this; exact h
  | cons w ws ih =>
    intro R0 h R1 e
    have e' : (w :: ws).foldlM L2.RD.xstep R0 = some R1 := e
    rw [List.foldlM_cons] at e'
    cases hs : L2.RD.xstep R0 w with
    | none => rw [hs] at e'; cases e'
    | some R' =>
      rw [hs] at e'
      refine ih R' ?_ R1 e'
      cases w with
      | bad o => cases hs
      | plus =>
        have hs' : (if L2.RD.fullB R0 then some (R0 ++ [[]]) else none) = some R' := hs
        by_cases hf : L2.RD.fullB R0 = true
        · rw [if_pos hf] at hs'
          have q := Option.some.inj hs'
          subst q
          left
          have : 0 < R0.length := by
            cases R0 with
            | nil => rcases h with h | h <;> simp [L2.RD.lastV] at h
            | cons a r => simp
          rw [List.length_append]; show R0.length + 1 > 1; omega
        · rw [if_neg hf] at hs'; cases hs'
      | num i =>
        have hs' : (if L2.RD.fullB R0 && decide (R0.length > 1) then none else some (R0.dropLast ++ [L2.RD.lastV R0 ++ [i]])) = some R' := hs
        by_cases hf : (L2.RD.fullB R0 && decide (R0.length > 1)) = true
        · rw [if_pos hf] at hs'; cases hs'
        · rw [if_neg hf] at hs'
          have q := Option.some.inj hs'
          subst q
          right
          rw [L2.RD.lastV_snoc, List.length_append]; show 0 < _ + 1; omega
theorem st_some {ws : List L2.RD.Wx} (hne : ws ≠ []) {R1 : List Vec} (e : L2.RD.st [[]] ws = some R1) : R1.length > 1 ∨ 0 < (L2.RD.lastV R1).length := by
  cases ws with
  | nil => exact absurd rfl hne
  | cons w ws =>
    have e' : (w :: ws).foldlM L2.RD.xstep [[]] = some R1 := e
    rw [List.foldlM_cons] at e'
    cases hs : L2.RD.xstep [[]] w with
    | none => rw [hs] at e'; cases e'
    | some R' =>
      rw [hs] at e'
      refine st_grow ws R' ?_ R1 e'
      cases w with
      | bad o => cases hs
      | plus =>
        have hs' : (if L2.RD.fullB [[]] = true then some ([[]] ++ [[]]) else none) = some R' := hs
        rw [if_neg (by decide)] at hs'
        cases hs'
      | num i =>
        have hs' : some [[i]] = some R' := hs
        have q := Option.some.inj hs'
        subst q
        exact .inr (by show 0 < 1; decide)
section
variable {P : Program} {w : World} {K : PySem.W.Frag} {mg : Str → Option Value} {base : Heap}
abbrev s_law_due : Stmt := top 47
abbrev n_law_due : List Str := ["_law_line_here", "_law_words", "_law_found", "_law_row", "_law_at", "_law_word", "_law_is_full"]
theorem sc_law_due : FnScope n_law_due ["_law_line_here"] (defScope s_law_due) := ⟨rfl, rfl, rfl, by decide +kernel, rfl, by decide +kernel, by decide +kernel⟩
def spDue : Sp := fun vs H Q _ => ∃ (line : Str) (ws : List L2.RD.Wx), vs = [.str line] ∧ Txt.split line (Str.ofString " ") = ws.map L2.RD.Wx.txt ∧ line.length ≤ 1000000 ∧ ws ≠ [] ∧ ws.length ≤ 1000 ∧ (∀ w ∈ ws, Nine w) ∧
  (∀ k, L2.RD.reads ws = .inl k → ∀ H', Same H H' → Q (.int ((k : Nat) : Int)) H') ∧
  ∀ R, L2.RD.reads ws = .inr R → ∀ (H' : Hp) (r : Addr) (As : List Addr), Same H H' → H' r = some (.lst (As.map V.ref)) → As.length = R.length → (∀ (j : Nat) (b : Addr) (v : Vec), As[j]? = some b → R[j]? = some v → IsL H' b v) → Q (.ref r) H'
theorem ok_due (T : Txt mg) (g_law_is_number : Has P w K mg base 1 "_law_is_number" ["_law_word"] spIsNum) (F : DefAt K mg "_law_due" s_law_due ["_law_line_here"]) : Has P w K mg base 2 "_law_due" ["_law_line_here"] spDue := by
  refine F.has sc_law_due (fun vs H Q E h => ?_) (fun f cdv A outer s H vs Q E hr h => ?_)
  · obtain ⟨z, ws, rfl, _⟩ := h
    rfl
  · have hu := hr.units
    obtain ⟨line, ws, rfl, esp, ll, wne, lws, nine, kl, kr⟩ := h
    refine ⟨_, (pss_cons (ps_par3 (i := 1) (j := 2) (l := 3) (by rfl) sc_law_due.nd rfl rfl rfl (by decide) (by decide) (by decide) rfl rfl rfl (pa_cons (pe_split (pv 0) pe_str) (pa_cons (pe_lst pa_nil) (pa_cons (pe_lst pa_nil) pa_nil))) (by rfl))
      (pss_cons (ps_for PassesOwn.never rfl (pi_enum (by rfl) T.z_enumerate (pa_cons (pv 1) pa_nil)) (pg_tup rfl (pgs_cons (pg_name (i := 4) sc_law_due.nd rfl (Or.inl rfl)) (pgs_cons (pg_name (i := 5) sc_law_due.nd rfl (Or.inl rfl)) pgs_nil))) (C8.pss_cut (ps_set (i := 6) sc_law_due.nd rfl (Or.inl rfl) (pe_and (pe_cmpR (op_neD hu) (pv 3) (pe_lst pa_nil) (nomark _)) (pe_one (pe_or (pe_cmpR (op_eqD hu) (pv 2) (pe_lst pa_nil) (nomark _)) (pe_one (pe_cmpR op_eq (pe_callB call_len (by rfl) T.z_len (by decide +kernel) (pa_cons (pv 3) pa_nil)) (pe_callB call_len (by rfl) T.z_len (by decide +kernel) (pa_cons (pe_ix ix_list (pv 2) pe_int (fun _ _ => rfl)) pa_nil)) (nomark _)))))))
      (pss_one (ps_if (pt_cmpR op_eq (pv 5) pe_str (nomark _)) (pss_cons (ps_if (pt_not (pt_val (pv 6))) (pss_one (ps_ret (pv 4))) pss_nil)
      (pss_cons (ps_expr (pe_bm PySem.F.plainAttrs_list PySem.F.slot_list_append PySem.F.type_list_append mt_append (pv 2) (pa_cons (pv 3) pa_nil)))
      (pss_one (ps_set (i := 3) sc_law_due.nd rfl (Or.inl rfl) (pe_lst pa_nil))))) (pss_one (ps_if (PW.pt (pw_or (pt_not (pt_val (pe_callHas g_law_is_number (hr.mono (by decide)) rfl (pa_cons (pv 5) pa_nil)))) (pw_or1 (PW.pt (pw_and (pt_cmpR (op_neD hu) (pv 2) (pe_lst pa_nil) (nomark _)) (pw_and1 (pt_val (pv 6)))))))) (pss_one (ps_ret (pv 4))) (pss_one (ps_expr (pe_bm PySem.F.plainAttrs_list PySem.F.slot_list_append PySem.F.type_list_append mt_append (pv 3) (pa_cons (pe_callTy call_int_str (by rfl) T.z_int (by decide +kernel) (pa_cons (pv 5) pa_nil)) pa_nil))))))))))
      (pss_cons (ps_if (PW.pt (pw_or (pt_cmpR (op_eqD hu) (pv 3) (pe_lst pa_nil) (nomark _)) (pw_or1 (PW.pt (pw_and (pt_cmpR (op_neD hu) (pv 2) (pe_lst pa_nil) (nomark _)) (pw_and1 (pt_cmpR op_ne (pe_callB call_len (by rfl) T.z_len (by decide +kernel) (pa_cons (pv 3) pa_nil)) (pe_callB call_len (by rfl) T.z_len (by decide +kernel) (pa_cons (pe_ix ix_list (pv 2) pe_int (fun _ _ => rfl)) pa_nil)) (nomark _)))))))) (pss_one (ps_ret (pe_callB call_len (by rfl) T.z_len (by decide +kernel) (pa_cons (pv 1) pa_nil)))) pss_nil)
      (pss_one (ps_ret (pe_op op_cat (pv 2) (pe_lst (pa_cons (pv 3) pa_nil)))))))), ?_⟩
    refine ⟨_, rfl, ⟨_, rfl⟩, _, _, rfl, rfl, by decide +kernel, Nat.le_trans (Nat.add_le_add_right ll 2) (by decide), fun c hc => ?_⟩
    rw [esp]
    obtain ⟨s1, hc1⟩ := new_at (o := .lst ((ws.map L2.RD.Wx.txt).map V.str)) hc
    generalize upd H c _ = H1 at *
    refine ⟨Nat.zero_le _, fun l hl => ?_⟩
    obtain ⟨s2, hl2⟩ := new_at (o := .lst []) hl
    refine ⟨Nat.zero_le _, fun a ha => ?_⟩
    obtain ⟨s3, ha3⟩ := new_at (o := .lst []) ha
    have nla : l ≠ a := ne_of_none hl2 ha
    have fl : H1 l = none := hl
    have fa : H1 a = none := by
      cases e : H1 a with
      | none => rfl
      | some o => rw [s2 _ _ e] at ha; cases ha
    have s23 := s2.trans s3
    have hle : ((ws.map L2.RD.Wx.txt).map V.str).length = ws.length := by rw [List.length_map, List.length_map]
    refine ⟨_, _, _, rfl, ?_⟩
    refine ⟨_, rfl, c, _, rfl, SqL.of (s23 _ _ hc1), for_it (walk_enum (xs := (ws.map L2.RD.Wx.txt).map V.str)) (fun t σ H' => ∃ (b : Addr) (As : List Addr) (R : List Vec) (x4 x5 x6 : Option V), σ = [some (.str line), some (.ref c), some (.ref l), some (.ref b), x4, x5, x6] ∧ Same H1 H' ∧ L2.RD.st [[]] (ws.take t) = some R ∧ R ≠ [] ∧ R.length ≤ t + 1 ∧ (∀ v ∈ R, v.length ≤ t) ∧ LD H' l b As R ∧ ∀ q ∈ As ++ [b], H1 q = none) ⟨a, [], [[]], _, _, _, rfl, s23, rfl, by simp, Nat.le_refl _, by simp, ⟨s3 _ _ hl2, rfl, by simp, (fun q hq => by rw [List.mem_singleton.mp hq]; exact nla.symm), fun j q v e1 e2 => ?_⟩, (fun q hq => by rw [List.mem_singleton.mp hq]; exact fa)⟩ (fun t σ H' _ z => ?_) ?_ ?_⟩
    · match j, e1, e2 with
      | 0, e1, e2 => cases e1; cases e2; exact ha3
    · obtain ⟨b, As, R, _, _, _, _, sm, _⟩ := z
      exact SqL.of (sm _ _ hc1)
    · rintro t y σ H' H'' ht ⟨b, As, R, x4, x5, x6, rfl, sm, fR, nR, lR, lv, ld, fre⟩ ⟨T1, y1, y2, rfl, hT, rfl, e1, e2⟩
      cases e1
      obtain ⟨w, ew, rfl⟩ : ∃ w, ws[t]? = some w ∧ y2 = V.str w.txt := by
        have e3 : (ws.map (V.str ∘ L2.RD.Wx.txt))[t]? = some y2 := by rw [← List.map_map]; exact e2
        rw [List.getElem?_map] at e3
        obtain ⟨w, ew, e⟩ := Option.map_eq_some_iff.mp e3
        exact ⟨w, ew, e.symm⟩
      have w9 := nine w (List.mem_of_getElem? ew)
      obtain ⟨sT, hT'⟩ := new_at (o := .tup [V.int ((t : Nat) : Int), V.str w.txt]) hT
      replace ld := ld.keep sT
      replace sm := sm.trans sT
      clear sT e2
      refine ⟨T1, _, rfl, SqT.of hT', rfl, _, _, rfl, _, _, rfl, rfl, ?_⟩
      clear hT'
      generalize upd H' T1 _ = H2 at *
      obtain ⟨R0, z, rfl⟩ : ∃ R0 z, R = R0 ++ [z] := ⟨R.dropLast, R.getLast nR, (List.dropLast_concat_getLast nR).symm⟩
      obtain ⟨l0, hb⟩ := ld.last
      have hat := L2.RD.go_at ws 0 [[]] t w _ ew fR
      rw [Nat.zero_add] at hat
      have ldp : ∀ H3, Same H2 H3 → DpAll K H3 (As.map V.ref) (R0.map listD) := fun H3 s3 => lists_dp (K := K) (H := H3) As R0 l0 fun j q v q1 q2 => s3 _ _ <| ld.at' j q v (by rw [List.getElem?_append_left (List.getElem?_eq_some_iff.mp q1).1]; exact q1) (by rw [List.getElem?_append_left (List.getElem?_eq_some_iff.mp q2).1]; exact q2)
      refine ⟨fun σ' H3 => Same H2 H3 ∧ σ' = [some (.str line), some (.ref c), some (.ref l), some (.ref b), some (.int ((t : Nat) : Int)), some (.str w.txt), some (.bl (L2.RD.fullB (R0 ++ [z])))], ?_, ?_⟩
      · refine ⟨_, rfl, Nat.zero_le _, fun z1 hz1 => ?_⟩
        obtain ⟨s4, hz1'⟩ := new_at (o := .lst []) hz1
        refine ⟨.list (z.map PyData.int), .list [], .lst (SqL.of (s4 _ _ hb)) (intsL_dp _), .lst (SqL.of hz1') .nil, listI_shaped _, by decide +kernel, _, rfl, ?_⟩
        rw [eqv_nil_any]
        by_cases hz : z = []
        · rw [show decide (z.map PyData.int = []) = true from decide_eq_true (by rw [hz]; rfl)]
          have ef : L2.RD.fullB (R0 ++ [z]) = false := by
            unfold L2.RD.fullB
            rw [L2.RD.lastV_snoc, hz]; rfl
          rw [ef]
          exact iteSf rfl ⟨s4, rfl⟩
        rw [show decide (z.map PyData.int = []) = false from decide_eq_false (fun e => hz (List.map_eq_nil_iff.mp e))]
        refine iteSe rfl ?_
        have zl : z.length > 0 := List.length_pos_iff.mpr hz
        refine ⟨_, rfl, Nat.zero_le _, fun z2 hz2 => ?_⟩
        obtain ⟨s5, hz2'⟩ := new_at (o := .lst []) hz2
        have s45 := s4.trans s5
        refine ⟨.list (R0.map listD), .list [], .lst (SqL.of (s45 _ _ ld.hl)) (ldp _ s45), .lst (SqL.of hz2') .nil, lists_shaped _, by decide +kernel, _, rfl, ?_⟩
        rw [eqv_nil_any]
        cases R0 with
        | nil =>
          rw [show decide (([] : List Vec).map listD = []) = true from decide_eq_true rfl]
          have ef : L2.RD.fullB ([] ++ [z]) = true := by
            unfold L2.RD.fullB
            rw [L2.RD.lastV_snoc, decide_eq_true zl]
            exact decide_eq_true rfl
          rw [ef]
          exact iteSe rfl ⟨s45, rfl⟩
        | cons v1 R1 =>
          rw [show decide ((v1 :: R1).map listD = []) = false from decide_eq_false (fun e => nomatch e)]
          refine iteSf rfl ?_
          cases As with
          | nil => cases l0
          | cons a1 As1 =>
            have h1 : IsL H2 a1 v1 := ld.at' 0 a1 v1 rfl rfl
            refine ⟨_, rfl, _, _, rfl, .inl ⟨_, SqL.of (s45 _ _ hb), rfl⟩, ?_⟩
            refine ⟨_, rfl, l, _, _, _, rfl, rfl, SqL.of (s45 _ _ ld.hl), atI_headD _ _, _, _, rfl, .inl ⟨_, SqL.of (s45 _ _ h1), rfl⟩, rfl, ?_⟩
            have ef : L2.RD.fullB ((v1 :: R1) ++ [z]) = decide (V.int (((z.map V.int).length : Nat) : Int) = V.int (((v1.map V.int).length : Nat) : Int)) := by
              unfold L2.RD.fullB
              rw [L2.RD.lastV_snoc, decide_eq_true zl, Bool.true_and, List.length_map, List.length_map]
              exact decide_eq_decide.mpr ⟨fun e => by have e' : z.length = v1.length := e
                                                      rw [e'], fun e => by have := V.int.inj e; show z.length = v1.length; omega⟩
            rw [ef]
            exact ⟨s45, rfl⟩
      rintro σ' H3 ⟨s4, rfl⟩
      replace ld := ld.keep s4
      replace sm := sm.trans s4
      replace hb := s4 _ _ hb
      have s03 := s1.trans sm
      by_cases hw : w = .plus
      · subst hw
        refine ⟨_, rfl, rfl, _, rfl, iteSe (decide_eq_true rfl) ?_⟩
        have hx : L2.RD.xstep (R0 ++ [z]) .plus = if L2.RD.fullB (R0 ++ [z]) = true then some ((R0 ++ [z]) ++ [[]]) else none := rfl
        cases hF : L2.RD.fullB (R0 ++ [z]) with
        | false =>
          rw [hx, hF, if_neg (by decide)] at hat
          refine ⟨_, rfl, _, rfl, iteSe rfl ?_⟩
          exact ⟨_, rfl, kl t hat _ s03⟩
        | true =>
          rw [hF, if_pos rfl] at hx
          have fR' := L2.RD.st_next ew fR hx
          refine ⟨_, rfl, _, rfl, iteSf rfl ?_⟩
          refine ⟨_, rfl, .inl ⟨rfl, _, .inl (.inl ld.hl)⟩, _, rfl, l, _, _, rfl, rfl, ld.hl, ?_, ?_⟩
          · rw [List.length_map]
            have := ld.len
            exact Nat.lt_of_le_of_lt (show As.length ≤ 1000 by omega) (by decide)
          refine ⟨Nat.zero_le _, fun q hq => ?_⟩
          have nql : q ≠ l := fun e => by rw [e, upd_same] at hq; cases hq
          have q3 : H3 q = none := by rw [upd_ne nql] at hq; exact hq
          have q1 : H1 q = none := by
            cases e : H1 q with
            | none => rfl
            | some o => rw [sm _ _ e] at q3; cases q3
          refine ⟨q, As ++ [b], (R0 ++ [z]) ++ [[]], _, _, _, rfl, fun y o hy => ?_, fR', by simp, ?_, fun v hv => ?_, ld.plus hq, fun q' hq' => ?_⟩
          · rw [upd_ne (fun e => by rw [e, q1] at hy; cases hy), upd_ne (fun e => by rw [e, fl] at hy; cases hy)]
            exact sm _ _ hy
          · rw [List.length_append]; exact Nat.succ_le_succ lR
          · rcases List.mem_append.mp hv with hv | hv
            · exact Nat.le_trans (lv v hv) (Nat.le_succ _)
            · rw [List.mem_singleton.mp hv]; exact Nat.zero_le _
          · rcases List.mem_append.mp hq' with hq' | hq'
            · exact fre q' hq'
            · rw [List.mem_singleton.mp hq']; exact q1
      · refine ⟨_, rfl, rfl, _, rfl, iteSf (decide_eq_false fun e => hw ((word_plus w).mp (V.str.inj e))) ?_⟩
        refine ⟨_, rfl, w.txt, rfl, Nat.le_trans (word_len w w9) (by decide), word_ok w, fun H5 s5 => ⟨_, rfl, ?_⟩⟩
        rw [isNum_word w w9]
        cases w with
        | plus => exact absurd rfl hw
        | bad o => exact iteSe rfl ⟨_, rfl, kl t hat _ (s03.trans s5)⟩
        | num i =>
          refine iteSf rfl ?_
          have ld5 := ld.keep s5
          have hb5 := s5 _ _ hb
          have sm5 := sm.trans s5
          have hx : L2.RD.xstep (R0 ++ [z]) (.num i) = if (L2.RD.fullB (R0 ++ [z]) && decide ((R0 ++ [z]).length > 1)) = true then none else some (R0 ++ [z ++ [i]]) := by
            show (if _ then none else some ((R0 ++ [z]).dropLast ++ [L2.RD.lastV (R0 ++ [z]) ++ [i]])) = _
            rw [List.dropLast_concat, L2.RD.lastV_snoc]
          have lt1 : decide ((R0 ++ [z]).length > 1) = !decide (R0.map listD = []) := by
            cases R0 with
            | nil => rw [show decide (([] : List Vec).map listD = []) = true from decide_eq_true rfl]; exact decide_eq_false (by show ¬ 1 > 1; decide)
            | cons v R1 => rw [show decide ((v :: R1).map listD = []) = false from decide_eq_false (fun e => nomatch e)]; exact decide_eq_true (by rw [List.length_append, List.length_cons]; show R1.length + 1 + 1 > 1; omega)
          refine ⟨_, rfl, Nat.zero_le _, fun z2 hz2 => ?_⟩
          obtain ⟨s6, hz2'⟩ := new_at (o := .lst []) hz2
          have ld6 := ld5.keep s6
          have hb6 := s6 _ _ hb5
          have sm6 := sm5.trans s6
          refine ⟨.list (R0.map listD), .list [], .lst (SqL.of ld6.hl) (ldp _ (s4.trans (s5.trans s6))), .lst (SqL.of hz2') .nil, lists_shaped _, by decide +kernel, _, rfl, ?_⟩
          rw [eqv_nil_any, ← lt1]
          clear hz2 hz2'
          generalize upd H5 z2 _ = H6 at *
          cases hB : decide ((R0 ++ [z]).length > 1) with
          | true =>
            refine iteSe rfl ?_
            refine ⟨_, rfl, _, rfl, ?_⟩
            cases hF : L2.RD.fullB (R0 ++ [z]) with
            | true =>
              rw [hx, hF, hB, if_pos (by rfl : (true && true) = true)] at hat
              exact iteSe rfl ⟨_, rfl, kl t hat _ (s1.trans sm6)⟩
            | false =>
              rw [hF, Bool.false_and, if_neg (by decide)] at hx
              have fR' := L2.RD.st_next ew fR hx
              refine iteSf rfl ?_
              refine ⟨_, rfl, .inl ⟨rfl, _, .inl (.inl hb6)⟩, ?_⟩
              refine ⟨_, rfl, _, _, rfl, L2.RD.back i (by have := word_len _ w9; have h2 : (iS i).length ≤ 10 := this; omega), (by have := word_len _ w9; have h2 : (iS i).length ≤ 10 := this; omega), ?_⟩
              refine ⟨b, _, _, rfl, rfl, hb6, ?_, b, As, R0 ++ [z ++ [i]], _, _, _, rfl, fun y o hy => ?_, fR', by simp, ?_, fun v hv => ?_, ld6.grow, fre⟩
              · rw [List.length_map]
                exact Nat.lt_of_le_of_lt (Nat.le_trans (lv z (by simp)) (show t ≤ 1000 by omega)) (by decide)
              · rw [upd_ne (fun e => by rw [e, fre b (by simp)] at hy; cases hy)]
                exact sm6 _ _ hy
              · have := lR
                rw [List.length_append] at this ⊢
                have e : [z].length = 1 := rfl
                show R0.length + 1 ≤ _
                omega
              · rcases List.mem_append.mp hv with hv | hv
                · exact Nat.le_trans (lv v (List.mem_append_left _ hv)) (Nat.le_succ _)
                · rw [List.mem_singleton.mp hv, List.length_append]
                  exact Nat.succ_le_succ (lv z (by simp))
          | false =>
            rw [hB, Bool.and_false, if_neg (by decide)] at hx
            have fR' := L2.RD.st_next ew fR hx
            refine iteSf rfl ?_
            refine ⟨_, rfl, .inl ⟨rfl, _, .inl (.inl hb6)⟩, ?_⟩
            refine ⟨_, rfl, _, _, rfl, L2.RD.back i (by have := word_len _ w9; have h2 : (iS i).length ≤ 10 := this; omega), (by have := word_len _ w9; have h2 : (iS i).length ≤ 10 := this; omega), ?_⟩
            refine ⟨b, _, _, rfl, rfl, hb6, ?_, b, As, R0 ++ [z ++ [i]], _, _, _, rfl, fun y o hy => ?_, fR', by simp, ?_, fun v hv => ?_, ld6.grow, fre⟩
            · rw [List.length_map]
              exact Nat.lt_of_le_of_lt (Nat.le_trans (lv z (by simp)) (show t ≤ 1000 by omega)) (by decide)
            · rw [upd_ne (fun e => by rw [e, fre b (by simp)] at hy; cases hy)]
              exact sm6 _ _ hy
            · have := lR
              rw [List.length_append] at this ⊢
              have e : [z].length = 1 := rfl
              show R0.length + 1 ≤ _
              omega
            · rcases List.mem_append.mp hv with hv | hv
              · exact Nat.le_trans (lv v (List.mem_append_left _ hv)) (Nat.le_succ _)
              · rw [List.mem_singleton.mp hv, List.length_append]
                exact Nat.succ_le_succ (lv z (by simp))
    · rintro σ H' ⟨b, As, R, x4, x5, x6, rfl, sm, fR, nR, lR, lv, ld, fre⟩
      rw [hle, List.take_length] at fR
      obtain ⟨R0, z, rfl⟩ : ∃ R0 z, R = R0 ++ [z] := ⟨R.dropLast, R.getLast nR, (List.dropLast_concat_getLast nR).symm⟩
      obtain ⟨l0, hb⟩ := ld.last
      have fit := L2.RD.fit_all ws _ _ L2.RD.fit0 fR
      have some1 := st_some wne fR
      have hend := L2.RD.go_end ws 0 [[]] _ fR
      rw [Nat.zero_add, L2.RD.lastV_snoc] at hend
      rw [L2.RD.lastV_snoc] at some1
      have s0 := s1.trans sm
      have ldp : ∀ H3, Same H' H3 → DpAll K H3 (As.map V.ref) (R0.map listD) := fun H3 s3 => lists_dp (K := K) (H := H3) As R0 l0 fun j q v q1 q2 => s3 _ _ <| ld.at' j q v (by rw [List.getElem?_append_left (List.getElem?_eq_some_iff.mp q1).1]; exact q1) (by rw [List.getElem?_append_left (List.getElem?_eq_some_iff.mp q2).1]; exact q2)
      have lenW : ∀ H3, Same H' H3 → LenV K (.ref c) H3 ws.length := fun H3 s3 => .inl ⟨_, SqL.of (s3 _ _ (sm _ _ hc1)), hle.symm⟩
      have fin : ∀ H3, Same H' H3 → ¬ z.length < ((R0 ++ [z]).head?.getD []).length → ∀ z3, H3 z3 = none → ∀ r, upd H3 z3 (.lst [V.ref b]) r = none → Q (.ref r) (upd (upd H3 z3 (.lst [V.ref b])) r (.lst (As.map V.ref ++ [V.ref b]))) := fun H3 s3 hl z3 hz3 r hr => by
        rw [if_neg hl] at hend
        have s4 := (new_at (o := .lst [V.ref b]) hz3).1
        have s5 := (new_at (o := .lst (As.map V.ref ++ [V.ref b])) hr).1
        have ss := s3.trans (s4.trans s5)
        exact kr _ hend _ r (As ++ [b]) (s0.trans ss) (by rw [upd_same, List.map_append]; rfl) (by rw [List.length_append, List.length_append, l0]; rfl) fun j q v e1 e2 => ss _ _ (ld.at' j q v e1 e2)
      refine ⟨_, rfl, Nat.zero_le _, fun z1 hz1 => ?_⟩
      obtain ⟨s4, hz1'⟩ := new_at (o := .lst []) hz1
      refine ⟨.list (z.map PyData.int), .list [], .lst (SqL.of (s4 _ _ hb)) (intsL_dp _), .lst (SqL.of hz1') .nil, listI_shaped _, by decide +kernel, _, rfl, ?_⟩
      rw [eqv_nil_any]
      clear hz1'
      generalize upd H' z1 _ = H3 at *
      by_cases hz : z = []
      · rw [show decide (z.map PyData.int = []) = true from decide_eq_true (by rw [hz]; rfl)]
        refine iteSe rfl ?_
        have hl : z.length < ((R0 ++ [z]).head?.getD []).length := by
          have q1 : (R0 ++ [z]).length > 1 := some1.elim id fun q => by rw [hz] at q; exact absurd q (by decide)
          rcases fit.fst with q | q
          · omega
          · rw [hz]
            rw [hz] at q
            exact q
        rw [if_pos hl] at hend
        exact iteSe rfl ⟨_, rfl, _, _, rfl, lenW _ s4, kl _ hend _ (s0.trans s4)⟩
      · rw [show decide (z.map PyData.int = []) = false from decide_eq_false (fun e => hz (List.map_eq_nil_iff.mp e))]
        refine iteSf rfl ?_
        refine ⟨_, rfl, Nat.zero_le _, fun z2 hz2 => ?_⟩
        obtain ⟨s5, hz2'⟩ := new_at (o := .lst []) hz2
        have s45 := s4.trans s5
        refine ⟨.list (R0.map listD), .list [], .lst (SqL.of (s45 _ _ ld.hl)) (ldp _ s45), .lst (SqL.of hz2') .nil, lists_shaped _, by decide +kernel, _, rfl, ?_⟩
        rw [eqv_nil_any]
        clear hz2'
        generalize upd H3 z2 _ = H4 at *
        cases R0 with
        | nil =>
          rw [show decide (([] : List Vec).map listD = []) = true from decide_eq_true rfl]
          refine iteSf rfl (iteSf rfl ?_)
          refine ⟨_, rfl, _, rfl, (by decide : 1 ≤ sizeLine), fun z3 hz3 => ?_⟩
          obtain ⟨s6, hz3'⟩ := new_at (o := .lst [V.ref b]) hz3
          exact ⟨l, z3, _, _, rfl, rfl, s6 _ _ (s45 _ _ ld.hl), hz3', Nat.le_trans (show (As.map V.ref).length + 1 ≤ 1002 by rw [List.length_map]; have := ld.len; have := lR; rw [hle] at this; omega) (by decide), fun r hr => fin _ s45 (by show ¬ z.length < z.length; omega) z3 hz3 r hr⟩
        | cons v1 R1 =>
          rw [show decide ((v1 :: R1).map listD = []) = false from decide_eq_false (fun e => nomatch e)]
          refine iteSe rfl ?_
          cases As with
          | nil => cases l0
          | cons a1 As1 =>
            have h1 : IsL H' a1 v1 := ld.at' 0 a1 v1 rfl rfl
            refine ⟨_, rfl, _, _, rfl, .inl ⟨_, SqL.of (s45 _ _ hb), rfl⟩, ?_⟩
            refine ⟨_, rfl, l, _, _, _, rfl, rfl, SqL.of (s45 _ _ ld.hl), atI_headD _ _, _, _, rfl, .inl ⟨_, SqL.of (s45 _ _ h1), rfl⟩, rfl, _, rfl, ?_⟩
            have fl2 := fit.lst
            rw [L2.RD.lastV_snoc] at fl2
            have fl3 : z.length ≤ v1.length := fl2
            by_cases e : z.length = v1.length
            · refine iteSf (by rw [decide_eq_true (by rw [List.length_map, List.length_map, e])]; rfl) ?_
              refine ⟨_, rfl, _, rfl, (by decide : 1 ≤ sizeLine), fun z3 hz3 => ?_⟩
              obtain ⟨s6, hz3'⟩ := new_at (o := .lst [V.ref b]) hz3
              exact ⟨l, z3, _, _, rfl, rfl, s6 _ _ (s45 _ _ ld.hl), hz3', Nat.le_trans (show ((a1 :: As1).map V.ref).length + 1 ≤ 1002 by rw [List.length_map]; have := ld.len; have := lR; rw [hle] at this; omega) (by decide), fun r hr => fin _ s45 (by show ¬ z.length < v1.length; omega) z3 hz3 r hr⟩
            · have hl : z.length < (((v1 :: R1) ++ [z]).head?.getD []).length := by show z.length < v1.length; omega
              rw [if_pos hl] at hend
              refine iteSe (by rw [decide_eq_false (fun q => e (by have := V.int.inj q; rw [List.length_map, List.length_map] at this; omega))]; rfl) ?_
              exact ⟨_, rfl, _, _, rfl, lenW _ s45, kl _ hend _ (s0.trans s45)⟩
end
end K06

namespace L2
open PySem PySem.Spec PyProof.Rows PySem.W
/-- a law's def keeps its promise where nothing is being shown around the call -/
structure LawOk (P : Program) (w : World) (K : PySem.W.Frag) (mg : Str → Option Value) (base : Heap) (k : Nat) (f : Addr) (sp : Sp) : Prop where
  run : ∀ (A : Around) (s : Shared) (H : Hp) (u : Value) (v : V) (Q : VK), A.guards = some [] → Room k A → Env0 P w K mg base A [] s H → RelV v u → sp [v] H Q E0 → codeAny (model P w) A (.call (.ref f) ⟨[u], []⟩) (CR CX0 [] P w H s Q E0) s
theorem LawOk.of {P : Program} {w : World} {K : PySem.W.Frag} {mg : Str → Option Value} {base : Heap} {k : Nat} {f : Addr} {nm qual x : Str} {st : Stmt} {fd : FuncData} {N : List Str} {sp : Sp} (F : Fun K nm qual st f fd) (S : FnScope N [x] (defScope st))
    (hb : ∀ (s : Shared) (u : Value), K.In s.heap → BindsTo s fd ⟨[u], []⟩ [(x, u)])
    (body : ∀ (cdv : Value) (A : Around) (s : Shared) (H : Hp) (v : V) (Q : VK), A.guards = some [] → Room k (A.deeper (envOfC qual (defScope st) s.heap.objs.size f cdv)) → sp [v] H Q E0 →
      ∃ t, PSs (cxOf CX0 P w K mg base N qual (defScope st) f cdv A [] s H E0).nox (defBody st) t ∧ t { nx := fun _ H' => Q .non H', rt := Q } (start N [v]) H) : LawOk P w K mg base (k + 1) f sp := by
  obtain ⟨oc, od, kV, doc, pm, an, cdv, ct, osl, e, lk, hcd⟩ := F.ex
  subst e
  refine ⟨fun A s H u v Q hg hr z0 r q => ?_⟩
  have KI : K.In s.heap := z0.mod.kin.keeps fun b o y => (z0.bs b o y).1
  have zl : s.heap.NoLimit := z0.mod.nolimit.keeps fun b o y => (z0.bs b o y).1
  have kinds : ∀ y ∈ [x].zip [u], (defScope st).names.lookup y.1 = some .local ∨ ((defScope st).names.lookup y.1 = some .cell ∧ ((cellsFrom (s.heap.objs.size + 1) (defScope st).names []).lookup y.1).isSome = true) := by
    rintro ⟨n, v'⟩ hy
    exact (S.par n (List.of_mem_zip hy).1).imp (fun y => y) fun y => ⟨y, PySem.W.cellsFrom_some _ _ _ (.inl y)⟩
  refine codeAny_call_function hr.depth (KI _ _ lk) rfl S.co S.gen rfl (PySem.W.codeRec_of KI hcd) (hb s u KI _ _ _ _ (wpAny_newFunctionEnv_cells S.kind kinds fun env he s1 y => ?_))
  subst he
  obtain ⟨t, ht, hq⟩ := body cdv A s H v Q hg (hr.deeper _) q
  have I := inv_start (CX := CX0) (E := E0) S hr.hd z0 rfl (.cons r .nil) y
  refine ⟨zl.keeps y.toInCall.keep, codeAny_func (wpAny_mono (ht.nox.run [] s1 (start N [v]) H _ I hq) (fun fl s' hs => ?_) fun _ _ hs => hs)⟩
  match fl, hs with
  | .ret u, ⟨v, σ', H', J, rv, q⟩ => exact ⟨v, H', J.os, J.bare, J.base, J.hok, rv, q⟩
  | .next, ⟨σ', H', J, q⟩ => exact ⟨V.non, H', J.os, J.bare, J.base, J.hok, rfl, q⟩
  | .brk, ⟨_, _, _, q⟩ => exact q.elim
  | .cont, ⟨_, _, _, q⟩ => exact q.elim

/-- what the caller of the law sees: nothing stood there but the script, locked -/
theorem LawOk.called {P : Program} {w : World} {K : PySem.W.Frag} {mg mb : Str → Option Value} {k : Nat} {fa a : Addr} {sp : Sp} {z : Shared} {vs : List Value} {ns : List Int} (KI : K.In z.heap) (g1 : z.heap.Ns mainGlobals mg) (g2 : z.heap.Ns builtinsNs mb)
    (g3 : ∀ x : Str, x ≠ "__name__" → mb x = bootBuiltins x) (g4 : z.heap.NoLimit) (g5 : z.gens = #[]) (ha : z.heap.get? a = some { cls := .type "list", data := .seq vs.toArray }) (hi : IntsAre vs ns) (hl : ns.length ≤ sizeLine) (hr : Room k callerA)
    (F : ∀ base : Heap, K.In base → base.Ns mainGlobals mg → LawOk P w K mg base k fa sp) (hsp : ∀ H : Hp, SqL K H a (ns.map V.int) → sp [.ref a] H (fun v _ => v = .bl true) E0) :
    codeAny (model P w) callerA (.call (.ref fa) ⟨[.ref a], []⟩) (fun r s' => r = .ok (.ret (.bool true)) ∧ OldK z.heap s'.heap ∧ s'.os = z.os ∧ AllBare s'.gens) z := by
  have rv := vals_ints hi
  have lv := hi.length
  have main : ∀ H : Hp, (∀ b u, H b = some u → b = a ∧ K.lookup a = none ∧ ∃ ys, u = .frz { cls := .type "list", data := .seq vs.toArray } ys) → SqL K H a (ns.map V.int) → HOk P w H z.heap →
      codeAny (model P w) callerA (.call (.ref fa) ⟨[.ref a], []⟩) (fun r s' => r = .ok (.ret (.bool true)) ∧ OldK z.heap s'.heap ∧ s'.os = z.os ∧ AllBare s'.gens) z := by
    intro H hA hS hok
    have no : ∀ {b : Addr} {o : Obj}, z.heap.get? b = some o → (b = a → K.lookup a ≠ none ∨ ∃ es ep, o.data = .dict es ep) → H b = none := fun {b o} e d => by
      cases q : H b with
      | none => rfl
      | some u =>
        obtain ⟨e1, e2, _⟩ := hA b u q
        rcases d e1 with d1 | ⟨es, ep, d1⟩
        · exact absurd e2 d1
        · rw [e1] at e
          cases ha.symm.trans e
          cases d1
    have kb : K.In (hidT z.heap H) := fun b o e => hidT_get (KI b o e) (no (KI b o e) fun _ => .inl (by rw [← (by assumption : b = a), e]; simp))
    have nb : ∀ {b : Addr} {m : Str → Option Value}, z.heap.Ns b m → (hidT z.heap H).Ns b m := fun {b m} q => by
      obtain ⟨o, es, ep, e, d, r⟩ := q
      exact ⟨o, es, ep, hidT_get e (no e fun _ => .inr ⟨es, ep, d⟩), d, r⟩
    have z0 : Env0 P w K mg (hidT z.heap H) callerA [] z H := by
      refine ⟨rfl, ⟨kb, nb g1, ⟨mb, nb g2, g3⟩, ?_⟩, fun b o e => of_hidT e, Nat.le_of_eq (hidT_size _ _), trivial, fun b hb => absurd (show b ∈ ([] : List Addr) from hb) (by simp), hok, .of_eq g5⟩
      obtain ⟨mc, q1, q2⟩ := g4
      exact ⟨mc, nb q1, q2⟩
    refine codeAny_mono ((F _ kb (nb g1)).run callerA z H (.ref a) (.ref a) (fun v _ => v = .bl true) rfl hr z0 rfl (hsp H hS)) fun r s' h => ?_
    match r, h with
    | .error e, h => exact h.elim
    | .ok .next, h => exact h.elim
    | .ok .brk, h => exact h.elim
    | .ok .cont, h => exact h.elim
    | .ok (.ret u), ⟨v, H', os, bare, un, hok', r', q⟩ =>
      subst q
      obtain rfl : u = Value.bool true := r'
      refine ⟨rfl, OldK.of_keep fun b o e => ?_, os, bare⟩
      cases q : H b with
      | none => exact un.keep b o e q (fun y => absurd (show b ∈ ([] : List Addr) from y) (by simp)) (by simp)
      | some u =>
        obtain ⟨e1, _, ys, e2⟩ := hA b u q
        subst e2
        obtain ⟨y1, _⟩ := hok b _ q
        obtain ⟨y2, _⟩ := hok' b _ (un.frzs b _ ys q)
        cases e.symm.trans y1
        exact y2
  cases hk : K.lookup a with
  | some o =>
    cases (KI a o hk).symm.trans ha
    exact main (fun _ => none) (fun b u y => nomatch y) (.inr ⟨_, vs.toArray, _, hk, rfl, rfl, rfl, by rw [List.size_toArray, lv]; exact hl, by simpa using rv⟩) fun b u y => nomatch y
  | none =>
    have key : ∀ b u, (if b = a then some (HO.frz { cls := .type "list", data := .seq vs.toArray } (.lst (ns.map V.int))) else none) = some u → b = a ∧ u = .frz { cls := .type "list", data := .seq vs.toArray } (.lst (ns.map V.int)) := fun b u y => by
      by_cases hb : b = a
      · rw [if_pos hb] at y
        exact ⟨hb, (Option.some.inj y).symm⟩
      · rw [if_neg hb] at y
        cases y
    refine main (fun b => if b = a then some (.frz { cls := .type "list", data := .seq vs.toArray } (.lst (ns.map V.int))) else none) (fun b u y => ?_) (.inl (.inr ⟨_, if_pos rfl⟩)) fun b u y => ?_
    · obtain ⟨y1, y2⟩ := key b u y
      exact ⟨y1, hk, _, y2⟩
    · obtain ⟨y1, y2⟩ := key b u y
      subst y1 y2
      exact ⟨ha, by rw [List.length_map]; exact hl, vs, _, rv, ha⟩
theorem walk_law {l : PySem.W.OpenLaw} {n k : Nat} {q : Program} {loose : List Str} {XP : (Str → Option Value) → Heap → Prop} {YP : World → Heap → Prop} {d : DefRec} {K : Params → PySem.W.Frag} {sp : PySem.W.Frag → Sp} (hn : l.most = some n) (hn2 : n ≤ sizeLine)
    (hdf : d.params.defaults = []) (hr : Room k callerA) (hY : ∀ (w : World) (h : Heap), YP w h → (K w.params).In h)
    (F : ∀ (w : World) (mg : Str → Option Value) (fa : Addr) (h : Heap), (K w.params).In h → h.Ns mainGlobals mg → mg d.name = some (.ref fa) → ∀ base : Heap, (K w.params).In base → base.Ns mainGlobals mg → LawOk l.prog w (K w.params) mg base k fa (sp (K w.params)))
    (hsp : ∀ (K : PySem.W.Frag) (H : Hp) (a : Addr) (ns : List Int), ns.length ≤ n → SqL K H a (ns.map V.int) → sp K [.ref a] H (fun v _ => v = .bl true) E0) : PySem.W.WalkO q loose XP YP l.row.toRowW d [] (fun f vs => PySem.call f vs) := by
  refine Att.attach_call hn hdf fun w s₀ s₁ mg mb fa o pm cd doc a vs ns G Y ho hd hcd hmg hobj hints hlen hg => ?_
  exact LawOk.called (hY w _ Y) G.T.g G.T.b G.T.builtins G.T.nolimit hg hobj hints (Nat.le_trans hlen hn2) hr (F w mg fa _ (hY w _ Y) G.T.g hmg) fun H hS => hsp _ H a ns hlen hS
end L2

namespace K06
open PySem L2 RZ Lat
/-! ## k04: what the law asks of the vectors -/
/-- sums of the rows -/
def Sums (rs : List Vec) (f : Nat → Int) : Prop := ∀ S : (Nat → Int) → Prop, Cl S → (∀ r ∈ rs, S (itm r)) → S f
structure Facts04 (n : Nat) (rs : List Vec) (B : List Vec) (t : Tab) : Prop where
  eB : Ech n 0 B
  okB : OkGrows [] rs
  okT : OkPuts (tab0 n) rs
  eT : EchT n 0 t
  red : ∀ v : Vec, v.length = n → (∀ i, (itm v i).natAbs ≤ 2 ^ 32) → OkRed B v
  left : ∀ v : Vec, v.length = n → (∀ i, (itm v i).natAbs ≤ 2 ^ 32) → OkLeft t 0 v
  same : ∀ v : Vec, v.length = n → leftL t 0 v = redV B v
  lB : ∀ r ∈ B, r.length = n
  zero : ∀ v : Vec, v.length = n → Sums rs (itm v) → piv (redV B v) = (redV B v).length
  rest : ∀ v : Vec, v.length = n → Sums rs fun i => itm v i - itm (redV B v) i
  again : ∀ v u : Vec, v.length = n → u.length = n → Sums rs (fun i => itm v i - itm u i) → redV B v = redV B u
  short : ∀ v : Vec, v.length = n → (∀ i, (itm v i).natAbs ≤ 2 ^ 32) → ∀ m ∈ redV B v, m.natAbs.log2 < 1920
theorem grows_pos {n : Nat} : ∀ (rs B : List Vec), Ech n 0 B → PosP B → (∀ r ∈ rs, r.length = n) → Ech n 0 (grows B rs) ∧ PosP (grows B rs)
  | [], B, e, p, _ => ⟨e, p⟩
  | v :: rs, B, e, p, h => by
    obtain ⟨l, h2⟩ := List.forall_mem_cons.mp h
    have hlen : ∀ r ∈ B, r.length = v.length := fun r hr => ((e.row r hr).1).trans l.symm
    have lu := (redV_len B v hlen).trans l
    have es : Ech n 0 (stepped B (redV B v)) := stepped_ech e lu (Nat.zero_le _) fun i hi => absurd hi (Nat.not_lt_zero _)
    refine grows_pos rs (grow B v) ?_ ?_ h2
    · unfold grow; split
      · exact e
      · exact tidy_ech es
    · unfold grow; split
      · exact p
      · exact tidy_pos es
theorem grows_clo {S : (Nat → Int) → Prop} (C : Cl S) {n : Nat} : ∀ (rs B : List Vec), (∀ r ∈ B, r.length = n) → (∀ r ∈ rs, r.length = n) → ((∀ r ∈ grows B rs, S (itm r)) ↔ ((∀ r ∈ B, S (itm r)) ∧ ∀ r ∈ rs, S (itm r)))
  | [], B, _, _ => ⟨fun h => ⟨h, fun r h => nomatch h⟩, fun h => h.1⟩
  | v :: rs, B, hB, h => by
    obtain ⟨l, h2⟩ := List.forall_mem_cons.mp h
    have e : grows B (v :: rs) = grows (grow B v) rs := rfl
    rw [e, grows_clo C rs (grow B v) (grow_len l hB) h2, grow_cl C (fun r hr => (hB r hr).trans l.symm), List.forall_mem_cons, and_assoc]
theorem log_bound {m : Int} {k : Nat} (h : m.natAbs ≤ 2 ^ k) (hk : k < 1920) : m.natAbs.log2 < 1920 := by
  by_cases h0 : m.natAbs = 0
  · rw [h0]; decide
  · exact log_lt h0 h hk
theorem facts04 {n : Nat} (n1 : 1 ≤ n) (n5 : n ≤ 5) (rs : List Vec) (h : rs.length ≤ 5) (hr : ∀ r ∈ rs, r.length = n ∧ Within 44 r) : Facts04 n rs (grows [] rs) (putsL (tab0 n) rs) := by
  have hl : ∀ r ∈ rs, r.length = n := fun r q => (hr r q).1
  have IB := (grows_inv rs 0 [] (inv0 n) (by omega) hr).2
  rw [Nat.zero_add] at IB
  obtain ⟨okT, IT⟩ := puts_inv n5 rs 0 (tab0 n) (invT0 n) (by omega) hr
  rw [Nat.zero_add] at IT
  obtain ⟨eB, pB⟩ := grows_pos (n := n) rs [] trivial (fun s h => nomatch h) hl
  have eT := IT.ech
  have eT' := eT.ech
  have pT : PosP (rowsOf (putsL (tab0 n) rs)) := eT.pos
  have lB : ∀ r ∈ grows [] rs, r.length = n := fun r q => (eB.row r q).1
  have lT : ∀ r ∈ rowsOf (putsL (tab0 n) rs), r.length = n := fun r q => (eT'.row r q).1
  have cB : ∀ {S : (Nat → Int) → Prop}, Cl S → ((∀ r ∈ grows [] rs, S (itm r)) ↔ ∀ r ∈ rs, S (itm r)) := fun C => (grows_clo C rs [] (fun r q => nomatch q) hl).trans ⟨fun q => q.2, fun q => ⟨fun r z => (nomatch z), q⟩⟩
  have cT : ∀ {S : (Nat → Int) → Prop}, Cl S → ((∀ r ∈ rowsOf (putsL (tab0 n) rs), S (itm r)) ↔ ∀ r ∈ rs, S (itm r)) := fun C => (putsL_cl C (invT0 n).ech hl).trans ⟨fun q => q.2, fun q => ⟨fun r z => (by unfold tab0 at z; rw [rows_empty] at z; exact (nomatch z)), q⟩⟩
  have hBT : ∀ r ∈ grows [] rs, In (rowsOf (putsL (tab0 n) rs)) (itm r) := (cB (In.cl _)).mpr ((cT (In.cl _)).mp fun r q => In.mem _ _ q)
  have hTB : ∀ r ∈ rowsOf (putsL (tab0 n) rs), In (grows [] rs) (itm r) := (cT (In.cl _)).mpr ((cB (In.cl _)).mp fun r q => In.mem _ _ q)
  have inB : ∀ f, Sums rs f → In (grows [] rs) f := fun f q => q _ (In.cl _) ((cB (In.cl _)).mp fun r z => In.mem _ _ z)
  have eb5 : gb rs.length + rs.length * (gb rs.length + 2) ≤ 3000 := by
    have : ∀ k, k ≤ 5 → gb k + k * (gb k + 2) ≤ 3000 := by decide
    exact this _ h
  have gb5 : gb rs.length ≤ 454 := by
    have : ∀ k, k ≤ 5 → gb k ≤ 454 := by decide
    exact this _ h
  have aB : ∀ s ∈ grows [] rs, ∀ i, (itm s i).natAbs ≤ 2 ^ 3000 := fun s q i => Nat.le_trans (IB.all s q i) (Lat.p2le eb5)
  have pvB : ∀ s ∈ grows [] rs, (itm s (piv s)).natAbs ≤ 2 ^ 454 := fun s q => Nat.le_trans (IB.piv s q) (Lat.p2le gb5)
  have countB : (grows [] rs).length ≤ 5 := Nat.le_trans IB.count h
  have countT : (rowsOf (putsL (tab0 n) rs)).length ≤ 5 := Nat.le_trans IT.count h
  have pvT : ∀ s ∈ rowsOf (putsL (tab0 n) rs), (itm s (piv s)).natAbs ≤ 2 ^ 454 := fun s q => Nat.le_trans (IT.gh.piv s q) (Lat.p2le (Nat.le_trans (gbx_le n5) gbx_five))
  have sT : ∀ s ∈ rowsOf (putsL (tab0 n) rs), ∀ i, (itm s i).natAbs ≤ 2 ^ 600000 := fun s q i => Nat.le_trans (IT.size s q i) (Lat.p2le (by
    have : ∀ k, k ≤ 5 → sb k ≤ 600000 := by
      intro k hk
      have : k = 0 ∨ k = 1 ∨ k = 2 ∨ k = 3 ∨ k = 4 ∨ k = 5 := by omega
      rcases this with e | e | e | e | e | e <;> subst e <;> simp [sb, dbl]
    exact this _ h))
  have ghB : Gh 6 n (grows [] rs) := by
    obtain ⟨G, eG, h1, h2, h3⟩ := IT.gh.ex
    exact ⟨eB, G, eG, fun g q => In.sub (In.cl _) hTB (h1 g q), (cB (RIn.cl _)).mpr ((cT (RIn.cl _)).mp h2), h3⟩
  refine ⟨eB, math_ok n rs h hr, okT, eT, fun v l hv => ?_, fun v l hv => ?_, fun v l => ?_, lB, fun v l q => ?_, fun v l => ?_, fun v u l l' q => ?_, fun v l hv m hm => ?_⟩
  · have := Nat.mul_le_mul_right 3001 countB
    exact (redV_size (π := 454) (β := 3000) (ξ := 32) (by decide) eB l pvB aB hv (by omega)).1
  · have := Nat.mul_le_mul_right 600001 countT
    exact okLeft_of eT (redV_size (π := 454) (β := 600000) (ξ := 32) (by decide) eT' l pvT sT hv (by omega)).1
  · rw [leftL_red eT]
    exact (red_same eB eT' pB pT hBT hTB l l ((In.cl _).of (t := 0) (In.cl _).zero (In.cl _).zero fun i => by omega)).symm
  · exact red_zero eB l (inB _ q)
  · exact fun S C hS => redV_diff C _ v (fun r q => (lB r q).trans l.symm) ((cB C).mpr hS)
  · exact red_same eB eB pB pB (fun r q => In.mem _ _ q) (fun r q => In.mem _ _ q) l l' (inB _ q)
  · obtain ⟨i, rfl⟩ := mem_itm hm
    have q := ghB.red (w := 0) (y := 32) (z := 900) l hv n1 (Nat.le_trans (gbx_le n5) (by decide)) (fun k hk => by
      have : ∀ k, k ≤ 4 → (gbx 6 k + 32 + 1) + k * (gbx 6 k + 2) + 1 ≤ 900 := by decide
      exact this k (by omega)) (by decide) i
    exact log_bound q (by decide)
end K06

namespace K06
open PySem L2 RZ Lat
/-! ## tables by many rows: sizes place by place -/
def SzT : Nat → Tab → Prop
  | _, [] => True
  | α, o :: os => (∀ r, o = some r → ∀ i, (itm r i).natAbs ≤ 2 ^ (α - 2)) ∧ SzT (2 * α) os
theorem SzT.mono : ∀ {t : Tab} {α β : Nat}, α ≤ β → SzT α t → SzT β t
  | [], _, _, _, _ => trivial
  | o :: os, α, β, h, z => ⟨fun r e i => Nat.le_trans (z.1 r e i) (Lat.p2le (by omega)), SzT.mono (t := os) (by omega) z.2⟩
theorem SzT.empty : ∀ (k α : Nat), SzT α (List.replicate k none)
  | 0, _ => trivial
  | k + 1, α => ⟨fun r e => (nomatch e), SzT.empty k (2 * α)⟩
theorem SzT.all : ∀ {t : Tab} {α : Nat}, SzT α t → ∀ s ∈ rowsOf t, ∀ i, (itm s i).natAbs ≤ 2 ^ (α * 2 ^ t.length)
  | [], _, _ => fun s h => nomatch h
  | none :: os, α, z => fun s hs i => by
    have := SzT.all (t := os) z.2 s hs i
    rw [List.length_cons, Nat.pow_succ, Nat.mul_comm _ 2, ← Nat.mul_assoc, Nat.mul_comm α 2]
    exact this
  | some r :: os, α, z => fun s hs i => by
    rcases List.mem_cons.mp (show s ∈ r :: rowsOf os from hs) with e | hs
    · rw [e]
      refine Nat.le_trans (z.1 r rfl i) (Lat.p2le ?_)
      have := Nat.mul_le_mul_left α (Nat.one_le_two_pow (n := (some r :: os : Tab).length))
      omega
    · have := SzT.all (t := os) z.2 s hs i
      rw [List.length_cons, Nat.pow_succ, Nat.mul_comm _ 2, ← Nat.mul_assoc, Nat.mul_comm α 2]
      exact this
theorem putL_szT {n π : Nat} (hπ : π < 9000) : ∀ {p : Nat} {t : Tab} {v : Vec} {α : Nat}, 2 ≤ α → EchT n p t → v.length = n → (∀ i, i < p → itm v i = 0) → (∀ s ∈ rowsOf t, (itm s (piv s)).natAbs ≤ 2 ^ π) → SzT α t → (∀ i, (itm v i).natAbs ≤ 2 ^ (α - 2)) →
    α * 2 ^ t.length ≤ 33554432 → OkPut t p v ∧ SzT (2 * α) (putL t p v)
  | _, [], v, α, _, _, _, _, _, _, _, _ => ⟨trivial, trivial⟩
  | p, o :: os, v, α, a2, h, l, z, hp, hB, hv, hd => by
    have hd' : 2 * α * 2 ^ os.length ≤ 33554432 := by
      rw [List.length_cons, Nat.pow_succ, Nat.mul_comm _ 2, ← Nat.mul_assoc, Nat.mul_comm α 2] at hd
      exact hd
    have hα : 2 * α ≤ 33554432 := by
      have := Nat.mul_le_mul_left (2 * α) (Nat.one_le_two_pow (n := os.length))
      omega
    by_cases e : itm v p = 0
    · have e2 : putL (o :: os) p v = o :: putL os (p + 1) v := by
        conv => lhs; unfold putL
        rw [if_pos e]
      rw [e2]
      have hp2 : ∀ s ∈ rowsOf os, (itm s (piv s)).natAbs ≤ 2 ^ π := fun s hs => hp s (by
        cases o with
        | none => exact hs
        | some r => exact List.mem_cons_of_mem _ hs)
      have ih := putL_szT hπ (t := os) (α := 2 * α) (by omega) h.2 l (zero_more z e) hp2 hB.2 (fun i => Nat.le_trans (hv i) (Lat.p2le (by omega))) hd'
      refine ⟨.inl ⟨e, ih.1⟩, fun r er i => Nat.le_trans (hB.1 r er i) (Lat.p2le (by omega)), ih.2⟩
    · cases o with
      | none =>
        have e2 : putL (none :: os) p v = some (posAt v p) :: os := by
          conv => lhs; unfold putL
          rw [if_neg e]
        rw [e2]
        refine ⟨.inr ⟨e, trivial⟩, fun r er i => ?_, SzT.mono (by omega) hB.2⟩
        cases er
        rw [posAt_abs]; exact Nat.le_trans (hv i) (Lat.p2le (by omega))
      | some r =>
        obtain ⟨a, b, c⟩ := h.1 r rfl
        obtain ⟨q1, q2, q3, q4, q5⟩ := clear_at a l b c z
        have e2 : putL (some r :: os) p v = some (posAt (clear r v p).1 p) :: putL os (p + 1) (clear r v p).2 := by
          conv => lhs; unfold putL
          rw [if_neg e]
        rw [e2]
        obtain ⟨hp1, hp2⟩ := List.forall_mem_cons.mp (show ∀ s ∈ r :: rowsOf os, _ from hp)
        have hB1 := hB.1 r rfl
        rw [b] at hp1
        have e3 : 4 * 2 ^ (α - 2) * 2 ^ (α - 2) = 2 ^ (2 * α - 2) := by rw [show 2 * α - 2 = 2 + (α - 2) + (α - 2) by omega, Nat.pow_add, Nat.pow_add]
        have cz := clear_size (n := n) (α := 1) (χ := 1) (by decide) (by decide) r v p (fun _ => True) (2 ^ (α - 2)) (2 ^ (α - 2)) a l (by omega) (Nat.two_pow_pos _) (hB1 p) (hv p) fun j _ => ⟨hB1 j, hv j⟩
        rw [e3] at cz
        have ok := clear_sizeJ (n := n) (π := π) (α := α - 2) (χ := 2 * α - 2) hπ (by omega) r v p (2 ^ (α - 2)) (2 ^ (α - 2)) a l (by omega) hp1 (Nat.two_pow_pos _) (hB1 p) (hv p) (fun j => ⟨hB1 j, hv j⟩) (Nat.le_of_eq e3) (Nat.le_refl _)
        have ih := putL_szT hπ (t := os) (v := (clear r v p).2) (α := 2 * α) (by omega) h.2 q2 q5 hp2 hB.2 (fun i => (cz.1 i trivial).2) hd'
        refine ⟨.inr ⟨e, ok, ih.1⟩, fun r' er i => ?_, ih.2⟩
        cases er
        rw [posAt_abs]; exact (cz.1 i trivial).1
structure InvS (x n α : Nat) (t : Tab) : Prop where
  ech : EchT n 0 t
  g2 : G2 x n (rowsOf t)
  sz : SzT α t
theorem put_invS {x n α : Nat} {t : Tab} {v : Vec} (I : InvS x n α t) (hx : tot x n < 9000) (a2 : x + 2 ≤ α) (l : v.length = n) (hv : ∀ i, (itm v i).natAbs ≤ 2 ^ x) (hd : α * 2 ^ n ≤ 33554432) : OkPut t 0 v ∧ InvS x n (2 * α) (putL t 0 v) := by
  have z : ∀ i, i < 0 → itm v i = 0 := fun i hi => absurd hi (Nat.not_lt_zero _)
  have lt : t.length = n := by have := I.ech.len; omega
  have q := putL_szT hx (α := α) (by omega) I.ech l z I.g2.piv I.sz (fun i => Nat.le_trans (hv i) (Lat.p2le (by omega))) (by rw [lt]; exact hd)
  have et := putL_tab I.ech l z
  exact ⟨q.1, et, I.g2.step et.ech l hv fun S C => putL_cl C I.ech l z, q.2⟩
theorem puts_invS {x n : Nat} (hx : tot x n < 9000) : ∀ (rs : List Vec) (α : Nat) (t : Tab), InvS x n α t → x + 2 ≤ α → α * 2 ^ (n + rs.length) ≤ 33554432 → (∀ r ∈ rs, r.length = n ∧ ∀ i, (itm r i).natAbs ≤ 2 ^ x) → OkPuts t rs ∧ InvS x n (α * 2 ^ rs.length) (putsL t rs)
  | [], α, t, I, _, _, _ => ⟨trivial, by rw [List.length_nil, Nat.pow_zero, Nat.mul_one]; exact I⟩
  | v :: vs, α, t, I, a2, hd, h => by
    obtain ⟨⟨l, w⟩, h2⟩ := List.forall_mem_cons.mp h
    have e : α * 2 ^ (n + (v :: vs).length) = 2 * α * 2 ^ (n + vs.length) := by
      rw [List.length_cons, ← Nat.add_assoc, Nat.pow_succ, Nat.mul_comm _ 2, ← Nat.mul_assoc, Nat.mul_comm α 2]
    rw [e] at hd
    have hd1 : α * 2 ^ n ≤ 33554432 := by
      have q1 := Nat.mul_le_mul_left (2 * α) (Nat.pow_le_pow_right (show 0 < 2 by decide) (show n ≤ n + vs.length by omega))
      have q2 := Nat.mul_le_mul_right (2 ^ n) (show α ≤ 2 * α by omega)
      omega
    obtain ⟨g1, g2⟩ := put_invS I hx a2 l w hd1
    have ih := puts_invS hx vs (2 * α) (putL t 0 v) g2 (by omega) hd h2
    refine ⟨⟨g1, ih.1⟩, ?_⟩
    rw [List.length_cons, Nat.pow_succ, Nat.mul_comm _ 2, ← Nat.mul_assoc, Nat.mul_comm α 2]
    exact ih.2
theorem inv0S (x n α : Nat) : InvS x n α (tab0 n) := ⟨(invT0 n).ech, by unfold tab0; rw [rows_empty]; exact G2.nil x n, SzT.empty n α⟩
structure Facts05 (n : Nat) (rs : List Vec) (t : Tab) : Prop where
  okT : OkPuts (tab0 n) rs
  eT : EchT n 0 t
  clT : ∀ S, Cl S → ((∀ r ∈ rowsOf t, S (itm r)) ↔ ∀ r ∈ rs, S (itm r))
  tdy : tidy (rowsOf t) = grows [] rs
  okB : OkBasis t
  left : ∀ v : Vec, v.length = n → (∀ i, (itm v i).natAbs ≤ 2 ^ 8) → OkLeft t 0 v
  isin : ∀ v : Vec, v.length = n → (piv (leftL t 0 v) = (leftL t 0 v).length ↔ ∀ S, Cl S → (∀ r ∈ rs, S (itm r)) → S (itm v))
theorem echT_mem_drop {n p : Nat} {t : Tab} (h : EchT n 0 t) {k : Nat} (hk : k ≤ t.length) : Ech n k (rowsOf (t.drop k)) := by
  have := (h.drop hk).ech
  rw [Nat.zero_add] at this
  exact this
theorem rows_mem_drop (k : Nat) (t : Tab) : ∀ s ∈ rowsOf (t.drop k), s ∈ rowsOf t := fun s hs => by
  obtain ⟨o, ho, e⟩ := List.mem_filterMap.mp hs
  exact List.mem_filterMap.mpr ⟨o, List.mem_of_mem_drop ho, e⟩
theorem facts05 {n : Nat} (n5 : n ≤ 5) (rs : List Vec) (h : rs.length ≤ 10) (hr : Small n rs) : Facts05 n rs (putsL (tab0 n) rs) := by
  have t5 := tot5 8
  have tn := tot_le (x := 8) n5
  have hd : 10 * 2 ^ (n + rs.length) ≤ 33554432 := Nat.le_trans (Nat.mul_le_mul_left 10 (Nat.pow_le_pow_right (show 0 < 2 by decide) (show n + rs.length ≤ 15 by omega))) (by decide)
  obtain ⟨okT, IT⟩ := puts_invS (x := 8) (n := n) (by omega) rs 10 (tab0 n) (inv0S 8 n 10) (by decide) hd hr
  have N := small_nice n5 hr
  generalize ht : putsL (tab0 n) rs = t at *
  have eT := IT.ech
  have lt : t.length = n := by have := eT.len; omega
  have clT : ∀ S, Cl S → ((∀ r ∈ rowsOf t, S (itm r)) ↔ ∀ r ∈ rs, S (itm r)) := fun S C => by
    rw [← ht]
    exact (putsL_cl C (invT0 n).ech hr.len).trans ⟨fun q => q.2, fun q => ⟨fun r z => (by unfold tab0 at z; rw [rows_empty] at z; exact (nomatch z)), q⟩⟩
  have lT : ∀ r ∈ rowsOf t, r.length = n := fun r q => (eT.ech.row r q).1
  have tdy : tidy (rowsOf t) = grows [] rs := bas_one (n := n) (g := rs) (g' := rs) ⟨tidy_ech eT.ech, tidy_hn eT.ech, fun S C => (tidy_cl C (rowsOf t) n lT).trans (clT S C)⟩ N.bas fun S C => Iff.rfl
  have cT : (rowsOf t).length ≤ 5 := by have := eT.ech.count (Nat.zero_le _); omega
  have szT : ∀ s ∈ rowsOf t, ∀ i, (itm s i).natAbs ≤ 2 ^ 327680 := fun s hs i => Nat.le_trans (IT.sz.all s hs i) (Lat.p2le (by
    rw [lt, Nat.mul_assoc, ← Nat.pow_add]
    exact Nat.le_trans (Nat.mul_le_mul_left 10 (Nat.pow_le_pow_right (show 0 < 2 by decide) (show rs.length + n ≤ 15 by omega))) (by decide)))
  have pvT : ∀ s ∈ rowsOf t, (itm s (piv s)).natAbs ≤ 2 ^ 300 := fun s hs => Nat.le_trans (IT.g2.piv s hs) (Lat.p2le (by omega))
  have mm := Nat.mul_le_mul_right 327681 cT
  refine ⟨okT, eT, clT, tdy, fun p r er => ?_, fun v l hv => ?_, fun v l => ?_⟩
  · have pn : p < t.length := (List.getElem?_eq_some_iff.mp er).1
    have eTT := tidyT_tab eT
    have lTT : (tidyT t).length = t.length := tidyT_len t
    have mem : ∀ s ∈ rowsOf (low (p + 1) (tidyT t)), s ∈ grows [] rs := fun s hs => by
      rw [low_rows] at hs
      rw [← tdy, ← rows_tidyT eT]
      exact rows_mem_drop _ _ s hs
    have elw : EchT n 0 (low (p + 1) (tidyT t)) := low_tab eTT (by omega)
    have cL : (rowsOf (low (p + 1) (tidyT t))).length ≤ 5 := by have := elw.ech.count (Nat.zero_le _); omega
    have mm2 := Nat.mul_le_mul_right 290 cL
    refine okLeft_of elw (redV_size (n := n) (π := 289) (β := 289) (ξ := 327680) (by decide) elw.ech (lT r (List.mem_filterMap.mpr ⟨some r, List.mem_of_getElem? er, rfl⟩)) (fun s hs => N.size s (mem s hs) _) (fun s hs => N.size s (mem s hs)) (szT r (List.mem_filterMap.mpr ⟨some r, List.mem_of_getElem? er, rfl⟩)) (by omega)).1
  · exact okLeft_of eT (redV_size (n := n) (π := 300) (β := 327680) (ξ := 8) (by decide) eT.ech l pvT szT hv (by omega)).1
  · rw [leftL_red eT]
    constructor
    · intro q S C hS
      have hS' := (clT S C).mpr hS
      exact (redV_cl C (rowsOf t) v (fun r hr' => (lT r hr').trans l.symm) hS').mp (C.itm_zero q)
    · intro q
      exact red_zero eT.ech l (q _ (In.cl _) ((clT _ (In.cl _)).mp fun r z => In.mem _ _ z))
/-! ## one column more -/
theorem tot6 (x : Nat) : tot x 6 = 63 * (x + 1) := by simp only [tot]; omega
theorem growX6 {n : Nat} (n6 : n ≤ 6) {B : List Vec} {v : Vec} (I : G2 8 n B) (hn : Hn B) (l : v.length = n) (hv : ∀ i, (itm v i).natAbs ≤ 2 ^ 8) : OkGrow B v ∧ G2 8 n (grow B v) ∧ Hn (grow B v) := by
  have t5 := tot6 8
  have t4 := tot5 8
  have tn := tot_le (x := 8) n6
  have tn1 := tot_le (x := 8) (show n - 1 ≤ 5 by omega)
  have hp : ∀ s ∈ B, (itm s (piv s)).natAbs ≤ 2 ^ 8990 := fun s hs => Nat.le_trans (I.piv s hs) (Lat.p2le (by omega))
  have hall : ∀ s ∈ B, ∀ i, (itm s i).natAbs ≤ 2 ^ 17690 := fun s hs i => Nat.le_trans (I.all hn s hs i) (Lat.p2le (by omega))
  have cB : B.length ≤ 6 := by have := I.eB.count (Nat.zero_le _); omega
  have hm := Nat.mul_le_mul_right 17691 cB
  have rz := redV_size (π := 8990) (β := 17690) (ξ := 8) (by decide) I.eB l hp hall hv (by omega)
  have ru : ∀ i, (itm (redV B v) i).natAbs ≤ 2 ^ 110000 := fun i => Nat.le_trans (rz.2 i) (Lat.p2le (by omega))
  have hlen : ∀ r ∈ B, r.length = v.length := fun r hr => ((I.eB.row r hr).1).trans l.symm
  have lu := redV_len B v hlen
  have hlen' : ∀ r ∈ B, r.length = (redV B v).length := fun r hr => (hlen r hr).trans lu.symm
  have d5 : dbl B.length 110000 ≤ 7040126 := Nat.le_trans (dbl_le cB 110000) (by decide)
  have st := stepped_sizeJ (n := n) (π := 8990) (τ := 110000) (by decide) I.eB (lu.trans l) hp (fun s hs i => Nat.le_trans (hall s hs i) (Lat.p2le (by decide))) ru (by omega)
  have es : Ech n 0 (stepped B (redV B v)) := stepped_ech I.eB (lu.trans l) (Nat.zero_le _) fun i hi => absurd hi (Nat.not_lt_zero _)
  have cs : (stepped B (redV B v)).length ≤ 6 := by have := es.count (Nat.zero_le _); omega
  have rc : ∀ {S : (Nat → Int) → Prop}, Cl S → (∀ r ∈ B, S (itm r)) → (S (itm (redV B v)) ↔ S (itm v)) := fun C => redV_cl C B v hlen
  have Is : G2 8 n (stepped B (redV B v)) := I.step es l hv fun S C => by
    rw [stepped_cl C hlen']
    exact ⟨fun q => ⟨q.1, (rc C q.1).mp q.2⟩, fun q => ⟨q.1, (rc C q.1).mpr q.2⟩⟩
  have ps : ∀ s ∈ stepped B (redV B v), (itm s (piv s)).natAbs ≤ 2 ^ 8990 := fun s hs => Nat.le_trans (Is.piv s hs) (Lat.p2le (by omega))
  have td := tidy_sizeX (π := 8990) (τ := 7040126) (E := 17690) (by decide) (by decide) es cs ps (fun s hs i => Nat.le_trans (st.2 s hs i) (Lat.p2le d5)) fun C hC s hs i => Nat.le_trans (Is.tails hC s hs i) (Lat.p2le (by omega))
  have eg : Ech n 0 (grow B v) := by
    unfold grow; split
    · exact I.eB
    · exact tidy_ech es
  refine ⟨⟨rz.1, .inr ⟨st.1, td, by omega⟩⟩, I.step eg l hv fun S C => grow_cl C hlen, ?_⟩
  unfold grow; split
  · exact hn
  · exact tidy_hn es
theorem growsX6 {n : Nat} (n6 : n ≤ 6) : ∀ (rs B : List Vec), G2 8 n B → Hn B → Small n rs → OkGrows B rs
  | [], B, _, _, _ => trivial
  | v :: vs, B, I, h, hr => by
    obtain ⟨⟨l, w⟩, h2⟩ := List.forall_mem_cons.mp hr
    obtain ⟨g1, g2, g3⟩ := growX6 n6 I h l w
    have := I.eB.count (Nat.zero_le _)
    exact ⟨g1, by omega, growsX6 n6 vs (grow B v) g2 g3 h2⟩
theorem small_ok6 {n : Nat} (n6 : n ≤ 6) {rs : List Vec} (h : Small n rs) : OkGrows [] rs := growsX6 n6 rs [] (G2.nil 8 n) trivial h
end K06

namespace K06
open PySem L2 RZ Lat
theorem small_of {n : Nat} {rs : List Vec} (h : ∀ r ∈ rs, r.length = n ∧ Within 44 r) : Small n rs := fun r hr => ⟨(h r hr).1, fun i => by
  by_cases hi : i < r.length
  · have := (h r hr).2 _ (List.mem_of_getElem? (itm_of hi))
    have e : (2 : Nat) ^ 8 = 256 := by decide
    rw [e]; omega
  · rw [itm_out (by omega)]; exact Nat.zero_le _⟩
structure Facts09 (n : Nat) (rs : List Vec) (B : List Vec) (t : Tab) : Prop where
  f4 : Facts04 n rs B t
  f5 : Facts05 n rs t
  bas : tidy (rowsOf t) = B
  len : B.length ≤ n
  size : ∀ r ∈ B, ∀ m ∈ r, m.natAbs.log2 < 1920
theorem facts09 {n : Nat} (n1 : 1 ≤ n) (n5 : n ≤ 5) (rs : List Vec) (h : rs.length ≤ 5) (hr : ∀ r ∈ rs, r.length = n ∧ Within 44 r) : Facts09 n rs (grows [] rs) (putsL (tab0 n) rs) := by
  have f5 := facts05 n5 rs (by omega) (small_of hr)
  have N := small_nice n5 (small_of hr)
  refine ⟨facts04 n1 n5 rs h hr, f5, f5.tdy, N.count, fun r hr m hm => ?_⟩
  obtain ⟨i, rfl⟩ := mem_itm hm
  exact log_bound (N.size r hr i) (by decide)
theorem Facts09.eqv {n : Nat} {rs B : List Vec} {t : Tab} (f : Facts09 n rs B t) {v u d : Vec} (lv : v.length = n) (lu : u.length = n) (ld : d.length = n) (hd : ∀ i, itm d i = itm v i - itm u i) :
    decide (redV B v = redV B u) = decide (piv (leftL t 0 d) = (leftL t 0 d).length) := by
  have key : redV B v = redV B u ↔ piv (leftL t 0 d) = (leftL t 0 d).length := by
    rw [f.f5.isin d ld]
    constructor
    · intro e S C hS
      have h1 := f.f4.rest v lv S C hS
      have h2 := f.f4.rest u lu S C hS
      exact C.of (t := -1) h1 h2 fun i => by rw [hd, e]; omega
    · intro h
      exact f.f4.again v u lv lu fun S C hS => C.of (t := 0) (h S C hS) C.zero fun i => by rw [hd]; omega
  by_cases h : redV B v = redV B u
  · rw [decide_eq_true h, decide_eq_true (key.mp h)]
  · rw [decide_eq_false h, decide_eq_false (fun z => h (key.mpr z))]
theorem rep_of_zero9 {v : Vec} {n : Nat} (l : v.length = n) (h : piv v = v.length) : v = List.replicate n 0 := by
  refine vec_ext (by rw [List.length_replicate]; exact l) fun i => ?_
  rw [Lat.itm_zero h]
  unfold itm
  rw [List.getD_eq_getElem?_getD, List.getElem?_replicate]
  split <;> rfl
theorem within32' {v : Vec} {B : Int} (hB : B ≤ 4000000000) (w : Within B v) : ∀ i, (itm v i).natAbs ≤ 2 ^ 32 := fun i => by
  have e : (2 : Nat) ^ 32 = 4294967296 := by decide
  by_cases hi : i < v.length
  · have := w _ (List.mem_of_getElem? (itm_of hi))
    rw [e]; omega
  · rw [itm_out (by omega)]; exact Nat.zero_le _
/-! ## all vectors -/
theorem unit_good {n : Nat} : ∀ r ∈ unitRows n, r.length = n ∧ Within 44 r := fun r hr => by
  unfold unitRows at hr
  obtain ⟨p, _, rfl⟩ := List.mem_map.mp hr
  refine ⟨unitV_len n p, fun m hm => ?_⟩
  unfold unitV at hm
  obtain ⟨a, _, rfl⟩ := List.mem_map.mp hm
  split <;> omega
theorem itm_unit {n p i : Nat} (hp : p < n) : itm (unitV n p) i = if i = p then 1 else 0 := by
  by_cases hi : i < n
  · have := itm_of (v := unitV n p) (i := i) (by rw [unitV_len]; exact hi)
    rw [unitV_at hi] at this
    exact (Option.some.inj this).symm
  · rw [itm_out (by rw [unitV_len]; omega), if_neg (by omega)]
theorem unit_sums {n : Nat} {v : Vec} (l : v.length = n) : Sums (unitRows n) (itm v) := fun S C hS => by
  have step : ∀ k, k ≤ n → S fun i => if i < k then itm v i else 0 := by
    intro k
    induction k with
    | zero => intro _; exact C.of (t := 0) C.zero C.zero fun i => by simp
    | succ k ih =>
      intro hk
      refine C.of (t := itm v k) (ih (by omega)) (hS (unitV n k) (List.mem_map.mpr ⟨k, List.mem_range.mpr (by omega), rfl⟩)) fun i => ?_
      rw [itm_unit (by omega)]
      by_cases e : i = k
      · subst e; simp
      · by_cases h : i < k
        · rw [if_pos (by omega), if_pos h, if_neg e]; omega
        · rw [if_neg (by omega), if_neg h, if_neg e]; omega
  refine C.of (t := 0) (step n (Nat.le_refl n)) C.zero fun i => ?_
  by_cases h : i < n
  · rw [if_pos h]; omega
  · rw [if_neg h, itm_out (by omega)]; omega
theorem unit_len {n : Nat} (n1 : 1 ≤ n) (n5 : n ≤ 5) : (grows [] (unitRows n)).length = n := by
  have : n = 1 ∨ n = 2 ∨ n = 3 ∨ n = 4 ∨ n = 5 := by omega
  rcases this with e | e | e | e | e <;> subst e <;> decide +kernel
theorem unit_facts {n : Nat} (n1 : 1 ≤ n) (n5 : n ≤ 5) : Facts09 n (unitRows n) (grows [] (unitRows n)) (putsL (tab0 n) (unitRows n)) := facts09 n1 n5 (unitRows n) (by unfold unitRows; rw [List.length_map, List.length_range]; exact n5) unit_good
theorem unit_red {n : Nat} (n1 : 1 ≤ n) (n5 : n ≤ 5) {v : Vec} (l : v.length = n) : redV (grows [] (unitRows n)) v = List.replicate n 0 := by
  have f := unit_facts n1 n5
  refine rep_of_zero9 ((redV_len _ v fun r hr => (f.f4.lB r hr).trans l.symm).trans l) (f.f4.zero v l (unit_sums l))
theorem end_one : redV (grows [] [[4]]) [7] = [3] := by decide +kernel
end K06

namespace Lat
/-! ## what stands behind the first places -/
def sh (a : Nat) (f : Nat → Int) : Nat → Int := fun i => f (a + i)
theorem itm_drop (v : Vec) (a i : Nat) : itm (v.drop a) i = itm v (a + i) := by
  unfold itm
  rw [List.getD_eq_getElem?_getD, List.getD_eq_getElem?_getD, List.getElem?_drop]
theorem itm_app (v u : Vec) (i : Nat) : itm (v ++ u) i = if i < v.length then itm v i else itm u (i - v.length) := by
  unfold itm
  rw [List.getD_eq_getElem?_getD, List.getD_eq_getElem?_getD, List.getD_eq_getElem?_getD]
  split
  · rw [List.getElem?_append_left (by assumption)]
  · rw [List.getElem?_append_right (by omega)]
def freeR (a : Nat) (B : List Vec) : List Vec := (B.filter fun r => decide (a ≤ piv r)).map fun r => r.drop a
theorem piv_drop : ∀ (a : Nat) (v : Vec), a ≤ piv v → piv (v.drop a) = piv v - a
  | 0, v, _ => rfl
  | a + 1, [], h => by simp [piv] at h
  | a + 1, x :: v, h => by
    by_cases q : x = 0
    · have e : piv (x :: v) = piv v + 1 := by
        show (if x ≠ 0 then 0 else piv v + 1) = _
        rw [if_neg (fun z => z q)]
      rw [e] at h ⊢
      show piv (v.drop a) = _
      rw [piv_drop a v (by omega)]; omega
    · have e : piv (x :: v) = 0 := if_pos q
      rw [e] at h; omega
theorem filter_all {n a : Nat} {c : Nat} {B : List Vec} (e : Ech n c B) (h : a ≤ c) : B.filter (fun r => decide (a ≤ piv r)) = B := by
  rw [List.filter_eq_self]
  intro r hr
  have := (e.row r hr).2.1
  exact decide_eq_true (by omega)
theorem In.behind {n a : Nat} : ∀ {c : Nat} {B : List Vec} {f : Nat → Int}, Ech n c B → In B f → (∀ i, i < a → f i = 0) → In (B.filter fun r => decide (a ≤ piv r)) f
  | _, [], _, _, h, _ => h
  | c, r :: rs, f, e, h, z => by
    by_cases q : a ≤ piv r
    · rw [filter_all (n := n) (c := piv r) (B := r :: rs) (show Ech n (piv r) (r :: rs) from ⟨e.1, Nat.le_refl _, e.2.2⟩) q]; exact h
    · rw [List.filter_cons_of_neg (by simpa using q)]
      exact In.behind e.2.2.2 (In.tail e h (z _ (by omega))) z
theorem In.shift {a : Nat} : ∀ {B : List Vec} {f : Nat → Int}, In B f → In (B.map fun r => r.drop a) (sh a f)
  | [], f, h => fun i => h (a + i)
  | r :: rs, f, ⟨x, h⟩ => ⟨x, by
    have := In.shift (a := a) h
    exact (In.cl _).of (t := 0) this (In.cl _).zero fun i => by
      show f (a + i) - x * itm (r.drop a) i = f (a + i) - x * itm r (a + i) + 0 * 0
      rw [itm_drop]; omega⟩
theorem In.unshift {a : Nat} : ∀ {B : List Vec} {f : Nat → Int}, (∀ r ∈ B, ∀ i, i < a → itm r i = 0) → (∀ i, i < a → f i = 0) → In (B.map fun r => r.drop a) (sh a f) → In B f
  | [], f, _, z, h => fun i => by
    by_cases q : i < a
    · exact z i q
    · have : f (a + (i - a)) = 0 := h (i - a)
      rwa [show a + (i - a) = i by omega] at this
  | r :: rs, f, hr, z, ⟨x, h⟩ => by
    obtain ⟨r1, r2⟩ := List.forall_mem_cons.mp hr
    refine ⟨x, In.unshift r2 (fun i hi => by show f i - x * itm r i = 0; rw [z i hi, r1 i hi]; omega) ?_⟩
    exact (In.cl _).of (t := 0) h (In.cl _).zero fun i => by
      show f (a + i) - x * itm r (a + i) = f (a + i) - x * itm (r.drop a) i + 0 * 0
      rw [itm_drop]; omega
theorem Ech.filter {n a : Nat} : ∀ {c : Nat} {B : List Vec}, Ech n c B → Ech n a (B.filter fun r => decide (a ≤ piv r))
  | _, [], _ => trivial
  | c, r :: rs, e => by
    by_cases q : a ≤ piv r
    · rw [filter_all (n := n) (c := piv r) (B := r :: rs) (show Ech n (piv r) (r :: rs) from ⟨e.1, Nat.le_refl _, e.2.2⟩) q]
      exact ⟨e.1, q, e.2.2⟩
    · rw [List.filter_cons_of_neg (by simpa using q)]
      exact Ech.filter e.2.2.2
theorem Ech.dropped {n a : Nat} : ∀ {c : Nat} {B : List Vec}, Ech n c B → a ≤ c → Ech (n - a) (c - a) (B.map fun r => r.drop a)
  | _, [], _, _ => trivial
  | c, r :: rs, e, h => by
    have p := piv_drop a r (by have := e.2.1; omega)
    have e1 := e.2.1
    have e2 := e.2.2.1
    refine ⟨by rw [List.length_drop, e.1], by rw [p]; omega, by rw [p]; omega, ?_⟩
    have := Ech.dropped (a := a) e.2.2.2 (by omega)
    rw [p, show piv r - a + 1 = piv r + 1 - a by omega]
    exact this
theorem free_ech {n a : Nat} {c : Nat} {B : List Vec} (e : Ech n c B) : Ech (n - a) 0 (freeR a B) := by
  have := Ech.dropped (a := a) (Ech.filter (a := a) e) (Nat.le_refl _)
  rw [Nat.sub_self] at this
  exact this
theorem free_in {n a : Nat} {B : List Vec} (e : Ech n 0 B) (g : Nat → Int) : In (freeR a B) g ↔ In B fun j => if j < a then 0 else g (j - a) := by
  have es : sh a (fun j => if j < a then 0 else g (j - a)) = g := funext fun i => by
    show (if a + i < a then (0 : Int) else g (a + i - a)) = g i
    rw [if_neg (by omega), show a + i - a = i by omega]
  constructor
  · intro h
    have h1 : In (B.filter fun r => decide (a ≤ piv r)) fun j => if j < a then 0 else g (j - a) := by
      refine In.unshift (a := a) (fun r hr i hi => (Ech.filter e).zero hr hi) (fun i hi => if_pos hi) ?_
      rw [es]; exact h
    exact In.sub (In.cl B) (fun r hr => In.mem _ _ (List.mem_filter.mp hr).1) h1
  · intro h
    have := In.shift (a := a) (In.behind e h fun i hi => if_pos hi)
    rw [es] at this
    exact this
theorem Hn.filter {n a : Nat} : ∀ {c : Nat} {B : List Vec}, Ech n c B → Hn B → Hn (B.filter fun r => decide (a ≤ piv r))
  | _, [], _, _ => trivial
  | c, r :: rs, e, h => by
    by_cases q : a ≤ piv r
    · rw [filter_all (n := n) (c := piv r) (B := r :: rs) (show Ech n (piv r) (r :: rs) from ⟨e.1, Nat.le_refl _, e.2.2⟩) q]; exact h
    · rw [List.filter_cons_of_neg (by simpa using q)]
      exact Hn.filter e.2.2.2 h.2.2
theorem Hn.dropped {n a : Nat} : ∀ {c : Nat} {B : List Vec}, Ech n c B → a ≤ c → Hn B → Hn (B.map fun r => r.drop a)
  | _, [], _, _, _ => trivial
  | c, r :: rs, e, h, hn => by
    have e1 := e.2.1
    have p := piv_drop a r (by omega)
    refine ⟨fun s hs => ?_, ?_, Hn.dropped (a := a) e.2.2.2 (by omega) hn.2.2⟩
    · obtain ⟨t, ht, rfl⟩ := List.mem_map.mp hs
      have pt := (e.2.2.2.row t ht).2.1
      have p2 := piv_drop a t (by omega)
      have := hn.1 t ht
      rw [p2, itm_drop, itm_drop, show a + (piv t - a) = piv t by omega]
      exact this
    · rw [p, itm_drop, show a + (piv r - a) = piv r by omega]
      exact hn.2.1
theorem free_hn {n a : Nat} {B : List Vec} (e : Ech n 0 B) (h : Hn B) : Hn (freeR a B) := Hn.dropped (Ech.filter e) (Nat.le_refl _) (Hn.filter e h)
/-! ## what is left of a target -/
theorem rest_zero {n a : Nat} {B : List Vec} {u : Vec} {f : Nat → Int} (eB : Ech n 0 B) (l : u.length = n) (hf : In B f) (h : ∀ i, i < a → f i = itm u i) : ∀ i, i < a → itm (redV B u) i = 0 := by
  have lB : ∀ r ∈ B, r.length = u.length := fun r hr => (eB.row r hr).1.trans l.symm
  have hd : In B fun i => itm u i - itm (redV B u) i := redV_diff (In.cl B) B u lB fun r hr => In.mem _ _ hr
  have hin : In B fun i => f i - itm u i + itm (redV B u) i := (In.cl B).of (t := -1) hf hd fun i => by omega
  rcases lead eB hin with z | ⟨s, hs, c, hc, zz, y⟩
  · intro i hi
    have := z i
    have := h i hi
    omega
  · intro i hi
    by_cases q : piv s < a
    · have e := h _ q
      have y' : f (piv s) - itm u (piv s) + itm (redV B u) (piv s) = c * itm s (piv s) := y
      have sm := redV_small eB l s hs
      have e2 : (itm (redV B u) (piv s)).natAbs = (c * itm s (piv s)).natAbs := by rw [← y']; congr 1; omega
      rw [Int.natAbs_mul] at e2
      have := Nat.le_mul_of_pos_left (itm s (piv s)).natAbs (Int.natAbs_pos.mpr hc)
      omega
    · have := zz i (by omega)
      have := h i hi
      omega
def srcPt (a : Nat) (B : List Vec) (u : Vec) : Option Vec := if piv (redV B u) < a then none else some (((redV B u).drop a).map fun m => -m)
def srcFr (a : Nat) (B : List Vec) (u : Vec) : List Vec := if piv (redV B u) < a then [] else freeR a B
theorem itm_neg (v : Vec) (i : Nat) : itm (v.map fun m => -m) i = -itm v i := by
  unfold itm
  rw [List.getD_eq_getElem?_getD, List.getD_eq_getElem?_getD, List.getElem?_map]
  cases v[i]? <;> rfl
/-! ## forms -/
def dotF : Vec → (Nat → Int) → Int
  | [], _ => 0
  | x :: r, g => x * g 0 + dotF r fun i => g (i + 1)
theorem dotF_add : ∀ (r : Vec) (f h : Nat → Int) (t : Int), dotF r (fun i => f i + t * h i) = dotF r f + t * dotF r h
  | [], _, _, t => by show (0 : Int) = 0 + t * 0; omega
  | x :: r, f, h, t => by
    have ih := dotF_add r (fun i => f (i + 1)) (fun i => h (i + 1)) t
    show x * (f 0 + t * h 0) + dotF r (fun i => f (i + 1) + t * h (i + 1)) = (x * f 0 + dotF r fun i => f (i + 1)) + t * (x * h 0 + dotF r fun i => h (i + 1))
    rw [ih]; grind
theorem dotF_zero : ∀ (r : Vec), dotF r (fun _ => 0) = 0
  | [] => rfl
  | x :: r => by
    show x * 0 + dotF r (fun _ => 0) = 0
    rw [dotF_zero r]; omega
theorem dotF_congr : ∀ {r : Vec} {f g : Nat → Int}, (∀ i, i < r.length → f i = g i) → dotF r f = dotF r g
  | [], _, _, _ => rfl
  | x :: r, f, g, h => by
    show x * f 0 + dotF r (fun i => f (i + 1)) = x * g 0 + dotF r fun i => g (i + 1)
    rw [h 0 (Nat.succ_pos _), dotF_congr fun i hi => h (i + 1) (Nat.succ_lt_succ hi)]
theorem dotF_unit : ∀ (r : Vec) (p : Nat), dotF r (fun i => if i = p then 1 else 0) = itm r p
  | [], p => by unfold itm; simp [dotF]
  | x :: r, 0 => by
    show x * (if 0 = 0 then 1 else 0) + dotF r (fun i => if i + 1 = 0 then 1 else 0) = x
    rw [dotF_congr (g := fun _ => 0) fun i _ => if_neg (by omega), dotF_zero]; simp
  | x :: r, p + 1 => by
    show x * (if 0 = p + 1 then 1 else 0) + dotF r (fun i => if i + 1 = p + 1 then 1 else 0) = itm r p
    rw [dotF_congr (g := fun i => if i = p then 1 else 0) fun i _ => by
      by_cases q : i = p
      · rw [if_pos (by omega), if_pos q]
      · rw [if_neg (by omega), if_neg q], dotF_unit r p, if_neg (by omega)]; omega
def rowAt (F : List Vec) (j : Nat) : Vec := F.getD j []
def Solves (F : List Vec) (b : Nat → Int) (g : Nat → Int) : Prop := ∀ j, j < F.length → dotF (rowAt F j) g = b j
def colV (F : List Vec) (p : Nat) : Vec := F.map fun r => itm r p
theorem colV_len (F : List Vec) (p : Nat) : (colV F p).length = F.length := List.length_map _
theorem colV_at (F : List Vec) (p j : Nat) : itm (colV F p) j = itm (rowAt F j) p := by
  unfold colV rowAt itm
  rw [List.getD_eq_getElem?_getD, List.getElem?_map, List.getD_eq_getElem?_getD, List.getD_eq_getElem?_getD]
  cases F[j]? <;> simp
/-- (forms at v, v) -/
def Graph (F : List Vec) (w : Nat) (f : Nat → Int) : Prop := Solves F f (sh F.length f) ∧ ∀ i, F.length + w ≤ i → f i = 0
theorem Graph.cl (F : List Vec) (w : Nat) : Cl (Graph F w) :=
  ⟨⟨fun j _ => dotF_zero _, fun _ _ => rfl⟩, fun f h t a b => ⟨fun j hj => by
    have := dotF_add (rowAt F j) (sh F.length f) (sh F.length h) t
    show dotF (rowAt F j) (fun i => sh F.length f i + t * sh F.length h i) = f j + t * h j
    rw [this, a.1 j hj, b.1 j hj], fun i hi => by show f i + t * h i = 0; rw [a.2 i hi, b.2 i hi]; omega⟩⟩
end Lat
namespace K06
open PySem L2 RZ Lat
def gensOf (F : List Vec) (w : Nat) : List Vec := (List.range w).map fun p => colV F p ++ unitV w p
theorem gens_graph {F : List Vec} {w : Nat} : ∀ g ∈ gensOf F w, Graph F w (itm g) := fun g hg => by
  obtain ⟨p, hp, rfl⟩ := List.mem_map.mp hg
  have hp' := List.mem_range.mp hp
  refine ⟨fun j hj => ?_, fun i hi => itm_out (by rw [List.length_append, colV_len, unitV_len]; exact hi)⟩
  rw [itm_app, colV_len, if_pos hj, colV_at, ← dotF_unit]
  refine dotF_congr fun i _ => ?_
  show itm (colV F p ++ unitV w p) (F.length + i) = _
  rw [itm_app, colV_len, if_neg (by omega), show F.length + i - F.length = i by omega, itm_unit hp']
theorem graph_gens {F : List Vec} {w : Nat} (lF : ∀ r ∈ F, r.length = w) {S : (Nat → Int) → Prop} (C : Cl S) (hS : ∀ g ∈ gensOf F w, S (itm g)) {f : Nat → Int} (h : Graph F w f) : S f := by
  have step : ∀ k, k ≤ w → S fun i => if i < F.length then dotF (rowAt F i) (fun t => if t < k then f (F.length + t) else 0) else if i - F.length < k then f i else 0 := by
    intro k
    induction k with
    | zero =>
      intro _
      refine C.of (t := 0) C.zero C.zero fun i => ?_
      by_cases q : i < F.length
      · rw [if_pos q, dotF_congr (g := fun _ => 0) fun t _ => if_neg (Nat.not_lt_zero _), dotF_zero]; omega
      · rw [if_neg q, if_neg (Nat.not_lt_zero _)]; omega
    | succ k ih =>
      intro hk
      refine C.of (t := f (F.length + k)) (ih (by omega)) (hS _ (List.mem_map.mpr ⟨k, List.mem_range.mpr (by omega), rfl⟩)) fun i => ?_
      rw [itm_app, colV_len]
      by_cases q : i < F.length
      · rw [if_pos q, if_pos q, if_pos q, colV_at, ← dotF_unit, ← dotF_add]
        refine dotF_congr fun t _ => ?_
        by_cases e : t = k
        · subst e; rw [if_pos (by omega), if_neg (by omega), if_pos rfl]; omega
        · by_cases g : t < k
          · rw [if_pos (by omega), if_pos g, if_neg e]; omega
          · rw [if_neg (by omega), if_neg g, if_neg e]; omega
      · rw [if_neg q, if_neg q, if_neg q, itm_unit (by omega)]
        by_cases e : i - F.length = k
        · rw [if_pos (by omega), if_neg (by omega), if_pos e, show F.length + k = i by omega]; omega
        · by_cases g : i - F.length < k
          · rw [if_pos (by omega), if_pos g, if_neg e]; omega
          · rw [if_neg (by omega), if_neg g, if_neg e]; omega
  refine C.of (t := 0) (step w (Nat.le_refl _)) C.zero fun i => ?_
  by_cases q : i < F.length
  · rw [if_pos q, ← h.1 i q]
    have lr : (rowAt F i).length = w := lF _ (by
      unfold rowAt
      rw [List.getD_eq_getElem?_getD, List.getElem?_eq_getElem q]
      exact List.getElem_mem q)
    have e : dotF (rowAt F i) (fun t => if t < w then f (F.length + t) else 0) = dotF (rowAt F i) (sh F.length f) := dotF_congr fun t ht => if_pos (by omega)
    rw [e]; omega
  · rw [if_neg q]
    by_cases g : i - F.length < w
    · rw [if_pos g]; omega
    · rw [if_neg g, h.2 i (by omega)]; omega
end K06

namespace K06
open PySem L2 RZ Lat
theorem fit30a : Fit 30 5 := by decide +kernel
theorem fit10a : Fit 30 10 := by decide +kernel
theorem fit939a : Fit 939 5 := by decide +kernel
theorem within_bits {v : Vec} {B : Int} {k : Nat} (h : Within B v) (hB : B.natAbs ≤ 2 ^ k) : ∀ i, (itm v i).natAbs ≤ 2 ^ k := fun i => by
  by_cases hi : i < v.length
  · have := h _ (List.mem_of_getElem? (itm_of hi))
    omega
  · rw [itm_out (by omega)]; exact Nat.zero_le _
/-- what is known of a drawn set -/
structure F11 (n : Nat) (rs : List Vec) (pt : Vec) : Prop where
  ok : OkGrows [] rs
  red : OkRed (grows [] rs) pt
  okB : OkGrows [] (grows [] rs)
  same : grows [] (grows [] rs) = grows [] rs
  redp : OkRed (grows [] rs) (redV (grows [] rs) pt)
  idem : redV (grows [] rs) (redV (grows [] rs) pt) = redV (grows [] rs) pt
  lB : ∀ v ∈ grows [] rs, v.length = n
  cB : (grows [] rs).length ≤ n
  lp : (redV (grows [] rs) pt).length = n
  nB : ∀ v ∈ grows [] rs, ∀ i ∈ v, i.natAbs.log2 < 1920
  np : ∀ i ∈ redV (grows [] rs) pt, i.natAbs.log2 < 1920
theorem facts11 {n : Nat} (n1 : 1 ≤ n) (n5 : n ≤ 5) {rs : List Vec} (h4 : rs.length ≤ 5) (hr : ∀ r ∈ rs, r.length = n ∧ Within 44 r) {pt : Vec} (lp : pt.length = n) (wp : Within 400000000 pt) : F11 n rs pt := by
  have R : Rws 30 n 5 rs := ⟨fit30a, by omega, .inl n5, fun r h => ⟨(hr r h).1, within_bits (hr r h).2 (by decide)⟩⟩
  have f := (facts09 n1 n5 rs h4 hr).f4
  have sB : ∀ v ∈ grows [] rs, ∀ i, (itm v i).natAbs ≤ 2 ^ 939 := R.size
  have cB : (grows [] rs).length ≤ n := by have := R.gen.ech.count (Nat.zero_le _); omega
  have R2 : Rws 939 n 5 (grows [] rs) := ⟨fit939a, by omega, .inl n5, fun r h => ⟨f.lB r h, sB r h⟩⟩
  have wb : ∀ i, (itm pt i).natAbs ≤ 2 ^ 175 := within_bits wp (by decide)
  have lB' : ∀ r ∈ grows [] rs, r.length = pt.length := fun r h => (f.lB r h).trans lp.symm
  have lq : (redV (grows [] rs) pt).length = n := (redV_len _ pt lB').trans lp
  have sq := red_short (y := 175) (by decide) R.gen lp (by decide) (by decide) wb
  have same : grows [] (grows [] rs) = grows [] rs := bas_one (n := n) (bas_of fun r hr => (R.gen.ech.row r hr).1) ⟨R.gen.ech, R.bas.hn, fun S C => Iff.rfl⟩ fun S C => Iff.rfl
  refine ⟨R.ok, R.red (y := 175) lp wb (by decide), R2.ok, same, ?_, ?_, f.lB, cB, lq, fun v hv m hm => ?_, fun m hm => ?_⟩
  · have := R2.red (y := 945) lq (fun i => Nat.le_trans (sq i) (Nat.pow_le_pow_right (by decide) (by decide))) (by decide)
    rw [same] at this; exact this
  · refine f.again _ _ lq lp fun S C hS => ?_
    exact C.of (t := -1) C.zero (f.rest pt lp S C hS) fun i => by omega
  · obtain ⟨i, rfl⟩ := mem_itm hm
    exact log_bound (sB v hv i) (by decide)
  · obtain ⟨i, rfl⟩ := mem_itm hm
    exact log_bound (sq i) (by decide)
/-- what is read from few words with small numbers -/
theorem read_ok {ws : List L2.RD.Wx} {p : Vec} {B : List Vec} (hne : ws ≠ []) (h : L2.RD.reads ws = .inr (p :: B)) (l60 : ws.length ≤ 60) (pl : ws.countP L2.RD.isP ≤ 9) (num : ∀ i, L2.RD.Wx.num i ∈ ws → i.natAbs < 1000000000) : OkGrows [] B ∧ OkRed (grows [] B) p := by
  obtain ⟨p', B', e, p0, lB⟩ := L2.RD.reads_rows hne h
  cases e
  obtain ⟨g1, g2, g3⟩ := L2.RD.reads_grown h
  rw [List.length_cons] at g1
  have sz : ∀ v ∈ p :: B, ∀ i, (itm v i).natAbs ≤ 2 ^ 30 := fun v hv i => by
    by_cases hi : i < v.length
    · have := num _ (g3 v hv _ (List.mem_of_getElem? (itm_of hi)))
      have e : (2 : Nat) ^ 30 = 1073741824 := by decide
      omega
    · rw [itm_out (by omega)]; exact Nat.zero_le _
  have R : Rws 30 p.length 10 B := ⟨fit10a, by omega, .inr (by omega), fun r hr => ⟨lB r hr, sz r (List.mem_cons_of_mem _ hr)⟩⟩
  exact ⟨R.ok, R.red (y := 30) rfl (sz p List.mem_cons_self) (by decide)⟩
/-- the words of a text with short numbers -/
structure W11 (p : Vec) (B : List Vec) (W : List L2.RD.Wx) : Prop where
  ne : W ≠ []
  len : W.length + 1 = (p.length + 1) * (B.length + 1)
  nine : ∀ w ∈ W, Nine w
  num : ∀ i, L2.RD.Wx.num i ∈ W → i.natAbs < 1000000000
  cnt : W.countP L2.RD.isP = B.length
  rd : L2.RD.reads W = .inr (p :: B)
  sp : Txt.split (L2.RD.textP p B) (Str.ofString " ") = W.map L2.RD.Wx.txt
theorem words11 {n : Nat} (n1 : 1 ≤ n) (n5 : n ≤ 5) {p : Vec} {B : List Vec} (lp : p.length = n) (lB : ∀ v ∈ B, v.length = n) (cB : B.length ≤ 5) (sh : ∀ v ∈ p :: B, ∀ i ∈ v, i.natAbs < 1000000000) : W11 p B ((L2.RD.wds p B).map L2.RD.Wd.up) := by
  have pne : p ≠ [] := fun e => by rw [e] at lp; rw [← lp] at n1; exact absurd n1 (by decide)
  have Bne : ∀ v ∈ B, v ≠ [] := fun v hv e => by have := lB v hv; rw [e] at this; rw [← this] at n1; exact absurd n1 (by decide)
  have num : ∀ i, L2.RD.Wx.num i ∈ (L2.RD.wds p B).map L2.RD.Wd.up → i.natAbs < 1000000000 := fun i hi => by
    obtain ⟨q, hq, e⟩ := List.mem_map.mp hi
    rcases L2.RD.wds_mem hq with rfl | ⟨m, rfl, hm⟩
    · cases e
    · cases e
      rcases hm with hm | ⟨v, hv, hm⟩
      · exact sh p List.mem_cons_self _ hm
      · exact sh v (List.mem_cons_of_mem _ hv) _ hm
  refine ⟨fun e => L2.RD.wds_ne pne B (List.map_eq_nil_iff.mp e), ?_, fun w hw => ?_, num, L2.RD.wds_count B p, L2.RD.reads_set n1 p B lp lB, ?_⟩
  · rw [List.length_map, lp]
    exact L2.RD.wds_len B p lp lB
  · cases w with
    | plus => trivial
    | bad o => trivial
    | num i => exact L2.RD.figs_short (num i hw)
  · rw [L2.RD.split_text pne Bne, List.map_map]
    exact List.map_congr_left fun w _ => (L2.RD.up_txt w).symm
theorem text_len11 {n : Nat} (n5 : n ≤ 5) {p : Vec} {B : List Vec} (cB : B.length ≤ 5) (h : ∀ v ∈ p :: B, v.length = n ∧ ∀ i ∈ v, i.natAbs.log2 < 1920) : (L2.RD.textP p B).length ≤ 1000000 := by
  have hs := wSs_len (B := p :: B) (n := n) h
  have hj := join_len (Str.ofString " + ") ((p :: B).map wS)
  rw [List.length_map, show (Str.ofString " + ").length = 3 by decide +kernel, List.length_cons] at hj
  rw [List.length_cons] at hs
  have h1 := Nat.mul_le_mul (show 1922 * n ≤ 1922 * 5 by omega) (show B.length + 1 ≤ 6 by omega)
  show (PySem.Txt.join _ _).length ≤ _
  omega
theorem log_small {i : Int} (h : i.natAbs < 1000000000) : i.natAbs.log2 < 1920 := by
  have e : (2 : Nat) ^ 30 = 1073741824 := by decide
  exact log_bound (k := 30) (by omega) (by decide)
theorem W11.small {p : Vec} {B : List Vec} {W : List L2.RD.Wx} (h : W11 p B W) (lp : p.length ≤ 5) {k : Nat} (lB : B.length ≤ k) : W.length + 1 ≤ 6 * (k + 1) := by
  rw [h.len]
  exact Nat.mul_le_mul (by omega) (by omega)
theorem cut_sub (ws : List L2.RD.Wx) (lo hi : Option Int) : ∃ M : List L2.RD.Wx, M.Sublist ws ∧ cutV ((ws.map L2.RD.Wx.txt).map V.str) lo hi = (M.map L2.RD.Wx.txt).map V.str := by
  unfold cutV
  refine ⟨(ws.drop (HT.sIx ((ws.map L2.RD.Wx.txt).map V.str).length 0 lo)).take (HT.sIx ((ws.map L2.RD.Wx.txt).map V.str).length ((ws.map L2.RD.Wx.txt).map V.str).length hi - HT.sIx ((ws.map L2.RD.Wx.txt).map V.str).length 0 lo), (List.take_sublist _ _).trans (List.drop_sublist _ _), ?_⟩
  rw [List.map_take, List.map_drop, List.map_take, List.map_drop]
/-- words that may be a line -/
structure L11 (m k : Nat) (ws : List L2.RD.Wx) : Prop where
  len : ws.length ≤ m
  nine : ∀ w ∈ ws, Nine w
  num : ∀ i, L2.RD.Wx.num i ∈ ws → i.natAbs < 1000000000
  cnt : ws.countP L2.RD.isP ≤ k
theorem L11.sub {m k : Nat} {ws M : List L2.RD.Wx} (h : L11 m k ws) (s : M.Sublist ws) : L11 m k M :=
  ⟨Nat.le_trans s.length_le h.len, fun w hw => h.nine w (s.subset hw), fun i hi => h.num i (s.subset hi), Nat.le_trans (s.countP_le) h.cnt⟩
theorem L11.app {m k m' k' : Nat} {ws us : List L2.RD.Wx} (h : L11 m k ws) (g : L11 m' k' us) : L11 (m + m') (k + k') (ws ++ us) :=
  ⟨by rw [List.length_append]; have := h.len; have := g.len; omega, fun w hw => (List.mem_append.mp hw).elim (h.nine w) (g.nine w), fun i hi => (List.mem_append.mp hi).elim (h.num i) (g.num i), by rw [List.countP_append]; have := h.cnt; have := g.cnt; omega⟩
theorem txt_sum : ∀ {ws : List L2.RD.Wx}, (∀ w ∈ ws, Nine w) → ((ws.map L2.RD.Wx.txt).map (·.length)).sum ≤ 10 * ws.length
  | [], _ => Nat.le_refl _
  | w :: ws, h => by
    have h1 := word_len w (h w List.mem_cons_self)
    have h2 := txt_sum (ws := ws) fun x hx => h x (List.mem_cons_of_mem _ hx)
    simp only [List.map_cons, List.sum_cons, List.length_cons]
    omega
theorem line11 {m k : Nat} {ws : List L2.RD.Wx} (h : L11 m k ws) (m1 : 1 ≤ m) (m60 : m ≤ 60) : (PySem.Txt.join (Str.ofString " ") (ws.map L2.RD.Wx.txt)).length ≤ 1000 ∧ ((ws.map L2.RD.Wx.txt).map (·.length)).sum + (ws.map L2.RD.Wx.txt).length * (Str.ofString " ").length ≤ 16777216 ∧ ∃ us, us ≠ [] ∧ L11 m k us ∧ Txt.split (PySem.Txt.join (Str.ofString " ") (ws.map L2.RD.Wx.txt)) (Str.ofString " ") = us.map L2.RD.Wx.txt := by
  have s := txt_sum h.nine
  have l := h.len
  have j := join_len (Str.ofString " ") (ws.map L2.RD.Wx.txt)
  have e : (Str.ofString " ").length = 1 := by decide +kernel
  rw [List.length_map, e, Nat.mul_one] at j
  refine ⟨by omega, by rw [List.length_map, e]; omega, ?_⟩
  by_cases hw : ws = []
  · subst hw
    exact ⟨[.bad .none'], by simp, ⟨m1, (fun w hw => by rw [List.mem_singleton.mp hw]; trivial), (fun i hi => by rw [List.mem_singleton] at hi; cases hi), Nat.zero_le _⟩, L2.RD.split_none⟩
  · exact ⟨ws, hw, h, L2.RD.split_words hw⟩
end K06

namespace K06
open PySem L2 RZ Lat PySem.Spec PyProof.Rows
/-! ## values that are written down, two deep -/
def G0 (te : TE) (x : Atom) : Prop := ∀ σ H Q, Q (valA x) H → te σ H Q
def GA (ta : TA) (xs : List Atom) : Prop := ∀ σ H Q, Q (xs.map valA) H → ta σ H Q
def G1 (te : TE) (d : D1) : Prop := ∀ σ H Q, (∀ H' v, Same H H' → Rel1 H' v d → Q v H') → te σ H Q
def GA1 (ta : TA) (ds : List D1) : Prop := ∀ σ H Q, (∀ H' vs, Same H H' → Paired (Rel1 H') vs ds → Q vs H') → ta σ H Q
def G2 (te : TE) (d : D2) : Prop := ∀ σ H Q, (∀ H' v, Same H H' → Rel2 H' v d → Q v H') → te σ H Q
def GA2 (ta : TA) (ds : List D2) : Prop := ∀ σ H Q, (∀ H' vs, Same H H' → Paired (Rel2 H') vs ds → Q vs H') → ta σ H Q
theorem g_int (i : Int) : G0 (tC (.int i)) (.int i) := fun _ _ _ q => q
theorem g_bl (b : Bool) : G0 (tC (.bl b)) (.bl b) := fun _ _ _ q => q
theorem g_non : G0 (tC .non) .non := fun _ _ _ q => q
theorem g_str (s : Str) : G0 (tC (.str s)) (.str s) := fun _ _ _ q => q
theorem g_neg (i : Int) : G0 (tUn (rU fun i => .int (-i)) (tC (.int i))) (.int (-i)) := fun _ _ _ q => ⟨i, rfl, q⟩
theorem ga_nil : GA tNil [] := fun _ _ _ q => q
theorem ga_cons {te : TE} {ta : TA} {x : Atom} {xs : List Atom} (h : G0 te x) (t : GA ta xs) : GA (tCons te ta) (x :: xs) := fun σ H Q q => h σ H _ (t σ H _ q)
theorem g1_a {te : TE} {x : Atom} (h : G0 te x) : G1 te (.a x) := fun σ H Q q => h σ H _ (q H _ (Same.refl H) rfl)
theorem le_line {n : Nat} (h : n ≤ 1000) : n ≤ sizeLine := Nat.le_trans h (by decide)
theorem g1_tup {ta : TA} {xs : List Atom} (h : GA ta xs) (l : xs.length ≤ 1000) : G1 (tTup ta) (.s true xs) := fun σ H Q q => h σ H _ ⟨by rw [List.length_map]; exact le_line l, fun p hp => q _ _ (new_at hp).1 ⟨p, rfl, (new_at hp).2⟩⟩
theorem g1_lst {ta : TA} {xs : List Atom} (h : GA ta xs) (l : xs.length ≤ 1000) : G1 (tLst ta) (.s false xs) := fun σ H Q q => h σ H _ ⟨by rw [List.length_map]; exact le_line l, fun p hp => q _ _ (new_at hp).1 ⟨p, rfl, (new_at hp).2⟩⟩
theorem ga1_nil : GA1 tNil [] := fun _ H _ q => q H [] (Same.refl H) .nil
theorem ga1_cons {te : TE} {ta : TA} {d : D1} {ds : List D1} (h : G1 te d) (t : GA1 ta ds) : GA1 (tCons te ta) (d :: ds) := fun σ H Q q => h σ H _ fun H1 v s1 r1 => t σ H1 _ fun H2 vs s2 r2 => q H2 (v :: vs) (s1.trans s2) (.cons (r1.keep s2) r2)
theorem g2_a {te : TE} {x : Atom} (h : G0 te x) : G2 te (.a x) := fun σ H Q q => h σ H _ (q H _ (Same.refl H) rfl)
theorem g2_tup {ta : TA} {ds : List D1} (h : GA1 ta ds) (l : ds.length ≤ 1000) : G2 (tTup ta) (.s true ds) := fun σ H Q q => h σ H _ fun H1 vs s1 r1 => ⟨by rw [r1.length]; exact le_line l, fun p hp => q _ _ (s1.trans (new_at hp).1) ⟨p, vs, rfl, (new_at hp).2, Paired.mapP r1 fun x d z => z.keep (new_at hp).1⟩⟩
theorem g2_lst {ta : TA} {ds : List D1} (h : GA1 ta ds) (l : ds.length ≤ 1000) : G2 (tLst ta) (.s false ds) := fun σ H Q q => h σ H _ fun H1 vs s1 r1 => ⟨by rw [r1.length]; exact le_line l, fun p hp => q _ _ (s1.trans (new_at hp).1) ⟨p, vs, rfl, (new_at hp).2, Paired.mapP r1 fun x d z => z.keep (new_at hp).1⟩⟩
theorem ga2_nil : GA2 tNil [] := fun _ H _ q => q H [] (Same.refl H) .nil
theorem ga2_cons {te : TE} {ta : TA} {d : D2} {ds : List D2} (h : G2 te d) (t : GA2 ta ds) : GA2 (tCons te ta) (d :: ds) := fun σ H Q q => h σ H _ fun H1 v s1 r1 => t σ H1 _ fun H2 vs s2 r2 => q H2 (v :: vs) (s1.trans s2) (.cons (r1.keep s2) r2)
theorem l_lst1 {ta : TA} {ds : List D1} (h : GA1 ta ds) (l : ds.length ≤ 1000) {σ : L2.St} {H : Hp} {Q : VK} (q : ∀ (H' : Hp) (p : Addr) (as : List V), Same H H' → H' p = some (.lst as) → Paired (Rel1 H') as ds → Q (.ref p) H') : tLst ta σ H Q := h σ H _ fun H1 vs s1 r1 => ⟨by rw [r1.length]; exact le_line l, fun p hp => q _ p vs (s1.trans (new_at hp).1) (new_at hp).2 (Paired.mapP r1 fun x d z => z.keep (new_at hp).1)⟩
theorem l_lst2 {ta : TA} {ds : List D2} (h : GA2 ta ds) (l : ds.length ≤ 1000) {σ : L2.St} {H : Hp} {Q : VK} (q : ∀ (H' : Hp) (p : Addr) (as : List V), Same H H' → H' p = some (.lst as) → Paired (Rel2 H') as ds → Q (.ref p) H') : tLst ta σ H Q := h σ H _ fun H1 vs s1 r1 => ⟨by rw [r1.length]; exact le_line l, fun p hp => q _ p vs (s1.trans (new_at hp).1) (new_at hp).2 (Paired.mapP r1 fun x d z => z.keep (new_at hp).1)⟩
theorem paired_app {α β : Type} {R : α → β → Prop} {as as2 : List α} {bs bs2 : List β} (h : Paired R as bs) (g : Paired R as2 bs2) : Paired R (as ++ as2) (bs ++ bs2) := by
  induction h with
  | nil => exact g
  | cons r _ ih => exact .cons r ih
end K06

set_option pp.maxSteps 400
namespace L2
open PySem PySem.Spec PyProof.Rows
theorem ix_listK {X : Cx} {K : PySem.W.Frag} (e : X.K = K) : IxR X (rIxL K) := by
  subst e; exact ix_list
end L2
namespace K06
open PySem L2 RZ Lat
section
variable {P : Program} {w : World} {K : PySem.W.Frag} {mg : Str → Option Value} {base : Heap}
def odd11 : List L2.RD.Wx := [.plus, .num 0, .num (-3), .bad .seven, .bad .minus, .bad .none', .bad .ten, .num 999999999, .bad .ex, .bad .dashes, .bad .word]
theorem odd11_V : ([V.str "+", V.str "0", V.str "-3", V.str "07", V.str "-0", V.str "", V.str "1000000000", V.str "999999999"] ++ [V.str "x", V.str "--1", V.str "none"] : List V) = (odd11.map L2.RD.Wx.txt).map V.str := by
  have e0 : iS 0 = "0" := by decide +kernel
  have e3 : iS (-3) = "-3" := by decide +kernel
  have e9 : iS 999999999 = "999999999" := by decide +kernel
  show _ = [V.str "+", V.str (iS 0), V.str (iS (-3)), V.str "07", V.str "-0", V.str "", V.str "1000000000", V.str (iS 999999999), V.str "x", V.str "--1", V.str "none"]
  rw [e0, e3, e9]; rfl
theorem odd11_ok : ∀ w ∈ odd11, Nine w ∧ ∀ i, w = .num i → i.natAbs < 1000000000 := fun w hw => by
  have key : ∀ w : L2.RD.Wx, (∀ i, w = .num i → i.natAbs < 1000000000) → Nine w := fun w h => by
    cases w with
    | plus => trivial
    | bad o => trivial
    | num i => exact L2.RD.figs_short (h i rfl)
  have h2 : ∀ i, w = .num i → i.natAbs < 1000000000 := fun i e => by
    subst e
    have : L2.RD.Wx.num i ∈ odd11 := hw
    unfold odd11 at this
    simp only [List.mem_cons, reduceCtorEq, L2.RD.Wx.num.injEq, List.not_mem_nil, or_false, false_or] at this
    rcases this with e | e | e <;> subst e <;> decide
  exact ⟨key w h2, h2⟩
def menu11 : List D1 := [.a .non, .a (.int 0), .a (.int 1), .a (.bl true), .s false [], .s false [.str "1"], .s true [.str "1"], .a (.int (-3)), .a (.str "none"), .a (.str ""), .a (.str "+ 1")]
/-- what a value that is asked to be read gives -/
def Zero11 (d : D1) : Prop := (∀ s, d ≠ .a (.str s)) ∨ ∃ (s : Str) (us : List L2.RD.Wx), d = .a (.str s) ∧ Txt.split s (Str.ofString " ") = us.map L2.RD.Wx.txt ∧ s.length ≤ 1000 ∧ us ≠ [] ∧ us.length ≤ 60 ∧ (∀ w ∈ us, Nine w) ∧ L2.RD.reads us = .inl 0
theorem zero11 : ∀ d ∈ menu11, Zero11 d := fun d hd => by
  unfold menu11 at hd
  simp only [List.mem_cons, List.not_mem_nil, or_false] at hd
  rcases hd with e | e | e | e | e | e | e | e | e | e | e <;> subst e
  · exact .inl fun s e => nomatch e
  · exact .inl fun s e => nomatch e
  · exact .inl fun s e => nomatch e
  · exact .inl fun s e => nomatch e
  · exact .inl fun s e => nomatch e
  · exact .inl fun s e => nomatch e
  · exact .inl fun s e => nomatch e
  · exact .inl fun s e => nomatch e
  · exact .inr ⟨_, [.bad .word], rfl, by decide +kernel, by decide +kernel, by simp, by decide, (fun w hw => by rw [List.mem_singleton.mp hw]; trivial), by rfl⟩
  · exact .inr ⟨_, [.bad .none'], rfl, by decide +kernel, by decide +kernel, by simp, by decide, (fun w hw => by rw [List.mem_singleton.mp hw]; trivial), by rfl⟩
  · refine .inr ⟨_, [.plus, .num 1], rfl, by decide +kernel, by decide +kernel, by simp, by decide, (fun w hw => ?_), by rfl⟩
    rcases List.mem_cons.mp hw with e | e
    · subst e; trivial
    · rw [List.mem_singleton.mp e]; exact L2.RD.figs_short (by decide)
theorem len11 : menu11.all (fun d => match d with | .s t ys => decide (ys.length ≤ 1) | _ => true) = true := by decide +kernel
structure Fix11 (s : Str) (us : List L2.RD.Wx) (r : Sum Nat (List Vec)) : Prop where
  sp : Txt.split s (Str.ofString " ") = us.map L2.RD.Wx.txt
  ls : s.length ≤ 1000
  ne : us ≠ []
  lu : us.length ≤ 60
  nine : ∀ w ∈ us, Nine w
  rd : L2.RD.reads us = r
theorem small_nine {us : List L2.RD.Wx} (h : us.all (fun w => match w with | .num i => decide (i.natAbs < 1000000000) | _ => true) = true) : ∀ w ∈ us, Nine w := fun w hw => by
  have := List.all_eq_true.mp h w hw
  cases w with
  | plus => trivial
  | bad o => trivial
  | num i => exact L2.RD.figs_short (of_decide_eq_true this)
theorem fixA : Fix11 "1 2 + 3" [.num 1, .num 2, .plus, .num 3] (.inl 4) := ⟨by decide +kernel, by decide +kernel, by simp, by decide, small_nine (by decide), by rfl⟩
theorem fixB : Fix11 "1 + 2 3" [.num 1, .plus, .num 2, .num 3] (.inl 3) := ⟨by decide +kernel, by decide +kernel, by simp, by decide, small_nine (by decide), by rfl⟩
theorem fixC : Fix11 "5" [.num 5] (.inr [[5]]) := ⟨by decide +kernel, by decide +kernel, by simp, by decide, small_nine (by decide), by rfl⟩
theorem a_lst1 {ta : TA} {ds : List D1} (h : GA1 ta ds) (l : ds.length ≤ 1000) {σ : L2.St} {H : Hp} {Q : List V → Hp → Prop} (q : ∀ (H' : Hp) (p : Addr) (as : List V), Same H H' → H' p = some (.lst as) → Paired (Rel1 H') as ds → Q [.ref p] H') : tCons (tLst ta) tNil σ H Q := l_lst1 h l q
theorem paired_at {α β : Type} {R : α → β → Prop} {as : List α} {bs : List β} (h : Paired R as bs) {i : Nat} {a : α} (e : as[i]? = some a) : ∃ b, b ∈ bs ∧ R a b := by
  obtain ⟨b, e', r⟩ := paired_get h e
  exact ⟨b, List.mem_of_getElem? e', r⟩
theorem Rel1.lst {D : Addr} {xs : List V} {H H' : Hp} {v : V} {d : D1} (hD : ∀ t ys, d = .s t ys → v ≠ .ref D) (s : But D H H') (h : Rel1 H v d) : Rel1 H' v d := by
  cases d with
  | a x => exact h
  | s t ys =>
    obtain ⟨p, rfl, q⟩ := h
    exact ⟨p, rfl, s _ _ (fun e => hD t ys rfl (by rw [e])) q⟩
theorem lread_zero {D : Addr} {H : Hp} {v : V} {d : D1} {Q : VK} {E : XK} (r : Rel1 H v d) (z : Zero11 d) (k : ∀ H', Same H H' → Q (.int 0) H') : spLRead D [v] H Q E := by
  refine ⟨v, rfl, ?_⟩
  rcases z with ns | ⟨s, us, rfl, f1, f2, f3, f4, f5, f6⟩
  · exact .inl ⟨d, r, ns, k⟩
  · cases (show v = .str s from r)
    refine .inr ⟨s, us, rfl, f1, by omega, f3, f4, f5, (fun k1 hk H' s' => ?_), (fun p B hR => by rw [f6] at hR; cases hR)⟩
    rw [f6] at hk
    cases hk
    exact k H' s'
theorem lread_fix {D : Addr} {H : Hp} {s : Str} {us : List L2.RD.Wx} {k0 : Nat} {Q : VK} {E : XK} (f : Fix11 s us (.inl k0)) (k : ∀ H', Same H H' → Q (.int ((k0 : Nat) : Int)) H') : spLRead D [.str s] H Q E := by
  refine ⟨_, rfl, .inr ⟨s, us, rfl, f.sp, by have := f.ls; omega, f.ne, f.lu, f.nine, (fun k1 hk H' s' => ?_), (fun p B hR => by rw [f.rd] at hR; cases hR)⟩⟩
  rw [f.rd] at hk
  cases hk
  exact k H' s'
theorem fne11 : ∀ c : Bool, (false != c) = c := by decide
section
variable {D x y : Addr} {H : Hp} {n : Nat} {Q : VK} {E : XK}
theorem eq_same {o : Option Vec} {B : List Vec} (hx : FacAt D H x n o B) (hy : FacAt D H y n o B) (k : Q (.bl true) H) : rCmpO D (spEqF D) E false (.ref x) (.ref y) H Q := by
  obtain ⟨dx, fs, ox⟩ := hx.ins
  obtain ⟨dy, gs, oy⟩ := hy.ins
  refine ⟨x, dx, fs, y, dy, gs, rfl, ox, rfl, oy, .inl ⟨x, y, n, n, _, _, _, _, rfl, hx, hy, _, rfl, ?_⟩⟩
  rw [fne11, decide_eq_true rfl, decide_eq_true rfl, decide_eq_true rfl]
  exact k
theorem ne_same {o : Option Vec} {B : List Vec} (hx : FacAt D H x n o B) (hy : FacAt D H y n o B) (k : Q (.bl false) H) : rCmpO D (spEqF D) E true (.ref x) (.ref y) H Q := by
  obtain ⟨dx, fs, ox⟩ := hx.ins
  obtain ⟨dy, gs, oy⟩ := hy.ins
  refine ⟨x, dx, fs, y, dy, gs, rfl, ox, rfl, oy, .inl ⟨x, y, n, n, _, _, _, _, rfl, hx, hy, _, rfl, ?_⟩⟩
  have tne : ∀ c : Bool, (true != c) = !c := by decide
  rw [tne, decide_eq_true rfl, decide_eq_true rfl, decide_eq_true rfl]
  exact k
end
abbrev s_law : Stmt := top 50
abbrev n_law : List Str := ["_law_script", "_law_k", "_law_box_here", "_law_turn", "_law_width", "_law_rows_here", "_law_at", "_law_point", "_law_made", "_law_told", "_law_line_here", "_law_words", "_law_odd", "_law_due_here", "_law_vectors", "_law_thing", "_law_row"]
theorem sc_law : FnScope n_law ["_law_script"] (defScope s_law) := ⟨rfl, rfl, rfl, by decide +kernel, rfl, by decide +kernel, by decide +kernel⟩
def spLaw (K : PySem.W.Frag) : Sp := fun vs H Q _ => ∃ (a : Addr) (ns : List Int), vs = [.ref a] ∧ SqL K H a (ns.map V.int) ∧ ns.length ≤ 63 ∧ ∀ H', Q (.bl true) H'
theorem ok_law {D IT fF fE fS fU pU t0 f : Addr} {fdF fdE fdS fd : FuncData} {mcD : Value} {ds1 ds2 : List Value} (T : TxtS mg)
    (DL : ClsF K mg D) (TD : ClsT K D) (MD : Mk K D fF) (g_factors : FnOk P w K mg base CX0 7 fF fdF ["self", "width", "point", "rows"] (spFactors K D)) (bF : Binds K fdF ["self", "width", "point", "rows"] [])
    (bF1 : Binds K fdF ["self", "width", "point", "rows"] ds1) (vF1 : Vals [.non, .ref t0] ds1) (bF2 : Binds K fdF ["self", "width", "point", "rows"] ds2) (vF2 : Vals [.ref t0] ds2) (it0 : ∀ H, InSeq K H t0 [])
    (hsE : PySem.W.findIn K (.ref D) "__eq__" = some (some (.ref fE))) (fnE : PySem.W.isFn K (.ref fE) = true) (g_eq : FnOk P w K mg base CX0 1 fE fdE ["self", "other"] (spEqF D)) (bE : Binds K fdE ["self", "other"] [])
    (hsS : PySem.W.findIn K (.ref D) "__str__" = some (some (.ref fS))) (fnS : PySem.W.isFn K (.ref fS) = true) (g_str : FnOk P w K mg base CX0 2 fS fdS ["self"] (spStrF D)) (bS : Binds K fdS ["self"] [])
    (RD : ClX.CRead K D mcD) (CR : ClX.CMet K D mcD "read" pU fU) (g_readX : FnR P w K mg base (L2.CX P w) 9 fU (spReadF D IT))
    (F : Fun K "law" "law" s_law f fd) (hb : ∀ (s : Shared) (u : Value), K.In s.heap → BindsTo s fd ⟨[u], []⟩ [("_law_script", u)])
    (g_law_box : Has P w K mg base 1 "_law_box" ["_law_script", "_law_k", "_law_own"] (spBox K)) (g_law_take : Has P w K mg base 1 "_law_take" ["_law_box_here", "_law_many"] spTake) (g_law_small : Has P w K mg base 2 "_law_small" ["_law_box_here"] spSmall)
    (g_law_pick : Has P w K mg base 2 "_law_pick" ["_law_box_here", "_law_items"] spPick) (g_law_rows : Has P w K mg base 3 "_law_rows" ["_law_box_here", "_law_width", "_law_many", "_law_is_great"] spRows)
    (g_law_line : Has P w K mg base 1 "_law_line" ["_law_vectors"] spLine) (g_law_is_short : Has P w K mg base 1 "_law_is_short" ["_law_vectors"] spShort) (g_law_due : Has P w K mg base 2 "_law_due" ["_law_line_here"] spDue)
    (g_law_read : Has P w K mg base 11 "_law_read" ["_law_line_here"] (spLRead D)) : LawOk P w K mg base 12 f (spLaw K) := by
  refine LawOk.of F sc_law hb fun cdv A s H v Q hg0 hr h => ?_
  have hu : (A.deeper (PyProof.Rows.envOfC "law" (defScope s_law) s.heap.objs.size f cdv)).units + 64 < cLine := hr.units
  obtain ⟨a, ns, ev, hS, hlen, k⟩ := h
  cases ev
  refine ⟨_, (pss_cons (ps_for PassesOwn.never rfl (pi_range1 rfl T.z_range (pa_cons (pe_callB (call_max2 rfl) (by rfl) T.z_max (by decide +kernel) (pa_cons pe_int (pa_cons (pe_callB (call_min2 rfl) (by rfl) T.z_min (by decide +kernel) (pa_cons pe_int (pa_cons (pe_callB call_len (by rfl) T.z_len (by decide +kernel) (pa_cons (pv 0) pa_nil)) pa_nil))) pa_nil))) pa_nil)) (pg_name (i := 1) sc_law.nd rfl (Or.inl rfl)) (pss_cons (ps_set (i := 2) sc_law.nd rfl (Or.inr rfl) (pe_callHas g_law_box (hr.mono (by decide)) rfl (pa_cons (pv 0) (pa_cons (pv 1) (pa_cons pe_int pa_nil)))))
      (pss_cons (ps_for PassesOwn.never rfl (pi_range1 rfl T.z_range (pa_cons pe_int pa_nil)) (pg_name (i := 3) sc_law.nd rfl (Or.inl rfl)) (pss_cons (ps_set (i := 4) sc_law.nd rfl (Or.inl rfl) (pe_op op_add pe_int (pe_callHas g_law_take (hr.mono (by decide)) rfl (pa_cons (pv 2) (pa_cons pe_int pa_nil)))))
      (pss_cons (ps_set (i := 5) sc_law.nd rfl (Or.inl rfl) (pe_callHas g_law_rows (hr.mono (by decide)) rfl (pa_cons (pv 2) (pa_cons (pv 4) (pa_cons (pe_callHas g_law_take (hr.mono (by decide)) rfl (pa_cons (pv 2) (pa_cons pe_int pa_nil))) (pa_cons pe_bl pa_nil))))))
      (pss_cons (ps_set (i := 7) sc_law.nd rfl (Or.inl rfl) (pe_callTy call_tuple_of (by rfl) T.z_tuple (by decide +kernel) (pa_cons (pe_lc (own := [("_law_at", 6)]) (g := gName 6) (by rfl) sc_law.nd (pi_range1 rfl T.z_range (pa_cons (pv 4) pa_nil)) (blkOk_by (own := [("_law_at", 6)]) (N := n_law) (sc := defScope s_law) (by decide +kernel)) (fun _ _ _ _ _ => (pg_name (i := 6) sc_law.nd rfl (Or.inl rfl))) (fun _ _ _ _ _ => pts_nil) (fun _ _ _ _ _ => (pe_op op_mul (pe_callHas g_law_small (hr.mono (by decide)) rfl (pa_cons (pv 2) pa_nil)) (pe_ix (ix_listK (K := K) rfl) (pe_lst (pa_cons pe_int (pa_cons pe_int (pa_cons pe_int (pa_cons pe_int pa_nil))))) (pe_callHas g_law_take (hr.mono (by decide)) rfl (pa_cons (pv 2) (pa_cons pe_int pa_nil))) (fun _ _ => rfl))))) pa_nil)))
      (pss_cons (ps_set (i := 8) sc_law.nd rfl (Or.inl rfl) (pe_make MD g_factors (hr.mono (by decide)) rfl DL.m bF .nil pass0 (pa_cons (pv 4) (pa_cons (pv 7) (pa_cons (pv 5) pa_nil)))))
      (pss_cons (ps_set (i := 9) sc_law.nd rfl (Or.inl rfl) (pe_op op_cat (pe_lst (pa_cons (pe_fld (pv 8) rfl) pa_nil)) (pe_callTy call_list_of (by rfl) T.z_list (by decide +kernel) (pa_cons (pe_fld (pv 8) rfl) pa_nil))))
      (C8.pss_cut (ps_if (PW.pt (pw_or (pt_cmpR op_ne (pe_callTy (call_strO g_str hsS fnS (hr.mono (by decide)) bS pass0) (by rfl) T.z_str (by decide +kernel) (pa_cons (pv 8) pa_nil)) (pe_callHas g_law_line (hr.mono (by decide)) rfl (pa_cons (pv 9) pa_nil)) (nomark _)) (pw_or1 (PW.pt (pw_and (pt_val (pe_callHas g_law_is_short (hr.mono (by decide)) rfl (pa_cons (pv 9) pa_nil))) (pw_and1 (pt_cmpR (op_neO TD.two g_eq hsE fnE (hr.mono (by decide)) bE pass0) (ClX.pe_cmeth (pe_glob (v := .ref D) rfl DL.m rfl) RD CR g_readX (hr.mono (by decide)) passL (pa_cons (pe_callTy (call_strO g_str hsS fnS (hr.mono (by decide)) bS pass0) (by rfl) T.z_str (by decide +kernel) (pa_cons (pv 8) pa_nil)) pa_nil)) (pv 8) (nomark _)))))))) (pss_one (ps_ret pe_bl)) pss_nil)
      (pss_cons (ps_set (i := 10) sc_law.nd rfl (Or.inl rfl) (pe_callHas g_law_line (hr.mono (by decide)) rfl (pa_cons (pe_op op_cat (pe_lst (pa_cons (pv 7) pa_nil)) (pv 5)) pa_nil)))
      (pss_cons (ps_if (pt_cmpR (op_neO TD.two g_eq hsE fnE (hr.mono (by decide)) bE pass0) (pe_callHas g_law_read (hr.mono (by decide)) rfl (pa_cons (pv 10) pa_nil)) (pv 8) (nomark _)) (pss_one (ps_ret pe_bl)) pss_nil)
      (pss_cons (ps_par (i := 11) (j := 12) (by rfl) sc_law.nd rfl rfl (by decide) rfl rfl (pa_cons (pe_split (pv 10) pe_str) (pa_cons (pe_lst (pa_cons pe_str (pa_cons pe_str (pa_cons pe_str (pa_cons pe_str (pa_cons pe_str (pa_cons pe_str (pa_cons pe_str (pa_cons pe_str pa_nil))))))))) pa_nil)) (by rfl))
      (pss_cons (ps_set (i := 12) sc_law.nd rfl (Or.inl rfl) (pe_op op_cat (pv 12) (pe_lst (pa_cons pe_str (pa_cons pe_str (pa_cons pe_str pa_nil))))))
      (pss_cons (ps_set (i := 6) sc_law.nd rfl (Or.inl rfl) (pe_callHas g_law_take (hr.mono (by decide)) rfl (pa_cons (pv 2) (pa_cons (pe_op op_add (pe_callB call_len (by rfl) T.z_len (by decide +kernel) (pa_cons (pv 11) pa_nil)) pe_int) pa_nil))))
      (pss_cons (ps_set (i := 11) sc_law.nd rfl (Or.inl rfl) (pe_op op_cat (pe_op op_cat (pe_slice sl_list (pv 11) po_none (po_some (pv 6))) (pe_slice sl_list (pe_lst (pa_cons (pe_callHas g_law_pick (hr.mono (by decide)) rfl (pa_cons (pv 2) (pa_cons (pv 12) pa_nil))) pa_nil)) po_none (po_some (pe_callHas g_law_take (hr.mono (by decide)) rfl (pa_cons (pv 2) (pa_cons pe_int pa_nil)))))) (pe_slice sl_list (pv 11) (po_some (pe_op op_add (pv 6) (pe_callHas g_law_take (hr.mono (by decide)) rfl (pa_cons (pv 2) (pa_cons pe_int pa_nil))))) po_none)))
      (pss_cons (ps_set (i := 10) sc_law.nd rfl (Or.inl rfl) (pe_join pe_str (pe_slice sl_list (pv 11) po_none (po_some (pe_op op_sub (pe_callB call_len (by rfl) T.z_len (by decide +kernel) (pa_cons (pv 11) pa_nil)) (pe_callHas g_law_take (hr.mono (by decide)) rfl (pa_cons (pv 2) (pa_cons pe_int pa_nil))))))))
      (pss_cons (ps_set (i := 13) sc_law.nd rfl (Or.inl rfl) (pe_callHas g_law_due (hr.mono (by decide)) rfl (pa_cons (pv 10) pa_nil)))
      (pss_one (ps_if (pt_val (pe_callB call_isi (by rfl) T.z_isinstance (by decide +kernel) (pa_cons (pv 13) (pa_cons (pe_bltn (v := .ty "list") (by rfl) T.z_list (by decide +kernel) rfl) pa_nil)))) (pss_cons (ps_setLc (i := 14) (own := [("_law_row", 16)]) (g := gName 16) (by rfl) sc_law.nd rfl rfl (sw_true rfl rfl rfl (by decide +kernel)) (pi_list (pv 13)) (blkOk_by (own := [("_law_row", 16)]) (N := n_law) (sc := defScope s_law) (by decide +kernel)) (fun _ _ _ _ _ => (pg_name (i := 16) sc_law.nd rfl (Or.inl rfl))) (fun _ _ _ _ _ => pts_nil) (fun _ _ _ _ _ => (pe_callTy (call_tupK (K := K) rfl) (by rfl) T.z_tuple (by decide +kernel) (pa_cons (pv 16) pa_nil))))
      (pss_one (ps_if (pt_cmpR (op_neO TD.two g_eq hsE fnE (hr.mono (by decide)) bE pass0) (pe_callHas g_law_read (hr.mono (by decide)) rfl (pa_cons (pv 10) pa_nil)) (pe_make MD g_factors (hr.mono (by decide)) rfl DL.m bF .nil pass0 (pa_cons (pe_callB call_len (by rfl) T.z_len (by decide +kernel) (pa_cons (pe_ix ix_list (pv 14) pe_int (fun _ _ => rfl)) pa_nil)) (pa_cons (pe_ix ix_list (pv 14) pe_int (fun _ _ => rfl)) (pa_cons (pe_slice sl_list (pv 14) (po_some pe_int) po_none) pa_nil)))) (nomark _)) (pss_one (ps_ret pe_bl)) pss_nil))) (pss_one (ps_if (pt_cmpR op_ne (pe_callB SkE.call_repr_int (by rfl) T.z_repr (by decide +kernel) (pa_cons (pe_callHas g_law_read (hr.mono (by decide)) rfl (pa_cons (pv 10) pa_nil)) pa_nil)) (pe_callB SkE.call_repr_int (by rfl) T.z_repr (by decide +kernel) (pa_cons (pv 13) pa_nil)) (nomark _)) (pss_one (ps_ret pe_bl)) pss_nil)))))))))))))))))))
      (pss_cons (ps_set (i := 15) sc_law.nd rfl (Or.inl rfl) (pe_callHas g_law_pick (hr.mono (by decide)) rfl (pa_cons (pv 2) (pa_cons (pe_lst (pa_cons pe_non (pa_cons pe_int (pa_cons pe_int (pa_cons pe_bl (pa_cons (pe_lst pa_nil) (pa_cons (pe_lst (pa_cons pe_str pa_nil)) (pa_cons (pe_tup (pa_cons pe_str pa_nil)) (pa_cons (pe_un un_neg pe_int) (pa_cons pe_str (pa_cons pe_str (pa_cons pe_str pa_nil)))))))))))) pa_nil))))
      (pss_one (ps_if (pt_cmpR (op_neD hu) (pe_lst (pa_cons (pe_callHas g_law_read (hr.mono (by decide)) rfl (pa_cons (pv 15) pa_nil)) (pa_cons (pe_callHas g_law_read (hr.mono (by decide)) rfl (pa_cons pe_str pa_nil)) (pa_cons (pe_callHas g_law_read (hr.mono (by decide)) rfl (pa_cons pe_str pa_nil)) pa_nil)))) (pe_lst (pa_cons pe_int (pa_cons pe_int (pa_cons pe_int pa_nil)))) (nomark _)) (pss_one (ps_ret pe_bl)) pss_nil))))))
      (pss_one (ps_ret (pe_and (pe_cmpR op_eq (pe_callTy (call_strO g_str hsS fnS (hr.mono (by decide)) bS pass0) (by rfl) T.z_str (by decide +kernel) (pa_cons (pe_make MD g_factors (hr.mono (by decide)) rfl DL.m bF1 vF1 pass0 (pa_cons pe_int pa_nil)) pa_nil)) pe_str (nomark _)) (pe_one (pe_cmpR (op_cmpO (op := .Eq) (nm := "__eq__") rfl (fun _ _ => rfl) g_eq hsE fnE (hr.mono (by decide)) bE pass0) (ClX.pe_cmeth (pe_glob (v := .ref D) rfl DL.m rfl) RD CR g_readX (hr.mono (by decide)) passL (pa_cons pe_str pa_nil)) (pe_make MD g_factors (hr.mono (by decide)) rfl DL.m bF2 vF2 pass0 (pa_cons pe_int (pa_cons (pe_tup (pa_cons pe_int pa_nil)) pa_nil))) (nomark _))))))), ?_⟩
  have hlen' : (((ns.map V.int).length : Nat) : Int) ≤ 63 := by rw [List.length_map]; omega
  refine ⟨_, rfl, _, _, rfl, .inl ⟨_, hS, rfl⟩, _, _, rfl, _, _, rfl, ?_⟩
  have hN : ∀ m : Int, 0 ≤ m → ∃ N : Int, (if (if m < 3 then m else 3) > 1 then (if m < 3 then m else 3) else 1) = N ∧ 0 ≤ N ∧ N ≤ 3 := fun m hm => ⟨_, rfl, by split <;> (try split) <;> omega, by split <;> (try split) <;> omega⟩
  obtain ⟨N, eN, N0, N3⟩ := hN (((ns.map V.int).length : Nat) : Int) (Int.natCast_nonneg _)
  refine ⟨N, by rw [← eN], by omega, by omega, for_range (lo := 0) (n := N.toNat) (fun i σ H' => Same H H' ∧ ∃ x1 x2 x3 x4 x5 x6 x7 x8 x9 x10 x11 x12 x13 x14 x15 x16, σ = [some (.ref a), x1, x2, x3, x4, x5, x6, x7, x8, x9, x10, x11, x12, x13, x14, x15, x16]) ⟨Same.refl _, _, _, _, _, _, _, _, _, _, _, _, _, _, _, _, _, rfl⟩ ?_ ?_⟩
  · rintro i σ H1 hi ⟨s1, x1, x2, x3, x4, x5, x6, x7, x8, x9, x10, x11, x12, x13, x14, x15, x16, rfl⟩
    refine ⟨_, rfl, _, rfl, a, ns, _, _, rfl, s1.seq hS, by omega, by omega, by decide, by decide, fun H2 b s2 hb0 hbox => ?_⟩
    refine ⟨5, rfl, by decide, by decide, for_range (lo := 0) (n := 5) (fun j σ H' => But b H2 H' ∧ Box H' b ∧ ∃ x3 x4 x5 x6 x7 x8 x9 x10 x11 x12 x13 x14 x15 x16, σ = [some (.ref a), some (.int (0 + ((i : Nat) : Int))), some (.ref b), x3, x4, x5, x6, x7, x8, x9, x10, x11, x12, x13, x14, x15, x16]) ⟨fun _ _ _ z => z, hbox, _, _, _, _, _, _, _, _, _, _, _, _, _, _, rfl⟩ ?_ ?_⟩
    · rintro j σ H3 hj ⟨bu3, hb3, x3, x4, x5, x6, x7, x8, x9, x10, x11, x12, x13, x14, x15, x16, rfl⟩
      refine ⟨_, rfl, b, 5, rfl, hb3, by decide, by decide, fun d u1 u2 u3 d0 d1 => ⟨_, _, rfl, rfl, ?_⟩⟩
      obtain ⟨n, en, n1, n5⟩ : ∃ n : Nat, (1 + d : Int) = ((n : Nat) : Int) ∧ 1 ≤ n ∧ n ≤ 5 := ⟨(1 + d).toNat, by omega, by omega, by omega⟩
      show gName 4 (V.int (1 + d)) _ _ _
      rw [en]
      have hb4 : Box (upd H3 b (.lst [.int u1, .int u2, .int u3])) b := Box.upd'
      have bu4 : But b H3 (upd H3 b (.lst [.int u1, .int u2, .int u3])) := But.upd'
      generalize upd H3 b (.lst [.int u1, .int u2, .int u3]) = H4 at hb4 bu4 ⊢
      -- the rows
      refine ⟨_, rfl, _, rfl, _, rfl, b, 5, rfl, hb4, by decide, by decide, fun e v1 v2 v3 e0 e1 => ?_⟩
      obtain ⟨m, rfl⟩ : ∃ m : Nat, e = ((m : Nat) : Int) := ⟨e.toNat, by omega⟩
      refine ⟨b, n, m, rfl, Box.upd', n1, by omega, by omega, fun H5 l as rs nlb fresh bu5 hb5 hl hrs lrs wrs => ?_⟩
      have good : ∀ r ∈ rs, r.length = n ∧ Within 44 r := fun r hr' => ⟨hrs.2 r hr', fun x hx => by have := wrs r hr' x hx; omega⟩
      have m5 : rs.length ≤ 4 := by omega
      have bu25 : But b H2 H5 := bu3.trans (bu4.trans (But.upd'.trans bu5))
      clear bu3 bu4 bu5 hb3 hb4
      -- the point
      refine ⟨_, rfl, ((n : Nat) : Int), rfl, by omega, by omega, fun D1 hD1 => lc_range (lo := 0) (n := n) (fun t H' => (∀ y o, y ≠ b → y ≠ D1 → H5 y = some o → H' y = some o) ∧ Box H' b ∧ ∃ g : Vec, H' D1 = some (.lst (g.map V.int)) ∧ g.length = t ∧ Within 400000000 g) ?_ ?_ ?_⟩
      · exact ⟨fun y o _ nD z => by rw [upd_ne nD]; exact z, hb5.new hD1, [], upd_same, rfl, fun y hy => nomatch hy⟩
      · rintro t H' ht ⟨kp, hb', g, hD', lg, wg⟩
        refine ⟨rfl, ?_⟩
        refine ⟨_, rfl, b, rfl, hb', fun H6 d1 bu' hb6 d2 d3 => ⟨(by decide : 4 ≤ sizeLine), fun q hq => ?_⟩⟩
        have hb7 := hb6.new (o := .lst [.int 1, .int 7, .int 1000, .int 99999999]) hq
        have nqb : q ≠ b := hb6.ne hq
        obtain ⟨s7, hq7⟩ := new_at (o := .lst [.int 1, .int 7, .int 1000, .int 99999999]) hq
        refine ⟨_, rfl, b, 4, rfl, hb7, by decide, by decide, fun e u1 u2 u3 e0 e1 => ?_⟩
        obtain ⟨z, ez, z0, z1⟩ : ∃ z : Int, atI [V.int 1, V.int 7, V.int 1000, V.int 99999999] e = some (V.int z) ∧ 0 ≤ z ∧ z ≤ 99999999 := by
          have : e = 0 ∨ e = 1 ∨ e = 2 ∨ e = 3 := by omega
          rcases this with r | r | r | r <;> subst r
          · exact ⟨1, by decide +kernel, by decide, by decide⟩
          · exact ⟨7, by decide +kernel, by decide, by decide⟩
          · exact ⟨1000, by decide +kernel, by decide, by decide⟩
          · exact ⟨99999999, by decide +kernel, by decide, by decide⟩
        refine ⟨q, _, _, _, rfl, rfl, SqL.of ((upd_ne nqb).trans hq7), ez, ?_⟩
        refine ⟨_, _, rfl, rfl, .inl ⟨by omega, by omega⟩, ?_⟩
        have zz : -400000000 ≤ d1 * z ∧ d1 * z ≤ 400000000 := by
          have a1 := Int.mul_le_mul_of_nonneg_right (show d1 ≤ 4 by omega) z0
          have a2 := Int.mul_le_mul_of_nonneg_right (show -4 ≤ d1 by omega) z0
          omega
        have nDb := hb5.ne hD1
        have nDq : D1 ≠ q := ne_of_none (bu' _ _ nDb hD') hq
        refine ⟨_, (upd_ne nDb).trans (s7 _ _ (bu' _ _ nDb hD')), by rw [List.length_map, lg]; exact Nat.lt_of_lt_of_le ht (Nat.le_trans n5 (by decide)), fun y o nb nD w => ?_, ?_, g ++ [d1 * z], ?_, by rw [List.length_append, lg]; rfl, ?_⟩
        · have w6 := bu' _ _ nb (kp y o nb nD w)
          rw [upd_ne nD, upd_ne nb]; exact s7 _ _ w6
        · exact ⟨u1, u2, u3, by rw [upd_ne nDb.symm, upd_same]⟩
        · rw [upd_same, List.map_append]; rfl
        · intro y hy
          rcases List.mem_append.mp hy with hy | hy
          · exact wg y hy
          · rw [List.mem_singleton.mp hy]; exact zz
      rintro H8 ⟨kp8, hb8, pt, hD8, lp, wp⟩
      have bu58 : But b H5 H8 := fun y o nb z => kp8 y o nb (ne_of_none z hD1) z
      refine ⟨_, _, rfl, .inl ⟨SqL.of hD8, fun p hp => ?_⟩⟩
      obtain ⟨s9, hp9⟩ := new_at (o := .tup (pt.map V.int)) hp
      have bu59 := bu58.trans (Same.but s9)
      have hb9 := hb8.keep s9
      have hl9 := bu59 _ _ nlb hl
      have hrs9 := hrs.but hb5 bu59
      have bu29 := bu25.trans bu59
      generalize upd H8 p (HO.tup (pt.map V.int)) = H9 at *
      have fx := facts11 n1 n5 (by omega) good lp wp
      clear bu58 bu59 bu25 kp8 hb8 hD8 hrs hl hb5
      -- made
      refine ⟨_, rfl, _, rfl, _, rfl, fun x dx hx hdx ndx => ?_⟩
      have so : Same H9 (upd (upd H9 dx (.own x)) x (.ins D dx [])) := fun z o h => by
        rw [upd_ne (ne_of_none h hx), upd_ne (ne_of_none h hdx)]; exact h
      refine ⟨x, dx, l, n, .ref p, some pt, as, rs, rfl, upd_same, n1, by omega, by omega, .inl (so _ _ hl9), hrs9.keep so, fx.ok, ⟨p, rfl, so _ _ hp9, lp⟩, (fun v e => by cases e; exact fx.red), fun H10 kp10 fac => ⟨rfl, ?_⟩⟩
      have s10 : Same H9 H10 := fun z o h => kp10 z o (ne_of_none h hx) (so _ _ h)
      have bu210 := bu29.trans (Same.but s10)
      have hb10 := hb9.keep s10
      have hl10 := s10 _ _ hl9
      have hrs10 := hrs9.keep s10
      have hp10 := s10 _ _ hp9
      clear hl9 hrs9 hb9 hp9 bu29 so kp10 hx hdx s10
      obtain ⟨dx0, bb, w0, os, ox, hbb, hos, hpt⟩ := id fac
      obtain ⟨ap, rfl, hap, lp'⟩ := id (show PtAt H10 n w0 (some (redV (grows [] rs) pt)) from hpt)
      have hos' : Rows H10 n os (grows [] rs) := hos
      have los : os.length = (grows [] rs).length := hos'.len
      -- told
      refine ⟨_, rfl, x, D, dx0, _, _, rfl, ox, DL.cl, DL.nP, ff_point _ _ _, (by decide : 1 ≤ sizeLine), fun z1 hz1 => ?_⟩
      obtain ⟨s11, hz11⟩ := new_at (o := .lst [V.ref ap]) hz1
      refine ⟨_, rfl, x, D, dx0, _, _, rfl, s11 _ _ ox, DL.cl, DL.nB, ff_basis _ _ _, bb, os, rfl, .inr (SqT.of (s11 _ _ hbb)), fun z2 hz2 => ?_⟩
      obtain ⟨s12, hz12⟩ := new_at (o := .lst os) hz2
      refine ⟨z1, z2, [V.ref ap], os, rfl, rfl, s12 _ _ hz11, hz12, Nat.le_trans (show 1 + os.length ≤ 6 by have := fx.cB; omega) (by decide), fun z3 hz3 => ?_⟩
      obtain ⟨s13, hz13⟩ := new_at (o := .lst ([V.ref ap] ++ os)) hz3
      have s1013 := s11.trans (s12.trans s13)
      have fac13 : FacAt D _ x n (some (redV (grows [] rs) pt)) (grows [] rs) := fac.keep s1013
      have ox13 := s1013 _ _ ox
      have told : Rows (upd (upd (upd H10 z1 (.lst [V.ref ap])) z2 (.lst os)) z3 (.lst ([V.ref ap] ++ os))) n ([V.ref ap] ++ os) (redV (grows [] rs) pt :: grows [] rs) := ⟨.cons ⟨ap, rfl, s1013 _ _ hap⟩ (hos'.keep s1013).1, fun v hv => (List.mem_cons.mp hv).elim (fun e => e ▸ fx.lp) (fx.lB v)⟩
      generalize upd (upd (upd H10 z1 (.lst [V.ref ap])) z2 (.lst os)) z3 (.lst ([V.ref ap] ++ os)) = H13 at *
      replace bu210 := bu210.trans (Same.but s1013)
      replace hb10 := hb10.keep s1013
      replace hl10 := s1013 _ _ hl10
      replace hrs10 := hrs10.keep s1013
      replace hp10 := s1013 _ _ hp10
      clear s11 s12 s13 hz1 hz11 hz2 hz12 hz3 hap hbb hos hos' hpt ox fac s1013
      have numT : ∀ v ∈ redV (grows [] rs) pt :: grows [] rs, Num1 v := fun v hv => (List.mem_cons.mp hv).elim (fun e => e ▸ fx.np) (fx.nB v)
      refine ⟨fun σ' H' => Same H13 H' ∧ σ' = [some (.ref a), some (.int (0 + ((i : Nat) : Int))), some (.ref b), some (.int (0 + ((j : Nat) : Int))), some (.int ((n : Nat) : Int)), some (.ref l), x6, some (.ref p), some (.ref x), some (.ref z3), x10, x11, x12, x13, x14, x15, x16], ?_, ?_⟩
      · have cB := fx.cB
        refine ⟨_, rfl, x, dx0, _, rfl, ox13, x, n, _, _, rfl, fac13, by omega, by omega, (fun q hq m hm => by cases hq; exact fx.np m hm), fx.nB, fun H14 s14 => ⟨_, rfl, ?_⟩⟩
        refine ⟨_, rfl, z3, [V.ref ap] ++ os, n, _, rfl, s14 _ _ hz13, told.keep s14, by omega, (by rw [List.length_cons]; omega), numT, fun H15 s15 => ⟨rfl, ?_⟩⟩
        refine ⟨_, rfl, iteSf (by rw [show textO (some (redV (grows [] rs) pt)) (grows [] rs) = Txt.join (Str.ofString " + ") ((redV (grows [] rs) pt :: grows [] rs).map wS) from rfl, decide_eq_true rfl]; rfl) ?_⟩
        have s1315 := s14.trans s15
        refine ⟨_, rfl, z3, [V.ref ap] ++ os, n, _, rfl, s1315 _ _ hz13, told.keep s1315, by omega, fun H16 s16 => ⟨_, rfl, ?_⟩⟩
        have s1316 := s1315.trans s16
        cases hsh : shortB (redV (grows [] rs) pt :: grows [] rs) with
        | false => exact iteSf rfl (iteSf rfl ⟨s1316, rfl⟩)
        | true =>
          refine iteSe rfl ?_
          have sh : ∀ v ∈ redV (grows [] rs) pt :: grows [] rs, ∀ i ∈ v, i.natAbs < 1000000000 := fun v hv i hi => of_decide_eq_true (List.all_eq_true.mp (List.all_eq_true.mp hsh v hv) i hi)
          have W := words11 n1 n5 fx.lp fx.lB (by omega) sh
          have lt := text_len11 n5 (p := redV (grows [] rs) pt) (B := grows [] rs) (by omega) fun v hv => ⟨told.2 v hv, numT v hv⟩
          refine ⟨rfl, _, rfl, x, dx0, _, rfl, s1316 _ _ ox13, x, n, _, _, rfl, fac13.keep s1316, by omega, by omega, (fun q hq m hm => by cases hq; exact fx.np m hm), fx.nB, fun H17 s17 => ⟨_, rfl, ?_⟩⟩
          have W36 := W.small (show (redV (grows [] rs) pt).length ≤ 5 by have := fx.lp; omega) (k := 5) (by omega)
          refine ⟨_, rfl, .inr ⟨_, _, rfl, W.sp, lt, W.ne, by omega, W.nine, (fun k hk => by rw [W.rd] at hk; cases hk), fun p' B' hR => ?_⟩⟩
          rw [W.rd] at hR
          cases hR
          refine ⟨fx.okB, (by rw [fx.same]; exact fx.redp), fun H18 xr s18 fr => ?_⟩
          rw [fx.same, fx.idem, fx.lp] at fr
          have s1318 := s1316.trans (s17.trans s18)
          exact ⟨_, rfl, ne_same fr (fac13.keep s1318) ⟨_, rfl, iteSf rfl ⟨s1318, rfl⟩⟩⟩
      rintro σ' H14 ⟨s14, rfl⟩
      replace bu210 := bu210.trans (Same.but s14)
      replace hb10 := hb10.keep s14
      replace hl10 := s14 _ _ hl10
      replace hrs10 := hrs10.keep s14
      replace hp10 := s14 _ _ hp10
      replace fac13 := fac13.keep s14
      clear told hz13 s14 ox13 numT
      -- the line
      refine ⟨_, rfl, (by decide : 1 ≤ sizeLine), fun y1 hy1 => ?_⟩
      obtain ⟨s15, hy15⟩ := new_at (o := .lst [V.ref p]) hy1
      have las : as.length = rs.length := hrs10.len
      refine ⟨_, rfl, y1, l, [V.ref p], as, rfl, rfl, hy15, s15 _ _ hl10, Nat.le_trans (show 1 + as.length ≤ 6 by omega) (by decide), fun y2 hy2 => ?_⟩
      obtain ⟨s16, hy16⟩ := new_at (o := .lst ([V.ref p] ++ as)) hy2
      have s1416 := s15.trans s16
      have sh : ∀ v ∈ pt :: rs, ∀ i ∈ v, i.natAbs < 1000000000 := fun v hv i hi => by
        rcases List.mem_cons.mp hv with rfl | hv
        · have := wp i hi; omega
        · have := (good v hv).2 i hi; omega
      have lv : ∀ v ∈ pt :: rs, v.length = n := fun v hv => (List.mem_cons.mp hv).elim (fun e => e ▸ lp) fun h => (good v h).1
      refine ⟨y2, [V.ref p] ++ as, n, pt :: rs, rfl, hy16, ⟨.cons ⟨p, rfl, s1416 _ _ hp10⟩ (hrs10.keep s1416).1, lv⟩, by omega, (by rw [List.length_cons]; omega), (fun v hv i hi => log_small (sh v hv i hi)), fun H17 s17 => ?_⟩
      have W := words11 n1 n5 lp (fun v hv => (good v hv).1) (by omega) sh
      have lt := text_len11 n5 (p := pt) (B := rs) (by omega) fun v hv => ⟨lv v hv, fun i hi => log_small (sh v hv i hi)⟩
      rw [show Txt.join (Str.ofString " + ") ((pt :: rs).map wS) = L2.RD.textP pt rs from rfl]
      have s1417 := s1416.trans s17
      have W30 := W.small (show pt.length ≤ 5 by omega) (k := 4) (by omega)
      refine ⟨_, rfl, .str _, rfl, .inr ⟨_, _, rfl, W.sp, lt, W.ne, by omega, W.nine, (fun k hk => by rw [W.rd] at hk; cases hk), fun p' B' hR => ?_⟩⟩
      rw [W.rd] at hR
      cases hR
      refine ⟨fx.ok, fx.red, fun H18 xr s18 fr => ?_⟩
      rw [lp] at fr
      refine ⟨_, rfl, ne_same fr (fac13.keep (s1417.trans s18)) ⟨_, rfl, iteSf rfl ?_⟩⟩
      have s1418 := s1417.trans s18
      replace bu210 := bu210.trans (Same.but s1418)
      replace hb10 := hb10.keep s1418
      clear fr s18 s1417 s15 s16 s1416 hy1 hy15 hy2 hy16 hl10 hrs10 hp10 fac13
      -- the words
      refine ⟨_, rfl, ⟨_, rfl⟩, _, _, rfl, rfl, by decide +kernel, Nat.le_trans (Nat.add_le_add_right lt 2) (by decide), fun c hc => ?_⟩
      rw [W.sp]
      generalize hWW : (L2.RD.wds pt rs).map L2.RD.Wd.up = WW at W W30
      obtain ⟨s19, hc19⟩ := new_at (o := .lst ((WW.map L2.RD.Wx.txt).map V.str)) hc
      refine ⟨by decide, fun o1 ho1 => ?_⟩
      obtain ⟨s20, ho20⟩ := new_at (o := .lst [V.str "+", V.str "0", V.str "-3", V.str "07", V.str "-0", V.str "", V.str "1000000000", V.str "999999999"]) ho1
      refine ⟨_, _, rfl, ?_⟩
      refine ⟨_, rfl, by decide, fun o2 ho2 => ?_⟩
      obtain ⟨s21, ho21⟩ := new_at (o := .lst [V.str "x", V.str "--1", V.str "none"]) ho2
      refine ⟨o1, o2, _, _, rfl, rfl, s21 _ _ ho20, ho21, by decide, fun o3 ho3 => ?_⟩
      obtain ⟨s22, ho22⟩ := new_at (o := .lst ([V.str "+", V.str "0", V.str "-3", V.str "07", V.str "-0", V.str "", V.str "1000000000", V.str "999999999"] ++ [V.str "x", V.str "--1", V.str "none"])) ho3
      rw [odd11_V] at ho22 s22 ⊢
      have s1822 := s19.trans (s20.trans (s21.trans s22))
      have hc22 := s22 _ _ (s21 _ _ (s20 _ _ hc19))
      replace bu210 := bu210.trans (Same.but s1822)
      have ncb : c ≠ b := hb10.ne hc
      have nob : o3 ≠ b := (hb10.keep (s19.trans (s20.trans s21))).ne ho3
      replace hb10 := hb10.keep s1822
      clear s19 s20 s21 s22 s1822 hc19 ho20 ho21 hc ho1 ho2 ho3
      generalize upd (upd (upd (upd H18 c _) o1 _) o2 _) o3 _ = H22 at *
      have nWW : ((WW.map L2.RD.Wx.txt).map V.str).length = WW.length := by rw [List.length_map, List.length_map]
      refine ⟨_, rfl, _, rfl, _, _, rfl, .inl ⟨_, SqL.of hc22, rfl⟩, _, _, rfl, rfl, b, _, rfl, hb10, by omega, by rw [nWW]; omega, fun at0 u1 u2 u3 a0 a1 => ?_⟩
      obtain ⟨t, rfl⟩ : ∃ t : Nat, at0 = ((t : Nat) : Int) := ⟨at0.toNat, by omega⟩
      have hb23 : Box (upd H22 b (.lst [.int u1, .int u2, .int u3])) b := Box.upd'
      have hc23 : upd H22 b (.lst [.int u1, .int u2, .int u3]) c = _ := (upd_ne ncb).trans hc22
      have ho23 : upd H22 b (.lst [.int u1, .int u2, .int u3]) o3 = _ := (upd_ne nob).trans ho22
      replace bu210 := bu210.trans (But.upd' (o := .lst [.int u1, .int u2, .int u3]))
      generalize upd H22 b (.lst [.int u1, .int u2, .int u3]) = H23 at hb23 hc23 ho23 bu210 ⊢
      clear hc22 ho22 hb10
      -- one word otherwise
      refine ⟨_, rfl, _, rfl, _, rfl, c, _, rfl, SqL.of hc23, fun q1 hq1 => ?_⟩
      obtain ⟨M1, sub1, eM1⟩ := cut_sub WW none (some ((t : Nat) : Int))
      rw [eM1] at *
      obtain ⟨s24, hq24⟩ := new_at (o := .lst ((M1.map L2.RD.Wx.txt).map V.str)) hq1
      have nq1 : q1 ≠ b := hb23.ne hq1
      refine ⟨_, rfl, _, rfl, b, o3, _, rfl, hb23.keep s24, s24 _ _ ho23, nob, by decide, by decide, fun k0 v0 w1 w2 w3 ek => ?_⟩
      obtain ⟨wo, ewo, rfl⟩ : ∃ wo, odd11[k0]? = some wo ∧ v0 = V.str wo.txt := by
        rw [List.getElem?_map, List.getElem?_map] at ek
        cases h : odd11[k0]? with
        | none => rw [h] at ek; cases ek
        | some wo => rw [h] at ek; cases ek; exact ⟨wo, rfl, rfl⟩
      refine ⟨(by decide : 1 ≤ sizeLine), fun q2 hq2 => ?_⟩
      have hb24 : Box (upd (upd H23 q1 (.lst ((M1.map L2.RD.Wx.txt).map V.str))) b (.lst [.int w1, .int w2, .int w3])) b := Box.upd'
      have bu24 : But b H23 (upd (upd H23 q1 (.lst ((M1.map L2.RD.Wx.txt).map V.str))) b (.lst [.int w1, .int w2, .int w3])) := (Same.but s24).trans But.upd'
      have hq1' : upd (upd H23 q1 (.lst ((M1.map L2.RD.Wx.txt).map V.str))) b (.lst [.int w1, .int w2, .int w3]) q1 = _ := (upd_ne nq1).trans hq24
      generalize upd (upd H23 q1 (.lst ((M1.map L2.RD.Wx.txt).map V.str))) b (.lst [.int w1, .int w2, .int w3]) = H24 at *
      obtain ⟨s25, hq25⟩ := new_at (o := .lst [V.str wo.txt]) hq2
      have nq2 : q2 ≠ b := hb24.ne hq2
      refine ⟨_, rfl, b, 3, rfl, hb24.keep s25, by decide, by decide, fun d2 w4 w5 w6 d20 d21 => ?_⟩
      have hb26 : Box (upd (upd H24 q2 (.lst [V.str wo.txt])) b (.lst [.int w4, .int w5, .int w6])) b := Box.upd'
      have bu26 : But b H24 (upd (upd H24 q2 (.lst [V.str wo.txt])) b (.lst [.int w4, .int w5, .int w6])) := (Same.but s25).trans But.upd'
      have hq2' : upd (upd H24 q2 (.lst [V.str wo.txt])) b (.lst [.int w4, .int w5, .int w6]) q2 = _ := (upd_ne nq2).trans hq25
      generalize upd (upd H24 q2 (.lst [V.str wo.txt])) b (.lst [.int w4, .int w5, .int w6]) = H26 at *
      refine ⟨_, rfl, q2, _, rfl, SqL.of hq2', fun q3 hq3 => ?_⟩
      obtain ⟨M2, sub2, eM2⟩ := cut_sub [wo] none (some d2)
      rw [show cutV [V.str wo.txt] none (some d2) = _ from eM2] at *
      obtain ⟨s27, hq27⟩ := new_at (o := .lst ((M2.map L2.RD.Wx.txt).map V.str)) hq3
      have lM1 : M1.length ≤ 29 := Nat.le_trans sub1.length_le (by omega)
      have lM2 : M2.length ≤ 1 := sub2.length_le
      refine ⟨q1, q3, _, _, rfl, rfl, s27 _ _ (bu26 _ _ nq1 hq1'), hq27, Nat.le_trans (show _ ≤ 30 by rw [List.length_map, List.length_map, List.length_map, List.length_map]; omega) (by decide), fun q4 hq4 => ?_⟩
      obtain ⟨s28, hq28⟩ := new_at (o := .lst ((M1.map L2.RD.Wx.txt).map V.str ++ (M2.map L2.RD.Wx.txt).map V.str)) hq4
      have s2628 := s27.trans s28
      have nq4 : q4 ≠ b := (hb26.keep s27).ne hq4
      have hb28 := hb26.keep s2628
      have hc28 := s2628 _ _ (bu26 _ _ ncb (bu24 _ _ ncb hc23))
      replace bu210 := (bu210.trans (bu24.trans bu26)).trans (Same.but s2628)
      rw [← List.map_append, ← List.map_append] at *
      generalize upd (upd H26 q3 _) q4 _ = H28 at *
      clear s27 s28 s2628 hq27 hq3 hq4 hq1' hq2' bu26 bu24 hb26 hb24 hq25 hq2 s25 hq24 hq1 s24
      refine ⟨_, rfl, _, rfl, _, rfl, b, 2, rfl, hb28, by decide, by decide, fun d3 w7 w8 w9 d30 d31 => ⟨_, _, rfl, rfl, ?_⟩⟩
      have hb29 : Box (upd H28 b (.lst [.int w7, .int w8, .int w9])) b := Box.upd'
      have hc29 : upd H28 b (.lst [.int w7, .int w8, .int w9]) c = _ := (upd_ne ncb).trans hc28
      have hq29 : upd H28 b (.lst [.int w7, .int w8, .int w9]) q4 = _ := (upd_ne nq4).trans hq28
      replace bu210 := bu210.trans (But.upd' (o := .lst [.int w7, .int w8, .int w9]))
      generalize upd H28 b (.lst [.int w7, .int w8, .int w9]) = H29 at hb29 hc29 hq29 bu210 ⊢
      refine ⟨_, rfl, c, _, rfl, SqL.of hc29, fun q5 hq5 => ?_⟩
      obtain ⟨M3, sub3, eM3⟩ := cut_sub WW (some (((t : Nat) : Int) + d3)) none
      rw [eM3] at *
      obtain ⟨s30, hq30⟩ := new_at (o := .lst ((M3.map L2.RD.Wx.txt).map V.str)) hq5
      have lM3 : M3.length ≤ 29 := Nat.le_trans sub3.length_le (by omega)
      refine ⟨q4, q5, _, _, rfl, rfl, s30 _ _ hq29, hq30, Nat.le_trans (show _ ≤ 59 by rw [List.length_map, List.length_map, List.length_map, List.length_map, List.length_append]; omega) (by decide), fun q6 hq6 => ?_⟩
      rw [← List.map_append, ← List.map_append] at *
      obtain ⟨s31, hq31⟩ := new_at (o := .lst (((M1 ++ M2 ++ M3).map L2.RD.Wx.txt).map V.str)) hq6
      have nq6 : q6 ≠ b := (hb29.keep s30).ne hq6
      have s2931 := s30.trans s31
      replace bu210 := bu210.trans (Same.but s2931)
      have hb31 := hb29.keep s2931
      have LW : L11 29 4 WW := ⟨by omega, W.nine, W.num, by rw [W.cnt]; exact m5⟩
      have LO : L11 1 1 [wo] := ⟨Nat.le_refl _, (fun w hw => by rw [List.mem_singleton.mp hw]; exact (odd11_ok wo (List.mem_of_getElem? ewo)).1), (fun i hi => (odd11_ok wo (List.mem_of_getElem? ewo)).2 i (List.mem_singleton.mp hi).symm), List.countP_le_length⟩
      have LL3 := ((LW.sub sub1).app (LO.sub sub2)).app (LW.sub sub3)
      generalize M1 ++ M2 ++ M3 = MM at *
      generalize upd (upd H29 q5 _) q6 _ = H31 at *
      clear s30 s31 s2931 hq30 hq5 hq6 hc29 hq29 hb29 hc28 hq28 hb28 lM1 lM2 lM3 sub1 sub2 sub3 eM1 eM2 eM3
      -- the line
      refine ⟨⟨_, rfl⟩, _, rfl, _, rfl, _, _, rfl, .inl ⟨_, SqL.of hq31, rfl⟩, _, rfl, b, 2, rfl, hb31, by decide, by decide, fun d4 w1 w2 w3 d40 d41 => ⟨_, _, rfl, rfl, ?_⟩⟩
      have hb32 : Box (upd H31 b (.lst [.int w1, .int w2, .int w3])) b := Box.upd'
      have hq32 : upd H31 b (.lst [.int w1, .int w2, .int w3]) q6 = _ := (upd_ne nq6).trans hq31
      replace bu210 := bu210.trans (But.upd' (o := .lst [.int w1, .int w2, .int w3]))
      generalize upd H31 b (.lst [.int w1, .int w2, .int w3]) = H32 at hb32 hq32 bu210 ⊢
      refine ⟨_, rfl, q6, _, rfl, SqL.of hq32, fun q7 hq7 => ?_⟩
      obtain ⟨M4, sub4, eM4⟩ := cut_sub MM none (some (((((MM.map L2.RD.Wx.txt).map V.str).length : Nat) : Int) - d4))
      rw [eM4] at *
      obtain ⟨s33, hq33⟩ := new_at (o := .lst ((M4.map L2.RD.Wx.txt).map V.str)) hq7
      have LL4 := LL3.sub sub4
      obtain ⟨ll, lsum, us, une, LU, esp⟩ := line11 LL4 (by decide) (by decide)
      refine ⟨_, q7, _, rfl, rfl, .inl (SqL.of hq33), lsum, ?_⟩
      generalize Txt.join (Str.ofString " ") (M4.map L2.RD.Wx.txt) = line at ll esp ⊢
      replace bu210 := bu210.trans (Same.but s33)
      replace hb32 := hb32.keep s33
      clear hq32 hq31 hb31 s33 hq33 LL3 LL4 sub4 eM4
      have u59 := LU.len
      have readL : ∀ p' B', L2.RD.reads us = .inr (p' :: B') → OkGrows [] B' ∧ OkRed (grows [] B') p' := fun p' B' hR => read_ok une hR (by omega) (by have := LU.cnt; omega) LU.num
      refine ⟨_, rfl, line, us, rfl, esp, by omega, une, by omega, LU.nine, fun k1 hk1 H33 s33 => ?_, fun R hR H33 r As s33 hr0 lAs hAs => ?_⟩
      · have lk : ((k1 : Nat) : Int).natAbs.log2 < 1920 := log_small (by have := L2.RD.reads_le hk1; omega)
        refine ⟨_, rfl, _, _, _, _, false, rfl, .ty _, .base (.int _), kit_ty (by decide +kernel), _, rfl, iteSf rfl ?_⟩
        refine ⟨_, rfl, .str line, rfl, .inr ⟨line, us, rfl, esp, by omega, une, by omega, LU.nine, fun k2 hk2 H34 s34 => ?_, (fun p' B' hR => by rw [hk1] at hR; cases hR)⟩⟩
        rw [hk1] at hk2
        cases hk2
        refine ⟨_, rfl, lk, _, rfl, _, rfl, lk, rfl, _, rfl, iteSf (by rw [decide_eq_true rfl]; rfl) ?_⟩
        exact ⟨bu210.trans (Same.but (s33.trans s34)), hb32.keep (s33.trans s34), _, _, _, _, _, _, _, _, _, _, _, _, _, _, rfl⟩
      · obtain ⟨p', B', rfl, p0, lB'⟩ := L2.RD.reads_rows une hR
        refine ⟨_, rfl, _, _, _, _, true, rfl, .ty _, .base (.lst hr0), kit_ty (by decide +kernel), _, rfl, iteSe rfl ?_⟩
        refine ⟨_, rfl, r, rfl, ⟨_, SqL.of hr0⟩, fun D5 hD5 => lc_it (walk_list (xs := As.map V.ref)) (fun t H' => Same H33 H' ∧ ∃ us : List V, H' D5 = some (.lst us) ∧ Paired (fun x v => ∃ a, x = V.ref a ∧ IsV H' a v) us ((p' :: B').take t) ∧ us.length = ((p' :: B').take t).length) ⟨(new_at hD5).1, [], upd_same, .nil, rfl⟩ (fun t H' _ z => SqL.of (z.1 _ _ hr0)) ?_ ?_⟩
        · rintro t9 yv H' H'' ht ⟨sm, vs9, hD', hvs, lvs⟩ ⟨rfl, ey⟩
          rw [List.getElem?_map] at ey
          obtain ⟨bq, ebq, rfl⟩ := Option.map_eq_some_iff.mp ey
          have ib : t9 < (p' :: B').length := by rw [← lAs]; exact (List.getElem?_eq_some_iff.mp ebq).1
          have ev := List.getElem?_eq_getElem ib
          generalize (p' :: B')[t9] = v at ev
          have hv := sm _ _ (hAs t9 bq v ebq ev)
          refine ⟨rfl, ?_⟩
          refine ⟨_, rfl, _, _, rfl, .inl ⟨SqL.of hv, fun q9 hq9 => ?_⟩⟩
          obtain ⟨s9', hq9'⟩ := new_at (o := .tup (v.map V.int)) hq9
          have hD9 := s9' _ _ hD'
          have g9 := (L2.RD.reads_grown hR).1
          refine ⟨_, hD9, ?_, fun y o w => by rw [upd_ne (ne_of_none w hD5)]; exact s9' _ _ (sm _ _ w), vs9 ++ [.ref q9], upd_same, ?_, ?_⟩
          · rw [lvs, List.length_take]
            exact Nat.lt_of_le_of_lt (Nat.le_trans (Nat.min_le_right _ _) (show (p' :: B').length ≤ 10 by have := LU.cnt; omega)) (by decide)
          · rw [List.take_add_one, ev]
            have kp : ∀ (x : V) (u : Vec), (∃ a, x = V.ref a ∧ IsV H'' a u) → ∃ a, x = V.ref a ∧ IsV (upd (upd H'' q9 (.tup (v.map V.int))) D5 (.lst (vs9 ++ [.ref q9]))) a u := fun x u q => by
              obtain ⟨a', ex, hv'⟩ := q
              have hv3 := s9' _ _ hv'
              exact ⟨a', ex, (upd_ne (ne_of hv3 hD9 fun z => nomatch z)).trans hv3⟩
            exact paired_snoc (Paired.mapP hvs kp) ⟨q9, rfl, (upd_ne (ne_of hq9' hD9 fun z => nomatch z)).trans hq9'⟩
          · rw [List.take_add_one, ev, List.length_append, List.length_append, lvs]; rfl
        rintro H34 ⟨s34, vs9, hD34, hvs, lvs⟩
        rw [List.length_map, lAs, List.take_length] at hvs
        obtain ⟨b0, vs', rfl, h0, hvs'⟩ : ∃ b0 vs', vs9 = V.ref b0 :: vs' ∧ IsV H34 b0 p' ∧ Rows H34 p'.length vs' B' := by
          cases hvs with
          | cons h q => obtain ⟨b0, rfl, h0⟩ := h; exact ⟨b0, _, rfl, h0, q, lB'⟩
        refine ⟨_, rfl, .str line, rfl, .inr ⟨line, us, rfl, esp, by omega, une, by omega, LU.nine, (fun k2 hk2 => by rw [hR] at hk2; cases hk2), fun p2 B2 hR2 => ?_⟩⟩
        rw [hR] at hR2
        cases hR2
        obtain ⟨ok2, okr2⟩ := readL p' B' hR
        refine ⟨ok2, okr2, fun H35 x9 s35 f35 => ?_⟩
        have hD35 := s35 _ _ hD34
        have h035 := s35 _ _ h0
        have hvs35 := hvs'.keep s35
        refine ⟨_, rfl, D5, _, _, _, rfl, rfl, SqL.of hD35, atI_head _ _, _, _, rfl, .inr ⟨_, SqT.of h035, rfl⟩, ?_⟩
        refine ⟨_, rfl, D5, _, _, _, rfl, rfl, SqL.of hD35, atI_head _ _, ?_⟩
        refine ⟨_, rfl, _, rfl, D5, _, rfl, SqL.of hD35, fun c2 hc2 => ?_⟩
        obtain ⟨s36, hc36⟩ := new_at (o := .lst (cutV (V.ref b0 :: vs') (some 1) none)) hc2
        rw [cutV1] at hc36 s36 ⊢
        refine fun z dz hz hdz ndz => ?_
        rw [List.length_map]
        have so : ∀ {H3 : Hp}, H3 z = none → H3 dz = none → Same H3 (upd (upd H3 dz (.own z)) z (.ins D dz [])) := fun {H3} hx hdx y o h => by
          rw [upd_ne (ne_of_none h hx), upd_ne (ne_of_none h hdx)]; exact h
        have s37 := so hz hdz
        have gl := L2.RD.reads_grown hR
        have g1 := gl.1
        rw [List.length_cons] at g1
        have g2 := gl.2.1 p' List.mem_cons_self
        have g3 := LU.cnt
        refine ⟨z, dz, c2, p'.length, .ref b0, some p', vs', B', rfl, upd_same, p0, by omega, by omega, .inl (s37 _ _ hc36), hvs35.keep (s36.trans s37), ok2, ⟨b0, rfl, s37 _ _ (s36 _ _ h035), rfl⟩, (fun v e => by cases e; exact okr2), fun H38 kp fac => ⟨rfl, ?_⟩⟩
        have s3538 : Same H35 H38 := fun y o h => kp y o (ne_of_none (s36 _ _ h) hz) (s37 _ _ (s36 _ _ h))
        refine ne_same (f35.keep s3538) fac ⟨_, rfl, iteSf rfl ?_⟩
        have sA := s33.trans (s34.trans (s35.trans s3538))
        exact ⟨bu210.trans (Same.but sA), hb32.keep sA, _, _, _, _, _, _, _, _, _, _, _, _, _, _, rfl⟩
    · rintro σ H3 ⟨bu3, hb3, x3, x4, x5, x6, x7, x8, x9, x10, x11, x12, x13, x14, x15, x16, rfl⟩
      refine ⟨_, rfl, a_lst1 (ds := menu11) (ga1_cons (g1_a g_non) (ga1_cons (g1_a (g_int 0)) (ga1_cons (g1_a (g_int 1)) (ga1_cons (g1_a (g_bl true)) (ga1_cons (g1_lst ga_nil (by decide)) (ga1_cons (g1_lst (ga_cons (K06.g_str "1") ga_nil) (by decide)) (ga1_cons (g1_tup (ga_cons (K06.g_str "1") ga_nil) (by decide)) (ga1_cons (g1_a (g_neg 3)) (ga1_cons (g1_a (K06.g_str "none")) (ga1_cons (g1_a (K06.g_str "")) (ga1_cons (g1_a (K06.g_str "+ 1")) ga1_nil))))))))))) (by decide) fun H9 lx ax s9 hx px => ?_⟩
      have hb9 := hb3.keep s9
      have nx : lx ≠ b := fun e => by
        obtain ⟨z1, z2, z3, e3⟩ := hb9
        rw [e, e3] at hx
        have := congrArg List.length (HO.lst.inj (Option.some.inj hx))
        rw [px.length] at this
        exact absurd (show 3 = 11 from this) (by decide)
      refine ⟨b, lx, ax, rfl, hb9, hx, nx, by rw [px.length]; decide, by rw [px.length]; decide, fun i1 v u1 u2 u3 e1 => ?_⟩
      obtain ⟨d, md, rd⟩ := paired_at px e1
      have rd10 : Rel1 (upd H9 b (.lst [.int u1, .int u2, .int u3])) v d := rd.lst (D := b) (xs := []) (fun t ys ed ev => by
        subst ed; subst ev
        obtain ⟨p, ep, hp⟩ := rd
        cases ep
        obtain ⟨z1, z2, z3, e3⟩ := hb9
        rw [e3] at hp
        have kx := of_decide_eq_true (List.all_eq_true.mp len11 _ md)
        cases t with
        | true => cases hp
        | false =>
          have := congrArg List.length (HO.lst.inj (Option.some.inj hp))
          rw [List.length_map] at this
          have : 3 = ys.length := this
          omega) But.upd'
      have bu10 : But b H2 (upd H9 b (.lst [.int u1, .int u2, .int u3])) := (bu3.trans (Same.but s9)).trans But.upd'
      generalize upd H9 b (.lst [.int u1, .int u2, .int u3]) = H10 at rd10 bu10 ⊢
      refine ⟨_, rfl, v, rfl, ?_⟩
      rcases zero11 d md with ns | ⟨s0, us0, rfl, f1, f2, f3, f4, f5, f6⟩
      refine .inl ⟨d, rd10, ns, fun H11 s11 => ?_⟩
      rotate_left
      cases (show v = .str s0 from rd10)
      refine .inr ⟨s0, us0, rfl, f1, by omega, f3, f4, f5, fun k1 hk H11 s11 => ?_, (fun p B hR => by rw [f6] at hR; cases hR)⟩
      rw [f6] at hk
      cases hk
      all_goals (
        refine ⟨_, rfl, .inr ⟨_, _, rfl, fixA.sp, by have := fixA.ls; omega, fixA.ne, fixA.lu, fixA.nine, fun k1 hk H12 s12 => ?_, (fun p B hR => by rw [fixA.rd] at hR; cases hR)⟩⟩
        rw [fixA.rd] at hk
        cases hk
        refine ⟨_, rfl, .inr ⟨_, _, rfl, fixB.sp, by have := fixB.ls; omega, fixB.ne, fixB.lu, fixB.nine, fun k1 hk H13 s13 => ?_, (fun p B hR => by rw [fixB.rd] at hR; cases hR)⟩⟩
        rw [fixB.rd] at hk
        cases hk
        refine ⟨by decide, fun q1 hq1 => ?_⟩
        obtain ⟨s14, hq14⟩ := new_at (o := .lst [V.int 0, V.int 4, V.int 3]) hq1
        refine ⟨by decide, fun q2 hq2 => ?_⟩
        obtain ⟨s15, hq15⟩ := new_at (o := .lst [V.int 0, V.int 4, V.int 3]) hq2
        refine ⟨.list [.int 0, .int 4, .int 3], .list [.int 0, .int 4, .int 3], .lst (SqL.of (s15 _ _ hq14)) (intsL_dp [0, 4, 3]), .lst (SqL.of hq15) (intsL_dp [0, 4, 3]), by decide +kernel, by decide +kernel, ?_⟩
        rw [show PyData.eqv (.list [.int 0, .int 4, .int 3]) (.list [.int 0, .int 4, .int 3]) = true by decide +kernel]
        refine ⟨_, rfl, iteSf rfl ?_⟩
        have s1015 := s11.trans (s12.trans (s13.trans (s14.trans s15)))
        exact ⟨fun y o z => s1015 _ _ (bu10 y o (ne_of_none (s1 _ _ z) hb0) (s2 _ _ (s1 _ _ z))), _, _, _, _, _, _, _, _, _, _, _, _, _, _, _, _, rfl⟩)
  · rintro σ H2 ⟨s2, x1, x2, x3, x4, x5, x6, x7, x8, x9, x10, x11, x12, x13, x14, x15, x16, rfl⟩
    refine fun x dx hx hdx ndx => ?_
    have so : Same H2 (upd (upd H2 dx (.own x)) x (.ins D dx [])) := fun y o h => by
      rw [upd_ne (ne_of_none h hx), upd_ne (ne_of_none h hdx)]; exact h
    refine ⟨x, dx, t0, 2, .non, none, [], [], rfl, upd_same, by decide, by decide, by decide, it0 _, ⟨.nil, fun v hv => nomatch hv⟩, trivial, rfl, (fun v e => nomatch e), fun H3 kp fac => ⟨rfl, ?_⟩⟩
    obtain ⟨dy, gs, oy⟩ := fac.ins
    refine ⟨x, dy, gs, rfl, oy, x, 2, none, [], rfl, fac, by decide, by decide, (fun p e => nomatch e), (fun v hv => nomatch hv), fun H4 s4 => ⟨_, rfl, ?_⟩⟩
    refine ⟨rfl, _, rfl, iteSe (decide_eq_true rfl) ?_⟩
    refine ⟨rfl, _, rfl, .inr ⟨_, [.num 5], rfl, fixC.sp, by have := fixC.ls; omega, fixC.ne, fixC.lu, fixC.nine, (fun k1 hk => by rw [fixC.rd] at hk; cases hk), fun p B hR => ?_⟩⟩
    rw [fixC.rd] at hR
    cases hR
    have F5 : OkGrows [] ([] : List Vec) ∧ OkRed (grows [] ([] : List Vec)) [5] := ⟨trivial, trivial⟩
    refine ⟨F5.1, F5.2, fun H5 x5 s5 f5 => ?_⟩
    refine ⟨by decide, fun p5 hp5 => ?_⟩
    obtain ⟨s6, hp6⟩ := new_at (o := .tup [V.int 5]) hp5
    refine fun z dz hz hdz ndz => ?_
    have so2 : ∀ {H3 : Hp}, H3 z = none → H3 dz = none → Same H3 (upd (upd H3 dz (.own z)) z (.ins D dz [])) := fun {H3} hx hdx y o h => by
      rw [upd_ne (ne_of_none h hx), upd_ne (ne_of_none h hdx)]; exact h
    have s7 := so2 hz hdz
    refine ⟨z, dz, t0, 1, .ref p5, some [5], [], [], rfl, upd_same, by decide, by decide, by decide, it0 _, ⟨.nil, fun v hv => nomatch hv⟩, trivial, ⟨p5, rfl, s7 _ _ hp6, rfl⟩, (fun v e => by cases e; exact F5.2), fun H8 kp8 fac8 => ⟨rfl, ?_⟩⟩
    have s58 : Same H5 H8 := fun y o h => kp8 y o (ne_of_none (s6 _ _ h) hz) (s7 _ _ (s6 _ _ h))
    exact eq_same (f5.keep s58) fac8 (k H8)
end
end K06

namespace K06
open PySem L2
theorem facts {P : Program} {w : World} {K : PySem.W.Frag} {mg : Str → Option Value} {h : Heap} {fa : Addr} (X : K.In h) (G : h.Ns mainGlobals mg) (hfa : mg "law" = some (.ref fa))
    {C D IT fI fR fF fE fS fU fT pU T0 t0 T1 t1 f_is_integer f_is_sequence f_is_width f_is_vector f_are_vectors f_added f_pivot_of f_is_zero f_reduced_by f_cleared f_stepped f_positive f_tidied f_grown f_written f_read_number f_read_vectors f_law_box f_law_take f_law_pick f_law_small f_law_number f_law_rows f_law_line f_law_is_number f_law_due f_law_read f_law_is_short f_law : Addr}
    {nmT qnT : Str} {NT : Addr} {bsT bmT : List Value} {snT : List Str} {suT : List Value} {abT : Bool} {coT : Option Bool} {ddT : Option Addr} {kaT kbT kcT kdT kfT : Option Value}
    {dg : Tok}
    {restU : List Value}
    {oc_Lattice_init kV_Lattice_init dc_Lattice_init pm_Lattice_init cd_Lattice_init ct_Lattice_init : Value} {od_Lattice_init an_Lattice_init : Option Addr} {sl_Lattice_init : Array (Option Value)}
    {oc_Factors_init kV_Factors_init dc_Factors_init pm_Factors_init cd_Factors_init ct_Factors_init : Value} {od_Factors_init an_Factors_init : Option Addr} {sl_Factors_init : Array (Option Value)}
    {ocT ocT1 : Value} {odT od0 odT1 od1 : Option Addr} {nT n0 nT1 n1 : Nat} {slT sl0 slT1 sl1 : Array (Option Value)}
    {oc_Lattice_reduced kV_Lattice_reduced dc_Lattice_reduced pm_Lattice_reduced cd_Lattice_reduced ct_Lattice_reduced : Value} {od_Lattice_reduced an_Lattice_reduced : Option Addr} {sl_Lattice_reduced : Array (Option Value)}
    {oc_Factors_eq kV_Factors_eq dc_Factors_eq pm_Factors_eq cd_Factors_eq ct_Factors_eq : Value} {od_Factors_eq an_Factors_eq : Option Addr} {sl_Factors_eq : Array (Option Value)}
    {oc_Factors_str kV_Factors_str dc_Factors_str pm_Factors_str cd_Factors_str ct_Factors_str : Value} {od_Factors_str an_Factors_str : Option Addr} {sl_Factors_str : Array (Option Value)}
    {oc_Factors_read kV_Factors_read dc_Factors_read pm_Factors_read cd_Factors_read ct_Factors_read : Value} {od_Factors_read an_Factors_read : Option Addr} {sl_Factors_read : Array (Option Value)}
    {oc_InvalidText_init kV_InvalidText_init dc_InvalidText_init pm_InvalidText_init cd_InvalidText_init ct_InvalidText_init : Value} {od_InvalidText_init an_InvalidText_init : Option Addr} {sl_InvalidText_init : Array (Option Value)}
    {oc_is_integer kV_is_integer dc_is_integer pm_is_integer cd_is_integer ct_is_integer : Value} {od_is_integer an_is_integer : Option Addr} {sl_is_integer : Array (Option Value)}
    {oc_is_sequence kV_is_sequence dc_is_sequence pm_is_sequence cd_is_sequence ct_is_sequence : Value} {od_is_sequence an_is_sequence : Option Addr} {sl_is_sequence : Array (Option Value)}
    {oc_is_width kV_is_width dc_is_width pm_is_width cd_is_width ct_is_width : Value} {od_is_width an_is_width : Option Addr} {sl_is_width : Array (Option Value)}
    {oc_is_vector kV_is_vector dc_is_vector pm_is_vector cd_is_vector ct_is_vector : Value} {od_is_vector an_is_vector : Option Addr} {sl_is_vector : Array (Option Value)}
    {oc_are_vectors kV_are_vectors dc_are_vectors pm_are_vectors cd_are_vectors ct_are_vectors : Value} {od_are_vectors an_are_vectors : Option Addr} {sl_are_vectors : Array (Option Value)}
    {oc_added kV_added dc_added pm_added cd_added ct_added : Value} {od_added an_added : Option Addr} {sl_added : Array (Option Value)}
    {oc_pivot_of kV_pivot_of dc_pivot_of pm_pivot_of cd_pivot_of ct_pivot_of : Value} {od_pivot_of an_pivot_of : Option Addr} {sl_pivot_of : Array (Option Value)}
    {oc_is_zero kV_is_zero dc_is_zero pm_is_zero cd_is_zero ct_is_zero : Value} {od_is_zero an_is_zero : Option Addr} {sl_is_zero : Array (Option Value)}
    {oc_reduced_by kV_reduced_by dc_reduced_by pm_reduced_by cd_reduced_by ct_reduced_by : Value} {od_reduced_by an_reduced_by : Option Addr} {sl_reduced_by : Array (Option Value)}
    {oc_cleared kV_cleared dc_cleared pm_cleared cd_cleared ct_cleared : Value} {od_cleared an_cleared : Option Addr} {sl_cleared : Array (Option Value)}
    {oc_stepped kV_stepped dc_stepped pm_stepped cd_stepped ct_stepped : Value} {od_stepped an_stepped : Option Addr} {sl_stepped : Array (Option Value)}
    {oc_positive kV_positive dc_positive pm_positive cd_positive ct_positive : Value} {od_positive an_positive : Option Addr} {sl_positive : Array (Option Value)}
    {oc_tidied kV_tidied dc_tidied pm_tidied cd_tidied ct_tidied : Value} {od_tidied an_tidied : Option Addr} {sl_tidied : Array (Option Value)}
    {oc_grown kV_grown dc_grown pm_grown cd_grown ct_grown : Value} {od_grown an_grown : Option Addr} {sl_grown : Array (Option Value)}
    {oc_written kV_written dc_written pm_written cd_written ct_written : Value} {od_written an_written : Option Addr} {sl_written : Array (Option Value)}
    {oc_read_number kV_read_number dc_read_number pm_read_number cd_read_number ct_read_number : Value} {od_read_number an_read_number : Option Addr} {sl_read_number : Array (Option Value)}
    {oc_read_vectors kV_read_vectors dc_read_vectors pm_read_vectors cd_read_vectors ct_read_vectors : Value} {od_read_vectors an_read_vectors : Option Addr} {sl_read_vectors : Array (Option Value)}
    {oc_law_box kV_law_box dc_law_box pm_law_box cd_law_box ct_law_box : Value} {od_law_box an_law_box : Option Addr} {sl_law_box : Array (Option Value)}
    {oc_law_take kV_law_take dc_law_take pm_law_take cd_law_take ct_law_take : Value} {od_law_take an_law_take : Option Addr} {sl_law_take : Array (Option Value)}
    {oc_law_pick kV_law_pick dc_law_pick pm_law_pick cd_law_pick ct_law_pick : Value} {od_law_pick an_law_pick : Option Addr} {sl_law_pick : Array (Option Value)}
    {oc_law_small kV_law_small dc_law_small pm_law_small cd_law_small ct_law_small : Value} {od_law_small an_law_small : Option Addr} {sl_law_small : Array (Option Value)}
    {oc_law_number kV_law_number dc_law_number pm_law_number cd_law_number ct_law_number : Value} {od_law_number an_law_number : Option Addr} {sl_law_number : Array (Option Value)}
    {oc_law_rows kV_law_rows dc_law_rows pm_law_rows cd_law_rows ct_law_rows : Value} {od_law_rows an_law_rows : Option Addr} {sl_law_rows : Array (Option Value)}
    {oc_law_line kV_law_line dc_law_line pm_law_line cd_law_line ct_law_line : Value} {od_law_line an_law_line : Option Addr} {sl_law_line : Array (Option Value)}
    {oc_law_is_number kV_law_is_number dc_law_is_number pm_law_is_number cd_law_is_number ct_law_is_number : Value} {od_law_is_number an_law_is_number : Option Addr} {sl_law_is_number : Array (Option Value)}
    {oc_law_due kV_law_due dc_law_due pm_law_due cd_law_due ct_law_due : Value} {od_law_due an_law_due : Option Addr} {sl_law_due : Array (Option Value)}
    {oc_law_read kV_law_read dc_law_read pm_law_read cd_law_read ct_law_read : Value} {od_law_read an_law_read : Option Addr} {sl_law_read : Array (Option Value)}
    {oc_law_is_short kV_law_is_short dc_law_is_short pm_law_is_short cd_law_is_short ct_law_is_short : Value} {od_law_is_short an_law_is_short : Option Addr} {sl_law_is_short : Array (Option Value)}
    {oc_law kV_law dc_law pm_law cd_law ct_law : Value} {od_law an_law : Option Addr} {sl_law : Array (Option Value)}
    (aC : PySem.W.nsIn K mainGlobals "Lattice" = some (some (.ref C)))
    (aD : PySem.W.nsIn K mainGlobals "Factors" = some (some (.ref D)))
    (pgC : PySem.W.plainGet K C Str.empty = true)
    (hdC : PySem.W.hasDictIn K C = true)
    (poC : PySem.W.plainOver K C = true)
    (saC : PySem.W.findIn K (.ref C) "__setattr__" = some (some (.builtin "object.__setattr__")))
    (mkC : PySem.W.makesIn K C = true)
    (iniC : PySem.W.findIn K (.ref C) "__init__" = some (some (.ref fI)))
    (fnfI : PySem.W.isFn K (.ref fI) = true)
    (kC : PySem.W.keepIn K (.ref C) = true)
    (nCw : PySem.W.findIn K (.ref C) "width" = some none)
    (nCb : PySem.W.findIn K (.ref C) "basis" = some none)
    (pgD : PySem.W.plainGet K D Str.empty = true)
    (hdD : PySem.W.hasDictIn K D = true)
    (poD : PySem.W.plainOver K D = true)
    (saD : PySem.W.findIn K (.ref D) "__setattr__" = some (some (.builtin "object.__setattr__")))
    (mkD : PySem.W.makesIn K D = true)
    (iniD : PySem.W.findIn K (.ref D) "__init__" = some (some (.ref fF)))
    (fnfF : PySem.W.isFn K (.ref fF) = true)
    (kD : PySem.W.keepIn K (.ref D) = true)
    (nDw : PySem.W.findIn K (.ref D) "width" = some none)
    (nDp : PySem.W.findIn K (.ref D) "point" = some none)
    (nDb : PySem.W.findIn K (.ref D) "basis" = some none)
    (tS : PySem.W.selfFirst K D = true)
    (tO : PySem.W.mroIn K D (.type "object") = some true)
    (tN : PySem.W.findIn K (.ref D) "__ne__" = some (some (.builtin "object.__ne__")))
    (cA : PySem.W.findIn K (.ref D) "__class__" = some (some (.builtin "object.__class__")))
    (cG : PySem.W.specialIn K (.builtin "object.__class__") "__get__" = some (some (.builtin "getset_descriptor.__get__")))
    (cT : PySem.W.takesIn K (.builtin "object.__class__") = some true)
    (cK : PySem.W.kitOne K (.ref D) (.ref D) = some true)
    (ktT : PySem.W.kitOne K (.type "tuple") (.ref D) = some false)
    (mR : PySem.W.findIn K (.ref C) "reduced" = some (some (.ref fR)))
    (fnR : PySem.W.isFn K (.ref fR) = true)
    (aIT : PySem.W.nsIn K mainGlobals "InvalidText" = some (some (.ref IT)))
    (lIT : K.lookup IT = some (excClassObj nmT qnT IT NT bsT bmT true snT suT abT coT ddT kaT kbT kcT kdT kfT "ValueError.__new__"))
    (rIT : PySem.HandSPX.refsVE bmT = true)
    (saT : PySem.W.findIn K (.ref IT) "__setattr__" = some (some (.builtin "object.__setattr__")))
    (inT : PySem.W.findIn K (.ref IT) "__init__" = some (some (.ref fT)))
    (tiT : PySem.W.typeIn K (.ref fT) = some (.type "function"))
    (noT : PySem.W.findIn K (.ref IT) "at" = some none)
    (kIT : PySem.W.keepIn K (.ref IT) = true)
    (exT : PySem.W.subIn K (.ref IT) (.type "BaseException") = some true)
    (tyT : PySem.W.typeIn K (.ref IT) = some (.type "type"))
    (gaT : PySem.W.findIn K (.ref IT) "__getattribute__" = some (some (.builtin "BaseException.__getattribute__")))
    (ggT : PySem.W.findIn K (.ref IT) "__getattr__" = some none)
    (hdT : PySem.W.hasDictIn K IT = true)
    (mmT : PySem.W.subIn K (.ref IT) (.ref IT) = some true)
    (zs : PySem.W.nsIn K mainGlobals "str" = some none)
    (aDg : PySem.W.nsIn K mainGlobals "DIGITS" = some (some (.int 9 dg)))
    (mE : PySem.W.findIn K (.ref D) "__eq__" = some (some (.ref fE)))
    (fnE : PySem.W.isFn K (.ref fE) = true)
    (mS : PySem.W.findIn K (.ref D) "__str__" = some (some (.ref fS)))
    (fnS : PySem.W.isFn K (.ref fS) = true)
    (uA : PySem.W.findIn K (.ref D) "read" = some (some (.ref pU)))
    (uR : PySem.W.recIn K pU "classmethod" = some (.ref fU :: restU))
    (uF : PySem.W.fnIn K fU = true)
    (uC : PySem.W.findCls K (.ref D) (.type "type") "read" = some (.get (.builtin "classmethod.__get__") (.ref pU) .none (.ref D)))
    (rD : PySem.W.readsIn K D (.type "type") = true)
    (rG : PySem.W.specialIn K (.ref D) "__getattribute__" = some (some (.builtin "type.__getattribute__")))
    (l_Lattice_init : K.lookup fI = some ⟨oc_Lattice_init, od_Lattice_init, .func (PySem.W.fnOf "__init__" "Lattice.__init__" (defArgs s_Lattice_init) (defBody s_Lattice_init) (defScope s_Lattice_init) (.ref T0) kV_Lattice_init dc_Lattice_init pm_Lattice_init an_Lattice_init cd_Lattice_init ct_Lattice_init), sl_Lattice_init⟩)
    (c_Lattice_init : PySem.W.codeIn K cd_Lattice_init "Lattice.__init__" = true)
    (k_Lattice_init : PySem.W.keepIn K (.ref fI) = true)
    (l_Factors_init : K.lookup fF = some ⟨oc_Factors_init, od_Factors_init, .func (PySem.W.fnOf "__init__" "Factors.__init__" (defArgs s_Factors_init) (defBody s_Factors_init) (defScope s_Factors_init) (.ref T1) kV_Factors_init dc_Factors_init pm_Factors_init an_Factors_init cd_Factors_init ct_Factors_init), sl_Factors_init⟩)
    (c_Factors_init : PySem.W.codeIn K cd_Factors_init "Factors.__init__" = true)
    (k_Factors_init : PySem.W.keepIn K (.ref fF) = true)
    (lT : K.lookup T0 = some ⟨ocT, odT, .seq #[.ref t0] nT, slT⟩)
    (l0 : K.lookup t0 = some ⟨.type "tuple", od0, .seq #[] n0, sl0⟩)
    (lT1 : K.lookup T1 = some ⟨ocT1, odT1, .seq #[.none, .ref t1] nT1, slT1⟩)
    (l1 : K.lookup t1 = some ⟨.type "tuple", od1, .seq #[] n1, sl1⟩)
    (l_Lattice_reduced : K.lookup fR = some ⟨oc_Lattice_reduced, od_Lattice_reduced, .func (PySem.W.fnOf "reduced" "Lattice.reduced" (defArgs s_Lattice_reduced) (defBody s_Lattice_reduced) (defScope s_Lattice_reduced) .none kV_Lattice_reduced dc_Lattice_reduced pm_Lattice_reduced an_Lattice_reduced cd_Lattice_reduced ct_Lattice_reduced), sl_Lattice_reduced⟩)
    (c_Lattice_reduced : PySem.W.codeIn K cd_Lattice_reduced "Lattice.reduced" = true)
    (k_Lattice_reduced : PySem.W.keepIn K (.ref fR) = true)
    (l_Factors_eq : K.lookup fE = some ⟨oc_Factors_eq, od_Factors_eq, .func (PySem.W.fnOf "__eq__" "Factors.__eq__" (defArgs s_Factors_eq) (defBody s_Factors_eq) (defScope s_Factors_eq) .none kV_Factors_eq dc_Factors_eq pm_Factors_eq an_Factors_eq cd_Factors_eq ct_Factors_eq), sl_Factors_eq⟩)
    (c_Factors_eq : PySem.W.codeIn K cd_Factors_eq "Factors.__eq__" = true)
    (k_Factors_eq : PySem.W.keepIn K (.ref fE) = true)
    (l_Factors_str : K.lookup fS = some ⟨oc_Factors_str, od_Factors_str, .func (PySem.W.fnOf "__str__" "Factors.__str__" (defArgs s_Factors_str) (defBody s_Factors_str) (defScope s_Factors_str) .none kV_Factors_str dc_Factors_str pm_Factors_str an_Factors_str cd_Factors_str ct_Factors_str), sl_Factors_str⟩)
    (c_Factors_str : PySem.W.codeIn K cd_Factors_str "Factors.__str__" = true)
    (k_Factors_str : PySem.W.keepIn K (.ref fS) = true)
    (l_Factors_read : K.lookup fU = some ⟨oc_Factors_read, od_Factors_read, .func (PySem.W.fnOf "read" "Factors.read" (defArgs s_Factors_read) (defBody s_Factors_read) (defScope s_Factors_read) .none kV_Factors_read dc_Factors_read pm_Factors_read an_Factors_read cd_Factors_read ct_Factors_read), sl_Factors_read⟩)
    (c_Factors_read : PySem.W.codeIn K cd_Factors_read "Factors.read" = true)
    (k_Factors_read : PySem.W.keepIn K (.ref fU) = true)
    (l_InvalidText_init : K.lookup fT = some ⟨oc_InvalidText_init, od_InvalidText_init, .func (PySem.W.fnOf "__init__" "InvalidText.__init__" (defArgs s_InvalidText_init) (defBody s_InvalidText_init) (defScope s_InvalidText_init) .none kV_InvalidText_init dc_InvalidText_init pm_InvalidText_init an_InvalidText_init cd_InvalidText_init ct_InvalidText_init), sl_InvalidText_init⟩)
    (c_InvalidText_init : PySem.W.codeIn K cd_InvalidText_init "InvalidText.__init__" = true)
    (k_InvalidText_init : PySem.W.keepIn K (.ref fT) = true)
    (a_is_integer : PySem.W.nsIn K mainGlobals "is_integer" = some (some (.ref f_is_integer)))
    (l_is_integer : K.lookup f_is_integer = some ⟨oc_is_integer, od_is_integer, .func (PySem.W.fnOf "is_integer" "is_integer" (defArgs s_is_integer) (defBody s_is_integer) (defScope s_is_integer) .none kV_is_integer dc_is_integer pm_is_integer an_is_integer cd_is_integer ct_is_integer), sl_is_integer⟩)
    (c_is_integer : PySem.W.codeIn K cd_is_integer "is_integer" = true)
    (k_is_integer : PySem.W.keepIn K (.ref f_is_integer) = true)
    (a_is_sequence : PySem.W.nsIn K mainGlobals "is_sequence" = some (some (.ref f_is_sequence)))
    (l_is_sequence : K.lookup f_is_sequence = some ⟨oc_is_sequence, od_is_sequence, .func (PySem.W.fnOf "is_sequence" "is_sequence" (defArgs s_is_sequence) (defBody s_is_sequence) (defScope s_is_sequence) .none kV_is_sequence dc_is_sequence pm_is_sequence an_is_sequence cd_is_sequence ct_is_sequence), sl_is_sequence⟩)
    (c_is_sequence : PySem.W.codeIn K cd_is_sequence "is_sequence" = true)
    (k_is_sequence : PySem.W.keepIn K (.ref f_is_sequence) = true)
    (a_is_width : PySem.W.nsIn K mainGlobals "is_width" = some (some (.ref f_is_width)))
    (l_is_width : K.lookup f_is_width = some ⟨oc_is_width, od_is_width, .func (PySem.W.fnOf "is_width" "is_width" (defArgs s_is_width) (defBody s_is_width) (defScope s_is_width) .none kV_is_width dc_is_width pm_is_width an_is_width cd_is_width ct_is_width), sl_is_width⟩)
    (c_is_width : PySem.W.codeIn K cd_is_width "is_width" = true)
    (k_is_width : PySem.W.keepIn K (.ref f_is_width) = true)
    (a_is_vector : PySem.W.nsIn K mainGlobals "is_vector" = some (some (.ref f_is_vector)))
    (l_is_vector : K.lookup f_is_vector = some ⟨oc_is_vector, od_is_vector, .func (PySem.W.fnOf "is_vector" "is_vector" (defArgs s_is_vector) (defBody s_is_vector) (defScope s_is_vector) .none kV_is_vector dc_is_vector pm_is_vector an_is_vector cd_is_vector ct_is_vector), sl_is_vector⟩)
    (c_is_vector : PySem.W.codeIn K cd_is_vector "is_vector" = true)
    (k_is_vector : PySem.W.keepIn K (.ref f_is_vector) = true)
    (a_are_vectors : PySem.W.nsIn K mainGlobals "are_vectors" = some (some (.ref f_are_vectors)))
    (l_are_vectors : K.lookup f_are_vectors = some ⟨oc_are_vectors, od_are_vectors, .func (PySem.W.fnOf "are_vectors" "are_vectors" (defArgs s_are_vectors) (defBody s_are_vectors) (defScope s_are_vectors) .none kV_are_vectors dc_are_vectors pm_are_vectors an_are_vectors cd_are_vectors ct_are_vectors), sl_are_vectors⟩)
    (c_are_vectors : PySem.W.codeIn K cd_are_vectors "are_vectors" = true)
    (k_are_vectors : PySem.W.keepIn K (.ref f_are_vectors) = true)
    (a_added : PySem.W.nsIn K mainGlobals "added" = some (some (.ref f_added)))
    (l_added : K.lookup f_added = some ⟨oc_added, od_added, .func (PySem.W.fnOf "added" "added" (defArgs s_added) (defBody s_added) (defScope s_added) .none kV_added dc_added pm_added an_added cd_added ct_added), sl_added⟩)
    (c_added : PySem.W.codeIn K cd_added "added" = true)
    (k_added : PySem.W.keepIn K (.ref f_added) = true)
    (a_pivot_of : PySem.W.nsIn K mainGlobals "pivot_of" = some (some (.ref f_pivot_of)))
    (l_pivot_of : K.lookup f_pivot_of = some ⟨oc_pivot_of, od_pivot_of, .func (PySem.W.fnOf "pivot_of" "pivot_of" (defArgs s_pivot_of) (defBody s_pivot_of) (defScope s_pivot_of) .none kV_pivot_of dc_pivot_of pm_pivot_of an_pivot_of cd_pivot_of ct_pivot_of), sl_pivot_of⟩)
    (c_pivot_of : PySem.W.codeIn K cd_pivot_of "pivot_of" = true)
    (k_pivot_of : PySem.W.keepIn K (.ref f_pivot_of) = true)
    (a_is_zero : PySem.W.nsIn K mainGlobals "is_zero" = some (some (.ref f_is_zero)))
    (l_is_zero : K.lookup f_is_zero = some ⟨oc_is_zero, od_is_zero, .func (PySem.W.fnOf "is_zero" "is_zero" (defArgs s_is_zero) (defBody s_is_zero) (defScope s_is_zero) .none kV_is_zero dc_is_zero pm_is_zero an_is_zero cd_is_zero ct_is_zero), sl_is_zero⟩)
    (c_is_zero : PySem.W.codeIn K cd_is_zero "is_zero" = true)
    (k_is_zero : PySem.W.keepIn K (.ref f_is_zero) = true)
    (a_reduced_by : PySem.W.nsIn K mainGlobals "reduced_by" = some (some (.ref f_reduced_by)))
    (l_reduced_by : K.lookup f_reduced_by = some ⟨oc_reduced_by, od_reduced_by, .func (PySem.W.fnOf "reduced_by" "reduced_by" (defArgs s_reduced_by) (defBody s_reduced_by) (defScope s_reduced_by) .none kV_reduced_by dc_reduced_by pm_reduced_by an_reduced_by cd_reduced_by ct_reduced_by), sl_reduced_by⟩)
    (c_reduced_by : PySem.W.codeIn K cd_reduced_by "reduced_by" = true)
    (k_reduced_by : PySem.W.keepIn K (.ref f_reduced_by) = true)
    (a_cleared : PySem.W.nsIn K mainGlobals "cleared" = some (some (.ref f_cleared)))
    (l_cleared : K.lookup f_cleared = some ⟨oc_cleared, od_cleared, .func (PySem.W.fnOf "cleared" "cleared" (defArgs s_cleared) (defBody s_cleared) (defScope s_cleared) .none kV_cleared dc_cleared pm_cleared an_cleared cd_cleared ct_cleared), sl_cleared⟩)
    (c_cleared : PySem.W.codeIn K cd_cleared "cleared" = true)
    (k_cleared : PySem.W.keepIn K (.ref f_cleared) = true)
    (a_stepped : PySem.W.nsIn K mainGlobals "stepped" = some (some (.ref f_stepped)))
    (l_stepped : K.lookup f_stepped = some ⟨oc_stepped, od_stepped, .func (PySem.W.fnOf "stepped" "stepped" (defArgs s_stepped) (defBody s_stepped) (defScope s_stepped) .none kV_stepped dc_stepped pm_stepped an_stepped cd_stepped ct_stepped), sl_stepped⟩)
    (c_stepped : PySem.W.codeIn K cd_stepped "stepped" = true)
    (k_stepped : PySem.W.keepIn K (.ref f_stepped) = true)
    (a_positive : PySem.W.nsIn K mainGlobals "positive" = some (some (.ref f_positive)))
    (l_positive : K.lookup f_positive = some ⟨oc_positive, od_positive, .func (PySem.W.fnOf "positive" "positive" (defArgs s_positive) (defBody s_positive) (defScope s_positive) .none kV_positive dc_positive pm_positive an_positive cd_positive ct_positive), sl_positive⟩)
    (c_positive : PySem.W.codeIn K cd_positive "positive" = true)
    (k_positive : PySem.W.keepIn K (.ref f_positive) = true)
    (a_tidied : PySem.W.nsIn K mainGlobals "tidied" = some (some (.ref f_tidied)))
    (l_tidied : K.lookup f_tidied = some ⟨oc_tidied, od_tidied, .func (PySem.W.fnOf "tidied" "tidied" (defArgs s_tidied) (defBody s_tidied) (defScope s_tidied) .none kV_tidied dc_tidied pm_tidied an_tidied cd_tidied ct_tidied), sl_tidied⟩)
    (c_tidied : PySem.W.codeIn K cd_tidied "tidied" = true)
    (k_tidied : PySem.W.keepIn K (.ref f_tidied) = true)
    (a_grown : PySem.W.nsIn K mainGlobals "grown" = some (some (.ref f_grown)))
    (l_grown : K.lookup f_grown = some ⟨oc_grown, od_grown, .func (PySem.W.fnOf "grown" "grown" (defArgs s_grown) (defBody s_grown) (defScope s_grown) .none kV_grown dc_grown pm_grown an_grown cd_grown ct_grown), sl_grown⟩)
    (c_grown : PySem.W.codeIn K cd_grown "grown" = true)
    (k_grown : PySem.W.keepIn K (.ref f_grown) = true)
    (a_written : PySem.W.nsIn K mainGlobals "written" = some (some (.ref f_written)))
    (l_written : K.lookup f_written = some ⟨oc_written, od_written, .func (PySem.W.fnOf "written" "written" (defArgs s_written) (defBody s_written) (defScope s_written) .none kV_written dc_written pm_written an_written cd_written ct_written), sl_written⟩)
    (c_written : PySem.W.codeIn K cd_written "written" = true)
    (k_written : PySem.W.keepIn K (.ref f_written) = true)
    (a_read_number : PySem.W.nsIn K mainGlobals "read_number" = some (some (.ref f_read_number)))
    (l_read_number : K.lookup f_read_number = some ⟨oc_read_number, od_read_number, .func (PySem.W.fnOf "read_number" "read_number" (defArgs s_read_number) (defBody s_read_number) (defScope s_read_number) .none kV_read_number dc_read_number pm_read_number an_read_number cd_read_number ct_read_number), sl_read_number⟩)
    (c_read_number : PySem.W.codeIn K cd_read_number "read_number" = true)
    (k_read_number : PySem.W.keepIn K (.ref f_read_number) = true)
    (a_read_vectors : PySem.W.nsIn K mainGlobals "read_vectors" = some (some (.ref f_read_vectors)))
    (l_read_vectors : K.lookup f_read_vectors = some ⟨oc_read_vectors, od_read_vectors, .func (PySem.W.fnOf "read_vectors" "read_vectors" (defArgs s_read_vectors) (defBody s_read_vectors) (defScope s_read_vectors) .none kV_read_vectors dc_read_vectors pm_read_vectors an_read_vectors cd_read_vectors ct_read_vectors), sl_read_vectors⟩)
    (c_read_vectors : PySem.W.codeIn K cd_read_vectors "read_vectors" = true)
    (k_read_vectors : PySem.W.keepIn K (.ref f_read_vectors) = true)
    (a_law_box : PySem.W.nsIn K mainGlobals "_law_box" = some (some (.ref f_law_box)))
    (l_law_box : K.lookup f_law_box = some ⟨oc_law_box, od_law_box, .func (PySem.W.fnOf "_law_box" "_law_box" (defArgs s_law_box) (defBody s_law_box) (defScope s_law_box) .none kV_law_box dc_law_box pm_law_box an_law_box cd_law_box ct_law_box), sl_law_box⟩)
    (c_law_box : PySem.W.codeIn K cd_law_box "_law_box" = true)
    (k_law_box : PySem.W.keepIn K (.ref f_law_box) = true)
    (a_law_take : PySem.W.nsIn K mainGlobals "_law_take" = some (some (.ref f_law_take)))
    (l_law_take : K.lookup f_law_take = some ⟨oc_law_take, od_law_take, .func (PySem.W.fnOf "_law_take" "_law_take" (defArgs s_law_take) (defBody s_law_take) (defScope s_law_take) .none kV_law_take dc_law_take pm_law_take an_law_take cd_law_take ct_law_take), sl_law_take⟩)
    (c_law_take : PySem.W.codeIn K cd_law_take "_law_take" = true)
    (k_law_take : PySem.W.keepIn K (.ref f_law_take) = true)
    (a_law_pick : PySem.W.nsIn K mainGlobals "_law_pick" = some (some (.ref f_law_pick)))
    (l_law_pick : K.lookup f_law_pick = some ⟨oc_law_pick, od_law_pick, .func (PySem.W.fnOf "_law_pick" "_law_pick" (defArgs s_law_pick) (defBody s_law_pick) (defScope s_law_pick) .none kV_law_pick dc_law_pick pm_law_pick an_law_pick cd_law_pick ct_law_pick), sl_law_pick⟩)
    (c_law_pick : PySem.W.codeIn K cd_law_pick "_law_pick" = true)
    (k_law_pick : PySem.W.keepIn K (.ref f_law_pick) = true)
    (a_law_small : PySem.W.nsIn K mainGlobals "_law_small" = some (some (.ref f_law_small)))
    (l_law_small : K.lookup f_law_small = some ⟨oc_law_small, od_law_small, .func (PySem.W.fnOf "_law_small" "_law_small" (defArgs s_law_small) (defBody s_law_small) (defScope s_law_small) .none kV_law_small dc_law_small pm_law_small an_law_small cd_law_small ct_law_small), sl_law_small⟩)
    (c_law_small : PySem.W.codeIn K cd_law_small "_law_small" = true)
    (k_law_small : PySem.W.keepIn K (.ref f_law_small) = true)
    (a_law_number : PySem.W.nsIn K mainGlobals "_law_number" = some (some (.ref f_law_number)))
    (l_law_number : K.lookup f_law_number = some ⟨oc_law_number, od_law_number, .func (PySem.W.fnOf "_law_number" "_law_number" (defArgs s_law_number) (defBody s_law_number) (defScope s_law_number) .none kV_law_number dc_law_number pm_law_number an_law_number cd_law_number ct_law_number), sl_law_number⟩)
    (c_law_number : PySem.W.codeIn K cd_law_number "_law_number" = true)
    (k_law_number : PySem.W.keepIn K (.ref f_law_number) = true)
    (a_law_rows : PySem.W.nsIn K mainGlobals "_law_rows" = some (some (.ref f_law_rows)))
    (l_law_rows : K.lookup f_law_rows = some ⟨oc_law_rows, od_law_rows, .func (PySem.W.fnOf "_law_rows" "_law_rows" (defArgs s_law_rows) (defBody s_law_rows) (defScope s_law_rows) .none kV_law_rows dc_law_rows pm_law_rows an_law_rows cd_law_rows ct_law_rows), sl_law_rows⟩)
    (c_law_rows : PySem.W.codeIn K cd_law_rows "_law_rows" = true)
    (k_law_rows : PySem.W.keepIn K (.ref f_law_rows) = true)
    (a_law_line : PySem.W.nsIn K mainGlobals "_law_line" = some (some (.ref f_law_line)))
    (l_law_line : K.lookup f_law_line = some ⟨oc_law_line, od_law_line, .func (PySem.W.fnOf "_law_line" "_law_line" (defArgs s_law_line) (defBody s_law_line) (defScope s_law_line) .none kV_law_line dc_law_line pm_law_line an_law_line cd_law_line ct_law_line), sl_law_line⟩)
    (c_law_line : PySem.W.codeIn K cd_law_line "_law_line" = true)
    (k_law_line : PySem.W.keepIn K (.ref f_law_line) = true)
    (a_law_is_number : PySem.W.nsIn K mainGlobals "_law_is_number" = some (some (.ref f_law_is_number)))
    (l_law_is_number : K.lookup f_law_is_number = some ⟨oc_law_is_number, od_law_is_number, .func (PySem.W.fnOf "_law_is_number" "_law_is_number" (defArgs s_law_is_number) (defBody s_law_is_number) (defScope s_law_is_number) .none kV_law_is_number dc_law_is_number pm_law_is_number an_law_is_number cd_law_is_number ct_law_is_number), sl_law_is_number⟩)
    (c_law_is_number : PySem.W.codeIn K cd_law_is_number "_law_is_number" = true)
    (k_law_is_number : PySem.W.keepIn K (.ref f_law_is_number) = true)
    (a_law_due : PySem.W.nsIn K mainGlobals "_law_due" = some (some (.ref f_law_due)))
    (l_law_due : K.lookup f_law_due = some ⟨oc_law_due, od_law_due, .func (PySem.W.fnOf "_law_due" "_law_due" (defArgs s_law_due) (defBody s_law_due) (defScope s_law_due) .none kV_law_due dc_law_due pm_law_due an_law_due cd_law_due ct_law_due), sl_law_due⟩)
    (c_law_due : PySem.W.codeIn K cd_law_due "_law_due" = true)
    (k_law_due : PySem.W.keepIn K (.ref f_law_due) = true)
    (a_law_read : PySem.W.nsIn K mainGlobals "_law_read" = some (some (.ref f_law_read)))
    (l_law_read : K.lookup f_law_read = some ⟨oc_law_read, od_law_read, .func (PySem.W.fnOf "_law_read" "_law_read" (defArgs s_law_read) (defBody s_law_read) (defScope s_law_read) .none kV_law_read dc_law_read pm_law_read an_law_read cd_law_read ct_law_read), sl_law_read⟩)
    (c_law_read : PySem.W.codeIn K cd_law_read "_law_read" = true)
    (k_law_read : PySem.W.keepIn K (.ref f_law_read) = true)
    (a_law_is_short : PySem.W.nsIn K mainGlobals "_law_is_short" = some (some (.ref f_law_is_short)))
    (l_law_is_short : K.lookup f_law_is_short = some ⟨oc_law_is_short, od_law_is_short, .func (PySem.W.fnOf "_law_is_short" "_law_is_short" (defArgs s_law_is_short) (defBody s_law_is_short) (defScope s_law_is_short) .none kV_law_is_short dc_law_is_short pm_law_is_short an_law_is_short cd_law_is_short ct_law_is_short), sl_law_is_short⟩)
    (c_law_is_short : PySem.W.codeIn K cd_law_is_short "_law_is_short" = true)
    (k_law_is_short : PySem.W.keepIn K (.ref f_law_is_short) = true)
    (a_law : PySem.W.nsIn K mainGlobals "law" = some (some (.ref f_law)))
    (l_law : K.lookup f_law = some ⟨oc_law, od_law, .func (PySem.W.fnOf "law" "law" (defArgs s_law) (defBody s_law) (defScope s_law) .none kV_law dc_law pm_law an_law cd_law ct_law), sl_law⟩)
    (c_law : PySem.W.codeIn K cd_law "law" = true)
    (k_law : PySem.W.keepIn K (.ref f_law) = true)
    (z_len : PySem.W.nsIn K mainGlobals "len" = some none)
    (z_abs : PySem.W.nsIn K mainGlobals "abs" = some none)
    (z_int : PySem.W.nsIn K mainGlobals "int" = some none)
    (z_max : PySem.W.nsIn K mainGlobals "max" = some none)
    (z_min : PySem.W.nsIn K mainGlobals "min" = some none)
    (z_range : PySem.W.nsIn K mainGlobals "range" = some none)
    (z_enumerate : PySem.W.nsIn K mainGlobals "enumerate" = some none)
    (z_isinstance : PySem.W.nsIn K mainGlobals "isinstance" = some none)
    (z_repr : PySem.W.nsIn K mainGlobals "repr" = some none)
    (z_zip : PySem.W.nsIn K mainGlobals "zip" = some none)
    (z_sum : PySem.W.nsIn K mainGlobals "sum" = some none)
    (z_all : PySem.W.nsIn K mainGlobals "all" = some none)
    (z_tuple : PySem.W.nsIn K mainGlobals "tuple" = some none)
    (z_list : PySem.W.nsIn K mainGlobals "list" = some none)
    (z_bool : PySem.W.nsIn K mainGlobals "bool" = some none)
    (z_sorted : PySem.W.nsIn K mainGlobals "sorted" = some none)
    (z_dict : PySem.W.nsIn K mainGlobals "dict" = some none)
    : ∀ base : Heap, K.In base → base.Ns mainGlobals mg → LawOk P w K mg base 12 fa (spLaw K) := by
  intro base _ _
  cases hfa.symm.trans (PySem.W.mg_of X G a_law)
  have T : Txt mg := ⟨PySem.W.mg_none_of X G z_len, PySem.W.mg_none_of X G z_abs, PySem.W.mg_none_of X G z_int, PySem.W.mg_none_of X G z_max, PySem.W.mg_none_of X G z_min, PySem.W.mg_none_of X G z_range, PySem.W.mg_none_of X G z_enumerate, PySem.W.mg_none_of X G z_isinstance, PySem.W.mg_none_of X G z_repr, PySem.W.mg_none_of X G z_zip, PySem.W.mg_none_of X G z_sum, PySem.W.mg_none_of X G z_all, PySem.W.mg_none_of X G z_tuple, PySem.W.mg_none_of X G z_list, PySem.W.mg_none_of X G z_bool, PySem.W.mg_none_of X G z_sorted, PySem.W.mg_none_of X G z_dict⟩
  have CL : ClsL K mg C := ⟨⟨pgC, hdC, poC, saC⟩, nCw, nCb, PySem.W.mg_of X G aC⟩
  have DL : ClsF K mg D := ⟨⟨pgD, hdD, poD, saD⟩, nDw, nDp, nDb, PySem.W.mg_of X G aD⟩
  have TD : ClsT K D := ⟨⟨tS, tO, tN⟩, cA, cG, cT, cK⟩
  have OXT : OexC K IT := ⟨⟨_, _, _, _, _, _, _, _, _, _, _, _, _, _, _, lIT, rIT⟩, saT, exT, tyT, kIT⟩
  have XT : XfC K IT := ⟨gaT, ggT, exT, hdT⟩
  have te : PySem.W.exmOne K (.ref IT) (.ref IT) = some true := PySem.W.exm_ref exT hdT tyT mmT
  have mT := PySem.W.mg_of X G aIT
  have ML : Mk K C fI := ⟨mkC, iniC, fnfI, kC⟩
  have MD : Mk K D fF := ⟨mkD, iniD, fnfF, kD⟩
  have D_is_integer := fun_mk (st := s_is_integer) l_is_integer c_is_integer k_is_integer
  have A_is_integer : DefAt K mg "is_integer" s_is_integer ["value"] := ⟨f_is_integer, _, D_is_integer, PySem.W.mg_of X G a_is_integer, D_is_integer.binds (fun _ _ _ _ _ _ us hl => match us, hl with | [_], _ => rfl)⟩
  have D_is_sequence := fun_mk (st := s_is_sequence) l_is_sequence c_is_sequence k_is_sequence
  have A_is_sequence : DefAt K mg "is_sequence" s_is_sequence ["value"] := ⟨f_is_sequence, _, D_is_sequence, PySem.W.mg_of X G a_is_sequence, D_is_sequence.binds (fun _ _ _ _ _ _ us hl => match us, hl with | [_], _ => rfl)⟩
  have D_is_width := fun_mk (st := s_is_width) l_is_width c_is_width k_is_width
  have A_is_width : DefAt K mg "is_width" s_is_width ["value"] := ⟨f_is_width, _, D_is_width, PySem.W.mg_of X G a_is_width, D_is_width.binds (fun _ _ _ _ _ _ us hl => match us, hl with | [_], _ => rfl)⟩
  have D_is_vector := fun_mk (st := s_is_vector) l_is_vector c_is_vector k_is_vector
  have A_is_vector : DefAt K mg "is_vector" s_is_vector ["value", "width"] := ⟨f_is_vector, _, D_is_vector, PySem.W.mg_of X G a_is_vector, D_is_vector.binds (fun _ _ _ _ _ _ us hl => match us, hl with | [_, _], _ => rfl)⟩
  have D_are_vectors := fun_mk (st := s_are_vectors) l_are_vectors c_are_vectors k_are_vectors
  have A_are_vectors : DefAt K mg "are_vectors" s_are_vectors ["value", "width"] := ⟨f_are_vectors, _, D_are_vectors, PySem.W.mg_of X G a_are_vectors, D_are_vectors.binds (fun _ _ _ _ _ _ us hl => match us, hl with | [_, _], _ => rfl)⟩
  have D_added := fun_mk (st := s_added) l_added c_added k_added
  have A_added : DefAt K mg "added" s_added ["vector", "times", "other"] := ⟨f_added, _, D_added, PySem.W.mg_of X G a_added, D_added.binds (fun _ _ _ _ _ _ us hl => match us, hl with | [_, _, _], _ => rfl)⟩
  have D_pivot_of := fun_mk (st := s_pivot_of) l_pivot_of c_pivot_of k_pivot_of
  have A_pivot_of : DefAt K mg "pivot_of" s_pivot_of ["vector"] := ⟨f_pivot_of, _, D_pivot_of, PySem.W.mg_of X G a_pivot_of, D_pivot_of.binds (fun _ _ _ _ _ _ us hl => match us, hl with | [_], _ => rfl)⟩
  have D_is_zero := fun_mk (st := s_is_zero) l_is_zero c_is_zero k_is_zero
  have A_is_zero : DefAt K mg "is_zero" s_is_zero ["vector"] := ⟨f_is_zero, _, D_is_zero, PySem.W.mg_of X G a_is_zero, D_is_zero.binds (fun _ _ _ _ _ _ us hl => match us, hl with | [_], _ => rfl)⟩
  have D_reduced_by := fun_mk (st := s_reduced_by) l_reduced_by c_reduced_by k_reduced_by
  have A_reduced_by : DefAt K mg "reduced_by" s_reduced_by ["basis", "vector"] := ⟨f_reduced_by, _, D_reduced_by, PySem.W.mg_of X G a_reduced_by, D_reduced_by.binds (fun _ _ _ _ _ _ us hl => match us, hl with | [_, _], _ => rfl)⟩
  have D_cleared := fun_mk (st := s_cleared) l_cleared c_cleared k_cleared
  have A_cleared : DefAt K mg "cleared" s_cleared ["row", "vector", "at"] := ⟨f_cleared, _, D_cleared, PySem.W.mg_of X G a_cleared, D_cleared.binds (fun _ _ _ _ _ _ us hl => match us, hl with | [_, _, _], _ => rfl)⟩
  have D_stepped := fun_mk (st := s_stepped) l_stepped c_stepped k_stepped
  have A_stepped : DefAt K mg "stepped" s_stepped ["steps", "vector"] := ⟨f_stepped, _, D_stepped, PySem.W.mg_of X G a_stepped, D_stepped.binds (fun _ _ _ _ _ _ us hl => match us, hl with | [_, _], _ => rfl)⟩
  have D_positive := fun_mk (st := s_positive) l_positive c_positive k_positive
  have A_positive : DefAt K mg "positive" s_positive ["row"] := ⟨f_positive, _, D_positive, PySem.W.mg_of X G a_positive, D_positive.binds (fun _ _ _ _ _ _ us hl => match us, hl with | [_], _ => rfl)⟩
  have D_tidied := fun_mk (st := s_tidied) l_tidied c_tidied k_tidied
  have A_tidied : DefAt K mg "tidied" s_tidied ["steps"] := ⟨f_tidied, _, D_tidied, PySem.W.mg_of X G a_tidied, D_tidied.binds (fun _ _ _ _ _ _ us hl => match us, hl with | [_], _ => rfl)⟩
  have D_grown := fun_mk (st := s_grown) l_grown c_grown k_grown
  have A_grown : DefAt K mg "grown" s_grown ["basis", "vector"] := ⟨f_grown, _, D_grown, PySem.W.mg_of X G a_grown, D_grown.binds (fun _ _ _ _ _ _ us hl => match us, hl with | [_, _], _ => rfl)⟩
  have D_written := fun_mk (st := s_written) l_written c_written k_written
  have A_written : DefAt K mg "written" s_written ["vector"] := ⟨f_written, _, D_written, PySem.W.mg_of X G a_written, D_written.binds (fun _ _ _ _ _ _ us hl => match us, hl with | [_], _ => rfl)⟩
  have D_read_number := fun_mk (st := s_read_number) l_read_number c_read_number k_read_number
  have A_read_number : DefAt K mg "read_number" s_read_number ["word", "digits"] := ⟨f_read_number, _, D_read_number, PySem.W.mg_of X G a_read_number, D_read_number.binds (fun _ _ _ _ _ _ us hl => match us, hl with | [_, _], _ => rfl)⟩
  have D_read_vectors := fun_mk (st := s_read_vectors) l_read_vectors c_read_vectors k_read_vectors
  have A_read_vectors : DefAt K mg "read_vectors" s_read_vectors ["words"] := ⟨f_read_vectors, _, D_read_vectors, PySem.W.mg_of X G a_read_vectors, D_read_vectors.binds (fun _ _ _ _ _ _ us hl => match us, hl with | [_], _ => rfl)⟩
  have D_law_box := fun_mk (st := s_law_box) l_law_box c_law_box k_law_box
  have A_law_box : DefAt K mg "_law_box" s_law_box ["_law_script", "_law_k", "_law_own"] := ⟨f_law_box, _, D_law_box, PySem.W.mg_of X G a_law_box, D_law_box.binds (fun _ _ _ _ _ _ us hl => match us, hl with | [_, _, _], _ => rfl)⟩
  have D_law_take := fun_mk (st := s_law_take) l_law_take c_law_take k_law_take
  have A_law_take : DefAt K mg "_law_take" s_law_take ["_law_box_here", "_law_many"] := ⟨f_law_take, _, D_law_take, PySem.W.mg_of X G a_law_take, D_law_take.binds (fun _ _ _ _ _ _ us hl => match us, hl with | [_, _], _ => rfl)⟩
  have D_law_pick := fun_mk (st := s_law_pick) l_law_pick c_law_pick k_law_pick
  have A_law_pick : DefAt K mg "_law_pick" s_law_pick ["_law_box_here", "_law_items"] := ⟨f_law_pick, _, D_law_pick, PySem.W.mg_of X G a_law_pick, D_law_pick.binds (fun _ _ _ _ _ _ us hl => match us, hl with | [_, _], _ => rfl)⟩
  have D_law_small := fun_mk (st := s_law_small) l_law_small c_law_small k_law_small
  have A_law_small : DefAt K mg "_law_small" s_law_small ["_law_box_here"] := ⟨f_law_small, _, D_law_small, PySem.W.mg_of X G a_law_small, D_law_small.binds (fun _ _ _ _ _ _ us hl => match us, hl with | [_], _ => rfl)⟩
  have D_law_number := fun_mk (st := s_law_number) l_law_number c_law_number k_law_number
  have A_law_number : DefAt K mg "_law_number" s_law_number ["_law_box_here"] := ⟨f_law_number, _, D_law_number, PySem.W.mg_of X G a_law_number, D_law_number.binds (fun _ _ _ _ _ _ us hl => match us, hl with | [_], _ => rfl)⟩
  have D_law_rows := fun_mk (st := s_law_rows) l_law_rows c_law_rows k_law_rows
  have A_law_rows : DefAt K mg "_law_rows" s_law_rows ["_law_box_here", "_law_width", "_law_many", "_law_is_great"] := ⟨f_law_rows, _, D_law_rows, PySem.W.mg_of X G a_law_rows, D_law_rows.binds (fun _ _ _ _ _ _ us hl => match us, hl with | [_, _, _, _], _ => rfl)⟩
  have D_law_line := fun_mk (st := s_law_line) l_law_line c_law_line k_law_line
  have A_law_line : DefAt K mg "_law_line" s_law_line ["_law_vectors"] := ⟨f_law_line, _, D_law_line, PySem.W.mg_of X G a_law_line, D_law_line.binds (fun _ _ _ _ _ _ us hl => match us, hl with | [_], _ => rfl)⟩
  have D_law_is_number := fun_mk (st := s_law_is_number) l_law_is_number c_law_is_number k_law_is_number
  have A_law_is_number : DefAt K mg "_law_is_number" s_law_is_number ["_law_word"] := ⟨f_law_is_number, _, D_law_is_number, PySem.W.mg_of X G a_law_is_number, D_law_is_number.binds (fun _ _ _ _ _ _ us hl => match us, hl with | [_], _ => rfl)⟩
  have D_law_due := fun_mk (st := s_law_due) l_law_due c_law_due k_law_due
  have A_law_due : DefAt K mg "_law_due" s_law_due ["_law_line_here"] := ⟨f_law_due, _, D_law_due, PySem.W.mg_of X G a_law_due, D_law_due.binds (fun _ _ _ _ _ _ us hl => match us, hl with | [_], _ => rfl)⟩
  have D_law_read := fun_mk (st := s_law_read) l_law_read c_law_read k_law_read
  have A_law_read : DefAt K mg "_law_read" s_law_read ["_law_line_here"] := ⟨f_law_read, _, D_law_read, PySem.W.mg_of X G a_law_read, D_law_read.binds (fun _ _ _ _ _ _ us hl => match us, hl with | [_], _ => rfl)⟩
  have D_law_is_short := fun_mk (st := s_law_is_short) l_law_is_short c_law_is_short k_law_is_short
  have A_law_is_short : DefAt K mg "_law_is_short" s_law_is_short ["_law_vectors"] := ⟨f_law_is_short, _, D_law_is_short, PySem.W.mg_of X G a_law_is_short, D_law_is_short.binds (fun _ _ _ _ _ _ us hl => match us, hl with | [_], _ => rfl)⟩
  have D_law := fun_mk (st := s_law) l_law c_law k_law
  have DR := fun_mk (st := s_Lattice_reduced) l_Lattice_reduced c_Lattice_reduced k_Lattice_reduced
  have bR := DR.binds (ps := ["self", "vector"]) (fun _ _ _ _ _ _ us hl => match us, hl with | [_, _], _ => rfl)
  have DE := fun_mk (st := s_Factors_eq) l_Factors_eq c_Factors_eq k_Factors_eq
  have bE := DE.binds (ps := ["self", "other"]) (fun _ _ _ _ _ _ us hl => match us, hl with | [_, _], _ => rfl)
  have DS := fun_mk (st := s_Factors_str) l_Factors_str c_Factors_str k_Factors_str
  have bS := DS.binds (ps := ["self"]) (fun _ _ _ _ _ _ us hl => match us, hl with | [_], _ => rfl)
  have DU := fun_mk (st := s_Factors_read) l_Factors_read c_Factors_read k_Factors_read
  have bU := DU.binds (ps := ["cls", "text"]) (fun _ _ _ _ _ _ us hl => match us, hl with | [_, _], _ => rfl)
  have DT := fun_mk (st := s_InvalidText_init) l_InvalidText_init c_InvalidText_init k_InvalidText_init
  have bT := DT.binds (ps := ["self", "at"]) (fun _ _ _ _ _ _ us hl => match us, hl with | [_, _], _ => rfl)
  have FI : FunD K "__init__" "Lattice.__init__" (defArgs s_Lattice_init) (defBody s_Lattice_init) (defScope s_Lattice_init) [V.ref t0] [] fI _ := ⟨⟨_, _, _, _, _, _, _, _, _, _, rfl, l_Lattice_init, c_Lattice_init, .inr ⟨(fun z => nomatch z), T0, _, [.ref t0], nT, rfl, lT, rfl, .cons rfl .nil⟩, .inl rfl⟩, k_Lattice_init⟩
  have FF : FunD K "__init__" "Factors.__init__" (defArgs s_Factors_init) (defBody s_Factors_init) (defScope s_Factors_init) [V.non, V.ref t1] [] fF _ := ⟨⟨_, _, _, _, _, _, _, _, _, _, rfl, l_Factors_init, c_Factors_init, .inr ⟨(fun z => nomatch z), T1, _, [.none, .ref t1], nT1, rfl, lT1, rfl, .cons rfl (.cons rfl .nil)⟩, .inl rfl⟩, k_Factors_init⟩
  obtain ⟨d0, v0, b0⟩ := FI.binds1 (ps := ["self", "width", "rows"]) 3 1 (fun z => nomatch z) rfl (fun _ _ _ _ _ _ _ us its hu hi => match us, hu, its, hi with | [_, _, _], _, [_], _ => ⟨_, rfl, rfl⟩)
  cases v0
  obtain ⟨e0, w0, g0⟩ := FF.binds1 (ps := ["self", "width", "point", "rows"]) 4 2 (fun z => nomatch z) rfl (fun _ _ _ _ _ _ _ us its hu hi => match us, hu, its, hi with | [_, _, _, _], _, [_, _], _ => ⟨_, rfl, rfl⟩)
  cases w0
  obtain ⟨e1, w1, g1⟩ := FF.binds1 (ps := ["self", "width", "point", "rows"]) 2 0 (fun z => nomatch z) rfl (fun _ _ _ _ _ _ _ us its hu hi => match us, hu, its, hi with | [_, _], _, [_, _], _ => ⟨_, rfl, rfl⟩)
  obtain ⟨e2, w2, g2⟩ := FF.binds1 (ps := ["self", "width", "point", "rows"]) 3 1 (fun z => nomatch z) rfl (fun _ _ _ _ _ _ _ us its hu hi => match us, hu, its, hi with | [_, _, _], _, [_, _], _ => ⟨_, rfl, rfl⟩)
  have TS : TxtS mg := ⟨T, PySem.W.mg_none_of X G zs⟩
  have it0 : ∀ H, InSeq K H t1 [] := fun H => .kt l1 rfl (fun H => .inr ⟨_, _, _, l1, rfl, rfl, Nat.zero_le _, .nil⟩)
  have g_is_integerG := ok_is_integerG (P := P) (w := w) (base := base) T A_is_integer
  have g_is_sequence := ok_is_sequence (P := P) (w := w) (base := base) T A_is_sequence
  have g_is_integer := ok_is_integer (P := P) (w := w) (base := base) g_is_integerG
  have g_is_width := ok_is_width (P := P) (w := w) (base := base) T g_is_integer A_is_width
  have g_is_vectorG := ok_is_vectorG (P := P) (w := w) (base := base) T g_is_integerG A_is_vector
  have g_is_vector := ok_is_vector (P := P) (w := w) (base := base) g_is_vectorG
  have g_are_vectors := ok_are_vectors (P := P) (w := w) (base := base) T g_is_sequence g_is_vector A_are_vectors
  have g_added := ok_added (P := P) (w := w) (base := base) T A_added
  have g_pivot_of := ok_pivot_of (P := P) (w := w) (base := base) T A_pivot_of
  have g_is_zero := ok_is_zero (P := P) (w := w) (base := base) T g_pivot_of A_is_zero
  have g_reduced_by := ok_reduced_by (P := P) (w := w) (base := base) T g_pivot_of g_added A_reduced_by
  have g_cleared := ok_cleared (P := P) (w := w) (base := base) T g_added A_cleared
  have g_stepped := ok_stepped (P := P) (w := w) (base := base) T g_pivot_of g_cleared g_is_zero A_stepped
  have g_positive := ok_positive (P := P) (w := w) (base := base) T g_pivot_of g_added A_positive
  have g_tidied := ok_tidied (P := P) (w := w) (base := base) T g_positive g_reduced_by A_tidied
  have g_grown := ok_grown (P := P) (w := w) (base := base) T g_reduced_by g_is_zero g_stepped g_tidied A_grown
  have g_box := ok_box (P := P) (w := w) (base := base) T A_law_box
  have g_take := ok_take (P := P) (w := w) (base := base) T A_law_take
  have g_pick := ok_pick (P := P) (w := w) (base := base) T g_take A_law_pick
  have g_small := ok_small (P := P) (w := w) (base := base) T g_take A_law_small
  have g_number := ok_number (P := P) (w := w) (base := base) T g_take A_law_number
  have g_rows := ok_rows (P := P) (w := w) (base := base) T g_take g_small g_number A_law_rows
  have g_written := ok_written (P := P) (w := w) (base := base) TS A_written
  have g_read_number := ok_read_number (P := P) (w := w) (base := base) T A_read_number
  have g_line := ok_line (P := P) (w := w) (base := base) TS A_law_line
  have g_is_number := ok_is_number (P := P) (w := w) (base := base) T A_law_is_number
  have g_due := ok_due (P := P) (w := w) (base := base) T g_is_number A_law_due
  have g_short := ok_short (P := P) (w := w) (base := base) TS A_law_is_short
  have gL := ok_lattice (P := P) (w := w) (base := base) T CL g_is_width g_are_vectors g_grown FI
  have gR := ok_redM (P := P) (w := w) (base := base) CL g_reduced_by DR
  have gF := ok_factors (P := P) (w := w) (base := base) T CL DL ML gL b0 ⟨mR, fnR, k_Lattice_reduced⟩ gR bR g_is_vector FF
  have gE := ok_eqF (P := P) (w := w) (base := base) T DL TD ktT DE
  have gS := ok_strF (P := P) (w := w) (base := base) TS DL g_written DS
  have gT := ok_initT (mg := mg) (P := P) (w := w) (base := base) OXT noT DT
  have gRV := ok_read_vectorsX (P := P) (w := w) (base := base) T OXT inT tiT gT bT mT ⟨_, PySem.W.mg_of X G aDg, dg, rfl⟩ g_read_number A_read_vectors
  have gU0 := ok_readF (P := P) (w := w) (base := base) TS OXT inT tiT gT bT mT MD gF g0 gRV DU
  have gU : FnR P w K mg base (L2.CX P w) 9 fU (spReadF D IT) := (gU0.raw bU .nil).imp fun vs H Q E h => by rw [List.append_nil]; exact h
  have gLR := ok_lread (P := P) (w := w) (base := base) TS DL te mT XT noT ⟨rD, rG⟩ ⟨uC, ⟨_, uR⟩, uF⟩ gU A_law_read
  exact ok_law TS DL TD MD gF g0 g1 w1 g2 w2 it0 mE fnE gE bE mS fnS gS bS ⟨rD, rG⟩ ⟨uC, ⟨_, uR⟩, uF⟩ gU D_law (fun s u _ => .of_eq rfl) g_box g_take g_small g_pick g_rows g_line g_short g_due gLR
end K06

open PySem PySem.W PyProof.Rows in
set_option maxRecDepth 100000 in
set_option maxHeartbeats 0 in
theorem PySem.Challenge.cw_sumlives_k11_texts_of_factors_holds : PySem.Challenge.rw_sumlives_k11_texts_of_factors.Holds := by
  w_on; o_law; k_head; (case hw => w_witness2)
  k_fill
  refine L2.walk_law (l := PySem.Challenge.rw_sumlives_k11_texts_of_factors) (n := 63) (k := 12) (sp := K06.spLaw) rfl (by decide) rfl ⟨rfl, by decide, by decide⟩ (fun w h Y => PySem.W.kIn_of Y) ?F (fun K H a ns hl hS => ⟨a, ns, rfl, hS, hl, fun _ => rfl⟩)
  case F =>
    intro w mg fa h KX G hmg
    refine' K06.facts KX G hmg ?aC ?aD ?pgC ?hdC ?poC ?saC ?mkC ?iniC ?fnfI ?kC ?nCw ?nCb ?pgD ?hdD ?poD ?saD ?mkD ?iniD ?fnfF ?kD ?nDw ?nDp ?nDb ?tS ?tO ?tN ?cA ?cG ?cT ?cK ?ktT ?mR ?fnR ?aIT ?lIT ?rIT ?saT ?inT ?tiT ?noT ?kIT ?exT ?tyT ?gaT ?ggT ?hdT ?mmT ?zs ?aDg ?mE ?fnE ?mS ?fnS ?uA ?uR ?uF ?uC ?rD ?rG ?l_Lattice_init ?c_Lattice_init ?k_Lattice_init ?l_Factors_init ?c_Factors_init ?k_Factors_init ?lT ?l0 ?lT1 ?l1 ?l_Lattice_reduced ?c_Lattice_reduced ?k_Lattice_reduced ?l_Factors_eq ?c_Factors_eq ?k_Factors_eq ?l_Factors_str ?c_Factors_str ?k_Factors_str ?l_Factors_read ?c_Factors_read ?k_Factors_read ?l_InvalidText_init ?c_InvalidText_init ?k_InvalidText_init ?a_is_integer ?l_is_integer ?c_is_integer ?k_is_integer ?a_is_sequence ?l_is_sequence ?c_is_sequence ?k_is_sequence ?a_is_width ?l_is_width ?c_is_width ?k_is_width ?a_is_vector ?l_is_vector ?c_is_vector ?k_is_vector ?a_are_vectors ?l_are_vectors ?c_are_vectors ?k_are_vectors ?a_added ?l_added ?c_added ?k_added ?a_pivot_of ?l_pivot_of ?c_pivot_of ?k_pivot_of ?a_is_zero ?l_is_zero ?c_is_zero ?k_is_zero ?a_reduced_by ?l_reduced_by ?c_reduced_by ?k_reduced_by ?a_cleared ?l_cleared ?c_cleared ?k_cleared ?a_stepped ?l_stepped ?c_stepped ?k_stepped ?a_positive ?l_positive ?c_positive ?k_positive ?a_tidied ?l_tidied ?c_tidied ?k_tidied ?a_grown ?l_grown ?c_grown ?k_grown ?a_written ?l_written ?c_written ?k_written ?a_read_number ?l_read_number ?c_read_number ?k_read_number ?a_read_vectors ?l_read_vectors ?c_read_vectors ?k_read_vectors ?a_law_box ?l_law_box ?c_law_box ?k_law_box ?a_law_take ?l_law_take ?c_law_take ?k_law_take ?a_law_pick ?l_law_pick ?c_law_pick ?k_law_pick ?a_law_small ?l_law_small ?c_law_small ?k_law_small ?a_law_number ?l_law_number ?c_law_number ?k_law_number ?a_law_rows ?l_law_rows ?c_law_rows ?k_law_rows ?a_law_line ?l_law_line ?c_law_line ?k_law_line ?a_law_is_number ?l_law_is_number ?c_law_is_number ?k_law_is_number ?a_law_due ?l_law_due ?c_law_due ?k_law_due ?a_law_read ?l_law_read ?c_law_read ?k_law_read ?a_law_is_short ?l_law_is_short ?c_law_is_short ?k_law_is_short ?a_law ?l_law ?c_law ?k_law ?z_len ?z_abs ?z_int ?z_max ?z_min ?z_range ?z_enumerate ?z_isinstance ?z_repr ?z_zip ?z_sum ?z_all ?z_tuple ?z_list ?z_bool ?z_sorted ?z_dict
    (case aC => k_is)
    (case aD => k_is)
    (case pgC => k_is)
    (case hdC => k_is)
    (case poC => k_is)
    (case saC => k_is)
    (case mkC => k_is)
    (case iniC => k_is)
    (case fnfI => k_is)
    (case kC => k_is)
    (case nCw => k_is)
    (case nCb => k_is)
    (case pgD => k_is)
    (case hdD => k_is)
    (case poD => k_is)
    (case saD => k_is)
    (case mkD => k_is)
    (case iniD => k_is)
    (case fnfF => k_is)
    (case kD => k_is)
    (case nDw => k_is)
    (case nDp => k_is)
    (case nDb => k_is)
    (case tS => k_is)
    (case tO => k_is)
    (case tN => k_is)
    (case cA => k_is)
    (case cG => k_is)
    (case cT => k_is)
    (case cK => exact if_pos (beq_self_eq_true _))
    (case ktT => kit_is)
    (case mR => k_is)
    (case fnR => k_is)
    (case aIT => k_is)
    (case lIT => k_is)
    (case rIT => exact (by decide +kernel))
    (case saT => k_is)
    (case inT => k_is)
    (case tiT => k_is)
    (case noT => k_is)
    (case kIT => k_is)
    (case exT => k_is)
    (case tyT => k_is)
    (case gaT => k_is)
    (case ggT => k_is)
    (case hdT => k_is)
    (case mmT => first | rfl | k_is)
    (case zs => k_is)
    (case aDg => k_is)
    (case mE => k_is)
    (case fnE => k_is)
    (case mS => k_is)
    (case fnS => k_is)
    (case uA => k_is)
    (case uR => k_is)
    (case uF => k_is)
    (case uC => k_is)
    (case rD => k_is)
    (case rG => k_is)
    (case l_Lattice_init => k_is)
    (case c_Lattice_init => k_is)
    (case k_Lattice_init => k_is)
    (case l_Factors_init => k_is)
    (case c_Factors_init => k_is)
    (case k_Factors_init => k_is)
    (case lT => k_is)
    (case l0 => k_is)
    (case lT1 => k_is)
    (case l1 => k_is)
    (case l_Lattice_reduced => k_is)
    (case c_Lattice_reduced => k_is)
    (case k_Lattice_reduced => k_is)
    (case l_Factors_eq => k_is)
    (case c_Factors_eq => k_is)
    (case k_Factors_eq => k_is)
    (case l_Factors_str => k_is)
    (case c_Factors_str => k_is)
    (case k_Factors_str => k_is)
    (case l_Factors_read => k_is)
    (case c_Factors_read => k_is)
    (case k_Factors_read => k_is)
    (case l_InvalidText_init => k_is)
    (case c_InvalidText_init => k_is)
    (case k_InvalidText_init => k_is)
    (case a_is_integer => k_is)
    (case l_is_integer => k_is)
    (case c_is_integer => k_is)
    (case k_is_integer => k_is)
    (case a_is_sequence => k_is)
    (case l_is_sequence => k_is)
    (case c_is_sequence => k_is)
    (case k_is_sequence => k_is)
    (case a_is_width => k_is)
    (case l_is_width => k_is)
    (case c_is_width => k_is)
    (case k_is_width => k_is)
    (case a_is_vector => k_is)
    (case l_is_vector => k_is)
    (case c_is_vector => k_is)
    (case k_is_vector => k_is)
    (case a_are_vectors => k_is)
    (case l_are_vectors => k_is)
    (case c_are_vectors => k_is)
    (case k_are_vectors => k_is)
    (case a_added => k_is)
    (case l_added => k_is)
    (case c_added => k_is)
    (case k_added => k_is)
    (case a_pivot_of => k_is)
    (case l_pivot_of => k_is)
    (case c_pivot_of => k_is)
    (case k_pivot_of => k_is)
    (case a_is_zero => k_is)
    (case l_is_zero => k_is)
    (case c_is_zero => k_is)
    (case k_is_zero => k_is)
    (case a_reduced_by => k_is)
    (case l_reduced_by => k_is)
    (case c_reduced_by => k_is)
    (case k_reduced_by => k_is)
    (case a_cleared => k_is)
    (case l_cleared => k_is)
    (case c_cleared => k_is)
    (case k_cleared => k_is)
    (case a_stepped => k_is)
    (case l_stepped => k_is)
    (case c_stepped => k_is)
    (case k_stepped => k_is)
    (case a_positive => k_is)
    (case l_positive => k_is)
    (case c_positive => k_is)
    (case k_positive => k_is)
    (case a_tidied => k_is)
    (case l_tidied => k_is)
    (case c_tidied => k_is)
    (case k_tidied => k_is)
    (case a_grown => k_is)
    (case l_grown => k_is)
    (case c_grown => k_is)
    (case k_grown => k_is)
    (case a_written => k_is)
    (case l_written => k_is)
    (case c_written => k_is)
    (case k_written => k_is)
    (case a_read_number => k_is)
    (case l_read_number => k_is)
    (case c_read_number => k_is)
    (case k_read_number => k_is)
    (case a_read_vectors => k_is)
    (case l_read_vectors => k_is)
    (case c_read_vectors => k_is)
    (case k_read_vectors => k_is)
    (case a_law_box => k_is)
    (case l_law_box => k_is)
    (case c_law_box => k_is)
    (case k_law_box => k_is)
    (case a_law_take => k_is)
    (case l_law_take => k_is)
    (case c_law_take => k_is)
    (case k_law_take => k_is)
    (case a_law_pick => k_is)
    (case l_law_pick => k_is)
    (case c_law_pick => k_is)
    (case k_law_pick => k_is)
    (case a_law_small => k_is)
    (case l_law_small => k_is)
    (case c_law_small => k_is)
    (case k_law_small => k_is)
    (case a_law_number => k_is)
    (case l_law_number => k_is)
    (case c_law_number => k_is)
    (case k_law_number => k_is)
    (case a_law_rows => k_is)
    (case l_law_rows => k_is)
    (case c_law_rows => k_is)
    (case k_law_rows => k_is)
    (case a_law_line => k_is)
    (case l_law_line => k_is)
    (case c_law_line => k_is)
    (case k_law_line => k_is)
    (case a_law_is_number => k_is)
    (case l_law_is_number => k_is)
    (case c_law_is_number => k_is)
    (case k_law_is_number => k_is)
    (case a_law_due => k_is)
    (case l_law_due => k_is)
    (case c_law_due => k_is)
    (case k_law_due => k_is)
    (case a_law_read => k_is)
    (case l_law_read => k_is)
    (case c_law_read => k_is)
    (case k_law_read => k_is)
    (case a_law_is_short => k_is)
    (case l_law_is_short => k_is)
    (case c_law_is_short => k_is)
    (case k_law_is_short => k_is)
    (case a_law => k_is)
    (case l_law => k_is)
    (case c_law => k_is)
    (case k_law => k_is)
    (case z_len => k_is)
    (case z_abs => k_is)
    (case z_int => k_is)
    (case z_max => k_is)
    (case z_min => k_is)
    (case z_range => k_is)
    (case z_enumerate => k_is)
    (case z_isinstance => k_is)
    (case z_repr => k_is)
    (case z_zip => k_is)
    (case z_sum => k_is)
    (case z_all => k_is)
    (case z_tuple => k_is)
    (case z_list => k_is)
    (case z_bool => k_is)
    (case z_sorted => k_is)
    (case z_dict => k_is)
