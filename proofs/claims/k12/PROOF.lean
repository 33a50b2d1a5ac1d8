import PyProof.Rows.All
import Wide.All
import OpenK.AllK
import Wide.FinOn
import HandS.ForMost
import HandS.OwnEq
import HandS.Zip
import HandS.Walk
import HandS.Star
import HandS.Style
import HandS.Gcd
import HandS.WideBits
import HandS.IsInst
import HandS.Defaults
import HandS.RaiseMore
import KE.GoesMore
import HandS.ForExc
import HandS.ExcIs
import HandS.Wide
import HandS.Codes
import KE.GoesZip
import HandS.IterVal
import HandS.ClsMeth
import HandS.Small
import HandS.TupMul
import HandS.List
import HandS.TupAny
import HandS.Property
import KE.KCallOwn
import HandS.Text
import HandS.StrMore
import PyProof.Rows.ReprOcc
import PyProof.Rows.StrAscii
import HandS.Records
import PySem.Challenge.RW_sumlives_k12_whole_systems_go_together
set_option Elab.async false
set_option maxRecDepth 100000
set_option maxHeartbeats 8000000
namespace L2
open PySem PySem.Spec PyProof.Rows
/-! ### x in o, o | p, o <= p by the class's own methods -/
section
variable {X : Cx}
/-- what a call of an own method by a sign gives -/
theorem run_own {CX : CXT} {k : Nat} {g : Addr} {fd : FuncData} {ps : List Str} {sp : Sp} {E : XK} {pins : List (Addr × Obj)} {s : Shared} {σ : St} {H : Hp} {vs : List V} {us : List Value} {Q : VK} {R : Value → Shared → Prop} (F : FnOk X.prog X.w X.K X.mg X.base CX k g fd ps sp) (hr : Room k X.A) (hb : Binds X.K fd ps []) (hx : Passes CX X E)
    (I : Inv X pins σ H s) (r : Vals vs us) (q : sp vs H Q E) (hR : ∀ (w : Value) (z : V) (s' : Shared) (H' : Hp), Inv X pins σ H' s' → RelV z w → Q z H' → R w s') : wpAny (model X.prog X.w) X.A (call (.ref g) us) R X.xe s := by
  have hl := F.len _ _ _ _ q
  refine wpAny_call (codeAny_mono (F.run X.A X.stack s H ⟨us, []⟩ us vs _ E hr I.env0 (by
    have := hb s us I.kIn (by rw [List.append_nil, ← r.length]; exact hl)
    simpa using this) r q) fun r' s' hq => ?_)
  cases r' with
  | error e => exact hx pins σ H s e s' I hq
  | ok fl =>
    cases fl with
    | ret w =>
      obtain ⟨z, H', I', rz, q'⟩ := I.after hq
      exact hR w z s' H' I' rz q'
    | next => exact False.elim hq
    | brk => exact False.elim hq
    | cont => exact False.elim hq
def rInO (C : Addr) (sp : Sp) (E : XK) (n : Bool) : R2 := fun x y H Q => ∃ a dx fs, y = .ref a ∧ H a = some (.ins C dx fs) ∧ sp [.ref a, x] H (fun r H' => ∃ b, r = .bl b ∧ Q (.bl (n != b)) H') E
variable {CX : CXT} {C g : Addr} {k : Nat} {fd : FuncData} {ps : List Str} {sp : Sp} {E : XK}
theorem op_inO (F : FnOk X.prog X.w X.K X.mg X.base CX k g fd ps sp) (hs : PySem.W.findIn X.K (.ref C) "__contains__" = some (some (.ref g))) (hf : PySem.W.isFn X.K (.ref g) = true) (hr : Room k X.A) (hb : Binds X.K fd ps []) (hx : Passes CX X E) : OpR X (compareOp .In) (rInO C sp E false) := by
  intro pins s σ H x y v u Q I rx ry h
  obtain ⟨a, dx, fs, rfl, ha, q⟩ := h
  cases ry
  obtain ⟨mA, J, _⟩ := ins_get I.hok ha
  obtain ⟨od, J, _⟩ := J.look
  obtain ⟨m, hF⟩ := I.fr
  refine PySem.W.in_K hF I.ok.mod.kin J hs hf ?_
  refine run_own F hr hb hx I (show Vals [V.ref a, x] [Value.ref a, v] from .cons rfl (.cons rx .nil)) q fun w z s' H' I' rz qz => ?_
  obtain ⟨b, rfl, qb⟩ := qz
  cases rz
  refine wpAny_truthy_bool ⟨.bl b, H', I', rfl, ?_⟩
  cases b <;> exact qb
theorem op_notInO (F : FnOk X.prog X.w X.K X.mg X.base CX k g fd ps sp) (hs : PySem.W.findIn X.K (.ref C) "__contains__" = some (some (.ref g))) (hf : PySem.W.isFn X.K (.ref g) = true) (hr : Room k X.A) (hb : Binds X.K fd ps []) (hx : Passes CX X E) : OpR X (compareOp .NotIn) (rInO C sp E true) := by
  intro pins s σ H x y v u Q I rx ry h
  obtain ⟨a, dx, fs, rfl, ha, q⟩ := h
  cases ry
  obtain ⟨mA, J, _⟩ := ins_get I.hok ha
  obtain ⟨od, J, _⟩ := J.look
  obtain ⟨m, hF⟩ := I.fr
  refine PySem.W.notIn_K hF I.ok.mod.kin J hs hf ?_
  refine run_own F hr hb hx I (show Vals [V.ref a, x] [Value.ref a, v] from .cons rfl (.cons rx .nil)) q fun w z s' H' I' rz qz => ?_
  obtain ⟨b, rfl, qb⟩ := qz
  cases rz
  refine wpAny_truthy_bool ⟨.bl (!b), H', I', rfl, ?_⟩
  cases b <;> exact qb
end
end L2

namespace PySem.W
open PySem PySem.Calls PyProof.Rows Builtin
section
variable {prog : Program} {w : World} {A : Around} {E : Value → Shared → Prop} {s : Shared} {K : Frag} {x C L f : Addr} {h₀ : Heap} {m : Str → Option Value} {ox : Obj} {od : Option Obj} {b : Value}
/-- x != y by the class's own ==: object's own __ne__ asks it -/
theorem call_ne_own {Q : Value → Shared → Prop} (hu : A.units + 2 < cLine) (X : K.In s.heap) (I : InstAt s.heap x ox C od) (hm : mroIn K C (.type "object") = some true) (hs : findIn K (.ref C) "__eq__" = some (some (.ref f))) (hf : isFn K (.ref f) = true)
    (h : wpAny (model prog w) A.in1 (call (.ref f) [.ref x, b]) (fun v s' => ∃ r, v = .bool r ∧ Q (.bool (!r)) s') E s) : wpAny (model prog w) A (call (.builtin "object.__ne__") [.ref x, b]) Q E s := by
  have LI : Looks (model prog w) s.heap (isInstance (.ref x) (.type "object")) true := I.type.andThen (looks_mroIn X hm)
  refine wpAny_call (codeAny_call_builtin F.slot_object_ne.plain F.entry_object_ne (check_slot (i := "object.__ne__") (owner := "object") (n := "__ne__") (self := .ref x) (rest := [b]) (kw := []) (by decide +kernel) (by decide +kernel) LI (F.args_object_ne_2 _ _) ?_))
  show wpAny _ _ (Builtin.«object.__ne__» ⟨[.ref x, b], []⟩) _ _ s
  unfold Builtin.«object.__ne__»
  refine wpAny_bind (wpAny_pure ?_)
  refine wpAny_bind (wpAny_cRoomFor (show A.units + 1 < cLine by omega) ?_)
  refine wpAny_bind (ifBound_K X I hs hf (wpAny_mono h (fun v s' q => ?_) fun _ _ z => z))
  obtain ⟨r, rfl, q⟩ := q
  exact wpAny_bind (wpAny_truthy_bool (wpAny_pure q))
theorem ne_own {Q : Value → Shared → Prop} {tb : Value} (hu : A.units + 2 < cLine) (F : Fr h₀ L s.heap m) (X₀ : K.In h₀) (I : InstAt s.heap x ox C od) (hb : Looks (model prog w) s.heap (typeOf b) tb) (hn : notFirst K C tb = true) (hm : mroIn K C (.type "object") = some true)
    (hne : findIn K (.ref C) "__ne__" = some (some (.builtin "object.__ne__"))) (hs : findIn K (.ref C) "__eq__" = some (some (.ref f))) (hf : isFn K (.ref f) = true)
    (h : wpAny (model prog w) A.in1 (call (.ref f) [.ref x, b]) (fun v s' => ∃ r, v = .bool r ∧ Q (.bool (!r)) s') E s) : wpAny (model prog w) A (richCompare .NotEq (.ref x) b) Q E s := by
  have X := X₀.keeps F.keep
  have bd : bindSpecial (.builtin "object.__ne__") (.ref x) = pure (.builtin "object.__ne__", [.ref x]) := _root_.PySem.F.slot_object_ne.bind _
  have asked := call_ne_own (prog := prog) (w := w) (A := A) (b := b) (Q := fun v s' => ∃ r, v = Value.bool r ∧ Q (.bool r) s') hu X I hm hs hf (wpAny_mono h (fun v s' z => by
    obtain ⟨r, e, q⟩ := z
    exact ⟨r, e, !r, rfl, q⟩) fun _ _ e => e)
  have bound : wpAny (model prog w) A (callSpecialIfBound? (.ref x) (cmpInfo .NotEq).2.1 [b]) (fun r s' => ∃ v, r = some (Value.bool v) ∧ Q (.bool v) s') E s := by
    simp only [bindSpecialIfBound?, callSpecialIfBound?]
    have goes : wpAny (model prog w) A (call (.builtin "object.__ne__") ([.ref x] ++ [b]) >>= fun u => pure (some u)) (fun r s' => ∃ v, r = some (Value.bool v) ∧ Q (.bool v) s') E s := by
      refine wpAny_bind (wpAny_mono asked (fun v s' z => ?_) fun _ _ e => e)
      obtain ⟨r, rfl, q⟩ := z
      exact wpAny_pure ⟨r, rfl, q⟩
    refine wpAny_holding (wpAny_bind (wpAny_bind (wpAny_bind (I.type.here ((looks_findIn X hne).here ?_)))))
    refine wpAny_bind (wpAny_askSetting (wpAny_ite ?_))
    rw [bd]
    split
    · exact wpAny_bind (wpAny_pure (wpAny_pure (by exact goes)))
    · exact wpAny_tryCatch (wpAny_bind (wpAny_pure (wpAny_pure (by exact goes))))
  have one : wpAny (model prog w) A (tryCompare (.ref x) (cmpInfo .NotEq).2.1 b) (fun r s' => ∃ v, r = some v ∧ Q v s') E s := by
    unfold tryCompare
    refine wpAny_bind (wpAny_mono bound (fun r s' z => ?_) fun _ _ e => e)
    obtain ⟨v, rfl, q⟩ := z
    exact wpAny_pure ⟨_, rfl, q⟩
  unfold richCompare
  simp only [oneThing_ref]
  refine wpAny_holding (wpAny_bind (wpAny_cRoomFor (show A.units < cLine by omega) ?_))
  refine wpAny_bind (I.type.here (wpAny_bind (hb.here ?_)))
  split
  · rename_i q
    have e : subIn K tb (.ref C) = some false := by
      rcases Bool.or_eq_true_iff.mp hn with e | e
      · rw [beq_iff_eq.mp e] at q; simp at q
      · exact beq_iff_eq.mp e
    refine wpAny_bind ((looks_subIn X e).here ?_)
    rw [if_neg (by decide)]
    refine wpAny_bind (wpAny_mono one (fun r s' z => ?_) fun _ _ e => e)
    obtain ⟨v, rfl, hq⟩ := z
    exact wpAny_pure hq
  · refine wpAny_bind (wpAny_pure ?_)
    rw [if_neg (by decide)]
    refine wpAny_bind (wpAny_mono one (fun r s' z => ?_) fun _ _ e => e)
    obtain ⟨v, rfl, hq⟩ := z
    exact wpAny_pure hq
end
end PySem.W
namespace L2
open PySem PySem.Spec PyProof.Rows
section
variable {X : Cx} {CX : CXT} {C g : Addr} {k : Nat} {fd : FuncData} {ps : List Str} {sp : Sp} {E : XK}
/-- what the class's facts say beside its attributes -/
structure Two (K : PySem.W.Frag) (C : Addr) : Prop where
  self : PySem.W.selfFirst K C = true
  obj : PySem.W.mroIn K C (.type "object") = some true
  ne : PySem.W.findIn K (.ref C) "__ne__" = some (some (.builtin "object.__ne__"))
theorem run_own1 {pins : List (Addr × Obj)} {s : Shared} {σ : St} {H : Hp} {vs : List V} {us : List Value} {Q : VK} {R : Value → Shared → Prop} {A : Around} (F : FnOk X.prog X.w X.K X.mg X.base CX k g fd ps sp) (hr : Room k A) (hA : A.frames = X.A.frames) (hb : Binds X.K fd ps []) (hx : Passes CX X E)
    (I : Inv X pins σ H s) (r : Vals vs us) (q : sp vs H Q E) (hR : ∀ (w : Value) (z : V) (s' : Shared) (H' : Hp), Inv X pins σ H' s' → RelV z w → Q z H' → R w s') : wpAny (model X.prog X.w) A (call (.ref g) us) R X.xe s := by
  have hl := F.len _ _ _ _ q
  have e0 : Env0 X.prog X.w X.K X.mg X.base A X.stack s H := by
    have e := I.env0
    exact ⟨hA.trans e.frames, e.mod, e.bs, e.bsz, e.funs, e.frf, e.hok, e.bare⟩
  refine wpAny_call (codeAny_mono (F.run A X.stack s H ⟨us, []⟩ us vs _ E hr e0 (by
    have := hb s us I.kIn (by rw [List.append_nil, ← r.length]; exact hl)
    simpa using this) r q) fun r' s' hq => ?_)
  cases r' with
  | error e => exact hx pins σ H s e s' I hq
  | ok fl =>
    cases fl with
    | ret w =>
      obtain ⟨z, H', I', rz, q'⟩ := I.after hq
      exact hR w z s' H' I' rz q'
    | next => exact False.elim hq
    | brk => exact False.elim hq
    | cont => exact False.elim hq
def rOrO (C : Addr) (sp : Sp) (E : XK) : R2 := fun x y H Q => ∃ a dx fs b dy gs, x = .ref a ∧ H a = some (.ins C dx fs) ∧ y = .ref b ∧ H b = some (.ins C dy gs) ∧ sp [.ref a, .ref b] H (fun r H' => ∃ p, r = .ref p ∧ Q (.ref p) H') E
theorem op_orO (t : Two X.K C) (F : FnOk X.prog X.w X.K X.mg X.base CX k g fd ps sp) (hs : PySem.W.findIn X.K (.ref C) "__or__" = some (some (.ref g))) (hf : PySem.W.isFn X.K (.ref g) = true) (hr : Room k X.A) (hb : Binds X.K fd ps []) (hx : Passes CX X E) : OpR X (binaryOp .BitOr) (rOrO C sp E) := by
  intro pins s σ H x y v u Q I rx ry h
  obtain ⟨a, dx, fs, b, dy, gs, rfl, ha, rfl, hb', q⟩ := h
  cases rx
  cases ry
  obtain ⟨mA, J, _⟩ := ins_get I.hok ha
  obtain ⟨mB, J', _⟩ := ins_get I.hok hb'
  obtain ⟨od, J, _⟩ := J.look
  obtain ⟨od', J', _⟩ := J'.look
  obtain ⟨m, hF⟩ := I.fr
  refine PySem.W.binop_K (op := .BitOr) hF I.ok.mod.kin J J'.type t.self hs hf ?_
  refine run_own F hr hb hx I (show Vals [V.ref a, V.ref b] [Value.ref a, Value.ref b] from .cons rfl (.cons rfl .nil)) q fun w z s' H' I' rz qz => ?_
  obtain ⟨p, rfl, qp⟩ := qz
  cases rz
  exact ⟨.ref p, H', I', rfl, qp⟩
def rCmpO (C : Addr) (sp : Sp) (E : XK) (n : Bool) : R2 := fun x y H Q => ∃ a dx fs b dy gs, x = .ref a ∧ H a = some (.ins C dx fs) ∧ y = .ref b ∧ H b = some (.ins C dy gs) ∧ sp [.ref a, .ref b] H (fun r H' => ∃ c, r = .bl c ∧ Q (.bl (n != c)) H') E
theorem op_cmpO {op : CmpOp} {nm : Str} (hop : (PySem.cmpInfo op).2.1 = nm) (hcmp : ∀ a b, compareOp op a b = richCompare op a b) (F : FnOk X.prog X.w X.K X.mg X.base CX k g fd ps sp) (hs : PySem.W.findIn X.K (.ref C) nm = some (some (.ref g))) (hf : PySem.W.isFn X.K (.ref g) = true) (hr : Room k X.A) (hb : Binds X.K fd ps []) (hx : Passes CX X E) :
    OpR X (compareOp op) (rCmpO C sp E false) := by
  intro pins s σ H x y v u Q I rx ry h
  obtain ⟨a, dx, fs, b, dy, gs, rfl, ha, rfl, hb', q⟩ := h
  cases rx
  cases ry
  obtain ⟨mA, J, _⟩ := ins_get I.hok ha
  obtain ⟨mB, J', _⟩ := ins_get I.hok hb'
  obtain ⟨od, J, _⟩ := J.look
  obtain ⟨od', J', _⟩ := J'.look
  obtain ⟨m, hF⟩ := I.fr
  rw [hcmp]
  subst hop
  refine PySem.W.cmp_K (op := op) (tb := .ref C) hr.units0 hF I.ok.mod.kin J J'.type (by simp [PySem.W.notFirst]) hs hf ?_
  refine run_own F hr hb hx I (show Vals [V.ref a, V.ref b] [Value.ref a, Value.ref b] from .cons rfl (.cons rfl .nil)) q fun w z s' H' I' rz qz => ?_
  obtain ⟨c, rfl, qc⟩ := qz
  cases rz
  refine ⟨.bl c, H', I', rfl, ?_⟩
  cases c <;> exact qc
theorem op_neO (t : Two X.K C) (F : FnOk X.prog X.w X.K X.mg X.base CX k g fd ps sp) (hs : PySem.W.findIn X.K (.ref C) "__eq__" = some (some (.ref g))) (hf : PySem.W.isFn X.K (.ref g) = true) (hr : Room (k + 1) X.A) (hb : Binds X.K fd ps []) (hx : Passes CX X E) : OpR X (compareOp .NotEq) (rCmpO C sp E true) := by
  intro pins s σ H x y v u Q I rx ry h
  obtain ⟨a, dx, fs, b, dy, gs, rfl, ha, rfl, hb', q⟩ := h
  cases rx
  cases ry
  obtain ⟨mA, J, _⟩ := ins_get I.hok ha
  obtain ⟨mB, J', _⟩ := ins_get I.hok hb'
  obtain ⟨od, J, _⟩ := J.look
  obtain ⟨od', J', _⟩ := J'.look
  obtain ⟨m, hF⟩ := I.fr
  refine PySem.W.ne_own (tb := .ref C) (show X.A.units + 2 < cLine from Nat.lt_of_le_of_lt (Nat.add_le_add_left (by decide : 2 ≤ 64) _) hr.units) hF I.ok.mod.kin J J'.type (by simp [PySem.W.notFirst]) t.obj t.ne hs hf ?_
  refine run_own1 F hr.in1 rfl hb hx I (show Vals [V.ref a, V.ref b] [Value.ref a, Value.ref b] from .cons rfl (.cons rfl .nil)) q fun w z s' H' I' rz qz => ?_
  obtain ⟨c, rfl, qc⟩ := qz
  cases rz
  refine ⟨c, rfl, .bl (!c), H', I', rfl, ?_⟩
  cases c <;> exact qc
end
end L2

namespace L2
open PySem PySem.Spec PyProof.Rows RZ
section
variable {X : Cx}
/-- // by any number but 0 that the model divides itself -/
def CDivZ (i j : Int) : Prop := j ≠ 0 ∧ Builtin.divisionGoesByPylong i j = false
theorem op_fdivZ : OpR X (binaryOp .FloorDiv) (rI CDivZ fun i j => .int (i.fdiv j)) := opI fun _ _ _ _ _ _ _ hc q => floordiv_int hc.1 q (.inl hc.2)
/-- a for over a list or a tuple -/
def iSeq (K : PySem.W.Frag) (t : TE) : TI := fun σ H R => iList K t σ H R ∨ iTup K t σ H R
theorem pi_seq {tg l : Expr} {tl : TE} (h : PE X l tl) : PI X tg l (iSeq X.K tl) := ⟨fun pins s σ H R I q => q.elim ((pi_list h).run pins s σ H R I) ((pi_tup h).run pins s σ H R I)⟩
end
/-! ### enumerate(tuple) -/
def IteT (K : PySem.W.Frag) (a : Addr) : It :=
  ⟨fun i H => ∃ (ys : List V) (y : V), SqT K H a ys ∧ ys[i]? = some y,
   fun i H v H' => ∃ T y, v = .ref T ∧ H T = none ∧ H' = upd H T (.tup [.int (i : Nat), y]) ∧ ∀ ys, SqT K H a ys → ys[i]? = some y,
   fun i H => ∃ ys : List V, SqT K H a ys ∧ ys.length = i⟩
theorem turn_enumT {P : Program} {w : World} {K : PySem.W.Frag} {elts : List Expr} {kk : Nat} {tpos : Pos} (a e it : Addr) (hia : a ≠ it) (hea : a ≠ e) :
    Turn P w K (.Tuple elts kk tpos) (IteT K a) [e, it] e (fun i h => (∃ old, IsEnum h e it ((i : Nat) : Int) old) ∧ h.IsTupleIter it a i ∧ e ≠ it) where
  mem := List.mem_cons_self
  obj := fun i h st b hb => by
    obtain ⟨⟨old, he⟩, ⟨o, ho, _, hd⟩, _⟩ := st
    rcases List.mem_cons.mp hb with z | z
    · rw [z]
      exact ⟨_, he, fun v q => nomatch q⟩
    · rw [List.mem_singleton.mp z]
      exact ⟨o, ho, fun v q => by rw [hd] at q; cases q⟩
  keep := fun i h h' st k => by
    obtain ⟨⟨old, he⟩, hi, hne⟩ := st
    exact ⟨⟨old, k e (by simp) _ he⟩, hi.at fun o q => k it (by simp) o q, hne⟩
  item := by
    intro X hP hw hK hc i pins s σ H E I hf st hg
    subst hP hw hK
    obtain ⟨⟨old, he⟩, hit, hne⟩ := st
    obtain ⟨ys, y, hq, hy⟩ := hg
    obtain ⟨its, rv, p, hz⟩ := I.tuple hq
    obtain ⟨u, hu, ru⟩ := rv.get hy
    have hel : e < s.heap.objs.size := Heap.lt_size he
    have hil : it < s.heap.objs.size := by
      obtain ⟨_, q, _⟩ := id hit
      exact Heap.lt_size q
    have hsz : i < its.toArray.size := by
      rw [List.size_toArray]
      exact (List.getElem?_eq_some_iff.mp hu).1
    refine wpAny_pyNext_enum_itemD (Draws.tuple (A := X.A.in1) (I.ok.hd hc) it a hia its.toArray) he ⟨hit, p⟩ hsz hne (fun z => ?_) fun x h' tk hx ho st' hT hs1 hk => ?_
    · rcases List.mem_cons.mp z with z | z
      · exact hne z
      · exact hea (List.mem_singleton.mp z).symm
    have ex : x = u := by
      have z : its.toArray[i]? = some x := hx
      rw [show its.toArray[i]? = its[i]? by simp, hu] at z
      exact (Option.some.inj z).symm
    subst ex
    refine ⟨_, rfl, wpAny_letOwnedTupleGo_enum (s := { s with heap := h', toks := tk + 1 }) ho fun h'' he' sb => ?_⟩
    have hT2 : h''.get? s.heap.objs.size = some { cls := .type "tuple", data := .seq #[.int i tk, x] } := (sb.2 _ (Nat.ne_of_gt hel)).trans hT
    have new : ObjOk X.prog X.w (upd H s.heap.objs.size (.tup [.int (i : Nat), y])) h'' s.heap.objs.size (.tup [.int (i : Nat), y]) :=
      ⟨by show 2 ≤ sizeLine; decide, [.int i tk, x], .cons ⟨_, rfl⟩ (.cons ru .nil), _, hT2, rfl, _, rfl⟩
    have J : Inv X pins σ (upd H s.heap.objs.size (.tup [.int (i : Nat), y])) { s with heap := h'', toks := tk + 1 } :=
      I.turnedNew (ch := [e, it]) (fun b ob hb q => (sb.2 b fun z => hb (by simp [z])).trans (hk b ob (fun z => hb (by simp [z])) (fun z => hb (by simp [z])) q)) hf (Nat.le_refl _) new
    refine ⟨.ref s.heap.objs.size, _, J, rfl, ⟨_, y, rfl, I.hok.fresh (Nat.le_refl _), rfl, fun l hl => by rw [I.tuple_inj hl hq]; exact hy⟩, ⟨⟨x, ?_⟩, st'.1.at fun o q => (sb.2 it (Ne.symm hne)).trans q, hne⟩, fun b hb => ?_⟩
    · rw [show ((i + 1 : Nat) : Int) = (i : Int) + 1 by omega]
      exact he'
    · have hlt : b < s.heap.objs.size := by
        rcases List.mem_cons.mp hb with z | z
        · rw [z]; exact hel
        · rw [List.mem_singleton.mp z]; exact hil
      rw [upd_ne (Nat.ne_of_lt hlt)]
      exact (hf b hb).1
  done := by
    intro X hP hw hK hc i pins s σ H E I hf st hg
    subst hP hw hK
    obtain ⟨⟨old, he⟩, hit, hne⟩ := st
    obtain ⟨ys, hq, hy⟩ := hg
    obtain ⟨its, rv, p, hz⟩ := I.tuple hq
    obtain ⟨f0, f1, f2, f3, f4, f5⟩ := hf it (by simp)
    have hl := rv.length
    have hn : i = its.toArray.size := by rw [List.size_toArray]; omega
    subst hn
    exact wpAny_pyNext_enum_endD (Draws.tuple (A := X.A.in1) (I.ok.hd hc) it a hia its.toArray) he ⟨hit, p⟩ fun h' eb => ⟨rfl, I.turned (t' := s.toks) (fun b o hb q => eb b o hb q) f0 f1 f3 f4 f5⟩
  self := fun A i s Q E st h => by
    obtain ⟨⟨_, he⟩, _⟩ := st
    exact wpAny_pyIter_enum he h
theorem meets_enum_tup (t : Addr) (items : Array Value) : Meets (Builtin.«enumerate.__new__» ⟨[.type "enumerate", .ref t], []⟩) (fun _ R s => s.heap.IsTuple t items ∧
    R (.ok (.ret (.ref (s.heap.objs.size + 1)))) { s with heap := (s.heap.push { cls := .type "tuple_iterator", data := .fields #[.ref t, .int 0 0] }).push { cls := .type "enumerate", data := .fields #[.none, .bool false, .ref s.heap.objs.size, rawInt 0, .none, .none] } }) :=
  .of_wp fun prog w A R s h => by
    obtain ⟨hp, g, d, tk, os⟩ := s
    obtain ⟨ht, h⟩ := h
    have hsub := sub_enumerate
    have e1 : (hp.push { cls := .type "tuple_iterator", data := .fields #[.ref t, .int 0 0] }).objs.size = hp.objs.size + 1 := Heap.size_push ..
    have q1 : ∀ {A' : Around} {E : Value → Shared → Prop} {Q : Value → Shared → Prop}, Q (.ref hp.objs.size) ⟨hp.push { cls := .type "tuple_iterator", data := .fields #[.ref t, .int 0 0] }, g, d, tk, os⟩ →
        wpAny (model prog w) A' (pyIter (.ref t)) Q E ⟨hp, g, d, tk, os⟩ := fun q => wpAny_pyIter_tuple ht q
    wp_walk using q1
    refine wpAny_stack_any fun st => wpAny_pure ?_
    split
    · rename_i c _ _ _ _ _
      cases (c == Value.type "enumerate") <;> (wp_walk using q1; rw [e1]; exact ⟨_, rfl, h⟩)
    · wp_walk using q1
      rw [e1]; exact ⟨_, rfl, h⟩
theorem call_enum_tup {prog : Program} {w : World} {A : Around} {E : Value → Shared → Prop} {s : Shared} {t : Addr} {items : Array Value} {Q : Value → Shared → Prop} (ht : s.heap.IsTuple t items)
    (h : ∀ h', IsEnum h' (s.heap.objs.size + 1) s.heap.objs.size 0 .none → h'.IsTupleIter s.heap.objs.size t 0 → (∀ b o, s.heap.get? b = some o → h'.get? b = some o) → Q (.ref (s.heap.objs.size + 1)) { s with heap := h' }) :
    wpAny (model prog w) A (call (.type "enumerate") [.ref t]) Q E s := by
  refine callType_new F.called_enumerate (by decide) (F.typeCall_enumerate_1 _) (F.newCall_enumerate_1 _) (fun obj => F.args_object_init_2 obj _) F.entry_enumerate_new (meets_enum_tup t items) ⟨ht, ?_⟩
  have he : IsEnum ((s.heap.push { cls := .type "tuple_iterator", data := .fields #[.ref t, .int 0 0] }).push { cls := .type "enumerate", data := .fields #[.none, .bool false, .ref s.heap.objs.size, rawInt 0, .none, .none] }) (s.heap.objs.size + 1) s.heap.objs.size 0 .none := by
    heap_get
  exact ⟨⟨_, he, rfl⟩, h _ he ⟨_, Heap.get?_push_of_some _ (Heap.get?_push_size _ rfl), rfl, rfl⟩ fun b o x => Heap.get?_push_of_some _ (Heap.get?_push_of_some _ x)⟩
def iEnumT (K : PySem.W.Frag) (ta : TA) : TI := fun σ H R => ta σ H fun vs H1 => ∃ a ys, vs = [.ref a] ∧ SqT K H1 a ys ∧ R (IteT K a) H1
theorem pi_enumT {X : Cx} {e : Expr} {ta : TA} {p pos tpos : Pos} {elts : List Expr} {kk : Nat} (hg : Gl X "enumerate") (hm : X.mg "enumerate" = none) (ha : PA X [e] ta) (hs : starEach [e] X.env = [(false, eval e X.env)] := by rfl) :
    PI X (.Tuple elts kk tpos) (.Call (.Name "enumerate" p) [e] [] pos) (iEnumT X.K ta) := by
  refine ⟨fun pins s σ H R I h => Call_ (ld_blt I hg hm boot_enumerate (PyProof.Rows.callWith_type1 (thn (ha.run pos pins s σ H _ I h) fun us s1 z => ?_) hs rfl))⟩
  obtain ⟨vs, H1, I1, r1, a, ys, ex, hq, q⟩ := z
  subst ex
  match us, r1 with
  | [u], .cons r .nil =>
    obtain rfl : u = Value.ref a := r
    obtain ⟨its, rv, pt, hz⟩ := I1.tuple hq
    have la : a < s1.heap.objs.size := by
      obtain ⟨o, ho, _⟩ := id pt
      exact Heap.lt_size ho
    refine call_enum_tup (items := its.toArray) pt fun h' he hit hk => wpAny_pyIter_enum he ?_
    have I2 : Inv X pins σ H1 { s1 with heap := h' } := I1.kept (t' := s1.toks) hk
    refine ⟨s1.heap.objs.size + 1, [s1.heap.objs.size + 1, s1.heap.objs.size], _, _, H1, rfl, I2, turn_enumT a (s1.heap.objs.size + 1) s1.heap.objs.size (Nat.ne_of_lt la) (Nat.ne_of_lt (Nat.lt_succ_of_lt la)), ⟨⟨.none, he⟩, hit, Nat.succ_ne_self _⟩, fun b hb => ?_, q⟩
    have hle : s1.heap.objs.size ≤ b := by
      rcases List.mem_cons.mp hb with z | z
      · rw [z]; exact Nat.le_succ _
      · rw [List.mem_singleton.mp z]; exact Nat.le_refl _
    exact I1.fpOk hle (I1.hok.fresh hle)
theorem walk_enumT {K : PySem.W.Frag} {a : Addr} {ys : List V} : Walk (IteT K a) ys.length (fun H => SqT K H a ys) (YPair (fun i => some (.int (i : Nat))) (fun i => ys[i]?)) := by
  refine ⟨fun i H hi h => ⟨ys, ys[i], h, List.getElem?_eq_getElem hi⟩, fun H h => ⟨ys, h, rfl⟩, fun i H x H' hi h y => ?_⟩
  obtain ⟨T, z, e1, e2, e3, e4⟩ := y
  exact ⟨T, _, z, e1, e2, e3, rfl, e4 ys h⟩
theorem walk_zipT {K : PySem.W.Frag} {a b : Addr} {xs ys : List V} {n : Nat} (hn : n = min xs.length ys.length) : Walk (ItzT K a b) n (fun H => SqT K H a xs ∧ SqT K H b ys) (YPair (fun i => xs[i]?) (fun i => ys[i]?)) := by
  refine ⟨fun i H hi h => ⟨xs, ys, xs[i]'(by omega), ys[i]'(by omega), h.1, h.2, List.getElem?_eq_getElem _, List.getElem?_eq_getElem _⟩, fun H h => ⟨xs, ys, h.1, h.2, by omega⟩, fun i H x H' hi h y => ?_⟩
  obtain ⟨T, z, z2, e1, e2, e3, e4, e5⟩ := y
  exact ⟨T, z, z2, e1, e2, e3, e4 xs h.1, e5 ys h.2⟩
end L2

namespace L2
open PySem PySem.Spec PyProof.Rows
/-! ### a def that a def calls, by its name -/
def Has (P : Program) (w : World) (K : PySem.W.Frag) (mg : Str → Option Value) (base : Heap) (k : Nat) (nm : Str) (ps : List Str) (sp : Sp) : Prop :=
  ∃ (f : Addr) (fd : FuncData), FnOk P w K mg base CX0 k f fd ps sp ∧ mg nm = some (.ref f) ∧ PySem.W.keepIn K (.ref f) = true ∧ Binds K fd ps []
theorem pe_callHas {X : Cx} {k : Nat} {x : Str} {ps : List Str} {sp : Sp} {p pos : Pos} {e : Expr} {es : List Expr} {t : TA} (G : Has X.prog X.w X.K X.mg X.base k x ps sp) (hr : Room k X.A) (hg : Gl X x) (ha : PA X (e :: es) t)
    (hdb : (x == ("__debug__" : Str)) = false := by decide) (he : starEach (e :: es) X.env = (false, eval e X.env) :: starEach es X.env := by rfl) (hpl : (backTo pos (starEach es X.env)).any (·.1) = false := by rfl) :
    PE X (.Call (.Name x p) (e :: es) [] pos) (tCall sp [] E0 t) := by
  obtain ⟨f, fd, F, m, kp, b⟩ := G
  exact pe_call F hr hg m kp b .nil pass0 ha hdb he hpl
/-- where a def of the text stands behind the top -/
def DefAt (K : PySem.W.Frag) (mg : Str → Option Value) (nm : Str) (st : Stmt) (ps : List Str) : Prop :=
  ∃ (f : Addr) (fd : FuncData), Fun K nm nm st f fd ∧ mg nm = some (.ref f) ∧ Binds K fd ps []
theorem DefAt.has {P : Program} {w : World} {K : PySem.W.Frag} {mg : Str → Option Value} {base : Heap} {k : Nat} {nm : Str} {st : Stmt} {N ps : List Str} {sp : Sp} (F : DefAt K mg nm st ps) (S : FnScope N ps (defScope st)) (len : ∀ vs H Q E, sp vs H Q E → vs.length = ps.length)
    (hbody : ∀ (f : Addr) (cdv : Value) (A : Around) (outer : List Env) (s : Shared) (H : Hp) (vs : List V) (Q : VK) (E : XK), Room k (A.deeper (envOfC nm (defScope st) s.heap.objs.size f cdv)) → sp vs H Q E →
      ∃ t, PSs (cxOf CX0 P w K mg base N nm (defScope st) f cdv A outer s H E).nox (defBody st) t ∧ t { nx := fun _ H' => Q .non H', rt := Q } (start N vs) H) : Has P w K mg base (k + 1) nm ps sp := by
  obtain ⟨f, fd, F, m, b⟩ := F
  exact ⟨f, fd, F.ok S len (hbody f), m, F.kp, b⟩
end L2

namespace L2
open PySem PySem.Spec PyProof.Rows
/-! ### an error with nothing in it; what a sign lets out within a try; defs that raise, by their names -/
theorem pmk_own0 {X : Cx} {C : Addr} {bmB : List Value} {B newId initId : String} {x : Str} {p pos : Pos} (F : ExcBaseFacts B newId initId bmB) (q : PySem.W.excIn X.K C bmB newId = true) (gC : X.mg x = some (.ref C)) (kC : PySem.W.keepIn X.K (.ref C) = true) (r : Raises X (.ref C)) (hg : Gl X x)
    (hdb : (x == ("__debug__" : Str)) = false := by decide) : PMk X (.Call (.Name x p) [] [] pos) (fun _ H Q => Q (.ref C) none H) := by
  intro pins s σ H Q I h
  refine wpAny_Call_Name_kw (ld_glob I hg gC ?_ hdb)
  refine PySem.W.callWith_K0 I.kIn kC ?_
  show wpAny _ _ (call (.ref C) []) _ _ _
  obtain ⟨bm, N, nm, qn, bs, hdct, sn, sub, ab, col, dd, k0, k1, k2, k3, k5, mN, hC, hN, hni, T⟩ := exc_obj I.kIn q
  refine wpAny_call_exc_subT F T hC hN hni (fun h' e hm => ?_) (by show 0 ≤ sizeLine; exact Nat.zero_le _)
  exact mk_of I hm r h (I.hok.gone hm.new)
theorem passLen {X : Cx} {W : WX} (n : Nat) (hn : X.N.length = n) (tk : Takes X W) : Passes (L2.CX X.prog X.w) X (fun cls d H => ∀ σ : St, σ.length = n → W cls d σ H) := fun _ σ _ _ e s' I c => tk e s' (XE.of_call I (fun _ _ _ h => h σ (I.len.trans hn)) c)
theorem passOut {X : Cx} {E : XK} (hs : X.stack = X.env :: X.outer) (hf : X.env.frame = some X.env.locals) (hex : X.ex = []) {E₁ : Value → Shared → Prop}
    (hx : X.xe = fun e s' => wpAny (model X.prog X.w) X.A (leaving X.env e) (fun _ s'' => L2.CX X.prog X.w X.outer X.H_0 X.s_0 E e s'') E₁ s') : Passes (L2.CX X.prog X.w) X E := passes_call (takes_of hs hf hex hx) fun _ _ _ _ h => h
def HasX (P : Program) (w : World) (K : PySem.W.Frag) (mg : Str → Option Value) (base : Heap) (k : Nat) (nm : Str) (ps : List Str) (sp : Sp) : Prop :=
  ∃ (f : Addr) (fd : FuncData), FnOk P w K mg base (L2.CX P w) k f fd ps sp ∧ mg nm = some (.ref f) ∧ PySem.W.keepIn K (.ref f) = true ∧ Binds K fd ps []
theorem pe_callHasX {X : Cx} {k : Nat} {x : Str} {ps : List Str} {sp : Sp} {E : XK} {p pos : Pos} {e : Expr} {es : List Expr} {t : TA} (G : HasX X.prog X.w X.K X.mg X.base k x ps sp) (hr : Room k X.A) (hg : Gl X x) (hx : Passes (L2.CX X.prog X.w) X E) (ha : PA X (e :: es) t)
    (hdb : (x == ("__debug__" : Str)) = false := by decide) (he : starEach (e :: es) X.env = (false, eval e X.env) :: starEach es X.env := by rfl) (hpl : (backTo pos (starEach es X.env)).any (·.1) = false := by rfl) :
    PE X (.Call (.Name x p) (e :: es) [] pos) (tCall sp [] E t) := by
  obtain ⟨f, fd, F, m, kp, b⟩ := G
  exact pe_call F hr hg m kp b .nil hx ha hdb he hpl
theorem DefAt.hasX {P : Program} {w : World} {K : PySem.W.Frag} {mg : Str → Option Value} {base : Heap} {k : Nat} {nm : Str} {st : Stmt} {N ps : List Str} {sp : Sp} (F : DefAt K mg nm st ps) (S : FnScope N ps (defScope st)) (len : ∀ vs H Q E, sp vs H Q E → vs.length = ps.length)
    (hbody : ∀ (f : Addr) (cdv : Value) (A : Around) (outer : List Env) (s : Shared) (H : Hp) (vs : List V) (Q : VK) (E : XK), Room k (A.deeper (envOfC nm (defScope st) s.heap.objs.size f cdv)) → sp vs H Q E →
      ∃ t, PSs (cxOf (L2.CX P w) P w K mg base N nm (defScope st) f cdv A outer s H E) (defBody st) t ∧ t { nx := fun _ H' => Q .non H', rt := Q } (start N vs) H) : HasX P w K mg base (k + 1) nm ps sp := by
  obtain ⟨f, fd, F, m, b⟩ := F
  exact ⟨f, fd, F.okX S len (hbody f), m, F.kp, b⟩
/-- an error class of the text with no __init__ -/
structure ErrC (K : PySem.W.Frag) (mg : Str → Option Value) (x : Str) (M : Addr) : Prop where
  m : mg x = some (.ref M)
  ex : PySem.W.excIn K M [.type "ValueError", .type "Exception", .type "BaseException", .type "object"] "ValueError.__new__" = true
  kp : PySem.W.keepIn K (.ref M) = true
  sb : PySem.W.subIn K (.ref M) (.type "BaseException") = some true
  ty : PySem.W.typeIn K (.ref M) = some (.type "type")
theorem pmk_err {X : Cx} {x : Str} {M : Addr} {p pos : Pos} (T : ErrC X.K X.mg x M) (hg : Gl X x) (hdb : (x == ("__debug__" : Str)) = false := by decide) : PMk X (.Call (.Name x p) [] [] pos) (fun _ H Q => Q (.ref M) none H) :=
  pmk_own0 PySem.F.excBase_ValueError T.ex T.m T.kp (raises_own T.sb T.ty) hg hdb
end L2

namespace PySem.W
open PySem PySem.Calls PyProof.Rows Builtin
section
variable {prog : Program} {w : World} {M : Model} {A : Around} {E : Value → Shared → Prop} {s : Shared} {K : Frag} {x C L f : Addr} {h₀ : Heap} {m : Str → Option Value} {ox : Obj} {od : Option Obj} {nm : String}
theorem fillsI_none {h : Heap} {cd : ClassData} {add : Bool} (X : K.In h) (hc : clsIn K C = some cd) (hm : cd.mro = [.ref C, .type "object"]) (h1 : findIn K (.ref C) (dunderI nm) = some none) (h2 : findIn K (.type "object") (dunderI nm) = some none) : Looks M h (fillsInplaceSlot (.ref C) nm add) false := by
  intro A Q E s k q
  have Lm : Looks M h (mroOf (.ref C)) cd.mro := (looks_clsIn X hc).andThen (f := fun cd => pure cd.mro) .now
  have Lm' := Lm.keeps k
  obtain ⟨hh, g, d, tt, os⟩ := s
  have X' : K.In hh := X.keeps k
  have L1 : Looks M hh (typeLookup (.ref C) (dunderI nm)) none := looks_findIn X' h1
  have L2 : Looks M hh (typeLookup (.type "object") (dunderI nm)) none := looks_findIn X' h2
  unfold fillsInplaceSlot
  refine wpAny_bind (Lm'.at ?_)
  rw [hm, List.anyM_cons]
  refine wpAny_bind ?_
  refine wpAny_bind (L1.at ?_)
  refine wpAny_pure ?_
  rw [if_neg (by decide), List.anyM_cons]
  refine wpAny_bind ?_
  refine wpAny_bind (L2.at ?_)
  refine wpAny_pure ?_
  rw [if_neg (by decide), List.anyM_nil]
  exact wpAny_pure q
theorem ior_K {b : Value} {cd : ClassData} {Q : Value → Shared → Prop} (F : Fr h₀ L s.heap m) (X₀ : K.In h₀) (I : InstAt s.heap x ox C od) (hb : Looks (model prog w) s.heap (typeOf b) (.ref C)) (hcd : clsIn K C = some cd) (hm : cd.mro = [.ref C, .type "object"])
    (h1 : findIn K (.ref C) (dunderI "or") = some none) (h2 : findIn K (.type "object") (dunderI "or") = some none)
    (hs : findIn K (.ref C) "__or__" = some (some (.ref f))) (hf : isFn K (.ref f) = true)
    (h : wpAny (model prog w) A (call (.ref f) [.ref x, b]) (CmpBack Q) E s) : wpAny (model prog w) A (inplaceOp .BitOr (.ref x) b) Q E s := by
  have X := X₀.keeps F.keep
  have hs' : findIn K (.ref C) (PySem.dunder "or") = some (some (.ref f)) := hs
  unfold inplaceOp
  refine wpAny_holding ?_
  show wpAny _ _ (typeOf (.ref x) >>= _) _ _ _
  refine wpAny_bind (I.type.here ?_)
  refine wpAny_bind ((fillsI_none X hcd hm h1 h2).here ?_)
  simp only [Bool.false_eq_true, if_false]
  refine wpAny_bind ?_
  unfold binaryOp1
  refine wpAny_bind (I.type.here (wpAny_bind (hb.here (wpAny_bind ((fills_K X hcd hm hs').here ?_)))))
  simp only [beq_self_eq_true, if_true]
  refine wpAny_bind (wpAny_pure ?_)
  simp only [Bool.and_false, Bool.false_eq_true, if_false, Bool.false_and]
  refine wpAny_bind (wpAny_pure ?_)
  simp only [Bool.false_eq_true, if_false]
  refine wpAny_bind (m := tryMethod (.ref x) _ b) ?_
  unfold tryMethod
  refine wpAny_bind (special_fn X I hs' (beq_iff_eq.mp hf) (wpAny_mono h (fun v s' hv => ?_) fun _ _ e => e))
  cases v <;> first | exact hv.elim | exact wpAny_pure (wpAny_pure (wpAny_pure hv))
end
end PySem.W
namespace L2
open PySem PySem.Spec PyProof.Rows
section
variable {X : Cx} {CX : CXT} {C g : Addr} {k : Nat} {fd : FuncData} {ps : List Str} {sp : Sp} {E : XK}
structure OrIn (K : PySem.W.Frag) (C : Addr) : Prop where
  cd : ∃ cd, PySem.W.clsIn K C = some cd ∧ cd.mro = [.ref C, .type "object"]
  no : PySem.W.findIn K (.ref C) "__ior__" = some none
  ob : PySem.W.findIn K (.type "object") "__ior__" = some none
theorem iop_orO (t : Two X.K C) (o : OrIn X.K C) (F : FnOk X.prog X.w X.K X.mg X.base CX k g fd ps sp) (hs : PySem.W.findIn X.K (.ref C) "__or__" = some (some (.ref g))) (hf : PySem.W.isFn X.K (.ref g) = true) (hr : Room k X.A) (hb : Binds X.K fd ps []) (hx : Passes CX X E) : PIp X .BitOr (rOrO C sp E) := by
  intro pins s σ H x y v u Q I rx ry h
  obtain ⟨a, dx, fs, b, dy, gs, rfl, ha, rfl, hb', q⟩ := h
  cases rx
  cases ry
  obtain ⟨mA, J, _⟩ := ins_get I.hok ha
  obtain ⟨mB, J', _⟩ := ins_get I.hok hb'
  obtain ⟨od, J, _⟩ := J.look
  obtain ⟨od', J', _⟩ := J'.look
  obtain ⟨m, hF⟩ := I.fr
  obtain ⟨cd, hcd, hm⟩ := o.cd
  refine PySem.W.ior_K hF I.ok.mod.kin J J'.type hcd hm o.no o.ob hs hf ?_
  refine run_own F hr hb hx I (show Vals [V.ref a, V.ref b] [Value.ref a, Value.ref b] from .cons rfl (.cons rfl .nil)) q fun w z s' H' I' rz qz => ?_
  obtain ⟨p, rfl, qp⟩ := qz
  cases rz
  exact ⟨.ref p, H', I', rfl, qp⟩
/-- isinstance(e, c), e the error that a suite holds, its class told by the way out -/
theorem call_isEM {a D : Addr} {oe : Obj} {cls : Value} {d : Option Addr} {pn : List (Addr × Obj)} (T : ExcC X.K D) (hz : Zc cls d oe) (hf : ∃ vs, oe.data = .fields vs) : CallR (X.suite a ((a, oe) :: pn)) (.builtin "isinstance") (fun xs H Q => cls = .ref D ∧ d = none ∧ rIsE X.K D a xs H Q) := by
  intro pins s σ H xs us Q I r h
  obtain ⟨rfl, rfl, h⟩ := h
  exact call_isE T hz hf pins s σ H xs us Q I r h
end
end L2

namespace PySem.W
open PySem PySem.Calls PyProof.Rows Builtin
section
variable {prog : Program} {w : World} {M : Model} {A : Around} {E : Value → Shared → Prop} {s : Shared} {K : Frag} {x C L f : Addr} {h₀ : Heap} {m : Str → Option Value} {ox : Obj} {od : Option Obj} {nm : String}
theorem iand_K {b : Value} {cd : ClassData} {Q : Value → Shared → Prop} (F : Fr h₀ L s.heap m) (X₀ : K.In h₀) (I : InstAt s.heap x ox C od) (hb : Looks (model prog w) s.heap (typeOf b) (.ref C)) (hcd : clsIn K C = some cd) (hm : cd.mro = [.ref C, .type "object"])
    (h1 : findIn K (.ref C) (dunderI "and") = some none) (h2 : findIn K (.type "object") (dunderI "and") = some none)
    (hs : findIn K (.ref C) "__and__" = some (some (.ref f))) (hf : isFn K (.ref f) = true)
    (h : wpAny (model prog w) A (call (.ref f) [.ref x, b]) (CmpBack Q) E s) : wpAny (model prog w) A (inplaceOp .BitAnd (.ref x) b) Q E s := by
  have X := X₀.keeps F.keep
  have hs' : findIn K (.ref C) (PySem.dunder "and") = some (some (.ref f)) := hs
  unfold inplaceOp
  refine wpAny_holding ?_
  show wpAny _ _ (typeOf (.ref x) >>= _) _ _ _
  refine wpAny_bind (I.type.here ?_)
  refine wpAny_bind ((fillsI_none X hcd hm h1 h2).here ?_)
  simp only [Bool.false_eq_true, if_false]
  refine wpAny_bind ?_
  unfold binaryOp1
  refine wpAny_bind (I.type.here (wpAny_bind (hb.here (wpAny_bind ((fills_K X hcd hm hs').here ?_)))))
  simp only [beq_self_eq_true, if_true]
  refine wpAny_bind (wpAny_pure ?_)
  simp only [Bool.and_false, Bool.false_eq_true, if_false, Bool.false_and]
  refine wpAny_bind (wpAny_pure ?_)
  simp only [Bool.false_eq_true, if_false]
  refine wpAny_bind (m := tryMethod (.ref x) _ b) ?_
  unfold tryMethod
  refine wpAny_bind (special_fn X I hs' (beq_iff_eq.mp hf) (wpAny_mono h (fun v s' hv => ?_) fun _ _ e => e))
  cases v <;> first | exact hv.elim | exact wpAny_pure (wpAny_pure (wpAny_pure hv))
end
end PySem.W
namespace L2
open PySem PySem.Spec PyProof.Rows
section
variable {X : Cx} {CX : CXT} {C g : Addr} {k : Nat} {fd : FuncData} {ps : List Str} {sp : Sp} {E : XK}
def rAndO (C : Addr) (sp : Sp) (E : XK) : R2 := fun x y H Q => ∃ a dx fs b dy gs, x = .ref a ∧ H a = some (.ins C dx fs) ∧ y = .ref b ∧ H b = some (.ins C dy gs) ∧ sp [.ref a, .ref b] H (fun r H' => ∃ p, r = .ref p ∧ Q (.ref p) H') E
theorem op_andO (t : Two X.K C) (F : FnOk X.prog X.w X.K X.mg X.base CX k g fd ps sp) (hs : PySem.W.findIn X.K (.ref C) "__and__" = some (some (.ref g))) (hf : PySem.W.isFn X.K (.ref g) = true) (hr : Room k X.A) (hb : Binds X.K fd ps []) (hx : Passes CX X E) : OpR X (binaryOp .BitAnd) (rAndO C sp E) := by
  intro pins s σ H x y v u Q I rx ry h
  obtain ⟨a, dx, fs, b, dy, gs, rfl, ha, rfl, hb', q⟩ := h
  cases rx
  cases ry
  obtain ⟨mA, J, _⟩ := ins_get I.hok ha
  obtain ⟨mB, J', _⟩ := ins_get I.hok hb'
  obtain ⟨od, J, _⟩ := J.look
  obtain ⟨od', J', _⟩ := J'.look
  obtain ⟨m, hF⟩ := I.fr
  refine PySem.W.binop_K (op := .BitAnd) hF I.ok.mod.kin J J'.type t.self hs hf ?_
  refine run_own F hr hb hx I (show Vals [V.ref a, V.ref b] [Value.ref a, Value.ref b] from .cons rfl (.cons rfl .nil)) q fun w z s' H' I' rz qz => ?_
  obtain ⟨p, rfl, qp⟩ := qz
  cases rz
  exact ⟨.ref p, H', I', rfl, qp⟩
structure AndIn (K : PySem.W.Frag) (C : Addr) : Prop where
  cd : ∃ cd, PySem.W.clsIn K C = some cd ∧ cd.mro = [.ref C, .type "object"]
  no : PySem.W.findIn K (.ref C) "__iand__" = some none
  ob : PySem.W.findIn K (.type "object") "__iand__" = some none
theorem iop_andO (t : Two X.K C) (o : AndIn X.K C) (F : FnOk X.prog X.w X.K X.mg X.base CX k g fd ps sp) (hs : PySem.W.findIn X.K (.ref C) "__and__" = some (some (.ref g))) (hf : PySem.W.isFn X.K (.ref g) = true) (hr : Room k X.A) (hb : Binds X.K fd ps []) (hx : Passes CX X E) : PIp X .BitAnd (rAndO C sp E) := by
  intro pins s σ H x y v u Q I rx ry h
  obtain ⟨a, dx, fs, b, dy, gs, rfl, ha, rfl, hb', q⟩ := h
  cases rx
  cases ry
  obtain ⟨mA, J, _⟩ := ins_get I.hok ha
  obtain ⟨mB, J', _⟩ := ins_get I.hok hb'
  obtain ⟨od, J, _⟩ := J.look
  obtain ⟨od', J', _⟩ := J'.look
  obtain ⟨m, hF⟩ := I.fr
  obtain ⟨cd, hcd, hm⟩ := o.cd
  refine PySem.W.iand_K hF I.ok.mod.kin J J'.type hcd hm o.no o.ob hs hf ?_
  refine run_own F hr hb hx I (show Vals [V.ref a, V.ref b] [Value.ref a, Value.ref b] from .cons rfl (.cons rfl .nil)) q fun w z s' H' I' rz qz => ?_
  obtain ⟨p, rfl, qp⟩ := qz
  cases rz
  exact ⟨.ref p, H', I', rfl, qp⟩
end
end L2

/-! ## vectors: what the defs compute -/
namespace Lat
abbrev Vec := List Int
def addV (v : Vec) (t : Int) (w : Vec) : Vec := List.zipWith (fun n m => n + t * m) v w
def dotV (f v : Vec) : Int := (List.zipWith (fun n t => n * t) v f).sum
def piv : Vec → Nat
  | [] => 0
  | x :: v => if x ≠ 0 then 0 else piv v + 1
def itm (v : Vec) (i : Nat) : Int := v.getD i 0
def redV : List Vec → Vec → Vec
  | [], v => v
  | r :: rs, v => redV rs (addV v (-((itm v (piv r)).fdiv (itm r (piv r)))) r)
def clr : Nat → Vec → Vec → Nat → Vec × Vec
  | 0, r, v, _ => (r, v)
  | n + 1, r, v, i => if itm v i = 0 then (r, v) else clr n v (addV r (-((itm r i).fdiv (itm v i))) v) i
def clear (r v : Vec) (i : Nat) : Vec × Vec := clr (itm v i).natAbs r v i
def stepGo : List Vec → Vec → List Vec × Vec
  | [], l => ([], l)
  | r :: rs, l => if piv l < piv r then (l :: (stepGo rs r).1, (stepGo rs r).2) else ((clear r l (piv r)).1 :: (stepGo rs (clear r l (piv r)).2).1, (stepGo rs (clear r l (piv r)).2).2)
def stepped (steps : List Vec) (v : Vec) : List Vec := if piv (stepGo steps v).2 = (stepGo steps v).2.length then (stepGo steps v).1 else (stepGo steps v).1 ++ [(stepGo steps v).2]
def posV (r : Vec) : Vec := if itm r (piv r) > 0 then r else addV r (-2) r
def tidy : List Vec → List Vec
  | [] => []
  | r :: rs => redV (tidy rs) (posV r) :: tidy rs
def grow (basis : List Vec) (v : Vec) : List Vec := if piv (redV basis v) = (redV basis v).length then basis else tidy (stepped basis (redV basis v))

theorem piv_le : ∀ v : Vec, piv v ≤ v.length
  | [] => Nat.le_refl _
  | x :: v => by
    have h := piv_le v
    unfold piv
    split
    · exact Nat.zero_le _
    · exact Nat.succ_le_succ h
theorem addV_len {v : Vec} {t : Int} {w : Vec} (h : v.length = w.length) : (addV v t w).length = v.length := by
  unfold addV
  rw [List.length_zipWith, h, Nat.min_self]
theorem itm_of {v : Vec} {i : Nat} (h : i < v.length) : v[i]? = some (itm v i) := by
  unfold itm
  rw [List.getD_eq_getElem?_getD, List.getElem?_eq_getElem h]; rfl
theorem itm_add {v w : Vec} {t : Int} (h : v.length = w.length) (i : Nat) : itm (addV v t w) i = itm v i + t * itm w i := by
  unfold itm addV
  by_cases hi : i < v.length
  · have hw : i < w.length := by omega
    rw [List.getD_eq_getElem?_getD, List.getD_eq_getElem?_getD, List.getD_eq_getElem?_getD, List.getElem?_zipWith, List.getElem?_eq_getElem hi, List.getElem?_eq_getElem hw]
    rfl
  · have hw : w.length ≤ i := by omega
    rw [List.getD_eq_getElem?_getD, List.getD_eq_getElem?_getD, List.getD_eq_getElem?_getD, List.getElem?_zipWith, List.getElem?_eq_none (by omega : v.length ≤ i), List.getElem?_eq_none hw]
    simp
theorem piv_spec : ∀ v : Vec, (∀ j, j < piv v → itm v j = 0) ∧ (piv v < v.length → itm v (piv v) ≠ 0)
  | [] => ⟨fun j h => absurd h (Nat.not_lt_zero _), fun h => absurd h (Nat.not_lt_zero _)⟩
  | x :: v => by
    obtain ⟨h1, h2⟩ := piv_spec v
    unfold piv
    split
    · next hx => exact ⟨fun j h => absurd h (Nat.not_lt_zero _), fun _ => hx⟩
    · next hx =>
      have hx0 : x = 0 := Decidable.not_not.mp hx
      refine ⟨fun j h => ?_, fun h => ?_⟩
      · cases j with
        | zero => exact hx0
        | succ j => exact h1 j (Nat.lt_of_succ_lt_succ h)
      · exact h2 (Nat.lt_of_succ_lt_succ h)
theorem clr_len : ∀ (n : Nat) (r v : Vec) (i : Nat), r.length = v.length → (clr n r v i).1.length = r.length ∧ (clr n r v i).2.length = r.length
  | 0, r, v, i, h => ⟨rfl, h.symm⟩
  | n + 1, r, v, i, h => by
    unfold clr
    split
    · exact ⟨rfl, h.symm⟩
    · have e := addV_len (t := -((itm r i).fdiv (itm v i))) h
      obtain ⟨a, b⟩ := clr_len n v (addV r (-((itm r i).fdiv (itm v i))) v) i (by rw [e, h])
      exact ⟨a.trans h.symm, b.trans h.symm⟩
end Lat

namespace K06
open PySem L2 RZ Lat
def top (i : Nat) : Stmt := PySem.Challenge.pw_sumlives_k12_whole_systems_go_together.main.body.getD i (.Pass ⟨0, 0, 0, 0⟩)
structure Txt (mg : Str → Option Value) : Prop where
  z_len : mg "len" = none
  z_abs : mg "abs" = none
  z_int : mg "int" = none
  z_max : mg "max" = none
  z_min : mg "min" = none
  z_range : mg "range" = none
  z_enumerate : mg "enumerate" = none
  z_isinstance : mg "isinstance" = none
  z_repr : mg "repr" = none
  z_zip : mg "zip" = none
  z_sum : mg "sum" = none
  z_all : mg "all" = none
  z_tuple : mg "tuple" = none
  z_list : mg "list" = none
  z_bool : mg "bool" = none
  z_sorted : mg "sorted" = none
  z_dict : mg "dict" = none
theorem new_at {H : Hp} {p : Addr} {o : HO} (h : H p = none) : Same H (upd H p o) ∧ upd H p o p = some o :=
  ⟨fun b u z => by rw [upd_ne (ne_of_none z h)]; exact z, upd_same⟩
/-- a tuple of ints -/
abbrev IsV (H : Hp) (a : Addr) (v : Vec) : Prop := H a = some (.tup (v.map V.int))
theorem Same.sqt {K : PySem.W.Frag} {H H' : Hp} {a : Addr} {xs : List V} (e : Same H H') (h : SqT K H a xs) : SqT K H' a xs := by
  rcases h with (h | ⟨o, h⟩) | h
  · exact .inl (.inl (e _ _ h))
  · exact .inl (.inr ⟨o, e _ _ h⟩)
  · exact .inr h
theorem map_at {v : Vec} {i : Nat} {x : V} (h : (v.map V.int)[i]? = some x) : ∃ n, v[i]? = some n ∧ x = V.int n := by
  rw [List.getElem?_map] at h
  cases e : v[i]? with
  | none => rw [e] at h; cases h
  | some n => rw [e] at h; exact ⟨n, rfl, (Option.some.inj h).symm⟩
theorem take_snoc {v : Vec} {i : Nat} {n : Int} (h : v[i]? = some n) : ((v.take (i + 1)).map V.int) = (v.take i).map V.int ++ [V.int n] := by
  rw [List.take_add_one, h, List.map_append]; rfl
theorem take_all {v : Vec} {n : Nat} (h : v.length = n) : (v.take n).map V.int = v.map V.int := by rw [← h, List.take_length]
section
variable {P : Program} {w : World} {K : PySem.W.Frag} {mg : Str → Option Value} {base : Heap}
theorem Has.imp {k : Nat} {nm : Str} {ps : List Str} {sp sp' : Sp} (h : Has P w K mg base k nm ps sp) (i : ∀ vs H Q E, sp' vs H Q E → sp vs H Q E) : Has P w K mg base k nm ps sp' := by
  obtain ⟨f, fd, F, m, kp, b⟩ := h
  exact ⟨f, fd, F.imp i, m, kp, b⟩
/-- ints, bools, None -/
inductive Flat : V → Bool → Prop where
  | int (i : Int) : Flat (.int i) true
  | bl (b : Bool) : Flat (.bl b) false
  | non : Flat .non false
abbrev s_is_integer : Stmt := top 2
abbrev n_is_integer : List Str := ["value"]
theorem sc_is_integer : FnScope n_is_integer ["value"] (defScope s_is_integer) := ⟨rfl, rfl, rfl, by decide +kernel, rfl, by decide +kernel, by decide +kernel⟩
def spIntG : Sp := fun vs H Q _ => ∃ (x : V) (b : Bool), vs = [x] ∧ Flat x b ∧ Q (.bl b) H
theorem ok_is_integerG (T : Txt mg) (F : DefAt K mg "is_integer" s_is_integer ["value"]) : Has P w K mg base 1 "is_integer" ["value"] spIntG := by
  refine F.has sc_is_integer (fun vs H Q E h => ?_) (fun f cdv A outer s H vs Q E hr h => ?_)
  · obtain ⟨x, b, rfl, _⟩ := h
    rfl
  · obtain ⟨x, b, rfl, fl, k⟩ := h
    refine ⟨_, (pss_one (ps_ret (pe_and (pe_callB call_isi (by rfl) T.z_isinstance (by decide +kernel) (pa_cons (pv 0) (pa_cons (pe_bltn (v := .ty "int") (by rfl) T.z_int (by decide +kernel) rfl) pa_nil))) (pe_one (pe_not (pe_callB call_isi (by rfl) T.z_isinstance (by decide +kernel) (pa_cons (pv 0) (pa_cons (pe_bltn (v := .ty "bool") (by rfl) T.z_bool (by decide +kernel) rfl) pa_nil)))))))), ?_⟩
    cases fl with
    | int i =>
      refine ⟨_, rfl, _, _, _, _, true, rfl, .ty _, .base (.int i), kit_ty (by decide +kernel), _, rfl, ?_⟩
      exact ⟨_, rfl, _, _, _, _, false, rfl, .ty _, .base (.int i), kit_ty (by decide +kernel), _, rfl, k⟩
    | bl b =>
      refine ⟨_, rfl, _, _, _, _, true, rfl, .ty _, .base (.bl b), kit_ty (by decide +kernel), _, rfl, ?_⟩
      exact ⟨_, rfl, _, _, _, _, true, rfl, .ty _, .base (.bl b), kit_ty (by decide +kernel), _, rfl, k⟩
    | non => exact ⟨_, rfl, _, _, _, _, false, rfl, .ty _, .base .non, kit_ty (by decide +kernel), _, rfl, k⟩
def spInt : Sp := fun vs H Q _ => ∃ i : Int, vs = [.int i] ∧ Q (.bl true) H
theorem ok_is_integer (g : Has P w K mg base 1 "is_integer" ["value"] spIntG) : Has P w K mg base 1 "is_integer" ["value"] spInt :=
  Has.imp g fun vs H Q E h => by
    obtain ⟨i, rfl, k⟩ := h
    exact ⟨_, _, rfl, .int i, k⟩
/-- a list, or a tuple of the run or of the text -/
def InSeq (K : PySem.W.Frag) (H : Hp) (l : Addr) (as : List V) : Prop := H l = some (.lst as) ∨ ((∀ H', Same H H' → SqT K H' l as) ∧ ∀ H', Same H H' → TyX K H' (.ref l) (.type "tuple"))
theorem InSeq.keep {K : PySem.W.Frag} {H H' : Hp} {l : Addr} {as : List V} (s : Same H H') (h : InSeq K H l as) : InSeq K H' l as := h.imp (s _ _) fun z => ⟨fun H2 t => z.1 H2 (s.trans t), fun H2 t => z.2 H2 (s.trans t)⟩
theorem InSeq.tup {K : PySem.W.Frag} {H : Hp} {l : Addr} {as : List V} (h : H l = some (.tup as)) : InSeq K H l as := .inr ⟨fun H' s => SqT.of (s _ _ h), fun H' s => .base (.tup (s _ _ h))⟩
theorem InSeq.kt {K : PySem.W.Frag} {H : Hp} {l : Addr} {o : Obj} {as : List V} (ho : K.lookup l = some o) (hc : o.cls = .type "tuple") (hq : ∀ H, SqT K H l as) : InSeq K H l as := .inr ⟨fun H' _ => hq H', fun H' _ => .kTuple ho hc⟩
abbrev s_is_sequence : Stmt := top 3
abbrev n_is_sequence : List Str := ["value"]
theorem sc_is_sequence : FnScope n_is_sequence ["value"] (defScope s_is_sequence) := ⟨rfl, rfl, rfl, by decide +kernel, rfl, by decide +kernel, by decide +kernel⟩
def spSeq (K : PySem.W.Frag) : Sp := fun vs H Q _ => ∃ (l : Addr) (xs : List V), vs = [.ref l] ∧ InSeq K H l xs ∧ ∀ H', Same H H' → Q (.bl true) H'
theorem ok_is_sequence (T : Txt mg) (F : DefAt K mg "is_sequence" s_is_sequence ["value"]) : Has P w K mg base 1 "is_sequence" ["value"] (spSeq K) := by
  refine F.has sc_is_sequence (fun vs H Q E h => ?_) (fun f cdv A outer s H vs Q E hr h => ?_)
  · obtain ⟨l, xs, rfl, _⟩ := h
    rfl
  · obtain ⟨l, xs, rfl, hl, k⟩ := h
    refine ⟨_, (pss_one (ps_ret (pe_callB call_isiT (by rfl) T.z_isinstance (by decide +kernel) (pa_cons (pv 0) (pa_cons (pe_tup (pa_cons (pe_bltn (v := .ty "list") (by rfl) T.z_list (by decide +kernel) rfl) (pa_cons (pe_bltn (v := .ty "tuple") (by rfl) T.z_tuple (by decide +kernel) rfl) pa_nil))) pa_nil))))), ?_⟩
    refine ⟨_, rfl, (by decide : 2 ≤ sizeLine), fun t ht => ?_⟩
    obtain ⟨s1, h1⟩ := new_at (o := .tup [.ty "list", .ty "tuple"]) ht
    rcases hl with hl | hq
    · exact ⟨_, t, _, _, _, true, rfl, h1, .cons (.ty _) (.cons (.ty _) .nil), .base (.lst (s1 _ _ hl)), kitAny_cons (b := true) (kit_ty (by decide +kernel)) (fun z => nomatch z) (fun _ => rfl), k _ s1⟩
    · exact ⟨_, t, _, _, _, true, rfl, h1, .cons (.ty _) (.cons (.ty _) .nil), hq.2 _ s1, kitAny_cons (b := false) (kit_ty (by decide +kernel)) (fun _ => kitAny_cons (b := true) (kit_ty (by decide +kernel)) (fun z => nomatch z) (fun _ => rfl)) (fun z => nomatch z), k _ s1⟩
abbrev s_added : Stmt := top 7
abbrev n_added : List Str := ["vector", "times", "other", "number", "more"]
theorem sc_added : FnScope n_added ["vector", "times", "other"] (defScope s_added) := ⟨rfl, rfl, rfl, by decide +kernel, rfl, by decide +kernel, by decide +kernel⟩
def spAdded : Sp := fun vs H Q _ => ∃ (a b : Addr) (t : Int) (v u : Vec), vs = [.ref a, .int t, .ref b] ∧ IsV H a v ∧ IsV H b u ∧ v.length = u.length ∧ v.length ≤ 1000 ∧ (∀ m ∈ u, CMulX t m) ∧ ∀ (H' : Hp) (p : Addr), Same H H' → IsV H' p (addV v t u) → Q (.ref p) H'
theorem ok_added (T : Txt mg) (F : DefAt K mg "added" s_added ["vector", "times", "other"]) : Has P w K mg base 1 "added" ["vector", "times", "other"] spAdded := by
  refine F.has sc_added (fun vs H Q E h => ?_) (fun f cdv A outer s H vs Q E hr h => ?_)
  · obtain ⟨a, b, t, v, u, rfl, _⟩ := h
    rfl
  · obtain ⟨a, b, t, v, u, rfl, hv, hu, hl, h1, hm, k⟩ := h
    refine ⟨_, (pss_one (ps_ret (pe_callTy call_tuple_of (by rfl) T.z_tuple (by decide +kernel) (pa_cons (pe_lc (own := [("number", 3), ("more", 4)]) (g := gTup K 2 (gCons (gName 3) (gCons (gName 4) gNil))) (by rfl) sc_added.nd (pi_zipA (by rfl) T.z_zip (pa_cons (pv 0) (pa_cons (pv 2) pa_nil))) (blkOk_by (own := [("number", 3), ("more", 4)]) (N := n_added) (sc := defScope s_added) (by decide +kernel)) (fun _ _ _ _ _ => (pg_tup rfl (pgs_cons (pg_name (i := 3) sc_added.nd rfl (Or.inl rfl)) (pgs_cons (pg_name (i := 4) sc_added.nd rfl (Or.inl rfl)) pgs_nil)))) (fun _ _ _ _ _ => pts_nil) (fun _ _ _ _ _ => (pe_op op_add (pv 3) (pe_op op_mulX (pv 1) (pv 4))))) pa_nil)))), ?_⟩
    have lv : (v.map V.int).length = v.length := List.length_map ..
    have lu : (u.map V.int).length = u.length := List.length_map ..
    have la : (addV v t u).length = v.length := addV_len hl
    have ln : min (v.map V.int).length (u.map V.int).length = v.length := by rw [lv, lu, hl, Nat.min_self]
    refine ⟨_, rfl, _, rfl, a, b, _, _, rfl, .inr ⟨SqT.of hv, SqT.of hu, fun D hD => lc_it (walk_zipT (xs := v.map V.int) (ys := u.map V.int) ln.symm) (fun i H' => Same H H' ∧ H' D = some (.lst (((addV v t u).take i).map V.int))) ?_ ?_ ?_ ?_⟩⟩
    · exact ⟨(new_at hD).1, upd_same⟩
    · exact fun i H' _ q => ⟨SqT.of (q.1 _ _ hv), SqT.of (q.1 _ _ hu)⟩
    · rintro i x H' H'' hi ⟨sm, hD'⟩ ⟨q, y1, y2, rfl, hq, rfl, e1, e2⟩
      obtain ⟨n, en, rfl⟩ := map_at e1
      obtain ⟨m, em, rfl⟩ := map_at e2
      refine ⟨q, _, rfl, SqT.of upd_same, rfl, _, _, rfl, _, _, rfl, rfl, rfl, ?_⟩
      refine ⟨_, rfl, _, rfl, _, rfl, _, _, rfl, rfl, hm m (List.mem_of_getElem? em), _, _, rfl, rfl, ?_⟩
      have nDq : D ≠ q := ne_of_none hD' hq
      refine ⟨_, (upd_ne nDq).trans hD', by rw [List.length_map, List.length_take]; exact Nat.lt_of_le_of_lt (Nat.le_trans (Nat.min_le_right _ _) (la ▸ h1)) (by decide), fun x o z => ?_, ?_⟩
      · rw [upd_ne (ne_of_none z hD)]
        exact (new_at hq).1 _ _ (sm _ _ z)
      · rw [upd_same, take_snoc (n := n + t * m)]
        unfold addV
        rw [List.getElem?_zipWith, en, em]
    · rintro H' ⟨sm, hD'⟩
      rw [take_all la] at hD'
      refine ⟨_, _, rfl, .inl ⟨SqL.of hD', fun p hp => ?_⟩⟩
      obtain ⟨sp, hp1⟩ := new_at (o := .tup ((addV v t u).map V.int)) hp
      exact k _ p (sm.trans sp) hp1
abbrev s_pivot_of : Stmt := top 8
abbrev n_pivot_of : List Str := ["vector", "at", "number"]
theorem sc_pivot_of : FnScope n_pivot_of ["vector"] (defScope s_pivot_of) := ⟨rfl, rfl, rfl, by decide +kernel, rfl, by decide +kernel, by decide +kernel⟩
def spPivot : Sp := fun vs H Q _ => ∃ (a : Addr) (v : Vec), vs = [.ref a] ∧ IsV H a v ∧ ∀ H', Same H H' → Q (.int ((piv v : Nat) : Int)) H'
theorem ok_pivot_of (T : Txt mg) (F : DefAt K mg "pivot_of" s_pivot_of ["vector"]) : Has P w K mg base 1 "pivot_of" ["vector"] spPivot := by
  refine F.has sc_pivot_of (fun vs H Q E h => ?_) (fun f cdv A outer s H vs Q E hr h => ?_)
  · obtain ⟨a, v, rfl, _⟩ := h
    rfl
  · obtain ⟨a, v, rfl, hv, k⟩ := h
    refine ⟨_, (pss_cons (ps_for PassesOwn.never rfl (pi_enumT (by rfl) T.z_enumerate (pa_cons (pv 0) pa_nil)) (pg_tup rfl (pgs_cons (pg_name (i := 1) sc_pivot_of.nd rfl (Or.inl rfl)) (pgs_cons (pg_name (i := 2) sc_pivot_of.nd rfl (Or.inl rfl)) pgs_nil))) (pss_one (ps_if (pt_cmpR op_ne (pv 2) pe_int (nomark _)) (pss_one (ps_ret (pv 1))) pss_nil)))
      (pss_one (ps_ret (pe_callB call_len (by rfl) T.z_len (by decide +kernel) (pa_cons (pv 0) pa_nil))))), ?_⟩
    obtain ⟨z0, z1⟩ := piv_spec v
    refine ⟨_, rfl, a, _, rfl, SqT.of hv, for_it (walk_enumT (ys := v.map V.int)) (fun i σ H' => Same H H' ∧ i ≤ piv v ∧ ∃ x y, σ = [some (.ref a), x, y]) ⟨Same.refl _, Nat.zero_le _, _, _, rfl⟩ (fun i σ H' _ q => SqT.of (q.1 _ _ hv)) ?_ ?_⟩
    · rintro i x σ H' H'' hi ⟨sm, hp, x1, x2, rfl⟩ ⟨q, y1, y2, rfl, hq, rfl, e1, e2⟩
      obtain ⟨n, en, rfl⟩ := map_at e2
      cases e1
      rw [List.length_map] at hi
      have ei : itm v i = n := by
        have q1 := itm_of hi
        rw [en] at q1
        exact (Option.some.inj q1).symm
      refine ⟨q, _, rfl, SqT.of upd_same, rfl, _, _, rfl, _, _, rfl, rfl, ?_⟩
      refine ⟨_, rfl, rfl, _, rfl, ?_⟩
      have s2 := sm.trans (new_at (o := .tup [.int ((i : Nat) : Int), .int n]) hq).1
      by_cases h0 : n = 0
      · subst h0
        have hlt : i < piv v := by
          rcases Nat.lt_or_ge i (piv v) with h | h
          · exact h
          · have e : i = piv v := Nat.le_antisymm hp h
            exact absurd ei (by rw [e]; exact z1 (by rw [← e]; exact hi))
        show if (!decide (V.int 0 = V.int 0)) = true then _ else _
        rw [decide_eq_true rfl]
        exact ⟨s2, hlt, _, _, rfl⟩
      · have e : i = piv v := by
          rcases Nat.lt_or_ge i (piv v) with h | h
          · exact absurd (ei.symm.trans (z0 i h)) h0
          · exact Nat.le_antisymm hp h
        show if (!decide (V.int n = V.int 0)) = true then _ else _
        rw [decide_eq_false (fun z => h0 (V.int.inj z))]
        refine ⟨_, rfl, ?_⟩
        rw [e] at s2 ⊢
        exact k _ s2
    · rintro σ H' ⟨sm, hp, x1, x2, rfl⟩
      have e : piv v = v.length := by
        rw [List.length_map] at hp
        exact Nat.le_antisymm (piv_le v) hp
      refine ⟨_, rfl, _, _, rfl, .inr ⟨_, SqT.of (sm _ _ hv), rfl⟩, ?_⟩
      rw [List.length_map, ← e]
      exact k _ sm
abbrev s_is_zero : Stmt := top 9
abbrev n_is_zero : List Str := ["vector"]
theorem sc_is_zero : FnScope n_is_zero ["vector"] (defScope s_is_zero) := ⟨rfl, rfl, rfl, by decide +kernel, rfl, by decide +kernel, by decide +kernel⟩
def spZero : Sp := fun vs H Q _ => ∃ (a : Addr) (v : Vec), vs = [.ref a] ∧ IsV H a v ∧ ∀ H', Same H H' → Q (.bl (decide (piv v = v.length))) H'
theorem ok_is_zero (T : Txt mg) (g_pivot_of : Has P w K mg base 1 "pivot_of" ["vector"] spPivot) (F : DefAt K mg "is_zero" s_is_zero ["vector"]) : Has P w K mg base 2 "is_zero" ["vector"] spZero := by
  refine F.has sc_is_zero (fun vs H Q E h => ?_) (fun f cdv A outer s H vs Q E hr h => ?_)
  · obtain ⟨a, v, rfl, _⟩ := h
    rfl
  · obtain ⟨a, v, rfl, hv, k⟩ := h
    refine ⟨_, (pss_one (ps_ret (pe_cmpR op_eq (pe_callHas g_pivot_of (hr.mono (by decide)) rfl (pa_cons (pv 0) pa_nil)) (pe_callB call_len (by rfl) T.z_len (by decide +kernel) (pa_cons (pv 0) pa_nil)) (nomark _)))), ?_⟩
    refine ⟨_, rfl, a, v, rfl, hv, fun H' sm => ⟨_, rfl, _, _, rfl, .inr ⟨_, SqT.of (sm _ _ hv), rfl⟩, rfl, ?_⟩⟩
    rw [List.length_map]
    have e : decide (V.int ((piv v : Nat) : Int) = V.int ((v.length : Nat) : Int)) = decide (piv v = v.length) := by
      by_cases h : piv v = v.length
      · rw [h, decide_eq_true rfl, decide_eq_true rfl]
      · rw [decide_eq_false h, decide_eq_false (fun z => h (by have := V.int.inj z; omega))]
    rw [e]
    exact k _ sm
abbrev s_is_width : Stmt := top 4
abbrev n_is_width : List Str := ["value"]
theorem sc_is_width : FnScope n_is_width ["value"] (defScope s_is_width) := ⟨rfl, rfl, rfl, by decide +kernel, rfl, by decide +kernel, by decide +kernel⟩
def spWidth : Sp := fun vs H Q _ => ∃ n : Int, vs = [.int n] ∧ 1 ≤ n ∧ Q (.bl true) H
theorem ok_is_width (T : Txt mg) (g_is_integer : Has P w K mg base 1 "is_integer" ["value"] spInt) (F : DefAt K mg "is_width" s_is_width ["value"]) : Has P w K mg base 2 "is_width" ["value"] spWidth := by
  refine F.has sc_is_width (fun vs H Q E h => ?_) (fun f cdv A outer s H vs Q E hr h => ?_)
  · obtain ⟨n, rfl, _⟩ := h
    rfl
  · obtain ⟨n, rfl, h1, k⟩ := h
    refine ⟨_, (pss_one (ps_ret (pe_and (pe_callHas g_is_integer (hr.mono (by decide)) rfl (pa_cons (pv 0) pa_nil)) (pe_one (pe_cmpR op_ge (pv 0) pe_int (nomark _)))))), ?_⟩
    refine ⟨_, rfl, n, rfl, _, rfl, _, rfl, _, _, rfl, rfl, ?_⟩
    show Q (.bl (decide (1 ≤ n))) H
    rw [decide_eq_true h1]
    exact k
theorem paired_get {α β : Type} {R : α → β → Prop} : ∀ {xs : List α} {ys : List β} {i : Nat} {x : α}, Paired R xs ys → xs[i]? = some x → ∃ y, ys[i]? = some y ∧ R x y
  | _, _, _, _, .nil, e => by simp at e
  | _, _, 0, x, .cons r _, e => by simp at e; subst e; exact ⟨_, rfl, r⟩
  | _, _, i + 1, x, .cons _ t, e => by
    obtain ⟨y, h1, h2⟩ := paired_get (i := i) (x := x) t (by simpa using e)
    exact ⟨y, by simpa using h1, h2⟩
theorem all_true : ∀ n : Nat, (List.replicate n true).all id = true
  | 0 => rfl
  | n + 1 => by rw [List.replicate_succ, List.all_cons, all_true n]; rfl
theorem rep_snoc (n : Nat) : (List.replicate (n + 1) true).map V.bl = (List.replicate n true).map V.bl ++ [V.bl true] := by
  rw [List.replicate_succ', List.map_append]; rfl
abbrev s_is_vector : Stmt := top 5
abbrev n_is_vector : List Str := ["value", "width", "part"]
theorem sc_is_vector : FnScope n_is_vector ["value", "width"] (defScope s_is_vector) := ⟨rfl, rfl, rfl, by decide +kernel, rfl, by decide +kernel, by decide +kernel⟩
/-- what is no tuple -/
inductive NoTup (H : Hp) : V → Prop where
  | non : NoTup H .non
  | int (i : Int) : NoTup H (.int i)
  | str (s : Str) : NoTup H (.str s)
  | lst {a : Addr} {xs : List V} (h : H a = some (.lst xs)) : NoTup H (.ref a)
theorem NoTup.ty {H : Hp} {x : V} (h : NoTup H x) : ∃ t : String, TyX K H x (.type t) ∧ (t = "NoneType" ∨ t = "int" ∨ t = "str" ∨ t = "list") := by
  cases h with
  | non => exact ⟨_, .base .non, .inl rfl⟩
  | int i => exact ⟨_, .base (.int i), .inr (.inl rfl)⟩
  | str s => exact ⟨_, .base (.str s), .inr (.inr (.inl rfl))⟩
  | lst h => exact ⟨_, .base (.lst h), .inr (.inr (.inr rfl))⟩
theorem noTup_kit {t : String} (h : t = "NoneType" ∨ t = "int" ∨ t = "str" ∨ t = "list") : PySem.W.kitOne K (.type t) (.type "tuple") = some false := by
  rcases h with h | h | h | h <;> subst h <;> exact kit_ty (by decide +kernel)
def spIsVectorG : Sp := fun vs H Q _ => ∃ (x : V) (n : Nat), vs = [x, .int ((n : Nat) : Int)] ∧
  ((∃ (a : Addr) (xs : List V) (bs : List Bool), x = .ref a ∧ H a = some (.tup xs) ∧ Paired Flat xs bs ∧ xs.length ≤ 1000 ∧ ∀ H', Same H H' → Q (.bl (decide (xs.length = n) && bs.all id)) H') ∨ (NoTup H x ∧ Q (.bl false) H))
theorem ok_is_vectorG (T : Txt mg) (g_is_integer : Has P w K mg base 1 "is_integer" ["value"] spIntG) (F : DefAt K mg "is_vector" s_is_vector ["value", "width"]) : Has P w K mg base 2 "is_vector" ["value", "width"] spIsVectorG := by
  refine F.has sc_is_vector (fun vs H Q E h => ?_) (fun f cdv A outer s H vs Q E hr h => ?_)
  · obtain ⟨x, n, rfl, _⟩ := h
    rfl
  · obtain ⟨x, n, rfl, h⟩ := h
    refine ⟨_, (pss_one (ps_ret (pe_and (pe_callB call_isi (by rfl) T.z_isinstance (by decide +kernel) (pa_cons (pv 0) (pa_cons (pe_bltn (v := .ty "tuple") (by rfl) T.z_tuple (by decide +kernel) rfl) pa_nil))) (pe_and (pe_cmpR op_eq (pe_callB call_len (by rfl) T.z_len (by decide +kernel) (pa_cons (pv 0) pa_nil)) (pv 1) (nomark _)) (pe_one (pe_callB (cr_all rfl) (by rfl) T.z_all (by decide +kernel) (pa_cons (pe_lc (own := [("part", 2)]) (g := gName 2) (by rfl) sc_is_vector.nd (pi_tup (pv 0)) (blkOk_by (own := [("part", 2)]) (N := n_is_vector) (sc := defScope s_is_vector) (by decide +kernel)) (fun _ _ _ _ _ => (pg_name (i := 2) sc_is_vector.nd rfl (Or.inl rfl))) (fun _ _ _ _ _ => pts_nil) (fun _ _ _ _ _ => (pe_callHas g_is_integer (hr.mono (by decide)) rfl (pa_cons (pv 2) pa_nil)))) pa_nil))))))), ?_⟩
    rcases h with ⟨a, xs, bs, rfl, ha, fl, h1, k⟩ | ⟨nt, k⟩
    · refine ⟨_, rfl, _, _, _, _, true, rfl, .ty _, .base (.tup ha), kit_ty (by decide +kernel), _, rfl, ?_⟩
      refine ⟨_, rfl, _, _, rfl, .inr ⟨_, SqT.of ha, rfl⟩, _, rfl, rfl, _, rfl, ?_⟩
      by_cases hn : xs.length = n
      · show if decide (V.int ((xs.length : Nat) : Int) = V.int ((n : Nat) : Int)) = true then _ else _
        rw [decide_eq_true (by rw [hn])]
        refine ⟨_, rfl, a, rfl, ⟨_, SqT.of ha⟩, fun D hD => lc_it (walk_tup (xs := xs)) (fun i H' => Same H H' ∧ H' D = some (.lst ((bs.take i).map V.bl))) ?_ ?_ ?_ ?_⟩
        · exact ⟨(new_at hD).1, upd_same⟩
        · exact fun i H' _ q => SqT.of (q.1 _ _ ha)
        · rintro i x H' H'' hi ⟨sm, hD'⟩ ⟨rfl, e1⟩
          obtain ⟨b, eb, fb⟩ := paired_get fl e1
          refine ⟨rfl, ?_⟩
          refine ⟨_, rfl, x, b, rfl, fb, ?_⟩
          refine ⟨_, hD', by rw [List.length_map, List.length_take]; exact Nat.lt_of_le_of_lt (Nat.le_trans (Nat.min_le_right _ _) (fl.length ▸ h1)) (by decide), fun x o z => ?_, ?_⟩
          · rw [upd_ne (ne_of_none z hD)]
            exact sm _ _ z
          · rw [upd_same, List.take_add_one, eb, List.map_append]; rfl
        · rintro H' ⟨sm, hD'⟩
          rw [show xs.length = bs.length from fl.length, List.take_length] at hD'
          refine ⟨_, _, rfl, SqL.of hD', ?_⟩
          have := k _ sm
          rw [decide_eq_true hn, Bool.true_and] at this
          exact this
      · show if decide (V.int ((xs.length : Nat) : Int) = V.int ((n : Nat) : Int)) = true then _ else _
        rw [decide_eq_false (fun z => hn (by have := V.int.inj z; omega))]
        have := k _ (Same.refl H)
        rw [decide_eq_false hn, Bool.false_and] at this
        exact this
    · obtain ⟨t, ty, ht⟩ := nt.ty (K := K)
      exact ⟨_, rfl, _, _, _, _, false, rfl, .ty _, ty, noTup_kit ht, _, rfl, k⟩
def spIsVector : Sp := fun vs H Q _ => ∃ (a : Addr) (v : Vec), vs = [.ref a, .int ((v.length : Nat) : Int)] ∧ IsV H a v ∧ v.length ≤ 1000 ∧ ∀ H', Same H H' → Q (.bl true) H'
theorem flat_ints : ∀ v : Vec, Paired Flat (v.map V.int) (List.replicate v.length true)
  | [] => .nil
  | n :: v => .cons (.int n) (flat_ints v)
theorem ok_is_vector (g : Has P w K mg base 2 "is_vector" ["value", "width"] spIsVectorG) : Has P w K mg base 2 "is_vector" ["value", "width"] spIsVector :=
  Has.imp g fun vs H Q E h => by
    obtain ⟨a, v, rfl, hv, h1, k⟩ := h
    refine ⟨_, _, rfl, .inl ⟨a, _, _, rfl, hv, flat_ints v, by rw [List.length_map]; exact h1, fun H' sm => ?_⟩⟩
    rw [List.length_map, decide_eq_true rfl, all_true]
    exact k _ sm
/-- a row of vectors of one width -/
def Rows (H : Hp) (n : Nat) (as : List V) (vs : List Vec) : Prop := Paired (fun x v => ∃ a, x = V.ref a ∧ IsV H a v) as vs ∧ ∀ v ∈ vs, v.length = n
theorem Rows.keep {H H' : Hp} {n : Nat} {as : List V} {vs : List Vec} (s : Same H H') (h : Rows H n as vs) : Rows H' n as vs :=
  ⟨Paired.mapP h.1 fun x v z => by obtain ⟨a, e, q⟩ := z; exact ⟨a, e, s _ _ q⟩, h.2⟩
theorem Rows.at {H : Hp} {n i : Nat} {as : List V} {vs : List Vec} {x : V} (h : Rows H n as vs) (e : as[i]? = some x) : ∃ a v, vs[i]? = some v ∧ x = .ref a ∧ IsV H a v ∧ v.length = n := by
  obtain ⟨v, ev, a, ea, q⟩ := paired_get h.1 e
  exact ⟨a, v, ev, ea, q, h.2 v (List.mem_of_getElem? ev)⟩
theorem Rows.len {H : Hp} {n : Nat} {as : List V} {vs : List Vec} (h : Rows H n as vs) : as.length = vs.length := Paired.length h.1
abbrev s_are_vectors : Stmt := top 6
abbrev n_are_vectors : List Str := ["value", "width", "part"]
theorem sc_are_vectors : FnScope n_are_vectors ["value", "width"] (defScope s_are_vectors) := ⟨rfl, rfl, rfl, by decide +kernel, rfl, by decide +kernel, by decide +kernel⟩
def spAreVectors (K : PySem.W.Frag) : Sp := fun vs H Q _ => ∃ (l : Addr) (as : List V) (rs : List Vec) (n : Nat), vs = [.ref l, .int ((n : Nat) : Int)] ∧ InSeq K H l as ∧ Rows H n as rs ∧ n ≤ 1000 ∧ rs.length ≤ 1000 ∧ ∀ H', Same H H' → Q (.bl true) H'
theorem ok_are_vectors (T : Txt mg) (g_is_sequence : Has P w K mg base 1 "is_sequence" ["value"] (spSeq K)) (g_is_vector : Has P w K mg base 2 "is_vector" ["value", "width"] spIsVector) (F : DefAt K mg "are_vectors" s_are_vectors ["value", "width"]) : Has P w K mg base 3 "are_vectors" ["value", "width"] (spAreVectors K) := by
  refine F.has sc_are_vectors (fun vs H Q E h => ?_) (fun f cdv A outer s H vs Q E hr h => ?_)
  · obtain ⟨l, as, rs, n, rfl, _⟩ := h
    rfl
  · obtain ⟨l, as, rs, n, rfl, hl, hrs, hn, h1, k⟩ := h
    refine ⟨_, (pss_one (ps_ret (pe_and (pe_callHas g_is_sequence (hr.mono (by decide)) rfl (pa_cons (pv 0) pa_nil)) (pe_one (pe_callB (cr_all rfl) (by rfl) T.z_all (by decide +kernel) (pa_cons (pe_lc (own := [("part", 2)]) (g := gName 2) (by rfl) sc_are_vectors.nd (pi_seq (pv 0)) (blkOk_by (own := [("part", 2)]) (N := n_are_vectors) (sc := defScope s_are_vectors) (by decide +kernel)) (fun _ _ _ _ _ => (pg_name (i := 2) sc_are_vectors.nd rfl (Or.inl rfl))) (fun _ _ _ _ _ => pts_nil) (fun _ _ _ _ _ => (pe_callHas g_is_vector (hr.mono (by decide)) rfl (pa_cons (pv 2) (pa_cons (pv 1) pa_nil))))) pa_nil)))))), ?_⟩
    refine ⟨_, rfl, l, as, rfl, hl, fun H1 s1 => ⟨_, rfl, ?_⟩⟩
    rcases hl with hl | hq
    · refine Or.inl ⟨_, rfl, l, rfl, ⟨_, SqL.of (s1 _ _ hl)⟩, fun D hD => lc_it (walk_list (xs := as)) (fun i H' => Same H1 H' ∧ H' D = some (.lst ((List.replicate i true).map V.bl))) ?_ ?_ ?_ ?_⟩
      · exact ⟨(new_at hD).1, upd_same⟩
      · exact fun i H' _ q => SqL.of (q.1 _ _ (s1 _ _ hl))
      · rintro i x H' H'' hi ⟨sm, hD'⟩ ⟨rfl, e1⟩
        obtain ⟨a, v, ev, rfl, hv, lv⟩ := (hrs.keep (s1.trans sm)).at e1
        refine ⟨rfl, ?_⟩
        refine ⟨_, rfl, _, rfl, a, v, (by rw [lv]; rfl), hv, by omega, fun H2 s2 => ?_⟩
        have hi' : i < rs.length := hrs.len ▸ hi
        refine ⟨_, s2 _ _ hD', by rw [List.length_map, List.length_replicate]; exact Nat.lt_of_le_of_lt (Nat.le_trans (Nat.le_of_lt hi') h1) (by decide), fun x o z => ?_, ?_⟩
        · rw [upd_ne (ne_of_none z hD)]
          exact s2 _ _ (sm _ _ z)
        · rw [upd_same, rep_snoc]
      · rintro H' ⟨sm, hD'⟩
        refine ⟨_, _, rfl, SqL.of hD', ?_⟩
        rw [all_true]
        exact k _ (s1.trans sm)
    · refine Or.inr ⟨_, rfl, l, rfl, ⟨_, hq.1 _ s1⟩, fun D hD => lc_it (walk_tup (xs := as)) (fun i H' => Same H1 H' ∧ H' D = some (.lst ((List.replicate i true).map V.bl))) ?_ ?_ ?_ ?_⟩
      · exact ⟨(new_at hD).1, upd_same⟩
      · exact fun i H' _ q => hq.1 _ (s1.trans q.1)
      · rintro i x H' H'' hi ⟨sm, hD'⟩ ⟨rfl, e1⟩
        obtain ⟨a, v, ev, rfl, hv, lv⟩ := (hrs.keep (s1.trans sm)).at e1
        refine ⟨rfl, ?_⟩
        refine ⟨_, rfl, _, rfl, a, v, (by rw [lv]; rfl), hv, by omega, fun H2 s2 => ?_⟩
        have hi' : i < rs.length := hrs.len ▸ hi
        refine ⟨_, s2 _ _ hD', by rw [List.length_map, List.length_replicate]; exact Nat.lt_of_le_of_lt (Nat.le_trans (Nat.le_of_lt hi') h1) (by decide), fun x o z => ?_, ?_⟩
        · rw [upd_ne (ne_of_none z hD)]
          exact s2 _ _ (sm _ _ z)
        · rw [upd_same, rep_snoc]
      · rintro H' ⟨sm, hD'⟩
        refine ⟨_, _, rfl, SqL.of hD', ?_⟩
        rw [all_true]
        exact k _ (s1.trans sm)
end
end K06

namespace K06
open PySem L2 RZ Lat
section
variable {P : Program} {w : World} {K : PySem.W.Frag} {mg : Str → Option Value} {base : Heap}
def OkRed : List Vec → Vec → Prop
  | [], _ => True
  | r :: rs, v => piv r < r.length ∧ CDivZ (itm v (piv r)) (itm r (piv r)) ∧ (∀ m ∈ r, CMulX (-((itm v (piv r)).fdiv (itm r (piv r)))) m) ∧ OkRed rs (addV v (-((itm v (piv r)).fdiv (itm r (piv r)))) r)
/-- rows in a list or a tuple -/
def RowsAt (H : Hp) (b : Addr) (as : List V) : Prop := H b = some (.tup as) ∨ H b = some (.lst as)
theorem RowsAt.keep {H H' : Hp} {b : Addr} {as : List V} (s : Same H H') (h : RowsAt H b as) : RowsAt H' b as := h.imp (s _ _) (s _ _)
theorem int_at {v : Vec} {i : Nat} (h : i < v.length) : atI (v.map V.int) ((i : Nat) : Int) = some (V.int (itm v i)) := atI_nat (by rw [List.getElem?_map, itm_of h]; rfl)
abbrev s_reduced_by : Stmt := top 18
abbrev n_reduced_by : List Str := ["basis", "vector", "row", "at"]
theorem sc_reduced_by : FnScope n_reduced_by ["basis", "vector"] (defScope s_reduced_by) := ⟨rfl, rfl, rfl, by decide +kernel, rfl, by decide +kernel, by decide +kernel⟩
def spReduced : Sp := fun vs H Q _ => ∃ (b p : Addr) (as : List V) (rs : List Vec) (v : Vec), vs = [.ref b, .ref p] ∧ RowsAt H b as ∧ Rows H v.length as rs ∧ IsV H p v ∧ v.length ≤ 1000 ∧ OkRed rs v ∧ ∀ (H' : Hp) (q : Addr), Same H H' → IsV H' q (redV rs v) → (redV rs v).length = v.length → Q (.ref q) H'
theorem ok_reduced_by (T : Txt mg) (g_pivot_of : Has P w K mg base 1 "pivot_of" ["vector"] spPivot) (g_added : Has P w K mg base 1 "added" ["vector", "times", "other"] spAdded) (F : DefAt K mg "reduced_by" s_reduced_by ["basis", "vector"]) : Has P w K mg base 2 "reduced_by" ["basis", "vector"] spReduced := by
  refine F.has sc_reduced_by (fun vs H Q E h => ?_) (fun f cdv A outer s H vs Q E hr h => ?_)
  · obtain ⟨b, p, as, rs, v, rfl, _⟩ := h
    rfl
  · obtain ⟨b, p, as, rs, v, rfl, hb, hrs, hv, h1, ok, k⟩ := h
    refine ⟨_, (pss_cons (ps_for PassesOwn.never rfl (pi_seq (pv 0)) (pg_name (i := 2) sc_reduced_by.nd rfl (Or.inl rfl)) (pss_cons (ps_set (i := 3) sc_reduced_by.nd rfl (Or.inl rfl) (pe_callHas g_pivot_of (hr.mono (by decide)) rfl (pa_cons (pv 2) pa_nil)))
      (pss_one (ps_set (i := 1) sc_reduced_by.nd rfl (Or.inl rfl) (pe_callHas g_added (hr.mono (by decide)) rfl (pa_cons (pv 1) (pa_cons (pe_un un_neg (pe_op op_fdivZ (pe_ix ix_tup (pv 1) (pv 3) (fun _ _ => rfl)) (pe_ix ix_tup (pv 2) (pv 3) (fun _ _ => rfl)))) (pa_cons (pv 2) pa_nil))))))))
      (pss_one (ps_ret (pv 1)))), ?_⟩
    rcases hb with hb | hb
    · refine .inr ⟨_, rfl, b, rfl, ⟨_, SqT.of hb⟩, for_it (walk_tup (xs := as)) (fun i σ H' => ∃ (q : Addr) (u : Vec) (x2 x3 : Option V), σ = [some (.ref b), some (.ref q), x2, x3] ∧ Same H H' ∧ IsV H' q u ∧ u.length = v.length ∧ OkRed (rs.drop i) u ∧ redV (rs.drop i) u = redV rs v) ⟨p, v, _, _, rfl, Same.refl _, hv, rfl, ok, rfl⟩ (fun i σ H' _ q => SqT.of ((show Same H H' from by obtain ⟨_, _, _, _, _, sm, _⟩ := q; exact sm) _ _ hb)) ?_ ?_⟩
      · rintro i x σ H' H'' hi ⟨q, u, x2, x3, rfl, sm, hu, lu, oku, eu⟩ ⟨rfl, ex⟩
        obtain ⟨a, r, er, rfl, hr0, lr⟩ := (hrs.keep sm).at ex
        have hlt := (List.getElem?_eq_some_iff.mp er).1
        have ed : rs.drop i = r :: rs.drop (i + 1) := by
          rw [List.drop_eq_getElem_cons hlt, (List.getElem?_eq_some_iff.mp er).2]
        rw [ed] at oku eu
        obtain ⟨o1, o2, o3, o4⟩ := oku
        refine ⟨_, rfl, a, r, rfl, hr0, fun H1 s1 => ?_⟩
        refine ⟨_, rfl, _, rfl, _, rfl, q, _, _, _, rfl, rfl, SqT.of (s1 _ _ hu), int_at (by omega), _, rfl, _, rfl, a, _, _, _, rfl, rfl, SqT.of (s1 _ _ hr0), int_at o1, _, _, rfl, rfl, o2, _, rfl, _, rfl, ?_⟩
        refine ⟨q, a, _, u, r, rfl, s1 _ _ hu, s1 _ _ hr0, by omega, by omega, o3, fun H2 z s2 hz => ?_⟩
        exact ⟨z, _, _, _, rfl, (sm.trans s1).trans s2, hz, (addV_len (by omega)).trans lu, o4, eu⟩
      · rintro σ H' ⟨q, u, x2, x3, rfl, sm, hu, lu, oku, eu⟩
        rw [hrs.len, List.drop_length] at eu
        have eu' : u = redV rs v := eu
        subst eu'
        exact ⟨_, rfl, k _ q sm hu lu⟩
    · refine .inl ⟨_, rfl, b, rfl, ⟨_, SqL.of hb⟩, for_it (walk_list (xs := as)) (fun i σ H' => ∃ (q : Addr) (u : Vec) (x2 x3 : Option V), σ = [some (.ref b), some (.ref q), x2, x3] ∧ Same H H' ∧ IsV H' q u ∧ u.length = v.length ∧ OkRed (rs.drop i) u ∧ redV (rs.drop i) u = redV rs v) ⟨p, v, _, _, rfl, Same.refl _, hv, rfl, ok, rfl⟩ (fun i σ H' _ q => SqL.of ((show Same H H' from by obtain ⟨_, _, _, _, _, sm, _⟩ := q; exact sm) _ _ hb)) ?_ ?_⟩
      · rintro i x σ H' H'' hi ⟨q, u, x2, x3, rfl, sm, hu, lu, oku, eu⟩ ⟨rfl, ex⟩
        obtain ⟨a, r, er, rfl, hr0, lr⟩ := (hrs.keep sm).at ex
        have hlt := (List.getElem?_eq_some_iff.mp er).1
        have ed : rs.drop i = r :: rs.drop (i + 1) := by
          rw [List.drop_eq_getElem_cons hlt, (List.getElem?_eq_some_iff.mp er).2]
        rw [ed] at oku eu
        obtain ⟨o1, o2, o3, o4⟩ := oku
        refine ⟨_, rfl, a, r, rfl, hr0, fun H1 s1 => ?_⟩
        refine ⟨_, rfl, _, rfl, _, rfl, q, _, _, _, rfl, rfl, SqT.of (s1 _ _ hu), int_at (by omega), _, rfl, _, rfl, a, _, _, _, rfl, rfl, SqT.of (s1 _ _ hr0), int_at o1, _, _, rfl, rfl, o2, _, rfl, _, rfl, ?_⟩
        refine ⟨q, a, _, u, r, rfl, s1 _ _ hu, s1 _ _ hr0, by omega, by omega, o3, fun H2 z s2 hz => ?_⟩
        exact ⟨z, _, _, _, rfl, (sm.trans s1).trans s2, hz, (addV_len (by omega)).trans lu, o4, eu⟩
      · rintro σ H' ⟨q, u, x2, x3, rfl, sm, hu, lu, oku, eu⟩
        rw [hrs.len, List.drop_length] at eu
        have eu' : u = redV rs v := eu
        subst eu'
        exact ⟨_, rfl, k _ q sm hu lu⟩
/-- the turns of cleared keep to what the model can do -/
def OkClr : Nat → Vec → Vec → Nat → Prop
  | 0, _, v, i => itm v i = 0
  | n + 1, r, v, i => itm v i = 0 ∨ (CDivZ (itm r i) (itm v i) ∧ (∀ m ∈ v, CMulX (-((itm r i).fdiv (itm v i))) m) ∧ OkClr n v (addV r (-((itm r i).fdiv (itm v i))) v) i)
abbrev s_cleared : Stmt := top 19
abbrev n_cleared : List Str := ["row", "vector", "at"]
theorem sc_cleared : FnScope n_cleared ["row", "vector", "at"] (defScope s_cleared) := ⟨rfl, rfl, rfl, by decide +kernel, rfl, by decide +kernel, by decide +kernel⟩
def spCleared : Sp := fun vs H Q _ => ∃ (a p : Addr) (r v : Vec) (i n : Nat), vs = [.ref a, .ref p, .int ((i : Nat) : Int)] ∧ IsV H a r ∧ IsV H p v ∧ r.length = v.length ∧ v.length ≤ 1000 ∧ i < v.length ∧ OkClr n r v i ∧
  ∀ (H' : Hp) (t x y : Addr), Same H H' → H' t = some (.tup [.ref x, .ref y]) → IsV H' x (clr n r v i).1 → IsV H' y (clr n r v i).2 → Q (.ref t) H'
theorem ok_cleared (T : Txt mg) (g_added : Has P w K mg base 1 "added" ["vector", "times", "other"] spAdded) (F : DefAt K mg "cleared" s_cleared ["row", "vector", "at"]) : Has P w K mg base 2 "cleared" ["row", "vector", "at"] spCleared := by
  refine F.has sc_cleared (fun vs H Q E h => ?_) (fun f cdv A outer s H vs Q E hr h => ?_)
  · obtain ⟨a, p, r, v, i, n, rfl, _⟩ := h
    rfl
  · obtain ⟨a, p, r, v, i, n, rfl, ha, hp, hl, h1, hi, ok, k⟩ := h
    refine ⟨_, (pss_cons (ps_while PassesOwn.never (pt_cmpR op_ne (pe_ix ix_tup (pv 1) (pv 2) (fun _ _ => rfl)) pe_int (nomark _)) (pss_one (ps_par (i := 0) (j := 1) (by rfl) sc_cleared.nd rfl rfl (by decide) rfl rfl (pa_cons (pv 1) (pa_cons (pe_callHas g_added (hr.mono (by decide)) rfl (pa_cons (pv 0) (pa_cons (pe_un un_neg (pe_op op_fdivZ (pe_ix ix_tup (pv 0) (pv 2) (fun _ _ => rfl)) (pe_ix ix_tup (pv 1) (pv 2) (fun _ _ => rfl)))) (pa_cons (pv 1) pa_nil)))) pa_nil)) (by rfl))))
      (pss_one (ps_ret (pe_tup (pa_cons (pv 0) (pa_cons (pv 1) pa_nil)))))), ?_⟩
    refine ⟨fun m σ H' => ∃ (x y : Addr) (r' v' : Vec), σ = [some (.ref x), some (.ref y), some (.int ((i : Nat) : Int))] ∧ Same H H' ∧ IsV H' x r' ∧ IsV H' y v' ∧ r'.length = v'.length ∧ v'.length = v.length ∧ OkClr m r' v' i ∧ clr m r' v' i = clr n r v i, ⟨n, a, p, r, v, rfl, Same.refl _, ha, hp, hl, rfl, ok, rfl⟩, ?_⟩
    rintro m σ H' ⟨x, y, r', v', rfl, sm, hx, hy, hl', lv', ok', e'⟩
    refine ⟨_, rfl, _, rfl, y, _, _, _, rfl, rfl, SqT.of hy, int_at (by omega), rfl, _, rfl, ?_⟩
    have stop : itm v' i = 0 → clr m r' v' i = (r', v') := fun h0 => by
      cases m with
      | zero => rfl
      | succ m => unfold clr; rw [if_pos h0]
    by_cases h0 : itm v' i = 0
    · have e2 := stop h0
      show if (!decide (V.int (itm v' i) = V.int 0)) = true then _ else _
      rw [h0, decide_eq_true rfl]
      rw [e2] at e'
      refine ⟨_, rfl, _, rfl, (by decide : 2 ≤ sizeLine), fun t ht => ?_⟩
      obtain ⟨st, h2⟩ := new_at (o := .tup [.ref x, .ref y]) ht
      refine k _ t x y (sm.trans st) h2 (st _ _ ?_) (st _ _ ?_)
      · rw [← e']; exact hx
      · rw [← e']; exact hy
    · show if (!decide (V.int (itm v' i) = V.int 0)) = true then _ else _
      rw [decide_eq_false (fun z => h0 (V.int.inj z))]
      cases m with
      | zero => exact absurd ok' h0
      | succ m =>
        obtain ok' | ⟨o1, o2, o3⟩ := ok'
        · exact absurd ok' h0
        · have e3 : clr (m + 1) r' v' i = clr m v' (addV r' (-((itm r' i).fdiv (itm v' i))) v') i := by
            rw [clr, if_neg h0]
          rw [e3] at e'
          refine ⟨fun σ2 H2 => ∃ (x y : Addr) (r' v' : Vec), σ2 = [some (.ref x), some (.ref y), some (.int ((i : Nat) : Int))] ∧ Same H H2 ∧ IsV H2 x r' ∧ IsV H2 y v' ∧ r'.length = v'.length ∧ v'.length = v.length ∧ OkClr m r' v' i ∧ clr m r' v' i = clr n r v i, fun σ2 H2 q => ⟨m, Nat.lt_succ_self m, q⟩, ?_⟩
          refine ⟨_, rfl, _, rfl, _, rfl, _, rfl, x, _, _, _, rfl, rfl, SqT.of hx, int_at (by omega), _, rfl, _, rfl, y, _, _, _, rfl, rfl, SqT.of hy, int_at (by omega), _, _, rfl, rfl, o1, _, rfl, _, rfl, ?_⟩
          refine ⟨x, y, _, r', v', rfl, hx, hy, hl', by omega, o2, fun H2 z s2 hz => ?_⟩
          exact ⟨_, _, rfl, y, z, _, _, rfl, sm.trans s2, s2 _ _ hy, hz, by rw [addV_len hl', hl'], by rw [addV_len hl']; omega, o3, e'⟩
end
end K06

namespace K06
open PySem L2 RZ Lat
section
variable {P : Program} {w : World} {K : PySem.W.Frag} {mg : Str → Option Value} {base : Heap}
def OkStep : List Vec → Vec → Prop
  | [], _ => True
  | r :: rs, l => piv r < r.length ∧ ((piv l < piv r ∧ OkStep rs r) ∨ (¬ piv l < piv r ∧ OkClr (itm l (piv r)).natAbs r l (piv r) ∧ OkStep rs (clear r l (piv r)).2))
theorem Rows.lst_up {H : Hp} {n : Nat} {o : Addr} {ys xs as : List V} {vs : List Vec} (ho : H o = some (.lst ys)) (h : Rows H n as vs) : Rows (upd H o (.lst xs)) n as vs :=
  ⟨Paired.mapP h.1 fun x v z => by
    obtain ⟨a, e, q⟩ := z
    exact ⟨a, e, (upd_ne (ne_of q ho fun y => nomatch y)).trans q⟩, h.2⟩
theorem Rows.snoc {H : Hp} {n : Nat} {a : Addr} {as : List V} {vs : List Vec} {v : Vec} (h : Rows H n as vs) (hv : IsV H a v) (l : v.length = n) : Rows H n (as ++ [.ref a]) (vs ++ [v]) := by
  obtain ⟨h1, h2⟩ := h
  refine ⟨?_, fun u hu => ?_⟩
  · induction h1 with
    | nil => exact .cons ⟨a, rfl, hv⟩ .nil
    | cons r _ ih => exact .cons r (ih fun u hu => h2 u (List.mem_cons_of_mem _ hu))
  · rcases List.mem_append.mp hu with hu | hu
    · exact h2 u hu
    · rw [List.mem_singleton.mp hu]; exact l
theorem V_up {H : Hp} {a o : Addr} {ys xs : List V} {v : Vec} (ho : H o = some (.lst ys)) (h : IsV H a v) : IsV (upd H o (.lst xs)) a v := (upd_ne (ne_of h ho fun y => nomatch y)).trans h
abbrev s_stepped : Stmt := top 20
abbrev n_stepped : List Str := ["steps", "vector", "out", "left", "row", "at", "kept"]
theorem sc_stepped : FnScope n_stepped ["steps", "vector"] (defScope s_stepped) := ⟨rfl, rfl, rfl, by decide +kernel, rfl, by decide +kernel, by decide +kernel⟩
def spStepped : Sp := fun vs H Q _ => ∃ (b p : Addr) (as : List V) (rs : List Vec) (v : Vec), vs = [.ref b, .ref p] ∧ H b = some (.tup as) ∧ Rows H v.length as rs ∧ IsV H p v ∧ v.length ≤ 1000 ∧ rs.length ≤ 1000 ∧ OkStep rs v ∧
  ∀ (H' : Hp) (o : Addr) (os : List V), Same H H' → H' o = some (.lst os) → Rows H' v.length os (Lat.stepped rs v) → Q (.ref o) H'
theorem ok_stepped (T : Txt mg) (g_pivot_of : Has P w K mg base 1 "pivot_of" ["vector"] spPivot) (g_cleared : Has P w K mg base 2 "cleared" ["row", "vector", "at"] spCleared) (g_is_zero : Has P w K mg base 2 "is_zero" ["vector"] spZero) (F : DefAt K mg "stepped" s_stepped ["steps", "vector"]) :
    Has P w K mg base 3 "stepped" ["steps", "vector"] spStepped := by
  refine F.has sc_stepped (fun vs H Q E h => ?_) (fun f cdv A outer s H vs Q E hr h => ?_)
  · obtain ⟨b, p, as, rs, v, rfl, _⟩ := h
    rfl
  · obtain ⟨b, p, as, rs, v, rfl, hb, hrs, hv, h1, h2, ok, k⟩ := h
    refine ⟨_, (pss_cons (ps_set (i := 2) sc_stepped.nd rfl (Or.inl rfl) (pe_lst pa_nil))
      (pss_cons (ps_set (i := 3) sc_stepped.nd rfl (Or.inl rfl) (pv 1))
      (pss_cons (ps_for PassesOwn.never rfl (pi_tup (pv 0)) (pg_name (i := 4) sc_stepped.nd rfl (Or.inl rfl)) (pss_cons (ps_set (i := 5) sc_stepped.nd rfl (Or.inl rfl) (pe_callHas g_pivot_of (hr.mono (by decide)) rfl (pa_cons (pv 4) pa_nil)))
      (pss_one (ps_if (pt_cmpR op_lt (pe_callHas g_pivot_of (hr.mono (by decide)) rfl (pa_cons (pv 3) pa_nil)) (pv 5) (nomark _)) (pss_cons (ps_expr (pe_bm PySem.F.plainAttrs_list PySem.F.slot_list_append PySem.F.type_list_append mt_append (pv 2) (pa_cons (pv 3) pa_nil)))
      (pss_one (ps_set (i := 3) sc_stepped.nd rfl (Or.inl rfl) (pv 4)))) (pss_cons (ps_asg (pe_callHas g_cleared (hr.mono (by decide)) rfl (pa_cons (pv 4) (pa_cons (pv 3) (pa_cons (pv 5) pa_nil)))) (pg_tup rfl (pgs_cons (pg_name (i := 6) sc_stepped.nd rfl (Or.inl rfl)) (pgs_cons (pg_name (i := 3) sc_stepped.nd rfl (Or.inl rfl)) pgs_nil))))
      (pss_one (ps_expr (pe_bm PySem.F.plainAttrs_list PySem.F.slot_list_append PySem.F.type_list_append mt_append (pv 2) (pa_cons (pv 6) pa_nil)))))))))
      (pss_cons (ps_if (pt_not (pt_val (pe_callHas g_is_zero (hr.mono (by decide)) rfl (pa_cons (pv 3) pa_nil)))) (pss_one (ps_expr (pe_bm PySem.F.plainAttrs_list PySem.F.slot_list_append PySem.F.type_list_append mt_append (pv 2) (pa_cons (pv 3) pa_nil)))) pss_nil)
      (pss_one (ps_ret (pv 2))))))), ?_⟩
    refine ⟨Nat.zero_le _, fun o ho => ?_⟩
    obtain ⟨so, ho1⟩ := new_at (o := .lst []) ho
    refine ⟨_, rfl, ?_⟩
    refine ⟨_, rfl, b, rfl, ⟨_, SqT.of (so _ _ hb)⟩, for_it (walk_tup (xs := as)) (fun i σ H' => ∃ (q : Addr) (l : Vec) (outs : List V) (os : List Vec) (x4 x5 x6 : Option V), σ = [some (.ref b), some (.ref p), some (.ref o), some (.ref q), x4, x5, x6] ∧ Same H H' ∧ IsV H' q l ∧ l.length = v.length ∧
      H' o = some (.lst outs) ∧ Rows H' v.length outs os ∧ os.length = i ∧ OkStep (rs.drop i) l ∧ os ++ (stepGo (rs.drop i) l).1 = (stepGo rs v).1 ∧ (stepGo (rs.drop i) l).2 = (stepGo rs v).2) ⟨p, v, [], [], _, _, _, rfl, so, so _ _ hv, rfl, ho1, ⟨.nil, fun u hu => nomatch hu⟩, rfl, ok, rfl, rfl⟩ (fun i σ H' _ z => ?_) ?_ ?_⟩
    · obtain ⟨_, _, _, _, _, _, _, _, sm, _⟩ := z
      exact SqT.of (sm _ _ hb)
    · rintro i x σ H' H'' hi ⟨q, l, outs, os, x4, x5, x6, rfl, sm, hl, ll, hout, hos, los, okl, e1, e2⟩ ⟨rfl, ex⟩
      obtain ⟨a, r, er, rfl, hr0, lr⟩ := (hrs.keep sm).at ex
      have hlt := (List.getElem?_eq_some_iff.mp er).1
      have ed : rs.drop i = r :: rs.drop (i + 1) := by
        rw [List.drop_eq_getElem_cons hlt, (List.getElem?_eq_some_iff.mp er).2]
      rw [ed] at okl e1 e2
      obtain ⟨o1, o2⟩ := okl
      have lout : outs.length = i := (hos.len).trans los
      have small : outs.length < sizeLine := by rw [lout]; exact Nat.lt_of_le_of_lt (Nat.le_trans (Nat.le_of_lt hlt) h2) (by decide)
      refine ⟨_, rfl, a, r, rfl, hr0, fun H1 s1 => ?_⟩
      refine ⟨_, rfl, q, l, rfl, s1 _ _ hl, fun H2 s2 => ⟨_, rfl, _, _, rfl, rfl, _, rfl, ?_⟩⟩
      have s12 := s1.trans s2
      have ho2 := s12 _ _ hout
      have nho : ∀ x' u, H x' = some u → x' ≠ o := fun x' u z => ne_of_none z ho
      rcases o2 with ⟨hp, o3⟩ | ⟨hp, o3, o4⟩
      · show if decide (((piv l : Nat) : Int) < ((piv r : Nat) : Int)) = true then _ else _
        rw [decide_eq_true (by omega)]
        refine ⟨_, rfl, .inl ⟨rfl, _, SqL.of ho2⟩, _, rfl, o, _, _, rfl, rfl, ho2, small, ?_⟩
        have eg : stepGo (r :: rs.drop (i + 1)) l = (l :: (stepGo (rs.drop (i + 1)) r).1, (stepGo (rs.drop (i + 1)) r).2) := by rw [stepGo, if_pos hp]
        rw [eg] at e1 e2
        refine ⟨_, rfl, a, r, _, os ++ [l], _, _, _, rfl, fun x' u z => ?_, V_up ho2 (s12 _ _ hr0), lr, upd_same, Rows.snoc (Rows.lst_up ho2 (hos.keep s12)) (V_up ho2 (s12 _ _ hl)) ll, by rw [List.length_append, los]; rfl, o3, ?_, e2⟩
        · rw [upd_ne (nho x' u z)]; exact s12 _ _ (sm _ _ z)
        · rw [List.append_assoc]; exact e1
      · show if decide (((piv l : Nat) : Int) < ((piv r : Nat) : Int)) = true then _ else _
        rw [decide_eq_false (by omega)]
        refine ⟨_, rfl, _, rfl, _, rfl, a, q, r, l, piv r, (itm l (piv r)).natAbs, rfl, s12 _ _ hr0, s12 _ _ hl, by omega, by omega, by omega, o3, fun H3 t x y s3 ht hx hy => ?_⟩
        have ho3 := s3 _ _ ho2
        refine ⟨t, _, rfl, SqT.of ht, rfl, _, _, rfl, _, _, rfl, rfl, ?_⟩
        refine ⟨_, rfl, .inl ⟨rfl, _, SqL.of ho3⟩, _, rfl, o, _, _, rfl, rfl, ho3, small, ?_⟩
        have eg : stepGo (r :: rs.drop (i + 1)) l = ((clear r l (piv r)).1 :: (stepGo (rs.drop (i + 1)) (clear r l (piv r)).2).1, (stepGo (rs.drop (i + 1)) (clear r l (piv r)).2).2) := by rw [stepGo, if_neg hp]
        rw [eg] at e1 e2
        have s13 := s12.trans s3
        obtain ⟨c1, c2⟩ := clr_len (itm l (piv r)).natAbs r l (piv r) (by omega)
        refine ⟨y, _, _, os ++ [(clear r l (piv r)).1], _, _, _, rfl, fun x' u z => ?_, V_up ho3 hy, (by first | omega | (unfold clear; omega)), upd_same, Rows.snoc (Rows.lst_up ho3 (hos.keep s13)) (V_up ho3 hx) (by first | omega | (unfold clear; omega)), by rw [List.length_append, los]; rfl, o4, ?_, e2⟩
        · rw [upd_ne (nho x' u z)]; exact s13 _ _ (sm _ _ z)
        · rw [List.append_assoc]; exact e1
    · rintro σ H' ⟨q, l, outs, os, x4, x5, x6, rfl, sm, hl, ll, hout, hos, los, okl, e1, e2⟩
      rw [hrs.len, List.drop_length] at e1 e2
      have e1' : os = (stepGo rs v).1 := by rw [← e1]; exact (List.append_nil os).symm
      have e2' : l = (stepGo rs v).2 := e2
      refine ⟨_, rfl, q, l, rfl, hl, fun H1 s1 => ⟨_, rfl, ?_⟩⟩
      have ho1 := s1 _ _ hout
      by_cases hz : piv l = l.length
      · show if (!decide (piv l = l.length)) = true then _ else _
        rw [decide_eq_true hz]
        have ef : Lat.stepped rs v = os := by unfold Lat.stepped; rw [← e2', if_pos hz, e1']
        refine ⟨_, rfl, k _ o outs (sm.trans s1) ho1 ?_⟩
        rw [ef]; exact hos.keep s1
      · show if (!decide (piv l = l.length)) = true then _ else _
        rw [decide_eq_false hz]
        have ef : Lat.stepped rs v = os ++ [l] := by unfold Lat.stepped; rw [← e2', if_neg hz, e1']
        have lout : outs.length = os.length := hos.len
        have small : outs.length < sizeLine := by rw [lout, los, hrs.len]; exact Nat.lt_of_le_of_lt h2 (by decide)
        refine ⟨_, rfl, .inl ⟨rfl, _, SqL.of ho1⟩, _, rfl, o, _, _, rfl, rfl, ho1, small, ?_⟩
        refine ⟨_, rfl, k _ o _ (fun x' u z => ?_) upd_same ?_⟩
        · rw [upd_ne (ne_of_none z ho)]; exact s1 _ _ (sm _ _ z)
        · rw [ef]
          exact Rows.snoc (Rows.lst_up ho1 (hos.keep s1)) (V_up ho1 (s1 _ _ hl)) ll
def OkPos (r : Vec) : Prop := piv r < r.length ∧ ∀ m ∈ r, CMulX (-2) m
theorem posV_len (r : Vec) : (posV r).length = r.length := by
  unfold posV
  split
  · rfl
  · exact addV_len rfl
abbrev s_positive : Stmt := top 21
abbrev n_positive : List Str := ["row"]
theorem sc_positive : FnScope n_positive ["row"] (defScope s_positive) := ⟨rfl, rfl, rfl, by decide +kernel, rfl, by decide +kernel, by decide +kernel⟩
def spPositive : Sp := fun vs H Q _ => ∃ (a : Addr) (r : Vec), vs = [.ref a] ∧ IsV H a r ∧ r.length ≤ 1000 ∧ OkPos r ∧ ∀ (H' : Hp) (q : Addr), Same H H' → IsV H' q (posV r) → Q (.ref q) H'
theorem ok_positive (T : Txt mg) (g_pivot_of : Has P w K mg base 1 "pivot_of" ["vector"] spPivot) (g_added : Has P w K mg base 1 "added" ["vector", "times", "other"] spAdded) (F : DefAt K mg "positive" s_positive ["row"]) : Has P w K mg base 2 "positive" ["row"] spPositive := by
  refine F.has sc_positive (fun vs H Q E h => ?_) (fun f cdv A outer s H vs Q E hr h => ?_)
  · obtain ⟨a, r, rfl, _⟩ := h
    rfl
  · obtain ⟨a, r, rfl, ha, h1, ⟨o1, o2⟩, k⟩ := h
    refine ⟨_, (pss_one (ps_ret (pe_ifExp (pt_cmpR op_gt (pe_ix ix_tup (pv 0) (pe_callHas g_pivot_of (hr.mono (by decide)) rfl (pa_cons (pv 0) pa_nil)) (fun _ _ => rfl)) pe_int (nomark _)) (pv 0) (pe_callHas g_added (hr.mono (by decide)) rfl (pa_cons (pv 0) (pa_cons (pe_un un_neg pe_int) (pa_cons (pv 0) pa_nil))))))), ?_⟩
    refine ⟨_, rfl, _, rfl, a, r, rfl, ha, fun H1 s1 => ⟨a, _, _, _, rfl, rfl, SqT.of (s1 _ _ ha), int_at o1, _, _, rfl, rfl, _, rfl, ?_⟩⟩
    by_cases h0 : itm r (piv r) > 0
    · show if decide (0 < itm r (piv r)) = true then _ else _
      rw [decide_eq_true h0]
      have e : posV r = r := by unfold posV; rw [if_pos h0]
      exact ⟨_, rfl, k _ a s1 (by rw [e]; exact s1 _ _ ha)⟩
    · show if decide (0 < itm r (piv r)) = true then _ else _
      rw [decide_eq_false h0]
      have e : posV r = addV r (-2) r := by unfold posV; rw [if_neg h0]
      refine ⟨_, rfl, _, rfl, _, rfl, a, a, -2, r, r, rfl, s1 _ _ ha, s1 _ _ ha, rfl, h1, o2, fun H2 q s2 hq => k _ q (s1.trans s2) (by rw [e]; exact hq)⟩
def OkTidy : List Vec → Prop
  | [] => True
  | r :: rs => OkTidy rs ∧ OkPos r ∧ OkRed (tidy rs) (posV r)
theorem okTidy_drop : ∀ (i : Nat) (rs : List Vec), OkTidy rs → OkTidy (rs.drop i)
  | 0, _, h => h
  | _ + 1, [], h => h
  | i + 1, _ :: rs, h => okTidy_drop i rs h.1
theorem Rows.cons {H : Hp} {n : Nat} {a : Addr} {as : List V} {vs : List Vec} {v : Vec} (h : Rows H n as vs) (hv : IsV H a v) (l : v.length = n) : Rows H n (.ref a :: as) (v :: vs) :=
  ⟨.cons ⟨a, rfl, hv⟩ h.1, fun u hu => by
    rcases List.mem_cons.mp hu with hu | hu
    · rw [hu]; exact l
    · exact h.2 u hu⟩
theorem tidy_len : ∀ rs : List Vec, (tidy rs).length = rs.length
  | [] => rfl
  | r :: rs => by unfold tidy; rw [List.length_cons, List.length_cons, tidy_len rs]
abbrev s_tidied : Stmt := top 22
abbrev n_tidied : List Str := ["steps", "out", "row"]
theorem sc_tidied : FnScope n_tidied ["steps"] (defScope s_tidied) := ⟨rfl, rfl, rfl, by decide +kernel, rfl, by decide +kernel, by decide +kernel⟩
def spTidied : Sp := fun vs H Q _ => ∃ (l : Addr) (n : Nat) (as : List V) (rs : List Vec), vs = [.ref l] ∧ H l = some (.lst as) ∧ Rows H n as rs ∧ n ≤ 1000 ∧ rs.length ≤ 1000 ∧ OkTidy rs ∧ ∀ (H' : Hp) (q : Addr) (os : List V), Same H H' → H' q = some (.tup os) → Rows H' n os (tidy rs) → Q (.ref q) H'
theorem ok_tidied (T : Txt mg) (g_positive : Has P w K mg base 2 "positive" ["row"] spPositive) (g_reduced_by : Has P w K mg base 2 "reduced_by" ["basis", "vector"] spReduced) (F : DefAt K mg "tidied" s_tidied ["steps"]) : Has P w K mg base 3 "tidied" ["steps"] spTidied := by
  refine F.has sc_tidied (fun vs H Q E h => ?_) (fun f cdv A outer s H vs Q E hr h => ?_)
  · obtain ⟨l, n, as, rs, rfl, _⟩ := h
    rfl
  · obtain ⟨l, n, as, rs, rfl, hl, hrs, h1, h2, ok, k⟩ := h
    refine ⟨_, (pss_cons (ps_set (i := 1) sc_tidied.nd rfl (Or.inl rfl) (pe_lst pa_nil))
      (pss_cons (ps_for PassesOwn.never rfl (pi_list (pe_revL (pv 0))) (pg_name (i := 2) sc_tidied.nd rfl (Or.inl rfl)) (pss_one (ps_set (i := 1) sc_tidied.nd rfl (Or.inl rfl) (pe_lst (pa_cons (pe_callHas g_reduced_by (hr.mono (by decide)) rfl (pa_cons (pv 1) (pa_cons (pe_callHas g_positive (hr.mono (by decide)) rfl (pa_cons (pv 2) pa_nil)) pa_nil))) (StX.pa_star (pv 1) pa_nil))))))
      (pss_one (ps_ret (pe_callTy call_tuple_of (by rfl) T.z_tuple (by decide +kernel) (pa_cons (pv 1) pa_nil)))))), ?_⟩
    refine ⟨Nat.zero_le _, fun o ho => ?_⟩
    obtain ⟨so, ho1⟩ := new_at (o := .lst []) ho
    refine ⟨_, rfl, l, as, rfl, SqL.of (so _ _ hl), fun p hp => ?_⟩
    obtain ⟨sp, hp1⟩ := new_at (o := .lst as.reverse) hp
    have lrs : as.length = rs.length := hrs.len
    refine ⟨p, rfl, ⟨_, SqL.of hp1⟩, for_it (walk_list (xs := as.reverse)) (fun i σ H' => ∃ (o : Addr) (outs : List V) (x2 : Option V), σ = [some (.ref l), some (.ref o), x2] ∧ Same H H' ∧ H' p = some (.lst as.reverse) ∧ H' o = some (.lst outs) ∧ i ≤ rs.length ∧ Rows H' n outs (tidy (rs.drop (rs.length - i))))
      ⟨o, [], _, rfl, so.trans sp, hp1, sp _ _ ho1, Nat.zero_le _, by rw [Nat.sub_zero, List.drop_length]; exact ⟨.nil, fun u hu => nomatch hu⟩⟩ (fun i σ H' _ z => ?_) ?_ ?_⟩
    · obtain ⟨_, _, _, _, _, hp2, _⟩ := z
      exact SqL.of hp2
    · rintro i x σ H' H'' hi ⟨o, outs, x2, rfl, sm, hp2, hout, hi2, hos⟩ ⟨rfl, ex⟩
      rw [List.length_reverse] at hi
      rw [List.getElem?_reverse hi] at ex
      obtain ⟨a, r, er, rfl, hr0, lr⟩ := (hrs.keep sm).at ex
      have hlt := (List.getElem?_eq_some_iff.mp er).1
      have ed : rs.drop (rs.length - (i + 1)) = r :: rs.drop (rs.length - i) := by
        have e1 : rs.length - (i + 1) = as.length - 1 - i := by omega
        have e2 : rs.length - i = as.length - 1 - i + 1 := by omega
        rw [e1, e2, List.drop_eq_getElem_cons hlt, (List.getElem?_eq_some_iff.mp er).2]
      have okd := okTidy_drop (rs.length - (i + 1)) rs ok
      rw [ed] at okd
      obtain ⟨o1, o2, o3⟩ := okd
      refine ⟨_, rfl, _, rfl, a, r, rfl, hr0, by omega, o2, fun H1 q1 s1 hq1 => ?_⟩
      have lp := posV_len r
      have n1 : (posV r).length = n := lp.trans lr
      refine ⟨o, q1, outs, _, posV r, rfl, .inr (s1 _ _ hout), by rw [n1]; exact hos.keep s1, hq1, by omega, o3, fun H2 z s2 hz lz => ?_⟩
      have s12 := s1.trans s2
      refine ⟨_, rfl, o, outs, rfl, .inr (SqL.of (s12 _ _ hout)), ?_⟩
      have lout : outs.length = rs.length - (rs.length - i) := by rw [hos.len, tidy_len, List.length_drop]
      refine ⟨by show (V.ref z :: (outs ++ [])).length ≤ sizeLine; rw [List.append_nil, List.length_cons]; exact Nat.le_trans (by omega : outs.length + 1 ≤ 1001) (by decide), fun o' ho' => ?_⟩
      obtain ⟨s3, ho3⟩ := new_at (o := .lst (V.ref z :: (outs ++ []))) ho'
      have s13 := s12.trans s3
      refine ⟨o', _, _, rfl, sm.trans s13, s13 _ _ hp2, ho3, by omega, ?_⟩
      rw [ed]
      have fin : Rows _ n (V.ref z :: outs) (redV (tidy (rs.drop (rs.length - i))) (posV r) :: tidy (rs.drop (rs.length - i))) := Rows.cons (hos.keep s13) (s3 _ _ hz) (by omega)
      rw [show V.ref z :: (outs ++ []) = V.ref z :: outs by rw [List.append_nil]] at fin ⊢
      exact fin
    · rintro σ H' ⟨o, outs, x2, rfl, sm, hp2, hout, hi2, hos⟩
      rw [List.length_reverse, lrs, Nat.sub_self] at hos
      refine ⟨_, rfl, _, _, rfl, .inl ⟨SqL.of hout, fun t ht => ?_⟩⟩
      obtain ⟨s3, ht3⟩ := new_at (o := .tup outs) ht
      exact k _ t outs (sm.trans s3) ht3 (hos.keep s3)
def OkGrow (rs : List Vec) (v : Vec) : Prop := OkRed rs v ∧ (piv (redV rs v) = (redV rs v).length ∨ (OkStep rs (redV rs v) ∧ OkTidy (Lat.stepped rs (redV rs v)) ∧ (Lat.stepped rs (redV rs v)).length ≤ 1000))
abbrev s_grown : Stmt := top 23
abbrev n_grown : List Str := ["basis", "vector", "rest"]
theorem sc_grown : FnScope n_grown ["basis", "vector"] (defScope s_grown) := ⟨rfl, rfl, rfl, by decide +kernel, rfl, by decide +kernel, by decide +kernel⟩
def spGrown : Sp := fun vs H Q _ => ∃ (b p : Addr) (as : List V) (rs : List Vec) (v : Vec), vs = [.ref b, .ref p] ∧ H b = some (.tup as) ∧ Rows H v.length as rs ∧ IsV H p v ∧ v.length ≤ 1000 ∧ rs.length ≤ 1000 ∧ OkGrow rs v ∧
  ∀ (H' : Hp) (q : Addr) (os : List V), Same H H' → H' q = some (.tup os) → Rows H' v.length os (grow rs v) → Q (.ref q) H'
theorem ok_grown (T : Txt mg) (g_reduced_by : Has P w K mg base 2 "reduced_by" ["basis", "vector"] spReduced) (g_is_zero : Has P w K mg base 2 "is_zero" ["vector"] spZero) (g_stepped : Has P w K mg base 3 "stepped" ["steps", "vector"] spStepped) (g_tidied : Has P w K mg base 3 "tidied" ["steps"] spTidied)
    (F : DefAt K mg "grown" s_grown ["basis", "vector"]) : Has P w K mg base 4 "grown" ["basis", "vector"] spGrown := by
  refine F.has sc_grown (fun vs H Q E h => ?_) (fun f cdv A outer s H vs Q E hr h => ?_)
  · obtain ⟨b, p, as, rs, v, rfl, _⟩ := h
    rfl
  · obtain ⟨b, p, as, rs, v, rfl, hb, hrs, hv, h1, h2, ⟨o1, o2⟩, k⟩ := h
    refine ⟨_, (pss_cons (ps_set (i := 2) sc_grown.nd rfl (Or.inl rfl) (pe_callHas g_reduced_by (hr.mono (by decide)) rfl (pa_cons (pv 0) (pa_cons (pv 1) pa_nil))))
      (pss_cons (ps_if (pt_val (pe_callHas g_is_zero (hr.mono (by decide)) rfl (pa_cons (pv 2) pa_nil))) (pss_one (ps_ret (pv 0))) pss_nil)
      (pss_one (ps_ret (pe_callHas g_tidied (hr.mono (by decide)) rfl (pa_cons (pe_callHas g_stepped (hr.mono (by decide)) rfl (pa_cons (pv 0) (pa_cons (pv 2) pa_nil))) pa_nil)))))), ?_⟩
    refine ⟨_, rfl, _, rfl, b, p, as, rs, v, rfl, .inl hb, hrs, hv, h1, o1, fun H1 q s1 hq lq => ?_⟩
    refine ⟨_, rfl, q, _, rfl, hq, fun H2 s2 => ⟨_, rfl, ?_⟩⟩
    have s12 := s1.trans s2
    by_cases hz : piv (redV rs v) = (redV rs v).length
    · show if decide (piv (redV rs v) = (redV rs v).length) = true then _ else _
      rw [decide_eq_true hz]
      have e : grow rs v = rs := by unfold grow; rw [if_pos hz]
      exact ⟨_, rfl, k _ b as s12 (s12 _ _ hb) (by rw [e]; exact hrs.keep s12)⟩
    · show if decide (piv (redV rs v) = (redV rs v).length) = true then _ else _
      rw [decide_eq_false hz]
      have e : grow rs v = tidy (Lat.stepped rs (redV rs v)) := by unfold grow; rw [if_neg hz]
      rcases o2 with o2 | ⟨o2, o3, o4⟩
      · exact absurd o2 hz
      · refine ⟨_, rfl, _, rfl, b, q, as, rs, redV rs v, rfl, s12 _ _ hb, by rw [lq]; exact hrs.keep s12, s2 _ _ hq, by omega, h2, o2, fun H3 o os s3 ho3 hos => ?_⟩
        rw [lq] at hos
        refine ⟨o, v.length, os, _, rfl, ho3, hos, h1, o4, o3, fun H4 z zs s4 hz4 hzs => ?_⟩
        exact k _ z zs ((s12.trans s3).trans s4) hz4 (by rw [e]; exact hzs)
end
end K06

namespace K06
open PySem L2 RZ Lat
section
variable {P : Program} {w : World} {K : PySem.W.Frag} {mg : Str → Option Value} {base : Heap}
structure ClsL (K : PySem.W.Frag) (mg : Str → Option Value) (C : Addr) : Prop where
  cl : Cls K C
  nW : NoAttr K C "width"
  nB : NoAttr K C "basis"
  m : mg "Lattice" = some (.ref C)
def lf (n : Int) (b : Addr) : List (Str × V) := putF "basis" (.ref b) (putF "width" (.int n) [])
theorem wb : ¬ (("basis" : Str) = "width") := by decide +kernel
theorem lf_basis (n : Int) (b : Addr) : (lf n b).lookup ("basis" : Str) = some (.ref b) := by
  unfold lf
  rw [lookup_putF, if_pos rfl]
theorem lf_none (n : Int) (b : Addr) {m : Str} (h1 : ¬ m = "basis") (h2 : ¬ m = "width") : (lf n b).lookup m = none := by
  unfold lf
  rw [lookup_putF, if_neg h1, lookup_putF, if_neg h2]; rfl
/-- a lattice at x -/
def LatAt (C : Addr) (H : Hp) (x : Addr) (n : Nat) (rs : List Vec) : Prop := ∃ (dx b : Addr) (os : List V), H x = some (.ins C dx (lf ((n : Nat) : Int) b)) ∧ H b = some (.tup os) ∧ Rows H n os rs
theorem LatAt.keep {C : Addr} {H H' : Hp} {x : Addr} {n : Nat} {rs : List Vec} (s : Same H H') (h : LatAt C H x n rs) : LatAt C H' x n rs := by
  obtain ⟨dx, b, os, h1, h2, h3⟩ := h
  exact ⟨dx, b, os, s _ _ h1, s _ _ h2, h3.keep s⟩
theorem Rows.ins_up {H : Hp} {n : Nat} {x C dx : Addr} {fs gs : List (Str × V)} {as : List V} {vs : List Vec} (hx : H x = some (.ins C dx fs)) (h : Rows H n as vs) : Rows (upd H x (.ins C dx gs)) n as vs :=
  ⟨Paired.mapP h.1 fun y v z => by
    obtain ⟨a, e, q⟩ := z
    exact ⟨a, e, (upd_ne (ne_of q hx fun y => nomatch y)).trans q⟩, h.2⟩
def OkGrows : List Vec → List Vec → Prop
  | _, [] => True
  | bs, v :: vs => OkGrow bs v ∧ bs.length ≤ 1000 ∧ OkGrows (grow bs v) vs
def grows (bs vs : List Vec) : List Vec := vs.foldl grow bs
abbrev s_Lattice_init : Stmt := inClass (top 25) 0
abbrev n_Lattice_init : List Str := ["self", "width", "rows", "basis", "row"]
theorem sc_Lattice_init : FnScope n_Lattice_init ["self", "width", "rows"] (defScope s_Lattice_init) := ⟨rfl, rfl, rfl, by decide +kernel, rfl, by decide +kernel, by decide +kernel⟩
def spLattice (K : PySem.W.Frag) (C : Addr) : Sp := fun vs H Q _ => ∃ (x dx l : Addr) (n : Nat) (as : List V) (rs : List Vec), vs = [.ref x, .int ((n : Nat) : Int), .ref l] ∧ H x = some (.ins C dx []) ∧ 1 ≤ n ∧ n ≤ 1000 ∧ rs.length ≤ 1000 ∧ InSeq K H l as ∧ Rows H n as rs ∧ OkGrows [] rs ∧
  ∀ H' : Hp, (∀ y o, y ≠ x → H y = some o → H' y = some o) → LatAt C H' x n (grows [] rs) → Q .non H'
theorem ok_lattice {C fI : Addr} {fd : FuncData} {d : V} (T : Txt mg) (CL : ClsL K mg C) (g_is_width : Has P w K mg base 2 "is_width" ["value"] spWidth) (g_are_vectors : Has P w K mg base 3 "are_vectors" ["value", "width"] (spAreVectors K))
    (g_grown : Has P w K mg base 4 "grown" ["basis", "vector"] spGrown) (F : FunD K "__init__" "Lattice.__init__" (defArgs s_Lattice_init) (defBody s_Lattice_init) (defScope s_Lattice_init) [d] [] fI fd) : FnOk P w K mg base CX0 5 fI fd ["self", "width", "rows"] (spLattice K C) := by
  refine F.ok sc_Lattice_init (fun vs H Q E h => ?_) (fun cdv A outer s H vs Q E hr h => ?_)
  · obtain ⟨x, dx, l, n, as, rs, rfl, _⟩ := h
    rfl
  · obtain ⟨x, dx, l, n, as, rs, rfl, hx, n1, n2, lrs, hl, hrs, ok, k⟩ := h
    refine ⟨_, PSs.nox (X := cxOf CX0 P w K mg base n_Lattice_init "Lattice.__init__" (defScope s_Lattice_init) fI cdv A outer s H E) (pss_cons (ps_if (PW.pt (pw_or (pt_not (pt_val (pe_callHas g_is_width (hr.mono (by decide)) rfl (pa_cons (pv 1) pa_nil)))) (pw_or1 (pt_not (pt_val (pe_callHas g_are_vectors (hr.mono (by decide)) rfl (pa_cons (pv 2) (pa_cons (pv 1) pa_nil)))))))) (pss_one ps_never) pss_nil)
      (pss_cons (ps_set (i := 3) sc_Lattice_init.nd rfl (Or.inl rfl) (pe_tup pa_nil))
      (pss_cons (ps_for PassesOwn.never rfl (pi_seq (pv 2)) (pg_name (i := 4) sc_Lattice_init.nd rfl (Or.inl rfl)) (pss_one (ps_set (i := 3) sc_Lattice_init.nd rfl (Or.inl rfl) (pe_callHas g_grown (hr.mono (by decide)) rfl (pa_cons (pv 3) (pa_cons (pv 4) pa_nil))))))
      (pss_cons (ps_fld (pv 0) (pv 1) rfl)
      (pss_one (ps_fld (pv 0) (pv 3) rfl)))))), ?_⟩
    refine ⟨_, rfl, _, rfl, by omega, _, rfl, ?_⟩
    refine ⟨_, rfl, _, rfl, l, as, rs, n, rfl, hl, hrs, n2, lrs, fun H1 s1 => ⟨_, rfl, ?_⟩⟩
    refine ⟨Nat.zero_le _, fun b0 hb0 => ?_⟩
    obtain ⟨s2, hb1⟩ := new_at (o := .tup []) hb0
    have s12 := s1.trans s2
    rcases hl with hl | hq
    · refine Or.inl ⟨_, rfl, l, rfl, ⟨_, SqL.of (s12 _ _ hl)⟩, for_it (walk_list (xs := as)) (fun i σ H' => ∃ (b : Addr) (os : List V) (bs : List Vec) (x4 : Option V), σ = [some (.ref x), some (.int ((n : Nat) : Int)), some (.ref l), some (.ref b), x4] ∧ Same H H' ∧ H' b = some (.tup os) ∧ Rows H' n os bs ∧ OkGrows bs (rs.drop i) ∧ grows bs (rs.drop i) = grows [] rs) ⟨b0, [], [], _, rfl, s12, hb1, ⟨.nil, fun u hu => nomatch hu⟩, ok, rfl⟩ (fun i σ H' _ q => SqL.of ((show Same H H' from by obtain ⟨_, _, _, _, _, sm, _⟩ := q; exact sm) _ _ hl)) ?_ ?_⟩
      · rintro i y σ H' H'' hi ⟨b, os, bs, x4, rfl, sm, hb, hbs, okb, eb⟩ ⟨rfl, ex⟩
        obtain ⟨a, r, er, rfl, hr0, lr⟩ := (hrs.keep sm).at ex
        have hlt := (List.getElem?_eq_some_iff.mp er).1
        have ed : rs.drop i = r :: rs.drop (i + 1) := by
          rw [List.drop_eq_getElem_cons hlt, (List.getElem?_eq_some_iff.mp er).2]
        rw [ed] at okb eb
        obtain ⟨o1, o2, o3⟩ := okb
        refine ⟨_, rfl, _, rfl, b, a, os, bs, r, rfl, hb, by rw [lr]; exact hbs, hr0, by omega, o2, o1, fun H2 q os' s2 hq hos => ?_⟩
        rw [lr] at hos
        exact ⟨q, os', grow bs r, _, rfl, sm.trans s2, hq, hos, o3, eb⟩
      · rintro σ H' ⟨b, os, bs, x4, rfl, sm, hb, hbs, okb, eb⟩
        rw [hrs.len, List.drop_length] at eb
        have eb' : bs = grows [] rs := eb
        subst eb'
        have hx1 := sm _ _ hx
        refine ⟨_, rfl, _, rfl, x, C, dx, _, rfl, hx1, CL.cl, CL.nW, (by show 0 < 1000; decide), _, rfl, _, rfl, x, C, dx, _, rfl, upd_same, CL.cl, CL.nB, (by show 1 < 1000; decide), ?_⟩
        rw [upd_upd]
        have nbx : b ≠ x := ne_of hb hx1 fun z => nomatch z
        exact k _ (fun y o ny z => by rw [upd_ne ny]; exact sm _ _ z) ⟨dx, b, os, upd_same, (upd_ne nbx).trans hb, Rows.ins_up hx1 hbs⟩
    · refine Or.inr ⟨_, rfl, l, rfl, ⟨_, hq.1 _ s12⟩, for_it (walk_tup (xs := as)) (fun i σ H' => ∃ (b : Addr) (os : List V) (bs : List Vec) (x4 : Option V), σ = [some (.ref x), some (.int ((n : Nat) : Int)), some (.ref l), some (.ref b), x4] ∧ Same H H' ∧ H' b = some (.tup os) ∧ Rows H' n os bs ∧ OkGrows bs (rs.drop i) ∧ grows bs (rs.drop i) = grows [] rs) ⟨b0, [], [], _, rfl, s12, hb1, ⟨.nil, fun u hu => nomatch hu⟩, ok, rfl⟩ (fun i σ H' _ q => hq.1 _ (show Same H H' from by obtain ⟨_, _, _, _, _, sm, _⟩ := q; exact sm)) ?_ ?_⟩
      · rintro i y σ H' H'' hi ⟨b, os, bs, x4, rfl, sm, hb, hbs, okb, eb⟩ ⟨rfl, ex⟩
        obtain ⟨a, r, er, rfl, hr0, lr⟩ := (hrs.keep sm).at ex
        have hlt := (List.getElem?_eq_some_iff.mp er).1
        have ed : rs.drop i = r :: rs.drop (i + 1) := by
          rw [List.drop_eq_getElem_cons hlt, (List.getElem?_eq_some_iff.mp er).2]
        rw [ed] at okb eb
        obtain ⟨o1, o2, o3⟩ := okb
        refine ⟨_, rfl, _, rfl, b, a, os, bs, r, rfl, hb, by rw [lr]; exact hbs, hr0, by omega, o2, o1, fun H2 q os' s2 hq hos => ?_⟩
        rw [lr] at hos
        exact ⟨q, os', grow bs r, _, rfl, sm.trans s2, hq, hos, o3, eb⟩
      · rintro σ H' ⟨b, os, bs, x4, rfl, sm, hb, hbs, okb, eb⟩
        rw [hrs.len, List.drop_length] at eb
        have eb' : bs = grows [] rs := eb
        subst eb'
        have hx1 := sm _ _ hx
        refine ⟨_, rfl, _, rfl, x, C, dx, _, rfl, hx1, CL.cl, CL.nW, (by show 0 < 1000; decide), _, rfl, _, rfl, x, C, dx, _, rfl, upd_same, CL.cl, CL.nB, (by show 1 < 1000; decide), ?_⟩
        rw [upd_upd]
        have nbx : b ≠ x := ne_of hb hx1 fun z => nomatch z
        exact k _ (fun y o ny z => by rw [upd_ne ny]; exact sm _ _ z) ⟨dx, b, os, upd_same, (upd_ne nbx).trans hb, Rows.ins_up hx1 hbs⟩
def gcdV (g : Vec) (rs : List Vec) : Nat := rs.foldl (fun m r => Nat.gcd m (dotV g r).natAbs) 0
end
end K06

namespace K06
open PySem L2 RZ Lat
section
variable {P : Program} {w : World} {K : PySem.W.Frag} {mg : Str → Option Value} {base : Heap}
abbrev s_Lattice_reduced : Stmt := inClass (top 25) 2
abbrev n_Lattice_reduced : List Str := ["self", "vector"]
theorem sc_Lattice_reduced : FnScope n_Lattice_reduced ["self", "vector"] (defScope s_Lattice_reduced) := ⟨rfl, rfl, rfl, by decide +kernel, rfl, by decide +kernel, by decide +kernel⟩
def spRedM (C : Addr) : Sp := fun vs H Q _ => ∃ (x p : Addr) (v : Vec) (rs : List Vec), vs = [.ref x, .ref p] ∧ LatAt C H x v.length rs ∧ IsV H p v ∧ v.length ≤ 1000 ∧ OkRed rs v ∧ ∀ (H' : Hp) (q : Addr), Same H H' → IsV H' q (redV rs v) → (redV rs v).length = v.length → Q (.ref q) H'
theorem ok_redM {C fI : Addr} {fd : FuncData} (CL : ClsL K mg C) (g_reduced_by : Has P w K mg base 2 "reduced_by" ["basis", "vector"] spReduced) (F : Fun K "reduced" "Lattice.reduced" s_Lattice_reduced fI fd) : FnOk P w K mg base CX0 3 fI fd ["self", "vector"] (spRedM C) := by
  refine F.ok sc_Lattice_reduced (fun vs H Q E h => ?_) (fun cdv A outer s H vs Q E hr h => ?_)
  · obtain ⟨x, p, v, rs, rfl, _⟩ := h
    rfl
  · obtain ⟨x, p, v, rs, rfl, ⟨dx, b, os, hx, hb, hrs⟩, hp, lv, ok, k⟩ := h
    refine ⟨_, (pss_one (ps_ret (pe_callHas g_reduced_by (hr.mono (by decide)) rfl (pa_cons (pe_fld (pv 0) rfl) (pa_cons (pv 1) pa_nil))))), ?_⟩
    exact ⟨_, rfl, x, C, dx, _, _, rfl, hx, CL.cl, CL.nB, lf_basis _ _, _, rfl, b, p, os, rs, v, rfl, .inl hb, hrs, hp, lv, ok, fun H' q s1 hq l1 => k H' q s1 hq l1⟩
theorem lf_width (n : Int) (b : Addr) : (lf n b).lookup ("width" : Str) = some (.int n) := by
  unfold lf
  rw [lookup_putF, if_neg (fun z => wb z.symm), lookup_putF, if_pos rfl]
abbrev s_Lattice_contains : Stmt := inClass (top 25) 4
abbrev n_Lattice_contains : List Str := ["self", "x"]
theorem sc_Lattice_contains : FnScope n_Lattice_contains ["self", "x"] (defScope s_Lattice_contains) := ⟨rfl, rfl, rfl, by decide +kernel, rfl, by decide +kernel, by decide +kernel⟩
def spCont (C : Addr) : Sp := fun vs H Q _ => ∃ (o : Addr) (x : V) (n : Nat) (rs : List Vec), vs = [.ref o, x] ∧ LatAt C H o n rs ∧ n ≤ 1000 ∧
  ((∃ (p : Addr) (v : Vec), x = .ref p ∧ IsV H p v ∧ v.length = n ∧ OkRed rs v ∧ ∀ H', Same H H' → Q (.bl (decide (piv (redV rs v) = (redV rs v).length))) H') ∨
   (∃ (p : Addr) (xs : List V) (bs : List Bool), x = .ref p ∧ H p = some (.tup xs) ∧ Paired Flat xs bs ∧ xs.length ≤ 1000 ∧ (decide (xs.length = n) && bs.all id) = false ∧ ∀ H', Same H H' → Q (.bl false) H') ∨ (NoTup H x ∧ Q (.bl false) H))
theorem ok_cont {C fI fR : Addr} {fd fdR : FuncData} (CL : ClsL K mg C) (mR : Meth K C "reduced" fR) (g_reduced : FnOk P w K mg base CX0 3 fR fdR ["self", "vector"] (spRedM C)) (bR : Binds K fdR ["self", "vector"] []) (g_is_vector : Has P w K mg base 2 "is_vector" ["value", "width"] spIsVectorG) (g_is_zero : Has P w K mg base 2 "is_zero" ["vector"] spZero)
    (F : Fun K "__contains__" "Lattice.__contains__" s_Lattice_contains fI fd) : FnOk P w K mg base CX0 4 fI fd ["self", "x"] (spCont C) := by
  refine F.ok sc_Lattice_contains (fun vs H Q E h => ?_) (fun cdv A outer s H vs Q E hr h => ?_)
  · obtain ⟨o, x, n, rs, rfl, _⟩ := h
    rfl
  · obtain ⟨o, x, n, rs, rfl, ⟨dx, b, os, hx, hb, hrs⟩, n1, h⟩ := h
    refine ⟨_, (pss_one (ps_ret (pe_and (pe_callHas g_is_vector (hr.mono (by decide)) rfl (pa_cons (pv 1) (pa_cons (pe_fld (pv 0) rfl) pa_nil))) (pe_one (pe_callHas g_is_zero (hr.mono (by decide)) rfl (pa_cons (pe_meth (pv 0) CL.cl mR g_reduced (hr.mono (by decide)) bR .nil pass0 (pa_cons (pv 1) pa_nil)) pa_nil)))))), ?_⟩
    refine ⟨_, rfl, _, rfl, o, C, dx, _, _, rfl, hx, CL.cl, CL.nW, lf_width _ _, ?_⟩
    rcases h with ⟨p, v, rfl, hp, lv, ok, k⟩ | ⟨p, xs, bs, rfl, hp, fl, l1, hf, k⟩ | ⟨nt, k⟩
    · refine ⟨_, n, rfl, .inl ⟨p, _, _, rfl, hp, flat_ints v, by rw [List.length_map]; omega, fun H' s1 => ⟨_, rfl, ?_⟩⟩⟩
      rw [List.length_map, all_true, decide_eq_true lv]
      have nd : (lf ((n : Nat) : Int) b).lookup ("reduced" : Str) = none := lf_none _ _ (by decide +kernel) (by decide +kernel)
      refine ⟨_, rfl, o, dx, _, rfl, s1 _ _ hx, nd, _, rfl, o, p, v, rs, rfl, ⟨dx, b, os, by rw [lv]; exact s1 _ _ hx, s1 _ _ hb, by rw [lv]; exact hrs.keep s1⟩, s1 _ _ hp, by omega, ok, fun H2 q s2 hq l2 => ?_⟩
      exact ⟨q, _, rfl, hq, fun H3 s3 => k H3 ((s1.trans s2).trans s3)⟩
    · refine ⟨_, n, rfl, .inl ⟨p, xs, bs, rfl, hp, fl, l1, fun H' s1 => ⟨_, rfl, ?_⟩⟩⟩
      rw [hf]
      exact k _ s1
    · exact ⟨_, n, rfl, .inr ⟨nt, _, rfl, k⟩⟩
end
end K06

namespace Lat
/-! ## sets of vectors closed under what the defs do -/
structure Cl (S : (Nat → Int) → Prop) : Prop where
  zero : S fun _ => 0
  add : ∀ f h t, S f → S h → S fun i => f i + t * h i
theorem Cl.of {S : (Nat → Int) → Prop} (C : Cl S) {f h g : Nat → Int} {t : Int} (a : S f) (b : S h) (e : ∀ i, g i = f i + t * h i) : S g := by
  rw [show g = _ from funext e]; exact C.add f h t a b
theorem Cl.scale {S : (Nat → Int) → Prop} (C : Cl S) {h : Nat → Int} (t : Int) (b : S h) : S fun i => t * h i :=
  C.of (t := t) C.zero b fun i => by rw [Int.zero_add]
theorem Cl.addV {S : (Nat → Int) → Prop} (C : Cl S) {v w : Vec} (t : Int) (l : v.length = w.length) (b : S (itm w)) : S (itm (addV v t w)) ↔ S (itm v) :=
  ⟨fun h => C.of (t := -t) h b fun i => by rw [itm_add l]; grind, fun h => C.of (t := t) h b fun i => itm_add l i⟩
theorem redV_len : ∀ (B : List Vec) (v : Vec), (∀ r ∈ B, r.length = v.length) → (redV B v).length = v.length
  | [], v, _ => rfl
  | r :: rs, v, h => by
    have e := addV_len (t := -((itm v (piv r)).fdiv (itm r (piv r)))) (h r List.mem_cons_self).symm
    have := redV_len rs (addV v (-((itm v (piv r)).fdiv (itm r (piv r)))) r) fun s hs => (h s (List.mem_cons_of_mem _ hs)).trans e.symm
    exact this.trans e
theorem redV_cl {S : (Nat → Int) → Prop} (C : Cl S) : ∀ (B : List Vec) (v : Vec), (∀ r ∈ B, r.length = v.length) → (∀ r ∈ B, S (itm r)) → (S (itm (redV B v)) ↔ S (itm v))
  | [], v, _, _ => Iff.rfl
  | r :: rs, v, h, hS => by
    have l := (h r List.mem_cons_self).symm
    have e := addV_len (t := -((itm v (piv r)).fdiv (itm r (piv r)))) l
    have := redV_cl C rs (addV v (-((itm v (piv r)).fdiv (itm r (piv r)))) r) (fun s hs => (h s (List.mem_cons_of_mem _ hs)).trans e.symm) fun s hs => hS s (List.mem_cons_of_mem _ hs)
    exact this.trans (C.addV _ l (hS r List.mem_cons_self))
theorem clr_cl {S : (Nat → Int) → Prop} (C : Cl S) : ∀ (n : Nat) (r v : Vec) (i : Nat), r.length = v.length → ((S (itm (clr n r v i).1) ∧ S (itm (clr n r v i).2)) ↔ (S (itm r) ∧ S (itm v)))
  | 0, r, v, i, _ => Iff.rfl
  | n + 1, r, v, i, l => by
    unfold clr
    split
    · exact Iff.rfl
    · have e := addV_len (t := -((itm r i).fdiv (itm v i))) l
      refine (clr_cl C n v (addV r (-((itm r i).fdiv (itm v i))) v) i (by rw [e, l])).trans ⟨fun h => ⟨(C.addV _ l h.1).mp h.2, h.1⟩, fun h => ⟨h.2, (C.addV _ l h.2).mpr h.1⟩⟩
theorem clear_len {r v : Vec} {i : Nat} (l : r.length = v.length) : (clear r v i).1.length = r.length ∧ (clear r v i).2.length = r.length := clr_len _ r v i l
theorem stepGo_len : ∀ (B : List Vec) (v : Vec) (n : Nat), v.length = n → (∀ r ∈ B, r.length = n) → (∀ r ∈ (stepGo B v).1, r.length = n) ∧ (stepGo B v).2.length = n
  | [], v, n, l, _ => ⟨fun r h => (nomatch h), l⟩
  | r :: rs, v, n, l, h => by
    have lr := h r List.mem_cons_self
    have h' : ∀ s ∈ rs, s.length = n := fun s hs => h s (List.mem_cons_of_mem _ hs)
    unfold stepGo
    split
    · obtain ⟨a, b⟩ := stepGo_len rs r n lr h'
      exact ⟨fun s hs => (List.mem_cons.mp hs).elim (fun e => e ▸ l) (a s), b⟩
    · obtain ⟨c1, c2⟩ := clear_len (i := piv r) (lr.trans l.symm)
      obtain ⟨a, b⟩ := stepGo_len rs (clear r v (piv r)).2 n (c2.trans lr) h'
      exact ⟨fun s hs => (List.mem_cons.mp hs).elim (fun e => e ▸ c1.trans lr) (a s), b⟩
theorem all_cons {S : Vec → Prop} {r : Vec} {rs : List Vec} : (∀ s ∈ r :: rs, S s) ↔ S r ∧ ∀ s ∈ rs, S s := List.forall_mem_cons
theorem stepGo_cl {S : (Nat → Int) → Prop} (C : Cl S) : ∀ (B : List Vec) (v : Vec), (∀ r ∈ B, r.length = v.length) → (((∀ r ∈ (stepGo B v).1, S (itm r)) ∧ S (itm (stepGo B v).2)) ↔ ((∀ r ∈ B, S (itm r)) ∧ S (itm v)))
  | [], v, _ => Iff.rfl
  | r :: rs, v, h => by
    have lr := h r List.mem_cons_self
    have h' : ∀ s ∈ rs, s.length = v.length := fun s hs => h s (List.mem_cons_of_mem _ hs)
    unfold stepGo
    split
    · have ih := stepGo_cl C rs r (fun s hs => (h' s hs).trans lr.symm)
      simp only [all_cons]
      grind
    · obtain ⟨c1, c2⟩ := clear_len (i := piv r) lr
      have ih := stepGo_cl C rs (clear r v (piv r)).2 (fun s hs => by rw [c2, lr]; exact h' s hs)
      have cc : (S (itm (clear r v (piv r)).1) ∧ S (itm (clear r v (piv r)).2)) ↔ _ := clr_cl C _ r v (piv r) lr
      simp only [all_cons]
      grind
theorem itm_zero {v : Vec} (h : piv v = v.length) (i : Nat) : itm v i = 0 := by
  by_cases hi : i < v.length
  · exact (piv_spec v).1 i (h ▸ hi)
  · unfold itm
    rw [List.getD_eq_getElem?_getD, List.getElem?_eq_none (by omega)]; rfl
theorem Cl.itm_zero {S : (Nat → Int) → Prop} (C : Cl S) {v : Vec} (h : piv v = v.length) : S (itm v) := by
  rw [show itm v = _ from funext (Lat.itm_zero h)]; exact C.zero
theorem stepped_len {B : List Vec} {v : Vec} {n : Nat} (l : v.length = n) (h : ∀ r ∈ B, r.length = n) : ∀ r ∈ stepped B v, r.length = n := by
  obtain ⟨a, b⟩ := stepGo_len B v n l h
  unfold stepped
  split
  · exact a
  · intro r hr
    rcases List.mem_append.mp hr with hr | hr
    · exact a r hr
    · rw [List.mem_singleton.mp hr]; exact b
theorem stepped_cl {S : (Nat → Int) → Prop} (C : Cl S) {B : List Vec} {v : Vec} (h : ∀ r ∈ B, r.length = v.length) : (∀ r ∈ stepped B v, S (itm r)) ↔ ((∀ r ∈ B, S (itm r)) ∧ S (itm v)) := by
  refine Iff.trans ?_ (stepGo_cl C B v h)
  unfold stepped
  split
  · next e => exact ⟨fun q => ⟨q, C.itm_zero e⟩, fun q => q.1⟩
  · rw [List.forall_mem_append]
    exact ⟨fun q => ⟨q.1, q.2 _ (List.mem_singleton.mpr rfl)⟩, fun q => ⟨q.1, fun r hr => by rw [List.mem_singleton.mp hr]; exact q.2⟩⟩
theorem posV_length (r : Vec) : (posV r).length = r.length := by
  unfold posV
  split
  · rfl
  · exact addV_len rfl
theorem posV_itm (r : Vec) : (∀ i, itm (posV r) i = itm r i) ∨ ∀ i, itm (posV r) i = - itm r i := by
  unfold posV
  split
  · exact .inl fun i => rfl
  · exact .inr fun i => by rw [itm_add rfl]; omega
theorem posV_cl {S : (Nat → Int) → Prop} (C : Cl S) (r : Vec) : S (itm (posV r)) ↔ S (itm r) := by
  rcases posV_itm r with h | h
  · rw [show itm (posV r) = itm r from funext h]
  · exact ⟨fun q => C.of (t := -1) C.zero q fun i => by rw [h]; omega, fun q => C.of (t := -1) C.zero q fun i => by rw [h]; omega⟩
theorem tidy_len : ∀ (B : List Vec) (n : Nat), (∀ r ∈ B, r.length = n) → ∀ r ∈ tidy B, r.length = n
  | [], n, _ => fun r h => nomatch h
  | r :: rs, n, h => by
    have ih := tidy_len rs n fun s hs => h s (List.mem_cons_of_mem _ hs)
    have lr : (posV r).length = n := (posV_length r).trans (h r List.mem_cons_self)
    unfold tidy
    exact fun s hs => (List.mem_cons.mp hs).elim (fun e => e ▸ (redV_len _ _ fun s hs => (ih s hs).trans lr.symm).trans lr) (ih s)
theorem tidy_cl {S : (Nat → Int) → Prop} (C : Cl S) : ∀ (B : List Vec) (n : Nat), (∀ r ∈ B, r.length = n) → ((∀ r ∈ tidy B, S (itm r)) ↔ ∀ r ∈ B, S (itm r))
  | [], n, _ => Iff.rfl
  | r :: rs, n, h => by
    have h' : ∀ s ∈ rs, s.length = n := fun s hs => h s (List.mem_cons_of_mem _ hs)
    have ih := tidy_cl C rs n h'
    have lr : (posV r).length = n := (posV_length r).trans (h r List.mem_cons_self)
    have lt := tidy_len rs n h'
    unfold tidy
    simp only [all_cons]
    have rc : (∀ s ∈ tidy rs, S (itm s)) → (S (itm (redV (tidy rs) (posV r))) ↔ S (itm (posV r))) := redV_cl C _ _ fun s hs => (lt s hs).trans lr.symm
    have pc := posV_cl C r
    grind
theorem grow_len {B : List Vec} {v : Vec} {n : Nat} (l : v.length = n) (h : ∀ r ∈ B, r.length = n) : ∀ r ∈ grow B v, r.length = n := by
  unfold grow
  split
  · exact h
  · exact tidy_len _ n (stepped_len ((redV_len B v fun r hr => (h r hr).trans l.symm).trans l) h)
theorem grow_cl {S : (Nat → Int) → Prop} (C : Cl S) {B : List Vec} {v : Vec} (h : ∀ r ∈ B, r.length = v.length) : (∀ r ∈ grow B v, S (itm r)) ↔ ((∀ r ∈ B, S (itm r)) ∧ S (itm v)) := by
  have lr := redV_len B v h
  have rc := redV_cl C B v h
  unfold grow
  split
  · next e => exact ⟨fun q => ⟨q, (rc q).mp (C.itm_zero e)⟩, fun q => q.1⟩
  · have hl : ∀ r ∈ B, r.length = (redV B v).length := fun r hr => (h r hr).trans lr.symm
    rw [tidy_cl C _ v.length (stepped_len lr h), stepped_cl C hl]
    exact ⟨fun q => ⟨q.1, (rc q.1).mp q.2⟩, fun q => ⟨q.1, (rc q.1).mpr q.2⟩⟩
end Lat

namespace Lat
/-! ## whole combinations of echelon rows -/
def In : List Vec → (Nat → Int) → Prop
  | [], f => ∀ i, f i = 0
  | r :: rs, f => ∃ a : Int, In rs fun i => f i - a * itm r i
theorem In.cl : ∀ B : List Vec, Cl (In B)
  | [] => ⟨fun i => rfl, fun f h t a b i => by
      have x : f i = 0 := a i
      have y : h i = 0 := b i
      show f i + t * h i = 0
      rw [x, y]; omega⟩
  | r :: rs => ⟨⟨0, (In.cl rs).of (t := 0) (In.cl rs).zero (In.cl rs).zero fun i => by show (0 : Int) - 0 * itm r i = 0 + 0 * 0; omega⟩, fun f h t a b => by
      obtain ⟨x, hx⟩ := a
      obtain ⟨y, hy⟩ := b
      exact ⟨x + t * y, (In.cl rs).of (t := t) hx hy fun i => by grind⟩⟩
theorem In.mem : ∀ (B : List Vec) (r : Vec), r ∈ B → In B (itm r)
  | s :: rs, r, h => by
    rcases List.mem_cons.mp h with e | h
    · subst e
      exact ⟨1, (In.cl rs).of (t := 0) (In.cl rs).zero (In.cl rs).zero fun i => by omega⟩
    · exact ⟨0, (In.cl rs).of (t := 0) (In.mem rs r h) (In.cl rs).zero fun i => by omega⟩
def Ech (n : Nat) : Nat → List Vec → Prop
  | _, [] => True
  | c, r :: rs => r.length = n ∧ c ≤ piv r ∧ piv r < n ∧ Ech n (piv r + 1) rs
theorem Ech.mono {n c d : Nat} (h : d ≤ c) : ∀ {B : List Vec}, Ech n c B → Ech n d B
  | [], _ => trivial
  | _ :: _, e => ⟨e.1, Nat.le_trans h e.2.1, e.2.2⟩
theorem Ech.row {n : Nat} : ∀ {c : Nat} {B : List Vec}, Ech n c B → ∀ r ∈ B, r.length = n ∧ c ≤ piv r ∧ piv r < n
  | _, [], _ => fun r h => nomatch h
  | c, s :: rs, e => fun r h => by
    rcases List.mem_cons.mp h with z | h
    · subst z; exact ⟨e.1, e.2.1, e.2.2.1⟩
    · obtain ⟨a, b, d⟩ := Ech.row e.2.2.2 r h
      exact ⟨a, by have := e.2.1; omega, d⟩
theorem Ech.ne {n c : Nat} {B : List Vec} (e : Ech n c B) {r : Vec} (h : r ∈ B) : itm r (piv r) ≠ 0 := by
  obtain ⟨a, _, b⟩ := e.row r h
  exact (piv_spec r).2 (a ▸ b)
theorem Ech.zero {n c : Nat} {B : List Vec} (e : Ech n c B) {r : Vec} (h : r ∈ B) {i : Nat} (hi : i < c) : itm r i = 0 :=
  (piv_spec r).1 i (Nat.lt_of_lt_of_le hi (e.row r h).2.1)
theorem Ech.inj {n : Nat} : ∀ {c : Nat} {B : List Vec}, Ech n c B → ∀ r ∈ B, ∀ s ∈ B, piv r = piv s → r = s
  | _, [], _ => fun r h => nomatch h
  | c, t :: rs, e => fun r hr s hs h => by
    rcases List.mem_cons.mp hr with z | hr
    · rcases List.mem_cons.mp hs with y | hs
      · exact z.trans y.symm
      · have := (e.2.2.2.row s hs).2.1
        rw [z] at h; omega
    · rcases List.mem_cons.mp hs with y | hs
      · have := (e.2.2.2.row r hr).2.1
        rw [y] at h; omega
      · exact Ech.inj e.2.2.2 r hr s hs h
theorem Ech.count {n : Nat} : ∀ {c : Nat} {B : List Vec}, Ech n c B → c ≤ n → c + B.length ≤ n
  | _, [], _, h => h
  | c, r :: rs, e, h => by
    have := Ech.count e.2.2.2 e.2.2.1
    have := e.2.1
    rw [List.length_cons]; omega
theorem In.low {n : Nat} : ∀ {c : Nat} {B : List Vec} {f : Nat → Int}, Ech n c B → In B f → ∀ i, i < c → f i = 0
  | _, [], _, _, h => fun i _ => h i
  | c, r :: rs, f, e, ⟨a, h⟩ => fun i hi => by
    have h1 := In.low e.2.2.2 h i (by have := e.2.1; omega)
    have h2 : itm r i = 0 := (piv_spec r).1 i (Nat.lt_of_lt_of_le hi e.2.1)
    have h3 : f i - a * itm r i = 0 := h1
    rw [h2] at h3; omega
theorem lead {n : Nat} : ∀ {c : Nat} {B : List Vec} {f : Nat → Int}, Ech n c B → In B f → (∀ i, f i = 0) ∨ ∃ s ∈ B, ∃ a : Int, a ≠ 0 ∧ (∀ i, i < piv s → f i = 0) ∧ f (piv s) = a * itm s (piv s)
  | _, [], _, _, h => .inl h
  | c, r :: rs, f, e, ⟨a, h⟩ => by
    by_cases ha : a = 0
    · subst ha
      have h' : In rs f := (In.cl rs).of (t := 0) h (In.cl rs).zero fun i => by omega
      rcases lead e.2.2.2 h' with z | ⟨s, hs, b, hb⟩
      · exact .inl z
      · exact .inr ⟨s, List.mem_cons_of_mem _ hs, b, hb⟩
    · refine .inr ⟨r, List.mem_cons_self, a, ha, fun i hi => ?_, ?_⟩
      · have h3 : f i - a * itm r i = 0 := In.low e.2.2.2 h i (by omega)
        rw [(piv_spec r).1 i hi] at h3; omega
      · have h3 : f (piv r) - a * itm r (piv r) = 0 := In.low e.2.2.2 h (piv r) (by omega)
        omega
/-! ## multiples of them -/
def RIn (G : List Vec) (f : Nat → Int) : Prop := ∃ D : Int, D ≠ 0 ∧ In G fun i => D * f i
theorem RIn.cl (G : List Vec) : Cl (RIn G) :=
  ⟨⟨1, by decide, (In.cl G).of (t := 0) (In.cl G).zero (In.cl G).zero fun i => by show (1 : Int) * 0 = 0 + 0 * 0; omega⟩, fun f h t ⟨D, hD, a⟩ ⟨E, hE, b⟩ =>
    ⟨D * E, Int.mul_ne_zero hD hE, (In.cl G).of (t := t * D) ((In.cl G).scale E a) b fun i => by grind⟩⟩
theorem RIn.of {G : List Vec} {f : Nat → Int} (h : In G f) : RIn G f := ⟨1, by decide, (In.cl G).of (t := 0) h (In.cl G).zero fun i => by omega⟩
/-- the pivots of two echelon families of one lattice -/
theorem piv_bound {n : Nat} {B G : List Vec} (eB : Ech n 0 B) (eG : Ech n 0 G) (hG : ∀ g ∈ G, In B (itm g)) (hB : ∀ s ∈ B, RIn G (itm s)) : ∀ s ∈ B, ∃ g ∈ G, piv g = piv s ∧ (itm s (piv s)).natAbs ≤ (itm g (piv g)).natAbs := by
  intro s hs
  obtain ⟨D, hD, h⟩ := hB s hs
  have sn := eB.ne hs
  rcases lead eG h with z | ⟨g, hg, a, ha, z, y⟩
  · exact absurd (z (piv s)) (Int.mul_ne_zero hD sn)
  · have gn := eG.ne hg
    have e : piv g = piv s := by
      rcases Nat.lt_trichotomy (piv g) (piv s) with l | l | l
      · have : itm s (piv g) = 0 := (piv_spec s).1 _ l
        rw [this, Int.mul_zero] at y
        exact absurd y.symm (Int.mul_ne_zero ha gn)
      · exact l
      · exact absurd (z _ l) (Int.mul_ne_zero hD sn)
    refine ⟨g, hg, e, ?_⟩
    rcases lead eB (hG g hg) with z' | ⟨s', hs', b, hb, z', y'⟩
    · exact absurd (z' _) gn
    · have sn' := eB.ne hs'
      have e' : piv s' = piv g := by
        rcases Nat.lt_trichotomy (piv s') (piv g) with l | l | l
        · rw [(piv_spec g).1 _ l] at y'
          exact absurd y'.symm (Int.mul_ne_zero hb sn')
        · exact l
        · exact absurd (z' _ l) gn
      have es := eB.inj s' hs' s hs (e'.trans e)
      subst es
      rw [e, y', Int.natAbs_mul]
      exact Nat.le_mul_of_pos_left _ (Int.natAbs_pos.mpr hb)
/-- what is small at the pivots is small -/
theorem all_bound {n b : Nat} (b1 : 1 ≤ b) : ∀ {c : Nat} {G : List Vec} {f : Nat → Int} {A : Nat}, Ech n c G → (∀ g ∈ G, ∀ i, (itm g i).natAbs ≤ b) → RIn G f → (∀ g ∈ G, (f (piv g)).natAbs ≤ A) → ∀ i, (f i).natAbs ≤ A * (4 * b) ^ G.length
  | _, [], f, A, _, _, ⟨D, hD, h⟩, _ => fun i => by
    have h3 : D * f i = 0 := h i
    rcases Int.mul_eq_zero.mp h3 with z | z
    · exact absurd z hD
    · rw [z]; exact Nat.zero_le _
  | c, g :: gs, f, A, e, hb, ⟨D, hD, a, h⟩, hA => fun i => by
    have gn : itm g (piv g) ≠ 0 := e.ne List.mem_cons_self
    have h0 : D * f (piv g) - a * itm g (piv g) = 0 := In.low e.2.2.2 h (piv g) (by omega)
    have hp := hA g List.mem_cons_self
    have hr : RIn gs fun i => itm g (piv g) * f i - f (piv g) * itm g i := ⟨D, hD, (In.cl gs).of (t := itm g (piv g)) (In.cl gs).zero h fun i => by grind⟩
    have ih := all_bound (A := 2 * b * A) b1 e.2.2.2 (fun s hs => hb s (List.mem_cons_of_mem _ hs)) hr (fun s hs => ?_) i
    · have hg := hb g List.mem_cons_self i
      have e1 : itm g (piv g) * f i = (itm g (piv g) * f i - f (piv g) * itm g i) + f (piv g) * itm g i := by omega
      have e2 : (f i).natAbs ≤ (itm g (piv g) * f i).natAbs := by
        rw [Int.natAbs_mul]; exact Nat.le_mul_of_pos_left _ (Int.natAbs_pos.mpr gn)
      have e3 := Int.natAbs_add_le (itm g (piv g) * f i - f (piv g) * itm g i) (f (piv g) * itm g i)
      rw [← e1] at e3
      have e4 : (f (piv g) * itm g i).natAbs ≤ A * b := by rw [Int.natAbs_mul]; exact Nat.mul_le_mul hp hg
      have e5 : 1 ≤ (4 * b) ^ gs.length := Nat.one_le_pow _ _ (by omega)
      have e6 : A * b ≤ A * b * (4 * b) ^ gs.length := Nat.le_mul_of_pos_right _ e5
      rw [List.length_cons, Nat.pow_succ]
      have e7 : 2 * b * A * (4 * b) ^ gs.length = 2 * (A * b * (4 * b) ^ gs.length) := by grind
      have e8 : A * ((4 * b) ^ gs.length * (4 * b)) = 4 * (A * b * (4 * b) ^ gs.length) := by grind
      rw [e7] at ih
      rw [e8]
      omega
    · have h1 := hA s (List.mem_cons_of_mem _ hs)
      have h2 := hb g List.mem_cons_self (piv g)
      have h3 := hb g List.mem_cons_self (piv s)
      have h4 : (itm g (piv g) * f (piv s)).natAbs ≤ b * A := by rw [Int.natAbs_mul]; exact Nat.mul_le_mul h2 h1
      have h5 : (f (piv g) * itm g (piv s)).natAbs ≤ A * b := by rw [Int.natAbs_mul]; exact Nat.mul_le_mul hp h3
      have h6 : 2 * b * A = b * A + A * b := by grind
      rw [h6]
      show (itm g (piv g) * f (piv s) - f (piv g) * itm g (piv s)).natAbs ≤ _
      omega
/-! ## ghosts: echelon vectors of the lattice, made with no division -/
def crossV (g v : Vec) : Vec := List.zipWith (fun x y => itm g (piv g) * x - itm v (piv g) * y) v g
theorem crossV_len {g v : Vec} (h : v.length = g.length) : (crossV g v).length = v.length := by
  unfold crossV; rw [List.length_zipWith, h, Nat.min_self]
theorem crossV_itm {g v : Vec} (h : v.length = g.length) (i : Nat) : itm (crossV g v) i = itm g (piv g) * itm v i - itm v (piv g) * itm g i := by
  have key : ∀ a b : Int, itm (List.zipWith (fun x y => a * x - b * y) v g) i = a * itm v i - b * itm g i := by
    intro a b
    unfold itm
    by_cases hi : i < v.length
    · have hw : i < g.length := by omega
      rw [List.getD_eq_getElem?_getD, List.getD_eq_getElem?_getD, List.getD_eq_getElem?_getD, List.getElem?_zipWith, List.getElem?_eq_getElem hi, List.getElem?_eq_getElem hw]
      rfl
    · have hw : g.length ≤ i := by omega
      rw [List.getD_eq_getElem?_getD, List.getD_eq_getElem?_getD, List.getD_eq_getElem?_getD, List.getElem?_zipWith, List.getElem?_eq_none (by omega : v.length ≤ i), List.getElem?_eq_none hw]
      simp
  exact key _ _
def insG : List Vec → Vec → List Vec
  | [], v => if piv v = v.length then [] else [v]
  | g :: gs, v => if piv v < piv g then v :: g :: gs else g :: insG gs (crossV g v)
theorem piv_ge {v : Vec} {c : Nat} (h : ∀ i, i < c → itm v i = 0) (hc : c ≤ v.length) : c ≤ piv v := by
  apply Nat.le_of_not_lt
  intro l
  exact (piv_spec v).2 (by omega) (h _ l)
theorem cross_zero {n : Nat} {g v : Vec} (hg : piv g < n) (lg : g.length = n) (lv : v.length = n) (h : ¬ piv v < piv g) : ∀ i, i < piv g + 1 → itm (crossV g v) i = 0 := by
  intro i hi
  rw [crossV_itm (lv.trans lg.symm)]
  by_cases e : i = piv g
  · subst e; grind
  · rw [(piv_spec v).1 i (by omega), (piv_spec g).1 i (by omega)]; omega
theorem insG_ech {n : Nat} : ∀ {c : Nat} {G : List Vec} {v : Vec}, Ech n c G → v.length = n → c ≤ n → (∀ i, i < c → itm v i = 0) → Ech n c (insG G v)
  | c, [], v, _, l, hc, z => by
    unfold insG
    split
    · trivial
    · exact ⟨l, piv_ge z (l ▸ hc), by have := piv_le v; omega, trivial⟩
  | c, g :: gs, v, e, l, hc, z => by
    unfold insG
    split
    · next h => exact ⟨l, piv_ge z (l ▸ hc), by have := e.2.2.1; omega, e.1, by omega, e.2.2⟩
    · next h =>
      have lc := crossV_len (l.trans e.1.symm)
      exact ⟨e.1, e.2.1, e.2.2.1, insG_ech e.2.2.2 (lc.trans l) (by have := e.2.2.1; omega) (cross_zero e.2.2.1 e.1 l h)⟩
theorem insG_cl {S : (Nat → Int) → Prop} (C : Cl S) {n : Nat} : ∀ {c : Nat} {G : List Vec} {v : Vec}, Ech n c G → v.length = n → (∀ g ∈ G, S (itm g)) → S (itm v) → ∀ g ∈ insG G v, S (itm g)
  | c, [], v, _, l, _, hv => by
    unfold insG
    split
    · exact fun g h => nomatch h
    · exact fun g h => by rw [List.mem_singleton.mp h]; exact hv
  | c, g :: gs, v, e, l, h, hv => by
    obtain ⟨h1, h2⟩ := List.forall_mem_cons.mp h
    unfold insG
    split
    · exact List.forall_mem_cons.mpr ⟨hv, h⟩
    · have lc := crossV_len (l.trans e.1.symm)
      refine List.forall_mem_cons.mpr ⟨h1, insG_cl C e.2.2.2 (lc.trans l) h2 ?_⟩
      exact C.of (t := - itm v (piv g)) (C.scale (itm g (piv g)) hv) h1 fun i => by rw [crossV_itm (l.trans e.1.symm)]; grind
theorem insG_old : ∀ {G : List Vec} {v : Vec}, ∀ g ∈ G, In (insG G v) (itm g)
  | g :: gs, v, s, hs => by
    unfold insG
    split
    · exact In.mem _ _ (List.mem_cons_of_mem _ hs)
    · rcases List.mem_cons.mp hs with e | hs
      · subst e; exact In.mem _ _ List.mem_cons_self
      · exact ⟨0, (In.cl _).of (t := 0) (insG_old s hs) (In.cl _).zero fun i => by omega⟩
theorem insG_new {n : Nat} : ∀ {c : Nat} {G : List Vec} {v : Vec}, Ech n c G → v.length = n → RIn (insG G v) (itm v)
  | c, [], v, _, l => by
    unfold insG
    split
    · next h => exact (RIn.cl []).itm_zero h
    · exact RIn.of (In.mem _ _ List.mem_cons_self)
  | c, g :: gs, v, e, l => by
    unfold insG
    split
    · exact RIn.of (In.mem _ _ List.mem_cons_self)
    · have lc := crossV_len (l.trans e.1.symm)
      obtain ⟨D, hD, h⟩ := insG_new (c := piv g + 1) (v := crossV g v) e.2.2.2 (lc.trans l)
      refine ⟨D * itm g (piv g), Int.mul_ne_zero hD (e.ne List.mem_cons_self), D * itm v (piv g), (In.cl _).of (t := 0) h (In.cl _).zero fun i => ?_⟩
      rw [crossV_itm (l.trans e.1.symm)]
      grind
theorem insG_count : ∀ {G : List Vec} {v : Vec}, (insG G v).length ≤ G.length + 1
  | [], v => by
    unfold insG
    split
    · exact Nat.zero_le _
    · exact Nat.le_refl 1
  | g :: gs, v => by
    unfold insG
    split
    · exact Nat.le_refl _
    · exact Nat.succ_le_succ insG_count
theorem insG_size {n b : Nat} (b1 : 1 ≤ b) : ∀ {c : Nat} {G : List Vec} {v : Vec} {x X : Nat}, Ech n c G → v.length = n → (∀ g ∈ G, ∀ i, (itm g i).natAbs ≤ b) → (∀ i, (itm v i).natAbs ≤ x) → b ≤ X → x * (2 * b) ^ G.length ≤ X → ∀ g ∈ insG G v, ∀ i, (itm g i).natAbs ≤ X
  | c, [], v, x, X, _, l, _, hv, _, h => by
    unfold insG
    split
    · exact fun g h => nomatch h
    · exact fun g hg i => by
        rw [List.mem_singleton.mp hg]
        have := hv i
        rw [List.length_nil, Nat.pow_zero] at h; omega
  | c, g :: gs, v, x, X, e, l, hG, hv, hb, h => by
    obtain ⟨h1, h2⟩ := List.forall_mem_cons.mp hG
    have e5 : 1 ≤ (2 * b) ^ (g :: gs).length := Nat.one_le_pow _ _ (by omega)
    have e6 : x ≤ x * (2 * b) ^ (g :: gs).length := Nat.le_mul_of_pos_right _ e5
    unfold insG
    split
    · exact List.forall_mem_cons.mpr ⟨fun i => Nat.le_trans (hv i) (Nat.le_trans e6 h), fun s hs i => Nat.le_trans (hG s hs i) hb⟩
    · have lc := crossV_len (l.trans e.1.symm)
      refine List.forall_mem_cons.mpr ⟨fun i => Nat.le_trans (h1 i) hb, insG_size b1 (x := x * (2 * b)) e.2.2.2 (lc.trans l) h2 (fun i => ?_) hb ?_⟩
      · rw [crossV_itm (l.trans e.1.symm)]
        have q1 : (itm g (piv g) * itm v i).natAbs ≤ b * x := by rw [Int.natAbs_mul]; exact Nat.mul_le_mul (h1 _) (hv i)
        have q2 : (itm v (piv g) * itm g i).natAbs ≤ x * b := by rw [Int.natAbs_mul]; exact Nat.mul_le_mul (hv _) (h1 i)
        have q3 : x * (2 * b) = b * x + x * b := by grind
        rw [q3]; omega
      · rw [List.length_cons, Nat.pow_succ] at h
        have q4 : x * (2 * b) * (2 * b) ^ gs.length = x * ((2 * b) ^ gs.length * (2 * b)) := by grind
        rw [q4]; exact h
end Lat

namespace Lat
/-! ## the defs keep the form -/
theorem fdiv_rem (a b : Int) (hb : 0 < b) : 0 ≤ a - a.fdiv b * b ∧ a - a.fdiv b * b < b := by
  have h1 := Int.fmod_nonneg_of_pos a hb
  have h2 := Int.fmod_lt_of_pos a hb
  have h3 := Int.fmod_def a b
  rw [Int.mul_comm] at h3
  omega
theorem fdiv_rem_neg (a b : Int) (hb : b < 0) : b < a - a.fdiv b * b ∧ a - a.fdiv b * b ≤ 0 := by
  have h := fdiv_rem (-a) (-b) (by omega)
  rw [Int.neg_fdiv_neg] at h
  have e : a.fdiv b * -b = -(a.fdiv b * b) := Int.mul_neg _ _
  omega
theorem fdiv_small (a b : Int) (hb : b ≠ 0) : (a + -(a.fdiv b) * b).natAbs < b.natAbs := by
  have e : a + -(a.fdiv b) * b = a - a.fdiv b * b := by grind
  rw [e]
  rcases Int.lt_or_gt_of_ne hb with h | h
  · have := fdiv_rem_neg a b h; omega
  · have := fdiv_rem a b h; omega
theorem itm_out {v : Vec} {i : Nat} (h : v.length ≤ i) : itm v i = 0 := by
  unfold itm
  rw [List.getD_eq_getElem?_getD, List.getElem?_eq_none h]; rfl
theorem piv_eq {v : Vec} {c : Nat} (z : ∀ i, i < c → itm v i = 0) (h : itm v c ≠ 0) : piv v = c := by
  have hc : c < v.length := by
    apply Nat.lt_of_not_le
    intro l; exact h (itm_out l)
  have h1 := piv_ge z (Nat.le_of_lt hc)
  rcases Nat.lt_or_ge c (piv v) with l | l
  · exact absurd ((piv_spec v).1 c l) h
  · omega
theorem redV_low {n : Nat} : ∀ {c : Nat} {B : List Vec} {v : Vec}, Ech n c B → v.length = n → ∀ i, i < c → itm (redV B v) i = itm v i
  | _, [], v, _, _ => fun i _ => rfl
  | c, r :: rs, v, e, l => fun i hi => by
    have lr : v.length = r.length := l.trans e.1.symm
    have ih := redV_low (v := addV v (-((itm v (piv r)).fdiv (itm r (piv r)))) r) e.2.2.2 ((addV_len lr).trans l) i (by have := e.2.1; omega)
    refine Eq.trans ih ?_
    rw [itm_add lr, (piv_spec r).1 i (Nat.lt_of_lt_of_le hi e.2.1)]; omega
theorem redV_small {n : Nat} : ∀ {c : Nat} {B : List Vec} {v : Vec}, Ech n c B → v.length = n → ∀ s ∈ B, (itm (redV B v) (piv s)).natAbs < (itm s (piv s)).natAbs
  | _, [], v, _, _ => fun s h => nomatch h
  | c, r :: rs, v, e, l => fun s hs => by
    have lr : v.length = r.length := l.trans e.1.symm
    have l' : (addV v (-((itm v (piv r)).fdiv (itm r (piv r)))) r).length = n := (addV_len lr).trans l
    rcases List.mem_cons.mp hs with z | hs
    · subst z
      have h1 := redV_low e.2.2.2 l' (piv s) (by omega)
      show (itm (redV rs (addV v (-((itm v (piv s)).fdiv (itm s (piv s)))) s)) (piv s)).natAbs < _
      rw [h1, itm_add lr]
      exact fdiv_small _ _ (e.ne List.mem_cons_self)
    · exact redV_small e.2.2.2 l' s hs
theorem posV_piv (r : Vec) (h : piv r < r.length) : piv (posV r) = piv r := by
  rcases posV_itm r with q | q
  · exact piv_eq (fun i hi => by rw [q]; exact (piv_spec r).1 i hi) (by rw [q]; exact (piv_spec r).2 h)
  · exact piv_eq (fun i hi => by rw [q, (piv_spec r).1 i hi]; rfl) (by rw [q]; have := (piv_spec r).2 h; omega)
theorem posV_abs (r : Vec) (i : Nat) : (itm (posV r) i).natAbs = (itm r i).natAbs := by
  rcases posV_itm r with q | q
  · rw [q]
  · rw [q, Int.natAbs_neg]
theorem clr_facts {n : Nat} : ∀ (m : Nat) (r v : Vec) (i : Nat), r.length = n → v.length = n → (itm v i).natAbs ≤ m → itm r i ≠ 0 → itm (clr m r v i).2 i = 0 ∧ itm (clr m r v i).1 i ≠ 0 ∧ ∀ j, itm r j = 0 → itm v j = 0 → itm (clr m r v i).1 j = 0 ∧ itm (clr m r v i).2 j = 0
  | 0, r, v, i, lr, lv, h, h0 => ⟨by show itm v i = 0; omega, h0, fun j a b => ⟨a, b⟩⟩
  | m + 1, r, v, i, lr, lv, h, h0 => by
    unfold clr
    split
    · next z => exact ⟨z, h0, fun j a b => ⟨a, b⟩⟩
    · next z =>
      have l := lr.trans lv.symm
      have e := itm_add (t := -((itm r i).fdiv (itm v i))) l i
      have sm := fdiv_small (itm r i) (itm v i) z
      rw [← e] at sm
      obtain ⟨a, b, c⟩ := clr_facts m v (addV r (-((itm r i).fdiv (itm v i))) v) i lv ((addV_len l).trans lr) (by omega) z
      exact ⟨a, b, fun j x y => c j y (by rw [itm_add l, x, y]; omega)⟩
theorem clear_facts {n : Nat} {r v : Vec} {i : Nat} (lr : r.length = n) (lv : v.length = n) (h : itm r i ≠ 0) : itm (clear r v i).2 i = 0 ∧ itm (clear r v i).1 i ≠ 0 ∧ ∀ j, itm r j = 0 → itm v j = 0 → itm (clear r v i).1 j = 0 ∧ itm (clear r v i).2 j = 0 :=
  clr_facts _ r v i lr lv (Nat.le_refl _) h
theorem stepped_nil (v : Vec) : stepped [] v = if piv v = v.length then [] else [v] := rfl
theorem stepped_cons (r : Vec) (rs : List Vec) (v : Vec) : stepped (r :: rs) v = if piv v < piv r then v :: stepped rs r else (clear r v (piv r)).1 :: stepped rs (clear r v (piv r)).2 := by
  unfold stepped
  rw [stepGo]
  split
  · by_cases h : piv (stepGo rs r).2 = (stepGo rs r).2.length
    · rw [if_pos h, if_pos h]
    · rw [if_neg h, if_neg h]; rfl
  · by_cases h : piv (stepGo rs (clear r v (piv r)).2).2 = (stepGo rs (clear r v (piv r)).2).2.length
    · rw [if_pos h, if_pos h]
    · rw [if_neg h, if_neg h]; rfl
theorem stepped_ech {n : Nat} : ∀ {c : Nat} {B : List Vec} {v : Vec}, Ech n c B → v.length = n → c ≤ n → (∀ i, i < c → itm v i = 0) → Ech n c (stepped B v)
  | c, [], v, _, l, hc, z => by
    rw [stepped_nil]
    split
    · trivial
    · exact ⟨l, piv_ge z (l ▸ hc), by have := piv_le v; omega, trivial⟩
  | c, r :: rs, v, e, l, hc, z => by
    rw [stepped_cons]
    split
    · next h =>
      have ih := stepped_ech (c := piv r) (Ech.mono (by omega) e.2.2.2) e.1 (Nat.le_of_lt e.2.2.1) (piv_spec r).1
      exact ⟨l, piv_ge z (l ▸ hc), by have := e.2.2.1; omega, Ech.mono (by omega) ih⟩
    · next h =>
      obtain ⟨c1, c2⟩ := clear_len (i := piv r) (e.1.trans l.symm)
      obtain ⟨f1, f2, f3⟩ := clear_facts (i := piv r) e.1 l (e.ne List.mem_cons_self)
      have f4 : ∀ j, j < piv r → itm (clear r v (piv r)).1 j = 0 ∧ itm (clear r v (piv r)).2 j = 0 := fun j hj => f3 j ((piv_spec r).1 j hj) ((piv_spec v).1 j (by omega))
      have pe : piv (clear r v (piv r)).1 = piv r := piv_eq (fun j hj => (f4 j hj).1) f2
      have ih := stepped_ech (v := (clear r v (piv r)).2) e.2.2.2 (c2.trans e.1) (by have := e.2.2.1; omega) (fun j hj => by
        by_cases q : j = piv r
        · rw [q]; exact f1
        · exact (f4 j (by omega)).2)
      exact ⟨c1.trans e.1, by rw [pe]; exact e.2.1, by rw [pe]; exact e.2.2.1, by rw [pe]; exact ih⟩
theorem stepped_count : ∀ {B : List Vec} {v : Vec}, (stepped B v).length ≤ B.length + 1
  | [], v => by
    rw [stepped_nil]
    split
    · exact Nat.zero_le _
    · exact Nat.le_refl 1
  | r :: rs, v => by
    rw [stepped_cons]
    split
    · exact Nat.succ_le_succ stepped_count
    · exact Nat.succ_le_succ stepped_count
theorem tidy_count : ∀ {B : List Vec}, (tidy B).length = B.length
  | [] => rfl
  | r :: rs => congrArg (· + 1) (tidy_count (B := rs))
theorem tidy_ech {n : Nat} : ∀ {c : Nat} {B : List Vec}, Ech n c B → Ech n c (tidy B)
  | c, [], _ => trivial
  | c, r :: rs, e => by
    have ih := tidy_ech e.2.2.2
    have lp : (posV r).length = n := (posV_length r).trans e.1
    have pp := posV_piv r (e.1 ▸ e.2.2.1)
    have lo := redV_low ih lp
    have pe : piv (redV (tidy rs) (posV r)) = piv r := piv_eq (fun i hi => by rw [lo i (by omega), ← Int.natAbs_eq_zero, posV_abs, (piv_spec r).1 i hi]; rfl) (by
      rw [lo _ (by omega)]
      intro q
      have := posV_abs r (piv r)
      rw [q] at this
      exact e.ne List.mem_cons_self (by omega))
    unfold tidy
    refine ⟨(redV_len _ _ fun s hs => (ih.row s hs).1.trans lp.symm).trans lp, ?_⟩
    rw [pe]
    exact ⟨e.2.1, e.2.2.1, ih⟩
/-- each row is small at the others' pivots -/
def Redd (B : List Vec) : Prop := ∀ s ∈ B, ∀ r ∈ B, (itm r (piv s)).natAbs ≤ (itm s (piv s)).natAbs
theorem tidy_redd {n : Nat} : ∀ {c : Nat} {B : List Vec}, Ech n c B → Redd (tidy B)
  | c, [], _ => fun s h => nomatch h
  | c, r :: rs, e => by
    have ih := tidy_redd e.2.2.2
    have et := tidy_ech e
    have lp : (posV r).length = n := (posV_length r).trans e.1
    have h' := tidy_ech e.2.2.2
    unfold tidy at et ⊢
    intro s hs t ht
    rcases List.mem_cons.mp hs with z | hs
    · rcases List.mem_cons.mp ht with y | ht
      · rw [z, y]; exact Nat.le_refl _
      · have : itm t (piv s) = 0 := by rw [z]; exact et.2.2.2.zero ht (Nat.lt_succ_self _)
        rw [this]; exact Nat.zero_le _
    · rcases List.mem_cons.mp ht with y | ht
      · rw [y]; exact Nat.le_of_lt (redV_small h' lp s hs)
      · exact ih s hs t ht
theorem In.sub {S : (Nat → Int) → Prop} (C : Cl S) : ∀ {B : List Vec} {f : Nat → Int}, (∀ r ∈ B, S (itm r)) → In B f → S f
  | [], f, _, h => by
    rw [show f = _ from funext h]; exact C.zero
  | r :: rs, f, hS, ⟨a, h⟩ => C.of (t := a) (In.sub C (fun s hs => hS s (List.mem_cons_of_mem _ hs)) h) (hS r List.mem_cons_self) fun i => by omega
end Lat

namespace Lat
/-! ## a table of rows by their places, as the law keeps it -/
abbrev Tab := List (Option Vec)
def negV (v : Vec) : Vec := v.map fun n => 0 - n
def posAt (v : Vec) (p : Nat) : Vec := if itm v p < 0 then negV v else v
def putL : Tab → Nat → Vec → Tab
  | [], _, _ => []
  | o :: os, p, v => if itm v p = 0 then o :: putL os (p + 1) v else match o with
    | none => some (posAt v p) :: os
    | some h => some (posAt (clear h v p).1 p) :: putL os (p + 1) (clear h v p).2
def rowsOf (t : Tab) : List Vec := t.filterMap id
def leftL : Tab → Nat → Vec → Vec
  | [], _, v => v
  | none :: os, p, v => leftL os (p + 1) v
  | some h :: os, p, v => leftL os (p + 1) (addV v (-((itm v p).fdiv (itm h p))) h)
def EchT (n : Nat) : Nat → Tab → Prop
  | p, [] => p = n
  | p, o :: os => (∀ r, o = some r → r.length = n ∧ piv r = p ∧ 0 < itm r p) ∧ EchT n (p + 1) os
theorem EchT.len {n : Nat} : ∀ {p : Nat} {t : Tab}, EchT n p t → p + t.length = n
  | p, [], h => h
  | p, o :: os, h => by have := EchT.len h.2; rw [List.length_cons]; omega
theorem EchT.lt {n p : Nat} {o : Option Vec} {os : Tab} (h : EchT n p (o :: os)) : p < n := by have := h.len; rw [List.length_cons] at this; omega
theorem rows_none {os : Tab} : rowsOf (none :: os) = rowsOf os := rfl
theorem rows_some {h : Vec} {os : Tab} : rowsOf (some h :: os) = h :: rowsOf os := rfl
theorem EchT.ech {n : Nat} : ∀ {p : Nat} {t : Tab}, EchT n p t → Ech n p (rowsOf t)
  | _, [], _ => trivial
  | p, none :: os, h => Ech.mono (Nat.le_succ p) (EchT.ech (t := os) h.2)
  | p, some r :: os, h => by
    obtain ⟨a, b, c⟩ := h.1 r rfl
    have := h.lt
    refine ⟨a, by omega, by omega, ?_⟩
    rw [b]; exact EchT.ech (t := os) h.2
theorem EchT.pos {n : Nat} : ∀ {p : Nat} {t : Tab}, EchT n p t → ∀ s ∈ rowsOf t, 0 < itm s (piv s)
  | _, [], _ => fun s h => nomatch h
  | p, none :: os, h => EchT.pos (t := os) h.2
  | p, some r :: os, h => fun s hs => by
    rcases List.mem_cons.mp hs with e | hs
    · obtain ⟨a, b, c⟩ := h.1 r rfl
      subst e; rw [b]; exact c
    · exact EchT.pos (t := os) h.2 s hs
theorem EchT.empty (n : Nat) : ∀ k p, p + k = n → EchT n p (List.replicate k none)
  | 0, p, h => h
  | k + 1, p, h => ⟨fun r e => (nomatch e), EchT.empty n k (p + 1) (by omega)⟩
theorem rows_empty : ∀ k, rowsOf (List.replicate k none) = []
  | 0 => rfl
  | k + 1 => rows_empty k
theorem negV_len (v : Vec) : (negV v).length = v.length := List.length_map ..
theorem negV_itm (v : Vec) (i : Nat) : itm (negV v) i = - itm v i := by
  unfold itm negV
  rw [List.getD_eq_getElem?_getD, List.getD_eq_getElem?_getD, List.getElem?_map]
  cases v[i]? with
  | none => rfl
  | some x => show 0 - x = -x; omega
theorem posAt_len (v : Vec) (p : Nat) : (posAt v p).length = v.length := by
  unfold posAt; split
  · exact negV_len v
  · rfl
theorem posAt_itm (v : Vec) (p : Nat) : (∀ i, itm (posAt v p) i = itm v i) ∨ ∀ i, itm (posAt v p) i = - itm v i := by
  unfold posAt; split
  · exact .inr (negV_itm v)
  · exact .inl fun i => rfl
theorem posAt_abs (v : Vec) (p i : Nat) : (itm (posAt v p) i).natAbs = (itm v i).natAbs := by
  rcases posAt_itm v p with q | q
  · rw [q]
  · rw [q, Int.natAbs_neg]
theorem posAt_pos {v : Vec} {p : Nat} (h : itm v p ≠ 0) : 0 < itm (posAt v p) p := by
  unfold posAt; split
  · rw [negV_itm]; omega
  · omega
theorem posAt_row {v : Vec} {p : Nat} (h : itm v p ≠ 0) (z : ∀ i, i < p → itm v i = 0) : piv (posAt v p) = p := by
  refine piv_eq (fun i hi => ?_) (by have := posAt_pos h; omega)
  have := posAt_abs v p i
  rw [z i hi] at this
  omega
theorem posAt_cl {S : (Nat → Int) → Prop} (C : Cl S) (r : Vec) (p : Nat) : S (itm (posAt r p)) ↔ S (itm r) := by
  rcases posAt_itm r p with h | h
  · rw [show itm (posAt r p) = itm r from funext h]
  · exact ⟨fun q => C.of (t := -1) C.zero q fun i => by rw [h]; omega, fun q => C.of (t := -1) C.zero q fun i => by rw [h]; omega⟩
theorem zero_more {v : Vec} {p : Nat} (z : ∀ i, i < p → itm v i = 0) (h : itm v p = 0) : ∀ i, i < p + 1 → itm v i = 0 := fun i hi => by
  by_cases e : i = p
  · rw [e]; exact h
  · exact z i (by omega)
theorem clear_at {n p : Nat} {h v : Vec} (lh : h.length = n) (lv : v.length = n) (ph : piv h = p) (hp : 0 < itm h p) (z : ∀ i, i < p → itm v i = 0) :
    (clear h v p).1.length = n ∧ (clear h v p).2.length = n ∧ itm (clear h v p).1 p ≠ 0 ∧ (∀ i, i < p → itm (clear h v p).1 i = 0) ∧ ∀ i, i < p + 1 → itm (clear h v p).2 i = 0 := by
  obtain ⟨c1, c2⟩ := clear_len (i := p) (lh.trans lv.symm)
  obtain ⟨f1, f2, f3⟩ := clear_facts (i := p) lh lv (by omega)
  have f4 : ∀ j, j < p → itm (clear h v p).1 j = 0 ∧ itm (clear h v p).2 j = 0 := fun j hj => f3 j ((piv_spec h).1 j (by omega)) (z j hj)
  exact ⟨c1.trans lh, c2.trans lh, f2, fun i hi => (f4 i hi).1, zero_more (fun i hi => (f4 i hi).2) f1⟩
theorem putL_tab {n : Nat} : ∀ {p : Nat} {t : Tab} {v : Vec}, EchT n p t → v.length = n → (∀ i, i < p → itm v i = 0) → EchT n p (putL t p v)
  | _, [], _, h, _, _ => h
  | p, o :: os, v, h, l, z => by
    unfold putL
    split
    · next e => exact ⟨h.1, putL_tab h.2 l (zero_more z e)⟩
    · next e =>
      cases o with
      | none => exact ⟨fun r q => by cases q; exact ⟨(posAt_len v p).trans l, posAt_row e z, posAt_pos e⟩, h.2⟩
      | some r =>
        obtain ⟨a, b, c⟩ := h.1 r rfl
        obtain ⟨q1, q2, q3, q4, q5⟩ := clear_at a l b c z
        exact ⟨fun r q => by cases q; exact ⟨(posAt_len _ p).trans q1, posAt_row q3 q4, posAt_pos q3⟩, putL_tab h.2 q2 q5⟩
theorem zero_all {n : Nat} {v : Vec} (l : v.length = n) (z : ∀ i, i < n → itm v i = 0) : piv v = v.length := by
  rcases Nat.lt_or_ge (piv v) v.length with h | h
  · exact absurd (z _ (l ▸ h)) ((piv_spec v).2 h)
  · exact Nat.le_antisymm (piv_le v) h
theorem putL_cl {S : (Nat → Int) → Prop} (C : Cl S) {n : Nat} : ∀ {p : Nat} {t : Tab} {v : Vec}, EchT n p t → v.length = n → (∀ i, i < p → itm v i = 0) → ((∀ r ∈ rowsOf (putL t p v), S (itm r)) ↔ ((∀ r ∈ rowsOf t, S (itm r)) ∧ S (itm v)))
  | p, [], v, h, l, z => ⟨fun _ => ⟨fun r q => (nomatch q), C.itm_zero (zero_all l (fun i hi => z i (by rw [show p = n from h]; exact hi)))⟩, fun _ r q => nomatch q⟩
  | p, o :: os, v, h, l, z => by
    unfold putL
    split
    · next e =>
      have ih := putL_cl C h.2 l (zero_more z e)
      cases o with
      | none => exact ih
      | some r =>
        rw [rows_some, rows_some, List.forall_mem_cons, List.forall_mem_cons, ih, and_assoc]
    · next e =>
      cases o with
      | none =>
        show (∀ r ∈ posAt v p :: rowsOf os, S (itm r)) ↔ ((∀ r ∈ rowsOf os, S (itm r)) ∧ S (itm v))
        rw [List.forall_mem_cons, posAt_cl C, and_comm]
      | some r =>
        obtain ⟨a, b, c⟩ := h.1 r rfl
        obtain ⟨q1, q2, q3, q4, q5⟩ := clear_at a l b c z
        have ih := putL_cl C h.2 q2 q5
        have cc : (S (itm (clear r v p).1) ∧ S (itm (clear r v p).2)) ↔ _ := clr_cl C _ r v p (a.trans l.symm)
        show (∀ s ∈ posAt (clear r v p).1 p :: rowsOf (putL os (p + 1) (clear r v p).2), S (itm s)) ↔ ((∀ s ∈ r :: rowsOf os, S (itm s)) ∧ S (itm v))
        rw [List.forall_mem_cons, List.forall_mem_cons, posAt_cl C, ih]
        constructor
        · rintro ⟨h1, h2, h3⟩
          obtain ⟨h4, h5⟩ := cc.mp ⟨h1, h3⟩
          exact ⟨⟨h4, h2⟩, h5⟩
        · rintro ⟨⟨h1, h2⟩, h3⟩
          obtain ⟨h4, h5⟩ := cc.mpr ⟨h1, h3⟩
          exact ⟨h4, h2, h5⟩
theorem leftL_red {n : Nat} : ∀ {p : Nat} {t : Tab} {v : Vec}, EchT n p t → leftL t p v = redV (rowsOf t) v
  | _, [], _, _ => rfl
  | p, none :: os, v, h => leftL_red (t := os) h.2
  | p, some r :: os, v, h => by
    obtain ⟨a, b, c⟩ := h.1 r rfl
    show leftL os (p + 1) _ = redV (r :: rowsOf os) v
    rw [leftL_red (t := os) h.2]
    show _ = redV (rowsOf os) (addV v (-((itm v (piv r)).fdiv (itm r (piv r)))) r)
    rw [b]
theorem rows_count : ∀ t : Tab, (rowsOf t).length ≤ t.length
  | [] => Nat.le_refl _
  | none :: os => Nat.le_succ_of_le (rows_count os)
  | some r :: os => Nat.succ_le_succ (rows_count os)
/-- the law's table of some rows -/
def putsL (t : Tab) (rs : List Vec) : Tab := rs.foldl (fun t r => putL t 0 r) t
theorem putsL_tab {n : Nat} : ∀ {rs : List Vec} {t : Tab}, EchT n 0 t → (∀ r ∈ rs, r.length = n) → EchT n 0 (putsL t rs)
  | [], t, h, _ => h
  | r :: rs, t, h, hr => putsL_tab (rs := rs) (putL_tab h (hr r List.mem_cons_self) fun i hi => absurd hi (Nat.not_lt_zero _)) fun s hs => hr s (List.mem_cons_of_mem _ hs)
theorem putsL_cl {S : (Nat → Int) → Prop} (C : Cl S) {n : Nat} : ∀ {rs : List Vec} {t : Tab}, EchT n 0 t → (∀ r ∈ rs, r.length = n) → ((∀ r ∈ rowsOf (putsL t rs), S (itm r)) ↔ ((∀ r ∈ rowsOf t, S (itm r)) ∧ ∀ r ∈ rs, S (itm r)))
  | [], t, h, _ => ⟨fun q => ⟨q, fun r hr => nomatch hr⟩, fun q => q.1⟩
  | r :: rs, t, h, hr => by
    have l := hr r List.mem_cons_self
    have z : ∀ i, i < 0 → itm r i = 0 := fun i hi => absurd hi (Nat.not_lt_zero _)
    have ih := putsL_cl C (rs := rs) (putL_tab h l z) fun s hs => hr s (List.mem_cons_of_mem _ hs)
    have e : putsL t (r :: rs) = putsL (putL t 0 r) rs := rfl
    rw [e, ih, putL_cl C h l z, List.forall_mem_cons, and_assoc]
/-! ## what is reduced is one alone -/
def PosP (B : List Vec) : Prop := ∀ s ∈ B, 0 < itm s (piv s)
theorem redV_rng {n : Nat} : ∀ {c : Nat} {B : List Vec} {v : Vec}, Ech n c B → PosP B → v.length = n → ∀ s ∈ B, 0 ≤ itm (redV B v) (piv s) ∧ itm (redV B v) (piv s) < itm s (piv s)
  | _, [], v, _, _, _ => fun s h => nomatch h
  | c, r :: rs, v, e, P, l => fun s hs => by
    have lr : v.length = r.length := l.trans e.1.symm
    have l' : (addV v (-((itm v (piv r)).fdiv (itm r (piv r)))) r).length = n := (addV_len lr).trans l
    rcases List.mem_cons.mp hs with z | hs
    · subst z
      have h1 := redV_low e.2.2.2 l' (piv s) (by omega)
      show 0 ≤ itm (redV rs (addV v (-((itm v (piv s)).fdiv (itm s (piv s)))) s)) (piv s) ∧ _
      have h2 := fdiv_rem (itm v (piv s)) (itm s (piv s)) (P s List.mem_cons_self)
      have h3 : itm (redV rs (addV v (-((itm v (piv s)).fdiv (itm s (piv s)))) s)) (piv s) = itm v (piv s) - (itm v (piv s)).fdiv (itm s (piv s)) * itm s (piv s) := by
        rw [h1, itm_add lr]; grind
      rw [h3]
      refine ⟨h2.1, ?_⟩
      show itm (redV rs (addV v (-((itm v (piv s)).fdiv (itm s (piv s)))) s)) (piv s) < _
      rw [h3]; exact h2.2
    · exact redV_rng e.2.2.2 (fun t ht => P t (List.mem_cons_of_mem _ ht)) l' s hs
theorem redV_diff {S : (Nat → Int) → Prop} (C : Cl S) : ∀ (B : List Vec) (v : Vec), (∀ r ∈ B, r.length = v.length) → (∀ r ∈ B, S (itm r)) → S fun i => itm v i - itm (redV B v) i
  | [], v, _, _ => C.of (t := 0) C.zero C.zero fun i => by show itm v i - itm v i = 0 + 0 * 0; omega
  | r :: rs, v, h, hS => by
    have l := (h r List.mem_cons_self).symm
    have e := addV_len (t := -((itm v (piv r)).fdiv (itm r (piv r)))) l
    have ih := redV_diff C rs (addV v (-((itm v (piv r)).fdiv (itm r (piv r)))) r) (fun s hs => (h s (List.mem_cons_of_mem _ hs)).trans e.symm) fun s hs => hS s (List.mem_cons_of_mem _ hs)
    refine C.of (t := (itm v (piv r)).fdiv (itm r (piv r))) ih (hS r List.mem_cons_self) fun i => ?_
    show itm v i - itm (redV rs _) i = _
    rw [itm_add l]; grind
theorem first_eq {f : Nat → Int} {p q : Nat} (hp : ∀ i, i < p → f i = 0) (hp' : f p ≠ 0) (hq : ∀ i, i < q → f i = 0) (hq' : f q ≠ 0) : p = q := by
  rcases Nat.lt_trichotomy p q with l | l | l
  · exact absurd (hq _ l) hp'
  · exact l
  · exact absurd (hp _ l) hq'
theorem mul_ge {a b : Int} (ha : a ≠ 0) (hb : 0 < b) : a * b ≤ -b ∨ b ≤ a * b := by
  rcases Int.lt_or_gt_of_ne ha with h | h
  · left
    have := Int.mul_le_mul_of_nonneg_right (show a ≤ -1 by omega) (show 0 ≤ b by omega)
    omega
  · right
    have := Int.mul_le_mul_of_nonneg_right (show 1 ≤ a by omega) (show 0 ≤ b by omega)
    omega
/-- two vectors that differ by one of the lattice, each reduced by an echelon family of it, are one -/
theorem uniq {n : Nat} {B T : List Vec} (eB : Ech n 0 B) (eT : Ech n 0 T) (pB : PosP B) (pT : PosP T) {u w : Nat → Int} (hu : ∀ s ∈ B, 0 ≤ u (piv s) ∧ u (piv s) < itm s (piv s)) (hw : ∀ s ∈ T, 0 ≤ w (piv s) ∧ w (piv s) < itm s (piv s))
    (dB : In B fun i => u i - w i) (dT : In T fun i => u i - w i) : ∀ i, u i = w i := by
  rcases lead eB dB with z | ⟨s, hs, a, ha, z, y⟩
  · intro i; have := z i; omega
  · rcases lead eT dT with z' | ⟨t, ht, b, hb, z', y'⟩
    · intro i; have := z' i; omega
    · have ps := pB s hs
      have pt := pT t ht
      have e : piv s = piv t := first_eq z (by rw [y]; exact Int.mul_ne_zero ha (by omega)) z' (by rw [y']; exact Int.mul_ne_zero hb (by omega))
      have h1 := hu s hs
      have h2 := hw t ht
      rw [← e] at h2 y' pt
      have q1 := mul_ge ha ps
      have q2 := mul_ge hb pt
      rw [← y] at q1
      rw [← y'] at q2
      omega
theorem vec_ext {u w : Vec} (l : u.length = w.length) (h : ∀ i, itm u i = itm w i) : u = w := by
  apply List.ext_getElem? 
  intro i
  rcases Nat.lt_or_ge i u.length with hi | hi
  · rw [itm_of hi, itm_of (l ▸ hi), h]
  · rw [List.getElem?_eq_none hi, List.getElem?_eq_none (l ▸ hi)]
/-- reduced by either of two families of one lattice -/
theorem red_same {n : Nat} {B T : List Vec} (eB : Ech n 0 B) (eT : Ech n 0 T) (pB : PosP B) (pT : PosP T) (hBT : ∀ r ∈ B, In T (itm r)) (hTB : ∀ r ∈ T, In B (itm r)) {v v' : Vec} (l : v.length = n) (l' : v'.length = n) (d : In B fun i => itm v i - itm v' i) : redV B v = redV T v' := by
  have lB : ∀ r ∈ B, r.length = v.length := fun r hr => (eB.row r hr).1.trans l.symm
  have lT : ∀ r ∈ T, r.length = v'.length := fun r hr => (eT.row r hr).1.trans l'.symm
  have h1 := redV_diff (In.cl B) B v lB fun r hr => In.mem _ _ hr
  have h2 := redV_diff (In.cl B) T v' lT hTB
  have h3 : In B fun i => itm (redV B v) i - itm (redV T v') i := by
    have q1 := (In.cl B).of (t := -1) d h1 (g := fun i => itm (redV B v) i - itm v' i) fun i => by show _ = (itm v i - itm v' i) + -1 * (itm v i - itm (redV B v) i); omega
    exact (In.cl B).of (t := 1) q1 h2 fun i => by show _ = (itm (redV B v) i - itm v' i) + 1 * (itm v' i - itm (redV T v') i); omega
  refine vec_ext ?_ (uniq eB eT pB pT (redV_rng eB pB l) (redV_rng eT pT l') h3 (In.sub (In.cl T) hBT h3))
  rw [redV_len B v lB, redV_len T v' lT, l, l']
theorem red_zero {n : Nat} {B : List Vec} (eB : Ech n 0 B) {v : Vec} (l : v.length = n) (h : In B (itm v)) : piv (redV B v) = (redV B v).length := by
  have lB : ∀ r ∈ B, r.length = v.length := fun r hr => (eB.row r hr).1.trans l.symm
  have h1 := (redV_cl (In.cl B) B v lB fun r hr => In.mem _ _ hr).mpr h
  have ll := (redV_len B v lB).trans l
  rcases lead eB h1 with z | ⟨s, hs, a, ha, z, y⟩
  · exact zero_all ll fun i _ => z i
  · have sm := redV_small eB l s hs
    rw [y, Int.natAbs_mul] at sm
    have := Nat.le_mul_of_pos_left (itm s (piv s)).natAbs (Int.natAbs_pos.mpr ha)
    omega
theorem red_in {B : List Vec} {v : Vec} (lB : ∀ r ∈ B, r.length = v.length) (h : piv (redV B v) = (redV B v).length) : In B (itm v) :=
  (redV_cl (In.cl B) B v lB fun r hr => In.mem _ _ hr).mp ((In.cl B).itm_zero h)
/-! ## the basis has positive pivots -/
theorem tidy_pos {n : Nat} : ∀ {c : Nat} {B : List Vec}, Ech n c B → PosP (tidy B)
  | c, [], _ => fun s h => nomatch h
  | c, r :: rs, e => by
    have ih := tidy_ech e.2.2.2
    have lp : (posV r).length = n := (posV_length r).trans e.1
    have pp := posV_piv r (e.1 ▸ e.2.2.1)
    have lo := redV_low ih lp
    have rn := e.ne List.mem_cons_self
    have pe : piv (redV (tidy rs) (posV r)) = piv r := piv_eq (fun i hi => by rw [lo i (by omega), ← Int.natAbs_eq_zero, posV_abs, (piv_spec r).1 i hi]; rfl) (by
      rw [lo _ (by omega)]
      intro q
      have := posV_abs r (piv r)
      rw [q] at this
      exact rn (by omega))
    unfold tidy
    intro s hs
    rcases List.mem_cons.mp hs with z | hs
    · rw [z, pe, lo _ (by omega)]
      unfold posV
      split
      · next h => exact h
      · next h =>
        rw [itm_add rfl]; omega
    · exact tidy_pos e.2.2.2 s hs
end Lat

namespace Lat
/-! ## ghosts, by their number -/
def gbx (x : Nat) : Nat → Nat
  | 0 => 0
  | j + 1 => x + j * (gbx x j + 1)
theorem insG_or : ∀ {G : List Vec} {v : Vec}, insG G v = G ∨ (insG G v).length = G.length + 1
  | [], v => by
    unfold insG
    split
    · exact .inl rfl
    · exact .inr rfl
  | g :: gs, v => by
    unfold insG
    split
    · exact .inr rfl
    · rcases insG_or (G := gs) (v := crossV g v) with e | e
      · rw [e]; exact .inl rfl
      · exact .inr (congrArg (· + 1) e)
theorem gbx_mono {x : Nat} : ∀ j, gbx x j ≤ gbx x (j + 1)
  | 0 => Nat.zero_le _
  | j + 1 => by
    have ih := gbx_mono (x := x) j
    show x + j * (gbx x j + 1) ≤ x + (j + 1) * (gbx x (j + 1) + 1)
    have := Nat.mul_le_mul (Nat.le_succ j) (Nat.succ_le_succ ih)
    exact Nat.add_le_add_left this x
theorem gbx_le {x : Nat} {i j : Nat} (h : i ≤ j) : gbx x i ≤ gbx x j := by
  induction h with
  | refl => exact Nat.le_refl _
  | step _ ih => exact Nat.le_trans ih (gbx_mono _)
theorem p2le {a b : Nat} (h : a ≤ b) : 2 ^ a ≤ 2 ^ b := Nat.pow_le_pow_right (by decide) h
structure Gh (x n : Nat) (B : List Vec) : Prop where
  eB : Ech n 0 B
  ex : ∃ G, Ech n 0 G ∧ (∀ g ∈ G, In B (itm g)) ∧ (∀ s ∈ B, RIn G (itm s)) ∧ ∀ g ∈ G, ∀ i, (itm g i).natAbs ≤ 2 ^ gbx x G.length
theorem Gh.nil (x n : Nat) : Gh x n [] := ⟨trivial, [], trivial, fun g h => (nomatch h), fun g h => (nomatch h), fun g h => (nomatch h)⟩
theorem Gh.step {x n : Nat} {B B' : List Vec} {v : Vec} (I : Gh x n B) (x1 : x ≤ gbx x 1) (eB' : Ech n 0 B') (l : v.length = n) (hv : ∀ i, (itm v i).natAbs ≤ 2 ^ x) (h : ∀ S, Cl S → ((∀ r ∈ B', S (itm r)) ↔ ((∀ r ∈ B, S (itm r)) ∧ S (itm v)))) : Gh x n B' := by
  obtain ⟨G, eG, h1, h2, h3⟩ := I.ex
  have eG' : Ech n 0 (insG G v) := insG_ech eG l (Nat.zero_le _) fun i hi => absurd hi (Nat.not_lt_zero _)
  have rB : ∀ s ∈ B, RIn (insG G v) (itm s) := fun s hs => by
    obtain ⟨D, hD, h⟩ := h2 s hs
    exact ⟨D, hD, In.sub (In.cl _) (fun g hg => insG_old g hg) h⟩
  have rv : RIn (insG G v) (itm v) := insG_new eG l
  obtain ⟨q1, q2⟩ := (h (In B') (In.cl B')).mp fun r hr => In.mem _ _ hr
  refine ⟨eB', insG G v, eG', insG_cl (In.cl B') eG l (fun g hg => In.sub (In.cl B') q1 (h1 g hg)) q2, (h (RIn (insG G v)) (RIn.cl _)).mpr ⟨rB, rv⟩, ?_⟩
  rcases insG_or (G := G) (v := v) with e | e
  · rw [e]; exact h3
  · rw [e]
    refine insG_size (b := 2 ^ gbx x G.length) (x := 2 ^ x) (Nat.two_pow_pos _) eG l h3 hv (p2le (gbx_mono _)) ?_
    have e1 : 2 * 2 ^ gbx x G.length = 2 ^ (gbx x G.length + 1) := by rw [Nat.pow_succ, Nat.mul_comm]
    rw [e1, ← Nat.pow_mul, ← Nat.pow_add]
    refine p2le ?_
    show _ ≤ x + G.length * (gbx x G.length + 1)
    rw [Nat.mul_comm]; exact Nat.le_refl _
theorem Gh.piv {x n : Nat} {B : List Vec} (I : Gh x n B) : ∀ s ∈ B, (itm s (Lat.piv s)).natAbs ≤ 2 ^ gbx x n := by
  obtain ⟨G, eG, h1, h2, h3⟩ := I.ex
  intro s hs
  obtain ⟨g, hg, _, q⟩ := piv_bound I.eB eG h1 h2 s hs
  have c := eG.count (Nat.zero_le _)
  exact Nat.le_trans q (Nat.le_trans (h3 g hg _) (p2le (gbx_le (by omega))))
theorem Ech.full {n : Nat} : ∀ {c : Nat} {G : List Vec}, Ech n c G → c + G.length = n → ∀ i, c ≤ i → i < n → ∃ g ∈ G, Lat.piv g = i
  | c, [], _, h => fun i h1 h2 => by rw [List.length_nil] at h; omega
  | c, r :: rs, e, h => fun i h1 h2 => by
    have c1 := Ech.count e.2.2.2 e.2.2.1
    have := e.2.1
    rw [List.length_cons] at h
    by_cases q : i = Lat.piv r
    · exact ⟨r, List.mem_cons_self, q.symm⟩
    · obtain ⟨g, hg, z⟩ := Ech.full e.2.2.2 (by omega) i (by omega) h2
      exact ⟨g, List.mem_cons_of_mem _ hg, z⟩
/-- what is reduced is small: by the ghosts if they are fewer than columns, by the pivots else -/
theorem Gh.red {x n y z w : Nat} {B : List Vec} (I : Gh x n B) {v : Vec} (l : v.length = n) (hv : ∀ i, (itm v i).natAbs ≤ 2 ^ y) (n1 : 1 ≤ n)
    (hz : gbx x n ≤ z) (hw : ∀ k, k < n → (gbx x k + y + 1) + k * (gbx x k + 2) + 1 ≤ z) (hy : y ≤ z) : ∀ i, (itm (redV B v) i).natAbs ≤ 2 ^ (z + 1) := by
  obtain ⟨G, eG, h1, h2, h3⟩ := I.ex
  have lB : ∀ r ∈ B, r.length = v.length := fun r hr => (I.eB.row r hr).1.trans l.symm
  have lr := (redV_len B v lB).trans l
  -- at the pivots of the basis
  have atB : ∀ g ∈ G, ∃ s ∈ B, Lat.piv s = Lat.piv g ∧ (itm s (Lat.piv s)).natAbs ≤ (itm g (Lat.piv g)).natAbs := by
    intro g hg
    have gn := eG.ne hg
    rcases lead I.eB (h1 g hg) with z | ⟨t, ht, a, ha, z, y⟩
    · exact absurd (z _) gn
    · have tn := I.eB.ne ht
      have e' : Lat.piv t = Lat.piv g := first_eq z (by rw [y]; exact Int.mul_ne_zero ha tn) (piv_spec g).1 gn
      refine ⟨t, ht, e', ?_⟩
      rw [← e', y, Int.natAbs_mul]
      exact Nat.le_mul_of_pos_left _ (Int.natAbs_pos.mpr ha)
  have small : ∀ g ∈ G, (itm (redV B v) (Lat.piv g)).natAbs ≤ 2 ^ gbx x G.length := by
    intro g hg
    obtain ⟨s, hs, e, q⟩ := atB g hg
    have := redV_small I.eB l s hs
    rw [e] at this q
    have := h3 g hg (Lat.piv g)
    omega
  have cG := eG.count (Nat.zero_le _)
  intro i
  by_cases hf : G.length = n
  · rcases Nat.lt_or_ge i n with hi | hi
    · obtain ⟨g, hg, e⟩ := Ech.full eG (by omega) i (Nat.zero_le _) hi
      have := small g hg
      rw [e, hf] at this
      exact Nat.le_trans this (p2le (by omega))
    · rw [itm_out (by omega)]; exact Nat.zero_le _
  · have d := redV_diff (RIn.cl G) B v lB fun s hs => h2 s hs
    have q := all_bound (b := 2 ^ gbx x G.length) (A := 2 ^ (gbx x G.length + y + 1)) (Nat.two_pow_pos _) eG h3 d (fun g hg => ?_) i
    · have e1 : 4 * 2 ^ gbx x G.length = 2 ^ (gbx x G.length + 2) := by rw [Nat.pow_add, Nat.mul_comm]
      rw [e1, ← Nat.pow_mul, ← Nat.pow_add] at q
      have q2 := hw G.length (by omega)
      rw [Nat.mul_comm] at q
      have q3 : (itm v i - itm (redV B v) i).natAbs ≤ 2 ^ z := Nat.le_trans q (p2le (by omega))
      have q4 := Nat.le_trans (hv i) (p2le hy)
      rw [Nat.pow_succ]
      omega
    · show (itm v (Lat.piv g) - itm (redV B v) (Lat.piv g)).natAbs ≤ _
      have q1 := small g hg
      have q2 := hv (Lat.piv g)
      have q3 : 2 ^ gbx x G.length ≤ 2 ^ (gbx x G.length + y) := p2le (by omega)
      have q4 : 2 ^ y ≤ 2 ^ (gbx x G.length + y) := p2le (by omega)
      rw [Nat.pow_succ]
      omega
end Lat

namespace K06
open PySem L2 RZ Lat
theorem two_at (c : Int) (b : Prop) [Decidable b] : ∃ v, atI [V.int 0, V.int c] (if decide b = true then 1 else 0) = some (V.int v) := by
  by_cases h : b
  · exact ⟨c, by rw [decide_eq_true h]; rfl⟩
  · exact ⟨0, by rw [decide_eq_false h]; rfl⟩
/-- a box: three ints -/
def Box (H : Hp) (b : Addr) : Prop := ∃ x y z : Int, H b = some (.lst [.int x, .int y, .int z])
section
variable {P : Program} {w : World} {K : PySem.W.Frag} {mg : Str → Option Value} {base : Heap}
abbrev s_law_take : Stmt := top 36
abbrev n_law_take : List Str := ["_law_box_here", "_law_many", "_law_digit", "_law_raw", "_law_wide"]
theorem sc_law_take : FnScope n_law_take ["_law_box_here", "_law_many"] (defScope s_law_take) := ⟨rfl, rfl, rfl, by decide +kernel, rfl, by decide +kernel, by decide +kernel⟩
def spTake : Sp := fun vs H Q _ => ∃ (b : Addr) (n : Int), vs = [.ref b, .int n] ∧ Box H b ∧ 0 < n ∧ n < 10000000000 ∧ ∀ (d x y z : Int), 0 ≤ d → d < n → Q (.int d) (upd H b (.lst [.int x, .int y, .int z]))
theorem ok_take (T : Txt mg) (F : DefAt K mg "_law_take" s_law_take ["_law_box_here", "_law_many"]) : Has P w K mg base 1 "_law_take" ["_law_box_here", "_law_many"] spTake := by
  refine F.has sc_law_take (fun vs H Q E h => ?_) (fun f cdv A outer s H vs Q E hr h => ?_)
  · obtain ⟨b, n, rfl, _⟩ := h
    rfl
  · obtain ⟨b, n, rfl, ⟨x, y, z, hb⟩, n0, n1, k⟩ := h
    refine ⟨_, (pss_cons (ps_if (pt_cmpR op_gt (pe_ix ix_list (pv 0) pe_int (fun _ _ => rfl)) pe_int (nomark _)) (pss_cons (ps_set (i := 2) sc_law_take.nd rfl (Or.inl rfl) (pe_op op_mod (pe_callTy call_int1 (by rfl) T.z_int (by decide +kernel) (pa_cons (pe_ix ix_list (pv 0) pe_int (fun _ _ => rfl)) pa_nil)) (pv 1)))
      (pss_cons (ps_asg (pe_op op_fdivW (pe_ix ix_list (pv 0) pe_int (fun _ _ => rfl)) (pv 1)) (pg_sub (pv 0) pe_int set_list))
      (pss_one (ps_ret (pv 2))))) pss_nil)
      (pss_cons (ps_asg (pe_op op_add (pe_ix ix_list (pv 0) pe_int (fun _ _ => rfl)) pe_int) (pg_sub (pv 0) pe_int set_list))
      (pss_cons (ps_set (i := 3) sc_law_take.nd rfl (Or.inl rfl) (pe_op op_mod (pe_callTy call_int1 (by rfl) T.z_int (by decide +kernel) (pa_cons (pe_op op_mul (pe_op op_add (pe_ix ix_list (pv 0) pe_int (fun _ _ => rfl)) (pe_op op_mul pe_int (pe_ix ix_list (pv 0) pe_int (fun _ _ => rfl)))) pe_int) pa_nil)) pe_int))
      (pss_cons (ps_asg (pe_op op_add (pe_op op_mod (pe_callTy call_int1 (by rfl) T.z_int (by decide +kernel) (pa_cons (pe_op op_add (pe_op op_mul (pv 3) pe_int) pe_int) pa_nil)) pe_int) pe_int) (pg_sub (pv 0) pe_int set_list))
      (pss_cons (ps_if (pt_cmpR op_lt (pv 1) (pe_op op_pow pe_int pe_int) (nomark _)) (pss_one (ps_ret (pe_op op_mod (pe_callTy call_int1 (by rfl) T.z_int (by decide +kernel) (pa_cons (pe_op op_fdiv (pe_op op_add (pe_op op_mul (pv 3) pe_int) (pe_ix ix_list (pv 0) pe_int (fun _ _ => rfl))) pe_int) pa_nil)) (pv 1)))) pss_nil)
      (pss_cons (ps_set (i := 4) sc_law_take.nd rfl (Or.inl rfl) (pe_op op_mul (pe_op op_add (pe_op op_mul (pv 3) pe_int) (pe_ix ix_list (pv 0) pe_int (fun _ _ => rfl))) (pe_op op_pow pe_int pe_int)))
      (pss_one (ps_ret (pe_op op_mod (pe_callTy call_int1 (by rfl) T.z_int (by decide +kernel) (pa_cons (pe_op op_add (pe_op op_add (pv 4) (pe_op op_mul (pe_op op_pow (pe_ix ix_list (pv 0) pe_int (fun _ _ => rfl)) pe_int) pe_int)) (pv 3)) pa_nil)) (pv 1)))))))))), ?_⟩
    -- if box[0] > 0: the digit; else the next number
    refine ⟨_, rfl, b, _, _, _, rfl, rfl, SqL.of hb, rfl, _, _, rfl, rfl, _, rfl, ite2 (fun _ => ?_) (fun _ => ?_)⟩
    · refine ⟨_, rfl, b, _, _, _, rfl, rfl, SqL.of hb, rfl, .inl ⟨_, rfl, _, rfl, _, _, rfl, rfl, n0, ?_⟩⟩
      refine ⟨_, rfl, b, _, _, _, rfl, rfl, SqL.of hb, rfl, _, rfl, _, _, rfl, rfl, wide_div n0 (show n.natAbs < 2 ^ 40 by omega) (by decide) (by decide), _, rfl, b, _, _, _, rfl, rfl, hb, rfl, _, rfl, ?_⟩
      exact k _ _ _ _ (Int.emod_nonneg _ (by omega)) (Int.emod_lt_of_pos _ n0)
    · refine ⟨_, rfl, b, _, _, _, rfl, rfl, SqL.of hb, rfl, _, _, rfl, rfl, _, rfl, b, _, _, _, rfl, rfl, hb, rfl, ?_⟩
      have h1 : upd H b (.lst [.int x, .int y, .int (z + 1)]) b = some (.lst [.int x, .int y, .int (z + 1)]) := upd_same
      refine ⟨_, rfl, b, _, _, _, rfl, rfl, SqL.of h1, rfl, _, rfl, b, _, _, _, rfl, rfl, SqL.of h1, rfl, _, _, rfl, rfl, .inl ⟨by decide, by decide⟩, _, _, rfl, rfl, _, _, rfl, rfl, .inr ⟨by decide, by decide⟩, .inl ⟨_, rfl, _, _, rfl, rfl, (by show (0 : Int) < 2147483647; decide), ?_⟩⟩
      generalize (y + 104729 * (z + 1)) * 69623 % 2147483647 = r
      refine ⟨_, rfl, _, _, rfl, rfl, .inr ⟨by decide, by decide⟩, _, _, rfl, rfl, .inl ⟨_, rfl, _, _, rfl, rfl, (by show (0 : Int) < 2147483629; decide), _, _, rfl, rfl, _, rfl, b, _, _, _, rfl, rfl, h1, rfl, ?_⟩⟩
      rw [upd_upd]
      refine ⟨_, rfl, _, _, rfl, rfl, ⟨by decide, by decide, by decide⟩, _, _, rfl, rfl, _, rfl, ?_⟩
      have e : decide (n < 2 ^ (40 : Int).toNat) = true := decide_eq_true (by
        have q : (2 : Int) ^ (40 : Int).toNat = 1099511627776 := by decide +kernel
        omega)
      rw [e]
      refine iteT ⟨_, rfl, _, _, rfl, rfl, .inr ⟨by decide, by decide⟩, _, rfl, b, _, _, _, rfl, rfl, SqL.of upd_same, rfl, _, _, rfl, rfl, _, _, rfl, rfl, ⟨by decide, by decide⟩, .inl ⟨_, rfl, _, rfl, _, _, rfl, rfl, n0, ?_⟩⟩
      exact k _ _ _ _ (Int.emod_nonneg _ (by omega)) (Int.emod_lt_of_pos _ n0)
abbrev s_law_box : Stmt := top 35
abbrev n_law_box : List Str := ["_law_script", "_law_k", "_law_own", "_law_cell", "_law_seed"]
theorem sc_law_box : FnScope n_law_box ["_law_script", "_law_k", "_law_own"] (defScope s_law_box) := ⟨rfl, rfl, rfl, by decide +kernel, rfl, by decide +kernel, by decide +kernel⟩
def spBox (K : PySem.W.Frag) : Sp := fun vs H Q _ => ∃ (a : Addr) (ns : List Int) (k o : Int), vs = [.ref a, .int k, .int o] ∧ SqL K H a (ns.map V.int) ∧ 0 ≤ k ∧ k < 1000 ∧ 0 ≤ o ∧ o < 1000 ∧ ∀ (H' : Hp) (p : Addr), Same H H' → H p = none → Box H' p → Q (.ref p) H'
theorem ok_box (T : Txt mg) (F : DefAt K mg "_law_box" s_law_box ["_law_script", "_law_k", "_law_own"]) : Has P w K mg base 1 "_law_box" ["_law_script", "_law_k", "_law_own"] (spBox K) := by
  refine F.has sc_law_box (fun vs H Q E h => ?_) (fun f cdv A outer s H vs Q E hr h => ?_)
  · obtain ⟨a, ns, k, o, rfl, _⟩ := h
    rfl
  · obtain ⟨a, ns, i, o, rfl, hS, i0, i1, o0, o1, k⟩ := h
    refine ⟨_, (pss_cons (ps_set (i := 3) sc_law_box.nd rfl (Or.inl rfl) (pe_op op_add (pe_op op_add (pe_op op_mul pe_int (pv 1)) (pe_op op_mul pe_int (pv 2))) pe_int))
      (pss_cons (ps_if (pt_cmpR op_lt (pv 1) (pe_callB call_len (by rfl) T.z_len (by decide +kernel) (pa_cons (pv 0) pa_nil)) (nomark _)) (pss_one (ps_set (i := 3) sc_law_box.nd rfl (Or.inl rfl) (pe_callB call_abs (by rfl) T.z_abs (by decide +kernel) (pa_cons (pe_ix ix_list (pv 0) (pv 1) (fun _ _ => rfl)) pa_nil)))) (pss_one (ps_if (pt_cmpR op_gt (pe_callB call_len (by rfl) T.z_len (by decide +kernel) (pa_cons (pv 0) pa_nil)) pe_int (nomark _)) (pss_one (ps_set (i := 3) sc_law_box.nd rfl (Or.inl rfl) (pe_op op_add (pv 3) (pe_op op_mul (pe_op op_mod (pe_callTy call_int1 (by rfl) T.z_int (by decide +kernel) (pa_cons (pe_callB call_abs (by rfl) T.z_abs (by decide +kernel) (pa_cons (pe_ix ix_list (pv 0) (pe_op op_mod (pe_callTy call_int1 (by rfl) T.z_int (by decide +kernel) (pa_cons (pv 1) pa_nil)) (pe_callB call_len (by rfl) T.z_len (by decide +kernel) (pa_cons (pv 0) pa_nil))) (fun _ _ => rfl)) pa_nil)) pa_nil)) pe_int) pe_int)))) pss_nil)))
      (pss_cons (ps_set (i := 4) sc_law_box.nd rfl (Or.inl rfl) (pe_op op_add (pe_op op_mod (pe_callTy call_int1 (by rfl) T.z_int (by decide +kernel) (pa_cons (pe_op op_add (pe_op op_mul (pe_op op_mod (pe_callTy call_int1 (by rfl) T.z_int (by decide +kernel) (pa_cons (pv 3) pa_nil)) pe_int) pe_int) (pe_op op_mul pe_int (pe_op op_add (pv 1) (pe_op op_mul pe_int (pv 2))))) pa_nil)) pe_int) pe_int))
      (pss_one (ps_ret (pe_lst (pa_cons (pe_ix ix_list (pe_lst (pa_cons pe_int (pa_cons (pv 3) pa_nil))) (pe_callTy call_int1 (by rfl) T.z_int (by decide +kernel) (pa_cons (pe_cmpR op_ge (pv 3) (pe_op op_pow pe_int pe_int) (nomark _)) pa_nil)) (fun _ _ => rfl)) (pa_cons (pv 4) (pa_cons pe_int pa_nil))))))))), ?_⟩
    refine ⟨_, rfl, _, _, rfl, rfl, .inl ⟨by decide, by decide⟩, _, rfl, _, _, rfl, rfl, .inl ⟨by decide, by decide⟩, _, _, rfl, rfl, _, _, rfl, rfl, ?_⟩
    have hlen : (ns.map V.int).length = ns.length := List.length_map ..
    -- the cell by three ways; what follows is the same
    refine ⟨_, rfl, _, rfl, _, _, rfl, .inl ⟨_, hS, rfl⟩, _, _, rfl, rfl, _, rfl, ite2 (fun h1 => ?_) (fun h1 => ?_)⟩
    · have h1' : i < ((ns.map V.int).length : Int) := of_decide_eq_true h1
      obtain ⟨j, rfl⟩ : ∃ j : Nat, i = (j : Int) := ⟨i.toNat, by omega⟩
      have hj : j < ns.length := by omega
      have ej : (ns.map V.int)[j]? = some (V.int ns[j]) := by rw [List.getElem?_map, List.getElem?_eq_getElem hj]; rfl
      refine ⟨_, rfl, _, rfl, a, _, _, _, rfl, rfl, hS, atI_nat ej, _, rfl, ?_⟩
      refine ⟨_, rfl, .inl ⟨_, rfl, _, _, rfl, rfl, (by show (0 : Int) < 2147483629; decide), _, _, rfl, rfl, .inr ⟨by decide, by decide⟩, _, rfl, _, rfl, _, _, rfl, rfl, .inl ⟨by decide, by decide⟩, _, _, rfl, rfl, _, _, rfl, rfl, .inl ⟨by decide, by decide⟩, _, _, rfl, rfl, .inl ⟨_, rfl, _, _, rfl, rfl, (by show (0 : Int) < 2147483629; decide), _, _, rfl, rfl, ?_⟩⟩⟩
      refine ⟨_, rfl, (by decide : 2 ≤ sizeLine), fun q hq => ⟨_, rfl, _, _, rfl, rfl, ⟨by decide, by decide, by decide⟩, _, _, rfl, rfl, .inr ⟨_, rfl, ?_⟩⟩⟩
      refine ⟨q, _, _, _, rfl, rfl, SqL.of upd_same, (two_at _ _).choose_spec, _, rfl, (by decide : 3 ≤ sizeLine), fun p hp => ?_⟩
      have npq : p ≠ q := fun z => by rw [z, upd_same] at hp; cases hp
      have hp0 : H p = none := by rw [upd_ne npq] at hp; exact hp
      refine k _ p (fun b o z => ?_) hp0 ⟨_, _, _, upd_same⟩
      rw [upd_ne (ne_of_none z hp0), upd_ne (ne_of_none z hq)]
      exact z
    · refine ⟨_, rfl, _, _, rfl, .inl ⟨_, hS, rfl⟩, _, _, rfl, rfl, _, rfl, ite2 (fun h2 => ?_) (fun h2 => ?_)⟩
      · have h2' : (0 : Int) < ((ns.map V.int).length : Int) := of_decide_eq_true h2
        have m0 := Int.emod_nonneg i (b := ((ns.map V.int).length : Int)) (by omega)
        have m1 := Int.emod_lt_of_pos i h2'
        obtain ⟨j, ej0⟩ : ∃ j : Nat, i % ((ns.map V.int).length : Int) = (j : Int) := ⟨(i % ((ns.map V.int).length : Int)).toNat, by omega⟩
        have hj : j < ns.length := by omega
        have ej : (ns.map V.int)[j]? = some (V.int ns[j]) := by rw [List.getElem?_map, List.getElem?_eq_getElem hj]; rfl
        refine ⟨_, rfl, _, rfl, _, rfl, .inl ⟨_, rfl, _, rfl, _, _, rfl, .inl ⟨_, hS, rfl⟩, _, _, rfl, rfl, h2', a, _, _, _, rfl, rfl, hS, (by rw [ej0]; exact atI_nat ej), _, rfl, .inl ⟨_, rfl, _, _, rfl, rfl, (by show (0 : Int) < 2147483629; decide), _, _, rfl, rfl, .inr ⟨by decide, by decide⟩, _, _, rfl, rfl, ?_⟩⟩⟩
        refine ⟨_, rfl, .inl ⟨_, rfl, _, _, rfl, rfl, (by show (0 : Int) < 2147483629; decide), _, _, rfl, rfl, .inr ⟨by decide, by decide⟩, _, rfl, _, rfl, _, _, rfl, rfl, .inl ⟨by decide, by decide⟩, _, _, rfl, rfl, _, _, rfl, rfl, .inl ⟨by decide, by decide⟩, _, _, rfl, rfl, .inl ⟨_, rfl, _, _, rfl, rfl, (by show (0 : Int) < 2147483629; decide), _, _, rfl, rfl, ?_⟩⟩⟩
        refine ⟨_, rfl, (by decide : 2 ≤ sizeLine), fun q hq => ⟨_, rfl, _, _, rfl, rfl, ⟨by decide, by decide, by decide⟩, _, _, rfl, rfl, .inr ⟨_, rfl, ?_⟩⟩⟩
        refine ⟨q, _, _, _, rfl, rfl, SqL.of upd_same, (two_at _ _).choose_spec, _, rfl, (by decide : 3 ≤ sizeLine), fun p hp => ?_⟩
        have npq : p ≠ q := fun z => by rw [z, upd_same] at hp; cases hp
        have hp0 : H p = none := by rw [upd_ne npq] at hp; exact hp
        refine k _ p (fun b o z => ?_) hp0 ⟨_, _, _, upd_same⟩
        rw [upd_ne (ne_of_none z hp0), upd_ne (ne_of_none z hq)]
        exact z
      · show tSeq _ _ _ _ _
        refine ⟨_, rfl, .inl ⟨_, rfl, _, _, rfl, rfl, (by show (0 : Int) < 2147483629; decide), _, _, rfl, rfl, .inr ⟨by decide, by decide⟩, _, rfl, _, rfl, _, _, rfl, rfl, .inl ⟨by decide, by decide⟩, _, _, rfl, rfl, _, _, rfl, rfl, .inl ⟨by decide, by decide⟩, _, _, rfl, rfl, .inl ⟨_, rfl, _, _, rfl, rfl, (by show (0 : Int) < 2147483629; decide), _, _, rfl, rfl, ?_⟩⟩⟩
        refine ⟨_, rfl, (by decide : 2 ≤ sizeLine), fun q hq => ⟨_, rfl, _, _, rfl, rfl, ⟨by decide, by decide, by decide⟩, _, _, rfl, rfl, .inr ⟨_, rfl, ?_⟩⟩⟩
        refine ⟨q, _, _, _, rfl, rfl, SqL.of upd_same, (two_at _ _).choose_spec, _, rfl, (by decide : 3 ≤ sizeLine), fun p hp => ?_⟩
        have npq : p ≠ q := fun z => by rw [z, upd_same] at hp; cases hp
        have hp0 : H p = none := by rw [upd_ne npq] at hp; exact hp
        refine k _ p (fun b o z => ?_) hp0 ⟨_, _, _, upd_same⟩
        rw [upd_ne (ne_of_none z hp0), upd_ne (ne_of_none z hq)]
        exact z
/-- but for the box all stands as before -/
def But (b : Addr) (H H' : Hp) : Prop := ∀ a o, a ≠ b → H a = some o → H' a = some o
theorem But.trans {b : Addr} {H H1 H2 : Hp} (s : But b H H1) (t : But b H1 H2) : But b H H2 := fun a o n z => t a o n (s a o n z)
theorem But.upd' {b : Addr} {H : Hp} {o : HO} : But b H (upd H b o) := fun a u n z => by rw [upd_ne n]; exact z
theorem Same.but {b : Addr} {H H' : Hp} (s : Same H H') : But b H H' := fun a o _ z => s a o z
theorem Box.keep {b : Addr} {H H' : Hp} (s : Same H H') (h : Box H b) : Box H' b := by
  obtain ⟨x, y, z, h⟩ := h
  exact ⟨x, y, z, s _ _ h⟩
theorem Box.upd' {b : Addr} {H : Hp} {x y z : Int} : Box (upd H b (.lst [.int x, .int y, .int z])) b := ⟨x, y, z, upd_same⟩
abbrev s_law_small : Stmt := top 39
abbrev n_law_small : List Str := ["_law_box_here"]
theorem sc_law_small : FnScope n_law_small ["_law_box_here"] (defScope s_law_small) := ⟨rfl, rfl, rfl, by decide +kernel, rfl, by decide +kernel, by decide +kernel⟩
def spSmall : Sp := fun vs H Q _ => ∃ b : Addr, vs = [.ref b] ∧ Box H b ∧ ∀ (H' : Hp) (d : Int), But b H H' → Box H' b → -4 ≤ d → d ≤ 4 → Q (.int d) H'
theorem ok_small (T : Txt mg) (g_law_take : Has P w K mg base 1 "_law_take" ["_law_box_here", "_law_many"] spTake) (F : DefAt K mg "_law_small" s_law_small ["_law_box_here"]) : Has P w K mg base 2 "_law_small" ["_law_box_here"] spSmall := by
  refine F.has sc_law_small (fun vs H Q E h => ?_) (fun f cdv A outer s H vs Q E hr h => ?_)
  · obtain ⟨b, rfl, _⟩ := h
    rfl
  · obtain ⟨b, rfl, hb, k⟩ := h
    refine ⟨_, (pss_one (ps_ret (pe_op op_sub (pe_callHas g_law_take (hr.mono (by decide)) rfl (pa_cons (pv 0) (pa_cons pe_int pa_nil))) pe_int))), ?_⟩
    refine ⟨_, rfl, b, 9, rfl, hb, by decide, by decide, fun d x y z d0 d1 => ⟨_, _, rfl, rfl, k _ _ But.upd' Box.upd' (by omega) (by omega)⟩⟩
abbrev s_law_number : Stmt := top 38
abbrev n_law_number : List Str := ["_law_box_here", "_law_most"]
theorem sc_law_number : FnScope n_law_number ["_law_box_here"] (defScope s_law_number) := ⟨rfl, rfl, rfl, by decide +kernel, rfl, by decide +kernel, by decide +kernel⟩
def spNumber : Sp := fun vs H Q _ => ∃ b : Addr, vs = [.ref b] ∧ Box H b ∧ ∀ (H' : Hp) (d : Int), But b H H' → Box H' b → -1000000000 ≤ d → d ≤ 1000000000 → Q (.int d) H'
theorem ok_number (T : Txt mg) (g_law_take : Has P w K mg base 1 "_law_take" ["_law_box_here", "_law_many"] spTake) (F : DefAt K mg "_law_number" s_law_number ["_law_box_here"]) : Has P w K mg base 2 "_law_number" ["_law_box_here"] spNumber := by
  refine F.has sc_law_number (fun vs H Q E h => ?_) (fun f cdv A outer s H vs Q E hr h => ?_)
  · obtain ⟨b, rfl, _⟩ := h
    rfl
  · obtain ⟨b, rfl, hb, k⟩ := h
    refine ⟨_, (pss_cons (ps_set (i := 1) sc_law_number.nd rfl (Or.inl rfl) (pe_ix ix_list (pe_lst (pa_cons pe_int (pa_cons pe_int (pa_cons pe_int (pa_cons pe_int (pa_cons pe_int (pa_cons pe_int pa_nil))))))) (pe_callHas g_law_take (hr.mono (by decide)) rfl (pa_cons (pv 0) (pa_cons pe_int pa_nil))) (fun _ _ => rfl)))
      (pss_one (ps_ret (pe_op op_sub (pe_callHas g_law_take (hr.mono (by decide)) rfl (pa_cons (pv 0) (pa_cons (pe_op op_add (pe_op op_mul pe_int (pv 1)) pe_int) pa_nil))) (pv 1))))), ?_⟩
    refine ⟨(by decide : 6 ≤ sizeLine), fun l hl => ?_⟩
    obtain ⟨s1, hl1⟩ := new_at (o := .lst [.int 3, .int 3, .int 9, .int 9, .int 40, .int 999999999]) hl
    have nlb : l ≠ b := by
      obtain ⟨x, y, z, h⟩ := hb
      exact (ne_of_none h hl).symm
    refine ⟨_, rfl, b, 6, rfl, hb.keep s1, by decide, by decide, fun d x y z d0 d1 => ?_⟩
    obtain ⟨j, rfl⟩ : ∃ j : Nat, d = (j : Int) := ⟨d.toNat, by omega⟩
    obtain ⟨m, em, m0, m1⟩ : ∃ m : Int, ([.int 3, .int 3, .int 9, .int 9, .int 40, .int 999999999] : List V)[j]? = some (.int m) ∧ 0 ≤ m ∧ m ≤ 999999999 := by
      match j, d1 with
      | 0, _ => exact ⟨_, rfl, by decide, by decide⟩
      | 1, _ => exact ⟨_, rfl, by decide, by decide⟩
      | 2, _ => exact ⟨_, rfl, by decide, by decide⟩
      | 3, _ => exact ⟨_, rfl, by decide, by decide⟩
      | 4, _ => exact ⟨_, rfl, by decide, by decide⟩
      | 5, _ => exact ⟨_, rfl, by decide, by decide⟩
      | n + 6, h => exact absurd h (by omega)
    refine ⟨l, _, _, _, rfl, rfl, SqL.of ((upd_ne nlb).trans hl1), atI_nat em, ?_⟩
    refine ⟨_, rfl, _, rfl, _, _, rfl, rfl, .inl ⟨by decide, by decide⟩, _, _, rfl, rfl, b, 2 * m + 1, rfl, Box.upd', by omega, by omega, fun d' x' y' z' d0' d1' => ⟨_, rfl, _, _, rfl, rfl, ?_⟩⟩
    exact k _ _ ((Same.but s1).trans (But.upd'.trans But.upd')) Box.upd' (by omega) (by omega)
end
end K06

namespace K06
open PySem L2 RZ Lat
section
variable {P : Program} {w : World} {K : PySem.W.Frag} {mg : Str → Option Value} {base : Heap}
/-- entries within -B .. B -/
def Within (B : Int) (v : Vec) : Prop := ∀ n ∈ v, -B ≤ n ∧ n ≤ B
def RowMid (b l : Addr) (n m i : Nat) (H1 : Hp) : St → Hp → Prop := fun σ H' => ∃ (ρ : Addr) (u : Vec) (x7 x8 x9 x10 x11 x12 : Option V),
  σ = [some (.ref b), some (.int ((n : Nat) : Int)), some (.int ((m : Nat) : Int)), some (.bl false), some (.ref l), some (.int (0 + ((i : Nat) : Int))), some (.ref ρ), x7, x8, x9, x10, x11, x12] ∧ But b H1 H' ∧ Box H' b ∧ ρ ≠ b ∧ H' ρ = some (.lst (u.map V.int)) ∧ u.length = n ∧ Within (4 + 8 * ((i : Nat) : Int)) u
theorem rep_zero : ∀ n : Nat, (List.replicate n [V.int 0]).flatten = (List.replicate n (0 : Int)).map V.int
  | 0 => rfl
  | n + 1 => by rw [List.replicate_succ, List.flatten_cons, rep_zero n, List.replicate_succ, List.map_cons]; rfl
theorem but_new {b p : Addr} {H : Hp} {o : HO} (h : H p = none) : But b H (upd H p o) := fun a u _ z => (new_at h).1 a u z
theorem Box.ne {b p : Addr} {H : Hp} (h : Box H b) (hp : H p = none) : p ≠ b := by
  obtain ⟨x, y, z, h⟩ := h
  exact (ne_of_none h hp).symm
theorem Box.new {b p : Addr} {H : Hp} {o : HO} (h : Box H b) (hp : H p = none) : Box (upd H p o) b := h.keep (new_at hp).1
theorem Rows.but {b : Addr} {H H' : Hp} {n : Nat} {as : List V} {vs : List Vec} (hb : Box H b) (s : But b H H') (h : Rows H n as vs) : Rows H' n as vs :=
  ⟨Paired.mapP h.1 fun x v z => by
    obtain ⟨a, e, q⟩ := z
    obtain ⟨x1, y1, z1, hb⟩ := hb
    exact ⟨a, e, s _ _ (ne_of q hb fun y => nomatch y) q⟩, h.2⟩
abbrev s_law_rows : Stmt := top 40
abbrev n_law_rows : List Str := ["_law_box_here", "_law_width", "_law_many", "_law_is_great", "_law_found", "_law_turn", "_law_row", "_law_first", "_law_last", "_law_at", "_law_here", "_law_there", "_law_number_here"]
theorem sc_law_rows : FnScope n_law_rows ["_law_box_here", "_law_width", "_law_many", "_law_is_great"] (defScope s_law_rows) := ⟨rfl, rfl, rfl, by decide +kernel, rfl, by decide +kernel, by decide +kernel⟩
def spRows : Sp := fun vs H Q _ => ∃ (b : Addr) (n m : Nat), vs = [.ref b, .int ((n : Nat) : Int), .int ((m : Nat) : Int), .bl false] ∧ Box H b ∧ 1 ≤ n ∧ n ≤ 12 ∧ m ≤ 12 ∧
  ∀ (H' : Hp) (l : Addr) (as : List V) (rs : List Vec), l ≠ b → H l = none → But b H H' → Box H' b → H' l = some (.lst as) → Rows H' n as rs → rs.length = m → (∀ r ∈ rs, Within (4 + 8 * (m : Int)) r) → Q (.ref l) H'
theorem ok_rows (T : Txt mg) (g_law_take : Has P w K mg base 1 "_law_take" ["_law_box_here", "_law_many"] spTake) (g_law_small : Has P w K mg base 2 "_law_small" ["_law_box_here"] spSmall) (g_law_number : Has P w K mg base 2 "_law_number" ["_law_box_here"] spNumber)
    (F : DefAt K mg "_law_rows" s_law_rows ["_law_box_here", "_law_width", "_law_many", "_law_is_great"]) : Has P w K mg base 3 "_law_rows" ["_law_box_here", "_law_width", "_law_many", "_law_is_great"] spRows := by
  refine F.has sc_law_rows (fun vs H Q E h => ?_) (fun f cdv A outer s H vs Q E hr h => ?_)
  · obtain ⟨b, n, m, rfl, _⟩ := h
    rfl
  · obtain ⟨b, n, m, rfl, hb, n1, n2, m2, k⟩ := h
    have hu := hr.units
    refine ⟨_, (pss_cons (ps_set (i := 4) sc_law_rows.nd rfl (Or.inl rfl) (pe_lst pa_nil))
      (pss_cons (ps_for PassesOwn.never rfl (pi_range1 rfl T.z_range (pa_cons (pv 2) pa_nil)) (pg_name (i := 5) sc_law_rows.nd rfl (Or.inl rfl)) (pss_cons (ps_setLc (i := 6) (own := [("_law_at", 9)]) (g := gName 9) (by rfl) sc_law_rows.nd rfl rfl (sw_true rfl rfl rfl (by decide +kernel)) (pi_range1 rfl T.z_range (pa_cons (pv 1) pa_nil)) (blkOk_by (own := [("_law_at", 9)]) (N := n_law_rows) (sc := defScope s_law_rows) (by decide +kernel)) (fun _ _ _ _ _ => (pg_name (i := 9) sc_law_rows.nd rfl (Or.inl rfl))) (fun _ _ _ _ _ => pts_nil) (fun _ _ _ _ _ => (pe_ifExp (pt_val (pv 3)) (pe_callHas g_law_number (hr.mono (by decide)) rfl (pa_cons (pv 0) pa_nil)) (pe_callHas g_law_small (hr.mono (by decide)) rfl (pa_cons (pv 0) pa_nil)))))
      (C8.pss_cut (ps_if (PW.pt (pw_and (pt_cmpR op_gt (pe_callB call_len (by rfl) T.z_len (by decide +kernel) (pa_cons (pv 4) pa_nil)) pe_int (nomark _)) (pw_and1 (pt_cmpR op_eq (pe_callHas g_law_take (hr.mono (by decide)) rfl (pa_cons (pv 0) (pa_cons pe_int pa_nil))) pe_int (nomark _))))) (pss_cons (ps_par (i := 7) (j := 8) (by rfl) sc_law_rows.nd rfl rfl (by decide) rfl rfl (pa_cons (pe_ix ix_list (pv 4) pe_int (fun _ _ => rfl)) (pa_cons (pe_ix ix_list (pv 4) (pe_op op_sub (pe_callB call_len (by rfl) T.z_len (by decide +kernel) (pa_cons (pv 4) pa_nil)) pe_int) (fun _ _ => rfl)) pa_nil)) (by rfl))
      (pss_one (ps_setLc (i := 6) (own := [("_law_here", 10), ("_law_there", 11)]) (g := gTup K 2 (gCons (gName 10) (gCons (gName 11) gNil))) (by rfl) sc_law_rows.nd rfl rfl (sw_true rfl rfl rfl (by decide +kernel)) (pi_zipA (by rfl) T.z_zip (pa_cons (pv 7) (pa_cons (pv 8) pa_nil))) (blkOk_by (own := [("_law_here", 10), ("_law_there", 11)]) (N := n_law_rows) (sc := defScope s_law_rows) (by decide +kernel)) (fun _ _ _ _ _ => (pg_tup rfl (pgs_cons (pg_name (i := 10) sc_law_rows.nd rfl (Or.inl rfl)) (pgs_cons (pg_name (i := 11) sc_law_rows.nd rfl (Or.inl rfl)) pgs_nil)))) (fun _ _ _ _ _ => pts_nil) (fun _ _ _ _ _ => (pe_op op_sub (pe_op op_mul pe_int (pv 10)) (pv 11)))))) pss_nil)
      (C8.pss_cut (ps_if (pt_cmpR op_eq (pe_callHas g_law_take (hr.mono (by decide)) rfl (pa_cons (pv 0) (pa_cons pe_int pa_nil))) pe_int (nomark _)) (pss_one (ps_set (i := 6) sc_law_rows.nd rfl (Or.inl rfl) (pe_op op_rep (pe_lst (pa_cons pe_int pa_nil)) (pv 1)))) pss_nil)
      (C8.pss_cut (ps_if (pt_cmpR (op_neD hu) (pe_lc (own := [("_law_number_here", 12)]) (g := gName 12) (by rfl) sc_law_rows.nd (pi_list (pv 6)) (blkOk_by (own := [("_law_number_here", 12)]) (N := n_law_rows) (sc := defScope s_law_rows) (by decide +kernel)) (fun _ _ _ _ _ => (pg_name (i := 12) sc_law_rows.nd rfl (Or.inl rfl))) (fun _ _ _ _ _ => (pts_one (pt_cmpR op_gt (pe_callB call_abs (by rfl) T.z_abs (by decide +kernel) (pa_cons (pv 12) pa_nil)) pe_int (nomark _)))) (fun _ _ _ _ _ => (pv 12))) (pe_lst pa_nil) (nomark _)) (pss_one (ps_setLc (i := 6) (own := [("_law_at", 9)]) (g := gName 9) (by rfl) sc_law_rows.nd rfl rfl (sw_true rfl rfl rfl (by decide +kernel)) (pi_range1 rfl T.z_range (pa_cons (pv 1) pa_nil)) (blkOk_by (own := [("_law_at", 9)]) (N := n_law_rows) (sc := defScope s_law_rows) (by decide +kernel)) (fun _ _ _ _ _ => (pg_name (i := 9) sc_law_rows.nd rfl (Or.inl rfl))) (fun _ _ _ _ _ => pts_nil) (fun _ _ _ _ _ => (pe_callHas g_law_small (hr.mono (by decide)) rfl (pa_cons (pv 0) pa_nil))))) pss_nil)
      (pss_one (ps_expr (pe_bm PySem.F.plainAttrs_list PySem.F.slot_list_append PySem.F.type_list_append mt_append (pv 4) (pa_cons (pe_callTy call_tuple_of (by rfl) T.z_tuple (by decide +kernel) (pa_cons (pv 6) pa_nil)) pa_nil)))))))))
      (pss_one (ps_ret (pv 4))))), ?_⟩
    refine ⟨Nat.zero_le _, fun l hl => ?_⟩
    obtain ⟨sl, hl1⟩ := new_at (o := .lst []) hl
    have nlb : l ≠ b := by
      obtain ⟨x, y, z, h⟩ := hb
      exact (ne_of_none h hl).symm
    refine ⟨_, rfl, ((m : Nat) : Int), rfl, by omega, by omega, for_range (lo := 0) (n := m) (fun i σ H' => ∃ (as : List V) (rs : List Vec) (x5 x6 x7 x8 x9 x10 x11 x12 : Option V),
      σ = [some (.ref b), some (.int ((n : Nat) : Int)), some (.int ((m : Nat) : Int)), some (.bl false), some (.ref l), x5, x6, x7, x8, x9, x10, x11, x12] ∧ But b H H' ∧ Box H' b ∧ H' l = some (.lst as) ∧ Rows H' n as rs ∧ rs.length = i ∧ ∀ (j : Nat) (r : Vec), rs[j]? = some r → Within (4 + 8 * ((j : Nat) : Int)) r)
      ⟨[], [], _, _, _, _, _, _, _, _, rfl, Same.but sl, hb.keep sl, hl1, ⟨.nil, fun u hu => nomatch hu⟩, rfl, fun j r e => by simp at e⟩ ?_ ?_⟩
    · rintro i σ H1 hi ⟨as, rs, x5, x6, x7, x8, x9, x10, x11, x12, rfl, sm, hb1, hl2, hrs, lrs, wrs⟩
      -- row = [..]
      refine ⟨_, rfl, ((n : Nat) : Int), rfl, by omega, by omega, fun D hD => lc_range (lo := 0) (n := n) (fun j H' => (∀ x o, x ≠ b → x ≠ D → H1 x = some o → H' x = some o) ∧ Box H' b ∧ ∃ u : Vec, H' D = some (.lst (u.map V.int)) ∧ u.length = j ∧ Within 4 u) ?_ ?_ ?_⟩
      · exact ⟨fun x o _ nD z => by rw [upd_ne nD]; exact z, hb1.new hD, [], upd_same, rfl, fun x hx => nomatch hx⟩
      · rintro j H' hj ⟨kp, hb', u, hD', lu, wu⟩
        refine ⟨rfl, ?_⟩
        refine ⟨_, rfl, _, rfl, ?_⟩
        refine ⟨_, rfl, b, rfl, hb', fun H3 d but3 hb3 d0 d1 => ?_⟩
        have nDb := hb1.ne hD
        refine ⟨_, but3 _ _ nDb hD', by rw [List.length_map, lu]; exact Nat.lt_of_lt_of_le hj (Nat.le_trans n2 (by decide)), fun x o nb nD z => by rw [upd_ne nD]; exact but3 _ _ nb (kp x o nb nD z), ?_, u ++ [d], ?_, by rw [List.length_append, lu]; rfl, ?_⟩
        · obtain ⟨y1, y2, y3, h⟩ := hb3
          exact ⟨y1, y2, y3, by rw [upd_ne nDb.symm]; exact h⟩
        · rw [upd_same, List.map_append]; rfl
        · intro x hx
          rcases List.mem_append.mp hx with hx | hx
          · exact wu x hx
          · rw [List.mem_singleton.mp hx]; omega
      rintro H2 ⟨kp2, hb2, u, hD2, lu, wu⟩
      have nDb := hb1.ne hD
      have but2 : But b H1 H2 := fun x o nb z => kp2 x o nb (ne_of_none z hD) z
      have lmap : as.length = i := hrs.len.trans lrs
      refine ⟨RowMid b l n m i H1, ?_, ?_⟩
      · -- if len(found) > 1 and ..
        have hl3 := but2 _ _ nlb hl2
        refine ⟨_, rfl, _, _, rfl, .inl ⟨_, SqL.of hl3, rfl⟩, _, _, rfl, rfl, _, rfl, ?_⟩
        have wide : Within (4 + 8 * ((i : Nat) : Int)) u := fun x hx => by have := wu x hx; omega
        have no : RowMid b l n m i H1 [some (.ref b), some (.int ((n : Nat) : Int)), some (.int ((m : Nat) : Int)), some (.bl false), some (.ref l), some (.int (0 + ((i : Nat) : Int))), some (.ref D), x7, x8, x9, x10, x11, x12] H2 := ⟨D, u, _, _, _, _, _, _, rfl, but2, hb2, nDb, hD2, lu, wide⟩
        by_cases h1 : (1 : Int) < ((as.length : Nat) : Int)
        · show if decide ((1 : Int) < ((as.length : Nat) : Int)) = true then _ else _
          rw [decide_eq_true h1]
          refine ⟨_, rfl, b, 4, rfl, hb2, by decide, by decide, fun d x y z d0 d1 => ⟨rfl, _, rfl, ?_⟩⟩
          have bu3 : But b H1 (upd H2 b (.lst [.int x, .int y, .int z])) := but2.trans But.upd'
          have hD3 : (upd H2 b (.lst [.int x, .int y, .int z])) D = some (.lst (u.map V.int)) := (upd_ne nDb).trans hD2
          by_cases h0 : d = 0
          · show if decide (V.int d = V.int 0) = true then _ else _
            rw [decide_eq_true (by rw [h0])]
            have hl4 := bu3 _ _ nlb hl2
            have hrs4 := hrs.but hb1 bu3
            obtain ⟨y0, e0⟩ : ∃ y0, as[0]? = some y0 := ⟨_, List.getElem?_eq_getElem (by omega)⟩
            obtain ⟨yl, el⟩ : ∃ yl, as[as.length - 1]? = some yl := ⟨_, List.getElem?_eq_getElem (by omega)⟩
            obtain ⟨a0, r0, f0, rfl, g0, l0⟩ := hrs4.at e0
            obtain ⟨al, rl, fl, rfl, gl, ll⟩ := hrs4.at el
            have w0 := wrs 0 r0 f0
            have wl := wrs (as.length - 1) rl fl
            have ecast : ((as.length : Nat) : Int) - 1 = ((as.length - 1 : Nat) : Int) := by omega
            refine ⟨_, rfl, l, _, _, _, rfl, rfl, SqL.of hl4, atI_nat (j := 0) e0, _, rfl, _, rfl, _, _, rfl, .inl ⟨_, SqL.of hl4, rfl⟩, _, _, rfl, rfl, l, _, _, _, rfl, rfl, SqL.of hl4, (by rw [ecast]; exact atI_nat el), _, _, rfl, ?_⟩
            have ln : min (r0.map V.int).length (rl.map V.int).length = n := by rw [List.length_map, List.length_map, l0, ll, Nat.min_self]
            have la : (List.zipWith (fun p q : Int => 2 * p - q) r0 rl).length = n := by rw [List.length_zipWith, l0, ll, Nat.min_self]
            refine ⟨_, rfl, _, rfl, a0, al, _, _, rfl, .inr ⟨SqT.of g0, SqT.of gl, fun E hE => lc_it (walk_zipT (xs := r0.map V.int) (ys := rl.map V.int) ln.symm) (fun j H' => Same (upd H2 b (.lst [.int x, .int y, .int z])) H' ∧ H' E = some (.lst (((List.zipWith (fun p q : Int => 2 * p - q) r0 rl).take j).map V.int))) ?_ ?_ ?_ ?_⟩⟩
            · exact ⟨(new_at hE).1, upd_same⟩
            · exact fun j H' _ q => ⟨SqT.of (q.1 _ _ g0), SqT.of (q.1 _ _ gl)⟩
            · rintro j x' H' H'' hj ⟨sm', hE'⟩ ⟨q, y1, y2, rfl, hq, rfl, e1, e2⟩
              obtain ⟨p1, ep1, rfl⟩ := map_at e1
              obtain ⟨p2, ep2, rfl⟩ := map_at e2
              refine ⟨q, _, rfl, SqT.of upd_same, rfl, _, _, rfl, _, _, rfl, rfl, rfl, ?_⟩
              refine ⟨_, rfl, _, _, rfl, rfl, .inl ⟨by decide, by decide⟩, _, rfl, _, _, rfl, rfl, ?_⟩
              have nEq : E ≠ q := ne_of_none hE' hq
              refine ⟨_, (upd_ne nEq).trans hE', by rw [List.length_map, List.length_take]; exact Nat.lt_of_le_of_lt (Nat.le_trans (Nat.min_le_right _ _) (la ▸ n2)) (by decide), fun x' o z' => ?_, ?_⟩
              · rw [upd_ne (ne_of_none z' hE)]
                exact (new_at hq).1 _ _ (sm' _ _ z')
              · rw [upd_same, take_snoc (n := 2 * p1 - p2)]
                rw [List.getElem?_zipWith, ep1, ep2]
            · rintro H5 ⟨sm', hE'⟩
              rw [take_all la] at hE'
              have hbx : Box (upd H2 b (.lst [.int x, .int y, .int z])) b := Box.upd'
              refine ⟨E, _, _, _, _, _, _, _, rfl, bu3.trans (Same.but sm'), hbx.keep sm', hbx.ne hE, hE', la, ?_⟩
              intro v hv
              obtain ⟨j, hj, ev⟩ := List.mem_iff_getElem.mp hv
              rw [List.getElem_zipWith] at ev
              have q1 := w0 _ (List.getElem_mem (l := r0) (by rw [List.length_zipWith] at hj; omega : j < r0.length))
              have q2 := wl _ (List.getElem_mem (l := rl) (by rw [List.length_zipWith] at hj; omega : j < rl.length))
              omega
          · show if decide (V.int d = V.int 0) = true then _ else _
            rw [decide_eq_false (fun z' => h0 (V.int.inj z'))]
            exact ⟨D, u, _, _, _, _, _, _, rfl, bu3, Box.upd', nDb, hD3, lu, wide⟩
        · show if decide ((1 : Int) < ((as.length : Nat) : Int)) = true then _ else _
          rw [decide_eq_false h1]
          exact no
      · -- if take(8) == 0: row = [0] * width
        rintro σ3 H3 ⟨ρ, u3, x7, x8, x9, x10, x11, x12, rfl, bu3, hb3, nρ, hρ, lu3, wu3⟩
        refine ⟨RowMid b l n m i H1, ?_, ?_⟩
        · refine ⟨_, rfl, b, 8, rfl, hb3, by decide, by decide, fun d x y z d0 d1 => ⟨rfl, _, rfl, ?_⟩⟩
          have bu4 : But b H1 (upd H3 b (.lst [.int x, .int y, .int z])) := bu3.trans But.upd'
          have hbx : Box (upd H3 b (.lst [.int x, .int y, .int z])) b := Box.upd'
          by_cases h0 : d = 0
          · show if decide (V.int d = V.int 0) = true then _ else _
            rw [decide_eq_true (by rw [h0])]
            refine ⟨(by decide : 1 ≤ sizeLine), fun q hq => ?_⟩
            refine ⟨_, rfl, q, ((n : Nat) : Int), _, rfl, rfl, upd_same, by omega, by omega, by show 1 * ((n : Nat) : Int).toNat ≤ sizeLine; rw [Int.toNat_natCast, Nat.one_mul]; exact Nat.le_trans n2 (by decide), fun D3 hD3 => ?_⟩
            have hb4 := hbx.new (o := .lst [.int 0]) hq
            rw [Int.toNat_natCast, rep_zero]
            refine ⟨D3, List.replicate n 0, _, _, _, _, _, _, rfl, (bu4.trans (but_new hq)).trans (but_new hD3), hb4.new hD3, hb4.ne hD3, upd_same, List.length_replicate .., fun v hv => ?_⟩
            rw [(List.mem_replicate.mp hv).2]; omega
          · show if decide (V.int d = V.int 0) = true then _ else _
            rw [decide_eq_false (fun z' => h0 (V.int.inj z'))]
            exact ⟨ρ, u3, _, _, _, _, _, _, rfl, bu4, hbx, nρ, (upd_ne nρ).trans hρ, lu3, wu3⟩
        · -- if [..] != []
          rintro σ4 H4 ⟨ρ, u4, x7, x8, x9, x10, x11, x12, rfl, bu4, hb4, nρ4, hρ4, lu4, wu4⟩
          refine ⟨RowMid b l n m i H1, ?_, ?_⟩
          · refine ⟨_, rfl, ρ, rfl, ⟨_, SqL.of hρ4⟩, fun D4 hD4 => lc_it (walk_list (xs := u4.map V.int)) (fun j H' => Same H4 H' ∧ H' D4 = some (.lst [])) ?_ ?_ ?_ ?_⟩
            · exact ⟨(new_at hD4).1, upd_same⟩
            · exact fun j H' _ q => SqL.of (q.1 _ _ hρ4)
            · rintro j x' H' H'' hj ⟨sm', hD'⟩ ⟨rfl, e1⟩
              obtain ⟨v, ev, rfl⟩ := map_at e1
              have wv := wu4 v (List.mem_of_getElem? ev)
              refine ⟨rfl, ?_⟩
              refine ⟨_, rfl, _, rfl, _, _, rfl, rfl, _, rfl, ?_⟩
              have hno : ¬ ((999999999 : Int) < (if v < 0 then -v else v)) := by split <;> omega
              show if decide ((999999999 : Int) < (if v < 0 then -v else v)) = true then _ else _
              rw [decide_eq_false hno]
              exact ⟨sm', hD'⟩
            · rintro H5 ⟨sm', hD'⟩
              refine ⟨Nat.zero_le _, fun D5 hD5 => ?_⟩
              obtain ⟨s5, h5⟩ := new_at (o := .lst []) hD5
              refine ⟨.list [], .list [], .lst (SqL.of (s5 _ _ hD')) .nil, .lst (SqL.of h5) .nil, by decide +kernel, by decide +kernel, _, rfl, ?_⟩
              have e6 : (!PyData.eqv (.list []) (.list [])) = false := by decide +kernel
              show if (!PyData.eqv (.list []) (.list [])) = true then _ else _
              rw [e6]
              have s45 := sm'.trans s5
              exact ⟨ρ, u4, _, _, _, _, _, _, rfl, bu4.trans (Same.but s45), hb4.keep s45, nρ4, s45 _ _ hρ4, lu4, wu4⟩
          · -- found.append(tuple(row))
            rintro σ5 H5 ⟨ρ, u5, x7, x8, x9, x10, x11, x12, rfl, bu5, hb5, nρ5, hρ5, lu5, wu5⟩
            have hl5 := bu5 _ _ nlb hl2
            refine ⟨_, rfl, .inl ⟨rfl, _, SqL.of hl5⟩, _, rfl, _, _, rfl, .inl ⟨SqL.of hρ5, fun t ht => ?_⟩⟩
            obtain ⟨s6, ht6⟩ := new_at (o := .tup (u5.map V.int)) ht
            have hl6 := s6 _ _ hl5
            refine ⟨l, _, _, rfl, rfl, hl6, by rw [lmap]; exact Nat.lt_of_lt_of_le hi (Nat.le_trans m2 (by decide)), ?_⟩
            have bu6 : But b H1 (upd H5 t (.tup (u5.map V.int))) := bu5.trans (Same.but s6)
            refine ⟨as ++ [.ref t], rs ++ [u5], _, _, _, _, _, _, _, _, rfl, fun x o nb z => ?_, ?_, upd_same, Rows.snoc (Rows.lst_up hl6 (hrs.but hb1 bu6)) (V_up hl6 ht6) lu5, by rw [List.length_append, lrs]; rfl, fun j r e => ?_⟩
            · rw [upd_ne (ne_of_none z hl)]
              exact bu6 _ _ nb (sm _ _ nb z)
            · obtain ⟨y1, y2, y3, h⟩ := hb5.keep s6
              exact ⟨y1, y2, y3, (upd_ne nlb.symm).trans h⟩
            · by_cases hj : j < rs.length
              · rw [List.getElem?_append_left hj] at e
                exact wrs j r e
              · rw [List.getElem?_append_right (by omega)] at e
                have hj0 : j - rs.length = 0 := by
                  have := (List.getElem?_eq_some_iff.mp e).1
                  simp at this
                  omega
                rw [hj0] at e
                have er : u5 = r := Option.some.inj e
                have ej : j = i := by omega
                subst er ej
                exact wu5
    · rintro σ H1 ⟨as, rs, x5, x6, x7, x8, x9, x10, x11, x12, rfl, sm, hb1, hl2, hrs, lrs, wrs⟩
      refine ⟨_, rfl, k _ l as rs nlb hl sm hb1 hl2 hrs lrs fun r hr' => ?_⟩
      obtain ⟨j, hj, ev⟩ := List.mem_iff_getElem.mp hr'
      intro x hx
      have := wrs j r (by rw [List.getElem?_eq_getElem hj, ev]) x hx
      omega
end
end K06

namespace K06
open PySem L2 RZ Lat
/-! ## sizes -/
theorem p2le {a b : Nat} (h : a ≤ b) : 2 ^ a ≤ 2 ^ b := Nat.pow_le_pow_right (by decide) h
theorem p2lt {a b : Nat} (h : a < b) : 2 ^ a < 2 ^ b := Nat.pow_lt_pow_right (by decide) h
theorem log_lt {j α k : Nat} (h0 : j ≠ 0) (h : j ≤ 2 ^ α) (ha : α < k) : j.log2 < k := (Nat.log2_lt h0).mpr (Nat.lt_of_le_of_lt h (p2lt ha))
theorem divz_ok {i j : Int} {α : Nat} (h0 : j ≠ 0) (h : j.natAbs ≤ 2 ^ α) (ha : α < 9000) : CDivZ i j :=
  ⟨h0, PyProof.noPylong_of_log2 (log_lt (Int.natAbs_ne_zero.mpr h0) h ha)⟩
theorem mul_ok {i j : Int} {α β : Nat} (ha : i.natAbs ≤ 2 ^ α) (hb : j.natAbs ≤ 2 ^ β) (h : α + β + 2 ≤ 134217728) : CMulX i j :=
  mulx_ok (a := α + 1) (b := β + 1) (Nat.lt_of_le_of_lt ha (p2lt (Nat.lt_succ_self _))) (Nat.lt_of_le_of_lt hb (p2lt (Nat.lt_succ_self _))) (by omega)
theorem fdiv_absP (a b : Int) (hb : 0 < b) : (a.fdiv b).natAbs ≤ a.natAbs := by
  have h := fdiv_rem a b hb
  generalize a.fdiv b = q at h ⊢
  rcases (by omega : q < 0 ∨ 0 ≤ q) with hq | hq
  · have h1 := Int.mul_le_mul_of_nonneg_left (show (1 : Int) ≤ b by omega) (show 0 ≤ -(q + 1) by omega)
    have h2 : -(q + 1) * b = -(q * b) - b := by grind
    rw [h2] at h1
    omega
  · have h1 := Int.mul_le_mul_of_nonneg_left (show (1 : Int) ≤ b by omega) hq
    omega
theorem fdiv_abs (a b : Int) (hb : b ≠ 0) : (a.fdiv b).natAbs ≤ a.natAbs := by
  rcases Int.lt_or_gt_of_ne hb with h | h
  · have := fdiv_absP (-a) (-b) (by omega)
    rw [Int.neg_fdiv_neg, Int.natAbs_neg] at this
    exact this
  · exact fdiv_absP a b h
theorem mem_itm {v : Vec} {m : Int} (h : m ∈ v) : ∃ i, itm v i = m := by
  obtain ⟨i, hi, e⟩ := List.mem_iff_getElem.mp h
  refine ⟨i, ?_⟩
  have := itm_of hi
  rw [List.getElem?_eq_getElem hi, e] at this
  exact (Option.some.inj this).symm
theorem redV_size {n π β : Nat} (hπ : π < 9000) : ∀ {c : Nat} {B : List Vec} {v : Vec} {ξ : Nat}, Ech n c B → v.length = n → (∀ s ∈ B, (itm s (piv s)).natAbs ≤ 2 ^ π) → (∀ s ∈ B, ∀ i, (itm s i).natAbs ≤ 2 ^ β) → (∀ i, (itm v i).natAbs ≤ 2 ^ ξ) →
    ξ + B.length * (β + 1) + β + 2 ≤ 134217728 → OkRed B v ∧ ∀ i, (itm (redV B v) i).natAbs ≤ 2 ^ (ξ + B.length * (β + 1))
  | c, [], v, ξ, _, _, _, _, hv, _ => ⟨trivial, fun i => by rw [List.length_nil, Nat.zero_mul]; exact hv i⟩
  | c, r :: rs, v, ξ, e, l, hp, hb, hv, ok => by
    obtain ⟨hp1, hp2⟩ := List.forall_mem_cons.mp hp
    obtain ⟨hb1, hb2⟩ := List.forall_mem_cons.mp hb
    have lr : v.length = r.length := l.trans e.1.symm
    have rn : itm r (piv r) ≠ 0 := e.ne List.mem_cons_self
    have hq := fdiv_abs (itm v (piv r)) (itm r (piv r)) rn
    have hq2 := Nat.le_trans hq (hv (piv r))
    rw [List.length_cons, Nat.add_mul, Nat.one_mul] at ok
    have ih := redV_size hπ (v := addV v (-((itm v (piv r)).fdiv (itm r (piv r)))) r) (ξ := ξ + (β + 1)) e.2.2.2 ((addV_len lr).trans l) hp2 hb2 (fun i => ?_) (by omega)
    · refine ⟨⟨e.1 ▸ e.2.2.1, divz_ok rn hp1 hπ, fun m hm => ?_, ih.1⟩, fun i => ?_⟩
      · obtain ⟨i, rfl⟩ := mem_itm hm
        exact mul_ok (α := ξ) (by rw [Int.natAbs_neg]; exact hq2) (hb1 i) (by omega)
      · refine Nat.le_trans (ih.2 i) (p2le ?_)
        rw [List.length_cons, Nat.add_mul, Nat.one_mul]; omega
    · rw [itm_add lr]
      have h1 : (-((itm v (piv r)).fdiv (itm r (piv r))) * itm r i).natAbs ≤ 2 ^ ξ * 2 ^ β := by
        rw [Int.natAbs_mul, Int.natAbs_neg]; exact Nat.mul_le_mul hq2 (hb1 i)
      have h2 := hv i
      have h3 : 2 ^ ξ ≤ 2 ^ ξ * 2 ^ β := Nat.le_mul_of_pos_right _ (Nat.two_pow_pos β)
      have h4 : 2 ^ (ξ + (β + 1)) = 2 ^ ξ * 2 ^ β * 2 := by rw [Nat.pow_add, Nat.pow_succ, Nat.mul_assoc]
      rw [h4]
      have := Int.natAbs_add_le (itm v i) (-((itm v (piv r)).fdiv (itm r (piv r))) * itm r i)
      omega
theorem sign_rem (a b : Int) (hb : b ≠ 0) : (0 ≤ b ∧ 0 ≤ a + -(a.fdiv b) * b) ∨ (b ≤ 0 ∧ a + -(a.fdiv b) * b ≤ 0) := by
  have e : a + -(a.fdiv b) * b = a - a.fdiv b * b := by grind
  rw [e]
  rcases Int.lt_or_gt_of_ne hb with h | h
  · exact .inr ⟨by omega, (fdiv_rem_neg a b h).2⟩
  · exact .inl ⟨by omega, (fdiv_rem a b h).1⟩
theorem euc_any (a b : Int) : (a.fdiv b).natAbs * b.natAbs ≤ a.natAbs + (a + -(a.fdiv b) * b).natAbs := by
  have e : a.fdiv b * b = a - (a + -(a.fdiv b) * b) := by grind
  rw [← Int.natAbs_mul, e]; omega
theorem euc (a b : Int) (hb : b ≠ 0) (hs : (0 ≤ a ∧ 0 ≤ b) ∨ (a ≤ 0 ∧ b ≤ 0)) : (a.fdiv b).natAbs * b.natAbs + (a + -(a.fdiv b) * b).natAbs = a.natAbs := by
  have e : a + -(a.fdiv b) * b = a - a.fdiv b * b := by grind
  rw [← Int.natAbs_mul, e]
  rcases Int.lt_or_gt_of_ne hb with h | h
  · have h1 := fdiv_rem_neg a b h
    generalize a.fdiv b = q at h1 ⊢
    rcases (by omega : q < 0 ∨ 0 ≤ q) with hq | hq
    · have h2 := Int.mul_le_mul_of_nonneg_left (show (1 : Int) ≤ -q by omega) (show 0 ≤ -b by omega)
      have h3 : -b * -q = q * b := by grind
      rw [h3] at h2
      omega
    · have h2 := Int.mul_nonneg hq (show 0 ≤ -b by omega)
      rw [Int.mul_neg] at h2
      omega
  · have h1 := fdiv_rem a b h
    generalize a.fdiv b = q at h1 ⊢
    rcases (by omega : q < 0 ∨ 0 ≤ q) with hq | hq
    · have h2 := Int.mul_le_mul_of_nonneg_left (show (1 : Int) ≤ -q by omega) (show 0 ≤ b by omega)
      have h3 : b * -q = -(q * b) := by grind
      rw [h3] at h2
      omega
    · have h2 := Int.mul_nonneg hq (show 0 ≤ b by omega)
      omega
theorem step_abs {a b : Int} {q : Int} {x y : Nat} (ha : a.natAbs ≤ x) (hb : b.natAbs ≤ y) : (a + -q * b).natAbs ≤ x + q.natAbs * y := by
  have h1 : (-q * b).natAbs ≤ q.natAbs * y := by rw [Int.natAbs_mul, Int.natAbs_neg]; exact Nat.mul_le_mul_left _ hb
  have := Int.natAbs_add_le a (-q * b)
  omega
theorem clr_size {n α χ : Nat} (hα : α < 9000) (hχ : α + χ + 2 ≤ 134217728) : ∀ (m : Nat) (r v : Vec) (i : Nat) (C : Nat → Prop) (Mr Mv X : Nat), r.length = n → v.length = n → itm r i ≠ 0 → ((0 ≤ itm r i ∧ 0 ≤ itm v i) ∨ (itm r i ≤ 0 ∧ itm v i ≤ 0)) →
    (∀ j, C j → (itm r j).natAbs ≤ Mr ∧ (itm v j).natAbs ≤ Mv) → Mr ≤ X → Mv * (itm r i).natAbs + Mr * (itm v i).natAbs ≤ X →
    (∀ j, C j → (itm (clr m r v i).1 j).natAbs ≤ X ∧ (itm (clr m r v i).2 j).natAbs ≤ X) ∧ ((∀ j, C j) → (itm v i).natAbs ≤ m → X ≤ 2 ^ χ → (itm r i).natAbs ≤ 2 ^ α → (itm v i).natAbs ≤ 2 ^ α → OkClr m r v i)
  | 0, r, v, i, C, Mr, Mv, X, lr, lv, h0, hs, hC, hX, hN => by
    have h1 : Mv ≤ Mv * (itm r i).natAbs := Nat.le_mul_of_pos_right _ (Int.natAbs_pos.mpr h0)
    exact ⟨fun j hj => ⟨Nat.le_trans (hC j hj).1 hX, Nat.le_trans (hC j hj).2 (by omega)⟩, fun _ hm _ _ _ => by show itm v i = 0; omega⟩
  | m + 1, r, v, i, C, Mr, Mv, X, lr, lv, h0, hs, hC, hX, hN => by
    have h1 : Mv ≤ Mv * (itm r i).natAbs := Nat.le_mul_of_pos_right _ (Int.natAbs_pos.mpr h0)
    by_cases hv : itm v i = 0
    · have e : clr (m + 1) r v i = (r, v) := by unfold clr; rw [if_pos hv]
      rw [e]
      exact ⟨fun j hj => ⟨Nat.le_trans (hC j hj).1 hX, Nat.le_trans (hC j hj).2 (by omega)⟩, fun _ _ _ _ _ => .inl hv⟩
    · have e : clr (m + 1) r v i = clr m v (addV r (-((itm r i).fdiv (itm v i))) v) i := by rw [clr, if_neg hv]
      have l := lr.trans lv.symm
      have ei := itm_add (t := -((itm r i).fdiv (itm v i))) l i
      have q1 := euc (itm r i) (itm v i) hv hs
      have q2 := sign_rem (itm r i) (itm v i) hv
      have q3 := fdiv_small (itm r i) (itm v i) hv
      rw [← ei] at q1 q2 q3
      have key : (Mr + ((itm r i).fdiv (itm v i)).natAbs * Mv) * (itm v i).natAbs + Mv * (itm (addV r (-((itm r i).fdiv (itm v i))) v) i).natAbs ≤ X := by
        have : (Mr + ((itm r i).fdiv (itm v i)).natAbs * Mv) * (itm v i).natAbs + Mv * (itm (addV r (-((itm r i).fdiv (itm v i))) v) i).natAbs = Mr * (itm v i).natAbs + Mv * (((itm r i).fdiv (itm v i)).natAbs * (itm v i).natAbs + (itm (addV r (-((itm r i).fdiv (itm v i))) v) i).natAbs) := by grind
        rw [this, q1]; omega
      have ih := clr_size hα hχ m v (addV r (-((itm r i).fdiv (itm v i))) v) i C Mv (Mr + ((itm r i).fdiv (itm v i)).natAbs * Mv) X lv ((addV_len l).trans lr) hv q2 (fun j hj => ⟨(hC j hj).2, by rw [itm_add l]; exact step_abs (hC j hj).1 (hC j hj).2⟩) (by omega) key
      rw [e]
      refine ⟨ih.1, fun hall hm hXχ hr hvα => .inr ⟨divz_ok hv hvα hα, fun x hx => ?_, ih.2 hall (by omega) hXχ hvα (by omega)⟩⟩
      obtain ⟨j, rfl⟩ := mem_itm hx
      exact mul_ok (α := α) (β := χ) (by rw [Int.natAbs_neg]; exact Nat.le_trans (fdiv_abs _ _ hv) hr) (Nat.le_trans (hC j (hall j)).2 (by omega)) hχ
theorem clear_size {n α χ : Nat} (hα : α < 9000) (hχ : α + χ + 2 ≤ 134217728) (r v : Vec) (i : Nat) (C : Nat → Prop) (M a : Nat) (lr : r.length = n) (lv : v.length = n) (h0 : itm r i ≠ 0) (a1 : 1 ≤ a) (ha : (itm r i).natAbs ≤ a) (hav : (itm v i).natAbs ≤ a)
    (hC : ∀ j, C j → (itm r j).natAbs ≤ M ∧ (itm v j).natAbs ≤ M) :
    (∀ j, C j → (itm (clear r v i).1 j).natAbs ≤ 4 * M * a ∧ (itm (clear r v i).2 j).natAbs ≤ 4 * M * a) ∧ ((∀ j, C j) → 4 * M * a ≤ 2 ^ χ → a ≤ 2 ^ α → OkClr (itm v i).natAbs r v i) := by
  have hM : M ≤ 4 * M * a := by
    have : 4 * M ≤ 4 * M * a := Nat.le_mul_of_pos_right _ a1
    omega
  unfold clear
  by_cases hv : itm v i = 0
  · have e : (itm v i).natAbs = 0 := by rw [hv]; rfl
    rw [e]
    exact ⟨fun j hj => ⟨Nat.le_trans (hC j hj).1 hM, Nat.le_trans (hC j hj).2 hM⟩, fun _ _ _ => hv⟩
  · obtain ⟨m, em⟩ : ∃ m, (itm v i).natAbs = m + 1 := ⟨(itm v i).natAbs - 1, by omega⟩
    rw [em]
    have e : clr (m + 1) r v i = clr m v (addV r (-((itm r i).fdiv (itm v i))) v) i := by rw [clr, if_neg hv]
    have l := lr.trans lv.symm
    have ei := itm_add (t := -((itm r i).fdiv (itm v i))) l i
    have q1 := euc_any (itm r i) (itm v i)
    have q2 := sign_rem (itm r i) (itm v i) hv
    have q3 := fdiv_small (itm r i) (itm v i) hv
    rw [← ei] at q1 q2 q3
    have key : (M + ((itm r i).fdiv (itm v i)).natAbs * M) * (itm v i).natAbs + M * (itm (addV r (-((itm r i).fdiv (itm v i))) v) i).natAbs ≤ 4 * M * a := by
      have e1 : (M + ((itm r i).fdiv (itm v i)).natAbs * M) * (itm v i).natAbs + M * (itm (addV r (-((itm r i).fdiv (itm v i))) v) i).natAbs = M * ((itm v i).natAbs + ((itm r i).fdiv (itm v i)).natAbs * (itm v i).natAbs + (itm (addV r (-((itm r i).fdiv (itm v i))) v) i).natAbs) := by grind
      have e2 : 4 * M * a = M * (4 * a) := by grind
      rw [e1, e2]
      exact Nat.mul_le_mul_left _ (by omega)
    have ih := clr_size hα hχ m v (addV r (-((itm r i).fdiv (itm v i))) v) i C M (M + ((itm r i).fdiv (itm v i)).natAbs * M) (4 * M * a) lv ((addV_len l).trans lr) hv q2 (fun j hj => ⟨(hC j hj).2, by rw [itm_add l]; exact step_abs (hC j hj).1 (hC j hj).2⟩) hM key
    rw [e]
    refine ⟨ih.1, fun hall hX haα => .inr ⟨divz_ok hv (Nat.le_trans hav haα) hα, fun x hx => ?_, ih.2 hall (by omega) hX (by omega) (by omega)⟩⟩
    obtain ⟨j, rfl⟩ := mem_itm hx
    exact mul_ok (α := α) (β := χ) (by rw [Int.natAbs_neg]; exact Nat.le_trans (fdiv_abs _ _ hv) (Nat.le_trans ha haα)) (Nat.le_trans (hC j (hall j)).2 (by omega)) hχ
end K06

namespace K06
open PySem L2 RZ Lat
def gd : Nat → Nat → Nat → Prop
  | 0, _, _ => True
  | k + 1, α, ξ => α < 9000 ∧ ξ + 2 * α + 4 ≤ 134217728 ∧ gd k (2 * α + 2) (ξ + α + 2)
def fxb : Nat → Nat → Nat → Nat
  | 0, _, ξ => ξ
  | k + 1, α, ξ => fxb k (2 * α + 2) (ξ + α + 2)
theorem fxb_ge : ∀ (k α ξ : Nat), ξ ≤ fxb k α ξ
  | 0, _, _ => Nat.le_refl _
  | k + 1, α, ξ => Nat.le_trans (by omega) (fxb_ge k (2 * α + 2) (ξ + α + 2))
theorem four (α β : Nat) : 4 * 2 ^ β * 2 ^ α = 2 ^ (β + α + 2) := by
  rw [Nat.pow_add, Nat.pow_add, Nat.mul_comm 4, Nat.mul_assoc, Nat.mul_comm 4, ← Nat.mul_assoc]
theorem stepped_size {n : Nat} (C : Nat → Prop) : ∀ {c : Nat} {B : List Vec} {v : Vec} {α ξ : Nat}, Ech n c B → v.length = n → (∀ s ∈ B, C (piv s)) → gd B.length α ξ →
    (∀ s ∈ B, (∀ i, (itm s i).natAbs ≤ 2 ^ ξ) ∧ ∀ i, C i → (itm s i).natAbs ≤ 2 ^ α) → (∀ i, (itm v i).natAbs ≤ 2 ^ ξ) → (∀ i, C i → (itm v i).natAbs ≤ 2 ^ α) →
    OkStep B v ∧ ∀ s ∈ stepped B v, ∀ i, (itm s i).natAbs ≤ 2 ^ fxb B.length α ξ
  | c, [], v, α, ξ, _, _, _, _, _, hv, _ => by
    refine ⟨trivial, ?_⟩
    rw [stepped_nil]
    split
    · exact fun s h => nomatch h
    · exact fun s hs i => by rw [List.mem_singleton.mp hs]; exact hv i
  | c, r :: rs, v, α, ξ, e, l, hp, g, hB, hv, hvC => by
    obtain ⟨hp1, hp2⟩ := List.forall_mem_cons.mp hp
    obtain ⟨hB1, hB2⟩ := List.forall_mem_cons.mp hB
    obtain ⟨g1, g2, g3⟩ := g
    have up : ∀ {x : Nat}, x ≤ 2 ^ ξ → x ≤ 2 ^ (ξ + α + 2) := fun h => Nat.le_trans h (p2le (by omega))
    have upA : ∀ {x : Nat}, x ≤ 2 ^ α → x ≤ 2 ^ (2 * α + 2) := fun h => Nat.le_trans h (p2le (by omega))
    have hB2' : ∀ s ∈ rs, (∀ i, (itm s i).natAbs ≤ 2 ^ (ξ + α + 2)) ∧ ∀ i, C i → (itm s i).natAbs ≤ 2 ^ (2 * α + 2) := fun s hs => ⟨fun i => up ((hB2 s hs).1 i), fun i hi => upA ((hB2 s hs).2 i hi)⟩
    have top := fxb_ge rs.length (2 * α + 2) (ξ + α + 2)
    rw [stepped_cons]
    by_cases h : piv v < piv r
    · rw [if_pos h]
      have ih := stepped_size C (v := r) e.2.2.2 e.1 hp2 g3 hB2' (fun i => up (hB1.1 i)) (fun i hi => upA (hB1.2 i hi))
      exact ⟨⟨e.1 ▸ e.2.2.1, .inl ⟨h, ih.1⟩⟩, List.forall_mem_cons.mpr ⟨fun i => Nat.le_trans (up (hv i)) (p2le top), ih.2⟩⟩
    · rw [if_neg h]
      have rn := e.ne List.mem_cons_self
      have a1 : 1 ≤ 2 ^ α := Nat.two_pow_pos α
      obtain ⟨c1, c2⟩ := clear_len (i := piv r) (e.1.trans l.symm)
      have z1 := clear_size (n := n) (χ := ξ + α + 2) g1 (by omega) r v (piv r) (fun _ => True) (2 ^ ξ) (2 ^ α) e.1 l rn a1 (hB1.2 _ hp1) (hvC _ hp1) (fun j _ => ⟨hB1.1 j, hv j⟩)
      have z2 := clear_size (n := n) (χ := ξ + α + 2) g1 (by omega) r v (piv r) C (2 ^ α) (2 ^ α) e.1 l rn a1 (hB1.2 _ hp1) (hvC _ hp1) (fun j hj => ⟨hB1.2 j hj, hvC j hj⟩)
      rw [four] at z1 z2
      have e2 : α + α + 2 = 2 * α + 2 := by omega
      rw [e2] at z2
      have ih := stepped_size C (v := (clear r v (piv r)).2) e.2.2.2 (c2.trans e.1) hp2 g3 hB2' (fun i => (z1.1 i trivial).2) (fun i hi => (z2.1 i hi).2)
      exact ⟨⟨e.1 ▸ e.2.2.1, .inr ⟨h, z1.2 (fun _ => trivial) (Nat.le_refl _) (Nat.le_refl _), ih.1⟩⟩, List.forall_mem_cons.mpr ⟨fun i => Nat.le_trans (z1.1 i trivial).1 (p2le top), ih.2⟩⟩
theorem tidy_pivs {n : Nat} : ∀ {c : Nat} {B : List Vec}, Ech n c B → ∀ s ∈ tidy B, ∃ r ∈ B, (itm s (piv s)).natAbs = (itm r (piv r)).natAbs
  | c, [], _ => fun s h => nomatch h
  | c, r :: rs, e => by
    have et := tidy_ech e
    have ih := tidy_pivs e.2.2.2
    have lp : (posV r).length = n := (posV_length r).trans e.1
    have pp := posV_piv r (e.1 ▸ e.2.2.1)
    have h' := tidy_ech e.2.2.2
    have lo := redV_low h' lp
    have pe : piv (redV (tidy rs) (posV r)) = piv r := piv_eq (fun i hi => by rw [lo i (by omega), ← Int.natAbs_eq_zero, posV_abs, (piv_spec r).1 i hi]; rfl) (by
      rw [lo _ (by omega)]
      intro q
      have := posV_abs r (piv r)
      rw [q] at this
      exact e.ne List.mem_cons_self (by omega))
    unfold tidy
    intro s hs
    rcases List.mem_cons.mp hs with z | hs
    · refine ⟨r, List.mem_cons_self, ?_⟩
      rw [z, pe, lo _ (by omega), posV_abs]
    · obtain ⟨t, ht, q⟩ := ih s hs
      exact ⟨t, List.mem_cons_of_mem _ ht, q⟩
def tb : Nat → Nat → Nat
  | 0, τ => τ
  | k + 1, τ => tb k τ + τ + k * (tb k τ + 1)
theorem tidy_size {n π τ : Nat} (hπ : π < 9000) : ∀ {c : Nat} {B : List Vec}, Ech n c B → (∀ s ∈ B, (itm s (piv s)).natAbs ≤ 2 ^ π) → (∀ s ∈ B, ∀ i, (itm s i).natAbs ≤ 2 ^ τ) → tb B.length τ + 4 ≤ 134217728 →
    OkTidy B ∧ ∀ s ∈ tidy B, ∀ i, (itm s i).natAbs ≤ 2 ^ tb B.length τ
  | c, [], _, _, _, _ => ⟨trivial, fun s h => nomatch h⟩
  | c, r :: rs, e, hp, hB, g => by
    obtain ⟨hp1, hp2⟩ := List.forall_mem_cons.mp hp
    obtain ⟨hB1, hB2⟩ := List.forall_mem_cons.mp hB
    have g' : tb rs.length τ + τ + rs.length * (tb rs.length τ + 1) + 4 ≤ 134217728 := g
    have ih := tidy_size hπ e.2.2.2 hp2 hB2 (by omega)
    have h' := tidy_ech e.2.2.2
    have lp : (posV r).length = n := (posV_length r).trans e.1
    have cnt : (tidy rs).length = rs.length := tidy_count
    have rz := redV_size hπ (v := posV r) (ξ := τ) h' lp (fun s hs => by
      obtain ⟨t, ht, q⟩ := tidy_pivs e.2.2.2 s hs
      rw [q]; exact hp2 t ht) ih.2 (fun i => by rw [posV_abs]; exact hB1 i) (by rw [cnt]; omega)
    rw [cnt] at rz
    have top : τ + rs.length * (tb rs.length τ + 1) ≤ tb (r :: rs).length τ := by
      show _ ≤ tb rs.length τ + τ + rs.length * (tb rs.length τ + 1)
      omega
    have top2 : tb rs.length τ ≤ tb (r :: rs).length τ := by
      show _ ≤ tb rs.length τ + τ + rs.length * (tb rs.length τ + 1)
      omega
    refine ⟨⟨ih.1, ⟨e.1 ▸ e.2.2.1, fun m hm => ?_⟩, rz.1⟩, ?_⟩
    · obtain ⟨i, rfl⟩ := mem_itm hm
      exact mul_ok (α := 1) (β := τ) (by decide) (hB1 i) (by omega)
    · unfold tidy
      exact List.forall_mem_cons.mpr ⟨fun i => Nat.le_trans (rz.2 i) (p2le top), fun s hs i => Nat.le_trans (ih.2 s hs i) (p2le top2)⟩
/-! ## all along the vectors -/
def gb : Nat → Nat
  | 0 => 0
  | j + 1 => 6 + j * (gb j + 1)
structure Inv (n j : Nat) (B : List Vec) : Prop where
  ech : Ech n 0 B
  count : B.length ≤ j
  redd : Redd B
  ghost : ∃ G, Ech n 0 G ∧ G.length ≤ j ∧ (∀ g ∈ G, In B (itm g)) ∧ (∀ s ∈ B, RIn G (itm s)) ∧ ∀ g ∈ G, ∀ i, (itm g i).natAbs ≤ 2 ^ gb j
theorem Inv.piv {n j : Nat} {B : List Vec} (I : Inv n j B) : ∀ s ∈ B, (itm s (piv s)).natAbs ≤ 2 ^ gb j := by
  obtain ⟨G, eG, _, h1, h2, h3⟩ := I.ghost
  intro s hs
  obtain ⟨g, hg, _, q⟩ := piv_bound I.ech eG h1 h2 s hs
  exact Nat.le_trans q (h3 g hg _)
theorem Inv.all {n j : Nat} {B : List Vec} (I : Inv n j B) : ∀ s ∈ B, ∀ i, (itm s i).natAbs ≤ 2 ^ (gb j + j * (gb j + 2)) := by
  have hp := I.piv
  obtain ⟨G, eG, c, h1, h2, h3⟩ := I.ghost
  intro s hs i
  have sn := I.ech
  have q := all_bound (b := 2 ^ gb j) (A := 2 ^ gb j) (Nat.two_pow_pos _) eG h3 (h2 s hs) (fun g hg => ?_) i
  · refine Nat.le_trans q ?_
    have e1 : 4 * 2 ^ gb j = 2 ^ (gb j + 2) := by rw [Nat.pow_add, Nat.mul_comm]
    rw [e1, ← Nat.pow_mul, ← Nat.pow_add]
    refine p2le ?_
    have := Nat.mul_le_mul_left (gb j + 2) c
    rw [Nat.mul_comm (gb j + 2) j] at this
    omega
  · -- the ghost's pivot is a pivot of the basis
    have gn := eG.ne hg
    rcases lead I.ech (h1 g hg) with z | ⟨t, ht, a, ha, z, y⟩
    · exact absurd (z _) gn
    · have tn := I.ech.ne ht
      have e' : Lat.piv t = Lat.piv g := by
        rcases Nat.lt_trichotomy (Lat.piv t) (Lat.piv g) with l | l | l
        · rw [(piv_spec g).1 _ l] at y
          exact absurd y.symm (Int.mul_ne_zero ha tn)
        · exact l
        · exact absurd (z _ l) gn
      rw [← e']
      exact Nat.le_trans (I.redd t ht s hs) (hp t ht)
theorem gb_le : ∀ j, j ≤ 4 → gb j ≤ 111 ∧ gb j ≤ gb (j + 1) ∧ gb (j + 1) ≤ 454 := by decide
theorem eb_le : ∀ j, j ≤ 4 → gb j + j * (gb j + 2) ≤ 563 := by decide
theorem gd_le : ∀ k, k ≤ 4 → gd k 111 2262 ∧ fxb k 111 2262 ≤ 6000 ∧ tb (k + 1) 6000 + 4 ≤ 134217728 := by
  intro k hk
  have : k = 0 ∨ k = 1 ∨ k = 2 ∨ k = 3 ∨ k = 4 := by omega
  rcases this with e | e | e | e | e <;> subst e <;> simp [gd, fxb, tb]
theorem tb_mono {τ : Nat} : ∀ k, tb k τ ≤ tb (k + 1) τ := fun k => by
  show _ ≤ tb k τ + τ + k * (tb k τ + 1)
  omega
theorem grow_inv {n j : Nat} {B : List Vec} {v : Vec} (I : Inv n j B) (hj : j ≤ 4) (l : v.length = n) (hv : ∀ i, (itm v i).natAbs ≤ 2 ^ 6) : OkGrow B v ∧ Inv n (j + 1) (grow B v) := by
  have hp := I.piv
  have hall := I.all
  obtain ⟨b1, b2, b3⟩ := gb_le j hj
  have b4 := eb_le j hj
  have hB6 : ∀ s ∈ B, ∀ i, (itm s i).natAbs ≤ 2 ^ 563 := fun s hs i => Nat.le_trans (hall s hs i) (p2le b4)
  have hp6 : ∀ s ∈ B, (itm s (piv s)).natAbs ≤ 2 ^ 111 := fun s hs => Nat.le_trans (hp s hs) (p2le b1)
  have cB : B.length ≤ 4 := Nat.le_trans I.count hj
  have hm : B.length * 564 ≤ 4 * 564 := Nat.mul_le_mul_right _ cB
  have rz := redV_size (π := 111) (β := 563) (by decide) I.ech l hp6 hB6 hv (by omega)
  have ru : ∀ i, (itm (redV B v) i).natAbs ≤ 2 ^ 2262 := fun i => Nat.le_trans (rz.2 i) (p2le (by omega))
  have hlen : ∀ r ∈ B, r.length = v.length := fun r hr => ((I.ech.row r hr).1).trans l.symm
  have lu := redV_len B v hlen
  have hlen' : ∀ r ∈ B, r.length = (redV B v).length := fun r hr => (hlen r hr).trans lu.symm
  obtain ⟨gdk, fk, tk⟩ := gd_le B.length cB
  have st := stepped_size (n := n) (fun i => ∃ s ∈ B, i = piv s) (v := redV B v) I.ech (lu.trans l) (fun s hs => ⟨s, hs, rfl⟩) gdk
    (fun s hs => ⟨fun i => Nat.le_trans (hB6 s hs i) (p2le (by decide)), fun i ⟨t, ht, e⟩ => e ▸ Nat.le_trans (I.redd t ht s hs) (hp6 t ht)⟩) ru
    (fun i ⟨t, ht, e⟩ => e ▸ Nat.le_trans (Nat.le_of_lt (redV_small I.ech l t ht)) (hp6 t ht))
  have es : Ech n 0 (stepped B (redV B v)) := stepped_ech I.ech (lu.trans l) (Nat.zero_le _) fun i hi => absurd hi (Nat.not_lt_zero _)
  have cs : (stepped B (redV B v)).length ≤ B.length + 1 := stepped_count
  -- the ghosts
  obtain ⟨G, eG, cG, h1, h2, h3⟩ := I.ghost
  have eG' : Ech n 0 (insG G v) := insG_ech eG l (Nat.zero_le _) fun i hi => absurd hi (Nat.not_lt_zero _)
  have cG' : (insG G v).length ≤ j + 1 := Nat.le_trans insG_count (Nat.succ_le_succ cG)
  have sG' : ∀ g ∈ insG G v, ∀ i, (itm g i).natAbs ≤ 2 ^ gb (j + 1) := by
    refine insG_size (b := 2 ^ gb j) (x := 2 ^ 6) (Nat.two_pow_pos _) eG l h3 hv (p2le b2) ?_
    have e1 : 2 * 2 ^ gb j = 2 ^ (gb j + 1) := by rw [Nat.pow_succ, Nat.mul_comm]
    rw [e1, ← Nat.pow_mul, ← Nat.pow_add]
    refine p2le ?_
    show _ ≤ 6 + j * (gb j + 1)
    have := Nat.mul_le_mul_left (gb j + 1) cG
    rw [Nat.mul_comm (gb j + 1) j] at this
    omega
  have rB : ∀ s ∈ B, RIn (insG G v) (itm s) := fun s hs => by
    obtain ⟨D, hD, h⟩ := h2 s hs
    exact ⟨D, hD, In.sub (In.cl _) (fun g hg => insG_old g hg) h⟩
  have rv : RIn (insG G v) (itm v) := insG_new eG l
  have mk : ∀ B' : List Vec, (∀ S, Cl S → ((∀ r ∈ B', S (itm r)) ↔ ((∀ r ∈ B, S (itm r)) ∧ S (itm v)))) → (∀ g ∈ insG G v, In B' (itm g)) ∧ ∀ s ∈ B', RIn (insG G v) (itm s) := by
    intro B' h
    obtain ⟨q1, q2⟩ := (h (In B') (In.cl B')).mp fun r hr => In.mem _ _ hr
    exact ⟨insG_cl (In.cl B') eG l (fun g hg => In.sub (In.cl B') q1 (h1 g hg)) q2, (h (RIn (insG G v)) (RIn.cl _)).mpr ⟨rB, rv⟩⟩
  have rc : ∀ {S : (Nat → Int) → Prop}, Cl S → (∀ r ∈ B, S (itm r)) → (S (itm (redV B v)) ↔ S (itm v)) := fun C => redV_cl C B v hlen
  have ss := mk (stepped B (redV B v)) fun S C => by
    rw [stepped_cl C hlen']
    exact ⟨fun q => ⟨q.1, (rc C q.1).mp q.2⟩, fun q => ⟨q.1, (rc C q.1).mpr q.2⟩⟩
  have sg := mk (grow B v) fun S C => grow_cl C hlen
  have ps : ∀ s ∈ stepped B (redV B v), (itm s (piv s)).natAbs ≤ 2 ^ 454 := fun s hs => by
    obtain ⟨g, hg, _, q⟩ := piv_bound es eG' ss.1 ss.2 s hs
    exact Nat.le_trans q (Nat.le_trans (sG' g hg _) (p2le b3))
  have td := tidy_size (π := 454) (τ := 6000) (by decide) es ps (fun s hs i => Nat.le_trans (st.2 s hs i) (p2le fk)) (by
    rcases Nat.lt_or_ge (stepped B (redV B v)).length (B.length + 1) with q | q
    · have q1 : ∀ m k : Nat, m ≤ k → tb m 6000 ≤ tb k 6000 := fun m k h => by
        induction h with
        | refl => exact Nat.le_refl _
        | step _ ih => exact Nat.le_trans ih (tb_mono _)
      have := q1 _ _ (Nat.le_of_lt q)
      omega
    · rw [Nat.le_antisymm cs q]; exact tk)
  refine ⟨⟨rz.1, .inr ⟨st.1, td.1, by omega⟩⟩, ?_⟩
  refine ⟨?_, ?_, ?_, insG G v, eG', cG', sg.1, sg.2, sG'⟩
  · unfold grow
    split
    · exact I.ech
    · exact tidy_ech es
  · unfold grow
    split
    · exact Nat.le_succ_of_le I.count
    · rw [tidy_count]; have := I.count; omega
  · unfold grow
    split
    · exact I.redd
    · exact tidy_redd es
theorem inv0 (n : Nat) : Inv n 0 [] := ⟨trivial, Nat.le_refl _, fun s h => (nomatch h), [], trivial, Nat.le_refl _, fun g h => (nomatch h), fun g h => (nomatch h), fun g h => (nomatch h)⟩
theorem grows_inv {n : Nat} : ∀ (rs : List Vec) (j : Nat) (B : List Vec), Inv n j B → j + rs.length ≤ 5 → (∀ r ∈ rs, r.length = n ∧ Within 44 r) → OkGrows B rs ∧ Inv n (j + rs.length) (grows B rs)
  | [], j, B, I, _, _ => ⟨trivial, I⟩
  | v :: vs, j, B, I, hj, h => by
    rw [List.length_cons] at hj ⊢
    obtain ⟨⟨l, w⟩, h2⟩ := List.forall_mem_cons.mp h
    have hv : ∀ i, (itm v i).natAbs ≤ 2 ^ 6 := fun i => by
      by_cases hi : i < v.length
      · have hm : itm v i ∈ v := List.mem_of_getElem? (itm_of hi)
        have := w _ hm
        show _ ≤ 64
        omega
      · rw [itm_out (by omega)]; exact Nat.zero_le _
    obtain ⟨g1, g2⟩ := grow_inv I (by omega) l hv
    have ih := grows_inv vs (j + 1) (grow B v) g2 (by omega) h2
    refine ⟨⟨g1, ?_, ih.1⟩, ?_⟩
    · have := I.count; omega
    · have e : j + (vs.length + 1) = j + 1 + vs.length := by omega
      rw [e]; exact ih.2
theorem math_ok (n : Nat) (rs : List Vec) (h : rs.length ≤ 5) (hr : ∀ r ∈ rs, r.length = n ∧ Within 44 r) : OkGrows [] rs := (grows_inv rs 0 [] (inv0 n) (by omega) hr).1
theorem math_mul (n : Nat) (rs : List Vec) (h : rs.length ≤ 5) (hr : ∀ r ∈ rs, r.length = n ∧ Within 44 r) : ∀ r ∈ grows [] rs, ∀ x ∈ r, ∀ m : Int, -1000000000 ≤ m → m ≤ 1000000000 → CMulX x m := by
  have I := (grows_inv rs 0 [] (inv0 n) (by omega) hr).2
  rw [Nat.zero_add] at I
  intro r hr' x hx m m1 m2
  obtain ⟨i, rfl⟩ := mem_itm hx
  have e : gb rs.length + rs.length * (gb rs.length + 2) ≤ 3000 := by
    have : ∀ k, k ≤ 5 → gb k + k * (gb k + 2) ≤ 3000 := by decide
    exact this _ h
  refine mul_ok (β := 30) (I.all r hr' i) ?_ (by omega)
  have : (2 : Nat) ^ 30 = 1073741824 := by decide
  rw [this]; omega
end K06

namespace K06
open PySem L2 RZ Lat
/-! ## the sizes of the law's own table -/
theorem bits_neg (i : Int) : Builtin.Int.intBits (-i) = Builtin.Int.intBits i := by
  unfold Builtin.Int.intBits
  by_cases h : i = 0
  · subst h; rfl
  · rw [if_neg (by simpa using h), if_neg (by simpa using h), Int.natAbs_neg]
theorem mul_neg {i j : Int} (h : CMulX (-i) j) : CMulX i j := by
  unfold CMulX at h ⊢
  rw [bits_neg] at h; exact h
theorem noPylong_num {x y : Int} (h : x.natAbs.log2 < 9000) : Builtin.divisionGoesByPylong x y = false := by
  have key : (if x == 0 then 0 else x.natAbs.log2 / 30 + 1) ≤ 300 := by
    by_cases hy : (x == 0) = true
    · rw [if_pos hy]; exact Nat.zero_le _
    · rw [if_neg hy]; omega
  show (decide ((if y == 0 then 0 else y.natAbs.log2 / 30 + 1) > 300) && decide ((if x == 0 then 0 else x.natAbs.log2 / 30 + 1) > (if y == 0 then 0 else y.natAbs.log2 / 30 + 1) + 150)) = false
  by_cases hA : (if y == 0 then 0 else y.natAbs.log2 / 30 + 1) > 300
  · rw [decide_eq_false (show ¬ (if x == 0 then 0 else x.natAbs.log2 / 30 + 1) > (if y == 0 then 0 else y.natAbs.log2 / 30 + 1) + 150 by omega), Bool.and_false]
  · rw [decide_eq_false hA, Bool.false_and]
theorem noPylong_near {x y : Int} (h0 : y ≠ 0) (h : x.natAbs ≤ 2 * y.natAbs) : Builtin.divisionGoesByPylong x y = false := by
  have y0 : y.natAbs ≠ 0 := Int.natAbs_ne_zero.mpr h0
  have key : (if x == 0 then 0 else x.natAbs.log2 / 30 + 1) ≤ (y.natAbs.log2 + 1) / 30 + 1 := by
    by_cases hx : (x == 0) = true
    · rw [if_pos hx]; exact Nat.zero_le _
    · rw [if_neg hx]
      have x0 : x.natAbs ≠ 0 := Int.natAbs_ne_zero.mpr (by simpa using hx)
      have h1 : y.natAbs < 2 ^ (y.natAbs.log2 + 1) := (Nat.log2_lt y0).mp (Nat.lt_succ_self _)
      have h2 : x.natAbs.log2 < y.natAbs.log2 + 2 := (Nat.log2_lt x0).mpr (by rw [Nat.pow_succ]; omega)
      have : x.natAbs.log2 / 30 ≤ (y.natAbs.log2 + 1) / 30 := Nat.div_le_div_right (by omega)
      omega
  show (decide ((if y == 0 then 0 else y.natAbs.log2 / 30 + 1) > 300) && decide ((if x == 0 then 0 else x.natAbs.log2 / 30 + 1) > (if y == 0 then 0 else y.natAbs.log2 / 30 + 1) + 150)) = false
  have e : (if y == 0 then 0 else y.natAbs.log2 / 30 + 1) = y.natAbs.log2 / 30 + 1 := if_neg (by simpa using h0)
  rw [e, decide_eq_false (show ¬ (if x == 0 then 0 else x.natAbs.log2 / 30 + 1) > y.natAbs.log2 / 30 + 1 + 150 by omega), Bool.and_false]
def JJ (L : Nat) (x y : Int) : Prop := x.natAbs ≤ L ∨ y.natAbs ≤ L ∨ (((0 ≤ x ∧ 0 ≤ y) ∨ (x ≤ 0 ∧ y ≤ 0)) ∧ y.natAbs ≤ x.natAbs ∧ x.natAbs ≤ y.natAbs + L)
theorem quot_small {x y : Int} (hy : y ≠ 0) (h : x.natAbs < 2 * y.natAbs) : x.fdiv y = -2 ∨ x.fdiv y = -1 ∨ x.fdiv y = 0 ∨ x.fdiv y = 1 ∨ x.fdiv y = 2 := by
  have sm := fdiv_small x y hy
  generalize x.fdiv y = q at sm ⊢
  have h1 : (q * y).natAbs < 3 * y.natAbs := by
    have e : q * y = x - (x + -q * y) := by grind
    rw [e]; omega
  rw [Int.natAbs_mul] at h1
  have h2 : q.natAbs < 3 := Nat.lt_of_mul_lt_mul_right h1
  omega
theorem JJ.step {L : Nat} {x y : Int} (hy : y ≠ 0) (h : JJ L x y) : JJ L y (x + -(x.fdiv y) * y) := by
  by_cases h1 : y.natAbs ≤ L
  · exact .inl h1
  · have sm := fdiv_small x y hy
    have sg := sign_rem x y hy
    have hx : x.natAbs < 2 * y.natAbs := by
      rcases h with h | h | h <;> omega
    have q5 := quot_small hy hx
    unfold JJ at h ⊢
    generalize x.fdiv y = q at sm sg q5 ⊢
    rcases q5 with e | e | e | e | e <;> subst e <;> omega
theorem JJ.div {π : Nat} (hπ : π < 9000) {x y : Int} (hy : y ≠ 0) (h : JJ (2 ^ π) x y) : CDivZ x y := by
  refine ⟨hy, ?_⟩
  rcases h with h | h | h
  · refine noPylong_num ?_
    by_cases h0 : x.natAbs = 0
    · rw [h0]; decide
    · exact log_lt h0 h hπ
  · exact PyProof.noPylong_of_log2 (log_lt (Int.natAbs_ne_zero.mpr hy) h hπ)
  · by_cases h1 : y.natAbs ≤ 2 ^ π
    · exact PyProof.noPylong_of_log2 (log_lt (Int.natAbs_ne_zero.mpr hy) h1 hπ)
    · exact noPylong_near hy (by omega)
theorem clr_sizeJ {n π α χ : Nat} (hπ : π < 9000) (hχ : α + χ + 2 ≤ 134217728) : ∀ (m : Nat) (r v : Vec) (i : Nat) (Mr Mv X : Nat), r.length = n → v.length = n → itm r i ≠ 0 → ((0 ≤ itm r i ∧ 0 ≤ itm v i) ∨ (itm r i ≤ 0 ∧ itm v i ≤ 0)) → JJ (2 ^ π) (itm r i) (itm v i) →
    (∀ j, (itm r j).natAbs ≤ Mr ∧ (itm v j).natAbs ≤ Mv) → Mr ≤ X → Mv * (itm r i).natAbs + Mr * (itm v i).natAbs ≤ X → (itm v i).natAbs ≤ m → X ≤ 2 ^ χ → (itm r i).natAbs ≤ 2 ^ α → (itm v i).natAbs ≤ 2 ^ α → OkClr m r v i
  | 0, r, v, i, Mr, Mv, X, lr, lv, h0, hs, hJ, hC, hX, hN, hm, _, _, _ => by show itm v i = 0; omega
  | m + 1, r, v, i, Mr, Mv, X, lr, lv, h0, hs, hJ, hC, hX, hN, hm, hXχ, hr, hvα => by
    have h1 : Mv ≤ Mv * (itm r i).natAbs := Nat.le_mul_of_pos_right _ (Int.natAbs_pos.mpr h0)
    by_cases hv : itm v i = 0
    · exact .inl hv
    · have l := lr.trans lv.symm
      have ei := itm_add (t := -((itm r i).fdiv (itm v i))) l i
      have q1 := euc (itm r i) (itm v i) hv hs
      have q2 := sign_rem (itm r i) (itm v i) hv
      have q3 := fdiv_small (itm r i) (itm v i) hv
      have q4 := hJ.step hv
      rw [← ei] at q1 q2 q3 q4
      have key : (Mr + ((itm r i).fdiv (itm v i)).natAbs * Mv) * (itm v i).natAbs + Mv * (itm (addV r (-((itm r i).fdiv (itm v i))) v) i).natAbs ≤ X := by
        have : (Mr + ((itm r i).fdiv (itm v i)).natAbs * Mv) * (itm v i).natAbs + Mv * (itm (addV r (-((itm r i).fdiv (itm v i))) v) i).natAbs = Mr * (itm v i).natAbs + Mv * (((itm r i).fdiv (itm v i)).natAbs * (itm v i).natAbs + (itm (addV r (-((itm r i).fdiv (itm v i))) v) i).natAbs) := by grind
        rw [this, q1]; omega
      refine .inr ⟨hJ.div hπ hv, fun x hx => ?_, clr_sizeJ hπ hχ m v (addV r (-((itm r i).fdiv (itm v i))) v) i Mv (Mr + ((itm r i).fdiv (itm v i)).natAbs * Mv) X lv ((addV_len l).trans lr) hv q2 q4 (fun j => ⟨(hC j).2, by rw [itm_add l]; exact step_abs (hC j).1 (hC j).2⟩) (by omega) key (by omega) hXχ hvα (by omega)⟩
      obtain ⟨j, rfl⟩ := mem_itm hx
      exact mul_ok (α := α) (β := χ) (by rw [Int.natAbs_neg]; exact Nat.le_trans (fdiv_abs _ _ hv) hr) (Nat.le_trans (hC j).2 (by omega)) hχ
theorem clear_sizeJ {n π α χ : Nat} (hπ : π < 9000) (hχ : α + χ + 2 ≤ 134217728) (r v : Vec) (i : Nat) (M a : Nat) (lr : r.length = n) (lv : v.length = n) (h0 : itm r i ≠ 0) (hp : (itm r i).natAbs ≤ 2 ^ π) (a1 : 1 ≤ a) (ha : (itm r i).natAbs ≤ a) (hav : (itm v i).natAbs ≤ a)
    (hC : ∀ j, (itm r j).natAbs ≤ M ∧ (itm v j).natAbs ≤ M) (hMχ : 4 * M * a ≤ 2 ^ χ) (haα : a ≤ 2 ^ α) : OkClr (itm v i).natAbs r v i := by
  have hM : M ≤ 4 * M * a := by
    have : 4 * M ≤ 4 * M * a := Nat.le_mul_of_pos_right _ a1
    omega
  by_cases hv : itm v i = 0
  · have e : (itm v i).natAbs = 0 := by rw [hv]; rfl
    rw [e]
    exact hv
  · obtain ⟨m, em⟩ : ∃ m, (itm v i).natAbs = m + 1 := ⟨(itm v i).natAbs - 1, by omega⟩
    rw [em]
    have l := lr.trans lv.symm
    have ei := itm_add (t := -((itm r i).fdiv (itm v i))) l i
    have q1 := euc_any (itm r i) (itm v i)
    have q2 := sign_rem (itm r i) (itm v i) hv
    have q3 := fdiv_small (itm r i) (itm v i) hv
    have hJ : JJ (2 ^ π) (itm r i) (itm v i) := .inl hp
    have q4 := hJ.step hv
    rw [← ei] at q1 q2 q3 q4
    have key : (M + ((itm r i).fdiv (itm v i)).natAbs * M) * (itm v i).natAbs + M * (itm (addV r (-((itm r i).fdiv (itm v i))) v) i).natAbs ≤ 4 * M * a := by
      have e1 : (M + ((itm r i).fdiv (itm v i)).natAbs * M) * (itm v i).natAbs + M * (itm (addV r (-((itm r i).fdiv (itm v i))) v) i).natAbs = M * ((itm v i).natAbs + ((itm r i).fdiv (itm v i)).natAbs * (itm v i).natAbs + (itm (addV r (-((itm r i).fdiv (itm v i))) v) i).natAbs) := by grind
      have e2 : 4 * M * a = M * (4 * a) := by grind
      rw [e1, e2]
      exact Nat.mul_le_mul_left _ (by omega)
    refine .inr ⟨hJ.div hπ hv, fun x hx => ?_, clr_sizeJ hπ hχ m v (addV r (-((itm r i).fdiv (itm v i))) v) i M (M + ((itm r i).fdiv (itm v i)).natAbs * M) (4 * M * a) lv ((addV_len l).trans lr) hv q2 q4 (fun j => ⟨(hC j).2, by rw [itm_add l]; exact step_abs (hC j).1 (hC j).2⟩) hM key (by omega) hMχ (by omega) (by omega)⟩
    obtain ⟨j, rfl⟩ := mem_itm hx
    exact mul_ok (α := α) (β := χ) (by rw [Int.natAbs_neg]; exact Nat.le_trans (fdiv_abs _ _ hv) (Nat.le_trans ha haα)) (Nat.le_trans (hC j).2 (by omega)) hχ
/-! ## the law's table, all along -/
def OkPut : Tab → Nat → Vec → Prop
  | [], _, _ => True
  | o :: os, p, v => (itm v p = 0 ∧ OkPut os (p + 1) v) ∨ (itm v p ≠ 0 ∧ match o with
    | none => True
    | some h => OkClr (itm v p).natAbs h v p ∧ OkPut os (p + 1) (clear h v p).2)
def OkPuts : Tab → List Vec → Prop
  | _, [] => True
  | t, v :: vs => OkPut t 0 v ∧ OkPuts (putL t 0 v) vs
def OkLeft : Tab → Nat → Vec → Prop
  | [], _, _ => True
  | none :: os, p, v => OkLeft os (p + 1) v
  | some h :: os, p, v => CDivZ (itm v p) (itm h p) ∧ (∀ m ∈ h, CMulX ((itm v p).fdiv (itm h p)) m) ∧ OkLeft os (p + 1) (addV v (-((itm v p).fdiv (itm h p))) h)
theorem okLeft_of {n : Nat} : ∀ {p : Nat} {t : Tab} {v : Vec}, EchT n p t → OkRed (rowsOf t) v → OkLeft t p v
  | _, [], _, _, _ => trivial
  | p, none :: os, v, h, ok => okLeft_of (t := os) h.2 ok
  | p, some r :: os, v, h, ok => by
    obtain ⟨a, b, c⟩ := h.1 r rfl
    obtain ⟨o1, o2, o3, o4⟩ : OkRed (r :: rowsOf os) v := ok
    rw [b] at o2 o3 o4
    exact ⟨o2, fun m hm => mul_neg (o3 m hm), okLeft_of (t := os) h.2 o4⟩
def dbl : Nat → Nat → Nat
  | 0, τ => τ
  | k + 1, τ => dbl k (2 * τ + 2)
theorem dbl_ge : ∀ (k τ : Nat), τ ≤ dbl k τ
  | 0, τ => Nat.le_refl _
  | k + 1, τ => Nat.le_trans (by omega) (dbl_ge k (2 * τ + 2))
theorem dbl_mono : ∀ (k τ : Nat), dbl k τ ≤ dbl (k + 1) τ
  | 0, τ => by show τ ≤ 2 * τ + 2; omega
  | k + 1, τ => dbl_mono k (2 * τ + 2)
theorem dbl_le {i j : Nat} (h : i ≤ j) (τ : Nat) : dbl i τ ≤ dbl j τ := by
  induction h with
  | refl => exact Nat.le_refl _
  | step _ ih => exact Nat.le_trans ih (dbl_mono _ _)
theorem putL_size {n π : Nat} (hπ : π < 9000) : ∀ {p : Nat} {t : Tab} {v : Vec} {τ : Nat}, EchT n p t → v.length = n → (∀ i, i < p → itm v i = 0) → (∀ s ∈ rowsOf t, (itm s (piv s)).natAbs ≤ 2 ^ π) → (∀ s ∈ rowsOf t, ∀ i, (itm s i).natAbs ≤ 2 ^ τ) → (∀ i, (itm v i).natAbs ≤ 2 ^ τ) → π ≤ τ →
    2 * dbl (rowsOf t).length τ + 4 ≤ 134217728 → OkPut t p v ∧ ∀ s ∈ rowsOf (putL t p v), ∀ i, (itm s i).natAbs ≤ 2 ^ dbl (rowsOf t).length τ
  | _, [], v, τ, _, _, _, _, _, _, _, _ => ⟨trivial, fun s h => nomatch h⟩
  | p, o :: os, v, τ, h, l, z, hp, hB, hv, hτ, hd => by
    by_cases e : itm v p = 0
    · have e2 : putL (o :: os) p v = o :: putL os (p + 1) v := by
        conv => lhs; unfold putL
        rw [if_pos e]
      rw [e2]
      cases o with
      | none =>
        have ih := putL_size hπ (t := os) h.2 l (zero_more z e) hp hB hv hτ hd
        exact ⟨.inl ⟨e, ih.1⟩, ih.2⟩
      | some r =>
        obtain ⟨hp1, hp2⟩ := List.forall_mem_cons.mp (show ∀ s ∈ r :: rowsOf os, _ from hp)
        obtain ⟨hB1, hB2⟩ := List.forall_mem_cons.mp (show ∀ s ∈ r :: rowsOf os, _ from hB)
        have dm := dbl_mono (rowsOf os).length τ
        have hd' : 2 * dbl ((rowsOf os).length + 1) τ + 4 ≤ 134217728 := hd
        have ih := putL_size hπ (t := os) h.2 l (zero_more z e) hp2 hB2 hv hτ (by omega)
        refine ⟨.inl ⟨e, ih.1⟩, ?_⟩
        show ∀ s ∈ r :: rowsOf (putL os (p + 1) v), ∀ i, (itm s i).natAbs ≤ 2 ^ dbl ((rowsOf os).length + 1) τ
        exact List.forall_mem_cons.mpr ⟨fun i => Nat.le_trans (hB1 i) (Lat.p2le (dbl_ge _ _)), fun s hs i => Nat.le_trans (ih.2 s hs i) (Lat.p2le dm)⟩
    · cases o with
      | none =>
        have e2 : putL (none :: os) p v = some (posAt v p) :: os := by
          conv => lhs; unfold putL
          rw [if_neg e]
        rw [e2]
        refine ⟨.inr ⟨e, trivial⟩, ?_⟩
        show ∀ s ∈ posAt v p :: rowsOf os, ∀ i, (itm s i).natAbs ≤ 2 ^ dbl (rowsOf os).length τ
        exact List.forall_mem_cons.mpr ⟨fun i => by rw [posAt_abs]; exact Nat.le_trans (hv i) (Lat.p2le (dbl_ge _ _)), fun s hs i => Nat.le_trans (hB s hs i) (Lat.p2le (dbl_ge _ _))⟩
      | some r =>
        obtain ⟨a, b, c⟩ := h.1 r rfl
        obtain ⟨q1, q2, q3, q4, q5⟩ := clear_at a l b c z
        have e2 : putL (some r :: os) p v = some (posAt (clear r v p).1 p) :: putL os (p + 1) (clear r v p).2 := by
          conv => lhs; unfold putL
          rw [if_neg e]
        rw [e2]
        obtain ⟨hp1, hp2⟩ := List.forall_mem_cons.mp (show ∀ s ∈ r :: rowsOf os, _ from hp)
        obtain ⟨hB1, hB2⟩ := List.forall_mem_cons.mp (show ∀ s ∈ r :: rowsOf os, _ from hB)
        rw [b] at hp1
        have hd' : 2 * dbl (rowsOf os).length (2 * τ + 2) + 4 ≤ 134217728 := hd
        have dg := dbl_ge (rowsOf os).length (2 * τ + 2)
        have e3 : 4 * 2 ^ τ * 2 ^ τ = 2 ^ (2 * τ + 2) := by rw [show 2 * τ + 2 = 2 + τ + τ by omega, Nat.pow_add, Nat.pow_add]
        have cz := clear_size (n := n) (α := 1) (χ := 1) (by decide) (by decide) r v p (fun _ => True) (2 ^ τ) (2 ^ τ) a l (by omega) (Nat.two_pow_pos _) (hB1 p) (hv p) fun j _ => ⟨hB1 j, hv j⟩
        rw [e3] at cz
        have ok := clear_sizeJ (n := n) (π := π) (α := τ) (χ := 2 * τ + 2) hπ (by omega) r v p (2 ^ τ) (2 ^ τ) a l (by omega) hp1 (Nat.two_pow_pos _) (hB1 p) (hv p) (fun j => ⟨hB1 j, hv j⟩) (Nat.le_of_eq e3) (Nat.le_refl _)
        have ih := putL_size hπ (t := os) (v := (clear r v p).2) (τ := 2 * τ + 2) h.2 q2 q5 hp2 (fun s hs i => Nat.le_trans (hB2 s hs i) (Lat.p2le (by omega))) (fun i => (cz.1 i trivial).2) (by omega) hd'
        refine ⟨.inr ⟨e, ok, ih.1⟩, ?_⟩
        show ∀ s ∈ posAt (clear r v p).1 p :: rowsOf (putL os (p + 1) (clear r v p).2), ∀ i, (itm s i).natAbs ≤ 2 ^ dbl (rowsOf os).length (2 * τ + 2)
        exact List.forall_mem_cons.mpr ⟨fun i => by rw [posAt_abs]; exact Nat.le_trans (cz.1 i trivial).1 (Lat.p2le dg), ih.2⟩
theorem putL_count : ∀ {t : Tab} {p : Nat} {v : Vec}, (rowsOf (putL t p v)).length ≤ (rowsOf t).length + 1
  | [], _, _ => Nat.zero_le _
  | o :: os, p, v => by
    unfold putL
    split
    · cases o with
      | none => exact putL_count (t := os)
      | some r => exact Nat.succ_le_succ (putL_count (t := os))
    · cases o with
      | none => exact Nat.le_refl _
      | some r => exact Nat.succ_le_succ (putL_count (t := os))
def sb : Nat → Nat
  | 0 => 500
  | j + 1 => dbl j (sb j)
structure InvT (n j : Nat) (t : Tab) : Prop where
  ech : EchT n 0 t
  gh : Gh 6 n (rowsOf t)
  count : (rowsOf t).length ≤ j
  size : ∀ s ∈ rowsOf t, ∀ i, (itm s i).natAbs ≤ 2 ^ sb j
theorem sb_le : ∀ j, j ≤ 4 → 500 ≤ sb j ∧ dbl j (sb j) ≤ 600000 := by
  intro j hj
  have : j = 0 ∨ j = 1 ∨ j = 2 ∨ j = 3 ∨ j = 4 := by omega
  rcases this with e | e | e | e | e <;> subst e <;> simp [sb, dbl]
theorem gbx_five : gbx 6 5 ≤ 454 := by decide
theorem put_inv {n j : Nat} {t : Tab} {v : Vec} (I : InvT n j t) (hj : j ≤ 4) (n5 : n ≤ 5) (l : v.length = n) (hv : ∀ i, (itm v i).natAbs ≤ 2 ^ 6) : OkPut t 0 v ∧ InvT n (j + 1) (putL t 0 v) := by
  have z : ∀ i, i < 0 → itm v i = 0 := fun i hi => absurd hi (Nat.not_lt_zero _)
  obtain ⟨s1, s2⟩ := sb_le j hj
  have pv : ∀ s ∈ rowsOf t, (itm s (piv s)).natAbs ≤ 2 ^ 454 := fun s hs => Nat.le_trans (I.gh.piv s hs) (Lat.p2le (Nat.le_trans (gbx_le n5) gbx_five))
  have dm := dbl_le I.count (sb j)
  have sz := putL_size (π := 454) (τ := sb j) (by decide) I.ech l z pv I.size (fun i => Nat.le_trans (hv i) (Lat.p2le (by omega))) (by omega) (by omega)
  have et := putL_tab I.ech l z
  refine ⟨sz.1, et, I.gh.step (by decide) et.ech l hv fun S C => putL_cl C I.ech l z, Nat.le_trans putL_count (Nat.succ_le_succ I.count), fun s hs i => Nat.le_trans (sz.2 s hs i) (Lat.p2le dm)⟩
theorem within6 {v : Vec} (w : Within 44 v) : ∀ i, (itm v i).natAbs ≤ 2 ^ 6 := fun i => by
  by_cases hi : i < v.length
  · have hm : itm v i ∈ v := List.mem_of_getElem? (itm_of hi)
    have := w _ hm
    show _ ≤ 64
    omega
  · rw [itm_out (by omega)]; exact Nat.zero_le _
theorem puts_inv {n : Nat} (n5 : n ≤ 5) : ∀ (rs : List Vec) (j : Nat) (t : Tab), InvT n j t → j + rs.length ≤ 5 → (∀ r ∈ rs, r.length = n ∧ Within 44 r) → OkPuts t rs ∧ InvT n (j + rs.length) (putsL t rs)
  | [], j, t, I, _, _ => ⟨trivial, I⟩
  | v :: vs, j, t, I, hj, h => by
    rw [List.length_cons] at hj ⊢
    obtain ⟨⟨l, w⟩, h2⟩ := List.forall_mem_cons.mp h
    obtain ⟨g1, g2⟩ := put_inv I (by omega) n5 l (within6 w)
    have ih := puts_inv n5 vs (j + 1) (putL t 0 v) g2 (by omega) h2
    refine ⟨⟨g1, ih.1⟩, ?_⟩
    have e : j + (vs.length + 1) = j + 1 + vs.length := by omega
    rw [e]; exact ih.2
def tab0 (n : Nat) : Tab := List.replicate n none
theorem invT0 (n : Nat) : InvT n 0 (tab0 n) := ⟨EchT.empty n n 0 (by omega), by unfold tab0; rw [rows_empty]; exact Gh.nil 6 n, by unfold tab0; rw [rows_empty]; exact Nat.le_refl _, by unfold tab0; rw [rows_empty]; exact fun s h => nomatch h⟩
end K06

namespace L2
open PySem PySem.Spec PyProof.Rows RZ
/-! ### zip of a list and a tuple -/
def ItzM (K : PySem.W.Frag) (a b : Addr) : It :=
  ⟨fun i H => ∃ (vs ws : List V) (v w : V), SqL K H a vs ∧ SqT K H b ws ∧ vs[i]? = some v ∧ ws[i]? = some w,
    fun i H r H' => ∃ T v w, r = .ref T ∧ H T = none ∧ H' = upd H T (.tup [v, w]) ∧ (∀ vs, SqL K H a vs → vs[i]? = some v) ∧ ∀ ws, SqT K H b ws → ws[i]? = some w,
    fun i H => ∃ vs ws : List V, SqL K H a vs ∧ SqT K H b ws ∧ i ≤ vs.length ∧ i ≤ ws.length ∧ (i = vs.length ∨ i = ws.length)⟩
theorem sep_of {z TI TO i1 i2 a b : Addr} (D : ZipApart z TI TO i1 i2 a b) : ZipSep2 z TI TO i1 i2 [i1, a] [i2, b] where
  TIz := D.TIz
  TOz := D.TOz
  TITO := D.TITO
  TIi1 := D.TIi1
  mem1 := by simp
  zf1 := by simpa using ⟨D.i1z.symm, D.l1z.symm⟩
  Tf1 := by simpa using ⟨D.TOi1, D.l1TO.symm⟩
  TIi2 := D.TIi2
  mem2 := by simp
  zf2 := by simpa using ⟨D.i2z.symm, D.l2z.symm⟩
  Tf2 := by simpa using ⟨D.TOi2, D.l2TO.symm⟩
  sep1_2 := by simpa using ⟨D.i12, D.l2i1.symm⟩
  sep2_1 := by simpa using ⟨D.i12.symm, D.l1i2.symm⟩
theorem turn_zipM {P : Program} {w : World} {K : PySem.W.Frag} {es : List Expr} {n0 : Nat} {tp : Pos} {a b z TI TO i1 i2 : Addr} (D : ZipApart z TI TO i1 i2 a b) :
    Turn P w K (.Tuple es n0 tp) (ItzM K a b) [z, TI, TO, i1, i2] z (fun i g => IsZip g z TI TO .none ∧ IsTupOf2 g TI (.ref i1) (.ref i2) ∧ (∃ p q, IsTupOf2 g TO p q) ∧ g.IsListIter i1 a i ∧ g.IsTupleIter i2 b i) where
  mem := List.mem_cons_self
  obj := fun i g st c hc => by
    obtain ⟨gz, gI, ⟨p, q, gO⟩, ⟨o1, e1, _, d1⟩, ⟨o2, e2, _, d2⟩⟩ := st
    have cases5 : c = z ∨ c = TI ∨ c = TO ∨ c = i1 ∨ c = i2 := by simpa using hc
    rcases cases5 with r | r | r | r | r <;> rw [r]
    · exact ⟨_, gz, fun _ f => nomatch f⟩
    · exact ⟨_, gI, fun _ f => nomatch f⟩
    · exact ⟨_, gO, fun _ f => nomatch f⟩
    · exact ⟨o1, e1, fun _ f => by rw [d1] at f; cases f⟩
    · exact ⟨o2, e2, fun _ f => by rw [d2] at f; cases f⟩
  keep := fun i g g' st kp => by
    obtain ⟨gz, gI, ⟨p, q, gO⟩, l1, l2⟩ := st
    have k : ∀ c, c ∈ [z, TI, TO, i1, i2] → ∀ o, g.get? c = some o → g'.get? c = some o := kp
    refine ⟨k z (by simp) _ gz, k TI (by simp) _ gI, ⟨p, q, k TO (by simp) _ gO⟩, l1.at fun o => k i1 (by simp) o, l2.at fun o => k i2 (by simp) o⟩
  item := by
    intro X eP ew eK hc i pins s σ H E I hf st hg
    subst eP ew eK
    obtain ⟨gz, gI, ⟨p, q, gO⟩, l1, l2⟩ := st
    obtain ⟨vs, ws, v, v2, qa, qb, ev, ew⟩ := hg
    obtain ⟨us, rv, pa, _⟩ := I.list qa
    obtain ⟨us2, rv2, pb, _⟩ := I.tuple qb
    obtain ⟨u, hu, ru⟩ := rv.get ev
    obtain ⟨u2, hu2, ru2⟩ := rv2.get ew
    have zlt : z < s.heap.objs.size := Heap.lt_size gz
    have bi1 : i < us.toArray.size := by rw [List.size_toArray]; exact (List.getElem?_eq_some_iff.mp hu).1
    have bi2 : i < us2.toArray.size := by rw [List.size_toArray]; exact (List.getElem?_eq_some_iff.mp hu2).1
    refine wpAny_pyNext_zipD2_item (sep_of D) (Draws.list (A := X.A.in1) (I.ok.hd hc) i1 a D.l1i1 us.toArray) (Draws.tuple (A := X.A.in1) (I.ok.hd hc) i2 b D.l2i2 us2.toArray) gz gI gO ⟨l1, pa.isList⟩ ⟨l2, pb⟩ bi1 bi2 fun x1 x2 h' tk y1 y2 z' TO' m1 m2 hT hsz kp => ?_
    have e1 : x1 = u := by
      have := (show us.toArray[i]? = some x1 from y1)
      rw [show us.toArray[i]? = us[i]? by simp, hu] at this
      exact (Option.some.inj this).symm
    have e2 : x2 = u2 := by
      have := (show us2.toArray[i]? = some x2 from y2)
      rw [show us2.toArray[i]? = us2[i]? by simp, hu2] at this
      exact (Option.some.inj this).symm
    subst e1 e2
    refine ⟨_, rfl, wpAny_letOwnedTupleGo_zip (s := { s with heap := h', toks := tk }) z' fun h'' z'' sm => ?_⟩
    have newT : h''.get? s.heap.objs.size = some { cls := .type "tuple", data := .seq #[x1, x2] } := (sm.2 _ (Nat.ne_of_gt zlt)).trans hT
    have ok : ObjOk X.prog X.w (upd H s.heap.objs.size (.tup [v, v2])) h'' s.heap.objs.size (.tup [v, v2]) :=
      ⟨by show 2 ≤ sizeLine; decide, [x1, x2], .cons ru (.cons ru2 .nil), ⟨_, newT, rfl, _, rfl⟩⟩
    have J : Inv X pins σ (upd H s.heap.objs.size (.tup [v, v2])) { s with heap := h'', toks := tk } := by
      refine I.turnedNew (t' := tk) (ch := [z, TI, TO, i1, i2]) (fun c o nc r => ?_) hf (Nat.le_refl _) ok
      have n5 : c ≠ z ∧ c ≠ TI ∧ c ≠ TO ∧ c ≠ i1 ∧ c ≠ i2 := by simpa using nc
      exact (sm.2 c n5.1).trans (kp c o n5.1 n5.2.2.1 n5.2.2.2.1 n5.2.2.2.2 r)
    refine ⟨.ref s.heap.objs.size, _, J, rfl, ⟨_, v, v2, rfl, I.hok.fresh (Nat.le_refl _), rfl, fun l hl => by rw [I.list_inj hl qa]; exact ev, fun l hl => by rw [I.tuple_inj hl qb]; exact ew⟩, ⟨z'', ?_, ⟨x1, x2, ?_⟩, ?_, ?_⟩, fun c hcm => ?_⟩
    · exact (sm.2 _ D.TIz).trans (kp _ _ D.TIz D.TITO D.TIi1 D.TIi2 gI)
    · exact (sm.2 _ D.TOz).trans TO'
    · exact m1.1.at fun o r => (sm.2 _ D.i1z).trans r
    · exact m2.1.at fun o r => (sm.2 _ D.i2z).trans r
    · have clt : c < s.heap.objs.size := by
        have cases5 : c = z ∨ c = TI ∨ c = TO ∨ c = i1 ∨ c = i2 := by simpa using hcm
        rcases cases5 with r | r | r | r | r <;> rw [r]
        · exact zlt
        · exact Heap.lt_size gI
        · exact Heap.lt_size gO
        · obtain ⟨_, e1, _⟩ := l1; exact Heap.lt_size e1
        · obtain ⟨_, e2, _⟩ := l2; exact Heap.lt_size e2
      rw [upd_ne (Nat.ne_of_lt clt)]
      exact (hf c hcm).1
  done := by
    intro X eP ew eK hc i pins s σ H E I hf st hg
    subst eP ew eK
    obtain ⟨gz, gI, ⟨p, q, gO⟩, l1, l2⟩ := st
    obtain ⟨vs, ws, qa, qb, n1, n2, fin⟩ := hg
    obtain ⟨us, rv, pa, _⟩ := I.list qa
    obtain ⟨us2, rv2, pb, _⟩ := I.tuple qb
    have len1 : us.toArray.size = vs.length := by rw [List.size_toArray, rv.length]
    have len2 : us2.toArray.size = ws.length := by rw [List.size_toArray, rv2.length]
    refine wpAny_pyNext_zipD2_end (sep_of D) (Draws.list (A := X.A.in1) (I.ok.hd hc) i1 a D.l1i1 us.toArray) (Draws.tuple (A := X.A.in1) (I.ok.hd hc) i2 b D.l2i2 us2.toArray) gz gI gO ⟨l1, pa.isList⟩ ⟨l2, pb⟩ (by omega) (by omega) (by omega) fun h' tk kp => ⟨rfl, I.turnedL (t' := tk) (ch := [z, TI, TO, i1, i2]) (fun c o nc r => ?_) hf⟩
    have n5 : c ≠ z ∧ c ≠ TI ∧ c ≠ TO ∧ c ≠ i1 ∧ c ≠ i2 := by simpa using nc
    exact kp c o n5.1 n5.2.2.1 n5.2.2.2.1 n5.2.2.2.2 r
  self := fun A i s Q E st h => wpAny_pyIter_zip st.1 h
def iZipM (K : PySem.W.Frag) (ta : TA) : TI := fun σ H R => ta σ H fun vs H1 => ∃ a b xs ys, vs = [.ref a, .ref b] ∧ SqL K H1 a xs ∧ SqT K H1 b ys ∧ R (ItzM K a b) H1
theorem pi_zipM {X : Cx} {e e2 : Expr} {ta : TA} {p pos tpos : Pos} {elts : List Expr} {kk : Nat} (hg : Gl X "zip") (hm : X.mg "zip" = none) (ha : PA X [e, e2] ta)
    (hs : starEach [e, e2] X.env = (false, eval e X.env) :: starEach [e2] X.env := by rfl) (hpl : (backTo pos (starEach [e2] X.env)).any (·.1) = false := by rfl) :
    PI X (.Tuple elts kk tpos) (.Call (.Name "zip" p) [e, e2] [] pos) (iZipM X.K ta) := by
  refine ⟨fun pins s σ H R I h => Call_ (ld_blt I hg hm PyProof.Rows.boot_zip (PyProof.Rows.callWith_type1 (thn (ha.run pos pins s σ H _ I h) fun us s1 ⟨vs, H1, I1, r1, q1⟩ => ?_) hs hpl))⟩
  obtain ⟨a, b, xs, ys, ex, qx, qy, q⟩ := q1
  subst ex
  cases r1 with
  | cons r rr =>
    cases rr with
    | cons r' rr =>
      cases rr
      cases r
      cases r'
      obtain ⟨its, rv, p1, _⟩ := I1.list qx
      obtain ⟨its2, rv2, p2, _⟩ := I1.tuple qy
      obtain ⟨o2, ho2, _⟩ := id p2
      let N := s1.heap.objs.size
      have new5 : ∀ c, c ∈ [N + 4, N + 2, N + 3, N, N + 1] → FpOk X pins H1 c := fun c hcm => by
        have q5 : c = N + 4 ∨ c = N + 2 ∨ c = N + 3 ∨ c = N ∨ c = N + 1 := by simpa using hcm
        have le5 : s1.heap.objs.size ≤ c := by
          show N ≤ c
          omega
        exact I1.fpOk le5 (I1.hok.fresh le5)
      refine zip_begins2 (begins_list a its.toArray) (begins_tuple b its2.toArray) p1.isList p2 fun h' hz hTI hTO h1 h2 hsz hk => wpAny_pyIter_zip hz ?_
      have I2 : Inv X pins σ H1 { s1 with heap := h' } := I1.kept (t' := s1.toks) hk
      exact ⟨N + 4, [N + 4, N + 2, N + 3, N, N + 1], _, _, H1, rfl, I2, turn_zipM (PySem.W.ktu_apart s1.heap.objs.size a b p1.lt (Heap.lt_size ho2)), ⟨hz, hTI, ⟨_, _, hTO⟩, ⟨_, h1, rfl, rfl⟩, ⟨_, h2, rfl, rfl⟩⟩, new5, q⟩
theorem walk_zipM {K : PySem.W.Frag} {a b : Addr} {xs ys : List V} {n : Nat} (hn : xs.length = n) (hm : ys.length = n) : Walk (ItzM K a b) n (fun H => SqL K H a xs ∧ SqT K H b ys) (YPair (fun i => xs[i]?) (fun i => ys[i]?)) := by
  refine ⟨fun i H hi h => ⟨xs, ys, xs[i]'(by omega), ys[i]'(by omega), h.1, h.2, List.getElem?_eq_getElem _, List.getElem?_eq_getElem _⟩, fun H h => ⟨xs, ys, h.1, h.2, by omega, by omega, by omega⟩, fun i H x H' hi h y => ?_⟩
  obtain ⟨T, z, z2, e1, e2, e3, e4, e5⟩ := y
  exact ⟨T, z, z2, e1, e2, e3, e4 xs h.1, e5 ys h.2⟩
end L2

namespace K06
open PySem L2 RZ Lat
/-- a list of ints -/
abbrev IsL (H : Hp) (a : Addr) (v : Vec) : Prop := H a = some (.lst (v.map V.int))
/-- the keys are places, each once -/
def KeyP (kvs : List (Key × V)) (n : Nat) : Prop := ∃ ks : List Nat, kvs.map (·.1) = ks.map (fun p => (Sum.inl ((p : Nat) : Int) : Key)) ∧ ks.Nodup ∧ ∀ p ∈ ks, p < n
theorem KeyP.nil (n : Nat) : KeyP [] n := ⟨[], rfl, .nil, fun p h => nomatch h⟩
theorem KeyP.put {kvs : List (Key × V)} {n p : Nat} {y : V} (h : KeyP kvs n) (hp : p < n) : KeyP (putK kvs (Sum.inl ((p : Nat) : Int)) y) n := by
  obtain ⟨ks, e, nd, lt⟩ := h
  unfold putK
  split
  · refine ⟨ks, ?_, nd, lt⟩
    rw [← e, List.map_map]
    refine List.map_congr_left fun kv _ => ?_
    show (if kv.1 = _ then (kv.1, y) else kv).1 = kv.1
    split <;> rfl
  · next hn =>
    refine ⟨ks ++ [p], by rw [List.map_append, List.map_append, e]; rfl, ?_, fun q hq => ?_⟩
    · refine List.nodup_append.mpr ⟨nd, List.nodup_cons.mpr ⟨List.not_mem_nil, .nil⟩, fun a ha b hb z => ?_⟩
      rw [List.mem_singleton.mp hb] at z
      subst z
      have q1 : (Sum.inl ((a : Nat) : Int) : Key) ∈ kvs.map (·.1) := by rw [e]; exact List.mem_map.mpr ⟨a, ha, rfl⟩
      obtain ⟨kv, hkv, ek⟩ := List.mem_map.mp q1
      exact hn (List.any_eq_true.mpr ⟨kv, hkv, decide_eq_true ek⟩)
    · rcases List.mem_append.mp hq with hq | hq
      · exact lt q hq
      · rw [List.mem_singleton.mp hq]; exact hp
/-- a dict of rows by their places -/
def Tb (F : Addr → Prop) (H : Hp) (d : Addr) (L : Nat) (t : Tab) : Prop := ∃ kvs : List (Key × V), H d = some (.dK kvs) ∧ kvs.length ≤ L ∧ (∀ p : Nat, (∀ r, t[p]? = some (some r) → ∃ a, valV kvs (Sum.inl ((p : Nat) : Int)) = some (.ref a) ∧ F a ∧ IsL H a r) ∧ ((∀ r, t[p]? ≠ some (some r)) → valV kvs (Sum.inl ((p : Nat) : Int)) = none)) ∧ KeyP kvs t.length
theorem putK_len {kvs : List (Key × V)} {k : Key} {v : V} : (putK kvs k v).length ≤ kvs.length + 1 := by
  unfold putK
  split
  · rw [List.length_map]; exact Nat.le_succ _
  · rw [List.length_append]; exact Nat.le_refl _
theorem Tb.but {F : Addr → Prop} {H H' : Hp} {b d : Addr} {L : Nat} {t : Tab} (hb : Box H b) (hF : ∀ a, F a → a ≠ b) (s : But b H H') (h : Tb F H d L t) : Tb F H' d L t := by
  obtain ⟨kvs, h1, h2, h3, h4⟩ := h
  obtain ⟨y1, y2, y3, hb'⟩ := hb
  refine ⟨kvs, s _ _ (ne_of h1 hb' fun z => nomatch z) h1, h2, fun p => ⟨fun r hr => ?_, (h3 p).2⟩, h4⟩
  obtain ⟨a, q1, q3, q2⟩ := (h3 p).1 r hr
  exact ⟨a, q1, q3, s _ _ (hF a q3) q2⟩
theorem Tb.keep {F : Addr → Prop} {H H' : Hp} {d : Addr} {L : Nat} {t : Tab} (s : Same H H') (h : Tb F H d L t) : Tb F H' d L t := by
  obtain ⟨kvs, h1, h2, h3, h4⟩ := h
  refine ⟨kvs, s _ _ h1, h2, fun p => ⟨fun r hr => ?_, (h3 p).2⟩, h4⟩
  obtain ⟨a, q1, q3, q2⟩ := (h3 p).1 r hr
  exact ⟨a, q1, q3, s _ _ q2⟩
theorem Tb.more {F : Addr → Prop} {H : Hp} {d : Addr} {L M : Nat} {t : Tab} (h : Tb F H d L t) (l : L ≤ M) : Tb F H d M t := by
  obtain ⟨kvs, h1, h2, h3⟩ := h
  exact ⟨kvs, h1, Nat.le_trans h2 l, h3⟩
theorem key_ne {p q : Nat} (h : p ≠ q) : (Sum.inl ((p : Nat) : Int) : Key) ≠ Sum.inl ((q : Nat) : Int) := fun z => h (by injection z with z; omega)
/-- a row is put at its place -/
theorem Tb.put {F : Addr → Prop} {H : Hp} {d a : Addr} {L p : Nat} {t : Tab} {r : Vec} {kvs : List (Key × V)} (h1 : H d = some (.dK kvs)) (h2 : kvs.length ≤ L)
    (h3 : ∀ p : Nat, (∀ r, t[p]? = some (some r) → ∃ a, valV kvs (Sum.inl ((p : Nat) : Int)) = some (.ref a) ∧ F a ∧ IsL H a r) ∧ ((∀ r, t[p]? ≠ some (some r)) → valV kvs (Sum.inl ((p : Nat) : Int)) = none)) (h4 : KeyP kvs t.length) (fa : F a) (ha : IsL H a r) (hp : p < t.length) :
    Tb F (upd H d (.dK (putK kvs (Sum.inl ((p : Nat) : Int)) (.ref a)))) d (L + 1) (t.set p (some r)) := by
  have keepL : ∀ b (v : Vec), IsL H b v → IsL (upd H d (.dK (putK kvs (Sum.inl ((p : Nat) : Int)) (.ref a)))) b v := fun b v q => (upd_ne (ne_of q h1 fun z => nomatch z)).trans q
  refine ⟨_, upd_same, Nat.le_trans putK_len (Nat.succ_le_succ h2), fun q => ?_, by rw [List.length_set]; exact h4.put hp⟩
  rw [valV_put]
  by_cases e : q = p
  · subst e
    rw [if_pos rfl, List.getElem?_set_self hp]
    refine ⟨fun s hs => ?_, fun hs => absurd rfl (hs r)⟩
    cases hs
    exact ⟨a, rfl, fa, keepL a r ha⟩
  · rw [if_neg (key_ne e), List.getElem?_set_ne (fun z => e z.symm)]
    refine ⟨fun s hs => ?_, (h3 q).2⟩
    obtain ⟨b, q1, q3, q2⟩ := (h3 q).1 s hs
    exact ⟨b, q1, q3, keepL b s q2⟩
theorem intL_at {v : Vec} {i : Nat} (h : i < v.length) : atI (v.map V.int) ((i : Nat) : Int) = some (V.int (itm v i)) := atI_nat (by rw [List.getElem?_map, itm_of h]; rfl)
theorem negV_map (v : Vec) : negV v = v.map fun n => 0 - n := rfl
theorem subV_eq (v w : Vec) (t : Int) : List.zipWith (fun a b : Int => a - t * b) v w = addV v (-t) w := by
  unfold addV
  congr 1
  funext a b
  rw [Int.neg_mul]; omega
theorem drop_at {t : Tab} {i : Nat} {o : Option Vec} (h : t[i]? = some o) : t.drop i = o :: t.drop (i + 1) := by
  have hlt := (List.getElem?_eq_some_iff.mp h).1
  rw [List.drop_eq_getElem_cons hlt, (List.getElem?_eq_some_iff.mp h).2]
theorem set_drop {t : Tab} {i : Nat} {o : Option Vec} : (t.set i o).drop (i + 1) = t.drop (i + 1) := by
  rw [List.drop_set]; rw [if_pos (Nat.lt_succ_self i)]
theorem set_take {t : Tab} {i : Nat} {o : Option Vec} (h : i < t.length) : (t.set i o).take (i + 1) = t.take i ++ [o] := by
  rw [List.take_add_one, List.getElem?_set_self h, List.take_set_of_le (Nat.le_refl i)]; rfl
section
variable {P : Program} {w : World} {K : PySem.W.Frag} {mg : Str → Option Value} {base : Heap}
abbrev s_law_put : Stmt := top 41
abbrev n_law_put : List Str := ["_law_known", "_law_row", "_law_left_here", "_law_place", "_law_here", "_law_times", "_law_rest", "_law_number_here", "_law_one", "_law_two"]
theorem sc_law_put : FnScope n_law_put ["_law_known", "_law_row"] (defScope s_law_put) := ⟨rfl, rfl, rfl, by decide +kernel, rfl, by decide +kernel, by decide +kernel⟩
def spPut : Sp := fun vs H Q _ => ∃ (F : Addr → Prop) (d b : Addr) (L : Nat) (t : Tab) (v : Vec), vs = [.ref d, .ref b] ∧ (∀ a, H a = none → F a) ∧ Tb F H d L t ∧ IsV H b v ∧ v.length = t.length ∧ (∀ r, some r ∈ t → r.length = v.length) ∧ v.length ≤ 1000 ∧ L ≤ 100000 ∧ OkPut t 0 v ∧ ∀ H', But d H H' → Tb F H' d (L + v.length) (putL t 0 v) → Q .non H'
theorem ok_put (T : Txt mg) (F : DefAt K mg "_law_put" s_law_put ["_law_known", "_law_row"]) : Has P w K mg base 1 "_law_put" ["_law_known", "_law_row"] spPut := by
  refine F.has sc_law_put (fun vs H Q E h => ?_) (fun f cdv A outer s H vs Q E hr h => ?_)
  · obtain ⟨F, d, b, L, t, v, rfl, _⟩ := h
    rfl
  · obtain ⟨F, d, b, L, t, v, rfl, hF, ht, hb, lt, wt, l1, hL, ok, k⟩ := h
    have hu := hu_of hr
    refine ⟨_, (pss_cons (ps_set (i := 2) sc_law_put.nd rfl (Or.inl rfl) (pe_callTy call_list_of (by rfl) T.z_list (by decide +kernel) (pa_cons (pv 1) pa_nil)))
      (pss_one (ps_for PassesOwn.never rfl (pi_range1 rfl T.z_range (pa_cons (pe_callB call_len (by rfl) T.z_len (by decide +kernel) (pa_cons (pv 2) pa_nil)) pa_nil)) (pg_name (i := 3) sc_law_put.nd rfl (Or.inl rfl)) (pss_cons (ps_if (PW.pt (pw_and (pt_cmpR op_ne (pe_ix ix_list (pv 2) (pv 3) (fun _ _ => rfl)) pe_int (nomark _)) (pw_and1 (pt_cmp (pc_dnotin hu (pv 3) (pv 0)))))) (pss_cons (ps_if (pt_cmpR op_lt (pe_ix ix_list (pv 2) (pv 3) (fun _ _ => rfl)) pe_int (nomark _)) (pss_one (ps_setLc (i := 2) (own := [("_law_number_here", 7)]) (g := gName 7) (by rfl) sc_law_put.nd rfl rfl (sw_true rfl rfl rfl (by decide +kernel)) (pi_list (pv 2)) (blkOk_by (own := [("_law_number_here", 7)]) (N := n_law_put) (sc := defScope s_law_put) (by decide +kernel)) (fun _ _ _ _ _ => (pg_name (i := 7) sc_law_put.nd rfl (Or.inl rfl))) (fun _ _ _ _ _ => pts_nil) (fun _ _ _ _ _ => (pe_op op_sub pe_int (pv 7))))) pss_nil)
      (pss_cons (ps_dput hu (pv 0) (pv 3) (pv 2) rfl)
      (pss_one ps_retN))) pss_nil)
      (pss_one (ps_if (pt_cmpR op_ne (pe_ix ix_list (pv 2) (pv 3) (fun _ _ => rfl)) pe_int (nomark _)) (pss_cons (ps_set (i := 4) sc_law_put.nd rfl (Or.inl rfl) (pe_dget hu (pv 0) (pv 3) (fun _ _ => rfl)))
      (pss_cons (ps_while PassesOwn.never (pt_cmpR op_ne (pe_ix ix_list (pv 2) (pv 3) (fun _ _ => rfl)) pe_int (nomark _)) (pss_cons (ps_set (i := 5) sc_law_put.nd rfl (Or.inr rfl) (pe_op op_fdivZ (pe_ix ix_list (pv 4) (pv 3) (fun _ _ => rfl)) (pe_ix ix_list (pv 2) (pv 3) (fun _ _ => rfl))))
      (pss_cons (ps_setLc (i := 6) (own := [("_law_one", 8), ("_law_two", 9)]) (g := gTup K 2 (gCons (gName 8) (gCons (gName 9) gNil))) (by rfl) sc_law_put.nd rfl rfl (sw_true rfl rfl rfl (by decide +kernel)) (pi_zipA (by rfl) T.z_zip (pa_cons (pv 4) (pa_cons (pv 2) pa_nil))) (blkOk_by (own := [("_law_one", 8), ("_law_two", 9)]) (N := n_law_put) (sc := defScope s_law_put) (by decide +kernel)) (fun _ _ _ _ _ => (pg_tup rfl (pgs_cons (pg_name (i := 8) sc_law_put.nd rfl (Or.inl rfl)) (pgs_cons (pg_name (i := 9) sc_law_put.nd rfl (Or.inl rfl)) pgs_nil)))) (fun _ _ _ _ _ => pts_nil) (fun _ _ _ _ _ => (pe_op op_sub (pv 8) (pe_op op_mulX (pv 5) (pv 9)))))
      (pss_one (ps_par (i := 4) (j := 2) (by rfl) sc_law_put.nd rfl rfl (by decide) rfl rfl (pa_cons (pv 2) (pa_cons (pv 6) pa_nil)) (by rfl))))))
      (C8.pss_cut (ps_if (pt_cmpR op_lt (pe_ix ix_list (pv 4) (pv 3) (fun _ _ => rfl)) pe_int (nomark _)) (pss_one (ps_setLc (i := 4) (own := [("_law_number_here", 7)]) (g := gName 7) (by rfl) sc_law_put.nd rfl rfl (sw_true rfl rfl rfl (by decide +kernel)) (pi_list (pv 4)) (blkOk_by (own := [("_law_number_here", 7)]) (N := n_law_put) (sc := defScope s_law_put) (by decide +kernel)) (fun _ _ _ _ _ => (pg_name (i := 7) sc_law_put.nd rfl (Or.inl rfl))) (fun _ _ _ _ _ => pts_nil) (fun _ _ _ _ _ => (pe_op op_sub pe_int (pv 7))))) pss_nil)
      (pss_one (ps_dput hu (pv 0) (pv 3) (pv 4) rfl))))) pss_nil)))))), ?_⟩
    refine ⟨_, rfl, b, _, rfl, .inr (SqT.of hb), fun l0 hl0 => ?_⟩
    obtain ⟨s0, hl0'⟩ := new_at (o := .lst (v.map V.int)) hl0
    have lm : ∀ u : Vec, (u.map V.int).length = u.length := fun u => List.length_map ..
    refine ⟨_, rfl, _, _, rfl, .inl ⟨_, SqL.of hl0', rfl⟩, ?_⟩
    rw [lm]
    refine ⟨_, rfl, by omega, by omega, for_range (lo := 0) (n := v.length) (fun i σ H' => ∃ (l : Addr) (u : Vec) (cur : Tab) (x3 x4 x5 x6 x7 x8 x9 : Option V), σ = [some (.ref d), some (.ref b), some (.ref l), x3, x4, x5, x6, x7, x8, x9] ∧ But d H H' ∧ F l ∧ IsL H' l u ∧ u.length = v.length ∧
      Tb F H' d (L + i) cur ∧ cur.length = t.length ∧ (∀ r, some r ∈ cur → r.length = v.length) ∧ OkPut (cur.drop i) i u ∧ cur.take i ++ putL (cur.drop i) i u = putL t 0 v) ⟨l0, v, t, _, _, _, _, _, _, _, rfl, Same.but s0, hF _ hl0, hl0', rfl, ht.keep s0, rfl, wt, ok, rfl⟩ ?_ ?_⟩
    · rintro i σ H1 hi ⟨l, u, cur, x3, x4, x5, x6, x7, x8, x9, rfl, bu, fl, hl, lu, htb, lc, wc, okc, ec⟩
      have ei : (0 : Int) + ((i : Nat) : Int) = ((i : Nat) : Int) := by omega
      have hiu : i < u.length := by omega
      obtain ⟨o, eo⟩ : ∃ o, cur[i]? = some o := ⟨_, List.getElem?_eq_getElem (by omega)⟩
      have ed := drop_at eo
      rw [ed] at okc ec
      show gName 3 (V.int (0 + ((i : Nat) : Int))) _ _ _
      rw [ei]
      refine ⟨_, rfl, _, rfl, l, _, _, _, rfl, rfl, SqL.of hl, intL_at hiu, rfl, _, rfl, ?_⟩
      by_cases h0 : itm u i = 0
      · -- a zero: on
        rcases okc with ⟨_, okn⟩ | ⟨hz, _⟩
        · have ep : putL (o :: cur.drop (i + 1)) i u = o :: putL (cur.drop (i + 1)) (i + 1) u := by
            conv => lhs; unfold putL
            rw [if_pos h0]
          rw [ep] at ec
          show if (!decide (V.int (itm u i) = V.int 0)) = true then _ else _
          rw [h0, decide_eq_true rfl]
          refine ⟨_, rfl, _, rfl, l, _, _, _, rfl, rfl, SqL.of hl, intL_at hiu, rfl, _, rfl, ?_⟩
          show if (!decide (V.int (itm u i) = V.int 0)) = true then _ else _
          rw [h0, decide_eq_true rfl]
          refine ⟨l, u, cur, _, _, _, _, _, _, _, rfl, bu, fl, hl, lu, htb.more (by omega), lc, wc, okn, ?_⟩
          rw [List.take_add_one, eo, List.append_assoc]; exact ec
        · exact absurd h0 hz
      · show if (!decide (V.int (itm u i) = V.int 0)) = true then _ else _
        rw [decide_eq_false (fun z => h0 (V.int.inj z))]
        obtain ⟨kvs, hd, hk, hv, hkp⟩ := id htb
        have hF1 : ∀ {H2 : Hp} {c : Addr}, Same H1 H2 → H2 c = none → F c := fun {H2 c} s2 hc => hF _ (by
          cases q : H c with
          | none => rfl
          | some o =>
            have ncd : c ≠ d := fun z => by rw [z, s2 _ _ hd] at hc; cases hc
            rw [s2 _ _ (bu c o ncd q)] at hc; cases hc)
        have upL : ∀ {H' : Hp} {kvs' : List (Key × V)} {c : Addr} {z : Vec}, H' d = some (.dK kvs) → IsL H' c z → IsL (upd H' d (.dK kvs')) c z := fun hd' q => (upd_ne (ne_of q hd' fun z => nomatch z)).trans q
        cases o with
        | none =>
          have vn : valV kvs (Sum.inl ((i : Nat) : Int)) = none := (hv i).2 fun r q => by rw [eo] at q; cases q
          have ep : putL (none :: cur.drop (i + 1)) i u = some (posAt u i) :: cur.drop (i + 1) := by
            conv => lhs; unfold putL
            rw [if_neg h0]
          rw [ep] at ec
          have eset : cur.set i (some (posAt u i)) = putL t 0 v := by rw [List.set_eq_take_append_cons_drop, if_pos (by omega)]; exact ec
          refine ⟨_, rfl, _, rfl, d, _, rfl, DGet.k (k := Sum.inl ((i : Nat) : Int)) hd, _, rfl, ?_⟩
          rw [vn]
          refine ⟨_, rfl, _, rfl, l, _, _, _, rfl, rfl, SqL.of hl, intL_at hiu, _, _, rfl, rfl, _, rfl, ?_⟩
          have fin : ∀ (H2 : Hp) (c : Addr), Same H1 H2 → F c → IsL H2 c (posAt u i) → Q .non (upd H2 d (.dK (putK kvs (Sum.inl ((i : Nat) : Int)) (.ref c)))) := fun H2 c s2 fc hc => by
            have q := Tb.put (p := i) (s2 _ _ hd) hk (fun p => ⟨fun r hr => by obtain ⟨a, z1, z3, z2⟩ := (hv p).1 r hr; exact ⟨a, z1, z3, s2 _ _ z2⟩, (hv p).2⟩) hkp fc hc (by omega)
            rw [eset] at q
            exact k _ (fun y o ny z => by rw [upd_ne ny]; exact s2 _ _ (bu y o ny z)) (q.more (by omega))
          have len : kvs.length < sizeLine := Nat.lt_of_le_of_lt (Nat.le_trans hk (by omega : L + i ≤ 200000)) (by decide)
          by_cases neg : itm u i < 0
          · show if decide (itm u i < 0) = true then _ else _
            rw [decide_eq_true neg]
            refine ⟨_, rfl, l, rfl, ⟨_, SqL.of hl⟩, fun D hD => lc_it (walk_list (xs := u.map V.int)) (fun j H' => Same H1 H' ∧ H' D = some (.lst (((negV u).take j).map V.int))) ⟨(new_at hD).1, upd_same⟩ (fun j H' _ q => SqL.of (q.1 _ _ hl)) ?_ ?_⟩
            · rintro j y H' H'' hj ⟨sm, hD'⟩ ⟨rfl, ey⟩
              obtain ⟨n, en, rfl⟩ := map_at ey
              refine ⟨rfl, ?_⟩
              refine ⟨_, rfl, _, _, rfl, rfl, ?_⟩
              refine ⟨_, hD', by rw [List.length_map, List.length_take, negV_len]; exact Nat.lt_of_le_of_lt (Nat.le_trans (Nat.min_le_right _ _) (by omega : u.length ≤ 1000)) (by decide), fun y o z => ?_, ?_⟩
              · rw [upd_ne (ne_of_none z hD)]
                exact sm _ _ z
              · rw [upd_same, take_snoc (n := 0 - n)]
                rw [negV_map, List.getElem?_map, en]; rfl
            · rintro H2 ⟨s2, hD2⟩
              rw [lm, ← negV_len u, List.take_length] at hD2
              have hp : posAt u i = negV u := by unfold posAt; rw [if_pos neg]
              refine ⟨_, rfl, _, rfl, _, rfl, d, _, rfl, DPut.k (k := Sum.inl ((i : Nat) : Int)) (s2 _ _ hd) len, ?_⟩
              exact fin H2 D s2 (hF1 (Same.refl _) hD) (by rw [hp]; exact hD2)
          · show if decide (itm u i < 0) = true then _ else _
            rw [decide_eq_false neg]
            have hp : posAt u i = u := by unfold posAt; rw [if_neg neg]
            refine ⟨_, rfl, _, rfl, _, rfl, d, _, rfl, DPut.k (k := Sum.inl ((i : Nat) : Int)) hd len, ?_⟩
            exact fin H1 l (Same.refl _) fl (by rw [hp]; exact hl)
        | some r =>
          obtain ⟨a, vs1, fa, ha⟩ := (hv i).1 r eo
          have ep : putL (some r :: cur.drop (i + 1)) i u = some (posAt (clear r u i).1 i) :: putL (cur.drop (i + 1)) (i + 1) (clear r u i).2 := by
            conv => lhs; unfold putL
            rw [if_neg h0]
          rw [ep] at ec
          rcases okc with ⟨hz, _⟩ | ⟨_, okr, okn⟩
          · exact absurd hz h0
          refine ⟨_, rfl, _, rfl, d, _, rfl, DGet.k (k := Sum.inl ((i : Nat) : Int)) hd, _, rfl, ?_⟩
          rw [vs1]
          refine ⟨_, rfl, _, rfl, l, _, _, _, rfl, rfl, SqL.of hl, intL_at hiu, rfl, _, rfl, ?_⟩
          show if (!decide (V.int (itm u i) = V.int 0)) = true then _ else _
          rw [decide_eq_false (fun z => h0 (V.int.inj z))]
          refine ⟨_, rfl, _, rfl, d, .ref a, rfl, by rw [← vs1]; exact DGet.k (k := Sum.inl ((i : Nat) : Int)) hd, ?_⟩
          have lr : r.length = v.length := wc r (List.mem_of_getElem? eo)
          refine ⟨fun m σ H' => ∃ (x y : Addr) (r' v' : Vec) (x5 x6 x7 x8 x9 : Option V), σ = [some (.ref d), some (.ref b), some (.ref y), some (.int ((i : Nat) : Int)), some (.ref x), x5, x6, x7, x8, x9] ∧ Same H1 H' ∧ F x ∧ F y ∧ IsL H' x r' ∧ IsL H' y v' ∧ r'.length = v.length ∧ v'.length = v.length ∧ OkClr m r' v' i ∧ clr m r' v' i = clear r u i, ⟨_, a, l, r, u, _, _, _, _, _, rfl, Same.refl _, fa, fl, ha, hl, lr, lu, okr, rfl⟩, ?_⟩
          rintro m σ H' ⟨x, y, r', v', x5, x6, x7, x8, x9, rfl, sm, fx, fy, hx, hy, lr', lv', ok', e'⟩
          have hiv : i < v'.length := by omega
          refine ⟨_, rfl, _, rfl, y, _, _, _, rfl, rfl, SqL.of hy, intL_at hiv, rfl, _, rfl, ?_⟩
          by_cases z0 : itm v' i = 0
          · have e2 : clr m r' v' i = (r', v') := by
              cases m with
              | zero => rfl
              | succ m => unfold clr; rw [if_pos z0]
            rw [e2] at e'
            have er : r' = (clear r u i).1 := by rw [← e']
            have ev : v' = (clear r u i).2 := by rw [← e']
            show if (!decide (V.int (itm v' i) = V.int 0)) = true then _ else _
            rw [z0, decide_eq_true rfl]
            refine ⟨fun σ H2 => ∃ (c : Addr) (x5 x6 x7 x8 x9 : Option V), σ = [some (.ref d), some (.ref b), some (.ref y), some (.int ((i : Nat) : Int)), some (.ref c), x5, x6, x7, x8, x9] ∧ Same H' H2 ∧ F c ∧ IsL H2 c (posAt (clear r u i).1 i), ?_, ?_⟩
            · -- the sign
              have hir : i < r'.length := by omega
              refine ⟨_, rfl, _, rfl, x, _, _, _, rfl, rfl, SqL.of hx, intL_at hir, _, _, rfl, rfl, _, rfl, ?_⟩
              by_cases neg : itm r' i < 0
              · show if decide (itm r' i < 0) = true then _ else _
                rw [decide_eq_true neg]
                refine ⟨_, rfl, x, rfl, ⟨_, SqL.of hx⟩, fun D hD => lc_it (walk_list (xs := r'.map V.int)) (fun j H2 => Same H' H2 ∧ H2 D = some (.lst (((negV r').take j).map V.int))) ⟨(new_at hD).1, upd_same⟩ (fun j H2 _ q => SqL.of (q.1 _ _ hx)) ?_ ?_⟩
                · rintro j z H2 H'' hj ⟨sm2, hD'⟩ ⟨rfl, ey⟩
                  obtain ⟨n, en, rfl⟩ := map_at ey
                  refine ⟨rfl, ?_⟩
                  refine ⟨_, rfl, _, _, rfl, rfl, ?_⟩
                  refine ⟨_, hD', by rw [List.length_map, List.length_take, negV_len]; exact Nat.lt_of_le_of_lt (Nat.le_trans (Nat.min_le_right _ _) (by omega : r'.length ≤ 1000)) (by decide), fun y o z => ?_, ?_⟩
                  · rw [upd_ne (ne_of_none z hD)]
                    exact sm2 _ _ z
                  · rw [upd_same, take_snoc (n := 0 - n)]
                    rw [negV_map, List.getElem?_map, en]; rfl
                · rintro H2 ⟨s2, hD2⟩
                  rw [lm, ← negV_len r', List.take_length] at hD2
                  have hp : posAt (clear r u i).1 i = negV r' := by rw [← er]; unfold posAt; rw [if_pos neg]
                  exact ⟨D, _, _, _, _, _, rfl, s2, hF1 sm hD, by rw [hp]; exact hD2⟩
              · show if decide (itm r' i < 0) = true then _ else _
                rw [decide_eq_false neg]
                have hp : posAt (clear r u i).1 i = r' := by rw [← er]; unfold posAt; rw [if_neg neg]
                exact ⟨x, _, _, _, _, _, rfl, Same.refl _, fx, by rw [hp]; exact hx⟩
            · rintro σ H2 ⟨c, x5, x6, x7, x8, x9, rfl, s2, fc, hc⟩
              have s12 := sm.trans s2
              have len : kvs.length < sizeLine := Nat.lt_of_le_of_lt (Nat.le_trans hk (by omega : L + i ≤ 200000)) (by decide)
              refine ⟨_, rfl, _, rfl, _, rfl, d, _, rfl, DPut.k (k := Sum.inl ((i : Nat) : Int)) (s12 _ _ hd) len, ?_⟩
              have q := Tb.put (p := i) (s12 _ _ hd) hk (fun p => ⟨fun r hr => by obtain ⟨a, z1, z3, z2⟩ := (hv p).1 r hr; exact ⟨a, z1, z3, s12 _ _ z2⟩, (hv p).2⟩) hkp fc hc (by omega)
              refine ⟨y, v', _, _, _, _, _, _, _, _, rfl, fun z o nz w => by rw [upd_ne nz]; exact s12 _ _ (bu z o nz w), fy, upL (s12 _ _ hd) (s2 _ _ hy), lv', q, by rw [List.length_set]; exact lc, fun s hs => ?_, ?_, ?_⟩
              · rcases List.mem_or_eq_of_mem_set hs with hs | hs
                · exact wc s hs
                · cases hs
                  rw [posAt_len, ← er]; exact lr'
              · rw [set_drop, ev]; exact okn
              · rw [set_drop, set_take (by omega), List.append_assoc, ev]; exact ec
          · show if (!decide (V.int (itm v' i) = V.int 0)) = true then _ else _
            rw [decide_eq_false (fun z => z0 (V.int.inj z))]
            cases m with
            | zero => exact absurd ok' z0
            | succ m =>
              obtain ok' | ⟨o1, o2, o3⟩ := ok'
              · exact absurd ok' z0
              · have e3 : clr (m + 1) r' v' i = clr m v' (addV r' (-((itm r' i).fdiv (itm v' i))) v') i := by rw [clr, if_neg z0]
                rw [e3] at e'
                have hir : i < r'.length := by omega
                refine ⟨fun σ2 H2 => ∃ (x y : Addr) (r' v' : Vec) (x5 x6 x7 x8 x9 : Option V), σ2 = [some (.ref d), some (.ref b), some (.ref y), some (.int ((i : Nat) : Int)), some (.ref x), x5, x6, x7, x8, x9] ∧ Same H1 H2 ∧ F x ∧ F y ∧ IsL H2 x r' ∧ IsL H2 y v' ∧ r'.length = v.length ∧ v'.length = v.length ∧ OkClr m r' v' i ∧ clr m r' v' i = clear r u i, fun σ2 H2 q => ⟨m, Nat.lt_succ_self m, q⟩, ?_⟩
                refine ⟨_, rfl, _, rfl, x, _, _, _, rfl, rfl, SqL.of hx, intL_at hir, _, rfl, _, rfl, y, _, _, _, rfl, rfl, SqL.of hy, intL_at hiv, _, _, rfl, rfl, o1, ?_⟩
                have ln : min (r'.map V.int).length (v'.map V.int).length = v.length := by rw [lm, lm, lr', lv', Nat.min_self]
                have la : (addV r' (-((itm r' i).fdiv (itm v' i))) v').length = v.length := (addV_len (lr'.trans lv'.symm)).trans lr'
                refine ⟨_, rfl, _, rfl, x, y, _, _, rfl, .inl ⟨SqL.of hx, SqL.of hy, fun D hD => lc_it (walk_zip (xs := r'.map V.int) (ys := v'.map V.int) ln.symm) (fun j H2 => Same H' H2 ∧ H2 D = some (.lst (((addV r' (-((itm r' i).fdiv (itm v' i))) v').take j).map V.int))) ⟨(new_at hD).1, upd_same⟩ (fun j H2 _ q => ⟨SqL.of (q.1 _ _ hx), SqL.of (q.1 _ _ hy)⟩) ?_ ?_⟩⟩
                · rintro j z H2 H'' hj ⟨sm2, hD'⟩ ⟨q, y1, y2, rfl, hq, rfl, e1, e2⟩
                  obtain ⟨n1, en1, rfl⟩ := map_at e1
                  obtain ⟨n2, en2, rfl⟩ := map_at e2
                  refine ⟨q, _, rfl, SqT.of upd_same, rfl, _, _, rfl, _, _, rfl, rfl, rfl, ?_⟩
                  refine ⟨_, rfl, _, rfl, _, rfl, _, _, rfl, rfl, mul_neg (o2 n2 (List.mem_of_getElem? en2)), _, _, rfl, rfl, ?_⟩
                  have nDq : D ≠ q := ne_of_none hD' hq
                  refine ⟨_, (upd_ne nDq).trans hD', by rw [List.length_map, List.length_take]; exact Nat.lt_of_le_of_lt (Nat.le_trans (Nat.min_le_right _ _) (la ▸ l1)) (by decide), fun y o z => ?_, ?_⟩
                  · rw [upd_ne (ne_of_none z hD)]
                    exact (new_at hq).1 _ _ (sm2 _ _ z)
                  · rw [upd_same, take_snoc (n := n1 - (itm r' i).fdiv (itm v' i) * n2)]
                    rw [← subV_eq, List.getElem?_zipWith, en1, en2]
                · rintro H2 ⟨s2, hD2⟩
                  rw [take_all la] at hD2
                  exact ⟨_, rfl, _, rfl, _, _, rfl, y, D, _, _, _, _, _, _, _, rfl, sm.trans s2, fy, hF1 sm hD, s2 _ _ hy, hD2, lv', la, o3, e'⟩
    · rintro σ H1 ⟨l, u, cur, x3, x4, x5, x6, x7, x8, x9, rfl, bu, fl, hl, lu, htb, lc, wc, okc, ec⟩
      have e1 : cur.drop v.length = [] := List.drop_of_length_le (by omega)
      have e2 : cur.take v.length = cur := List.take_of_length_le (by omega)
      rw [e1, e2] at ec
      have e3 : cur = putL t 0 v := by rw [← ec]; exact (List.append_nil cur).symm
      rw [← e3] at k
      exact k _ bu htb
end
end K06

namespace K06
open PySem L2 RZ Lat
def rowD (v : Vec) : PyData := .tuple (v.map PyData.int)
theorem ints_dp {K : PySem.W.Frag} {H : Hp} : ∀ v : Vec, DpAll K H (v.map V.int) (v.map PyData.int)
  | [] => .nil
  | n :: v => .cons (.int n) (ints_dp v)
theorem rows_dp {K : PySem.W.Frag} {H : Hp} {as : List V} {rs : List Vec} (h : Paired (fun x v => ∃ a, x = V.ref a ∧ IsV H a v) as rs) : DpAll K H as (rs.map rowD) := by
  induction h with
  | nil => exact .nil
  | cons r _ ih =>
    obtain ⟨a, rfl, q⟩ := r
    exact .cons (.tup (SqT.of q) (ints_dp _)) ih
theorem rows_shaped (rs : List Vec) : SeqAt.shaped (.list (rs.map rowD)) = true := by
  have h1 : ∀ v : Vec, PyData.canLayAll0 (v.map PyData.int) = true ∧ PyData.depthAll (v.map PyData.int) = 0 := by
    intro v
    induction v with
    | nil => exact ⟨rfl, rfl⟩
    | cons n v ih => exact ⟨by simp only [List.map_cons, PyData.canLayAll0, PyData.canLay0, ih.1, Bool.and_self], by simp only [List.map_cons, PyData.depthAll, PyData.depth, ih.2]; rfl⟩
  have h2 : PyData.canLayAll0 (rs.map rowD) = true ∧ PyData.depthAll (rs.map rowD) ≤ 1 := by
    induction rs with
    | nil => exact ⟨rfl, Nat.zero_le _⟩
    | cons v rs ih =>
      refine ⟨by simp only [List.map_cons, PyData.canLayAll0, rowD, PyData.canLay0, (h1 v).1, ih.1, Bool.and_self], ?_⟩
      have := (h1 v).2
      simp only [List.map_cons, PyData.depthAll, rowD, PyData.depth]
      omega
  show (PyData.canLay0 (.list (rs.map rowD)) && decide (PyData.depth (.list (rs.map rowD)) ≤ 64)) = true
  rw [Bool.and_eq_true]
  exact ⟨by simp only [PyData.canLay0]; exact h2.1, decide_eq_true (by simp only [PyData.depth]; omega)⟩
theorem LatAt.but {C b : Addr} {H H' : Hp} {x : Addr} {n : Nat} {rs : List Vec} (hb : Box H b) (s : But b H H') (h : LatAt C H x n rs) : LatAt C H' x n rs := by
  obtain ⟨dx, p, os, h1, h2, h3⟩ := h
  obtain ⟨y1, y2, y3, hb'⟩ := id hb
  exact ⟨dx, p, os, s _ _ (ne_of h1 hb' fun z => nomatch z) h1, s _ _ (ne_of h2 hb' fun z => nomatch z) h2, h3.but hb s⟩
theorem mem_rows {rs : List Vec} {n : Nat} {B : Int} (h1 : ∀ r ∈ rs, r.length = n) (h2 : ∀ r ∈ rs, Within B r) : ∀ r ∈ rs, r.length = n ∧ Within B r := fun r hr => ⟨h1 r hr, h2 r hr⟩
end K06

namespace Lat
theorem EchT.wid {n : Nat} : ∀ {p : Nat} {t : Tab}, EchT n p t → ∀ r, some r ∈ t → r.length = n
  | _, [], _ => fun r h => nomatch h
  | p, o :: os, e => fun r h => by
    rcases List.mem_cons.mp h with z | h
    · exact (e.1 r z.symm).1
    · exact EchT.wid e.2 r h
end Lat
namespace K06
open PySem L2 RZ Lat
theorem Tb.new {F : Addr → Prop} {H : Hp} {d : Addr} (h : H d = none) (n : Nat) : Tb F (upd H d (.dK [])) d 0 (tab0 n) :=
  ⟨[], upd_same, Nat.le_refl _, fun p => ⟨fun r e => (by
    unfold tab0 at e
    rw [List.getElem?_replicate] at e
    by_cases h : p < n
    · rw [if_pos h] at e; cases e
    · rw [if_neg h] at e; cases e), fun _ => rfl⟩, KeyP.nil _⟩
theorem intsD_shaped (v : Vec) : SeqAt.shaped (.list (v.map PyData.int)) = true := by
  have h1 : ∀ v : Vec, PyData.canLayAll0 (v.map PyData.int) = true ∧ PyData.depthAll (v.map PyData.int) = 0 := by
    intro v
    induction v with
    | nil => exact ⟨rfl, rfl⟩
    | cons n v ih => exact ⟨by simp only [List.map_cons, PyData.canLayAll0, PyData.canLay0, ih.1, Bool.and_self], by simp only [List.map_cons, PyData.depthAll, PyData.depth, ih.2]; rfl⟩
  show (PyData.canLay0 (.list (v.map PyData.int)) && decide (PyData.depth (.list (v.map PyData.int)) ≤ 64)) = true
  rw [Bool.and_eq_true]
  exact ⟨by simp only [PyData.canLay0]; exact (h1 v).1, decide_eq_true (by simp only [PyData.depth, (h1 v).2]; decide)⟩
theorem nils_eqv (v : Vec) : PyData.eqv (.list (v.map PyData.int)) (.list []) = decide (v = []) := by
  cases v with
  | nil => decide +kernel
  | cons n v => simp [PyData.eqv, PyData.eqvAll]
theorem filter_nil (u : Vec) : u.filter (fun n => decide (n ≠ 0)) = [] ↔ piv u = u.length := by
  rw [List.filter_eq_nil_iff]
  constructor
  · intro h
    refine zero_all rfl fun i hi => ?_
    have := h _ (List.mem_of_getElem? (itm_of hi))
    simpa using this
  · intro h n hn
    obtain ⟨i, rfl⟩ := mem_itm hn
    simp [Lat.itm_zero h i]
section
variable {P : Program} {w : World} {K : PySem.W.Frag} {mg : Str → Option Value} {base : Heap}
abbrev s_law_echelon : Stmt := top 42
abbrev n_law_echelon : List Str := ["_law_rows_here", "_law_known", "_law_row"]
theorem sc_law_echelon : FnScope n_law_echelon ["_law_rows_here"] (defScope s_law_echelon) := ⟨rfl, rfl, rfl, by decide +kernel, rfl, by decide +kernel, by decide +kernel⟩
def spEchelon : Sp := fun vs H Q _ => ∃ (F : Addr → Prop) (l : Addr) (n : Nat) (as : List V) (rs : List Vec), vs = [.ref l] ∧ (∀ a, H a = none → F a) ∧ H l = some (.lst as) ∧ Rows H n as rs ∧ n ≤ 1000 ∧ rs.length * n ≤ 100000 ∧ OkPuts (tab0 n) rs ∧ ∀ (H' : Hp) (d : Addr), Same H H' → H d = none → Tb F H' d (rs.length * n) (putsL (tab0 n) rs) → Q (.ref d) H'
def spEchelonS : Sp := fun vs H Q _ => ∃ (F : Addr → Prop) (l : Addr) (n : Nat) (as : List V) (rs : List Vec), vs = [.ref l] ∧ (∀ a, H a = none → F a) ∧ (H l = some (.lst as) ∨ H l = some (.tup as)) ∧ Rows H n as rs ∧ n ≤ 1000 ∧ rs.length * n ≤ 100000 ∧ OkPuts (tab0 n) rs ∧ ∀ (H' : Hp) (d : Addr), Same H H' → H d = none → Tb F H' d (rs.length * n) (putsL (tab0 n) rs) → Q (.ref d) H'
theorem ok_echelonS (T : Txt mg) (g_law_put : Has P w K mg base 1 "_law_put" ["_law_known", "_law_row"] spPut) (F : DefAt K mg "_law_echelon" s_law_echelon ["_law_rows_here"]) : Has P w K mg base 2 "_law_echelon" ["_law_rows_here"] spEchelonS := by
  refine F.has sc_law_echelon (fun vs H Q E h => ?_) (fun f cdv A outer s H vs Q E hr h => ?_)
  · obtain ⟨F, l, n, as, rs, rfl, _⟩ := h
    rfl
  · obtain ⟨F, l, n, as, rs, rfl, hF, hl, hrs, n1, hL, ok, k⟩ := h
    refine ⟨_, (pss_cons (ps_set (i := 1) sc_law_echelon.nd rfl (Or.inl rfl) pe_dnewK)
      (pss_cons (ps_for PassesOwn.never rfl (pi_seq (pv 0)) (pg_name (i := 2) sc_law_echelon.nd rfl (Or.inl rfl)) (pss_one (ps_expr (pe_callHas g_law_put (hr.mono (by decide)) rfl (pa_cons (pv 1) (pa_cons (pv 2) pa_nil))))))
      (pss_one (ps_ret (pv 1))))), ?_⟩
    refine fun d hd => ?_
    obtain ⟨s0, hd0⟩ := new_at (o := .dK []) hd
    rcases hl with hl | hl
    · refine .inl ⟨_, rfl, l, rfl, ⟨_, SqL.of (s0 _ _ hl)⟩, for_it (walk_list (xs := as)) (fun i σ H' => ∃ (x2 : Option V) (cur : Tab), σ = [some (.ref l), some (.ref d), x2] ∧ Same H H' ∧ Tb F H' d (i * n) cur ∧ EchT n 0 cur ∧ OkPuts cur (rs.drop i) ∧ putsL cur (rs.drop i) = putsL (tab0 n) rs)
        ⟨_, _, rfl, s0, by rw [Nat.zero_mul]; exact Tb.new hd n, (invT0 n).ech, ok, rfl⟩ (fun i σ H' _ q => SqL.of ((show Same H H' from by obtain ⟨_, _, _, sm, _⟩ := q; exact sm) _ _ hl)) ?_ ?_⟩
      · rintro i y σ H' H'' hi ⟨x2, cur, rfl, sm, tb, ec, okc, e⟩ ⟨rfl, ex⟩
        obtain ⟨a, r, er, rfl, hr0, lr⟩ := (hrs.keep sm).at ex
        have hlt := (List.getElem?_eq_some_iff.mp er).1
        have ed : rs.drop i = r :: rs.drop (i + 1) := by
          rw [List.drop_eq_getElem_cons hlt, (List.getElem?_eq_some_iff.mp er).2]
        rw [ed] at okc e
        obtain ⟨o1, o2⟩ := okc
        have lc := ec.len
        have hin : i * n ≤ 100000 := Nat.le_trans (Nat.mul_le_mul_right n (Nat.le_of_lt hlt)) hL
        refine ⟨_, rfl, _, rfl, F, d, a, i * n, cur, r, rfl, fun c hc => hF c (by
          cases q : H c with
          | none => rfl
          | some o => rw [sm _ _ q] at hc; cases hc), tb, hr0, by omega, fun s hs => (ec.wid s hs).trans lr.symm, by omega, hin, o1, fun H2 bu tb2 => ?_⟩
        refine ⟨_, _, rfl, fun y o z => bu y o (ne_of_none z hd) (sm _ _ z), ?_, putL_tab ec lr fun i hi => absurd hi (Nat.not_lt_zero _), o2, e⟩
        rw [Nat.add_mul, Nat.one_mul, ← lr]
        rw [← lr] at tb2
        exact tb2
      · rintro σ H' ⟨x2, cur, rfl, sm, tb, ec, okc, e⟩
        rw [hrs.len, List.drop_length] at e
        have e' : cur = putsL (tab0 n) rs := e
        rw [hrs.len] at tb
        rw [e'] at tb
        exact ⟨_, rfl, k _ d sm hd tb⟩
    · refine .inr ⟨_, rfl, l, rfl, ⟨_, SqT.of (s0 _ _ hl)⟩, for_it (walk_tup (xs := as)) (fun i σ H' => ∃ (x2 : Option V) (cur : Tab), σ = [some (.ref l), some (.ref d), x2] ∧ Same H H' ∧ Tb F H' d (i * n) cur ∧ EchT n 0 cur ∧ OkPuts cur (rs.drop i) ∧ putsL cur (rs.drop i) = putsL (tab0 n) rs)
        ⟨_, _, rfl, s0, by rw [Nat.zero_mul]; exact Tb.new hd n, (invT0 n).ech, ok, rfl⟩ (fun i σ H' _ q => SqT.of ((show Same H H' from by obtain ⟨_, _, _, sm, _⟩ := q; exact sm) _ _ hl)) ?_ ?_⟩
      · rintro i y σ H' H'' hi ⟨x2, cur, rfl, sm, tb, ec, okc, e⟩ ⟨rfl, ex⟩
        obtain ⟨a, r, er, rfl, hr0, lr⟩ := (hrs.keep sm).at ex
        have hlt := (List.getElem?_eq_some_iff.mp er).1
        have ed : rs.drop i = r :: rs.drop (i + 1) := by
          rw [List.drop_eq_getElem_cons hlt, (List.getElem?_eq_some_iff.mp er).2]
        rw [ed] at okc e
        obtain ⟨o1, o2⟩ := okc
        have lc := ec.len
        have hin : i * n ≤ 100000 := Nat.le_trans (Nat.mul_le_mul_right n (Nat.le_of_lt hlt)) hL
        refine ⟨_, rfl, _, rfl, F, d, a, i * n, cur, r, rfl, fun c hc => hF c (by
          cases q : H c with
          | none => rfl
          | some o => rw [sm _ _ q] at hc; cases hc), tb, hr0, by omega, fun s hs => (ec.wid s hs).trans lr.symm, by omega, hin, o1, fun H2 bu tb2 => ?_⟩
        refine ⟨_, _, rfl, fun y o z => bu y o (ne_of_none z hd) (sm _ _ z), ?_, putL_tab ec lr fun i hi => absurd hi (Nat.not_lt_zero _), o2, e⟩
        rw [Nat.add_mul, Nat.one_mul, ← lr]
        rw [← lr] at tb2
        exact tb2
      · rintro σ H' ⟨x2, cur, rfl, sm, tb, ec, okc, e⟩
        rw [hrs.len, List.drop_length] at e
        have e' : cur = putsL (tab0 n) rs := e
        rw [hrs.len] at tb
        rw [e'] at tb
        exact ⟨_, rfl, k _ d sm hd tb⟩
theorem ok_echelon (g : Has P w K mg base 2 "_law_echelon" ["_law_rows_here"] spEchelonS) : Has P w K mg base 2 "_law_echelon" ["_law_rows_here"] spEchelon :=
  Has.imp g fun vs H Q E h => by
    obtain ⟨F, l, n, as, rs, e, hF, hl, h⟩ := h
    exact ⟨F, l, n, as, rs, e, hF, .inl hl, h⟩
abbrev s_law_left : Stmt := top 43
abbrev n_law_left : List Str := ["_law_known", "_law_row", "_law_left_here", "_law_place", "_law_here", "_law_times", "_law_one", "_law_two"]
theorem sc_law_left : FnScope n_law_left ["_law_known", "_law_row"] (defScope s_law_left) := ⟨rfl, rfl, rfl, by decide +kernel, rfl, by decide +kernel, by decide +kernel⟩
def spLeft : Sp := fun vs H Q _ => ∃ (F : Addr → Prop) (d b : Addr) (L : Nat) (t : Tab) (v : Vec), vs = [.ref d, .ref b] ∧ Tb F H d L t ∧ (IsV H b v ∨ IsL H b v) ∧ v.length = t.length ∧ (∀ r, some r ∈ t → r.length = v.length) ∧ v.length ≤ 1000 ∧ OkLeft t 0 v ∧ ∀ (H' : Hp) (l : Addr), Same H H' → IsL H' l (leftL t 0 v) → (leftL t 0 v).length = v.length → Q (.ref l) H'
theorem ok_left (T : Txt mg) (F : DefAt K mg "_law_left" s_law_left ["_law_known", "_law_row"]) : Has P w K mg base 1 "_law_left" ["_law_known", "_law_row"] spLeft := by
  refine F.has sc_law_left (fun vs H Q E h => ?_) (fun f cdv A outer s H vs Q E hr h => ?_)
  · obtain ⟨F, d, b, L, t, v, rfl, _⟩ := h
    rfl
  · obtain ⟨F, d, b, L, t, v, rfl, ht, hb, lt, wt, l1, ok, k⟩ := h
    have hu := hu_of hr
    refine ⟨_, (pss_cons (ps_set (i := 2) sc_law_left.nd rfl (Or.inl rfl) (pe_callTy call_list_of (by rfl) T.z_list (by decide +kernel) (pa_cons (pv 1) pa_nil)))
      (pss_cons (ps_for PassesOwn.never rfl (pi_range1 rfl T.z_range (pa_cons (pe_callB call_len (by rfl) T.z_len (by decide +kernel) (pa_cons (pv 2) pa_nil)) pa_nil)) (pg_name (i := 3) sc_law_left.nd rfl (Or.inl rfl)) (pss_one (ps_if (pt_cmp (pc_din hu (pv 3) (pv 0))) (pss_cons (ps_set (i := 4) sc_law_left.nd rfl (Or.inl rfl) (pe_dget hu (pv 0) (pv 3) (fun _ _ => rfl)))
      (pss_cons (ps_set (i := 5) sc_law_left.nd rfl (Or.inr rfl) (pe_op op_fdivZ (pe_ix ix_list (pv 2) (pv 3) (fun _ _ => rfl)) (pe_ix ix_list (pv 4) (pv 3) (fun _ _ => rfl))))
      (pss_one (ps_setLc (i := 2) (own := [("_law_one", 6), ("_law_two", 7)]) (g := gTup K 2 (gCons (gName 6) (gCons (gName 7) gNil))) (by rfl) sc_law_left.nd rfl rfl (sw_true rfl rfl rfl (by decide +kernel)) (pi_zipA (by rfl) T.z_zip (pa_cons (pv 2) (pa_cons (pv 4) pa_nil))) (blkOk_by (own := [("_law_one", 6), ("_law_two", 7)]) (N := n_law_left) (sc := defScope s_law_left) (by decide +kernel)) (fun _ _ _ _ _ => (pg_tup rfl (pgs_cons (pg_name (i := 6) sc_law_left.nd rfl (Or.inl rfl)) (pgs_cons (pg_name (i := 7) sc_law_left.nd rfl (Or.inl rfl)) pgs_nil)))) (fun _ _ _ _ _ => pts_nil) (fun _ _ _ _ _ => (pe_op op_sub (pv 6) (pe_op op_mulX (pv 5) (pv 7)))))))) pss_nil)))
      (pss_one (ps_ret (pv 2))))), ?_⟩
    refine ⟨_, rfl, b, v.map V.int, rfl, (hb.elim (fun z => .inr (SqT.of z)) fun z => .inl (SqL.of z)), fun l0 hl0 => ?_⟩
    obtain ⟨s0, hl0'⟩ := new_at (o := .lst (v.map V.int)) hl0
    have lm : ∀ u : Vec, (u.map V.int).length = u.length := fun u => List.length_map ..
    refine ⟨_, rfl, _, _, rfl, .inl ⟨_, SqL.of hl0', rfl⟩, ?_⟩
    rw [lm]
    refine ⟨_, rfl, by omega, by omega, for_range (lo := 0) (n := v.length) (fun i σ H' => ∃ (l : Addr) (u : Vec) (x3 x4 x5 x6 x7 : Option V), σ = [some (.ref d), some (.ref b), some (.ref l), x3, x4, x5, x6, x7] ∧ Same H H' ∧ IsL H' l u ∧ u.length = v.length ∧ OkLeft (t.drop i) i u ∧ leftL (t.drop i) i u = leftL t 0 v) ⟨l0, v, _, _, _, _, _, rfl, s0, hl0', rfl, ok, rfl⟩ ?_ ?_⟩
    · rintro i σ H1 hi ⟨l, u, x3, x4, x5, x6, x7, rfl, sm, hl, lu, okl, el⟩
      have ei : (0 : Int) + ((i : Nat) : Int) = ((i : Nat) : Int) := by omega
      have hiu : i < u.length := by omega
      obtain ⟨o, eo⟩ : ∃ o, t[i]? = some o := ⟨_, List.getElem?_eq_getElem (by omega)⟩
      have ed := drop_at eo
      rw [ed] at okl el
      show gName 3 (V.int (0 + ((i : Nat) : Int))) _ _ _
      rw [ei]
      obtain ⟨kvs, hd, hk, hv, _⟩ := ht.keep sm
      refine ⟨_, rfl, _, rfl, d, _, rfl, DGet.k (k := Sum.inl ((i : Nat) : Int)) hd, _, rfl, ?_⟩
      cases o with
      | none =>
        have vn : valV kvs (Sum.inl ((i : Nat) : Int)) = none := (hv i).2 fun r q => by rw [eo] at q; cases q
        rw [vn]
        exact ⟨l, u, _, _, _, _, _, rfl, sm, hl, lu, okl, el⟩
      | some r =>
        obtain ⟨a, vs1, fa, ha⟩ := (hv i).1 r eo
        obtain ⟨o1, o2, o3⟩ := okl
        have lr : r.length = v.length := wt r (List.mem_of_getElem? eo)
        rw [vs1]
        refine ⟨_, rfl, _, rfl, d, .ref a, rfl, by rw [← vs1]; exact DGet.k (k := Sum.inl ((i : Nat) : Int)) hd, ?_⟩
        refine ⟨_, rfl, _, rfl, l, _, _, _, rfl, rfl, SqL.of hl, intL_at hiu, _, rfl, _, rfl, a, _, _, _, rfl, rfl, SqL.of ha, intL_at (by omega), _, _, rfl, rfl, o1, ?_⟩
        have ln : min (u.map V.int).length (r.map V.int).length = v.length := by rw [lm, lm, lu, lr, Nat.min_self]
        have la : (addV u (-((itm u i).fdiv (itm r i))) r).length = v.length := (addV_len (lu.trans lr.symm)).trans lu
        refine ⟨_, rfl, _, rfl, l, a, _, _, rfl, .inl ⟨SqL.of hl, SqL.of ha, fun D hD => lc_it (walk_zip (xs := u.map V.int) (ys := r.map V.int) ln.symm) (fun j H2 => Same H1 H2 ∧ H2 D = some (.lst (((addV u (-((itm u i).fdiv (itm r i))) r).take j).map V.int))) ⟨(new_at hD).1, upd_same⟩ (fun j H2 _ q => ⟨SqL.of (q.1 _ _ hl), SqL.of (q.1 _ _ ha)⟩) ?_ ?_⟩⟩
        · rintro j z H2 H'' hj ⟨sm2, hD'⟩ ⟨q, y1, y2, rfl, hq, rfl, e1, e2⟩
          obtain ⟨n1, en1, rfl⟩ := map_at e1
          obtain ⟨n2, en2, rfl⟩ := map_at e2
          refine ⟨q, _, rfl, SqT.of upd_same, rfl, _, _, rfl, _, _, rfl, rfl, rfl, ?_⟩
          refine ⟨_, rfl, _, rfl, _, rfl, _, _, rfl, rfl, o2 n2 (List.mem_of_getElem? en2), _, _, rfl, rfl, ?_⟩
          have nDq : D ≠ q := ne_of_none hD' hq
          refine ⟨_, (upd_ne nDq).trans hD', by rw [List.length_map, List.length_take]; exact Nat.lt_of_le_of_lt (Nat.le_trans (Nat.min_le_right _ _) (la ▸ l1)) (by decide), fun y o z => ?_, ?_⟩
          · rw [upd_ne (ne_of_none z hD)]
            exact (new_at hq).1 _ _ (sm2 _ _ z)
          · rw [upd_same, take_snoc (n := n1 - (itm u i).fdiv (itm r i) * n2)]
            rw [← subV_eq, List.getElem?_zipWith, en1, en2]
        · rintro H2 ⟨s2, hD2⟩
          rw [take_all la] at hD2
          exact ⟨D, _, _, _, _, _, _, rfl, sm.trans s2, hD2, la, o3, el⟩
    · rintro σ H1 ⟨l, u, x3, x4, x5, x6, x7, rfl, sm, hl, lu, okl, el⟩
      have e1 : t.drop v.length = [] := List.drop_of_length_le (by omega)
      rw [e1] at el
      have el' : u = leftL t 0 v := el
      subst el'
      exact ⟨_, rfl, k _ l sm hl lu⟩
abbrev s_law_is_in : Stmt := top 44
abbrev n_law_is_in : List Str := ["_law_known", "_law_row", "_law_number_here"]
theorem sc_law_is_in : FnScope n_law_is_in ["_law_known", "_law_row"] (defScope s_law_is_in) := ⟨rfl, rfl, rfl, by decide +kernel, rfl, by decide +kernel, by decide +kernel⟩
def spIsIn : Sp := fun vs H Q _ => ∃ (F : Addr → Prop) (d b : Addr) (L : Nat) (t : Tab) (v : Vec), vs = [.ref d, .ref b] ∧ Tb F H d L t ∧ IsV H b v ∧ v.length = t.length ∧ (∀ r, some r ∈ t → r.length = v.length) ∧ v.length ≤ 1000 ∧ OkLeft t 0 v ∧ ∀ (H' : Hp), Same H H' → Q (.bl (decide (piv (leftL t 0 v) = (leftL t 0 v).length))) H'
theorem ok_is_in (T : Txt mg) (g_law_left : Has P w K mg base 1 "_law_left" ["_law_known", "_law_row"] spLeft) (F : DefAt K mg "_law_is_in" s_law_is_in ["_law_known", "_law_row"]) : Has P w K mg base 2 "_law_is_in" ["_law_known", "_law_row"] spIsIn := by
  refine F.has sc_law_is_in (fun vs H Q E h => ?_) (fun f cdv A outer s H vs Q E hr h => ?_)
  · obtain ⟨F, d, b, L, t, v, rfl, _⟩ := h
    rfl
  · obtain ⟨F, d, b, L, t, v, rfl, ht, hb, lt, wt, l1, ok, k⟩ := h
    have hu := hr.units
    refine ⟨_, (pss_one (ps_ret (pe_cmpR (op_eqD hu) (pe_lc (own := [("_law_number_here", 2)]) (g := gName 2) (by rfl) sc_law_is_in.nd (pi_list (pe_callHas g_law_left (hr.mono (by decide)) rfl (pa_cons (pv 0) (pa_cons (pv 1) pa_nil)))) (blkOk_by (own := [("_law_number_here", 2)]) (N := n_law_is_in) (sc := defScope s_law_is_in) (by decide +kernel)) (fun _ _ _ _ _ => (pg_name (i := 2) sc_law_is_in.nd rfl (Or.inl rfl))) (fun _ _ _ _ _ => (pts_one (pt_cmpR op_ne (pv 2) pe_int (nomark _)))) (fun _ _ _ _ _ => (pv 2))) (pe_lst pa_nil) (nomark _)))), ?_⟩
    refine ⟨_, rfl, _, rfl, F, d, b, L, t, v, rfl, ht, .inl hb, lt, wt, l1, ok, fun H1 l s1 hl ll => ?_⟩
    generalize leftL t 0 v = u at hl ll k
    refine ⟨l, rfl, ⟨_, SqL.of hl⟩, fun D hD => lc_it (walk_list (xs := u.map V.int)) (fun j H2 => Same H1 H2 ∧ H2 D = some (.lst (((u.take j).filter fun n => decide (n ≠ 0)).map V.int))) ⟨(new_at hD).1, upd_same⟩ (fun j H2 _ q => SqL.of (q.1 _ _ hl)) ?_ ?_⟩
    · rintro j z H2 H'' hj ⟨sm2, hD'⟩ ⟨rfl, ey⟩
      obtain ⟨n, en, rfl⟩ := map_at ey
      refine ⟨rfl, ?_⟩
      refine ⟨_, rfl, rfl, _, rfl, ?_⟩
      have et : u.take (j + 1) = u.take j ++ [n] := by rw [List.take_add_one, en]; rfl
      by_cases h0 : n = 0
      · subst h0
        show if (!decide (V.int 0 = V.int 0)) = true then _ else _
        rw [decide_eq_true rfl]
        refine ⟨sm2, ?_⟩
        rw [et, List.filter_append]
        simpa using hD'
      · show if (!decide (V.int n = V.int 0)) = true then _ else _
        rw [decide_eq_false (fun z => h0 (V.int.inj z))]
        refine ⟨_, rfl, _, hD', ?_, fun y o z => ?_, ?_⟩
        · rw [List.length_map]
          exact Nat.lt_of_le_of_lt (Nat.le_trans (List.length_filter_le _ _) (by rw [List.length_take]; exact Nat.le_trans (Nat.min_le_right _ _) (ll ▸ l1))) (by decide)
        · rw [upd_ne (ne_of_none z hD)]
          exact sm2 _ _ z
        · rw [upd_same, et, List.filter_append, List.map_append]
          simp [h0]
    · rintro H2 ⟨s2, hD2⟩
      rw [List.length_map, List.take_length] at hD2
      refine ⟨Nat.zero_le _, fun z hz => ?_⟩
      obtain ⟨s3, hz3⟩ := new_at (o := .lst []) hz
      refine ⟨.list ((u.filter fun n => decide (n ≠ 0)).map PyData.int), .list [], .lst (SqL.of (s3 _ _ hD2)) (ints_dp _), .lst (SqL.of hz3) .nil, intsD_shaped _, by decide +kernel, ?_⟩
      rw [nils_eqv, decide_eq_decide.mpr (filter_nil u)]
      exact k _ ((s1.trans s2).trans s3)
end
end K06

namespace L2
open PySem PySem.Spec PyProof.Rows
section
variable {X : Cx} {CX : CXT} {k i : Nat} {C f g : Addr} {fd : FuncData} {ps : List Str} {ds : List Value} {dvs : List V} {sp : Sp} {E : XK} {x : Str} {e : Expr} {es : List Expr} {t : TA} {p pos : Pos}
/-- c(e, ..), c a local name that holds the class at C -/
def tMakeV (i : Nat) (C : Addr) (sp : Sp) (dvs : List V) (E : XK) (t : TA) : TE := fun σ H Q => σ[i]? = some (some (.ref C)) ∧ tMake C sp dvs E t σ H Q
theorem pe_makeV (M : Mk X.K C f) (F : FnOk X.prog X.w X.K X.mg X.base CX k f fd ps sp) (hr : Room (k + 1) X.A) (hN : X.N[i]? = some x) (hv : Vis X.env.scope x) (hb : Binds X.K fd ps ds) (hd : Vals dvs ds) (hx : Passes CX X E)
    (ha : PA X (e :: es) t) (hdb : (x == ("__debug__" : Str)) = false := by decide) (hcd : (x == ("__classdict__" : Str)) = false := by decide)
    (he : starEach (e :: es) X.env = (false, eval e X.env) :: starEach es X.env := by rfl) (hpl : (backTo pos (starEach es X.env)).any (·.1) = false := by rfl) : PE X (.Call (.Name x p) (e :: es) [] pos) (tMakeV i C sp dvs E t) := by
  refine ⟨fun pins s σ H Q I h => ?_⟩
  obtain ⟨hs, h⟩ := h
  refine wpAny_Call_Name_kw (thn ((pe_var (pos := p) (i := i) hN hv hdb hcd).run pins s σ H (fun v H1 => v = .ref C ∧ H1 = H) I ⟨.ref C, hs, rfl, rfl⟩) fun u s1 ⟨v, H1, I1, r1, ev, eH⟩ => ?_)
  subst ev
  rw [eH] at I1
  cases r1
  refine PySem.W.callWith_K (h₀ := X.base) I.ok.mod.kin M.kp (thn (ha.run pos pins s1 σ H _ I1 h) fun us s2 ⟨vs, H2, I2, r, q⟩ => ⟨I2.kIn, ?_⟩) he hpl
  exact run_make M F hr hb hd hx I2 r q
/-- bool(x), x an instance with its own __bool__ -/
theorem call_boolO (F : FnOk X.prog X.w X.K X.mg X.base CX k g fd ps sp) (hs : PySem.W.findIn X.K (.ref C) "__bool__" = some (some (.ref g))) (hf : PySem.W.isFn X.K (.ref g) = true) (hr : Room (k + 2) X.A) (hb : Binds X.K fd ps []) (hx : Passes CX X E) :
    CallR X (.type "bool") (fun xs H Q => ∃ a dx fs, xs = [.ref a] ∧ H a = some (.ins C dx fs) ∧ sp [.ref a] H (fun r H' => ∃ c, r = .bl c ∧ Q (.bl c) H') E) := by
  intro pins s σ H xs us Q I r h
  obtain ⟨a, dx, fs, rfl, ha, q⟩ := h
  obtain rfl := Vals.ref1 r
  obtain ⟨mA, J, _⟩ := ins_get I.hok ha
  obtain ⟨od, J, _⟩ := J.look
  obtain ⟨m, hF⟩ := I.fr
  have go : ∀ (A' : Around), Room k A' → A'.frames = X.A.frames → wpAny (model X.prog X.w) A' (truthy (.ref a)) (fun b s' => EP X pins σ Q (.bool b) s') X.xe s := fun A' hr' hA => by
    refine PySem.W.truthy_K hF I.ok.mod.kin J hs hf ?_
    refine run_own1 F hr' hA hb hx I (show Vals [V.ref a] [Value.ref a] from .cons rfl .nil) q fun w z s' H' I' rz qz => ?_
    obtain ⟨c, rfl, qc⟩ := qz
    cases rz
    exact ⟨.bl c, H', I', rfl, qc⟩
  have mt : MeetsIn X.prog X.w (Builtin.«bool.__new__» ⟨[.type "bool", .ref a], []⟩) (fun A' R s' => s' = s ∧ wpAny (model X.prog X.w) A'.in1 (truthy (.ref a)) (fun b s'' => R (.ok (.ret (.bool b))) s'') (fun e s'' => R (.error e) s'') s) := by
    intro A' R s' h
    obtain ⟨rfl, h⟩ := h
    have f1 := PySem.F.conv_sub_bool
    unfold Builtin.«bool.__new__»
    refine wpAny_bind (m := isType (.type "bool")) (wpAny_pure ?_)
    rw [if_neg (by decide)]
    simp only [f1, pure_bind]
    rw [if_neg (by decide)]
    refine wpAny_bind (m := someArgs "bool" 0 1 { pos := [Value.ref a] }) (wpAny_pure ?_)
    refine wpAny_bind (wpAny_mono h (fun b s'' q' => ?_) fun _ _ e => e)
    exact wpAny_pure q'
  refine callType_newIn PySem.F.called_bool PySem.F.newNe_bool (PySem.F.typeCall_bool_1 _) (PySem.F.newCall_bool_1 _) (fun obj => PySem.F.args_object_init_2 obj _) PySem.F.entry_bool_new mt ⟨rfl, ?_⟩
  refine wpAny_mono (go X.A.in1.in1 hr.in1.in1 rfl) (fun b s' q => ?_) fun _ _ e => e
  exact ⟨rfl, q⟩
/-- own == a tuple -/
def rCmpT (K : PySem.W.Frag) (C : Addr) (sp : Sp) (E : XK) : R2 := fun x y H Q => ∃ a dx fs b xs, x = .ref a ∧ H a = some (.ins C dx fs) ∧ y = .ref b ∧ H b = some (.tup xs) ∧ sp [.ref a, .ref b] H (fun r H' => ∃ c, r = .bl c ∧ Q (.bl c) H') E
theorem op_eqT (F : FnOk X.prog X.w X.K X.mg X.base CX k g fd ps sp) (hn : PySem.W.notFirst X.K C (.type "tuple") = true) (hs : PySem.W.findIn X.K (.ref C) "__eq__" = some (some (.ref g))) (hf : PySem.W.isFn X.K (.ref g) = true) (hr : Room k X.A) (hb : Binds X.K fd ps []) (hx : Passes CX X E) :
    OpR X (compareOp .Eq) (rCmpT X.K C sp E) := by
  intro pins s σ H x y v u Q I rx ry h
  obtain ⟨a, dx, fs, b, xs, rfl, ha, rfl, hb', q⟩ := h
  cases rx
  cases ry
  obtain ⟨mA, J, _⟩ := ins_get I.hok ha
  obtain ⟨od, J, _⟩ := J.look
  obtain ⟨m, hF⟩ := I.fr
  obtain ⟨_, _, _, pp⟩ := (show ObjOk X.prog X.w H s.heap b (.tup xs) from I.hok b _ hb')
  obtain ⟨o, h1, h2, _⟩ := pp
  have LT : PySem.W.Looks (model X.prog X.w) s.heap (typeOf (.ref b)) (.type "tuple") := fun A Q E s k q => wpAny_typeOf_ref (k _ _ h1) (by rw [h2]; exact q)
  show wpAny _ _ (richCompare .Eq (.ref a) (.ref b)) _ _ _
  refine PySem.W.cmp_K (op := .Eq) (tb := .type "tuple") hr.units0 hF I.ok.mod.kin J LT hn hs hf ?_
  refine run_own F hr hb hx I (show Vals [V.ref a, V.ref b] [Value.ref a, Value.ref b] from .cons rfl (.cons rfl .nil)) q fun w z s' H' I' rz qz => ?_
  obtain ⟨c, rfl, qc⟩ := qz
  cases rz
  refine ⟨.bl c, H', I', rfl, ?_⟩
  cases c <;> exact qc
end
end L2

namespace L2
open PySem PySem.Spec PyProof.Rows
theorem tuple_mul1 (l : Addr) (items : Array Value) (n : Nat) (dd : Option Addr) (sl : Array (Option Value)) (u : Tok) :
    Meets (Builtin.«tuple.__mul__» ⟨[.ref l, .int 1 u], []⟩) (fun _ R s => s.heap.get? l = some { cls := .type "tuple", dict := dd, data := .seq items n, slots := sl } ∧ R (.ok (.ret (Value.ref l))) s) :=
  .of_wp fun prog w A R s h => by
    obtain ⟨hp, g, d, tk, os⟩ := s
    obtain ⟨hl, h⟩ := h
    have f1 := AutoSeq1.idx_int
    wp_walk using wpAny_loadPart' hl
    repeat (first
      | (refine wpAny_ite_false (decide_eq_false (by decide)) ?_; wp_walk using wpAny_loadPart' hl)
      | (refine wpAny_ite_true (decide_eq_true (by simp)) ?_; wp_walk using wpAny_loadPart' hl))
    exact ⟨_, rfl, h⟩
/-- t * k, k from 1 on: by 1 the tuple itself -/
def rRepTA (K : PySem.W.Frag) : R2 := fun x y H Q => ∃ l k xs, x = .ref l ∧ y = .int k ∧ SqT K H l xs ∧ xs ≠ [] ∧ 1 ≤ k ∧ k ≤ 1000 ∧ xs.length ≤ 1000 ∧ (k = 1 → Q (.ref l) H) ∧ (2 ≤ k → ∀ p, H p = none → Q (.ref p) (upd H p (.tup (List.replicate k.toNat xs).flatten)))
theorem op_repTA {X : Cx} : OpR X (binaryOp .Mult) (rRepTA X.K) := by
  intro pins s σ H x y v u Q I rx ry h
  obtain ⟨l, k, xs, ex, ey, hT, hne, h1, h2, hz, q1, q2⟩ := h
  by_cases hk : k = 1
  · subst hk ex ey
    cases rx
    obtain ⟨t, rfl⟩ := ry
    obtain ⟨its, r, ⟨⟨cls, dd, data, sl⟩, ho, hc, n, hd⟩, hs⟩ := I.tuple hT
    simp only at hc hd
    subst hc hd
    refine wpAny_binaryOp_repeat_ref (T := "tuple") (U := "int") (by decide) ⟨_, ho, rfl⟩ (fun s' => typeIs_int s' 1 t) noFill_tuple_mul F.fills_int_mul F.slot_int_rmul repeat_tuple F.slot_int_index.lookup
      (call_meets F.slot_int_rmul (typeIs_int s 1 t) F.entry_int_rmul (F.args_int_rmul_2 _ _) (int_rmul_tuple 1 t l its.toArray n dd sl)
        ⟨ho, rfl, ⟨_, ho, rfl⟩, call_meets F.slot_tuple_mul ⟨_, ho, rfl⟩ F.entry_tuple_mul (F.args_tuple_mul_2 _ _) (tuple_mul1 l its.toArray n dd sl t) ⟨ho, ?_⟩⟩)
    exact ⟨.ref l, H, I, rfl, q1 rfl⟩
  · exact op_repT pins s σ H x y v u Q I rx ry ⟨l, k, xs, ex, ey, hT, hne, by omega, h2, hz, q2 (by omega)⟩
end L2

namespace Lat
/-! ## ghosts, each with its own size -/
def tot (x : Nat) : Nat → Nat
  | 0 => 0
  | k + 1 => 2 * tot x k + x + 1
theorem tot_mono {x : Nat} : ∀ k, tot x k ≤ tot x (k + 1) := fun k => by show _ ≤ 2 * tot x k + x + 1; omega
theorem tot_le {x i j : Nat} (h : i ≤ j) : tot x i ≤ tot x j := by
  induction h with
  | refl => exact Nat.le_refl _
  | step _ ih => exact Nat.le_trans ih (tot_mono _)
/-- sizes of rows, one by one -/
inductive Sz : List Vec → List Nat → Prop where
  | nil : Sz [] []
  | cons {g : Vec} {G : List Vec} {e : Nat} {es : List Nat} (h : ∀ i, (itm g i).natAbs ≤ 2 ^ e) (t : Sz G es) : Sz (g :: G) (e :: es)
theorem Sz.len : ∀ {G : List Vec} {es : List Nat}, Sz G es → es.length = G.length
  | _, _, .nil => rfl
  | _, _, .cons _ t => congrArg (· + 1) t.len
theorem Sz.mem : ∀ {G : List Vec} {es : List Nat}, Sz G es → ∀ g ∈ G, ∀ i, (itm g i).natAbs ≤ 2 ^ es.sum
  | _, _, .nil => fun g h => nomatch h
  | _, _, .cons (e := e) (es := es) h t => fun s hs i => by
    rw [List.sum_cons]
    rcases List.mem_cons.mp hs with z | hs
    · rw [z]; exact Nat.le_trans (h i) (p2le (by omega))
    · exact Nat.le_trans (t.mem s hs i) (p2le (by omega))
theorem insG_sz {n : Nat} : ∀ {c : Nat} {G : List Vec} {es : List Nat} {v : Vec} {ξ : Nat}, Ech n c G → v.length = n → Sz G es → (∀ i, (itm v i).natAbs ≤ 2 ^ ξ) → insG G v = G ∨ ∃ es', Sz (insG G v) es' ∧ (insG G v).length = G.length + 1 ∧ es'.sum ≤ es.sum + ξ + (es.sum + es.length)
  | c, [], _, v, ξ, _, l, .nil, hv => by
    unfold insG
    split
    · exact .inl rfl
    · exact .inr ⟨[ξ], .cons hv .nil, rfl, by simp⟩
  | c, g :: gs, _, v, ξ, e, l, .cons (e := e0) (es := es) h t, hv => by
    unfold insG
    split
    · refine .inr ⟨ξ :: e0 :: es, .cons hv (.cons h t), rfl, ?_⟩
      simp only [List.sum_cons, List.length_cons]; omega
    · have lc := crossV_len (l.trans e.1.symm)
      have sz : ∀ i, (itm (crossV g v) i).natAbs ≤ 2 ^ (ξ + e0 + 1) := fun i => by
        rw [crossV_itm (l.trans e.1.symm)]
        have q1 : (itm g (piv g) * itm v i).natAbs ≤ 2 ^ e0 * 2 ^ ξ := by rw [Int.natAbs_mul]; exact Nat.mul_le_mul (h _) (hv i)
        have q2 : (itm v (piv g) * itm g i).natAbs ≤ 2 ^ ξ * 2 ^ e0 := by rw [Int.natAbs_mul]; exact Nat.mul_le_mul (hv _) (h i)
        have q3 : 2 ^ (ξ + e0 + 1) = 2 ^ e0 * 2 ^ ξ + 2 ^ ξ * 2 ^ e0 := by
          rw [Nat.pow_succ, Nat.pow_add, Nat.mul_comm (2 ^ e0) (2 ^ ξ)]
          omega
        rw [q3]
        have := Int.natAbs_sub_le (itm g (piv g) * itm v i) (itm v (piv g) * itm g i)
        omega
      rcases insG_sz (v := crossV g v) (ξ := ξ + e0 + 1) e.2.2.2 (lc.trans l) t sz with q | ⟨es', q1, q2, q3⟩
      · rw [q]; exact .inl rfl
      · refine .inr ⟨e0 :: es', .cons h q1, congrArg (· + 1) q2, ?_⟩
        simp only [List.sum_cons, List.length_cons]
        omega
structure G2 (x n : Nat) (B : List Vec) : Prop where
  eB : Ech n 0 B
  ex : ∃ (G : List Vec) (es : List Nat), Ech n 0 G ∧ Sz G es ∧ es.sum + G.length ≤ tot x G.length ∧ (∀ g ∈ G, In B (itm g)) ∧ ∀ s ∈ B, RIn G (itm s)
theorem G2.nil (x n : Nat) : G2 x n [] := ⟨trivial, [], [], trivial, .nil, Nat.le_refl _, fun g h => (nomatch h), fun g h => (nomatch h)⟩
/-- the same lattice by other rows -/
theorem G2.same {x n : Nat} {B B' : List Vec} (I : G2 x n B) (eB' : Ech n 0 B') (h : ∀ S, Cl S → ((∀ r ∈ B', S (itm r)) ↔ ∀ r ∈ B, S (itm r))) : G2 x n B' := by
  obtain ⟨G, es, eG, sz, hs, h1, h2⟩ := I.ex
  exact ⟨eB', G, es, eG, sz, hs, fun g hg => In.sub (In.cl _) ((h _ (In.cl B')).mp fun r hr => In.mem _ _ hr) (h1 g hg), (h _ (RIn.cl G)).mpr h2⟩
theorem G2.step {x n : Nat} {B B' : List Vec} {v : Vec} (I : G2 x n B) (eB' : Ech n 0 B') (l : v.length = n) (hv : ∀ i, (itm v i).natAbs ≤ 2 ^ x) (h : ∀ S, Cl S → ((∀ r ∈ B', S (itm r)) ↔ ((∀ r ∈ B, S (itm r)) ∧ S (itm v)))) : G2 x n B' := by
  obtain ⟨G, es, eG, sz, hs, h1, h2⟩ := I.ex
  have eG' : Ech n 0 (insG G v) := insG_ech eG l (Nat.zero_le _) fun i hi => absurd hi (Nat.not_lt_zero _)
  have rB : ∀ s ∈ B, RIn (insG G v) (itm s) := fun s hs => by
    obtain ⟨D, hD, h⟩ := h2 s hs
    exact ⟨D, hD, In.sub (In.cl _) (fun g hg => insG_old g hg) h⟩
  have rv : RIn (insG G v) (itm v) := insG_new eG l
  obtain ⟨q1, q2⟩ := (h (In B') (In.cl B')).mp fun r hr => In.mem _ _ hr
  have c1 := insG_cl (In.cl B') eG l (fun g hg => In.sub (In.cl B') q1 (h1 g hg)) q2
  have c2 := (h (RIn (insG G v)) (RIn.cl _)).mpr ⟨rB, rv⟩
  rcases insG_sz eG l sz hv with e | ⟨es', z1, z2, z3⟩
  · rw [e] at c1 c2
    exact ⟨eB', G, es, eG, sz, hs, c1, c2⟩
  · refine ⟨eB', insG G v, es', eG', z1, ?_, c1, c2⟩
    rw [z2]
    have := sz.len
    show _ ≤ 2 * tot x G.length + x + 1
    omega
theorem G2.piv {x n : Nat} {B : List Vec} (I : G2 x n B) : ∀ s ∈ B, (itm s (Lat.piv s)).natAbs ≤ 2 ^ tot x n := by
  obtain ⟨G, es, eG, sz, hs, h1, h2⟩ := I.ex
  intro s hs'
  obtain ⟨g, hg, _, q⟩ := piv_bound I.eB eG h1 h2 s hs'
  have c := eG.count (Nat.zero_le _)
  have := tot_le (x := x) (show G.length ≤ n by omega)
  exact Nat.le_trans q (Nat.le_trans (sz.mem g hg _) (p2le (by omega)))
theorem all_bound2 {n : Nat} : ∀ {c : Nat} {G : List Vec} {es : List Nat} {f : Nat → Int} {A : Nat}, Ech n c G → Sz G es → RIn G f → (∀ g ∈ G, (f (piv g)).natAbs ≤ A) → ∀ i, (f i).natAbs ≤ A * 2 ^ (es.sum + 2 * es.length)
  | _, [], _, f, A, _, .nil, ⟨D, hD, h⟩, _ => fun i => by
    have h3 : D * f i = 0 := h i
    rcases Int.mul_eq_zero.mp h3 with z | z
    · exact absurd z hD
    · rw [z]; exact Nat.zero_le _
  | c, g :: gs, _, f, A, e, .cons (e := e0) (es := es) hb t, ⟨D, hD, a, h⟩, hA => fun i => by
    have gn : itm g (piv g) ≠ 0 := e.ne List.mem_cons_self
    have h0 : D * f (piv g) - a * itm g (piv g) = 0 := In.low e.2.2.2 h (piv g) (by omega)
    have hp := hA g List.mem_cons_self
    have hr : RIn gs fun i => itm g (piv g) * f i - f (piv g) * itm g i := ⟨D, hD, (In.cl gs).of (t := itm g (piv g)) (In.cl gs).zero h fun i => by grind⟩
    have ih := all_bound2 (A := 2 * 2 ^ e0 * A) e.2.2.2 t hr (fun s hs => ?_) i
    · have hg := hb i
      have e1 : itm g (piv g) * f i = (itm g (piv g) * f i - f (piv g) * itm g i) + f (piv g) * itm g i := by omega
      have e2 : (f i).natAbs ≤ (itm g (piv g) * f i).natAbs := by
        rw [Int.natAbs_mul]; exact Nat.le_mul_of_pos_left _ (Int.natAbs_pos.mpr gn)
      have e3 := Int.natAbs_add_le (itm g (piv g) * f i - f (piv g) * itm g i) (f (piv g) * itm g i)
      rw [← e1] at e3
      have e4 : (f (piv g) * itm g i).natAbs ≤ A * 2 ^ e0 := by rw [Int.natAbs_mul]; exact Nat.mul_le_mul hp hg
      have e6 : A * 2 ^ e0 ≤ A * 2 ^ e0 * 2 ^ (es.sum + 2 * es.length) := Nat.le_mul_of_pos_right _ (Nat.two_pow_pos _)
      rw [List.sum_cons, List.length_cons]
      have e7 : 2 * 2 ^ e0 * A * 2 ^ (es.sum + 2 * es.length) = 2 * (A * 2 ^ e0 * 2 ^ (es.sum + 2 * es.length)) := by grind
      have e8 : A * 2 ^ (e0 + es.sum + 2 * (es.length + 1)) = 4 * (A * 2 ^ e0 * 2 ^ (es.sum + 2 * es.length)) := by
        rw [show e0 + es.sum + 2 * (es.length + 1) = 2 + (e0 + (es.sum + 2 * es.length)) by omega, Nat.pow_add, Nat.pow_add 2 e0]
        grind
      rw [e7] at ih
      rw [e8]
      omega
    · have h1 := hA s (List.mem_cons_of_mem _ hs)
      have h2 := hb (piv g)
      have h3 := hb (piv s)
      have h4 : (itm g (piv g) * f (piv s)).natAbs ≤ 2 ^ e0 * A := by rw [Int.natAbs_mul]; exact Nat.mul_le_mul h2 h1
      have h5 : (f (piv g) * itm g (piv s)).natAbs ≤ A * 2 ^ e0 := by rw [Int.natAbs_mul]; exact Nat.mul_le_mul hp h3
      have h6 : 2 * 2 ^ e0 * A = 2 ^ e0 * A + A * 2 ^ e0 := by grind
      rw [h6]
      show (itm g (piv g) * f (piv s) - f (piv g) * itm g (piv s)).natAbs ≤ _
      omega
/-- a vector of the lattice that is small at the pivots is small -/
theorem G2.bound {x n A : Nat} {B : List Vec} (I : G2 x n B) {f : Nat → Int} (hf : ∀ G, (∀ s ∈ B, RIn G (itm s)) → RIn G f) (z : ∀ i, n ≤ i → f i = 0) (hA : ∀ s ∈ B, (f (Lat.piv s)).natAbs ≤ 2 ^ A) : ∀ i, (f i).natAbs ≤ 2 ^ (A + 2 * tot x (n - 1)) := by
  obtain ⟨G, es, eG, sz, hs, h1, h2⟩ := I.ex
  have at' : ∀ g ∈ G, (f (Lat.piv g)).natAbs ≤ 2 ^ A := by
    intro g hg
    have gn := eG.ne hg
    rcases lead I.eB (h1 g hg) with z | ⟨t, ht, a, ha, z, y⟩
    · exact absurd (z _) gn
    · have tn := I.eB.ne ht
      have e' : Lat.piv t = Lat.piv g := first_eq z (by rw [y]; exact Int.mul_ne_zero ha tn) (piv_spec g).1 gn
      rw [← e']; exact hA t ht
  have c := eG.count (Nat.zero_le _)
  intro i
  by_cases hfull : G.length = n
  · rcases Nat.lt_or_ge i n with hi | hi
    · obtain ⟨g, hg, e⟩ := Ech.full eG (by omega) i (Nat.zero_le _) hi
      have := at' g hg
      rw [e] at this
      exact Nat.le_trans this (p2le (by omega))
    · rw [z i hi]; exact Nat.zero_le _
  · have q := all_bound2 eG sz (hf G h2) at' i
    rw [← Nat.pow_add] at q
    have l := sz.len
    have := tot_le (x := x) (show G.length ≤ n - 1 by omega)
    exact Nat.le_trans q (p2le (by omega))
/-! ## the one basis -/
def Hn : List Vec → Prop
  | [] => True
  | r :: rs => (∀ s ∈ rs, 0 ≤ itm r (piv s) ∧ itm r (piv s) < itm s (piv s)) ∧ 0 < itm r (piv r) ∧ Hn rs
theorem Hn.pos : ∀ {B : List Vec}, Hn B → PosP B
  | [], _ => fun s h => nomatch h
  | r :: rs, h => fun s hs => by
    rcases List.mem_cons.mp hs with z | hs
    · rw [z]; exact h.2.1
    · exact Hn.pos h.2.2 s hs
theorem tidy_row {n c : Nat} {r : Vec} {rs : List Vec} (e : Ech n c (r :: rs)) : piv (redV (tidy rs) (posV r)) = piv r ∧ 0 < itm (redV (tidy rs) (posV r)) (piv r) := by
  have ih := tidy_ech e.2.2.2
  have lp : (posV r).length = n := (posV_length r).trans e.1
  have lo := redV_low ih lp
  have rn := e.ne List.mem_cons_self
  have pe : piv (redV (tidy rs) (posV r)) = piv r := piv_eq (fun i hi => by rw [lo i (by omega), ← Int.natAbs_eq_zero, posV_abs, (piv_spec r).1 i hi]; rfl) (by
    rw [lo _ (by omega)]
    intro q
    have := posV_abs r (piv r)
    rw [q] at this
    exact rn (by omega))
  refine ⟨pe, ?_⟩
  have := tidy_pos e (redV (tidy rs) (posV r)) (show redV (tidy rs) (posV r) ∈ tidy (r :: rs) from List.mem_cons_self)
  rw [pe] at this
  exact this
theorem tidy_hn {n : Nat} : ∀ {c : Nat} {B : List Vec}, Ech n c B → Hn (tidy B)
  | _, [], _ => trivial
  | c, r :: rs, e => by
    have ih := tidy_ech e.2.2.2
    have lp : (posV r).length = n := (posV_length r).trans e.1
    obtain ⟨pe, pp⟩ := tidy_row e
    unfold tidy
    exact ⟨redV_rng ih (tidy_pos e.2.2.2) lp, by rw [pe]; exact pp, tidy_hn e.2.2.2⟩
theorem In.tail {n c : Nat} {r : Vec} {rs : List Vec} {f : Nat → Int} (e : Ech n c (r :: rs)) (h : In (r :: rs) f) (z : f (piv r) = 0) : In rs f := by
  obtain ⟨a, h⟩ := h
  have h3 : f (piv r) - a * itm r (piv r) = 0 := In.low e.2.2.2 h (piv r) (by omega)
  have rn := e.ne (r := r) List.mem_cons_self
  have ha : a = 0 := by
    rw [z] at h3
    rcases Int.mul_eq_zero.mp (show a * itm r (piv r) = 0 by omega) with q | q
    · exact q
    · exact absurd q rn
  subst ha
  exact (In.cl rs).of (t := 0) h (In.cl rs).zero fun i => by omega
theorem hn_one {n : Nat} : ∀ {c d : Nat} {B T : List Vec}, Ech n c B → Ech n d T → Hn B → Hn T → (∀ r ∈ B, In T (itm r)) → (∀ r ∈ T, In B (itm r)) → B = T
  | _, _, [], [], _, _, _, _, _, _ => rfl
  | _, _, [], t :: ts, _, eT, _, _, _, h2 => absurd (h2 t List.mem_cons_self (piv t)) (eT.ne List.mem_cons_self)
  | _, _, r :: rs, [], eB, _, _, _, h1, _ => absurd (h1 r List.mem_cons_self (piv r)) (eB.ne List.mem_cons_self)
  | c, d, r :: rs, t :: ts, eB, eT, hB, hT, h1, h2 => by
    have rn := eB.ne (r := r) List.mem_cons_self
    have tn := eT.ne (r := t) List.mem_cons_self
    have low : ∀ {c : Nat} {r : Vec} {rs : List Vec}, Ech n c (r :: rs) → ∀ s ∈ r :: rs, piv r ≤ piv s := fun {c r rs} e s hs => by
      rcases List.mem_cons.mp hs with z | hs
      · rw [z]; exact Nat.le_refl _
      · have := (e.2.2.2.row s hs).2.1; omega
    rcases lead eT (h1 r List.mem_cons_self) with z | ⟨s, hs, a, ha, z, y⟩
    · exact absurd (z _) rn
    rcases lead eB (h2 t List.mem_cons_self) with z' | ⟨s', hs', b, hb, z', y'⟩
    · exact absurd (z' _) tn
    have e1 : piv r = piv s := first_eq (piv_spec r).1 rn z (by rw [y]; exact Int.mul_ne_zero ha (eT.ne hs))
    have e2 : piv t = piv s' := first_eq (piv_spec t).1 tn z' (by rw [y']; exact Int.mul_ne_zero hb (eB.ne hs'))
    have q1 := low eT s hs
    have q2 := low eB s' hs'
    have pp : piv r = piv t := by omega
    have es : s = t := eT.inj s hs t List.mem_cons_self (by omega)
    have es' : s' = r := eB.inj s' hs' r List.mem_cons_self (by omega)
    subst es es'
    have pr := hB.2.1
    have pt := hT.2.1
    rw [← e1] at y
    rw [← e2] at y'
    have v1 := mul_ge ha pt
    have v2 := mul_ge hb pr
    rw [← pp] at v1 y' pt
    rw [← y] at v1
    rw [← y'] at v2
    have val : itm s' (piv s') = itm s (piv s') := by omega
    have dB : In (s' :: rs) fun i => itm s' i - itm s i := (In.cl _).of (t := -1) (In.mem _ _ List.mem_cons_self) (h2 s List.mem_cons_self) fun i => by omega
    have dT : In (s :: ts) fun i => itm s' i - itm s i := (In.cl _).of (t := -1) (h1 s' List.mem_cons_self) (In.mem _ _ List.mem_cons_self) fun i => by omega
    have dB' := In.tail eB dB (by show itm s' (piv s') - itm s (piv s') = 0; omega)
    have dT' := In.tail eT dT (by show itm s' (piv s) - itm s (piv s) = 0; rw [← pp]; omega)
    have eq : s' = s := vec_ext (eB.1.trans eT.1.symm) (uniq (Ech.mono (Nat.zero_le _) eB.2.2.2) (Ech.mono (Nat.zero_le _) eT.2.2.2) (Hn.pos hB.2.2) (Hn.pos hT.2.2) hB.1 hT.1 dB' dT')
    have ih := hn_one eB.2.2.2 eT.2.2.2 hB.2.2 hT.2.2 (fun q hq => In.tail eT (h1 q (List.mem_cons_of_mem _ hq)) (by rw [← pp]; exact eB.2.2.2.zero hq (Nat.lt_succ_self _))) (fun q hq => In.tail eB (h2 q (List.mem_cons_of_mem _ hq)) (by rw [pp]; exact eT.2.2.2.zero hq (Nat.lt_succ_self _)))
    rw [eq, ih]
end Lat

namespace Lat
theorem tidy_back {n : Nat} : ∀ {c : Nat} {B : List Vec}, Ech n c B → ∀ t ∈ B, ∃ s ∈ tidy B, piv s = piv t ∧ (itm s (piv s)).natAbs = (itm t (piv t)).natAbs
  | _, [], _ => fun t h => nomatch h
  | c, r :: rs, e => fun t ht => by
    have ih := tidy_ech e.2.2.2
    have lp : (posV r).length = n := (posV_length r).trans e.1
    have pp := posV_piv r (e.1 ▸ e.2.2.1)
    have lo := redV_low ih lp
    obtain ⟨pe, _⟩ := tidy_row e
    rcases List.mem_cons.mp ht with z | ht
    · refine ⟨redV (tidy rs) (posV r), List.mem_cons_self, by rw [z]; exact pe, ?_⟩
      rw [z, pe, lo _ (by omega), posV_abs]
    · obtain ⟨s, hs, a, b⟩ := tidy_back e.2.2.2 t ht
      exact ⟨s, List.mem_cons_of_mem _ hs, a, b⟩
theorem Ech.split {n : Nat} : ∀ {c : Nat} {D C : List Vec}, Ech n c (D ++ C) → ∃ c', Ech n c' C ∧ ∀ t ∈ D, piv t < c'
  | c, [], C, e => ⟨c, e, fun t h => nomatch h⟩
  | c, d :: D, C, e => by
    obtain ⟨c', h1, h2⟩ := Ech.split (c := piv d + 1) (D := D) (C := C) e.2.2.2
    rcases Nat.lt_or_ge (piv d) c' with q | q
    · exact ⟨c', h1, fun t ht => (List.mem_cons.mp ht).elim (fun z => z ▸ q) (h2 t)⟩
    · cases D with
      | nil => exact ⟨piv d + 1, e.2.2.2, fun t ht => (List.mem_cons.mp ht).elim (fun z => by rw [z]; omega) (fun z => nomatch z)⟩
      | cons d' D' =>
        have q1 := h2 d' List.mem_cons_self
        have q2 : piv d + 1 ≤ piv d' := e.2.2.2.2.1
        omega
theorem hn_redd {n : Nat} : ∀ {c : Nat} {B : List Vec}, Ech n c B → Hn B → ∀ s ∈ B, ∀ r ∈ B, (itm r (piv s)).natAbs ≤ (itm s (piv s)).natAbs
  | _, [], _, _ => fun s h => nomatch h
  | c, t :: ts, e, h => fun s hs r hr => by
    rcases List.mem_cons.mp hs with z | hs
    · rcases List.mem_cons.mp hr with y | hr
      · rw [z, y]; exact Nat.le_refl _
      · have : itm r (piv s) = 0 := by rw [z]; exact e.2.2.2.zero hr (Nat.lt_succ_self _)
        rw [this]; exact Nat.zero_le _
    · rcases List.mem_cons.mp hr with y | hr
      · have := h.1 s hs
        rw [y]; omega
      · exact hn_redd e.2.2.2 h.2.2 s hs r hr
/-- small all over: what the ghosts say of a reduced basis -/
theorem G2.all {x n : Nat} {B : List Vec} (I : G2 x n B) (h : Hn B) : ∀ s ∈ B, ∀ i, (itm s i).natAbs ≤ 2 ^ (tot x n + 2 * tot x (n - 1)) := fun s hs =>
  I.bound (fun G q => q s hs) (fun i hi => itm_out (by rw [(I.eB.row s hs).1]; exact hi)) fun t ht => Nat.le_trans (hn_redd I.eB h t ht s hs) (I.piv t ht)
theorem G2.tails {x n : Nat} {B : List Vec} (I : G2 x n B) {C : List Vec} (hC : C <:+ B) : ∀ s ∈ tidy C, ∀ i, (itm s i).natAbs ≤ 2 ^ (tot x n + 2 * tot x (n - 1)) := by
  obtain ⟨D, e⟩ := hC
  have eB := I.eB
  rw [← e] at eB
  obtain ⟨c', eC, hD⟩ := eB.split
  have et := tidy_ech eC
  intro s hs
  refine I.bound (fun G q => (tidy_cl (RIn.cl G) C n fun r hr => (eC.row r hr).1).mpr (fun r hr => q r (by rw [← e]; exact List.mem_append_right _ hr)) s hs) (fun i hi => itm_out (by rw [(et.row s hs).1]; exact hi)) fun t ht => ?_
  have pt := I.piv t ht
  rw [← e] at ht
  rcases List.mem_append.mp ht with ht | ht
  · rw [et.zero hs (hD t ht)]; exact Nat.zero_le _
  · obtain ⟨t', ht', a, b⟩ := tidy_back eC t ht
    have := tidy_redd eC t' ht' s hs
    rw [b, a] at this
    exact Nat.le_trans this pt
end Lat
namespace K06
open PySem L2 RZ Lat
theorem stepped_sizeJ {n π : Nat} (hπ : π < 9000) : ∀ {c : Nat} {B : List Vec} {v : Vec} {τ : Nat}, Ech n c B → v.length = n → (∀ s ∈ B, (itm s (piv s)).natAbs ≤ 2 ^ π) → (∀ s ∈ B, ∀ i, (itm s i).natAbs ≤ 2 ^ τ) → (∀ i, (itm v i).natAbs ≤ 2 ^ τ) →
    2 * dbl B.length τ + 4 ≤ 134217728 → OkStep B v ∧ ∀ s ∈ stepped B v, ∀ i, (itm s i).natAbs ≤ 2 ^ dbl B.length τ
  | c, [], v, τ, _, _, _, _, hv, _ => by
    refine ⟨trivial, ?_⟩
    rw [stepped_nil]
    split
    · exact fun s h => nomatch h
    · exact fun s h i => by rw [List.mem_singleton.mp h]; exact hv i
  | c, r :: rs, v, τ, e, l, hp, hB, hv, hd => by
    obtain ⟨hp1, hp2⟩ := List.forall_mem_cons.mp hp
    obtain ⟨hB1, hB2⟩ := List.forall_mem_cons.mp hB
    have hd' : 2 * dbl rs.length (2 * τ + 2) + 4 ≤ 134217728 := hd
    have dg := dbl_ge rs.length (2 * τ + 2)
    have dm : dbl rs.length τ ≤ dbl rs.length (2 * τ + 2) := dbl_mono rs.length τ
    rw [stepped_cons]
    by_cases h : piv v < piv r
    · rw [if_pos h]
      have ih := stepped_sizeJ hπ (v := r) (τ := τ) e.2.2.2 e.1 hp2 hB2 hB1 (by omega)
      refine ⟨⟨e.1 ▸ e.2.2.1, .inl ⟨h, ih.1⟩⟩, List.forall_mem_cons.mpr ⟨fun i => Nat.le_trans (hv i) (Lat.p2le (show τ ≤ dbl rs.length (2 * τ + 2) by omega)), fun s hs i => Nat.le_trans (ih.2 s hs i) (Lat.p2le dm)⟩⟩
    · rw [if_neg h]
      have rn := e.ne (r := r) List.mem_cons_self
      obtain ⟨c1, c2⟩ := clear_len (i := piv r) (e.1.trans l.symm)
      have e3 : 4 * 2 ^ τ * 2 ^ τ = 2 ^ (2 * τ + 2) := by rw [show 2 * τ + 2 = 2 + τ + τ by omega, Nat.pow_add, Nat.pow_add]
      have cz := clear_size (n := n) (α := 1) (χ := 1) (by decide) (by decide) r v (piv r) (fun _ => True) (2 ^ τ) (2 ^ τ) e.1 l rn (Nat.two_pow_pos _) (hB1 _) (hv _) fun j _ => ⟨hB1 j, hv j⟩
      rw [e3] at cz
      have ok := clear_sizeJ (n := n) (π := π) (α := τ) (χ := 2 * τ + 2) hπ (by omega) r v (piv r) (2 ^ τ) (2 ^ τ) e.1 l rn hp1 (Nat.two_pow_pos _) (hB1 _) (hv _) (fun j => ⟨hB1 j, hv j⟩) (Nat.le_of_eq e3) (Nat.le_refl _)
      have ih := stepped_sizeJ hπ (v := (clear r v (piv r)).2) (τ := 2 * τ + 2) e.2.2.2 (c2.trans e.1) hp2 (fun s hs i => Nat.le_trans (hB2 s hs i) (Lat.p2le (by omega))) (fun i => (cz.1 i trivial).2) hd'
      exact ⟨⟨e.1 ▸ e.2.2.1, .inr ⟨h, ok, ih.1⟩⟩, List.forall_mem_cons.mpr ⟨fun i => Nat.le_trans (cz.1 i trivial).1 (Lat.p2le dg), ih.2⟩⟩
theorem tidy_sizeX {n π τ E : Nat} (hπ : π < 9000) (hτ : τ + 5 * (E + 1) + E + 6 ≤ 134217728) : ∀ {c : Nat} {B : List Vec}, Ech n c B → B.length ≤ 6 → (∀ s ∈ B, (itm s (piv s)).natAbs ≤ 2 ^ π) → (∀ s ∈ B, ∀ i, (itm s i).natAbs ≤ 2 ^ τ) → (∀ C, C <:+ B → ∀ s ∈ tidy C, ∀ i, (itm s i).natAbs ≤ 2 ^ E) → OkTidy B
  | c, [], _, _, _, _, _ => trivial
  | c, r :: rs, e, h6, hp, hB, hE => by
    obtain ⟨hp1, hp2⟩ := List.forall_mem_cons.mp hp
    obtain ⟨hB1, hB2⟩ := List.forall_mem_cons.mp hB
    rw [List.length_cons] at h6
    have ih := tidy_sizeX hπ hτ e.2.2.2 (by omega) hp2 hB2 fun C hC => hE C (hC.trans (List.suffix_cons r rs))
    have h' := tidy_ech e.2.2.2
    have lp : (posV r).length = n := (posV_length r).trans e.1
    have cnt : (tidy rs).length = rs.length := tidy_count
    have := Nat.mul_le_mul_right (E + 1) (show rs.length ≤ 5 by omega)
    have rz := redV_size hπ (v := posV r) (ξ := τ) h' lp (fun s hs => by
      obtain ⟨t, ht, q⟩ := tidy_pivs e.2.2.2 s hs
      rw [q]; exact hp2 t ht) (hE rs (List.suffix_cons r rs)) (fun i => by rw [posV_abs]; exact hB1 i) (by rw [cnt]; omega)
    refine ⟨ih, ⟨e.1 ▸ e.2.2.1, fun m hm => ?_⟩, rz.1⟩
    obtain ⟨i, rfl⟩ := mem_itm hm
    exact mul_ok (α := 1) (β := τ) (by decide) (hB1 i) (by omega)
theorem tot5 (x : Nat) : tot x 5 = 31 * (x + 1) := by simp only [tot]; omega
theorem tot4 (x : Nat) : tot x 4 = 15 * (x + 1) := by simp only [tot]; omega
theorem growX {x n : Nat} (n5 : n ≤ 5) (x1 : x ≤ 289) {B : List Vec} {v : Vec} (I : G2 x n B) (hn : Hn B) (l : v.length = n) (hv : ∀ i, (itm v i).natAbs ≤ 2 ^ x) : OkGrow B v ∧ G2 x n (grow B v) ∧ Hn (grow B v) := by
  have t5 := tot5 x
  have t4 := tot4 x
  have tn := tot_le (x := x) n5
  have tn1 := tot_le (x := x) (show n - 1 ≤ 4 by omega)
  have hp : ∀ s ∈ B, (itm s (piv s)).natAbs ≤ 2 ^ 8990 := fun s hs => Nat.le_trans (I.piv s hs) (Lat.p2le (by omega))
  have hall : ∀ s ∈ B, ∀ i, (itm s i).natAbs ≤ 2 ^ 17690 := fun s hs i => Nat.le_trans (I.all hn s hs i) (Lat.p2le (by omega))
  have cB : B.length ≤ 5 := by have := I.eB.count (Nat.zero_le _); omega
  have hm := Nat.mul_le_mul_right 17691 cB
  have rz := redV_size (π := 8990) (β := 17690) (ξ := x) (by decide) I.eB l hp hall hv (by omega)
  have ru : ∀ i, (itm (redV B v) i).natAbs ≤ 2 ^ 90000 := fun i => Nat.le_trans (rz.2 i) (Lat.p2le (by omega))
  have hlen : ∀ r ∈ B, r.length = v.length := fun r hr => ((I.eB.row r hr).1).trans l.symm
  have lu := redV_len B v hlen
  have hlen' : ∀ r ∈ B, r.length = (redV B v).length := fun r hr => (hlen r hr).trans lu.symm
  have d5 : dbl B.length 90000 ≤ 2880062 := Nat.le_trans (dbl_le cB 90000) (by decide)
  have st := stepped_sizeJ (n := n) (π := 8990) (τ := 90000) (by decide) I.eB (lu.trans l) hp (fun s hs i => Nat.le_trans (hall s hs i) (Lat.p2le (by decide))) ru (by omega)
  have es : Ech n 0 (stepped B (redV B v)) := stepped_ech I.eB (lu.trans l) (Nat.zero_le _) fun i hi => absurd hi (Nat.not_lt_zero _)
  have cs : (stepped B (redV B v)).length ≤ B.length + 1 := stepped_count
  have rc : ∀ {S : (Nat → Int) → Prop}, Cl S → (∀ r ∈ B, S (itm r)) → (S (itm (redV B v)) ↔ S (itm v)) := fun C => redV_cl C B v hlen
  have Is : G2 x n (stepped B (redV B v)) := I.step es l hv fun S C => by
    rw [stepped_cl C hlen']
    exact ⟨fun q => ⟨q.1, (rc C q.1).mp q.2⟩, fun q => ⟨q.1, (rc C q.1).mpr q.2⟩⟩
  have ps : ∀ s ∈ stepped B (redV B v), (itm s (piv s)).natAbs ≤ 2 ^ 8990 := fun s hs => Nat.le_trans (Is.piv s hs) (Lat.p2le (by omega))
  have td := tidy_sizeX (π := 8990) (τ := 2880062) (E := 17690) (by decide) (by decide) es (by omega) ps (fun s hs i => Nat.le_trans (st.2 s hs i) (Lat.p2le d5)) fun C hC s hs i => Nat.le_trans (Is.tails hC s hs i) (Lat.p2le (by omega))
  have eg : Ech n 0 (grow B v) := by
    unfold grow; split
    · exact I.eB
    · exact tidy_ech es
  refine ⟨⟨rz.1, .inr ⟨st.1, td, by omega⟩⟩, I.step eg l hv fun S C => grow_cl C hlen, ?_⟩
  unfold grow; split
  · exact hn
  · exact tidy_hn es
theorem growsX {x n : Nat} (n5 : n ≤ 5) (x1 : x ≤ 289) : ∀ (rs B : List Vec), G2 x n B → Hn B → (∀ r ∈ rs, r.length = n ∧ ∀ i, (itm r i).natAbs ≤ 2 ^ x) → OkGrows B rs ∧ G2 x n (grows B rs) ∧ Hn (grows B rs)
  | [], B, I, h, _ => ⟨trivial, I, h⟩
  | v :: vs, B, I, h, hr => by
    obtain ⟨⟨l, w⟩, h2⟩ := List.forall_mem_cons.mp hr
    obtain ⟨g1, g2, g3⟩ := growX n5 x1 I h l w
    have ih := growsX n5 x1 vs (grow B v) g2 g3 h2
    have := I.eB.count (Nat.zero_le _)
    exact ⟨⟨g1, by omega, ih.1⟩, ih.2⟩
/-- a basis of the lattice of some rows -/
structure Bas (n : Nat) (gens B : List Vec) : Prop where
  ech : Ech n 0 B
  hn : Hn B
  cl : ∀ S, Cl S → ((∀ r ∈ B, S (itm r)) ↔ ∀ r ∈ gens, S (itm r))
theorem grows_bas {n : Nat} : ∀ (rs B gens : List Vec), Bas n gens B → (∀ r ∈ rs, r.length = n) → Bas n (gens ++ rs) (grows B rs)
  | [], B, gens, b, _ => by rw [List.append_nil]; exact b
  | v :: vs, B, gens, b, h => by
    obtain ⟨l, h2⟩ := List.forall_mem_cons.mp h
    have hlen : ∀ r ∈ B, r.length = v.length := fun r hr => ((b.ech.row r hr).1).trans l.symm
    have lu := (redV_len B v hlen).trans l
    have es : Ech n 0 (stepped B (redV B v)) := stepped_ech b.ech lu (Nat.zero_le _) fun i hi => absurd hi (Nat.not_lt_zero _)
    have b' : Bas n (gens ++ [v]) (grow B v) := by
      refine ⟨?_, ?_, fun S C => ?_⟩
      · unfold grow; split
        · exact b.ech
        · exact tidy_ech es
      · unfold grow; split
        · exact b.hn
        · exact tidy_hn es
      · rw [grow_cl C hlen, b.cl S C, List.forall_mem_append]
        exact ⟨fun q => ⟨q.1, fun r hr => by rw [List.mem_singleton.mp hr]; exact q.2⟩, fun q => ⟨q.1, q.2 v (List.mem_singleton.mpr rfl)⟩⟩
    have ih := grows_bas vs (grow B v) (gens ++ [v]) b' h2
    rw [List.append_assoc] at ih
    exact ih
theorem bas0 (n : Nat) : Bas n [] [] := ⟨trivial, trivial, fun S C => Iff.rfl⟩
theorem bas_of {n : Nat} {rs : List Vec} (h : ∀ r ∈ rs, r.length = n) : Bas n rs (grows [] rs) := grows_bas rs [] [] (bas0 n) h
/-- one lattice has one basis -/
theorem bas_one {n : Nat} {g g' B B' : List Vec} (b : Bas n g B) (b' : Bas n g' B') (h : ∀ S, Cl S → ((∀ r ∈ g, S (itm r)) ↔ ∀ r ∈ g', S (itm r))) : B = B' := by
  refine hn_one b.ech b'.ech b.hn b'.hn ?_ ?_
  · exact (b.cl _ (In.cl _)).mpr ((h _ (In.cl _)).mpr ((b'.cl _ (In.cl _)).mp fun r hr => In.mem _ _ hr))
  · exact (b'.cl _ (In.cl _)).mpr ((h _ (In.cl _)).mp ((b.cl _ (In.cl _)).mp fun r hr => In.mem _ _ hr))
end K06

namespace Lat
theorem G2.small {x n M : Nat} {B : List Vec} (I : G2 x n B) (hn : Hn B) (h1 : tot x n ≤ M) (h2 : 2 * tot x (n - 1) ≤ M) : ∀ s ∈ B, ∀ i, (itm s i).natAbs ≤ 2 ^ M := by
  obtain ⟨G, es, eG, sz, hs, q1, q2⟩ := I.ex
  intro s hs'
  have pv : ∀ t ∈ B, (itm t (Lat.piv t)).natAbs ≤ 2 ^ es.sum := fun t ht => by
    obtain ⟨g, hg, _, q⟩ := piv_bound I.eB eG q1 q2 t ht
    exact Nat.le_trans q (sz.mem g hg _)
  have at' : ∀ g ∈ G, (itm s (Lat.piv g)).natAbs ≤ 2 ^ es.sum := by
    intro g hg
    have gn := eG.ne hg
    rcases lead I.eB (q1 g hg) with z | ⟨t, ht, a, ha, z, y⟩
    · exact absurd (z _) gn
    · have tn := I.eB.ne ht
      have e' : Lat.piv t = Lat.piv g := first_eq z (by rw [y]; exact Int.mul_ne_zero ha tn) (piv_spec g).1 gn
      rw [← e']
      exact Nat.le_trans (hn_redd I.eB hn t ht s hs') (pv t ht)
  have c := eG.count (Nat.zero_le _)
  have l := sz.len
  intro i
  by_cases hfull : G.length = n
  · rcases Nat.lt_or_ge i n with hi | hi
    · obtain ⟨g, hg, e⟩ := Ech.full eG (by omega) i (Nat.zero_le _) hi
      have := at' g hg
      rw [e] at this
      rw [hfull] at hs
      exact Nat.le_trans this (p2le (by omega))
    · rw [itm_out (by rw [(I.eB.row s hs').1]; exact hi)]; exact Nat.zero_le _
  · have q := all_bound2 eG sz (q2 s hs') at' i
    rw [← Nat.pow_add] at q
    have := tot_le (x := x) (show G.length ≤ n - 1 by omega)
    exact Nat.le_trans q (p2le (by omega))
/-! ## how many rows -/
def gho (C : List Vec) : List Vec := C.foldl insG []
theorem foldG {n : Nat} : ∀ (C G : List Vec), Ech n 0 G → (∀ c ∈ C, c.length = n) → Ech n 0 (C.foldl insG G) ∧ (C.foldl insG G).length ≤ G.length + C.length ∧ (∀ f, RIn G f → RIn (C.foldl insG G) f) ∧ ∀ c ∈ C, RIn (C.foldl insG G) (itm c)
  | [], G, e, _ => ⟨e, Nat.le_refl _, fun f h => h, fun c h => nomatch h⟩
  | c :: C, G, e, h => by
    have lc := h c List.mem_cons_self
    have e' : Ech n 0 (insG G c) := insG_ech e lc (Nat.zero_le _) fun i hi => absurd hi (Nat.not_lt_zero _)
    obtain ⟨a1, a2, a3, a4⟩ := foldG C (insG G c) e' fun d hd => h d (List.mem_cons_of_mem _ hd)
    have cnt := insG_count (G := G) (v := c)
    refine ⟨a1, ?_, fun f hf => a3 f ?_, fun d hd => ?_⟩
    · rw [List.foldl_cons, List.length_cons]; omega
    · obtain ⟨D, hD, q⟩ := hf
      exact ⟨D, hD, In.sub (In.cl _) (fun g hg => insG_old g hg) q⟩
    · rcases List.mem_cons.mp hd with z | hd
      · rw [z]; exact a3 _ (insG_new e lc)
      · exact a4 d hd
theorem pivs_le {n : Nat} : ∀ {c d : Nat} {B G : List Vec}, Ech n c B → Ech n d G → (∀ s ∈ B, ∃ g ∈ G, piv g = piv s) → B.length ≤ G.length
  | _, _, [], _, _, _, _ => Nat.zero_le _
  | c, d, r :: rs, [], _, _, h => by obtain ⟨g, hg, _⟩ := h r List.mem_cons_self; exact nomatch hg
  | c, d, r :: rs, g :: gs, eB, eG, h => by
    rw [List.length_cons, List.length_cons]
    refine Nat.succ_le_succ (pivs_le eB.2.2.2 eG.2.2.2 fun s hs => ?_)
    obtain ⟨t, ht, q⟩ := h s (List.mem_cons_of_mem _ hs)
    rcases List.mem_cons.mp ht with z | ht
    · subst z
      obtain ⟨t', ht', q'⟩ := h r List.mem_cons_self
      have h1 := (eB.2.2.2.row s hs).2.1
      rcases List.mem_cons.mp ht' with z' | ht'
      · subst z'; omega
      · have h2 := (eG.2.2.2.row t' ht').2.1; omega
    · exact ⟨t, ht, q⟩
theorem rank_le {n : Nat} {B C : List Vec} (eB : Ech n 0 B) (lC : ∀ c ∈ C, c.length = n) (h : ∀ S, Cl S → (∀ c ∈ C, S (itm c)) → ∀ r ∈ B, S (itm r)) : B.length ≤ C.length := by
  obtain ⟨a1, a2, _, a4⟩ := foldG C [] (n := n) trivial lC
  have hB := h _ (RIn.cl (C.foldl insG [])) a4
  have := pivs_le eB a1 fun s hs => by
    obtain ⟨D, hD, q⟩ := hB s hs
    have sn := eB.ne hs
    rcases lead a1 q with z | ⟨g, hg, a, ha, z, y⟩
    · exact absurd (z (piv s)) (Int.mul_ne_zero hD sn)
    · have gn := a1.ne hg
      refine ⟨g, hg, ?_⟩
      refine first_eq (f := itm s) (fun i hi => ?_) (fun q => ?_) (piv_spec s).1 sn
      · rcases Int.mul_eq_zero.mp (z i hi) with w | w
        · exact absurd w hD
        · exact w
      · have : D * itm s (piv g) = 0 := by rw [q, Int.mul_zero]
        rw [this] at y
        exact Int.mul_ne_zero ha gn y.symm
  rw [List.length_nil] at a2
  omega
/-! ## multiples, turned about -/
def scV (t : Int) (v : Vec) : Vec := v.map fun x => t * x
theorem scV_len (t : Int) (v : Vec) : (scV t v).length = v.length := List.length_map ..
theorem scV_itm (t : Int) (v : Vec) (i : Nat) : itm (scV t v) i = t * itm v i := by
  unfold itm scV
  rw [List.getD_eq_getElem?_getD, List.getD_eq_getElem?_getD, List.getElem?_map]
  cases v[i]? with
  | none => show (0 : Int) = t * 0; omega
  | some x => rfl
theorem scV_piv {t : Int} (ht : t ≠ 0) {v : Vec} (h : piv v < v.length) : piv (scV t v) = piv v :=
  piv_eq (fun i hi => by rw [scV_itm, (piv_spec v).1 i hi]; omega) (by rw [scV_itm]; exact Int.mul_ne_zero ht ((piv_spec v).2 h))
theorem scV_ech {n : Nat} {t : Int} (ht : t ≠ 0) : ∀ {c : Nat} {B : List Vec}, Ech n c B → Ech n c (B.map (scV t))
  | _, [], _ => trivial
  | c, r :: rs, e => by
    have p := scV_piv ht (v := r) (e.1 ▸ e.2.2.1)
    refine ⟨(scV_len t r).trans e.1, by rw [p]; exact e.2.1, by rw [p]; exact e.2.2.1, ?_⟩
    rw [p]; exact scV_ech ht e.2.2.2
theorem scV_hn {n : Nat} {t : Int} (ht : 0 < t) : ∀ {c : Nat} {B : List Vec}, Ech n c B → Hn B → Hn (B.map (scV t))
  | _, [], _, _ => trivial
  | c, r :: rs, e, h => by
    have p := scV_piv (show t ≠ 0 by omega) (v := r) (e.1 ▸ e.2.2.1)
    refine ⟨fun s hs => ?_, by show 0 < itm (scV t r) (piv (scV t r)); rw [p, scV_itm]; exact Int.mul_pos ht h.2.1, scV_hn ht e.2.2.2 h.2.2⟩
    obtain ⟨u, hu, rfl⟩ := List.mem_map.mp hs
    obtain ⟨l, _, q⟩ := e.2.2.2.row u hu
    have p' := scV_piv (show t ≠ 0 by omega) (v := u) (l ▸ q)
    rw [p', scV_itm, scV_itm]
    obtain ⟨h1, h2⟩ := h.1 u hu
    exact ⟨Int.mul_nonneg (by omega) h1, Int.mul_lt_mul_of_pos_left h2 ht⟩
def Rv (n : Nat) (f : Nat → Int) : Nat → Int := fun i => if i < n then f (n - 1 - i) else 0
theorem Rv_rev {n : Nat} {v : Vec} (l : v.length = n) : itm v.reverse = Rv n (itm v) := by
  funext i
  unfold Rv
  by_cases hi : i < n
  · rw [if_pos hi]
    unfold itm
    rw [List.getD_eq_getElem?_getD, List.getD_eq_getElem?_getD, List.getElem?_reverse (by omega), l]
  · rw [if_neg hi]
    exact itm_out (by rw [List.length_reverse]; omega)
theorem Cl.rv {S : (Nat → Int) → Prop} (C : Cl S) (n : Nat) : Cl fun f => S (Rv n f) :=
  ⟨by
    show S (Rv n fun _ => 0)
    rw [show Rv n (fun _ => 0) = fun _ => 0 from funext fun i => by unfold Rv; split <;> rfl]
    exact C.zero, fun f h t a b => C.of (t := t) a b fun i => by
    show Rv n (fun i => f i + t * h i) i = _
    unfold Rv
    split
    · rfl
    · omega⟩
theorem Cl.sc {S : (Nat → Int) → Prop} (C : Cl S) (t : Int) : Cl fun f => S fun i => t * f i :=
  ⟨C.of (t := 0) C.zero C.zero fun i => by show t * (0 : Int) = 0 + 0 * 0; omega, fun f h a x y => C.of (t := a) x y fun i => by grind⟩
end Lat
namespace K06
open PySem L2 RZ Lat
/-! ## the divisor -/
def lin : Vec → (Nat → Int) → Int
  | [], _ => 0
  | x :: f, h => h 0 * x + lin f fun i => h (i + 1)
theorem lin_zero : ∀ f : Vec, (lin f fun _ => 0) = 0
  | [] => rfl
  | x :: f => by
    show 0 * x + lin f (fun _ => 0) = 0
    rw [lin_zero f]; omega
theorem lin_add (t : Int) : ∀ (f : Vec) (h k : Nat → Int), (lin f fun i => h i + t * k i) = lin f h + t * lin f k
  | [], _, _ => by show (0 : Int) = 0 + t * 0; omega
  | x :: f, h, k => by
    have ih := lin_add t f (fun i => h (i + 1)) fun i => k (i + 1)
    show (h 0 + t * k 0) * x + lin f (fun i => h (i + 1) + t * k (i + 1)) = (h 0 * x + lin f fun i => h (i + 1)) + t * (k 0 * x + lin f fun i => k (i + 1))
    rw [ih]; grind
theorem lin_dotV : ∀ f v : Vec, dotV f v = lin f (itm v)
  | [], v => by cases v <;> rfl
  | x :: f, [] => by
    have e : itm [] = fun _ => 0 := by funext i; rfl
    rw [e, lin_zero]; rfl
  | x :: f, y :: v => by
    have ih := lin_dotV f v
    have e : dotV (x :: f) (y :: v) = y * x + dotV f v := rfl
    rw [e, ih]; rfl
theorem div_cl (f : Vec) (d : Int) : Cl fun h => d ∣ lin f h :=
  ⟨by show d ∣ lin f (fun _ => 0); rw [lin_zero]; exact Int.dvd_zero _, fun h k t a b => by
    show d ∣ lin f (fun i => h i + t * k i)
    rw [lin_add]; exact Int.dvd_add a (Int.dvd_mul_of_dvd_right b)⟩
theorem dvd_fold (d : Nat) (f : Vec) : ∀ (rs : List Vec) (m : Nat), d ∣ rs.foldl (fun m r => Nat.gcd m (dotV f r).natAbs) m ↔ d ∣ m ∧ ∀ r ∈ rs, (d : Int) ∣ lin f (itm r)
  | [], m => ⟨fun h => ⟨h, fun r h => nomatch h⟩, fun h => h.1⟩
  | r :: rs, m => by
    rw [List.foldl_cons, dvd_fold d f rs, Nat.dvd_gcd_iff, List.forall_mem_cons, ← lin_dotV, Int.ofNat_dvd_left, and_assoc]
theorem dvd_gcdV (d : Nat) (f : Vec) (rs : List Vec) : d ∣ gcdV f rs ↔ ∀ r ∈ rs, (d : Int) ∣ lin f (itm r) := by
  unfold gcdV
  rw [dvd_fold]
  exact ⟨fun h => h.2, fun h => ⟨Nat.dvd_zero _, h⟩⟩
theorem gcdV_bas {n : Nat} {gens B : List Vec} (b : Bas n gens B) (f : Vec) : gcdV f B = gcdV f gens :=
  Nat.dvd_antisymm ((dvd_gcdV _ _ _).mpr ((b.cl _ (div_cl f _)).mp ((dvd_gcdV _ _ _).mp (Nat.dvd_refl _)))) ((dvd_gcdV _ _ _).mpr ((b.cl _ (div_cl f _)).mpr ((dvd_gcdV _ _ _).mp (Nat.dvd_refl _))))
theorem gcdV_append (f : Vec) (rs us : List Vec) : gcdV f (rs ++ us) = Nat.gcd (gcdV f rs) (gcdV f us) := by
  refine Nat.dvd_antisymm (Nat.dvd_gcd ((dvd_gcdV _ _ _).mpr fun r hr => (dvd_gcdV _ _ _).mp (Nat.dvd_refl _) r (List.mem_append_left _ hr)) ((dvd_gcdV _ _ _).mpr fun r hr => (dvd_gcdV _ _ _).mp (Nat.dvd_refl _) r (List.mem_append_right _ hr))) ((dvd_gcdV _ _ _).mpr fun r hr => ?_)
  rcases List.mem_append.mp hr with hr | hr
  · exact (dvd_gcdV _ _ _).mp (Nat.gcd_dvd_left _ _) r hr
  · exact (dvd_gcdV _ _ _).mp (Nat.gcd_dvd_right _ _) r hr
theorem dot_sc (t : Int) (f v : Vec) : dotV f (scV t v) = t * dotV f v := by
  rw [lin_dotV, lin_dotV]
  have := lin_add t f (fun _ => 0) (itm v)
  rw [lin_zero] at this
  rw [show itm (scV t v) = fun i => (fun _ => (0 : Int)) i + t * itm v i from funext fun i => by rw [scV_itm]; show t * itm v i = 0 + t * itm v i; omega, this]; omega
theorem gcdV_sc (t : Nat) (f : Vec) : ∀ (rs : List Vec) (m : Nat), (rs.map (scV (t : Int))).foldl (fun m r => Nat.gcd m (dotV f r).natAbs) (t * m) = t * rs.foldl (fun m r => Nat.gcd m (dotV f r).natAbs) m
  | [], m => rfl
  | r :: rs, m => by
    rw [List.map_cons, List.foldl_cons, List.foldl_cons, dot_sc, Int.natAbs_mul, Int.natAbs_natCast, Nat.gcd_mul_left, gcdV_sc t f rs]
theorem gcdV_times (t : Nat) (f : Vec) (rs : List Vec) : gcdV f (rs.map (scV (t : Int))) = t * gcdV f rs := by
  have := gcdV_sc t f rs 0
  rw [Nat.mul_zero] at this
  exact this
/-! ## what the law asks -/
def Small (n : Nat) (rs : List Vec) : Prop := ∀ r ∈ rs, r.length = n ∧ ∀ i, (itm r i).natAbs ≤ 2 ^ 8
theorem Small.len {n : Nat} {rs : List Vec} (h : Small n rs) : ∀ r ∈ rs, r.length = n := fun r hr => (h r hr).1
theorem Small.append {n : Nat} {rs us : List Vec} (h : Small n rs) (g : Small n us) : Small n (rs ++ us) := fun r hr => (List.mem_append.mp hr).elim (h r) (g r)
structure Nice (n : Nat) (rs B : List Vec) : Prop where
  ok : OkGrows [] rs
  bas : Bas n rs B
  size : ∀ s ∈ B, ∀ i, (itm s i).natAbs ≤ 2 ^ 289
theorem Nice.len {n : Nat} {rs B : List Vec} (h : Nice n rs B) : ∀ r ∈ B, r.length = n := fun r hr => (h.bas.ech.row r hr).1
theorem Nice.count {n : Nat} {rs B : List Vec} (h : Nice n rs B) : B.length ≤ n := by have := h.bas.ech.count (Nat.zero_le _); omega
theorem small_nice {n : Nat} (n5 : n ≤ 5) {rs : List Vec} (h : Small n rs) : Nice n rs (grows [] rs) := by
  obtain ⟨a, b, c⟩ := growsX (x := 8) n5 (by decide) rs [] (G2.nil 8 n) trivial h
  have t5 := tot5 8
  have t4 := tot4 8
  have q1 := tot_le (x := 8) n5
  have q2 := tot_le (x := 8) (show n - 1 ≤ 4 by omega)
  exact ⟨a, bas_of h.len, b.small c (by omega) (by omega)⟩
/-- rows of two such lattices are put together -/
theorem wide_ok {n : Nat} (n5 : n ≤ 5) {rs : List Vec} (h : ∀ r ∈ rs, r.length = n ∧ ∀ i, (itm r i).natAbs ≤ 2 ^ 289) : OkGrows [] rs := (growsX (x := 289) n5 (by decide) rs [] (G2.nil 289 n) trivial h).1
theorem Nice.wide {n : Nat} {rs B : List Vec} (h : Nice n rs B) : ∀ r ∈ B, r.length = n ∧ ∀ i, (itm r i).natAbs ≤ 2 ^ 289 := fun r hr => ⟨h.len r hr, h.size r hr⟩
theorem Nice.two {n : Nat} (n5 : n ≤ 5) {rs us B D : List Vec} (h : Nice n rs B) (g : Nice n us D) : OkGrows [] (B ++ D) := wide_ok n5 fun r hr => (List.mem_append.mp hr).elim (h.wide r) (g.wide r)
theorem or_bas {n : Nat} {rs us B D : List Vec} (h : Bas n rs B) (g : Bas n us D) : Bas n (rs ++ us) (grows [] (B ++ D)) := by
  have lB : ∀ r ∈ B ++ D, r.length = n := fun r hr => (List.mem_append.mp hr).elim (fun q => (h.ech.row r q).1) (fun q => (g.ech.row r q).1)
  have b := bas_of lB
  refine ⟨b.ech, b.hn, fun S C => ?_⟩
  rw [b.cl S C, List.forall_mem_append, List.forall_mem_append, h.cl S C, g.cl S C]
theorem or_eq {n : Nat} (n5 : n ≤ 5) {rs us : List Vec} (h : Small n rs) (g : Small n us) : grows [] (grows [] rs ++ grows [] us) = grows [] (rs ++ us) :=
  bas_one (or_bas (bas_of h.len) (bas_of g.len)) (bas_of (h.append g).len) fun S C => Iff.rfl
theorem Nice.red {n : Nat} (n5 : n ≤ 5) {rs B : List Vec} (h : Nice n rs B) {v : Vec} (l : v.length = n) (hv : ∀ i, (itm v i).natAbs ≤ 2 ^ 289) : OkRed B v := by
  have c := h.count
  have := Nat.mul_le_mul_right 290 (show B.length ≤ 5 by omega)
  exact (redV_size (π := 289) (β := 289) (ξ := 289) (by decide) h.bas.ech l (fun s hs => h.size s hs _) h.size hv (by omega)).1
theorem mem_bas {n : Nat} {gens B : List Vec} (b : Bas n gens B) {v : Vec} (l : v.length = n) : piv (redV B v) = (redV B v).length ↔ ∀ S, Cl S → (∀ r ∈ gens, S (itm r)) → S (itm v) := by
  have lB : ∀ r ∈ B, r.length = v.length := fun r hr => (b.ech.row r hr).1.trans l.symm
  constructor
  · exact fun h S C q => In.sub C ((b.cl S C).mpr q) (red_in lB h)
  · exact fun h => red_zero b.ech l (h _ (In.cl B) ((b.cl _ (In.cl B)).mp fun r hr => In.mem _ _ hr))
theorem leV_iff' {n : Nat} {rs us B D : List Vec} (b : Bas n rs B) (d : Bas n us D) (leD : Bool) (e : leD = (D.map fun r => decide (piv (redV B r) = (redV B r).length)).all id) : leD = true ↔ ∀ S, Cl S → (∀ r ∈ rs, S (itm r)) → ∀ r ∈ us, S (itm r) := by
  rw [e, List.all_map, List.all_eq_true]
  constructor
  · intro h S C q
    refine (d.cl S C).mp fun r hr => ?_
    have := h r hr
    simp only [Function.comp, id, decide_eq_true_eq] at this
    exact (mem_bas b (d.ech.row r hr).1).mp this S C q
  · intro h r hr
    simp only [Function.comp, id, decide_eq_true_eq]
    exact (mem_bas b (d.ech.row r hr).1).mpr fun S C q => (d.cl S C).mpr (h S C q) r hr
theorem sc_bas {n : Nat} {t : Int} (ht : 0 < t) {rs B : List Vec} (b : Bas n rs B) : Bas n (rs.map (scV t)) (B.map (scV t)) := by
  refine ⟨scV_ech (by omega) b.ech, scV_hn ht b.ech b.hn, fun S C => ?_⟩
  have q := b.cl _ (C.sc t)
  have e : ∀ v : Vec, itm (scV t v) = fun i => t * itm v i := fun v => funext (scV_itm t v)
  simp only [List.forall_mem_map, e]
  exact q
theorem rev_cl {n : Nat} {rs : List Vec} (l : ∀ r ∈ rs, r.length = n) {S : (Nat → Int) → Prop} : (∀ r ∈ rs.map List.reverse, S (itm r)) ↔ ∀ r ∈ rs, S (Rv n (itm r)) := by
  rw [List.forall_mem_map]
  exact ⟨fun h r hr => by rw [← Rv_rev (l r hr)]; exact h r hr, fun h r hr => by rw [Rv_rev (l r hr)]; exact h r hr⟩
theorem rev_rev {n : Nat} {rs : List Vec} (l : ∀ r ∈ rs, r.length = n) {S : (Nat → Int) → Prop} : (∀ r ∈ rs.map List.reverse, S (Rv n (itm r))) ↔ ∀ r ∈ rs, S (itm r) := by
  rw [List.forall_mem_map]
  have e : ∀ r ∈ rs, Rv n (itm r.reverse) = itm r := fun r hr => by
    rw [← Rv_rev (by rw [List.length_reverse]; exact l r hr), List.reverse_reverse]
  exact ⟨fun h r hr => by rw [← e r hr]; exact h r hr, fun h r hr => by rw [e r hr]; exact h r hr⟩
/-- turned about and back -/
theorem turn_cl {n : Nat} {rs B : List Vec} (l : ∀ r ∈ rs, r.length = n) (b : Bas n (rs.map List.reverse) B) (S : (Nat → Int) → Prop) (C : Cl S) : (∀ r ∈ B.map List.reverse, S (itm r)) ↔ ∀ r ∈ rs, S (itm r) := by
  rw [rev_cl (fun r hr => (b.ech.row r hr).1), b.cl _ (C.rv n), rev_rev l]
theorem turn_rank {n : Nat} {rs A B : List Vec} (l : ∀ r ∈ rs, r.length = n) (a : Bas n rs A) (b : Bas n (rs.map List.reverse) B) : B.length = A.length := by
  have l' : ∀ r ∈ rs.map List.reverse, r.length = n := fun r hr => by
    obtain ⟨u, hu, rfl⟩ := List.mem_map.mp hr
    rw [List.length_reverse]; exact l u hu
  have ll : ∀ {D : List Vec}, (∀ r ∈ D, r.length = n) → ∀ r ∈ D.map List.reverse, r.length = n := fun {D} h r hr => by
    obtain ⟨u, hu, rfl⟩ := List.mem_map.mp hr
    rw [List.length_reverse]; exact h u hu
  have h1 := rank_le (C := B.map List.reverse) a.ech (ll fun r hr => (b.ech.row r hr).1) fun S C q => (a.cl S C).mpr ((turn_cl l b S C).mp q)
  have h2 := rank_le (C := A.map List.reverse) b.ech (ll fun r hr => (a.ech.row r hr).1) fun S C q => (b.cl S C).mpr (by
    rw [rev_cl l]
    rw [rev_cl (fun r hr => (a.ech.row r hr).1)] at q
    exact (a.cl _ (C.rv n)).mp q)
  rw [List.length_map] at h1 h2
  omega
end K06

set_option maxHeartbeats 2000000
namespace HT
open PySem PySem.Spec PyProof.Rows PySem.Calls
section
variable {prog : Program} {w : World} {A : Around} {E : Value → Shared → Prop} {s : Shared}
theorem back_bounds (n : Nat) : Builtin.Slice.sliceAdjust none none (-1) (n : Int) = ((n : Int) - 1, -1) := rfl
theorem back_many (n : Nat) : Builtin.Slice.slicePlaces ((n : Int) - 1) (-1) (-1) = n := by
  unfold Builtin.Slice.slicePlaces
  rw [if_neg (show ¬ ((-1 : Int) > 0) by decide)]
  split
  · rw [show (- (-1) : Int) = 1 by decide, Int.ediv_one]; omega
  · omega
theorem goesSame {α β : Type} {f g : α → Option β} : ∀ (xs : List α), (∀ x ∈ xs, f x = g x) → xs.filterMap f = xs.filterMap g
  | [], _ => rfl
  | x :: xs, h => by
    rw [List.filterMap_cons, List.filterMap_cons, h x List.mem_cons_self, goesSame xs fun y hy => h y (List.mem_cons_of_mem _ hy)]
theorem back_pick (its : Array Value) : ((List.range its.size).filterMap fun (j : Nat) => its[(((its.size : Nat) : Int) - 1 + (j : Int) * (-1)).toNat]?).toArray = its.toList.reverse.toArray := by
  have q : (List.range its.size).filterMap (fun (j : Nat) => its[(((its.size : Nat) : Int) - 1 + (j : Int) * (-1)).toNat]?) = ((List.range its.size).map fun j => its.size - 1 - j).filterMap fun j => its[j]? := by
    rw [List.filterMap_map]
    refine goesSame _ fun j hj => ?_
    have hj := List.mem_range.mp hj
    show its[(((its.size : Nat) : Int) - 1 + (j : Int) * (-1)).toNat]? = its[its.size - 1 - j]?
    rw [show (((its.size : Nat) : Int) - 1 + (j : Int) * (-1)).toNat = its.size - 1 - j by omega]
  rw [q, PySem.W.krv_range, List.filterMap_reverse, PySem.W.krv_all]
theorem applied_back {c : Addr} {v1 v2 v3 : Value} {n : Nat} {R : Int × Int × Nat → Shared → Prop} (hc : s.heap.IsSliceOf c v1 v2 v3) (p1 : IsPart v1 none) (p2 : IsPart v2 none) (p3 : IsPart v3 (some (-1)))
    (h : R ((n : Int) - 1, -1, n) s) : wpAny (model prog w) A (Builtin.Slice.sliceApplied (.ref c) (pure (n : Int))) R E s := by
  obtain ⟨ob, g1, g2, g3⟩ := id hc
  unfold Builtin.Slice.sliceApplied
  unfold Builtin.Slice.sliceFields
  refine wpAny_bind (wpAny_bind (wpAny_field g1 g3 (x := v1) rfl (wpAny_bind (wpAny_field g1 g3 (x := v2) rfl (wpAny_bind (wpAny_field g1 g3 (x := v3) rfl (wpAny_pure ?_)))))))
  refine wpAny_bind (slicePart_ p3 ?_)
  show wpAny _ _ (if ((-1 : Int) == 0) = true then _ else _) _ _ s
  rw [if_neg (show ¬ ((-1 : Int) == 0) = true by decide)]
  refine wpAny_bind (slicePart_ p1 (wpAny_bind (slicePart_ p2 (wpAny_bind (wpAny_pure (wpAny_pure ?_))))))
  show R ((n : Int) - 1, (-1 : Int), Builtin.Slice.slicePlaces ((n : Int) - 1) (-1) (-1)) s
  rw [back_many]
  exact h
/-- t[::-1] -/
theorem getItem_tuple_back {t c : Addr} {its : Array Value} {v1 v2 v3 : Value} {R : Value → Shared → Prop} (ht : IsTup s.heap t its) (hc : s.heap.IsSliceOf c v1 v2 v3) (p1 : IsPart v1 none) (p2 : IsPart v2 none) (p3 : IsPart v3 (some (-1)))
    (h : R (.ref s.heap.objs.size) { s with heap := s.heap.push { cls := .type "tuple", data := .seq its.toList.reverse.toArray } }) (hz : its.size ≤ sizeLine) : wpAny (model prog w) A (getItem (.ref t) (.ref c)) R E s := by
  have fit : sizeOk (.seq its.toList.reverse.toArray) := by
    show its.toList.reverse.toArray.size ≤ sizeLine
    rw [List.size_toArray, List.length_reverse, Array.length_toList]
    exact hz
  have kind : s.TypeIs (.ref c) "slice" := by
    obtain ⟨ob, g1, g2, _⟩ := hc
    exact ⟨ob, g1, g2⟩
  unfold getItem
  refine wpAny_holding ?_
  first | refine wpAny_bind (wpAny_pure ?_) | skip
  refine wpAny_bind (wpAny_sequenceKey ht.typeIs (by decide) (wpAny_bind (wpAny_callSpecial?_slot (name := Str.ofString "__getitem__") ht.typeIs slot_tuple_getitem (wpAny_call_entry slot_tuple_getitem ht.typeIs entry_tuple_getitem ?_ (args_tuple_getitem _ _)))))
  show wpAny _ _ (Builtin.Tuple.tupleItemsOf (.ref t) >>= _) _ _ s
  refine wpAny_bind (tupleItemsOf_ ht (wpAny_bind (wpAny_typeOf kind ?_)))
  rw [if_pos (show (Value.type "slice" == Value.type "slice") = true by decide)]
  refine wpAny_bind (applied_back hc p1 p2 p3 ?_)
  have off : ¬ (((((its.size : Nat) : Int) - 1) == 0 && (-1 : Int) == 1 && its.size == its.size) = true) := by
    intro q
    rw [Bool.and_eq_true, Bool.and_eq_true] at q
    exact absurd q.1.2 (by decide)
  show wpAny _ _ (if ((((its.size : Nat) : Int) - 1) == 0 && (-1 : Int) == 1 && its.size == its.size) = true then _ else _) _ _ s
  rw [if_neg off, back_pick]
  first
    | exact wpAny_bind (m := Builtin.Tuple.tupleExact _) (wpAny_newObj_type (wpAny_pure ⟨_, rfl, wpAny_pure h⟩) fit)
    | exact wpAny_bind (m := Builtin.Tuple.tupleExact _) (wpAny_newObj_type (wpAny_bind (wpAny_pure (wpAny_pure ⟨_, rfl, wpAny_pure h⟩))) fit)
    | exact wpAny_bind (wpAny_bind (m := Builtin.Tuple.tupleExact _) (wpAny_newObj_type (wpAny_pure (wpAny_pure ⟨_, rfl, wpAny_pure h⟩)) fit))
    | exact wpAny_bind (wpAny_bind (m := Builtin.Tuple.tupleExact _) (wpAny_newObj_type (wpAny_pure ⟨_, rfl, wpAny_pure h⟩) fit))
end
end HT
namespace L2
open PySem PySem.Spec PyProof.Rows
section
variable {X : Cx}
/-- t[::-1], a tuple: a new tuple, the other way about -/
def tRevT (K : PySem.W.Frag) (te : TE) : TE := fun σ H Q => te σ H fun x H1 => ∃ a xs, x = .ref a ∧ SqT K H1 a xs ∧ ∀ p, H1 p = none → Q (.ref p) (upd H1 p (.tup xs.reverse))
theorem pe_revT {d : Expr} {td : TE} {j : Nat} {q1 q2 q3 q4 : Pos} (hd : PE X d td) : PE X (.Subscript d (.Slice none none (some (.UnaryOp .USub (.Constant (.int 1) j q1) q2)) q3) q4) (tRevT X.K td) := by
  refine ⟨fun pins s σ H Q I h => Subscript_ (thn (hd.run pins s σ H _ I h) fun v s1 ⟨x, H1, I1, r1, a, xs, ex, hx, k⟩ => ?_)⟩
  subst ex
  cases r1
  have step : PO X (some (.UnaryOp .USub (.Constant (.int 1) j q1) q2)) (tPart (tUn (rU fun i => .int (-i)) (tC (.int 1)))) := po_some (pe_un un_neg pe_int)
  refine wpAny_Slice (thn (po_none.run pins s1 σ H1 (fun o H2 => o = none ∧ H2 = H1) I1 ⟨rfl, rfl⟩) fun v1 s2 ⟨o1, H2, I2, p1, z1, e2⟩ => thn (po_none.run pins s2 σ H2 (fun o H3 => o = none ∧ H3 = H1) I2 ⟨rfl, e2⟩) fun v2 s3 ⟨o2, H3, I3, p2, z2, e3⟩ => ?_)
  subst z1 z2 e3
  refine thn (step.run pins s3 σ H3 (fun o H4 => o = some (-1) ∧ H4 = H3) I3 ⟨1, rfl, -1, rfl, rfl, rfl⟩) fun v3 s4 ⟨o3, H4, I4, p3, z3, e4⟩ => ?_
  subst z3 e4
  have I5 : Inv X pins σ H4 { s4 with heap := s4.heap.push { cls := .type "slice", data := .fields #[v1, v2, v3] } } := I4.kept (t' := s4.toks) fun b ob q => Heap.get?_push_of_some _ q
  obtain ⟨its, r, ht, hz⟩ := I5.tuple hx
  have hlen := r.length
  show wpAny (model X.prog X.w) X.A (subscriptTail d (.Slice none none (some (.UnaryOp .USub (.Constant (.int 1) j q1) q2)) q3) (.ref a) (.ref s4.heap.objs.size)) (EP X pins σ Q) X.xe { s4 with heap := s4.heap.push { cls := .type "slice", data := .fields #[v1, v2, v3] } }
  refine tail_any (ops := [.ref a, .ref s4.heap.objs.size]) ht.typeIs slot_tuple_getitem.lookup ?_ (by with_unfolding_all rfl)
  refine HT.getItem_tuple_back ht (Heap.IsSliceOf.new _ v1 v2 v3) p1 p2 p3 ?_ (by rw [List.size_toArray]; omega)
  refine ⟨.ref _, _, I5.laid (t' := s4.toks) (o := .tup xs.reverse) (fun b ob q => Heap.get?_push_of_some _ q) (Nat.le_refl _) ⟨by rw [List.length_reverse]; exact hz, _, r.reverse, IsTup.new _ _⟩, rfl, k _ (I5.hok.fresh (Nat.le_refl _))⟩
/-! the same, the part of the kept heap named (inside a block) -/
theorem pe_revTK {K : PySem.W.Frag} (e : X.K = K) {d : Expr} {td : TE} {j : Nat} {q1 q2 q3 q4 : Pos} (hd : PE X d td) : PE X (.Subscript d (.Slice none none (some (.UnaryOp .USub (.Constant (.int 1) j q1) q2)) q3) q4) (tRevT K td) := by
  subst e; exact pe_revT hd
theorem pi_tupK {K : PySem.W.Frag} (e : X.K = K) {tg l : Expr} {tl : TE} (hl : PE X l tl) : PI X tg l (iTup K tl) := by
  subst e; exact pi_tup hl
def rTupOf (K : PySem.W.Frag) : List V → Hp → VK → Prop := fun xs H Q => ∃ p ys, xs = [.ref p] ∧ ((SqL K H p ys ∧ ∀ l, H l = none → Q (.ref l) (upd H l (.tup ys))) ∨ (SqT K H p ys ∧ Q (.ref p) H))
theorem call_tupK {K : PySem.W.Frag} (e : X.K = K) : CallR X (.type "tuple") (rTupOf K) := by
  subst e; exact call_tuple_of
end
end L2

namespace K06
open PySem L2 RZ Lat
structure ClsT (K : PySem.W.Frag) (C : Addr) : Prop where
  two : Two K C
  ha : PySem.W.findIn K (.ref C) "__class__" = some (some (.builtin "object.__class__"))
  hn : PySem.W.specialIn K (.builtin "object.__class__") "__get__" = some (some (.builtin "getset_descriptor.__get__"))
  htk : PySem.W.takesIn K (.builtin "object.__class__") = some true
  kk : PySem.W.kitOne K (.ref C) (.ref C) = some true
structure ClsF (K : PySem.W.Frag) (mg : Str → Option Value) (D : Addr) : Prop where
  cl : Cls K D
  nW : NoAttr K D "width"
  nP : NoAttr K D "point"
  nB : NoAttr K D "basis"
  m : mg "Factors" = some (.ref D)
theorem ints_eq_all : ∀ v u : Vec, PyData.eqvAll (v.map PyData.int) (u.map PyData.int) = decide (v = u)
  | [], [] => by decide +kernel
  | [], m :: u => by simp [PyData.eqvAll]
  | n :: v, [] => by simp [PyData.eqvAll]
  | n :: v, m :: u => by
    have := ints_eq_all v u
    simp only [List.map_cons, PyData.eqvAll, PyData.eqv, this, List.cons.injEq]
    by_cases h : n = m
    · subst h; simp
    · simp [h]
theorem rows_eq_all : ∀ v u : List Vec, PyData.eqvAll (v.map rowD) (u.map rowD) = decide (v = u)
  | [], [] => by decide +kernel
  | [], m :: u => by simp [PyData.eqvAll]
  | n :: v, [] => by simp [PyData.eqvAll]
  | n :: v, m :: u => by
    have h1 := rows_eq_all v u
    have h2 := ints_eq_all n m
    simp only [List.map_cons, PyData.eqvAll, rowD, PyData.eqv, h2, List.cons.injEq]
    rw [show PyData.eqvAll (v.map rowD) (u.map rowD) = decide (v = u) from h1]
    by_cases h : n = m
    · subst h; simp
    · simp [h]
theorem rowsT_shaped (rs : List Vec) : SeqAt.shaped (.tuple (rs.map rowD)) = true := by
  have := rows_shaped rs
  have h1 : (PyData.canLay0 (.list (rs.map rowD)) && decide (PyData.depth (.list (rs.map rowD)) ≤ 64)) = true := this
  show (PyData.canLay0 (.tuple (rs.map rowD)) && decide (PyData.depth (.tuple (rs.map rowD)) ≤ 64)) = true
  simp only [PyData.canLay0, PyData.depth] at h1 ⊢
  exact h1
theorem tup_shaped (v : Vec) : SeqAt.shaped (.tuple (v.map PyData.int)) = true := by
  have := intsD_shaped v
  have h1 : (PyData.canLay0 (.list (v.map PyData.int)) && decide (PyData.depth (.list (v.map PyData.int)) ≤ 64)) = true := this
  show (PyData.canLay0 (.tuple (v.map PyData.int)) && decide (PyData.depth (.tuple (v.map PyData.int)) ≤ 64)) = true
  simp only [PyData.canLay0, PyData.depth] at h1 ⊢
  exact h1
theorem tup_eq (v u : Vec) : PyData.eqv (.tuple (v.map PyData.int)) (.tuple (u.map PyData.int)) = decide (v = u) := by
  simp only [PyData.eqv]; exact ints_eq_all v u
theorem rowsT_eq (v u : List Vec) : PyData.eqv (.tuple (v.map rowD)) (.tuple (u.map rowD)) = decide (v = u) := rows_eq_all v u
theorem tup_dp {K : PySem.W.Frag} {H : Hp} {a : Addr} {v : Vec} (h : IsV H a v) : Dp K H (.ref a) (.tuple (v.map PyData.int)) := .tup (SqT.of h) (ints_dp v)
theorem Rows.lst {D : Addr} {xs : List V} {H H' : Hp} {n : Nat} {as : List V} {vs : List Vec} (hD : H D = some (.lst xs)) (s : But D H H') (h : Rows H n as vs) : Rows H' n as vs :=
  ⟨Paired.mapP h.1 fun x v z => by
    obtain ⟨a, e, q⟩ := z
    exact ⟨a, e, s _ _ (ne_of q hD fun y => nomatch y) q⟩, h.2⟩
/-! ## a set of factors -/
def unitV (n p : Nat) : Vec := (List.range n).map fun a => if a = p then 1 else 0
def unitRows (n : Nat) : List Vec := (List.range n).map (unitV n)
theorem unitV_len (n p : Nat) : (unitV n p).length = n := by unfold unitV; rw [List.length_map, List.length_range]
theorem unitV_at {n p a : Nat} (h : a < n) : (unitV n p)[a]? = some (if a = p then 1 else 0) := by
  unfold unitV; rw [List.getElem?_map, List.getElem?_range h]; rfl
def ff (n : Int) (pv : V) (b : Addr) : List (Str × V) := putF "basis" (.ref b) (putF "point" pv (putF "width" (.int n) []))
theorem pb : ¬ (("basis" : Str) = "point") := by decide +kernel
theorem pw : ¬ (("point" : Str) = "width") := by decide +kernel
theorem ff_basis (n : Int) (pv : V) (b : Addr) : (ff n pv b).lookup ("basis" : Str) = some (.ref b) := by
  unfold ff; rw [lookup_putF, if_pos rfl]
theorem ff_point (n : Int) (pv : V) (b : Addr) : (ff n pv b).lookup ("point" : Str) = some pv := by
  unfold ff; rw [lookup_putF, if_neg (fun z => pb z.symm), lookup_putF, if_pos rfl]
theorem ff_width (n : Int) (pv : V) (b : Addr) : (ff n pv b).lookup ("width" : Str) = some (.int n) := by
  unfold ff; rw [lookup_putF, if_neg (fun z => wb z.symm), lookup_putF, if_neg (fun z => pw z.symm), lookup_putF, if_pos rfl]
theorem ff_none (n : Int) (pv : V) (b : Addr) {m : Str} (h1 : ¬ m = "basis") (h2 : ¬ m = "point") (h3 : ¬ m = "width") : (ff n pv b).lookup m = none := by
  unfold ff; rw [lookup_putF, if_neg h1, lookup_putF, if_neg h2, lookup_putF, if_neg h3]; rfl
/-- the point: none or a vector -/
def PtAt (H : Hp) (n : Nat) (pv : V) : Option Vec → Prop
  | none => pv = .non
  | some v => ∃ p, pv = .ref p ∧ IsV H p v ∧ v.length = n
theorem PtAt.keep {H H' : Hp} {n : Nat} {pv : V} {o : Option Vec} (s : Same H H') (h : PtAt H n pv o) : PtAt H' n pv o := by
  cases o with
  | none => exact h
  | some v =>
    obtain ⟨p, e, q, l⟩ := h
    exact ⟨p, e, s _ _ q, l⟩
def FacAt (D : Addr) (H : Hp) (x : Addr) (n : Nat) (o : Option Vec) (B : List Vec) : Prop := ∃ (dx b : Addr) (pv : V) (os : List V), H x = some (.ins D dx (ff ((n : Nat) : Int) pv b)) ∧ H b = some (.tup os) ∧ Rows H n os B ∧ PtAt H n pv o
theorem FacAt.keep {D : Addr} {H H' : Hp} {x : Addr} {n : Nat} {o : Option Vec} {B : List Vec} (s : Same H H') (h : FacAt D H x n o B) : FacAt D H' x n o B := by
  obtain ⟨dx, b, pv, os, h1, h2, h3, h4⟩ := h
  exact ⟨dx, b, pv, os, s _ _ h1, s _ _ h2, h3.keep s, h4.keep s⟩
theorem FacAt.ins {D : Addr} {H : Hp} {x : Addr} {n : Nat} {o : Option Vec} {B : List Vec} (h : FacAt D H x n o B) : ∃ dx fs, H x = some (.ins D dx fs) := by
  obtain ⟨dx, b, pv, os, h1, _⟩ := h
  exact ⟨dx, _, h1⟩
def ptD : Option Vec → PyData
  | none => .none
  | some v => .tuple (v.map PyData.int)
theorem pt_dp {K : PySem.W.Frag} {H : Hp} {n : Nat} {pv : V} {o : Option Vec} (h : PtAt H n pv o) : Dp K H pv (ptD o) := by
  cases o with
  | none => cases (show pv = .non from h); exact .non
  | some v =>
    obtain ⟨p, rfl, q, l⟩ := h
    exact tup_dp q
theorem pt_shaped (o : Option Vec) : SeqAt.shaped (ptD o) = true := by
  cases o with
  | none => decide +kernel
  | some v => exact tup_shaped v
theorem pt_eq (o o' : Option Vec) : PyData.eqv (ptD o) (ptD o') = decide (o = o') := by
  cases o with
  | none =>
    cases o' with
    | none => decide +kernel
    | some v => simp [ptD, PyData.eqv]
  | some v =>
    cases o' with
    | none => simp [ptD, PyData.eqv]
    | some u =>
      show PyData.eqv (.tuple (v.map PyData.int)) (.tuple (u.map PyData.int)) = _
      rw [tup_eq]; simp
section
variable {P : Program} {w : World} {K : PySem.W.Frag} {mg : Str → Option Value} {base : Heap}
abbrev s_unit_rows : Stmt := top 28
abbrev n_unit_rows : List Str := ["width", "place", "at"]
theorem sc_unit_rows : FnScope n_unit_rows ["width"] (defScope s_unit_rows) := ⟨rfl, rfl, rfl, by decide +kernel, rfl, by decide +kernel, by decide +kernel⟩
def spUnit : Sp := fun vs H Q _ => ∃ n : Nat, vs = [.int ((n : Nat) : Int)] ∧ n ≤ 60 ∧ ∀ (H' : Hp) (l : Addr) (as : List V), Same H H' → H' l = some (.lst as) → Rows H' n as (unitRows n) → Q (.ref l) H'
theorem ok_unit (T : Txt mg) (F : DefAt K mg "unit_rows" s_unit_rows ["width"]) : Has P w K mg base 1 "unit_rows" ["width"] spUnit := by
  refine F.has sc_unit_rows (fun vs H Q E h => ?_) (fun f cdv A outer s H vs Q E hr h => ?_)
  · obtain ⟨n, rfl, _⟩ := h
    rfl
  · obtain ⟨n, rfl, n60, k⟩ := h
    refine ⟨_, (pss_one (ps_ret (pe_lc (own := [("place", 1)]) (g := gName 1) (by rfl) sc_unit_rows.nd (pi_range1 rfl T.z_range (pa_cons (pv 0) pa_nil)) (blkOk_by (own := [("place", 1)]) (N := n_unit_rows) (sc := defScope s_unit_rows) (by decide +kernel)) (fun _ _ _ _ _ => (pg_name (i := 1) sc_unit_rows.nd rfl (Or.inr rfl))) (fun _ _ _ _ _ => pts_nil) (fun _ _ _ _ _ => (pe_callTy (call_tupK (K := K) rfl) (by rfl) T.z_tuple (by decide +kernel) (pa_cons (pe_lc (own := [("at", 2)]) (g := gName 2) (by rfl) sc_unit_rows.nd (pi_range1 rfl T.z_range (pa_cons (pv 0) pa_nil)) (blkOk_by (own := [("at", 2)]) (N := n_unit_rows) (sc := ({ kind := .function, names := [((".0" : Str), .local), ("place", .cell), ("tuple", .globalImplicit), ("range", .globalImplicit), ("width", .cell)], isGenerator := false, isCoroutine := false } : Scope)) (by decide +kernel)) (fun _ _ _ _ _ => (pg_name (i := 2) sc_unit_rows.nd rfl (Or.inl rfl))) (fun _ _ _ _ _ => pts_nil) (fun _ _ _ _ _ => (pe_ifExp (pt_cmpR op_eq (pv 2) (pv 1) (nomark _)) pe_int pe_int))) pa_nil)))))), ?_⟩
    refine ⟨_, rfl, ((n : Nat) : Int), rfl, by omega, by omega, fun D hD => lc_range (lo := 0) (n := n) (fun t H' => Same H H' ∧ ∃ os, H' D = some (.lst os) ∧ os.length = t ∧ Rows H' n os ((List.range t).map (unitV n))) ?_ ?_ ?_⟩
    · exact ⟨(new_at hD).1, [], upd_same, rfl, .nil, fun v hv => nomatch hv⟩
    · rintro t H' ht ⟨sm, os, hx, lx, hos⟩
      refine ⟨rfl, ?_⟩
      refine ⟨_, rfl, ((n : Nat) : Int), rfl, by omega, by omega, fun D2 hD2 => lc_range (lo := 0) (n := n) (fun u H3 => Same H' H3 ∧ H3 D2 = some (.lst (((unitV n t).take u).map V.int))) ⟨(new_at hD2).1, upd_same⟩ ?_ ?_⟩
      · rintro u H3 hu' ⟨sm3, hD'⟩
        refine ⟨rfl, ?_⟩
        have lt : ((((unitV n t).take u).map V.int).length) < sizeLine := by
          rw [List.length_map, List.length_take, unitV_len]
          exact Nat.lt_of_le_of_lt (Nat.le_trans (Nat.min_le_right _ _) n60) (by decide)
        refine ⟨_, rfl, _, rfl, rfl, _, rfl, ?_⟩
        have nx : ∀ z : Int, (if u = t then (1 : Int) else 0) = z → ∃ acc, H3 D2 = some (.lst acc) ∧ acc.length < sizeLine ∧ (Same H' (upd H3 D2 (.lst (acc ++ [V.int z]))) ∧ upd H3 D2 (.lst (acc ++ [V.int z])) D2 = some (.lst (((unitV n t).take (u + 1)).map V.int))) := fun z ez =>
          ⟨_, hD', lt, fun y o w => by rw [upd_ne (ne_of_none w hD2)]; exact sm3 _ _ w, by rw [upd_same, take_snoc (n := z)]; rw [unitV_at hu', ez]⟩
        show if decide (V.int (0 + ((u : Nat) : Int)) = V.int (0 + ((t : Nat) : Int))) = true then _ else _
        by_cases e : u = t
        · rw [decide_eq_true (by rw [e]), if_pos rfl]
          exact nx 1 (if_pos e)
        · rw [decide_eq_false (fun z => e (by have := V.int.inj z; omega)), if_neg (by decide)]
          exact nx 0 (if_neg e)
      · rintro H3 ⟨s3, hD'⟩
        rw [take_all (unitV_len n t)] at hD'
        refine ⟨_, _, rfl, .inl ⟨SqL.of hD', fun q hq => ?_⟩⟩
        obtain ⟨s4, hq4⟩ := new_at (o := .tup ((unitV n t).map V.int)) hq
        have s34 := s3.trans s4
        refine ⟨_, s34 _ _ hx, by rw [lx]; exact Nat.lt_of_lt_of_le ht (Nat.le_trans n60 (by decide)), fun y o z => by rw [upd_ne (ne_of_none z hD)]; exact s34 _ _ (sm _ _ z), os ++ [.ref q], upd_same, by rw [List.length_append, lx]; rfl, ?_⟩
        rw [List.range_succ, List.map_append]
        have h1 := (hos.keep s34).snoc hq4 (unitV_len n t)
        exact Rows.lst (s34 _ _ hx) But.upd' h1
    · rintro H' ⟨sm, os, hx, lx, hos⟩
      exact k _ D os sm hx hos
end
end K06

namespace K06
open PySem L2 RZ Lat
section
variable {P : Program} {w : World} {K : PySem.W.Frag} {mg : Str → Option Value} {base : Heap}
theorem PtAt.but1 {H H' : Hp} {n : Nat} {pv : V} {o : Option Vec} {x : Addr} {C dx : Addr} {fs : List (Str × V)} (hx : H x = some (.ins C dx fs)) (s : ∀ y o, y ≠ x → H y = some o → H' y = some o) (h : PtAt H n pv o) : PtAt H' n pv o := by
  cases o with
  | none => exact h
  | some v =>
    obtain ⟨p, e, q, l⟩ := h
    exact ⟨p, e, s _ _ (ne_of q hx fun z => nomatch z) q, l⟩
theorem Rows.but1 {H H' : Hp} {n : Nat} {x C dx : Addr} {fs : List (Str × V)} {as : List V} {vs : List Vec} (hx : H x = some (.ins C dx fs)) (s : ∀ y o, y ≠ x → H y = some o → H' y = some o) (h : Rows H n as vs) : Rows H' n as vs :=
  ⟨Paired.mapP h.1 fun y v z => by
    obtain ⟨a, e, q⟩ := z
    exact ⟨a, e, s _ _ (ne_of q hx fun y => nomatch y) q⟩, h.2⟩
abbrev s_Factors_init : Stmt := inClass (top 33) 0
abbrev n_Factors_init : List Str := ["self", "width", "point", "rows", "lattice"]
theorem sc_Factors_init : FnScope n_Factors_init ["self", "width", "point", "rows"] (defScope s_Factors_init) := ⟨rfl, rfl, rfl, by decide +kernel, rfl, by decide +kernel, by decide +kernel⟩
def spFactors (K : PySem.W.Frag) (D : Addr) : Sp := fun vs H Q _ => ∃ (x dx l : Addr) (n : Nat) (pv : V) (o : Option Vec) (as : List V) (rs : List Vec), vs = [.ref x, .int ((n : Nat) : Int), pv, .ref l] ∧ H x = some (.ins D dx []) ∧ 1 ≤ n ∧ n ≤ 1000 ∧ rs.length ≤ 1000 ∧ InSeq K H l as ∧ Rows H n as rs ∧ OkGrows [] rs ∧ PtAt H n pv o ∧ (∀ v, o = some v → OkRed (grows [] rs) v) ∧
  ∀ H' : Hp, (∀ y o, y ≠ x → H y = some o → H' y = some o) → FacAt D H' x n (o.map (redV (grows [] rs))) (o.elim [] fun _ => grows [] rs) → Q .non H'
theorem ok_factors {C D fL fR fI : Addr} {fdL fdR fd : FuncData} {d1 d2 : V} (T : Txt mg) (CL : ClsL K mg C) (DL : ClsF K mg D) (ML : Mk K C fL) (g_lattice : FnOk P w K mg base CX0 5 fL fdL ["self", "width", "rows"] (spLattice K C)) (bL : Binds K fdL ["self", "width", "rows"] [])
    (mR : Meth K C "reduced" fR) (g_reduced : FnOk P w K mg base CX0 3 fR fdR ["self", "vector"] (spRedM C)) (bR : Binds K fdR ["self", "vector"] []) (g_is_vector : Has P w K mg base 2 "is_vector" ["value", "width"] spIsVector)
    (F : FunD K "__init__" "Factors.__init__" (defArgs s_Factors_init) (defBody s_Factors_init) (defScope s_Factors_init) [d1, d2] [] fI fd) : FnOk P w K mg base CX0 7 fI fd ["self", "width", "point", "rows"] (spFactors K D) := by
  refine F.ok sc_Factors_init (fun vs H Q E h => ?_) (fun cdv A outer s H vs Q E hr h => ?_)
  · obtain ⟨x, dx, l, n, w0, o, as, rs, rfl, _⟩ := h
    rfl
  · obtain ⟨x, dx, l, n, w0, o, as, rs, rfl, hx, n1, n2, lrs, hl, hrs, ok, hpv, okr, k⟩ := h
    refine ⟨_, PSs.nox (X := cxOf CX0 P w K mg base n_Factors_init "Factors.__init__" (defScope s_Factors_init) fI cdv A outer s H E) (pss_cons (ps_set (i := 4) sc_Factors_init.nd rfl (Or.inl rfl) (pe_make ML g_lattice (hr.mono (by decide)) rfl CL.m bL .nil pass0 (pa_cons (pv 1) (pa_cons (pv 3) pa_nil))))
      (pss_cons (ps_if (PW.pt (pw_and (pt_cmpR op_notN (pv 2) pe_non (nomark _)) (pw_and1 (pt_not (pt_val (pe_callHas g_is_vector (hr.mono (by decide)) rfl (pa_cons (pv 2) (pa_cons (pv 1) pa_nil)))))))) (pss_one ps_never) pss_nil)
      (pss_cons (ps_fld (pv 0) (pv 1) rfl)
      (pss_cons (ps_fld (pv 0) (pe_ifExp (pt_cmpR op_isN (pv 2) pe_non (nomark _)) pe_non (pe_meth (pv 4) CL.cl mR g_reduced (hr.mono (by decide)) bR .nil pass0 (pa_cons (pv 2) pa_nil))) rfl)
      (pss_one (ps_fld (pv 0) (pe_ifExp (pt_cmpR op_isN (pv 2) pe_non (nomark _)) (pe_tup pa_nil) (pe_fld (pv 4) rfl)) rfl)))))), ?_⟩
    refine ⟨_, rfl, _, rfl, fun y dy hy hdy ndy => ?_⟩
    have so : Same H (upd (upd H dy (.own y)) y (.ins C dy [])) := fun z o h => by
      rw [upd_ne (ne_of_none h hy), upd_ne (ne_of_none h hdy)]; exact h
    refine ⟨y, dy, l, n, as, rs, rfl, upd_same, n1, n2, lrs, hl.keep so, hrs.keep so, ok, fun H6 kp6 lat6 => ⟨rfl, ?_⟩⟩
    have s6 : Same H H6 := fun z o h => kp6 z o (ne_of_none h hy) (so _ _ h)
    have hx6 := s6 _ _ hx
    obtain ⟨ly, b, os, hy6, hb6, hos6⟩ := id lat6
    have nyx : y ≠ x := (ne_of_none hx hy).symm
    have nbx : b ≠ x := ne_of hb6 hx6 fun z => nomatch z
    have hpv6 := hpv.keep s6
    cases o with
    | none =>
      cases (show w0 = .non from hpv)
      refine ⟨_, rfl, rfl, _, rfl, ?_⟩
      refine ⟨_, rfl, _, rfl, x, D, dx, _, rfl, hx6, DL.cl, DL.nW, (by show 0 < 1000; decide), ?_⟩
      refine ⟨_, rfl, rfl, _, rfl, ?_⟩
      refine ⟨_, rfl, x, D, dx, _, rfl, upd_same, DL.cl, DL.nP, (by show 1 < 1000; decide), ?_⟩
      rw [upd_upd]
      refine ⟨_, rfl, rfl, _, rfl, ?_⟩
      refine ⟨Nat.zero_le _, fun q hq => ?_⟩
      obtain ⟨sq, hq'⟩ := new_at (o := .tup []) hq
      refine ⟨_, rfl, x, D, dx, _, rfl, sq _ _ upd_same, DL.cl, DL.nB, (by show 2 < 1000; decide), ?_⟩
      have nqx : q ≠ x := (ne_of_none upd_same hq).symm
      refine k _ (fun z o nz h => ?_) ⟨dx, q, .non, [], upd_same, (upd_ne nqx).trans hq', ⟨.nil, fun u hu => nomatch hu⟩, rfl⟩
      rw [upd_ne nz]
      exact sq _ _ ((upd_ne nz).trans (s6 _ _ h))
    | some v =>
      obtain ⟨p, rfl, hp6, lv⟩ := hpv6
      subst lv
      have okv := okr v rfl
      refine ⟨_, rfl, rfl, _, rfl, ?_⟩
      refine ⟨_, rfl, _, rfl, p, v, rfl, hp6, n2, fun H7 s7 => ⟨_, rfl, ?_⟩⟩
      have hx7 := s7 _ _ hx6
      refine ⟨_, rfl, _, rfl, x, D, dx, _, rfl, hx7, DL.cl, DL.nW, (by show 0 < 1000; decide), ?_⟩
      have hp7 := s7 _ _ hp6
      have npx : p ≠ x := ne_of hp7 hx7 fun z => nomatch z
      have lat8 : LatAt C (upd H7 x (.ins D dx (putF "width" (.int ((v.length : Nat) : Int)) []))) y v.length (grows [] rs) := ⟨ly, b, os, (upd_ne nyx).trans (s7 _ _ hy6), (upd_ne nbx).trans (s7 _ _ hb6), Rows.ins_up hx7 (hos6.keep s7)⟩
      have nd : (lf ((v.length : Nat) : Int) b).lookup ("reduced" : Str) = none := lf_none _ _ (by decide +kernel) (by decide +kernel)
      refine ⟨_, rfl, rfl, _, rfl, ?_⟩
      refine ⟨_, rfl, y, ly, _, rfl, (upd_ne nyx).trans (s7 _ _ hy6), nd, _, rfl, y, p, v, _, rfl, lat8, (upd_ne npx).trans hp7, n2, okv, fun H9 q s9 hq9 lq => ?_⟩
      have hx9 := s9 _ _ (upd_same (H := H7) (a := x) (o := .ins D dx (putF "width" (.int ((v.length : Nat) : Int)) [])))
      refine ⟨_, rfl, x, D, dx, _, rfl, hx9, DL.cl, DL.nP, (by show 1 < 1000; decide), ?_⟩
      refine ⟨_, rfl, rfl, _, rfl, ?_⟩
      refine ⟨_, rfl, y, C, ly, _, _, rfl, (upd_ne nyx).trans (s9 _ _ ((upd_ne nyx).trans (s7 _ _ hy6))), CL.cl, CL.nB, lf_basis _ _, ?_⟩
      refine ⟨_, rfl, x, D, dx, _, rfl, upd_same, DL.cl, DL.nB, (by show 2 < 1000; decide), ?_⟩
      rw [upd_upd]
      have nqx : q ≠ x := ne_of hq9 hx9 fun z => nomatch z
      refine k _ (fun z o nz h => ?_) ⟨dx, b, .ref q, os, upd_same, (upd_ne nbx).trans (s9 _ _ ((upd_ne nbx).trans (s7 _ _ hb6))), Rows.but1 hx6 (fun z o nz h => ?_) hos6, ⟨q, rfl, (upd_ne nqx).trans hq9, lq⟩⟩
      · rw [upd_ne nz]
        exact s9 _ _ ((upd_ne nz).trans (s7 _ _ (s6 _ _ h)))
      · rw [upd_ne nz]
        exact s9 _ _ ((upd_ne nz).trans (s7 _ _ h))
abbrev s_Factors_every : Stmt := inClass (top 33) 1
abbrev n_Factors_every : List Str := ["cls", "width"]
theorem sc_Factors_every : FnScope n_Factors_every ["cls", "width"] (defScope s_Factors_every) := ⟨rfl, rfl, rfl, by decide +kernel, rfl, by decide +kernel, by decide +kernel⟩
def zer (n : Nat) : Vec := List.replicate n 0
def spEvery (D : Addr) : Sp := fun vs H Q _ => ∃ n : Nat, vs = [.ref D, .int ((n : Nat) : Int)] ∧ 1 ≤ n ∧ n ≤ 60 ∧ OkGrows [] (unitRows n) ∧ OkRed (grows [] (unitRows n)) (zer n) ∧ ∀ (H' : Hp) (x : Addr), Same H H' → FacAt D H' x n (some (redV (grows [] (unitRows n)) (zer n))) (grows [] (unitRows n)) → Q (.ref x) H'
theorem zer_map (n : Nat) : (List.replicate n [V.int 0]).flatten = (zer n).map V.int := by
  unfold zer
  rw [List.map_replicate, List.flatten_replicate_singleton]
theorem unitRows_len (n : Nat) : (unitRows n).length = n := by unfold unitRows; rw [List.length_map, List.length_range]
theorem ok_every {D fF fE : Addr} {fdF fd : FuncData} (T : Txt mg) (MD : Mk K D fF) (g_is_width : Has P w K mg base 2 "is_width" ["value"] spWidth) (g_unit_rows : Has P w K mg base 1 "unit_rows" ["width"] spUnit) (g_factors : FnOk P w K mg base CX0 7 fF fdF ["self", "width", "point", "rows"] (spFactors K D)) (bF : Binds K fdF ["self", "width", "point", "rows"] [])
    (F : Fun K "every" "Factors.every" s_Factors_every fE fd) : FnOk P w K mg base CX0 9 fE fd ["cls", "width"] (spEvery D) := by
  refine F.ok sc_Factors_every (fun vs H Q E h => ?_) (fun cdv A outer s H vs Q E hr h => ?_)
  · obtain ⟨n, rfl, _⟩ := h
    rfl
  · obtain ⟨n, rfl, n1, n60, ok, okr, k⟩ := h
    refine ⟨_, (pss_cons (ps_if (pt_not (pt_val (pe_callHas g_is_width (hr.mono (by decide)) rfl (pa_cons (pv 1) pa_nil)))) (pss_one ps_never) pss_nil)
      (pss_one (ps_ret (pe_makeV (i := 0) MD g_factors (hr.mono (by decide)) rfl (Or.inl rfl) bF .nil pass0 (pa_cons (pv 1) (pa_cons (pe_op op_repTA (pe_tup (pa_cons pe_int pa_nil)) (pv 1)) (pa_cons (pe_callHas g_unit_rows (hr.mono (by decide)) rfl (pa_cons (pv 1) pa_nil)) pa_nil))))))), ?_⟩
    refine ⟨_, rfl, _, rfl, by omega, _, rfl, ?_⟩
    refine ⟨rfl, _, rfl, ?_⟩
    refine ⟨by decide, fun z1 hz1 => ?_⟩
    obtain ⟨sz1, hz1'⟩ := new_at (o := .tup [V.int 0]) hz1
    refine ⟨_, rfl, z1, _, _, rfl, rfl, SqT.of hz1', (fun z => nomatch z), by omega, by omega, by decide, fun e => ?_, fun e z2 hz2 => ?_⟩
    · have en : n = 1 := by omega
      have hz : IsV (upd H z1 (.tup [V.int 0])) z1 (zer n) := by rw [en]; exact hz1'
      have s2 := sz1
      generalize z1 = z at *
      generalize upd H z (.tup [V.int 0]) = H2 at *
      refine ⟨_, rfl, n, rfl, n60, fun H3 l as s3 hl hrs => fun x dx hx hdx ndx => ?_⟩
      have so : Same H3 (upd (upd H3 dx (.own x)) x (.ins D dx [])) := fun z o h => by
        rw [upd_ne (ne_of_none h hx), upd_ne (ne_of_none h hdx)]; exact h
      refine ⟨x, dx, l, n, .ref z, some (zer n), as, unitRows n, rfl, upd_same, n1, by omega, by rw [unitRows_len]; omega, .inl (so _ _ hl), hrs.keep so, ok, ⟨z, rfl, so _ _ (s3 _ _ hz), by unfold zer; rw [List.length_replicate]⟩, (fun v e => by cases e; exact okr), fun H' kp fac => ⟨rfl, k _ x (fun y o h => kp y o (ne_of_none (s3 _ _ (s2 _ _ h)) hx) (so _ _ (s3 _ _ (s2 _ _ h)))) fac⟩⟩
    · obtain ⟨sz2, hz2'⟩ := new_at (o := .tup (List.replicate ((n : Nat) : Int).toNat [V.int 0]).flatten) hz2
      have hz : IsV (upd (upd H z1 (.tup [V.int 0])) z2 (.tup ((zer n).map V.int))) z2 (zer n) := by rw [Int.toNat_natCast, zer_map] at hz2'; exact hz2'
      have s2 := sz1.trans sz2
      rw [Int.toNat_natCast, zer_map]
      rw [Int.toNat_natCast, zer_map] at s2
      generalize z2 = z at *
      refine ⟨_, rfl, n, rfl, n60, fun H3 l as s3 hl hrs => fun x dx hx hdx ndx => ?_⟩
      have so : Same H3 (upd (upd H3 dx (.own x)) x (.ins D dx [])) := fun z o h => by
        rw [upd_ne (ne_of_none h hx), upd_ne (ne_of_none h hdx)]; exact h
      refine ⟨x, dx, l, n, .ref z, some (zer n), as, unitRows n, rfl, upd_same, n1, by omega, by rw [unitRows_len]; omega, .inl (so _ _ hl), hrs.keep so, ok, ⟨z, rfl, so _ _ (s3 _ _ hz), by unfold zer; rw [List.length_replicate]⟩, (fun v e => by cases e; exact okr), fun H' kp fac => ⟨rfl, k _ x (fun y o h => kp y o (ne_of_none (s3 _ _ (s2 _ _ h)) hx) (so _ _ (s3 _ _ (s2 _ _ h)))) fac⟩⟩
abbrev s_Factors_bool : Stmt := inClass (top 33) 6
abbrev n_Factors_bool : List Str := ["self"]
theorem sc_Factors_bool : FnScope n_Factors_bool ["self"] (defScope s_Factors_bool) := ⟨rfl, rfl, rfl, by decide +kernel, rfl, by decide +kernel, by decide +kernel⟩
def spBoolF (D : Addr) : Sp := fun vs H Q _ => ∃ (x : Addr) (n : Nat) (o : Option Vec) (B : List Vec), vs = [.ref x] ∧ FacAt D H x n o B ∧ Q (.bl o.isSome) H
theorem ok_boolF {D fS : Addr} {fd : FuncData} (T : Txt mg) (DL : ClsF K mg D) (F : Fun K "__bool__" "Factors.__bool__" s_Factors_bool fS fd) : FnOk P w K mg base CX0 1 fS fd ["self"] (spBoolF D) := by
  refine F.ok sc_Factors_bool (fun vs H Q E h => ?_) (fun cdv A outer s H vs Q E hr h => ?_)
  · obtain ⟨x, n, o, B, rfl, _⟩ := h
    rfl
  · obtain ⟨x, n, o, B, rfl, ⟨dx, b, w0, os, hx, hb, hrs, hpt⟩, k⟩ := h
    refine ⟨_, (pss_one (ps_ret (pe_cmpR op_notN (pe_fld (pv 0) rfl) pe_non (nomark _)))), ?_⟩
    refine ⟨_, rfl, x, D, dx, _, _, rfl, hx, DL.cl, DL.nP, ff_point _ _ _, rfl, ?_⟩
    cases o with
    | none =>
      cases (show w0 = .non from hpt)
      exact k
    | some v =>
      obtain ⟨p, rfl, hp, lv⟩ := hpt
      exact k
abbrev s_Factors_eq : Stmt := inClass (top 33) 8
abbrev n_Factors_eq : List Str := ["self", "other"]
theorem sc_Factors_eq : FnScope n_Factors_eq ["self", "other"] (defScope s_Factors_eq) := ⟨rfl, rfl, rfl, by decide +kernel, rfl, by decide +kernel, by decide +kernel⟩
def spEqF (D : Addr) : Sp := fun vs H Q _ => (∃ (x y : Addr) (n m : Nat) (o o' : Option Vec) (B B' : List Vec), vs = [.ref x, .ref y] ∧ FacAt D H x n o B ∧ FacAt D H y m o' B' ∧ Q (.bl (decide (n = m) && (decide (o = o') && decide (B = B')))) H) ∨ (∃ (x b : Addr) (n : Nat) (o : Option Vec) (B : List Vec) (xs : List V), vs = [.ref x, .ref b] ∧ FacAt D H x n o B ∧ H b = some (.tup xs) ∧ Q (.bl false) H)
theorem ok_eqF {D fS : Addr} {fd : FuncData} (T : Txt mg) (DL : ClsF K mg D) (TD : ClsT K D) (kt : PySem.W.kitOne K (.type "tuple") (.ref D) = some false) (F : Fun K "__eq__" "Factors.__eq__" s_Factors_eq fS fd) : FnOk P w K mg base CX0 1 fS fd ["self", "other"] (spEqF D) := by
  refine F.ok sc_Factors_eq (fun vs H Q E h => ?_) (fun cdv A outer s H vs Q E hr h => ?_)
  · rcases h with ⟨x, y, n, m, o, o', B, B', rfl, _⟩ | ⟨x, b, n, o, B, xs, rfl, _⟩ <;> rfl
  · have hu := hr.units
    refine ⟨_, (pss_one (ps_ret (pe_and (pe_callB call_isi (by rfl) T.z_isinstance (by decide +kernel) (pa_cons (pv 1) (pa_cons (pe_glob (v := .ref D) rfl DL.m rfl) pa_nil))) (pe_and (pe_cmpR op_eq (pe_fld (pv 0) rfl) (pe_fld (pv 1) rfl) (nomark _)) (pe_and (pe_cmpR (op_eqD hu) (pe_fld (pv 0) rfl) (pe_fld (pv 1) rfl) (nomark _)) (pe_one (pe_cmpR (op_eqD hu) (pe_fld (pv 0) rfl) (pe_fld (pv 1) rfl) (nomark _)))))))), ?_⟩
    rcases h with ⟨x, y, n, m, o, o', B, B', rfl, ⟨dx, b, w0, os, hx, hb, hrs, hpt⟩, ⟨dy, c, w1, os2, hy, hc, hrs2, hpt2⟩, k⟩ | ⟨x, b, n, o, B, xs, rfl, hx, hb, k⟩
    · refine ⟨_, rfl, _, _, _, _, true, rfl, .own _, .base (.ins hy DL.cl TD.ha TD.hn TD.htk TD.two.obj), TD.kk, _, rfl, ?_⟩
      refine ⟨_, rfl, x, D, dx, _, _, rfl, hx, DL.cl, DL.nW, ff_width _ _ _, _, rfl, y, D, dy, _, _, rfl, hy, DL.cl, DL.nW, ff_width _ _ _, rfl, _, rfl, ?_⟩
      show if decide (V.int ((n : Nat) : Int) = V.int ((m : Nat) : Int)) = true then _ else _
      by_cases e : n = m
      · subst e
        rw [decide_eq_true rfl, Bool.true_and] at k
        rw [decide_eq_true rfl]
        refine ⟨_, rfl, x, D, dx, _, _, rfl, hx, DL.cl, DL.nP, ff_point _ _ _, _, rfl, y, D, dy, _, _, rfl, hy, DL.cl, DL.nP, ff_point _ _ _, ptD o, ptD o', pt_dp hpt, pt_dp hpt2, pt_shaped _, pt_shaped _, _, rfl, ?_⟩
        rw [pt_eq]
        by_cases e2 : o = o'
        · rw [decide_eq_true e2] at k ⊢
          rw [Bool.true_and] at k
          refine ⟨_, rfl, x, D, dx, _, _, rfl, hx, DL.cl, DL.nB, ff_basis _ _ _, _, rfl, y, D, dy, _, _, rfl, hy, DL.cl, DL.nB, ff_basis _ _ _, .tuple (B.map rowD), .tuple (B'.map rowD), .tup (SqT.of hb) (rows_dp hrs.1), .tup (SqT.of hc) (rows_dp hrs2.1), rowsT_shaped _, rowsT_shaped _, ?_⟩
          rw [rowsT_eq]
          exact k
        · rw [decide_eq_false e2] at k ⊢
          rw [Bool.false_and] at k
          exact k
      · rw [decide_eq_false (fun z => e (by have := V.int.inj z; omega))]
        rw [decide_eq_false e, Bool.false_and] at k
        exact k
    · exact ⟨_, rfl, _, _, _, _, false, rfl, .own _, .base (.tup hb), kt, _, rfl, k⟩
end
end K06

namespace K06
open PySem L2 RZ Lat
section
variable {P : Program} {w : World} {K : PySem.W.Frag} {mg : Str → Option Value} {base : Heap}
/-! ## a tuple in a tuple is no vector -/
def spIntW : Sp := fun vs H Q _ => ∃ (x : V) (b : Bool), vs = [x] ∧ (Flat x b ∨ ∃ p xs, x = .ref p ∧ H p = some (.tup xs) ∧ b = false) ∧ Q (.bl b) H
theorem ok_is_integerW (T : Txt mg) (F : DefAt K mg "is_integer" s_is_integer ["value"]) : Has P w K mg base 1 "is_integer" ["value"] spIntW := by
  refine F.has sc_is_integer (fun vs H Q E h => ?_) (fun f cdv A outer s H vs Q E hr h => ?_)
  · obtain ⟨x, b, rfl, _⟩ := h
    rfl
  · obtain ⟨x, b, rfl, fl, k⟩ := h
    refine ⟨_, (pss_one (ps_ret (pe_and (pe_callB call_isi (by rfl) T.z_isinstance (by decide +kernel) (pa_cons (pv 0) (pa_cons (pe_bltn (v := .ty "int") (by rfl) T.z_int (by decide +kernel) rfl) pa_nil))) (pe_one (pe_not (pe_callB call_isi (by rfl) T.z_isinstance (by decide +kernel) (pa_cons (pv 0) (pa_cons (pe_bltn (v := .ty "bool") (by rfl) T.z_bool (by decide +kernel) rfl) pa_nil)))))))), ?_⟩
    rcases fl with fl | ⟨p, xs, rfl, hp, rfl⟩
    · cases fl with
      | int i =>
        refine ⟨_, rfl, _, _, _, _, true, rfl, .ty _, .base (.int i), kit_ty (by decide +kernel), _, rfl, ?_⟩
        exact ⟨_, rfl, _, _, _, _, false, rfl, .ty _, .base (.int i), kit_ty (by decide +kernel), _, rfl, k⟩
      | bl b =>
        refine ⟨_, rfl, _, _, _, _, true, rfl, .ty _, .base (.bl b), kit_ty (by decide +kernel), _, rfl, ?_⟩
        exact ⟨_, rfl, _, _, _, _, true, rfl, .ty _, .base (.bl b), kit_ty (by decide +kernel), _, rfl, k⟩
      | non => exact ⟨_, rfl, _, _, _, _, false, rfl, .ty _, .base .non, kit_ty (by decide +kernel), _, rfl, k⟩
    · exact ⟨_, rfl, _, _, _, _, false, rfl, .ty _, .base (.tup hp), kit_ty (by decide +kernel), _, rfl, k⟩
/-- what is no vector of this width -/
def OddF (n : Nat) (H : Hp) (y : V) : Prop := NoTup H y ∨ (∃ (p : Addr) (xs : List V) (bs : List Bool), y = .ref p ∧ H p = some (.tup xs) ∧ Paired Flat xs bs ∧ xs.length ≤ 1000 ∧ (decide (xs.length = n) && bs.all id) = false) ∨
  (∃ (p q : Addr) (xs : List V), y = .ref p ∧ H p = some (.tup [.ref q]) ∧ H q = some (.tup xs))
theorem OddF.keep {n : Nat} {H H' : Hp} {y : V} (s : Same H H') (h : OddF n H y) : OddF n H' y := by
  rcases h with h | ⟨p, xs, bs, rfl, hp, fl, l, e⟩ | ⟨p, q, xs, rfl, hp, hq⟩
  · left
    cases h with
    | non => exact .non
    | int i => exact .int i
    | str z => exact .str z
    | lst h => exact .lst (s _ _ h)
  · exact .inr (.inl ⟨p, xs, bs, rfl, s _ _ hp, fl, l, e⟩)
  · exact .inr (.inr ⟨p, q, xs, rfl, s _ _ hp, s _ _ hq⟩)
def spIsVectorW : Sp := fun vs H Q _ => ∃ (x : V) (n : Nat), vs = [x, .int ((n : Nat) : Int)] ∧
  ((∃ (a : Addr) (v : Vec), x = .ref a ∧ IsV H a v ∧ v.length = n ∧ n ≤ 1000 ∧ ∀ H', Same H H' → Q (.bl true) H') ∨ (OddF n H x ∧ ∀ H', Same H H' → Q (.bl false) H'))
theorem ok_is_vectorW (T : Txt mg) (g_is_integer : Has P w K mg base 1 "is_integer" ["value"] spIntW) (F : DefAt K mg "is_vector" s_is_vector ["value", "width"]) : Has P w K mg base 2 "is_vector" ["value", "width"] spIsVectorW := by
  refine F.has sc_is_vector (fun vs H Q E h => ?_) (fun f cdv A outer s H vs Q E hr h => ?_)
  · obtain ⟨x, n, rfl, _⟩ := h
    rfl
  · obtain ⟨x, n, rfl, h⟩ := h
    refine ⟨_, (pss_one (ps_ret (pe_and (pe_callB call_isi (by rfl) T.z_isinstance (by decide +kernel) (pa_cons (pv 0) (pa_cons (pe_bltn (v := .ty "tuple") (by rfl) T.z_tuple (by decide +kernel) rfl) pa_nil))) (pe_and (pe_cmpR op_eq (pe_callB call_len (by rfl) T.z_len (by decide +kernel) (pa_cons (pv 0) pa_nil)) (pv 1) (nomark _)) (pe_one (pe_callB (cr_all rfl) (by rfl) T.z_all (by decide +kernel) (pa_cons (pe_lc (own := [("part", 2)]) (g := gName 2) (by rfl) sc_is_vector.nd (pi_tup (pv 0)) (blkOk_by (own := [("part", 2)]) (N := n_is_vector) (sc := defScope s_is_vector) (by decide +kernel)) (fun _ _ _ _ _ => (pg_name (i := 2) sc_is_vector.nd rfl (Or.inl rfl))) (fun _ _ _ _ _ => pts_nil) (fun _ _ _ _ _ => (pe_callHas g_is_integer (hr.mono (by decide)) rfl (pa_cons (pv 2) pa_nil)))) pa_nil))))))), ?_⟩
    have main : (∃ (a : Addr) (xs : List V) (bs : List Bool), x = .ref a ∧ H a = some (.tup xs) ∧ Paired Flat xs bs ∧ xs.length ≤ 1000 ∧ ∀ H', Same H H' → Q (.bl (decide (xs.length = n) && bs.all id)) H') ∨ (NoTup H x ∧ Q (.bl false) H) ∨ (∃ (p q : Addr) (xs : List V), x = .ref p ∧ H p = some (.tup [.ref q]) ∧ H q = some (.tup xs) ∧ ∀ H', Same H H' → Q (.bl false) H') := by
      rcases h with ⟨a, v, rfl, hv, lv, n1, k⟩ | ⟨h | ⟨p, xs, bs, rfl, hp, fl, l, e⟩ | ⟨p, q, xs, rfl, hp, hq⟩, k⟩
      · refine .inl ⟨a, _, _, rfl, hv, flat_ints v, by rw [List.length_map]; omega, fun H' sm => ?_⟩
        rw [List.length_map, decide_eq_true lv, all_true]
        exact k _ sm
      · exact .inr (.inl ⟨h, k _ (Same.refl H)⟩)
      · exact .inl ⟨p, xs, bs, rfl, hp, fl, l, fun H' sm => by rw [e]; exact k _ sm⟩
      · exact .inr (.inr ⟨p, q, xs, rfl, hp, hq, k⟩)
    clear h
    rcases main with ⟨a, xs, bs, rfl, ha, fl, h1, k⟩ | ⟨nt, k⟩ | ⟨a, q, ys, rfl, ha, hq, k⟩
    · refine ⟨_, rfl, _, _, _, _, true, rfl, .ty _, .base (.tup ha), kit_ty (by decide +kernel), _, rfl, ?_⟩
      refine ⟨_, rfl, _, _, rfl, .inr ⟨_, SqT.of ha, rfl⟩, _, rfl, rfl, _, rfl, ?_⟩
      by_cases hn : xs.length = n
      · show if decide (V.int ((xs.length : Nat) : Int) = V.int ((n : Nat) : Int)) = true then _ else _
        rw [decide_eq_true (by rw [hn])]
        refine ⟨_, rfl, a, rfl, ⟨_, SqT.of ha⟩, fun D hD => lc_it (walk_tup (xs := xs)) (fun i H' => Same H H' ∧ H' D = some (.lst ((bs.take i).map V.bl))) ?_ ?_ ?_ ?_⟩
        · exact ⟨(new_at hD).1, upd_same⟩
        · exact fun i H' _ q => SqT.of (q.1 _ _ ha)
        · rintro i x H' H'' hi ⟨sm, hD'⟩ ⟨rfl, e1⟩
          obtain ⟨b, eb, fb⟩ := paired_get fl e1
          refine ⟨rfl, ?_⟩
          refine ⟨_, rfl, x, b, rfl, .inl fb, ?_⟩
          refine ⟨_, hD', by rw [List.length_map, List.length_take]; exact Nat.lt_of_le_of_lt (Nat.le_trans (Nat.min_le_right _ _) (fl.length ▸ h1)) (by decide), fun x o z => ?_, ?_⟩
          · rw [upd_ne (ne_of_none z hD)]
            exact sm _ _ z
          · rw [upd_same, List.take_add_one, eb, List.map_append]; rfl
        · rintro H' ⟨sm, hD'⟩
          rw [show xs.length = bs.length from fl.length, List.take_length] at hD'
          refine ⟨_, _, rfl, SqL.of hD', ?_⟩
          have := k _ sm
          rw [decide_eq_true hn, Bool.true_and] at this
          exact this
      · show if decide (V.int ((xs.length : Nat) : Int) = V.int ((n : Nat) : Int)) = true then _ else _
        rw [decide_eq_false (fun z => hn (by have := V.int.inj z; omega))]
        have := k _ (Same.refl H)
        rw [decide_eq_false hn, Bool.false_and] at this
        exact this
    · obtain ⟨t, ty, ht⟩ := nt.ty (K := K)
      exact ⟨_, rfl, _, _, _, _, false, rfl, .ty _, ty, noTup_kit ht, _, rfl, k⟩
    · refine ⟨_, rfl, _, _, _, _, true, rfl, .ty _, .base (.tup ha), kit_ty (by decide +kernel), _, rfl, ?_⟩
      refine ⟨_, rfl, _, _, rfl, .inr ⟨_, SqT.of ha, rfl⟩, _, rfl, rfl, _, rfl, ?_⟩
      by_cases hn : 1 = n
      · show if decide (V.int ((1 : Nat) : Int) = V.int ((n : Nat) : Int)) = true then _ else _
        rw [decide_eq_true (by rw [hn])]
        refine ⟨_, rfl, a, rfl, ⟨_, SqT.of ha⟩, fun D hD => lc_it (walk_tup (xs := [V.ref q])) (fun i H' => Same H H' ∧ H' D = some (.lst (([false].take i).map V.bl))) ?_ ?_ ?_ ?_⟩
        · exact ⟨(new_at hD).1, upd_same⟩
        · exact fun i H' _ q => SqT.of (q.1 _ _ ha)
        · rintro i x H' H'' hi ⟨sm, hD'⟩ ⟨rfl, e1⟩
          have hi0 : i = 0 := by have : i < 1 := hi; omega
          subst hi0
          obtain rfl : V.ref q = x := Option.some.inj e1
          refine ⟨rfl, ?_⟩
          refine ⟨_, rfl, _, false, rfl, .inr ⟨q, ys, rfl, sm _ _ hq, rfl⟩, ?_⟩
          refine ⟨_, hD', by decide, fun x o z => ?_, ?_⟩
          · rw [upd_ne (ne_of_none z hD)]
            exact sm _ _ z
          · rw [upd_same]; rfl
        · rintro H' ⟨sm, hD'⟩
          refine ⟨_, _, rfl, SqL.of hD', ?_⟩
          exact k _ sm
      · show if decide (V.int ((1 : Nat) : Int) = V.int ((n : Nat) : Int)) = true then _ else _
        rw [decide_eq_false (fun z => hn (by have := V.int.inj z; omega))]
        exact k _ (Same.refl H)
theorem ok_is_vectorV (g : Has P w K mg base 2 "is_vector" ["value", "width"] spIsVectorW) : Has P w K mg base 2 "is_vector" ["value", "width"] spIsVector :=
  Has.imp g fun vs H Q E h => by
    obtain ⟨a, v, rfl, hv, h1, k⟩ := h
    exact ⟨_, _, rfl, .inl ⟨a, v, rfl, hv, rfl, h1, k⟩⟩
abbrev s_Factors_contains : Stmt := inClass (top 33) 5
abbrev n_Factors_contains : List Str := ["self", "x"]
theorem sc_Factors_contains : FnScope n_Factors_contains ["self", "x"] (defScope s_Factors_contains) := ⟨rfl, rfl, rfl, by decide +kernel, rfl, by decide +kernel, by decide +kernel⟩
def spContF (D : Addr) : Sp := fun vs H Q _ => ∃ (x : Addr) (y : V) (n : Nat) (o : Option Vec) (B : List Vec), vs = [.ref x, y] ∧ FacAt D H x n o B ∧ n ≤ 1000 ∧
  ((o = none ∧ Q (.bl false) H) ∨ (∃ (u : Vec) (p : Addr) (v : Vec), o = some u ∧ y = .ref p ∧ IsV H p v ∧ v.length = n ∧ OkRed B v ∧ ∀ H', Same H H' → Q (.bl (decide (redV B v = u))) H') ∨ (OddF n H y ∧ ∀ H', Same H H' → Q (.bl false) H'))
theorem ok_contF {D fS : Addr} {fd : FuncData} (T : Txt mg) (DL : ClsF K mg D) (g_is_vector : Has P w K mg base 2 "is_vector" ["value", "width"] spIsVectorW) (g_reduced_by : Has P w K mg base 2 "reduced_by" ["basis", "vector"] spReduced) (F : Fun K "__contains__" "Factors.__contains__" s_Factors_contains fS fd) : FnOk P w K mg base CX0 4 fS fd ["self", "x"] (spContF D) := by
  refine F.ok sc_Factors_contains (fun vs H Q E h => ?_) (fun cdv A outer s H vs Q E hr h => ?_)
  · obtain ⟨x, y, n, o, B, rfl, _⟩ := h
    rfl
  · have hu := hr.units
    obtain ⟨x, y, n, o, B, rfl, ⟨dx, b, w0, os, hx, hb, hrs, hpt⟩, n1, h⟩ := h
    refine ⟨_, (pss_one (ps_ret (pe_and (pe_cmpR op_notN (pe_fld (pv 0) rfl) pe_non (nomark _)) (pe_and (pe_callHas g_is_vector (hr.mono (by decide)) rfl (pa_cons (pv 1) (pa_cons (pe_fld (pv 0) rfl) pa_nil))) (pe_one (pe_cmpR (op_eqD hu) (pe_callHas g_reduced_by (hr.mono (by decide)) rfl (pa_cons (pe_fld (pv 0) rfl) (pa_cons (pv 1) pa_nil))) (pe_fld (pv 0) rfl) (nomark _))))))), ?_⟩
    refine ⟨_, rfl, x, D, dx, _, _, rfl, hx, DL.cl, DL.nP, ff_point _ _ _, rfl, _, rfl, ?_⟩
    cases o with
    | none =>
      cases (show w0 = .non from hpt)
      rcases h with ⟨_, k⟩ | ⟨u, p, v, e, _⟩ | ⟨_, k⟩
      · exact k
      · cases e
      · exact k _ (Same.refl H)
    | some u =>
      obtain ⟨z, rfl, hz, lz⟩ := hpt
      refine ⟨_, rfl, _, rfl, x, D, dx, _, _, rfl, hx, DL.cl, DL.nW, ff_width _ _ _, _, n, rfl, ?_⟩
      rcases h with ⟨e, _⟩ | ⟨u', p, v, e, rfl, hv, lv, ok, k⟩ | ⟨od, k⟩
      · cases e
      · cases e
        refine .inl ⟨p, v, rfl, hv, lv, n1, fun H1 s1 => ⟨_, rfl, ?_⟩⟩
        refine ⟨_, rfl, x, D, dx, _, _, rfl, s1 _ _ hx, DL.cl, DL.nB, ff_basis _ _ _, _, rfl, b, p, os, B, v, rfl, .inl (s1 _ _ hb), by rw [lv]; exact hrs.keep s1, s1 _ _ hv, by omega, ok, fun H2 q s2 hq lq => ?_⟩
        refine ⟨_, rfl, x, D, dx, _, _, rfl, s2 _ _ (s1 _ _ hx), DL.cl, DL.nP, ff_point _ _ _, .tuple ((redV B v).map PyData.int), .tuple (u.map PyData.int), tup_dp hq, tup_dp (s2 _ _ (s1 _ _ hz)), tup_shaped _, tup_shaped _, ?_⟩
        rw [tup_eq]
        exact k _ (s1.trans s2)
      · exact .inr ⟨od, fun H1 s1 => ⟨_, rfl, k _ s1⟩⟩
end
end K06

namespace Lat
/-! ## a table whose rows are reduced by those behind them -/
def tidyT : Tab → Tab
  | [] => []
  | none :: os => none :: tidyT os
  | some r :: os => some (redV (rowsOf (tidyT os)) r) :: tidyT os
theorem tidyT_len : ∀ t : Tab, (tidyT t).length = t.length
  | [] => rfl
  | none :: os => congrArg (· + 1) (tidyT_len os)
  | some r :: os => congrArg (· + 1) (tidyT_len os)
theorem rows_tidyT {n : Nat} : ∀ {p : Nat} {t : Tab}, EchT n p t → rowsOf (tidyT t) = tidy (rowsOf t)
  | _, [], _ => rfl
  | p, none :: os, h => rows_tidyT (t := os) h.2
  | p, some r :: os, h => by
    obtain ⟨a, b, c⟩ := h.1 r rfl
    have ih := rows_tidyT (t := os) h.2
    show redV (rowsOf (tidyT os)) r :: rowsOf (tidyT os) = redV (tidy (rowsOf os)) (posV r) :: tidy (rowsOf os)
    have e : posV r = r := by unfold posV; rw [b, if_pos c]
    rw [ih, e]
theorem tidyT_tab {n : Nat} : ∀ {p : Nat} {t : Tab}, EchT n p t → EchT n p (tidyT t)
  | _, [], h => h
  | p, none :: os, h => ⟨fun r e => (nomatch e), tidyT_tab (t := os) h.2⟩
  | p, some r :: os, h => by
    obtain ⟨a, b, c⟩ := h.1 r rfl
    refine ⟨fun s e => ?_, tidyT_tab (t := os) h.2⟩
    cases e
    have ec : Ech n p (r :: rowsOf os) := EchT.ech (t := some r :: os) h
    have q := tidy_row ec
    have e : posV r = r := by unfold posV; rw [b, if_pos c]
    rw [e, ← rows_tidyT (t := os) h.2, b] at q
    have et := (tidyT_tab (t := os) h.2).ech
    exact ⟨(redV_len _ _ fun s hs => ((et.row s hs).1).trans a.symm).trans a, q.1, q.2⟩
theorem tidyT_at : ∀ (t : Tab) (i : Nat), (∀ r, t[i]? = some (some r) → (tidyT t)[i]? = some (some (redV (rowsOf ((tidyT t).drop (i + 1))) r))) ∧ (t[i]? = some none → (tidyT t)[i]? = some none)
  | [], i => ⟨fun r e => (by simp at e), fun e => (by simp at e)⟩
  | none :: os, 0 => ⟨fun r e => (by simp at e), fun _ => rfl⟩
  | some s :: os, 0 => ⟨fun r e => (by simp at e; subst e; rfl), fun e => (by simp at e)⟩
  | none :: os, i + 1 => tidyT_at os i
  | some s :: os, i + 1 => tidyT_at os i
theorem EchT.pad {n : Nat} : ∀ {k p : Nat} {t : Tab}, EchT n (p + k) t → EchT n p (List.replicate k none ++ t)
  | 0, p, t, h => h
  | k + 1, p, t, h => ⟨fun r e => (nomatch e), EchT.pad (k := k) (p := p + 1) (by rw [Nat.add_right_comm]; exact h)⟩
theorem EchT.drop {n : Nat} : ∀ {k p : Nat} {t : Tab}, EchT n p t → k ≤ t.length → EchT n (p + k) (t.drop k)
  | 0, p, t, h, _ => h
  | k + 1, p, [], h, l => absurd l (by simp)
  | k + 1, p, o :: os, h, l => by
    have := EchT.drop (k := k) (t := os) h.2 (by simpa using l)
    rw [Nat.add_right_comm] at this
    exact this
theorem rows_pad : ∀ (k : Nat) (t : Tab), rowsOf (List.replicate k none ++ t) = rowsOf t
  | 0, t => rfl
  | k + 1, t => rows_pad k t
/-- the rows from place k on -/
def low (k : Nat) (t : Tab) : Tab := List.replicate k none ++ t.drop k
theorem low_tab {n k : Nat} {t : Tab} (h : EchT n 0 t) (hk : k ≤ t.length) : EchT n 0 (low k t) := EchT.pad (by have := h.drop hk; exact this)
theorem low_rows (k : Nat) (t : Tab) : rowsOf (low k t) = rowsOf (t.drop k) := rows_pad k _
theorem low_len {k : Nat} {t : Tab} (h : k ≤ t.length) : (low k t).length = t.length := by
  unfold low; rw [List.length_append, List.length_replicate, List.length_drop]; omega
theorem low_at {k i : Nat} {t : Tab} (hk : k ≤ t.length) : (low k t)[i]? = if i < k then some none else t[i]? := by
  unfold low
  split
  · next h => rw [List.getElem?_append_left (by rw [List.length_replicate]; exact h), List.getElem?_replicate, if_pos h]
  · next h =>
    rw [List.getElem?_append_right (by rw [List.length_replicate]; omega), List.length_replicate, List.getElem?_drop]
    congr 1; omega
/-- the table while it is tidied: from place q on it is -/
def half (q : Nat) (t : Tab) : Tab := t.take q ++ (tidyT t).drop q
theorem half_len (q : Nat) (t : Tab) : (half q t).length = t.length := by
  unfold half; rw [List.length_append, List.length_take, List.length_drop, tidyT_len]; omega
theorem half_at (q i : Nat) (t : Tab) : (half q t)[i]? = if i < q then t[i]? else (tidyT t)[i]? := by
  unfold half
  by_cases hq : q ≤ t.length
  · split
    · next h => rw [List.getElem?_append_left (by rw [List.length_take]; omega), List.getElem?_take_of_lt h]
    · next h =>
      rw [List.getElem?_append_right (by rw [List.length_take]; omega), List.length_take, List.getElem?_drop]
      congr 1; omega
  · rw [List.take_of_length_le (by omega), List.drop_of_length_le (by rw [tidyT_len]; omega), List.append_nil]
    split
    · rfl
    · next h => rw [List.getElem?_eq_none (by omega), List.getElem?_eq_none (by rw [tidyT_len]; omega)]
theorem half_same {q q' : Nat} {t : Tab} (h : ∀ i, i < t.length → (q ≤ i ∧ i < q') ∨ (q' ≤ i ∧ i < q) → t[i]? = some none) : half q t = half q' t := by
  refine List.ext_getElem? fun i => ?_
  rw [half_at, half_at]
  by_cases hi : i < t.length
  · by_cases h1 : i < q
    · by_cases h2 : i < q'
      · rw [if_pos h1, if_pos h2]
      · have e := h i hi (.inr ⟨by omega, h1⟩)
        rw [if_pos h1, if_neg h2, e, (tidyT_at t i).2 e]
    · by_cases h2 : i < q'
      · have e := h i hi (.inl ⟨by omega, h2⟩)
        rw [if_neg h1, if_pos h2, e, (tidyT_at t i).2 e]
      · rw [if_neg h1, if_neg h2]
  · have e1 : t[i]? = none := List.getElem?_eq_none (by omega)
    have e2 : (tidyT t)[i]? = none := List.getElem?_eq_none (by rw [tidyT_len]; omega)
    rw [e1, e2]; simp
theorem rows_drop_same : ∀ {t : Tab} {q q' : Nat}, q ≤ q' → (∀ i, i < t.length → q ≤ i → i < q' → t[i]? = some none) → rowsOf (t.drop q) = rowsOf (t.drop q') := by
  intro t q q' hq
  obtain ⟨k, rfl⟩ : ∃ k, q' = q + k := ⟨q' - q, by omega⟩
  clear hq
  induction k with
  | zero => intro _; rfl
  | succ k ih =>
    intro h
    rw [ih fun i hi h1 h2 => h i hi h1 (by omega)]
    by_cases hl : q + k < t.length
    · have e := h (q + k) hl (by omega) (by omega)
      rw [List.drop_eq_getElem_cons hl]
      have e2 : t[q + k] = none := Option.some.inj ((List.getElem?_eq_getElem hl).symm.trans e)
      rw [e2]; rfl
    · rw [List.drop_of_length_le (by omega), List.drop_of_length_le (by omega)]
theorem half_set {q : Nat} {t : Tab} {r : Vec} (h : t[q]? = some (some r)) : (half (q + 1) t).set q (some (redV (rowsOf ((tidyT t).drop (q + 1))) r)) = half q t := by
  have hlt := (List.getElem?_eq_some_iff.mp h).1
  refine List.ext_getElem? fun i => ?_
  rw [List.getElem?_set, half_len, half_at, half_at]
  by_cases e : q = i
  · subst e
    rw [if_pos rfl, if_pos hlt, if_neg (Nat.lt_irrefl q), (tidyT_at t q).1 r h]
  · rw [if_neg e]
    by_cases h1 : i < q
    · rw [if_pos h1, if_pos (by omega)]
    · rw [if_neg h1, if_neg (by omega)]
theorem rows_drop_cons {t : Tab} {q : Nat} {r : Vec} (h : t[q]? = some (some r)) : rowsOf (t.drop q) = r :: rowsOf (t.drop (q + 1)) := by
  have hlt := (List.getElem?_eq_some_iff.mp h).1
  rw [List.drop_eq_getElem_cons hlt, (List.getElem?_eq_some_iff.mp h).2]; rfl
theorem half_none_iff (q i : Nat) (t : Tab) (hi : i < t.length) : (∃ r, (half q t)[i]? = some (some r)) ↔ ∃ r, t[i]? = some (some r) := by
  rw [half_at]
  obtain ⟨o, e⟩ : ∃ o, t[i]? = some o := ⟨_, List.getElem?_eq_getElem hi⟩
  cases o with
  | none => rw [(tidyT_at t i).2 e, e]; split <;> exact Iff.rfl
  | some r =>
    rw [(tidyT_at t i).1 r e, e]
    exact ⟨fun _ => ⟨r, rfl⟩, fun _ => by split <;> exact ⟨_, rfl⟩⟩
end Lat

namespace K06
open PySem L2 RZ Lat
theorem mergeK_app : ∀ (more acc : List (Key × V)), (more.map (·.1)).Nodup → (∀ k ∈ more.map (·.1), k ∉ acc.map (·.1)) → mergeK acc more = acc ++ more
  | [], acc, _, _ => (List.append_nil acc).symm
  | kv :: more, acc, nd, h => by
    have h0 := h kv.1 List.mem_cons_self
    obtain ⟨n1, n2⟩ := List.nodup_cons.mp nd
    have e : putK acc kv.1 kv.2 = acc ++ [(kv.1, kv.2)] := by
      unfold putK
      rw [if_neg]
      intro q
      obtain ⟨x, hx, e⟩ := List.any_eq_true.mp q
      exact h0 (List.mem_map.mpr ⟨x, hx, of_decide_eq_true e⟩)
    show mergeK (putK acc kv.1 kv.2) more = _
    rw [e, mergeK_app more (acc ++ [(kv.1, kv.2)]) n2 ?_, List.append_assoc]
    · rfl
    intro k hk q
    rw [List.map_append] at q
    rcases List.mem_append.mp q with q | q
    · exact h k (List.mem_cons_of_mem _ hk) q
    · have q' : k = kv.1 := List.mem_singleton.mp q
      exact n1 (by
        have q3 : k ∈ more.map (·.1) := hk
        rw [q'] at q3; exact q3)
def nk (p : Nat) : Key := Sum.inl ((p : Nat) : Int)
theorem nk_inj {p q : Nat} (h : nk p = nk q) : p = q := by
  unfold nk at h
  injection h with h
  omega
theorem valV_fn (f : Nat → V) (i : Nat) : ∀ l : List Nat, valV (l.map fun p => (nk p, f p)) (nk i) = if i ∈ l then some (f i) else none
  | [] => rfl
  | p :: l => by
    rw [List.map_cons]
    by_cases e : p = i
    · subst e
      rw [valV_pos rfl, if_pos List.mem_cons_self]
    · rw [valV_neg (fun z => e (nk_inj z)), valV_fn f i l]
      by_cases h : i ∈ l
      · rw [if_pos h, if_pos (List.mem_cons_of_mem _ h)]
      · rw [if_neg h, if_neg (fun z => by
          rcases List.mem_cons.mp z with z | z
          · exact e z.symm
          · exact h z)]
theorem nodup_lt : ∀ (n : Nat) (l : List Nat), l.Nodup → (∀ p ∈ l, p < n) → l.length ≤ n
  | 0, l, _, h => by
    cases l with
    | nil => exact Nat.le_refl _
    | cons p l => exact absurd (h p List.mem_cons_self) (Nat.not_lt_zero _)
  | n + 1, l, nd, h => by
    by_cases hn : n ∈ l
    · have q := nodup_lt n (l.erase n) (nd.erase n) fun p hp => by
        have q1 := (List.Nodup.mem_erase_iff nd).mp hp
        have := h p q1.2
        omega
      rw [List.length_erase_of_mem hn] at q
      omega
    · have q := nodup_lt n l nd fun p hp => by
        have := h p hp
        have : p ≠ n := fun z => hn (z ▸ hp)
        omega
      omega
theorem sort_places {ks : List Nat} {ns : List Int} (h : ns.Perm (ks.map fun p => ((p : Nat) : Int))) (s : ns.Pairwise (· ≤ ·)) (nd : ks.Nodup) : ∃ ps : List Nat, ns = ps.map (fun p => ((p : Nat) : Int)) ∧ ps.Perm ks ∧ ps.Pairwise (· < ·) := by
  have e : ns = (ns.map Int.toNat).map (fun p => ((p : Nat) : Int)) := by
    rw [List.map_map]
    refine ((List.map_congr_left fun x hx => ?_).trans (List.map_id ns)).symm
    obtain ⟨p, _, rfl⟩ := List.mem_map.mp (h.mem_iff.mp hx)
    show ((((p : Nat) : Int).toNat : Nat) : Int) = _
    rw [Int.toNat_natCast]; rfl
  have p1 : (ns.map Int.toNat).Perm ks := by
    have q := h.map Int.toNat
    rw [List.map_map] at q
    have e2 : ks.map (Int.toNat ∘ fun p => ((p : Nat) : Int)) = ks := (List.map_congr_left fun p _ => Int.toNat_natCast p).trans (List.map_id ks)
    rw [e2] at q
    exact q
  refine ⟨ns.map Int.toNat, e, p1, ?_⟩
  have nd' : (ns.map Int.toNat).Nodup := p1.nodup_iff.mpr nd
  have s' : (ns.map Int.toNat).Pairwise (· ≤ ·) := by
    rw [List.pairwise_map]
    exact s.imp fun {a b} hab => by omega
  exact (s'.and nd').imp fun {a b} q => Nat.lt_of_le_of_ne q.1 q.2
theorem mem_drop_sorted {ps : List Nat} (h : ps.Pairwise (· < ·)) {s p : Nat} (e : ps[s]? = some p) (i : Nat) : i ∈ ps.drop (s + 1) ↔ i ∈ ps ∧ p < i := by
  have hlt := (List.getElem?_eq_some_iff.mp e).1
  have ed : ps = ps.take s ++ p :: ps.drop (s + 1) := by
    have := List.take_append_drop s ps
    rw [List.drop_eq_getElem_cons hlt, (List.getElem?_eq_some_iff.mp e).2] at this
    exact this.symm
  have h' := h
  rw [ed] at h'
  obtain ⟨h1, h2, h3⟩ := List.pairwise_append.mp h'
  obtain ⟨h4, h5⟩ := List.pairwise_cons.mp h2
  constructor
  · exact fun q => ⟨List.mem_of_mem_drop q, h4 i q⟩
  · rintro ⟨q, lt⟩
    rw [ed] at q
    rcases List.mem_append.mp q with q | q
    · have := h3 i q p List.mem_cons_self
      omega
    · rcases List.mem_cons.mp q with q | q
      · omega
      · exact q
theorem sorted_lt {ps : List Nat} (h : ps.Pairwise (· < ·)) {i j p q : Nat} (ei : ps[i]? = some p) (ej : ps[j]? = some q) : i < j ↔ p < q := by
  obtain ⟨hi, ei⟩ := List.getElem?_eq_some_iff.mp ei
  obtain ⟨hj, ej⟩ := List.getElem?_eq_some_iff.mp ej
  have mono : ∀ {a b : Nat} (ha : a < ps.length) (hb : b < ps.length), a < b → ps[a] < ps[b] := fun ha hb hab => List.pairwise_iff_getElem.mp h _ _ ha hb hab
  constructor
  · intro q1
    have := mono hi hj q1
    omega
  · intro q1
    rcases Nat.lt_trichotomy i j with z | z | z
    · exact z
    · subst z; omega
    · have := mono hj hi z
      omega
theorem cutV_from (xs : List V) (k : Nat) (hk : k ≤ xs.length) : cutV xs (some ((k : Nat) : Int)) none = xs.drop k := by
  unfold cutV
  rw [HT.sIx_nat, HT.sIx_none, Nat.min_eq_left hk, List.take_of_length_le (by rw [List.length_drop]; exact Nat.le_refl _)]
def OkBasis (t : Tab) : Prop := ∀ (p : Nat) (r : Vec), t[p]? = some (some r) → OkLeft (low (p + 1) (tidyT t)) 0 r
def gOf (kvs : List (Key × V)) (p : Nat) : Addr := match valV kvs (nk p) with
  | some (.ref a) => a
  | _ => 0
abbrev vi (p : Nat) : V := V.int ((p : Nat) : Int)
section
variable {P : Program} {w : World} {K : PySem.W.Frag} {mg : Str → Option Value} {base : Heap}
abbrev s_law_basis : Stmt := top 45
abbrev n_law_basis : List Str := ["_law_rows_here", "_law_known", "_law_found", "_law_places", "_law_spot", "_law_lower", "_law_row", "_law_place"]
theorem sc_law_basis : FnScope n_law_basis ["_law_rows_here"] (defScope s_law_basis) := ⟨rfl, rfl, rfl, by decide +kernel, rfl, by decide +kernel, by decide +kernel⟩
def spBasis : Sp := fun vs H Q _ => ∃ (l : Addr) (n : Nat) (as : List V) (rs : List Vec), vs = [.ref l] ∧ H l = some (.lst as) ∧ Rows H n as rs ∧ n ≤ 60 ∧ rs.length * n ≤ 10000 ∧ OkPuts (tab0 n) rs ∧ EchT n 0 (putsL (tab0 n) rs) ∧ OkBasis (putsL (tab0 n) rs) ∧
  ∀ (H' : Hp) (p : Addr) (os : List V), Same H H' → H' p = some (.tup os) → Rows H' n os (tidy (rowsOf (putsL (tab0 n) rs))) → Q (.ref p) H'
theorem ok_basis (T : Txt mg) (g_law_echelon : Has P w K mg base 2 "_law_echelon" ["_law_rows_here"] spEchelon) (g_law_left : Has P w K mg base 1 "_law_left" ["_law_known", "_law_row"] spLeft)
    (F : DefAt K mg "_law_basis" s_law_basis ["_law_rows_here"]) : Has P w K mg base 3 "_law_basis" ["_law_rows_here"] spBasis := by
  refine F.has sc_law_basis (fun vs H Q E h => ?_) (fun f cdv A outer s H vs Q E hr h => ?_)
  · obtain ⟨l, n, as, rs, rfl, _⟩ := h
    rfl
  · obtain ⟨l, n, as, rs, rfl, hl, hrs, n60, hL, ok, et, okb, k⟩ := h
    have hu := hu_of hr
    refine ⟨_, (pss_cons (ps_asg (pe_tup (pa_cons (pe_callHas g_law_echelon (hr.mono (by decide)) rfl (pa_cons (pv 0) pa_nil)) (pa_cons (pe_lst pa_nil) pa_nil))) (pg_tup rfl (pgs_cons (pg_name (i := 1) sc_law_basis.nd rfl (Or.inr rfl)) (pgs_cons (pg_name (i := 2) sc_law_basis.nd rfl (Or.inl rfl)) pgs_nil))))
      (pss_cons (ps_set (i := 3) sc_law_basis.nd rfl (Or.inl rfl) (pe_callB cr_sorted (by rfl) T.z_sorted (by decide +kernel) (pa_cons (pe_lock (pe_lc (own := [("_law_place", 7)]) (g := gName 7) (by rfl) sc_law_basis.nd (pi_keys (pv 1)) (blkOk_by (own := [("_law_place", 7)]) (N := n_law_basis) (sc := defScope s_law_basis) (by decide +kernel)) (fun _ _ _ _ _ => (pg_name (i := 7) sc_law_basis.nd rfl (Or.inl rfl))) (fun _ _ _ _ _ => pts_nil) (fun _ _ _ _ _ => (pe_callTy call_int1 (by rfl) T.z_int (by decide +kernel) (pa_cons (pv 7) pa_nil))))) pa_nil)))
      (pss_cons (ps_for PassesOwn.never rfl (pi_range3 rfl T.z_range (pa_cons (pe_op op_sub (pe_callB call_len (by rfl) T.z_len (by decide +kernel) (pa_cons (pv 3) pa_nil)) pe_int) (pa_cons (pe_un un_neg pe_int) (pa_cons (pe_un un_neg pe_int) pa_nil)))) (pg_name (i := 4) sc_law_basis.nd rfl (Or.inl rfl)) (pss_cons (ps_set (i := 5) sc_law_basis.nd rfl (Or.inl rfl) (pe_callTy (call_dictP rfl) (by rfl) T.z_dict (by decide +kernel) (pa_cons (pe_lc (own := [("_law_place", 7)]) (g := gName 7) (by rfl) sc_law_basis.nd (pi_list (pe_slice sl_list (pv 3) (po_some (pe_op op_add (pv 4) pe_int)) po_none)) (blkOk_by (own := [("_law_place", 7)]) (N := n_law_basis) (sc := defScope s_law_basis) (by decide +kernel)) (fun _ _ _ _ _ => (pg_name (i := 7) sc_law_basis.nd rfl (Or.inl rfl))) (fun _ _ _ _ _ => pts_nil) (fun _ _ _ _ _ => (pe_tup (pa_cons (pv 7) (pa_cons (pe_dget hu (pv 1) (pv 7) (fun _ _ => rfl)) pa_nil))))) pa_nil)))
      (pss_cons (ps_set (i := 6) sc_law_basis.nd rfl (Or.inl rfl) (pe_callHas g_law_left (hr.mono (by decide)) rfl (pa_cons (pv 5) (pa_cons (pe_dget hu (pv 1) (pe_ix ix_list (pv 3) (pv 4) (fun _ _ => rfl)) (fun _ _ => rfl)) pa_nil))))
      (pss_cons (ps_dput hu (pv 1) (pe_ix ix_list (pv 3) (pv 4) (fun _ _ => rfl)) (pv 6) rfl)
      (pss_one (ps_set (i := 2) sc_law_basis.nd rfl (Or.inl rfl) (pe_op op_cat (pe_lst (pa_cons (pe_callTy call_tuple_of (by rfl) T.z_tuple (by decide +kernel) (pa_cons (pv 6) pa_nil)) pa_nil)) (pv 2))))))))
      (pss_one (ps_ret (pe_callTy call_tuple_of (by rfl) T.z_tuple (by decide +kernel) (pa_cons (pv 2) pa_nil))))))), ?_⟩
    refine ⟨_, rfl, (fun _ => True), l, n, as, rs, rfl, (fun _ _ => trivial), hl, hrs, by omega, by omega, ok, fun H1 d s1 hdN tb1 => ?_⟩
    generalize ht : putsL (tab0 n) rs = t at *
    generalize rs.length * n = L at *
    have lt : t.length = n := by have := et.len; omega
    refine ⟨Nat.zero_le _, fun f0 hf0 => ⟨(by show 2 ≤ sizeLine; decide), fun z hz => ?_⟩⟩
    obtain ⟨sf, hf1⟩ := new_at (o := .lst []) hf0
    obtain ⟨sz, hz1⟩ := new_at (o := .tup [V.ref d, V.ref f0]) hz
    refine ⟨z, _, rfl, SqT.of hz1, rfl, _, _, rfl, _, _, rfl, rfl, ?_⟩
    have s2 := sf.trans sz
    have hf2 := sz _ _ hf1
    have tb2 := tb1.keep s2
    have s02 := s1.trans s2
    generalize upd (upd H1 f0 (HO.lst [])) z (HO.tup [V.ref d, V.ref f0]) = H2 at *
    clear sf sz hz1 hf1 s2 tb1
    obtain ⟨kvs0, hd2, hk0, hv0, ks, ek0, nd0, lt0⟩ := id tb2
    rw [lt] at lt0
    -- the places
    refine ⟨d, .dK kvs0, hd2, trivial, fun od => ⟨_, rfl, d, od, rfl, .inl ⟨kvs0, upd_same, fun D hD => lc_it walk_keys (fun i H' => H' d = some (.frz od (.dK kvs0)) ∧ H' D = some (.lst ((ks.take i).map vi)) ∧ ∀ y o, y ≠ d → H2 y = some o → H' y = some o) ?_ ?_ ?_ ?_⟩⟩⟩
    · have nDd : D ≠ d := fun z => by rw [z, upd_same] at hD; cases hD
      refine ⟨by rw [upd_ne nDd.symm]; exact upd_same, upd_same, fun y o ny q => ?_⟩
      have nyD : y ≠ D := fun z => by rw [← z, upd_ne ny, q] at hD; cases hD
      rw [upd_ne nyD, upd_ne ny]; exact q
    · exact fun i H' _ q => q.1
    · rintro i x H' H'' hi ⟨q1, q2, q3⟩ ⟨rfl, kk, v, ek, rfl⟩
      have nDd : D ≠ d := fun z => by rw [z, upd_same] at hD; cases hD
      obtain ⟨p, ep, rfl⟩ : ∃ p, ks[i]? = some p ∧ kk = nk p := by
        have q : (kvs0.map (·.1))[i]? = some kk := by rw [List.getElem?_map, ek]; rfl
        rw [ek0, List.getElem?_map] at q
        cases e : ks[i]? with
        | none => rw [e] at q; cases q
        | some p => rw [e] at q; exact ⟨p, rfl, (Option.some.inj q).symm⟩
      refine ⟨rfl, ?_⟩
      refine ⟨_, rfl, .inl ⟨_, rfl, _, q2, ?_, by rw [upd_ne nDd.symm]; exact q1, ?_, fun y o ny z => ?_⟩⟩
      · rw [List.length_map, List.length_take]
        have := nodup_lt n ks nd0 lt0
        exact Nat.lt_of_le_of_lt (Nat.le_trans (Nat.min_le_right _ _) (Nat.le_trans this n60)) (by decide)
      · rw [upd_same, List.take_add_one, ep, List.map_append]; rfl
      · have nyD : y ≠ D := fun w => by rw [← w, upd_ne ny, z] at hD; cases hD
        rw [upd_ne nyD]; exact q3 y o ny z
    · rintro H3 ⟨q1, q2, q3⟩
      have nDd : D ≠ d := fun z => by rw [z, upd_same] at hD; cases hD
      have lks : kvs0.length = ks.length := by
        have := congrArg List.length ek0
        rw [List.length_map, List.length_map] at this; exact this
      rw [lks, List.take_length] at q2
      refine ⟨q1, ?_⟩
      have s3 : Same H2 (upd H3 d (.dK kvs0)) := fun y o z => by
        by_cases e : y = d
        · subst e
          rw [upd_same]; rw [hd2] at z; exact z
        · rw [upd_ne e]; exact q3 y o e z
      have hD3 : upd H3 d (.dK kvs0) D = some (.lst ((ks.map fun p => ((p : Nat) : Int)).map V.int)) := by
        rw [upd_ne nDd, q2, List.map_map]; rfl
      generalize upd H3 d (HO.dK kvs0) = H4 at s3 hD3 ⊢
      have l64 : (ks.map fun p => ((p : Nat) : Int)).length < 64 := by
        rw [List.length_map]
        have := nodup_lt n ks nd0 lt0
        omega
      refine ⟨D, _, rfl, SqL.of hD3, l64, fun ns' pl perm pw hpl => ?_⟩
      obtain ⟨ps, rfl, pp, sp⟩ := sort_places perm pw nd0
      have hpl' : upd H4 pl (.lst ((ps.map fun p => ((p : Nat) : Int)).map V.int)) pl = some (.lst (ps.map vi)) := by rw [upd_same, List.map_map]; rfl
      have s4 : Same H4 (upd H4 pl (.lst ((ps.map fun p => ((p : Nat) : Int)).map V.int))) := (new_at hpl).1
      generalize upd H4 pl (HO.lst ((ps.map fun p => ((p : Nat) : Int)).map V.int)) = H5 at hpl' s4 ⊢
      have s25 := s3.trans s4
      have tb5 := tb2.keep s25
      have hf5 := s25 _ _ hf2
      have s05 := s02.trans s25
      have mp : ∀ p, p ∈ ps ↔ ∃ r, t[p]? = some (some r) := fun p => by
        rw [pp.mem_iff]
        constructor
        · intro hp
          rcases Classical.em (∃ r, t[p]? = some (some r)) with z | z
          · exact z
          · have q := (hv0 p).2 fun r e => z ⟨r, e⟩
            have q2 : nk p ∈ kvs0.map (·.1) := by rw [ek0]; exact List.mem_map.mpr ⟨p, hp, rfl⟩
            exact absurd q2 (valV_not q)
        · rintro ⟨r, hr'⟩
          obtain ⟨a, q, _⟩ := (hv0 p).1 r hr'
          have q2 := valV_in q
          rw [ek0] at q2
          obtain ⟨p', hp', e⟩ := List.mem_map.mp q2
          rw [← nk_inj (p := p') (q := p) e]; exact hp'
      have ltp : ∀ p ∈ ps, p < n := fun p hp => lt0 p (pp.mem_iff.mp hp)
      have ndp : ps.Nodup := pp.nodup_iff.mpr nd0
      have lps : ps.length ≤ 60 := Nat.le_trans (nodup_lt n ps ndp ltp) n60
      generalize hN : ps.length = N at lps
      have lsz : ∀ m : Nat, m ≤ 100000 → m ≤ sizeLine := fun m h => Nat.le_trans h (by decide)
      -- the loop
      refine ⟨_, rfl, _, _, rfl, .inl ⟨_, SqL.of hpl', rfl⟩, _, _, rfl, rfl, _, rfl, _, rfl, _, _, _, N, rfl, ?_, ?_⟩
      · rw [List.length_map, hN]
        have q := RgC.neg (i := ((N : Nat) : Int) - 1) (j := -1) (by omega) (by omega) (by omega) (by omega)
        have e : ((((N : Nat) : Int) - 1) - -1).toNat = N := by omega
        rw [e] at q
        exact q
      rw [List.length_map, hN]
      refine for_rangeC (fun j σ H' => ∃ (q : Nat) (f : Addr) (os : List V) (x4 x5 x6 x7 : Option V), σ = [some (.ref l), some (.ref d), some (.ref f), some (.ref pl), x4, x5, x6, x7] ∧ But d H5 H' ∧ Tb (fun _ => True) H' d (L + j) (half q t) ∧ q ≤ n ∧ (∀ s p, ps[s]? = some p → (s < N - j ↔ p < q)) ∧ H' f = some (.lst os) ∧ Rows H' n os (rowsOf ((tidyT t).drop q)) ∧ os.length ≤ j)
        ⟨n, f0, [], _, _, _, _, rfl, fun _ _ _ z => z, ?_, Nat.le_refl _, fun s p e => ?_, hf5, ?_, Nat.le_refl _⟩ ?_ ?_
      · have e : half n t = t := by unfold half; rw [List.take_of_length_le (by omega), List.drop_of_length_le (by rw [tidyT_len]; omega), List.append_nil]
        rw [e]; exact tb5
      · have := ltp p (List.mem_of_getElem? e)
        have := (List.getElem?_eq_some_iff.mp e).1
        omega
      · rw [List.drop_of_length_le (by rw [tidyT_len]; omega)]
        exact ⟨.nil, fun v hv => nomatch hv⟩
      · rintro j σ H6 hj ⟨q, f, os, x4, x5, x6, x7, rfl, bu6, tb6, hq, hsq, hf6, hos, los⟩
        obtain ⟨sI, hsI⟩ : ∃ sI : Nat, sI = N - 1 - j := ⟨_, rfl⟩
        obtain ⟨p, ep⟩ : ∃ p, ps[sI]? = some p := ⟨_, List.getElem?_eq_getElem (by omega)⟩
        have hp := (mp p).mp (List.mem_of_getElem? ep)
        obtain ⟨r, er⟩ := hp
        have pn := ltp p (List.mem_of_getElem? ep)
        have pq : p < q := (hsq sI p ep).mp (by omega)
        have none_between : ∀ i, i < t.length → p + 1 ≤ i → i < q → t[i]? = some none := fun i hi h1 h2 => by
          obtain ⟨o, eo⟩ : ∃ o, t[i]? = some o := ⟨_, List.getElem?_eq_getElem hi⟩
          cases o with
          | none => exact eo
          | some r' =>
            have hm := (mp i).mpr ⟨r', eo⟩
            obtain ⟨s', hs', es'⟩ := List.mem_iff_getElem.mp hm
            have e' : ps[s']? = some i := by rw [List.getElem?_eq_getElem hs', es']
            have h3 := (hsq s' i e').mpr h2
            have h4 := sorted_lt sp ep e'
            omega
        have eh : half q t = half (p + 1) t := half_same fun i hi z => by
          rcases z with z | z
          · omega
          · exact none_between i hi z.1 z.2
        have tnone : ∀ i, i < t.length → p + 1 ≤ i → i < q → (tidyT t)[i]? = some none := fun i hi h1 h2 => (tidyT_at t i).2 (none_between i hi h1 h2)
        have ed : rowsOf ((tidyT t).drop q) = rowsOf ((tidyT t).drop (p + 1)) := (rows_drop_same (by omega) fun i hi h1 h2 => tnone i (by rw [tidyT_len] at hi; exact hi) h1 h2).symm
        rw [eh] at tb6
        rw [ed] at hos
        have hpl6 := bu6 _ _ (ne_of hpl' (s25 _ _ hd2) fun z => nomatch z) hpl'
        have eidx : ((N : Nat) : Int) - 1 + ((j : Nat) : Int) * (-1) = ((sI : Nat) : Int) := by omega
        show gName 4 (V.int (((N : Nat) : Int) - 1 + ((j : Nat) : Int) * (-1))) _ _ _
        rw [eidx]
        obtain ⟨kvs, hd6, hk6, hv6, hkp6⟩ := id tb6
        have lsI : sI + 1 ≤ (ps.map vi).length := by rw [List.length_map]; omega
        -- the rows below
        have gv : ∀ i, i ∈ ps → ∃ a r', valV kvs (nk i) = some (.ref a) ∧ gOf kvs i = a ∧ (half (p + 1) t)[i]? = some (some r') ∧ IsL H6 a r' := fun i hi => by
          obtain ⟨r', e'⟩ := (half_none_iff (p + 1) i t (by rw [lt]; exact ltp i hi)).mpr ((mp i).mp hi)
          obtain ⟨a, z1, _, z2⟩ := (hv6 i).1 r' e'
          refine ⟨a, r', z1, ?_, e', z2⟩
          unfold gOf
          have z1' : valV kvs (nk i) = some (.ref a) := z1
          rw [z1']
        refine ⟨_, rfl, _, rfl, _, _, rfl, rfl, _, rfl, pl, _, rfl, SqL.of hpl6, fun c hc => ?_⟩
        have ecut : cutV (ps.map vi) (some (((sI : Nat) : Int) + 1)) none = (ps.drop (sI + 1)).map vi := by
          have e1 : ((sI : Nat) : Int) + 1 = ((sI + 1 : Nat) : Int) := by omega
          rw [e1, cutV_from _ _ lsI, List.map_drop]
        rw [ecut]
        obtain ⟨sc, hc1⟩ := new_at (o := .lst ((ps.drop (sI + 1)).map vi)) hc
        generalize upd H6 c (HO.lst ((ps.drop (sI + 1)).map vi)) = H7 at sc hc1 ⊢
        generalize hkl : ((ps.drop (sI + 1)).map fun i => ((nk i, V.ref (gOf kvs i)) : Key × V)) = kvl
        have lkl : kvl.length = (ps.drop (sI + 1)).length := by rw [← hkl, List.length_map]
        have lkl2 : kvl.length ≤ 60 := by rw [lkl, List.length_drop]; omega
        refine ⟨c, rfl, ⟨_, SqL.of hc1⟩, fun D2 hD2 => lc_it (walk_list (xs := (ps.drop (sI + 1)).map vi)) (fun i H' => Same H7 H' ∧ ∃ qs : List Addr, H' D2 = some (.lst (qs.map V.ref)) ∧ qs.length = i ∧ Paired (fun (q : Addr) (kv : Key × V) => H' q = some (.tup [kV kv.1, kv.2])) qs (kvl.take i)) ?_ ?_ ?_ ?_⟩
        · exact ⟨(new_at hD2).1, [], upd_same, rfl, .nil⟩
        · exact fun i H' _ z => SqL.of (z.1 _ _ hc1)
        · rintro i y H' H'' hi ⟨sm, qs, hq', lq, pr⟩ ⟨rfl, ey⟩
          rw [List.length_map] at hi
          obtain ⟨i', ei', rfl⟩ : ∃ i', (ps.drop (sI + 1))[i]? = some i' ∧ y = vi i' := by
            rw [List.getElem?_map] at ey
            cases e : (ps.drop (sI + 1))[i]? with
            | none => rw [e] at ey; cases ey
            | some i' => rw [e] at ey; exact ⟨i', rfl, (Option.some.inj ey).symm⟩
          obtain ⟨a, r', v1, v2, v3, v4⟩ := gv i' (List.mem_of_mem_drop (List.mem_of_getElem? ei'))
          have hd' := sm _ _ (sc _ _ hd6)
          refine ⟨rfl, ?_⟩
          refine ⟨_, rfl, _, rfl, _, rfl, d, .ref a, rfl, by rw [← v1]; exact DGet.k (k := nk i') hd', (by show 2 ≤ sizeLine; decide), fun q2 hq2 => ?_⟩
          obtain ⟨s8, hq3⟩ := new_at (o := .tup [V.int ((i' : Nat) : Int), V.ref a]) hq2
          refine ⟨_, s8 _ _ hq', ?_, fun y o z => ?_, qs ++ [q2], ?_, by rw [List.length_append, lq]; rfl, ?_⟩
          · rw [List.length_map, lq]
            have : (ps.drop (sI + 1)).length ≤ 60 := by rw [List.length_drop]; omega
            exact Nat.lt_of_lt_of_le hi (Nat.le_trans this (by decide))
          · rw [upd_ne (ne_of_none z hD2)]; exact s8 _ _ (sm _ _ z)
          · rw [upd_same, List.map_append]; rfl
          · have ekl : kvl[i]? = some (nk i', V.ref a) := by rw [← hkl, List.getElem?_map, ei', ← v2]; rfl
            rw [List.take_add_one, ekl]
            have keep : ∀ {q : Addr} {kv : Key × V}, H'' q = some (.tup [kV kv.1, kv.2]) → upd (upd H'' q2 (.tup [V.int ((i' : Nat) : Int), V.ref a])) D2 (.lst (qs.map V.ref ++ [V.ref q2])) q = some (.tup [kV kv.1, kv.2]) := fun {q kv} z => by
              rw [upd_ne (ne_of (s8 _ _ z) (s8 _ _ hq') fun w => nomatch w)]; exact s8 _ _ z
            have h1 := Paired.mapP pr fun q kv z => keep (q := q) (kv := kv) z
            have snoc : ∀ {qs : List Addr} {l : List (Key × V)} {R : Addr → Key × V → Prop} {q : Addr} {kv : Key × V}, Paired R qs l → R q kv → Paired R (qs ++ [q]) (l ++ [kv]) := fun {qs l R q kv} h hr => by
              induction h with
              | nil => exact .cons hr .nil
              | cons a _ ih => exact .cons a ih
            refine snoc h1 ?_
            show upd (upd H'' q2 _) D2 _ q2 = _
            rw [upd_ne (ne_of hq3 (s8 _ _ hq') fun w => nomatch w)]
            exact hq3
        · rintro H8 ⟨s8, qs, hq8, lq, pr⟩
          rw [List.length_map, ← lkl, List.take_length] at pr
          refine ⟨D2, qs, kvl, rfl, SqL.of hq8, Paired.mapP pr fun q kv z => SqT.of z, fun e he => ?_⟩
          have kn : kvl.map (·.1) = (ps.drop (sI + 1)).map nk := by rw [← hkl, List.map_map]; rfl
          have ndd : (ps.drop (sI + 1)).Nodup := ndp.sublist (List.drop_sublist _ _)
          have em : mergeK [] kvl = kvl := by
            have q := mergeK_app kvl [] (by
              rw [kn]
              exact List.pairwise_map.mpr (ndd.imp fun {a b} h z => h (nk_inj z))) fun k _ z => nomatch z
            rw [q]; rfl
          rw [em]
          obtain ⟨se, he1⟩ := new_at (o := .dK kvl) he
          have s79 := s8.trans se
          generalize upd H8 e (HO.dK kvl) = H9 at se he1 s79 ⊢
          have s69 := sc.trans s79
          have elow : (low (p + 1) (tidyT t)).length = n := by rw [low_len (by rw [tidyT_len]; omega), tidyT_len]; exact lt
          have tbe : Tb (fun _ => True) H9 e 60 (low (p + 1) (tidyT t)) := by
            refine ⟨kvl, he1, lkl2, fun i => ?_, ps.drop (sI + 1), kn, ndd, fun i hi => by rw [elow]; exact ltp i (List.mem_of_mem_drop hi)⟩
            have ev : valV kvl (Sum.inl ((i : Nat) : Int)) = if i ∈ ps.drop (sI + 1) then some (V.ref (gOf kvs i)) else none := by
              rw [← hkl]; exact valV_fn (fun i => V.ref (gOf kvs i)) i (ps.drop (sI + 1))
            rw [ev, low_at (by rw [tidyT_len]; omega)]
            have mem := mem_drop_sorted sp ep i
            by_cases him : i ∈ ps.drop (sI + 1)
            · obtain ⟨hi1, hi2⟩ := mem.mp him
              obtain ⟨a, r', v1, v2, v3, v4⟩ := gv i hi1
              rw [half_at, if_neg (by omega)] at v3
              rw [if_pos him, if_neg (by omega), v3, v2]
              exact ⟨fun r'' z => by cases z; exact ⟨a, rfl, trivial, s69 _ _ v4⟩, fun z => absurd rfl (z r')⟩
            · rw [if_neg him]
              refine ⟨fun r'' z => ?_, fun _ => rfl⟩
              by_cases h1 : i < p + 1
              · rw [if_pos h1] at z; cases z
              · rw [if_neg h1] at z
                have hit : i < t.length := by
                  have := (List.getElem?_eq_some_iff.mp z).1
                  rw [tidyT_len] at this; exact this
                obtain ⟨o, eo⟩ : ∃ o, t[i]? = some o := ⟨_, List.getElem?_eq_getElem hit⟩
                cases o with
                | none => rw [(tidyT_at t i).2 eo] at z; cases z
                | some r3 => exact absurd (mem.mpr ⟨(mp i).mpr ⟨r3, eo⟩, by omega⟩) him
          -- the row
          obtain ⟨a, r', v1, v2, v3, v4⟩ := gv p (List.mem_of_getElem? ep)
          rw [half_at, if_pos (Nat.lt_succ_self p), er] at v3
          obtain rfl : r = r' := Option.some.inj (Option.some.inj v3)
          have epl : atI (ps.map vi) ((sI : Nat) : Int) = some (vi p) := atI_nat (by rw [List.getElem?_map, ep]; rfl)
          have lr : r.length = n := et.wid r (List.mem_of_getElem? er)
          have elw : EchT n 0 (low (p + 1) (tidyT t)) := low_tab (tidyT_tab et) (by rw [tidyT_len]; omega)
          refine ⟨_, rfl, _, rfl, _, rfl, _, rfl, pl, _, _, _, rfl, rfl, SqL.of (s69 _ _ hpl6), epl, d, .ref a, rfl, by rw [← v1]; exact DGet.k (k := nk p) (s69 _ _ hd6), (fun _ => True), e, a, 60, low (p + 1) (tidyT t), r, rfl, tbe, .inr (s69 _ _ v4), by rw [elow]; exact lr, fun s hs => (elw.wid s hs).trans lr.symm, by omega, okb p r er, fun H10 l' s10 hl' ll => ?_⟩
          rw [leftL_red elw, low_rows] at hl' ll
          have s610 := s69.trans s10
          have hd10 := s610 _ _ hd6
          have lenk : kvs.length < sizeLine := Nat.lt_of_le_of_lt (Nat.le_trans hk6 (show L + j ≤ 100000 by omega)) (by decide)
          refine ⟨_, rfl, _, rfl, _, rfl, _, rfl, pl, _, _, _, rfl, rfl, SqL.of (s610 _ _ hpl6), epl, d, _, rfl, DPut.k (k := nk p) hd10 lenk, ?_⟩
          have tbn := Tb.put (p := p) (r := redV (rowsOf ((tidyT t).drop (p + 1))) r) (F := fun _ => True) (t := half (p + 1) t) hd10 hk6 (fun i => ⟨fun r2 z => by
            obtain ⟨a2, z1, z2, z3⟩ := (hv6 i).1 r2 z
            exact ⟨a2, z1, z2, s610 _ _ z3⟩, (hv6 i).2⟩) hkp6 trivial hl' (by rw [half_len]; omega)
          rw [half_set er] at tbn
          have nld : l' ≠ d := ne_of hl' hd10 fun z => nomatch z
          have nfd : f ≠ d := ne_of hf6 hd6 fun z => nomatch z
          have bu11 : But d H6 (upd H10 d (.dK (putK kvs (nk p) (.ref l')))) := fun y o ny z => by rw [upd_ne ny]; exact s610 _ _ z
          have hl11 : upd H10 d (.dK (putK kvs (nk p) (.ref l'))) l' = _ := (upd_ne nld).trans hl'
          have hf11 := bu11 _ _ nfd hf6
          have hos11 : Rows (upd H10 d (.dK (putK kvs (nk p) (.ref l')))) n os (rowsOf ((tidyT t).drop (p + 1))) := ⟨Paired.mapP hos.1 fun x v z => by
            obtain ⟨a3, e3, q3⟩ := z
            exact ⟨a3, e3, bu11 _ _ (ne_of q3 hd6 fun w => nomatch w) q3⟩, hos.2⟩
          have tbn' : Tb (fun _ => True) (upd H10 d (.dK (putK kvs (nk p) (.ref l')))) d (L + j + 1) (half p t) := tbn
          generalize upd H10 d (HO.dK (putK kvs (nk p) (V.ref l'))) = H11 at *
          refine ⟨_, rfl, l', _, rfl, .inl ⟨SqL.of hl11, fun u1 hu1 => ?_⟩⟩
          obtain ⟨t1, hu1'⟩ := new_at (o := .tup ((redV (rowsOf ((tidyT t).drop (p + 1))) r).map V.int)) hu1
          refine ⟨(by decide : 1 ≤ sizeLine), fun u2 hu2 => ?_⟩
          obtain ⟨t2, hu2'⟩ := new_at (o := .lst [V.ref u1]) hu2
          refine ⟨_, rfl, u2, f, _, _, rfl, rfl, hu2', t2 _ _ (t1 _ _ hf11), ?_, fun u3 hu3 => ?_⟩
          · exact Nat.le_trans (show 1 + os.length ≤ 100 by omega) (by decide)
          obtain ⟨t3, hu3'⟩ := new_at (o := .lst ([V.ref u1] ++ os)) hu3
          have t13 := (t1.trans t2).trans t3
          refine ⟨p, u3, [V.ref u1] ++ os, _, _, _, _, rfl, fun y o ny z => t13 _ _ (bu11 _ _ ny (bu6 _ _ ny z)), (tbn'.keep t13).more (by omega), by omega, fun s' p' e' => ?_, hu3', ?_, by rw [List.length_append]; show 1 + os.length ≤ j + 1; omega⟩
          · have := sorted_lt sp e' ep
            have := (List.getElem?_eq_some_iff.mp e').1
            omega
          · have e1 := (tidyT_at t p).1 r er
            rw [rows_drop_cons e1]
            have h1 := hos11.keep t13
            refine ⟨.cons ⟨u1, rfl, (t2.trans t3) _ _ hu1'⟩ h1.1, fun v hv => ?_⟩
            rcases List.mem_cons.mp hv with z | z
            · rw [z, ll]; exact lr
            · exact h1.2 v z
      · rintro σ H6 ⟨q, f, os, x4, x5, x6, x7, rfl, bu6, tb6, hq, hsq, hf6, hos, los⟩
        refine ⟨_, rfl, f, _, rfl, .inl ⟨SqL.of hf6, fun z hz => ?_⟩⟩
        obtain ⟨sz, hz1⟩ := new_at (o := .tup os) hz
        have e0 : rowsOf ((tidyT t).drop q) = tidy (rowsOf t) := by
          rw [← rows_tidyT et]
          have := rows_drop_same (t := tidyT t) (q := 0) (q' := q) (Nat.zero_le _) fun i hi _ h2 => by
            rw [tidyT_len] at hi
            obtain ⟨o, eo⟩ : ∃ o, t[i]? = some o := ⟨_, List.getElem?_eq_getElem hi⟩
            cases o with
            | none => exact (tidyT_at t i).2 eo
            | some r' =>
              obtain ⟨s', hs', es'⟩ := List.mem_iff_getElem.mp ((mp i).mpr ⟨r', eo⟩)
              have e' : ps[s']? = some i := by rw [List.getElem?_eq_getElem hs', es']
              have := (hsq s' i e').mpr h2
              omega
          rw [List.drop_zero] at this
          exact this.symm
        rw [e0] at hos
        have nl : l ≠ d := ne_of (s02 _ _ hl) hd2 fun w => nomatch w
        refine k _ z os (fun y o w => ?_) hz1 (hos.keep sz)
        by_cases hyd : y = d
        · rw [hyd, hdN] at w; cases w
        · exact sz _ _ (bu6 _ _ hyd (s05 _ _ w))
end
end K06

namespace K06
open PySem L2 RZ Lat PySem.Spec PyProof.Rows
section
variable {X : Cx}
/-- a tuple and a new one that is not empty, put together -/
def rCatF (K : PySem.W.Frag) : R2 := fun x y H Q => ∃ a b xs ys, x = .ref a ∧ y = .ref b ∧ SqT K H a xs ∧ H b = some (.tup ys) ∧ ys ≠ [] ∧ xs.length + ys.length ≤ sizeLine ∧ ∀ (H' : Hp) (p : Addr), Same H H' → H' p = some (.tup (xs ++ ys)) → Q (.ref p) H'
theorem op_catF {X : Cx} : OpR X (binaryOp .Add) (rCatF X.K) := fun pins s σ H x y v u Q I rx ry h => op_catA pins s σ H x y v u Q I rx ry (by
  obtain ⟨a, b, xs, ys, rfl, rfl, ha, hb, hy, hz, k⟩ := h
  refine ⟨a, b, xs, ys, rfl, rfl, ha, SqT.of hb, hz, fun e => k H b (Same.refl H) (by rw [e]; exact hb), fun _ e => absurd e hy, fun _ _ p hp => ?_⟩
  obtain ⟨s1, h1⟩ := new_at (o := .tup (xs ++ ys)) hp
  exact k _ p s1 h1)
theorem op_catFK {X : Cx} {K : PySem.W.Frag} (e : X.K = K) : OpR X (binaryOp .Add) (rCatF K) := by
  subst e; exact op_catF
/-- a new tuple, so many times -/
def rRepTF (K : PySem.W.Frag) : R2 := fun x y H Q => ∃ (l : Addr) (n : Nat) (xs : List V), x = .ref l ∧ y = .int ((n : Nat) : Int) ∧ H l = some (.tup xs) ∧ xs ≠ [] ∧ 1 ≤ n ∧ n ≤ 1000 ∧ xs.length ≤ 1000 ∧ ∀ (H' : Hp) (p : Addr), Same H H' → H' p = some (.tup (List.replicate n xs).flatten) → Q (.ref p) H'
theorem op_repTF {X : Cx} : OpR X (binaryOp .Mult) (rRepTF X.K) := fun pins s σ H x y v u Q I rx ry h => op_repTA pins s σ H x y v u Q I rx ry (by
  obtain ⟨l, n, xs, rfl, rfl, hl, ne, n1, n2, hz, k⟩ := h
  refine ⟨l, ((n : Nat) : Int), xs, rfl, rfl, SqT.of hl, ne, by omega, by omega, hz, fun e => ?_, fun _ p hp => ?_⟩
  · have : n = 1 := by omega
    subst this
    exact k H l (Same.refl H) (by simpa using hl)
  · rw [Int.toNat_natCast]
    obtain ⟨s1, h1⟩ := new_at (o := .tup (List.replicate n xs).flatten) hp
    exact k _ p s1 h1)
/-- what stands from a place on -/
def rCutF (K : PySem.W.Frag) : V → Option Int → Option Int → Hp → VK → Prop := fun x lo hi H Q => ∃ (a : Addr) (xs : List V) (k : Nat), x = .ref a ∧ lo = some ((k : Nat) : Int) ∧ hi = none ∧ H a = some (.tup xs) ∧ k ≤ xs.length ∧ ∀ (H' : Hp) (p : Addr), Same H H' → H' p = some (.tup (xs.drop k)) → Q (.ref p) H'
theorem sl_tupF : SlR X (rCutF X.K) := fun pins s σ H x v vl vu lo hi sl Q I rx hs pl pu h => sl_tupA pins s σ H x v vl vu lo hi sl Q I rx hs pl pu (by
  obtain ⟨a, xs, k, rfl, rfl, rfl, ha, hk, q⟩ := h
  refine ⟨a, xs, rfl, SqT.of ha, fun e => ?_, fun _ p hp => ?_⟩
  · have e1 := e.1
    rw [HT.sIx_nat] at e1
    have : k = 0 ∨ xs = [] := by
      rcases Nat.eq_zero_or_pos k with z | z
      · exact .inl z
      · have : xs.length = 0 := by omega
        exact .inr (List.eq_nil_of_length_eq_zero this)
    refine q H a (Same.refl H) ?_
    rcases this with z | z
    · rw [z]; exact ha
    · rw [z] at ha ⊢; simpa using ha
  · rw [cutV_from xs k hk]
    obtain ⟨s1, h1⟩ := new_at (o := .tup (xs.drop k)) hp
    exact q _ p s1 h1)
theorem sl_tupFK {K : PySem.W.Frag} (e : X.K = K) : SlR X (rCutF K) := by
  subst e; exact sl_tupF
theorem ix_tupK {K : PySem.W.Frag} (e : X.K = K) : IxR X (rIxT K) := by
  subst e; exact ix_tup
theorem ix_listK {K : PySem.W.Frag} (e : X.K = K) : IxR X (rIxL K) := by
  subst e; exact ix_list
theorem pi_enumTK {K : PySem.W.Frag} (e : X.K = K) {ex : Expr} {ta : TA} {p pos tpos : Pos} {elts : List Expr} {kk : Nat} (hg : Gl X "enumerate") (hm : X.mg "enumerate" = none) (ha : PA X [ex] ta)
    (hs : starEach [ex] X.env = [(false, eval ex X.env)] := by rfl) : PI X (.Tuple elts kk tpos) (.Call (.Name "enumerate" p) [ex] [] pos) (iEnumT K ta) := by
  subst e; exact pi_enumT hg hm ha hs
theorem call_lenK {K : PySem.W.Frag} (e : X.K = K) : CallR X (.builtin "len") (fun xs H Q => ∃ x n, xs = [x] ∧ LenV K x H n ∧ Q (.int n) H) := by
  subst e; exact call_len
theorem pi_seqK {K : PySem.W.Frag} (e : X.K = K) {tg l : Expr} {tl : TE} (h : PE X l tl) : PI X tg l (iSeq K tl) := by
  subst e; exact pi_seq h
end
theorem iteSf {b : Bool} {A B : Prop} (h : b = false) (k : B) : if b = true then A else B := by rw [h, if_neg (by decide)]; exact k
theorem iteSe {b : Bool} {A B : Prop} (h : b = true) (k : A) : if b = true then A else B := by rw [if_pos h]; exact k
theorem iteNS {c : Prop} {_ : Decidable c} {A B : Prop} (h : c) (k : B) : if (!decide c) = true then A else B := by rw [decide_eq_true h, if_neg (by decide)]; exact k
theorem Rows.wid {H : Hp} {n : Nat} {as : List V} {vs : List Vec} (h : Rows H n as vs) {i : Nat} {v : Vec} (e : vs[i]? = some v) : v.length = n := h.2 v (List.mem_of_getElem? e)
theorem ints_drop (u : Vec) (k : Nat) : (u.map V.int).drop k = (u.drop k).map V.int := by rw [List.map_drop]
theorem Rows.append {H : Hp} {n : Nat} : ∀ {as bs : List V} {vs us : List Vec}, Rows H n as vs → Rows H n bs us → Rows H n (as ++ bs) (vs ++ us) := by
  intro as bs vs us h k
  obtain ⟨h1, h2⟩ := h
  induction h1 with
  | nil => exact k
  | cons r q ih =>
    have ih' := ih fun v hv => h2 v (List.mem_cons_of_mem _ hv)
    exact ⟨.cons r ih'.1, fun v hv => (List.mem_cons.mp hv).elim (fun e => by rw [e]; exact h2 _ List.mem_cons_self) (ih'.2 v)⟩
end K06

namespace Lat
/-! ## short relations: more numbers to choose than places to be zero -/
theorem nodup_bound : ∀ (n : Nat) (l : List Nat), l.Nodup → (∀ p ∈ l, p < n) → l.length ≤ n
  | 0, [], _, _ => Nat.le_refl _
  | 0, p :: l, _, h => absurd (h p List.mem_cons_self) (Nat.not_lt_zero _)
  | n + 1, l, hn, h => by
    by_cases q : n ∈ l
    · have e := List.length_erase_of_mem q
      have ih := nodup_bound n (l.erase n) (hn.erase n) fun p hp => by
        have h1 := h p (List.mem_of_mem_erase hp)
        have h2 : p ≠ n := fun z => by
          rw [z] at hp
          exact (List.Nodup.mem_erase_iff hn).mp hp |>.1 rfl
        omega
      omega
    · have ih := nodup_bound n l hn fun p hp => by
        have h1 := h p hp
        have h2 : p ≠ n := fun z => q (z ▸ hp)
        omega
      omega
theorem pigeon {N R : Nat} (f : Nat → Nat) (h : ∀ t, t < N → f t < R) (hN : R < N) : ∃ t u, t < N ∧ u < N ∧ t ≠ u ∧ f t = f u := by
  refine Classical.byContradiction fun q => ?_
  have inj : ∀ t u, t < N → u < N → f t = f u → t = u := fun t u ht hu e => Classical.byContradiction fun n => q ⟨t, u, ht, hu, n, e⟩
  have nd : ((List.range N).map f).Nodup := by
    rw [List.Nodup, List.pairwise_map]
    refine List.Pairwise.imp_of_mem (R := fun a b => a ≠ b) (fun {a b} ha hb hab e => hab (inj a b (List.mem_range.mp ha) (List.mem_range.mp hb) e)) List.nodup_range
  have := nodup_bound R _ nd fun p hp => by
    obtain ⟨t, ht, rfl⟩ := List.mem_map.mp hp
    exact h t (List.mem_range.mp ht)
  rw [List.length_map, List.length_range] at this
  omega
/-- numbers below W as one number -/
def code (W : Nat) : List Nat → Nat
  | [] => 0
  | x :: l => x + W * code W l
theorem code_lt {W : Nat} : ∀ {l : List Nat}, (∀ x ∈ l, x < W) → code W l < W ^ l.length
  | [], _ => by show 0 < W ^ 0; rw [Nat.pow_zero]; exact Nat.one_pos
  | x :: l, h => by
    obtain ⟨h1, h2⟩ := List.forall_mem_cons.mp h
    have ih := code_lt h2
    show x + W * code W l < W ^ (l.length + 1)
    have := Nat.mul_le_mul_left W (show code W l + 1 ≤ W ^ l.length from ih)
    rw [Nat.mul_add, Nat.mul_one] at this
    rw [Nat.pow_succ, Nat.mul_comm _ W]
    omega
theorem code_inj {W : Nat} : ∀ {l m : List Nat}, l.length = m.length → (∀ x ∈ l, x < W) → (∀ x ∈ m, x < W) → code W l = code W m → l = m
  | [], [], _, _, _, _ => rfl
  | [], _ :: _, h, _, _, _ => nomatch h
  | _ :: _, [], h, _, _, _ => nomatch h
  | x :: l, y :: m, h, hl, hm, e => by
    obtain ⟨a1, a2⟩ := List.forall_mem_cons.mp hl
    obtain ⟨b1, b2⟩ := List.forall_mem_cons.mp hm
    have e' : x + W * code W l = y + W * code W m := e
    have m1 : (x + W * code W l) % W = x := by rw [Nat.add_mul_mod_self_left, Nat.mod_eq_of_lt a1]
    have m2 : (y + W * code W m) % W = y := by rw [Nat.add_mul_mod_self_left, Nat.mod_eq_of_lt b1]
    have exy : x = y := by rw [← m1, ← m2, e']
    have e2 : W * code W l = W * code W m := by omega
    have e3 := Nat.eq_of_mul_eq_mul_left (show 0 < W by omega) e2
    rw [exy, code_inj (Nat.succ.inj h) a2 b2 e3]
def digs (W : Nat) : Nat → Nat → List Nat
  | 0, _ => []
  | m + 1, t => (t % W) :: digs W m (t / W)
theorem digs_len {W : Nat} : ∀ (m t : Nat), (digs W m t).length = m
  | 0, _ => rfl
  | m + 1, t => congrArg (· + 1) (digs_len m (t / W))
theorem digs_lt {W : Nat} (w : 0 < W) : ∀ (m t : Nat), ∀ x ∈ digs W m t, x < W
  | 0, _ => fun x h => nomatch h
  | m + 1, t => fun x h => (List.mem_cons.mp h).elim (fun e => e ▸ Nat.mod_lt _ w) (digs_lt w m (t / W) x)
theorem code_digs {W : Nat} (w : 0 < W) : ∀ (m t : Nat), t < W ^ m → code W (digs W m t) = t
  | 0, t, h => by rw [Nat.pow_zero] at h; show 0 = t; omega
  | m + 1, t, h => by
    have : t / W < W ^ m := Nat.div_lt_of_lt_mul (by rw [Nat.mul_comm, ← Nat.pow_succ]; exact h)
    show t % W + W * code W (digs W m (t / W)) = t
    rw [code_digs w m _ this]
    exact Nat.mod_add_div t W
/-- a sum of multiples -/
def comb : List Int → List (Nat → Int) → Nat → Int
  | a :: as, f :: fs, i => a * f i + comb as fs i
  | _, _, _ => 0
theorem comb_sub : ∀ (as bs : List Int) (fs : List (Nat → Int)) (i : Nat), as.length = fs.length → bs.length = fs.length → comb (List.zipWith (fun x y => x - y) as bs) fs i = comb as fs i - comb bs fs i
  | [], [], [], _, _, _ => rfl
  | a :: as, b :: bs, f :: fs, i, h1, h2 => by
    have ih := comb_sub as bs fs i (Nat.succ.inj h1) (Nat.succ.inj h2)
    show (a - b) * f i + comb (List.zipWith (fun x y => x - y) as bs) fs i = (a * f i + comb as fs i) - (b * f i + comb bs fs i)
    rw [ih, Int.sub_mul]; omega
  | [], _ :: _, [], _, _, h => nomatch h
  | _ :: _, _, [], _, h, _ => nomatch h
  | [], _, _ :: _, _, h, _ => nomatch h
  | _ :: _, [], _ :: _, _, _, h => nomatch h
theorem comb_bound {A M : Nat} : ∀ (as : List Int) (fs : List (Nat → Int)) (i : Nat), (∀ a ∈ as, a.natAbs ≤ A) → (∀ f ∈ fs, (f i).natAbs ≤ M) → (comb as fs i).natAbs ≤ fs.length * (A * M)
  | [], fs, i, _, _ => by unfold comb; exact Nat.zero_le _
  | _ :: _, [], i, _, _ => Nat.zero_le _
  | a :: as, f :: fs, i, h1, h2 => by
    obtain ⟨a1, a2⟩ := List.forall_mem_cons.mp h1
    obtain ⟨f1, f2⟩ := List.forall_mem_cons.mp h2
    have ih := comb_bound as fs i a2 f2
    show (a * f i + comb as fs i).natAbs ≤ (fs.length + 1) * (A * M)
    have := Int.natAbs_add_le (a * f i) (comb as fs i)
    have q : (a * f i).natAbs ≤ A * M := by rw [Int.natAbs_mul]; exact Nat.mul_le_mul a1 f1
    rw [Nat.add_mul, Nat.one_mul]
    omega
theorem pow_mul_lt {A K q m : Nat} (hq : q < m) (hA : K ^ q ≤ A + 1) (k1 : 1 ≤ K) : (K * (A + 1)) ^ q ≤ (A + 1) ^ m := by
  rw [Nat.mul_pow]
  have h1 : K ^ q * (A + 1) ^ q ≤ (A + 1) * (A + 1) ^ q := Nat.mul_le_mul_right _ hA
  have h2 : (A + 1) * (A + 1) ^ q = (A + 1) ^ (q + 1) := by rw [Nat.pow_succ, Nat.mul_comm]
  rw [h2] at h1
  exact Nat.le_trans h1 (Nat.pow_le_pow_right (Nat.succ_pos _) hq)
/-- fewer places than vectors: some sum that is not idle is zero there, and its numbers are small -/
theorem siegel {M A : Nat} (fs : List (Nat → Int)) (cs : List Nat) (hc : cs.length < fs.length) (hM : ∀ f ∈ fs, ∀ c ∈ cs, (f c).natAbs ≤ M) (hA : (2 * fs.length * M + 2) ^ cs.length ≤ A + 1) (A1 : 1 ≤ A) :
    ∃ a : List Int, a.length = fs.length ∧ (∃ x ∈ a, x ≠ 0) ∧ (∀ x ∈ a, x.natAbs ≤ A) ∧ ∀ c ∈ cs, comb a fs c = 0 := by
  have w : 0 < A + 1 := Nat.succ_pos _
  -- digits as integers
  let d : Nat → List Int := fun t => (digs (A + 1) fs.length t).map Int.ofNat
  have dl : ∀ t, (d t).length = fs.length := fun t => by rw [List.length_map, digs_len]
  have dA : ∀ t, ∀ x ∈ d t, x.natAbs ≤ A := fun t x hx => by
    obtain ⟨y, hy, rfl⟩ := List.mem_map.mp hx
    have := digs_lt w _ _ y hy
    show (Int.ofNat y).natAbs ≤ A
    rw [Int.natAbs_ofNat']; omega
  let S := fs.length * (A * M)
  have cb : ∀ t, ∀ c ∈ cs, (comb (d t) fs c).natAbs ≤ S := fun t c hc => comb_bound (d t) fs c (dA t) fun f hf => hM f hf c hc
  let im : Nat → List Nat := fun t => cs.map fun c => (comb (d t) fs c + (S : Int)).toNat
  have iml : ∀ t, (im t).length = cs.length := fun t => List.length_map _
  have imlt : ∀ t, ∀ x ∈ im t, x < 2 * S + 1 := fun t x hx => by
    obtain ⟨c, hc, rfl⟩ := List.mem_map.mp hx
    have := cb t c hc
    omega
  have hR : (2 * S + 1) ^ cs.length < (A + 1) ^ fs.length ∨ cs.length = 0 := by
    rcases Nat.eq_zero_or_pos cs.length with z | z
    · exact .inr z
    · refine .inl (Nat.lt_of_lt_of_le (m := ((2 * fs.length * M + 2) * (A + 1)) ^ cs.length) (Nat.pow_lt_pow_left ?_ (by omega)) (pow_mul_lt hc hA (by omega)))
      have e : (2 * fs.length * M + 2) * (A + 1) = 2 * S + 2 * fs.length * M + 2 * A + 2 := by
        show _ = 2 * (fs.length * (A * M)) + 2 * fs.length * M + 2 * A + 2
        grind
      rw [e]; omega
  by_cases z : cs.length = 0
  · have : cs = [] := List.eq_nil_of_length_eq_zero z
    subst this
    refine ⟨(List.replicate fs.length 1), List.length_replicate, ⟨1, ?_, by decide⟩, fun x hx => ?_, fun c hc => nomatch hc⟩
    · exact List.mem_replicate.mpr ⟨by simp at hc; omega, rfl⟩
    · rw [(List.mem_replicate.mp hx).2]
      exact A1
  · have hR' := hR.resolve_right z
    obtain ⟨t, u, ht, hu, ntu, e⟩ := pigeon (N := (A + 1) ^ fs.length) (R := (2 * S + 1) ^ cs.length) (fun t => code (2 * S + 1) (im t)) (fun t _ => by
      have := code_lt (imlt t)
      rw [iml] at this
      exact this) hR'
    have eim := code_inj ((iml t).trans (iml u).symm) (imlt t) (imlt u) e
    refine ⟨List.zipWith (fun x y => x - y) (d t) (d u), by rw [List.length_zipWith, dl, dl, Nat.min_self], ?_, ?_, ?_⟩
    · refine Classical.byContradiction fun q => ntu ?_
      have q' : ∀ x ∈ List.zipWith (fun x y => x - y) (d t) (d u), x = 0 := fun x hx => Classical.byContradiction fun n => q ⟨x, hx, n⟩
      have edd : digs (A + 1) fs.length t = digs (A + 1) fs.length u := by
        refine List.ext_getElem ((digs_len _ _).trans (digs_len _ _).symm) fun i h1 h2 => ?_
        have h1' : i < (d t).length := by rw [List.length_map]; exact h1
        have h2' : i < (d u).length := by rw [List.length_map]; exact h2
        have h3 : i < (List.zipWith (fun x y => x - y) (d t) (d u)).length := by rw [List.length_zipWith]; omega
        have := q' _ (List.getElem_mem h3)
        rw [List.getElem_zipWith, List.getElem_map, List.getElem_map] at this
        have h4 : Int.ofNat (digs (A + 1) fs.length t)[i] - Int.ofNat (digs (A + 1) fs.length u)[i] = 0 := this
        have h5 : ((digs (A + 1) fs.length t)[i] : Int) = ((digs (A + 1) fs.length u)[i] : Int) := by
          show Int.ofNat _ = Int.ofNat _
          omega
        exact Int.ofNat.inj h5
      rw [← code_digs w _ t ht, ← code_digs w _ u hu, edd]
    · intro x hx
      obtain ⟨i, hi, ei⟩ := List.mem_iff_getElem.mp hx
      rw [List.getElem_zipWith, List.getElem_map, List.getElem_map] at ei
      have g1 := digs_lt w fs.length t _ (List.getElem_mem (l := digs (A + 1) fs.length t) (n := i) (by rw [List.length_zipWith, List.length_map, List.length_map] at hi; omega))
      have g2 := digs_lt w fs.length u _ (List.getElem_mem (l := digs (A + 1) fs.length u) (n := i) (by rw [List.length_zipWith, List.length_map, List.length_map] at hi; omega))
      rw [← ei]
      show ((_ : Nat) - (_ : Nat) : Int).natAbs ≤ A
      omega
    · intro c hc
      rw [comb_sub _ _ _ _ (dl t) (dl u)]
      have e1 : (comb (d t) fs c + (S : Int)).toNat = (comb (d u) fs c + (S : Int)).toNat := by
        obtain ⟨i, hi, ei⟩ := List.mem_iff_getElem.mp hc
        have h1 : i < (im t).length := by rw [iml]; exact hi
        have h2 : i < (im u).length := by rw [iml]; exact hi
        have : (im t)[i] = (im u)[i] := by simp only [eim]
        rw [List.getElem_map, List.getElem_map, ei] at this
        exact this
      have b1 := cb t c hc
      have b2 := cb u c hc
      omega
end Lat

namespace Lat
theorem In.comb : ∀ {cs : List Vec} {a : List Int}, a.length = cs.length → In cs (Lat.comb a (cs.map itm))
  | [], [], _ => fun i => rfl
  | [], _ :: _, h => nomatch h
  | _ :: _, [], h => nomatch h
  | c :: cs, x :: a, h => ⟨x, (In.cl cs).of (t := 0) (In.comb (Nat.succ.inj h)) (In.cl cs).zero fun i => by
      show x * itm c i + Lat.comb a (cs.map itm) i - x * itm c i = Lat.comb a (cs.map itm) i + 0 * 0
      omega⟩
/-- no row hangs on those behind it -/
def Ind : List Vec → Prop
  | [] => True
  | r :: rs => ¬ RIn rs (itm r) ∧ Ind rs
theorem Ind.zero : ∀ {cs : List Vec} {a : List Int}, Ind cs → a.length = cs.length → (∀ i, Lat.comb a (cs.map itm) i = 0) → ∀ x ∈ a, x = 0
  | [], [], _, _, _ => fun x h => nomatch h
  | [], _ :: _, _, h, _ => nomatch h
  | _ :: _, [], _, h, _ => nomatch h
  | c :: cs, x :: a, h, l, z => by
    have z' : ∀ i, x * itm c i + Lat.comb a (cs.map itm) i = 0 := z
    have e : x = 0 := Classical.byContradiction fun n => h.1 ⟨x, n, (In.cl cs).of (t := -1) (In.cl cs).zero (In.comb (Nat.succ.inj l)) fun i => by have := z' i; omega⟩
    intro y hy
    rcases List.mem_cons.mp hy with q | hy
    · rw [q, e]
    · exact Ind.zero h.2 (Nat.succ.inj l) (fun i => by have := z' i; rw [e] at this; omega) y hy
theorem RIn.more {c : Vec} {cs : List Vec} {f : Nat → Int} (h : RIn cs f) : RIn (c :: cs) f := by
  obtain ⟨D, hD, h⟩ := h
  exact ⟨D, hD, 0, (In.cl cs).of (t := 0) h (In.cl cs).zero fun i => by
    show D * f i - 0 * itm c i = D * f i + 0 * 0
    omega⟩
theorem RIn.trans {G cs : List Vec} {f : Nat → Int} (h : ∀ c ∈ cs, RIn G (itm c)) (hf : RIn cs f) : RIn G f := by
  obtain ⟨D, hD, q⟩ := hf
  obtain ⟨E, hE, q⟩ := In.sub (RIn.cl G) h q
  exact ⟨E * D, Int.mul_ne_zero hE hD, (In.cl G).of (t := 0) q (In.cl G).zero fun i => by grind⟩
theorem chosen : ∀ rs : List Vec, ∃ cs, Ind cs ∧ (∀ c ∈ cs, c ∈ rs) ∧ cs.length ≤ rs.length ∧ ∀ r ∈ rs, RIn cs (itm r)
  | [] => ⟨[], trivial, fun c h => (nomatch h), Nat.le_refl _, fun r h => (nomatch h)⟩
  | r :: rs => by
    obtain ⟨cs, h1, h2, h3, h4⟩ := chosen rs
    by_cases q : RIn cs (itm r)
    · exact ⟨cs, h1, fun c hc => List.mem_cons_of_mem _ (h2 c hc), Nat.le_succ_of_le h3, List.forall_mem_cons.mpr ⟨q, h4⟩⟩
    · exact ⟨r :: cs, ⟨q, h1⟩, List.forall_mem_cons.mpr ⟨List.mem_cons_self, fun c hc => List.mem_cons_of_mem _ (h2 c hc)⟩, Nat.succ_le_succ h3, List.forall_mem_cons.mpr ⟨.of (In.mem _ _ List.mem_cons_self), fun s hs => (h4 s hs).more⟩⟩
theorem nodup_sub : ∀ {l m : List Nat}, l.Nodup → (∀ x ∈ l, x ∈ m) → l.length ≤ m.length
  | [], _, _, _ => Nat.zero_le _
  | x :: l, m, h, s => by
    obtain ⟨h1, h2⟩ := List.nodup_cons.mp h
    obtain ⟨s1, s2⟩ := List.forall_mem_cons.mp s
    have ih := nodup_sub (m := m.erase x) h2 fun y hy => (List.mem_erase_of_ne (fun z => h1 (by rw [← z]; exact hy))).mpr (s2 y hy)
    have := List.length_erase_of_mem s1
    have := List.length_pos_of_mem s1
    rw [List.length_cons]; omega
theorem Ech.nodup {n : Nat} : ∀ {c : Nat} {B : List Vec}, Ech n c B → (B.map piv).Nodup
  | _, [], _ => List.nodup_nil
  | c, r :: rs, e => by
    rw [List.map_cons, List.nodup_cons]
    refine ⟨fun h => ?_, e.2.2.2.nodup⟩
    obtain ⟨s, hs, q⟩ := List.mem_map.mp h
    have := (e.2.2.2.row s hs).2.1
    omega
theorem ghosts {n : Nat} {B : List Vec} : ∀ cs : List Vec, (∀ c ∈ cs, c.length = n) → (∀ c ∈ cs, In B (itm c)) → ∃ G, Ech n 0 G ∧ G.length ≤ cs.length ∧ (∀ g ∈ G, In B (itm g)) ∧ ∀ c ∈ cs, RIn G (itm c)
  | [], _, _ => ⟨[], trivial, Nat.le_refl _, fun c h => (nomatch h), fun r h => (nomatch h)⟩
  | c :: cs, l, h => by
    obtain ⟨l1, l2⟩ := List.forall_mem_cons.mp l
    obtain ⟨h1, h2⟩ := List.forall_mem_cons.mp h
    obtain ⟨G, eG, g1, g2, g3⟩ := ghosts cs l2 h2
    refine ⟨insG G c, insG_ech eG l1 (Nat.zero_le _) (fun i hi => absurd hi (Nat.not_lt_zero _)), Nat.le_trans insG_count (Nat.succ_le_succ g1), insG_cl (In.cl B) eG l1 g2 h1, List.forall_mem_cons.mpr ⟨insG_new eG l1, fun d hd => ?_⟩⟩
    obtain ⟨D, hD, q⟩ := g3 d hd
    exact ⟨D, hD, In.sub (In.cl _) (fun g hg => insG_old g hg) q⟩
/-- an echelon family has no more rows than what makes its lattice -/
theorem dim {n : Nat} {B cs : List Vec} (eB : Ech n 0 B) (lc : ∀ c ∈ cs, c.length = n) (h1 : ∀ c ∈ cs, In B (itm c)) (h2 : ∀ s ∈ B, RIn cs (itm s)) : B.length ≤ cs.length := by
  obtain ⟨G, eG, g1, g2, g3⟩ := ghosts cs lc h1
  have q := piv_bound eB eG g2 fun s hs => RIn.trans g3 (h2 s hs)
  have := nodup_sub eB.nodup (m := G.map piv) fun x hx => by
    obtain ⟨s, hs, rfl⟩ := List.mem_map.mp hx
    obtain ⟨g, hg, e, _⟩ := q s hs
    exact List.mem_map.mpr ⟨g, hg, e⟩
  rw [List.length_map, List.length_map] at this
  omega
/-- an echelon family of the lattice that some rows of not more than x bits make -/
structure Gen (x n κ : Nat) (gens B : List Vec) : Prop where
  ech : Ech n 0 B
  cl : ∀ S, Cl S → ((∀ r ∈ B, S (itm r)) ↔ ∀ r ∈ gens, S (itm r))
  len : ∀ r ∈ gens, r.length = n
  siz : ∀ r ∈ gens, ∀ i, (itm r i).natAbs ≤ 2 ^ x
  num : gens.length ≤ 15
  cap : n ≤ κ ∨ gens.length ≤ κ
theorem Gen.cs {x n κ : Nat} {gens B : List Vec} (I : Gen x n κ gens B) : ∃ cs, Ind cs ∧ (∀ c ∈ cs, ∀ i, (itm c i).natAbs ≤ 2 ^ x) ∧ (∀ c ∈ cs, In B (itm c)) ∧ cs.length ≤ 15 ∧ (∀ s ∈ B, RIn cs (itm s)) ∧ B.length ≤ cs.length ∧ cs.length ≤ gens.length := by
  obtain ⟨cs, h1, h2, h3, h4⟩ := chosen gens
  have hB : ∀ r ∈ gens, In B (itm r) := (I.cl _ (In.cl B)).mp fun r hr => In.mem _ _ hr
  have hc : ∀ s ∈ B, RIn cs (itm s) := (I.cl _ (RIn.cl cs)).mpr h4
  exact ⟨cs, h1, fun c hc => I.siz c (h2 c hc), fun c hc => hB c (h2 c hc), Nat.le_trans h3 I.num, hc, dim I.ech (fun c hc => I.len c (h2 c hc)) (fun c hc => hB c (h2 c hc)) hc, h3⟩
theorem Gen.count {x n κ : Nat} {gens B : List Vec} (I : Gen x n κ gens B) : B.length ≤ κ := by
  obtain ⟨cs, _, _, _, _, _, h1, h2⟩ := I.cs
  have := I.ech.count (Nat.zero_le _)
  rcases I.cap with q | q <;> omega
theorem mul15 {m x : Nat} (h : m ≤ 15) : m * 2 ^ x ≤ 2 ^ (x + 4) := by
  rw [Nat.pow_add]
  have := Nat.mul_le_mul_right (2 ^ x) h
  omega
theorem Gen.piv {x n κ : Nat} {gens B : List Vec} (I : Gen x n κ gens B) : ∀ s ∈ B, (itm s (Lat.piv s)).natAbs ≤ 2 ^ ((x + 5) * κ) := by
  obtain ⟨cs, ind, siz, inB, m15, rin, km, _⟩ := I.cs
  intro s hs
  have kκ := I.count
  have k1 := List.length_pos_of_mem hs
  have x1 := Nat.one_le_two_pow (n := x)
  have le : ((B.erase s).map Lat.piv).length = B.length - 1 := by rw [List.length_map, List.length_erase_of_mem hs]
  have b0 : 2 * (cs.map itm).length * 2 ^ x + 2 ≤ 2 ^ (x + 5) := by
    rw [List.length_map, Nat.pow_add]
    have := Nat.mul_le_mul_right (2 ^ x) (show 2 * cs.length ≤ 30 by omega)
    omega
  obtain ⟨a, la, ⟨y, hy, ny⟩, sa, za⟩ := siegel (M := 2 ^ x) (A := 2 ^ ((x + 5) * (B.length - 1))) (cs.map itm) ((B.erase s).map Lat.piv) (by rw [le, List.length_map]; omega) (fun f hf c _ => by
    obtain ⟨d, hd, rfl⟩ := List.mem_map.mp hf
    exact siz d hd c) (by
    rw [le, Nat.pow_mul]
    exact Nat.le_trans (Nat.pow_le_pow_left b0 _) (Nat.le_succ _)) Nat.one_le_two_pow
  have la' : a.length = cs.length := by rw [la, List.length_map]
  have hv : In B (Lat.comb a (cs.map itm)) := In.sub (In.cl B) inB (In.comb la')
  rcases lead I.ech hv with z | ⟨t, ht, b, hb, zz, e⟩
  · exact absurd (ind.zero la' z y hy) ny
  · have ts : t = s := Classical.byContradiction fun n => by
      have := za (Lat.piv t) (List.mem_map.mpr ⟨t, (List.mem_erase_of_ne n).mpr ht, rfl⟩)
      rw [e] at this
      exact Int.mul_ne_zero hb (I.ech.ne ht) this
    subst ts
    have h1 : (itm t (Lat.piv t)).natAbs ≤ (Lat.comb a (cs.map itm) (Lat.piv t)).natAbs := by
      rw [e, Int.natAbs_mul]; exact Nat.le_mul_of_pos_left _ (Int.natAbs_pos.mpr hb)
    have h2 := comb_bound (M := 2 ^ x) a (cs.map itm) (Lat.piv t) sa fun f hf => by
      obtain ⟨d, hd, rfl⟩ := List.mem_map.mp hf
      exact siz d hd _
    rw [List.length_map] at h2
    refine Nat.le_trans h1 (Nat.le_trans h2 ?_)
    have e3 : cs.length * (2 ^ ((x + 5) * (B.length - 1)) * 2 ^ x) = cs.length * 2 ^ x * 2 ^ ((x + 5) * (B.length - 1)) := by grind
    rw [e3]
    refine Nat.le_trans (Nat.mul_le_mul_right _ (mul15 m15)) ?_
    rw [← Nat.pow_add]
    refine Nat.pow_le_pow_right (by decide) ?_
    have e4 := Nat.mul_le_mul_left (x + 5) (show B.length - 1 + 1 ≤ κ by omega)
    rw [Nat.mul_add, Nat.mul_one] at e4
    omega
/-- what is small at the pivots is small -/
theorem Gen.bound {x n κ y : Nat} {gens B : List Vec} (I : Gen x n κ gens B) {f : Nat → Int} (hf : RIn B f) (xy : x ≤ y) (hF : ∀ s ∈ B, (f (Lat.piv s)).natAbs ≤ 2 ^ y) : ∀ i, (f i).natAbs ≤ 2 ^ (x + 4 + (y + 6) * κ) := by
  obtain ⟨cs, ind, siz, inB, m15, rin, km, _⟩ := I.cs
  intro i
  have kκ := I.count
  have b0 : 2 * (f :: cs.map itm).length * 2 ^ y + 2 ≤ 2 ^ (y + 6) := by
    rw [List.length_cons, List.length_map, Nat.pow_add]
    have := Nat.mul_le_mul_right (2 ^ y) (show 2 * (cs.length + 1) ≤ 32 by omega)
    have := Nat.one_le_two_pow (n := y)
    omega
  have x2 : 2 ^ x ≤ 2 ^ y := Nat.pow_le_pow_right (by decide) xy
  obtain ⟨a, la, ⟨z, hz, nz⟩, sa, za⟩ := siegel (M := 2 ^ y) (A := 2 ^ ((y + 6) * B.length)) (f :: cs.map itm) (B.map Lat.piv) (by rw [List.length_map, List.length_cons, List.length_map]; omega) (List.forall_mem_cons.mpr ⟨fun c hc => by
    obtain ⟨s, hs, rfl⟩ := List.mem_map.mp hc
    exact hF s hs, fun g hg c _ => by
    obtain ⟨d, hd, rfl⟩ := List.mem_map.mp hg
    exact Nat.le_trans (siz d hd c) x2⟩) (by
    rw [List.length_map, Nat.pow_mul]
    exact Nat.le_trans (Nat.pow_le_pow_left b0 _) (Nat.le_succ _)) Nat.one_le_two_pow
  match a, la with
  | a0 :: as, la =>
    have la' : as.length = cs.length := by have := Nat.succ.inj la; rw [this, List.length_map]
    obtain ⟨sa0, sas⟩ := List.forall_mem_cons.mp sa
    have hin : In B (Lat.comb as (cs.map itm)) := In.sub (In.cl B) inB (In.comb la')
    have hw : RIn B fun i => a0 * f i + Lat.comb as (cs.map itm) i := (RIn.cl B).of (t := 1) ((RIn.cl B).scale a0 hf) (.of hin) fun i => by omega
    obtain ⟨D, hD, hw⟩ := hw
    have zero : ∀ i, a0 * f i + Lat.comb as (cs.map itm) i = 0 := by
      rcases lead I.ech hw with q | ⟨t, ht, b, hb, _, e⟩
      · exact fun i => (Int.mul_eq_zero.mp (q i)).resolve_left hD
      · have := za (Lat.piv t) (List.mem_map.mpr ⟨t, ht, rfl⟩)
        have q : a0 * f (Lat.piv t) + Lat.comb as (cs.map itm) (Lat.piv t) = 0 := this
        have e' : D * (a0 * f (Lat.piv t) + Lat.comb as (cs.map itm) (Lat.piv t)) = b * itm t (Lat.piv t) := e
        rw [q, Int.mul_zero] at e'
        exact absurd e'.symm (Int.mul_ne_zero hb (I.ech.ne ht))
    have n0 : a0 ≠ 0 := fun e => by
      have h0 := ind.zero la' fun i => by have := zero i; rw [e] at this; omega
      rcases List.mem_cons.mp hz with q | q
      · exact nz (q.trans e)
      · exact nz (h0 z q)
    have h1 : (f i).natAbs ≤ (a0 * f i).natAbs := by rw [Int.natAbs_mul]; exact Nat.le_mul_of_pos_left _ (Int.natAbs_pos.mpr n0)
    have h2 : (a0 * f i).natAbs = (Lat.comb as (cs.map itm) i).natAbs := by have := zero i; omega
    have h3 := comb_bound (M := 2 ^ x) as (cs.map itm) i sas fun g hg => by
      obtain ⟨d, hd, rfl⟩ := List.mem_map.mp hg
      exact siz d hd _
    rw [List.length_map] at h3
    rw [h2] at h1
    refine Nat.le_trans h1 (Nat.le_trans h3 ?_)
    have e3 : cs.length * (2 ^ ((y + 6) * B.length) * 2 ^ x) = cs.length * 2 ^ x * 2 ^ ((y + 6) * B.length) := by grind
    rw [e3]
    refine Nat.le_trans (Nat.mul_le_mul_right _ (mul15 m15)) ?_
    rw [← Nat.pow_add]
    have := Nat.mul_le_mul_left (y + 6) kκ
    exact Nat.pow_le_pow_right (by decide) (by omega)
theorem Gen.all {x n κ : Nat} {gens B : List Vec} (I : Gen x n κ gens B) (h : Hn B) (k1 : 1 ≤ κ) : ∀ s ∈ B, ∀ i, (itm s i).natAbs ≤ 2 ^ (x + 4 + ((x + 5) * κ + 6) * κ) := fun s hs =>
  I.bound (.of (In.mem _ _ hs)) (by have := Nat.mul_le_mul_left (x + 5) k1; omega) fun t ht => Nat.le_trans (hn_redd I.ech h t ht s hs) (I.piv t ht)
theorem Gen.tails {x n κ : Nat} {gens B : List Vec} (I : Gen x n κ gens B) (k1 : 1 ≤ κ) {C : List Vec} (hC : C <:+ B) : ∀ s ∈ tidy C, ∀ i, (itm s i).natAbs ≤ 2 ^ (x + 4 + ((x + 5) * κ + 6) * κ) := by
  obtain ⟨D, e⟩ := hC
  have eB := I.ech
  rw [← e] at eB
  obtain ⟨c', eC, hD⟩ := eB.split
  have et := tidy_ech eC
  intro s hs
  refine I.bound (.of ((tidy_cl (In.cl B) C n fun r hr => (eC.row r hr).1).mpr (fun r hr => In.mem _ _ (by rw [← e]; exact List.mem_append_right _ hr)) s hs)) (by have := Nat.mul_le_mul_left (x + 5) k1; omega) fun t ht => ?_
  have pt := I.piv t ht
  rw [← e] at ht
  rcases List.mem_append.mp ht with ht | ht
  · rw [et.zero hs (hD t ht)]; exact Nat.zero_le _
  · obtain ⟨t', ht', a, b⟩ := tidy_back eC t ht
    have := tidy_redd eC t' ht' s hs
    rw [b, a] at this
    exact Nat.le_trans this pt
end Lat

namespace K06
open PySem L2 RZ Lat
def E1 (x κ : Nat) : Nat := x + 4 + ((x + 5) * κ + 6) * κ
def E2 (x κ : Nat) : Nat := x + 5 + ((x + 5) * κ + 7) * κ
def Fit (x κ : Nat) : Prop := 1 ≤ κ ∧ κ ≤ 15 ∧ (x + 5) * κ < 9000 ∧ 2 * dbl κ (E2 x κ) + κ * (E1 x κ + 1) + E1 x κ + x + 6 ≤ 134217728
instance (x κ : Nat) : Decidable (Fit x κ) := by unfold Fit; infer_instance
theorem tidy_sizeY {n π τ E κ : Nat} (hπ : π < 9000) (hτ : τ + κ * (E + 1) + E + 6 ≤ 134217728) : ∀ {c : Nat} {B : List Vec}, Ech n c B → B.length ≤ κ → (∀ s ∈ B, (itm s (piv s)).natAbs ≤ 2 ^ π) → (∀ s ∈ B, ∀ i, (itm s i).natAbs ≤ 2 ^ τ) → (∀ C, C <:+ B → ∀ s ∈ tidy C, ∀ i, (itm s i).natAbs ≤ 2 ^ E) → OkTidy B
  | c, [], _, _, _, _, _ => trivial
  | c, r :: rs, e, h6, hp, hB, hE => by
    obtain ⟨hp1, hp2⟩ := List.forall_mem_cons.mp hp
    obtain ⟨hB1, hB2⟩ := List.forall_mem_cons.mp hB
    rw [List.length_cons] at h6
    have ih := tidy_sizeY hπ hτ e.2.2.2 (by omega) hp2 hB2 fun C hC => hE C (hC.trans (List.suffix_cons r rs))
    have h' := tidy_ech e.2.2.2
    have lp : (posV r).length = n := (posV_length r).trans e.1
    have cnt : (tidy rs).length = rs.length := tidy_count
    have := Nat.mul_le_mul_right (E + 1) (show rs.length ≤ κ by omega)
    have rz := redV_size hπ (v := posV r) (ξ := τ) h' lp (fun s hs => by
      obtain ⟨t, ht, q⟩ := tidy_pivs e.2.2.2 s hs
      rw [q]; exact hp2 t ht) (hE rs (List.suffix_cons r rs)) (fun i => by rw [posV_abs]; exact hB1 i) (by rw [cnt]; omega)
    refine ⟨ih, ⟨e.1 ▸ e.2.2.1, fun m hm => ?_⟩, rz.1⟩
    obtain ⟨i, rfl⟩ := mem_itm hm
    exact mul_ok (α := 1) (β := τ) (by decide) (hB1 i) (by omega)
theorem pow_add1 {a b : Nat} : 2 ^ a + 2 ^ b ≤ 2 ^ (max a b + 1) := by
  have h1 : 2 ^ a ≤ 2 ^ max a b := Nat.pow_le_pow_right (by decide) (Nat.le_max_left _ _)
  have h2 : 2 ^ b ≤ 2 ^ max a b := Nat.pow_le_pow_right (by decide) (Nat.le_max_right _ _)
  rw [Nat.pow_succ]; omega
/-- what a vector leaves over is small -/
theorem red_short {x n κ : Nat} {gens B : List Vec} {v : Vec} (k1 : 1 ≤ κ) (I : Gen x n κ gens B) (l : v.length = n) {y : Nat} (yx : x ≤ y) (yP : (x + 5) * κ ≤ y) (hv : ∀ i, (itm v i).natAbs ≤ 2 ^ y) : ∀ i, (itm (redV B v) i).natAbs ≤ 2 ^ (x + 5 + (y + 7) * κ) := fun i => by
  have hlen : ∀ r ∈ B, r.length = v.length := fun r hr => ((I.ech.row r hr).1).trans l.symm
  have hg : RIn B fun i => itm (redV B v) i - itm v i := .of ((In.cl B).of (t := -1) (In.cl B).zero (redV_diff (In.cl B) B v hlen fun r hr => In.mem _ _ hr) fun i => by show itm (redV B v) i - itm v i = 0 + -1 * (itm v i - itm (redV B v) i); omega)
  have gb := I.bound (y := y + 1) hg (by omega) (fun s hs => by
    have a := redV_small I.ech l s hs
    have b := I.piv s hs
    have c := hv (piv s)
    have d : 2 ^ ((x + 5) * κ) ≤ 2 ^ y := Nat.pow_le_pow_right (by decide) yP
    have := Int.natAbs_sub_le (itm (redV B v) (piv s)) (itm v (piv s))
    show (itm (redV B v) (piv s) - itm v (piv s)).natAbs ≤ 2 ^ (y + 1)
    rw [Nat.pow_succ]; omega) i
  have c := hv i
  have e : (itm (redV B v) i).natAbs ≤ (itm (redV B v) i - itm v i).natAbs + (itm v i).natAbs := by omega
  have p := Nat.mul_le_mul_left (y + 7) k1
  have q : 2 ^ y ≤ 2 ^ (x + 4 + (y + 7) * κ) := Nat.pow_le_pow_right (by decide) (by omega)
  have r : x + 5 + (y + 7) * κ = (x + 4 + (y + 7) * κ) + 1 := by omega
  rw [r, Nat.pow_succ]
  have gb' : (itm (redV B v) i - itm v i).natAbs ≤ 2 ^ (x + 4 + (y + 7) * κ) := gb
  omega
theorem growS {x n κ : Nat} (F : Fit x κ) {gens B : List Vec} {v : Vec} (I : Gen x n κ gens B) (hn : Hn B) (num : (gens ++ [v]).length ≤ 15) (cap : n ≤ κ ∨ (gens ++ [v]).length ≤ κ) (l : v.length = n) (hv : ∀ i, (itm v i).natAbs ≤ 2 ^ x) : OkGrow B v ∧ Gen x n κ (gens ++ [v]) (grow B v) ∧ Hn (grow B v) := by
  obtain ⟨k1, k15, hP, hL⟩ := F
  have hp := I.piv
  have hall : ∀ s ∈ B, ∀ i, (itm s i).natAbs ≤ 2 ^ E1 x κ := I.all hn k1
  have cB := I.count
  have hm := Nat.mul_le_mul_right (E1 x κ + 1) cB
  have rz := redV_size (π := (x + 5) * κ) (β := E1 x κ) (ξ := x) hP I.ech l hp hall hv (by omega)
  have xP : x ≤ (x + 5) * κ := by have := Nat.mul_le_mul_left (x + 5) k1; omega
  have ru : ∀ i, (itm (redV B v) i).natAbs ≤ 2 ^ E2 x κ := red_short k1 I l xP (Nat.le_refl _) fun i => Nat.le_trans (hv i) (Nat.pow_le_pow_right (by decide) xP)
  have e12 : E1 x κ ≤ E2 x κ := by
    have := Nat.mul_le_mul_right κ (show (x + 5) * κ + 6 ≤ (x + 5) * κ + 7 by omega)
    unfold E1 E2; omega
  have hlen : ∀ r ∈ B, r.length = v.length := fun r hr => ((I.ech.row r hr).1).trans l.symm
  have lu := redV_len B v hlen
  have hlen' : ∀ r ∈ B, r.length = (redV B v).length := fun r hr => (hlen r hr).trans lu.symm
  have d5 := dbl_le cB (E2 x κ)
  have st := stepped_sizeJ (n := n) (π := (x + 5) * κ) (τ := E2 x κ) hP I.ech (lu.trans l) hp (fun s hs i => Nat.le_trans (hall s hs i) (Nat.pow_le_pow_right (by decide) e12)) ru (by omega)
  have es : Ech n 0 (stepped B (redV B v)) := stepped_ech I.ech (lu.trans l) (Nat.zero_le _) fun i hi => absurd hi (Nat.not_lt_zero _)
  have rc : ∀ {S : (Nat → Int) → Prop}, Cl S → (∀ r ∈ B, S (itm r)) → (S (itm (redV B v)) ↔ S (itm v)) := fun C => redV_cl C B v hlen
  have clv : ∀ S, Cl S → (((∀ r ∈ B, S (itm r)) ∧ S (itm v)) ↔ ∀ r ∈ gens ++ [v], S (itm r)) := fun S C => by
    rw [I.cl S C, List.forall_mem_append]
    exact ⟨fun q => ⟨q.1, fun r hr => by rw [List.mem_singleton.mp hr]; exact q.2⟩, fun q => ⟨q.1, q.2 v (List.mem_singleton.mpr rfl)⟩⟩
  have mk : ∀ B', Ech n 0 B' → (∀ S, Cl S → ((∀ r ∈ B', S (itm r)) ↔ ((∀ r ∈ B, S (itm r)) ∧ S (itm v)))) → Gen x n κ (gens ++ [v]) B' := fun B' e h =>
    ⟨e, fun S C => (h S C).trans (clv S C), fun r hr => (List.mem_append.mp hr).elim (I.len r) fun z => by rw [List.mem_singleton.mp z]; exact l, fun r hr => (List.mem_append.mp hr).elim (I.siz r) fun z => by rw [List.mem_singleton.mp z]; exact hv, num, cap⟩
  have Is := mk (stepped B (redV B v)) es fun S C => by
    rw [stepped_cl C hlen']
    exact ⟨fun q => ⟨q.1, (rc C q.1).mp q.2⟩, fun q => ⟨q.1, (rc C q.1).mpr q.2⟩⟩
  have cs := Is.count
  have td := tidy_sizeY (π := (x + 5) * κ) (τ := dbl κ (E2 x κ)) (E := E1 x κ) (κ := κ) hP (by omega) es cs Is.piv (fun s hs i => Nat.le_trans (st.2 s hs i) (Nat.pow_le_pow_right (by decide) d5)) fun C hC s hs i => Is.tails k1 hC s hs i
  have eg : Ech n 0 (grow B v) := by
    unfold grow; split
    · exact I.ech
    · exact tidy_ech es
  refine ⟨⟨rz.1, .inr ⟨st.1, td, by omega⟩⟩, mk _ eg fun S C => grow_cl C hlen, ?_⟩
  unfold grow; split
  · exact hn
  · exact tidy_hn es
theorem growsS {x n κ : Nat} (F : Fit x κ) : ∀ (rs B gens : List Vec), Gen x n κ gens B → Hn B → (gens ++ rs).length ≤ 15 → (n ≤ κ ∨ (gens ++ rs).length ≤ κ) → (∀ r ∈ rs, r.length = n ∧ ∀ i, (itm r i).natAbs ≤ 2 ^ x) → OkGrows B rs ∧ Gen x n κ (gens ++ rs) (grows B rs) ∧ Hn (grows B rs)
  | [], B, gens, I, h, _, _, _ => by rw [List.append_nil]; exact ⟨trivial, I, h⟩
  | v :: vs, B, gens, I, h, num, cap, hr => by
    obtain ⟨⟨l, w⟩, h2⟩ := List.forall_mem_cons.mp hr
    have ea : gens ++ v :: vs = gens ++ [v] ++ vs := by rw [List.append_assoc]; rfl
    have la : (gens ++ [v]).length ≤ (gens ++ v :: vs).length := by rw [ea, List.length_append (bs := vs)]; omega
    obtain ⟨g1, g2, g3⟩ := growS F I h (by omega) (cap.imp id fun q => by omega) l w
    have ih := growsS F vs (grow B v) (gens ++ [v]) g2 g3 (by rw [← ea]; exact num) (by rw [← ea]; exact cap) h2
    rw [← ea] at ih
    have := I.count
    have := F.2.1
    exact ⟨⟨g1, by omega, ih.1⟩, ih.2⟩
theorem gen0 (x n κ : Nat) : Gen x n κ [] [] := ⟨trivial, fun S C => Iff.rfl, fun r h => (nomatch h), fun r h => (nomatch h), Nat.zero_le _, .inr (Nat.zero_le _)⟩
/-- rows of not more than x bits, not more than fit -/
structure Rws (x n κ : Nat) (rs : List Vec) : Prop where
  fit : Fit x κ
  num : rs.length ≤ 15
  cap : n ≤ κ ∨ rs.length ≤ κ
  row : ∀ r ∈ rs, r.length = n ∧ ∀ i, (itm r i).natAbs ≤ 2 ^ x
theorem Rws.len {x n κ : Nat} {rs : List Vec} (h : Rws x n κ rs) : ∀ r ∈ rs, r.length = n := fun r hr => (h.row r hr).1
theorem Rws.all {x n κ : Nat} {rs : List Vec} (h : Rws x n κ rs) : OkGrows [] rs ∧ Gen x n κ rs (grows [] rs) ∧ Hn (grows [] rs) := growsS h.fit rs [] [] (gen0 x n κ) trivial h.num h.cap h.row
theorem Rws.ok {x n κ : Nat} {rs : List Vec} (h : Rws x n κ rs) : OkGrows [] rs := h.all.1
theorem Rws.gen {x n κ : Nat} {rs : List Vec} (h : Rws x n κ rs) : Gen x n κ rs (grows [] rs) := h.all.2.1
theorem Rws.bas {x n κ : Nat} {rs : List Vec} (h : Rws x n κ rs) : Bas n rs (grows [] rs) := ⟨h.gen.ech, h.all.2.2, h.gen.cl⟩
theorem Rws.size {x n κ : Nat} {rs : List Vec} (h : Rws x n κ rs) : ∀ s ∈ grows [] rs, ∀ i, (itm s i).natAbs ≤ 2 ^ E1 x κ := h.gen.all h.all.2.2 h.fit.1
/-- a vector of not more than y bits can be reduced -/
theorem Rws.red {x n κ y : Nat} {rs : List Vec} {v : Vec} (h : Rws x n κ rs) (l : v.length = n) (hv : ∀ i, (itm v i).natAbs ≤ 2 ^ y) (hy : y + 15 * (E1 x κ + 1) + E1 x κ + 2 ≤ 134217728) : OkRed (grows [] rs) v := by
  have c := h.gen.count
  have := h.fit.2.1
  have hm := Nat.mul_le_mul_right (E1 x κ + 1) (show (grows [] rs).length ≤ 15 by omega)
  exact (redV_size (π := (x + 5) * κ) (β := E1 x κ) (ξ := y) h.fit.2.2.1 h.gen.ech l h.gen.piv h.size hv (by omega)).1
end K06

namespace K06
open PySem L2 RZ Lat
/-! ## k04: what the law asks of the vectors -/
/-- sums of the rows -/
def Sums (rs : List Vec) (f : Nat → Int) : Prop := ∀ S : (Nat → Int) → Prop, Cl S → (∀ r ∈ rs, S (itm r)) → S f
structure Facts04 (n : Nat) (rs : List Vec) (B : List Vec) (t : Tab) : Prop where
  eB : Ech n 0 B
  okB : OkGrows [] rs
  okT : OkPuts (tab0 n) rs
  eT : EchT n 0 t
  red : ∀ v : Vec, v.length = n → (∀ i, (itm v i).natAbs ≤ 2 ^ 32) → OkRed B v
  left : ∀ v : Vec, v.length = n → (∀ i, (itm v i).natAbs ≤ 2 ^ 32) → OkLeft t 0 v
  same : ∀ v : Vec, v.length = n → leftL t 0 v = redV B v
  lB : ∀ r ∈ B, r.length = n
  zero : ∀ v : Vec, v.length = n → Sums rs (itm v) → piv (redV B v) = (redV B v).length
  rest : ∀ v : Vec, v.length = n → Sums rs fun i => itm v i - itm (redV B v) i
  again : ∀ v u : Vec, v.length = n → u.length = n → Sums rs (fun i => itm v i - itm u i) → redV B v = redV B u
  short : ∀ v : Vec, v.length = n → (∀ i, (itm v i).natAbs ≤ 2 ^ 32) → ∀ m ∈ redV B v, m.natAbs.log2 < 1920
theorem grows_pos {n : Nat} : ∀ (rs B : List Vec), Ech n 0 B → PosP B → (∀ r ∈ rs, r.length = n) → Ech n 0 (grows B rs) ∧ PosP (grows B rs)
  | [], B, e, p, _ => ⟨e, p⟩
  | v :: rs, B, e, p, h => by
    obtain ⟨l, h2⟩ := List.forall_mem_cons.mp h
    have hlen : ∀ r ∈ B, r.length = v.length := fun r hr => ((e.row r hr).1).trans l.symm
    have lu := (redV_len B v hlen).trans l
    have es : Ech n 0 (stepped B (redV B v)) := stepped_ech e lu (Nat.zero_le _) fun i hi => absurd hi (Nat.not_lt_zero _)
    refine grows_pos rs (grow B v) ?_ ?_ h2
    · unfold grow; split
      · exact e
      · exact tidy_ech es
    · unfold grow; split
      · exact p
      · exact tidy_pos es
theorem grows_clo {S : (Nat → Int) → Prop} (C : Cl S) {n : Nat} : ∀ (rs B : List Vec), (∀ r ∈ B, r.length = n) → (∀ r ∈ rs, r.length = n) → ((∀ r ∈ grows B rs, S (itm r)) ↔ ((∀ r ∈ B, S (itm r)) ∧ ∀ r ∈ rs, S (itm r)))
  | [], B, _, _ => ⟨fun h => ⟨h, fun r h => nomatch h⟩, fun h => h.1⟩
  | v :: rs, B, hB, h => by
    obtain ⟨l, h2⟩ := List.forall_mem_cons.mp h
    have e : grows B (v :: rs) = grows (grow B v) rs := rfl
    rw [e, grows_clo C rs (grow B v) (grow_len l hB) h2, grow_cl C (fun r hr => (hB r hr).trans l.symm), List.forall_mem_cons, and_assoc]
theorem log_bound {m : Int} {k : Nat} (h : m.natAbs ≤ 2 ^ k) (hk : k < 1920) : m.natAbs.log2 < 1920 := by
  by_cases h0 : m.natAbs = 0
  · rw [h0]; decide
  · exact log_lt h0 h hk
theorem facts04 {n : Nat} (n1 : 1 ≤ n) (n5 : n ≤ 5) (rs : List Vec) (h : rs.length ≤ 5) (hr : ∀ r ∈ rs, r.length = n ∧ Within 44 r) : Facts04 n rs (grows [] rs) (putsL (tab0 n) rs) := by
  have hl : ∀ r ∈ rs, r.length = n := fun r q => (hr r q).1
  have IB := (grows_inv rs 0 [] (inv0 n) (by omega) hr).2
  rw [Nat.zero_add] at IB
  obtain ⟨okT, IT⟩ := puts_inv n5 rs 0 (tab0 n) (invT0 n) (by omega) hr
  rw [Nat.zero_add] at IT
  obtain ⟨eB, pB⟩ := grows_pos (n := n) rs [] trivial (fun s h => nomatch h) hl
  have eT := IT.ech
  have eT' := eT.ech
  have pT : PosP (rowsOf (putsL (tab0 n) rs)) := eT.pos
  have lB : ∀ r ∈ grows [] rs, r.length = n := fun r q => (eB.row r q).1
  have lT : ∀ r ∈ rowsOf (putsL (tab0 n) rs), r.length = n := fun r q => (eT'.row r q).1
  have cB : ∀ {S : (Nat → Int) → Prop}, Cl S → ((∀ r ∈ grows [] rs, S (itm r)) ↔ ∀ r ∈ rs, S (itm r)) := fun C => (grows_clo C rs [] (fun r q => nomatch q) hl).trans ⟨fun q => q.2, fun q => ⟨fun r z => (nomatch z), q⟩⟩
  have cT : ∀ {S : (Nat → Int) → Prop}, Cl S → ((∀ r ∈ rowsOf (putsL (tab0 n) rs), S (itm r)) ↔ ∀ r ∈ rs, S (itm r)) := fun C => (putsL_cl C (invT0 n).ech hl).trans ⟨fun q => q.2, fun q => ⟨fun r z => (by unfold tab0 at z; rw [rows_empty] at z; exact (nomatch z)), q⟩⟩
  have hBT : ∀ r ∈ grows [] rs, In (rowsOf (putsL (tab0 n) rs)) (itm r) := (cB (In.cl _)).mpr ((cT (In.cl _)).mp fun r q => In.mem _ _ q)
  have hTB : ∀ r ∈ rowsOf (putsL (tab0 n) rs), In (grows [] rs) (itm r) := (cT (In.cl _)).mpr ((cB (In.cl _)).mp fun r q => In.mem _ _ q)
  have inB : ∀ f, Sums rs f → In (grows [] rs) f := fun f q => q _ (In.cl _) ((cB (In.cl _)).mp fun r z => In.mem _ _ z)
  have eb5 : gb rs.length + rs.length * (gb rs.length + 2) ≤ 3000 := by
    have : ∀ k, k ≤ 5 → gb k + k * (gb k + 2) ≤ 3000 := by decide
    exact this _ h
  have gb5 : gb rs.length ≤ 454 := by
    have : ∀ k, k ≤ 5 → gb k ≤ 454 := by decide
    exact this _ h
  have aB : ∀ s ∈ grows [] rs, ∀ i, (itm s i).natAbs ≤ 2 ^ 3000 := fun s q i => Nat.le_trans (IB.all s q i) (Lat.p2le eb5)
  have pvB : ∀ s ∈ grows [] rs, (itm s (piv s)).natAbs ≤ 2 ^ 454 := fun s q => Nat.le_trans (IB.piv s q) (Lat.p2le gb5)
  have countB : (grows [] rs).length ≤ 5 := Nat.le_trans IB.count h
  have countT : (rowsOf (putsL (tab0 n) rs)).length ≤ 5 := Nat.le_trans IT.count h
  have pvT : ∀ s ∈ rowsOf (putsL (tab0 n) rs), (itm s (piv s)).natAbs ≤ 2 ^ 454 := fun s q => Nat.le_trans (IT.gh.piv s q) (Lat.p2le (Nat.le_trans (gbx_le n5) gbx_five))
  have sT : ∀ s ∈ rowsOf (putsL (tab0 n) rs), ∀ i, (itm s i).natAbs ≤ 2 ^ 600000 := fun s q i => Nat.le_trans (IT.size s q i) (Lat.p2le (by
    have : ∀ k, k ≤ 5 → sb k ≤ 600000 := by
      intro k hk
      have : k = 0 ∨ k = 1 ∨ k = 2 ∨ k = 3 ∨ k = 4 ∨ k = 5 := by omega
      rcases this with e | e | e | e | e | e <;> subst e <;> simp [sb, dbl]
    exact this _ h))
  have ghB : Gh 6 n (grows [] rs) := by
    obtain ⟨G, eG, h1, h2, h3⟩ := IT.gh.ex
    exact ⟨eB, G, eG, fun g q => In.sub (In.cl _) hTB (h1 g q), (cB (RIn.cl _)).mpr ((cT (RIn.cl _)).mp h2), h3⟩
  refine ⟨eB, math_ok n rs h hr, okT, eT, fun v l hv => ?_, fun v l hv => ?_, fun v l => ?_, lB, fun v l q => ?_, fun v l => ?_, fun v u l l' q => ?_, fun v l hv m hm => ?_⟩
  · have := Nat.mul_le_mul_right 3001 countB
    exact (redV_size (π := 454) (β := 3000) (ξ := 32) (by decide) eB l pvB aB hv (by omega)).1
  · have := Nat.mul_le_mul_right 600001 countT
    exact okLeft_of eT (redV_size (π := 454) (β := 600000) (ξ := 32) (by decide) eT' l pvT sT hv (by omega)).1
  · rw [leftL_red eT]
    exact (red_same eB eT' pB pT hBT hTB l l ((In.cl _).of (t := 0) (In.cl _).zero (In.cl _).zero fun i => by omega)).symm
  · exact red_zero eB l (inB _ q)
  · exact fun S C hS => redV_diff C _ v (fun r q => (lB r q).trans l.symm) ((cB C).mpr hS)
  · exact red_same eB eB pB pB (fun r q => In.mem _ _ q) (fun r q => In.mem _ _ q) l l' (inB _ q)
  · obtain ⟨i, rfl⟩ := mem_itm hm
    have q := ghB.red (w := 0) (y := 32) (z := 900) l hv n1 (Nat.le_trans (gbx_le n5) (by decide)) (fun k hk => by
      have : ∀ k, k ≤ 4 → (gbx 6 k + 32 + 1) + k * (gbx 6 k + 2) + 1 ≤ 900 := by decide
      exact this k (by omega)) (by decide) i
    exact log_bound q (by decide)
end K06

namespace K06
open PySem L2 RZ Lat
/-! ## tables by many rows: sizes place by place -/
def SzT : Nat → Tab → Prop
  | _, [] => True
  | α, o :: os => (∀ r, o = some r → ∀ i, (itm r i).natAbs ≤ 2 ^ (α - 2)) ∧ SzT (2 * α) os
theorem SzT.mono : ∀ {t : Tab} {α β : Nat}, α ≤ β → SzT α t → SzT β t
  | [], _, _, _, _ => trivial
  | o :: os, α, β, h, z => ⟨fun r e i => Nat.le_trans (z.1 r e i) (Lat.p2le (by omega)), SzT.mono (t := os) (by omega) z.2⟩
theorem SzT.empty : ∀ (k α : Nat), SzT α (List.replicate k none)
  | 0, _ => trivial
  | k + 1, α => ⟨fun r e => (nomatch e), SzT.empty k (2 * α)⟩
theorem SzT.all : ∀ {t : Tab} {α : Nat}, SzT α t → ∀ s ∈ rowsOf t, ∀ i, (itm s i).natAbs ≤ 2 ^ (α * 2 ^ t.length)
  | [], _, _ => fun s h => nomatch h
  | none :: os, α, z => fun s hs i => by
    have := SzT.all (t := os) z.2 s hs i
    rw [List.length_cons, Nat.pow_succ, Nat.mul_comm _ 2, ← Nat.mul_assoc, Nat.mul_comm α 2]
    exact this
  | some r :: os, α, z => fun s hs i => by
    rcases List.mem_cons.mp (show s ∈ r :: rowsOf os from hs) with e | hs
    · rw [e]
      refine Nat.le_trans (z.1 r rfl i) (Lat.p2le ?_)
      have := Nat.mul_le_mul_left α (Nat.one_le_two_pow (n := (some r :: os : Tab).length))
      omega
    · have := SzT.all (t := os) z.2 s hs i
      rw [List.length_cons, Nat.pow_succ, Nat.mul_comm _ 2, ← Nat.mul_assoc, Nat.mul_comm α 2]
      exact this
theorem putL_szT {n π : Nat} (hπ : π < 9000) : ∀ {p : Nat} {t : Tab} {v : Vec} {α : Nat}, 2 ≤ α → EchT n p t → v.length = n → (∀ i, i < p → itm v i = 0) → (∀ s ∈ rowsOf t, (itm s (piv s)).natAbs ≤ 2 ^ π) → SzT α t → (∀ i, (itm v i).natAbs ≤ 2 ^ (α - 2)) →
    α * 2 ^ t.length ≤ 33554432 → OkPut t p v ∧ SzT (2 * α) (putL t p v)
  | _, [], v, α, _, _, _, _, _, _, _, _ => ⟨trivial, trivial⟩
  | p, o :: os, v, α, a2, h, l, z, hp, hB, hv, hd => by
    have hd' : 2 * α * 2 ^ os.length ≤ 33554432 := by
      rw [List.length_cons, Nat.pow_succ, Nat.mul_comm _ 2, ← Nat.mul_assoc, Nat.mul_comm α 2] at hd
      exact hd
    have hα : 2 * α ≤ 33554432 := by
      have := Nat.mul_le_mul_left (2 * α) (Nat.one_le_two_pow (n := os.length))
      omega
    by_cases e : itm v p = 0
    · have e2 : putL (o :: os) p v = o :: putL os (p + 1) v := by
        conv => lhs; unfold putL
        rw [if_pos e]
      rw [e2]
      have hp2 : ∀ s ∈ rowsOf os, (itm s (piv s)).natAbs ≤ 2 ^ π := fun s hs => hp s (by
        cases o with
        | none => exact hs
        | some r => exact List.mem_cons_of_mem _ hs)
      have ih := putL_szT hπ (t := os) (α := 2 * α) (by omega) h.2 l (zero_more z e) hp2 hB.2 (fun i => Nat.le_trans (hv i) (Lat.p2le (by omega))) hd'
      refine ⟨.inl ⟨e, ih.1⟩, fun r er i => Nat.le_trans (hB.1 r er i) (Lat.p2le (by omega)), ih.2⟩
    · cases o with
      | none =>
        have e2 : putL (none :: os) p v = some (posAt v p) :: os := by
          conv => lhs; unfold putL
          rw [if_neg e]
        rw [e2]
        refine ⟨.inr ⟨e, trivial⟩, fun r er i => ?_, SzT.mono (by omega) hB.2⟩
        cases er
        rw [posAt_abs]; exact Nat.le_trans (hv i) (Lat.p2le (by omega))
      | some r =>
        obtain ⟨a, b, c⟩ := h.1 r rfl
        obtain ⟨q1, q2, q3, q4, q5⟩ := clear_at a l b c z
        have e2 : putL (some r :: os) p v = some (posAt (clear r v p).1 p) :: putL os (p + 1) (clear r v p).2 := by
          conv => lhs; unfold putL
          rw [if_neg e]
        rw [e2]
        obtain ⟨hp1, hp2⟩ := List.forall_mem_cons.mp (show ∀ s ∈ r :: rowsOf os, _ from hp)
        have hB1 := hB.1 r rfl
        rw [b] at hp1
        have e3 : 4 * 2 ^ (α - 2) * 2 ^ (α - 2) = 2 ^ (2 * α - 2) := by rw [show 2 * α - 2 = 2 + (α - 2) + (α - 2) by omega, Nat.pow_add, Nat.pow_add]
        have cz := clear_size (n := n) (α := 1) (χ := 1) (by decide) (by decide) r v p (fun _ => True) (2 ^ (α - 2)) (2 ^ (α - 2)) a l (by omega) (Nat.two_pow_pos _) (hB1 p) (hv p) fun j _ => ⟨hB1 j, hv j⟩
        rw [e3] at cz
        have ok := clear_sizeJ (n := n) (π := π) (α := α - 2) (χ := 2 * α - 2) hπ (by omega) r v p (2 ^ (α - 2)) (2 ^ (α - 2)) a l (by omega) hp1 (Nat.two_pow_pos _) (hB1 p) (hv p) (fun j => ⟨hB1 j, hv j⟩) (Nat.le_of_eq e3) (Nat.le_refl _)
        have ih := putL_szT hπ (t := os) (v := (clear r v p).2) (α := 2 * α) (by omega) h.2 q2 q5 hp2 hB.2 (fun i => (cz.1 i trivial).2) hd'
        refine ⟨.inr ⟨e, ok, ih.1⟩, fun r' er i => ?_, ih.2⟩
        cases er
        rw [posAt_abs]; exact (cz.1 i trivial).1
structure InvS (x n α : Nat) (t : Tab) : Prop where
  ech : EchT n 0 t
  g2 : G2 x n (rowsOf t)
  sz : SzT α t
theorem put_invS {x n α : Nat} {t : Tab} {v : Vec} (I : InvS x n α t) (hx : tot x n < 9000) (a2 : x + 2 ≤ α) (l : v.length = n) (hv : ∀ i, (itm v i).natAbs ≤ 2 ^ x) (hd : α * 2 ^ n ≤ 33554432) : OkPut t 0 v ∧ InvS x n (2 * α) (putL t 0 v) := by
  have z : ∀ i, i < 0 → itm v i = 0 := fun i hi => absurd hi (Nat.not_lt_zero _)
  have lt : t.length = n := by have := I.ech.len; omega
  have q := putL_szT hx (α := α) (by omega) I.ech l z I.g2.piv I.sz (fun i => Nat.le_trans (hv i) (Lat.p2le (by omega))) (by rw [lt]; exact hd)
  have et := putL_tab I.ech l z
  exact ⟨q.1, et, I.g2.step et.ech l hv fun S C => putL_cl C I.ech l z, q.2⟩
theorem puts_invS {x n : Nat} (hx : tot x n < 9000) : ∀ (rs : List Vec) (α : Nat) (t : Tab), InvS x n α t → x + 2 ≤ α → α * 2 ^ (n + rs.length) ≤ 33554432 → (∀ r ∈ rs, r.length = n ∧ ∀ i, (itm r i).natAbs ≤ 2 ^ x) → OkPuts t rs ∧ InvS x n (α * 2 ^ rs.length) (putsL t rs)
  | [], α, t, I, _, _, _ => ⟨trivial, by rw [List.length_nil, Nat.pow_zero, Nat.mul_one]; exact I⟩
  | v :: vs, α, t, I, a2, hd, h => by
    obtain ⟨⟨l, w⟩, h2⟩ := List.forall_mem_cons.mp h
    have e : α * 2 ^ (n + (v :: vs).length) = 2 * α * 2 ^ (n + vs.length) := by
      rw [List.length_cons, ← Nat.add_assoc, Nat.pow_succ, Nat.mul_comm _ 2, ← Nat.mul_assoc, Nat.mul_comm α 2]
    rw [e] at hd
    have hd1 : α * 2 ^ n ≤ 33554432 := by
      have q1 := Nat.mul_le_mul_left (2 * α) (Nat.pow_le_pow_right (show 0 < 2 by decide) (show n ≤ n + vs.length by omega))
      have q2 := Nat.mul_le_mul_right (2 ^ n) (show α ≤ 2 * α by omega)
      omega
    obtain ⟨g1, g2⟩ := put_invS I hx a2 l w hd1
    have ih := puts_invS hx vs (2 * α) (putL t 0 v) g2 (by omega) hd h2
    refine ⟨⟨g1, ih.1⟩, ?_⟩
    rw [List.length_cons, Nat.pow_succ, Nat.mul_comm _ 2, ← Nat.mul_assoc, Nat.mul_comm α 2]
    exact ih.2
theorem inv0S (x n α : Nat) : InvS x n α (tab0 n) := ⟨(invT0 n).ech, by unfold tab0; rw [rows_empty]; exact G2.nil x n, SzT.empty n α⟩
structure Facts05 (n : Nat) (rs : List Vec) (t : Tab) : Prop where
  okT : OkPuts (tab0 n) rs
  eT : EchT n 0 t
  clT : ∀ S, Cl S → ((∀ r ∈ rowsOf t, S (itm r)) ↔ ∀ r ∈ rs, S (itm r))
  tdy : tidy (rowsOf t) = grows [] rs
  okB : OkBasis t
  left : ∀ v : Vec, v.length = n → (∀ i, (itm v i).natAbs ≤ 2 ^ 8) → OkLeft t 0 v
  isin : ∀ v : Vec, v.length = n → (piv (leftL t 0 v) = (leftL t 0 v).length ↔ ∀ S, Cl S → (∀ r ∈ rs, S (itm r)) → S (itm v))
theorem echT_mem_drop {n p : Nat} {t : Tab} (h : EchT n 0 t) {k : Nat} (hk : k ≤ t.length) : Ech n k (rowsOf (t.drop k)) := by
  have := (h.drop hk).ech
  rw [Nat.zero_add] at this
  exact this
theorem rows_mem_drop (k : Nat) (t : Tab) : ∀ s ∈ rowsOf (t.drop k), s ∈ rowsOf t := fun s hs => by
  obtain ⟨o, ho, e⟩ := List.mem_filterMap.mp hs
  exact List.mem_filterMap.mpr ⟨o, List.mem_of_mem_drop ho, e⟩
theorem facts05 {n : Nat} (n5 : n ≤ 5) (rs : List Vec) (h : rs.length ≤ 10) (hr : Small n rs) : Facts05 n rs (putsL (tab0 n) rs) := by
  have t5 := tot5 8
  have tn := tot_le (x := 8) n5
  have hd : 10 * 2 ^ (n + rs.length) ≤ 33554432 := Nat.le_trans (Nat.mul_le_mul_left 10 (Nat.pow_le_pow_right (show 0 < 2 by decide) (show n + rs.length ≤ 15 by omega))) (by decide)
  obtain ⟨okT, IT⟩ := puts_invS (x := 8) (n := n) (by omega) rs 10 (tab0 n) (inv0S 8 n 10) (by decide) hd hr
  have N := small_nice n5 hr
  generalize ht : putsL (tab0 n) rs = t at *
  have eT := IT.ech
  have lt : t.length = n := by have := eT.len; omega
  have clT : ∀ S, Cl S → ((∀ r ∈ rowsOf t, S (itm r)) ↔ ∀ r ∈ rs, S (itm r)) := fun S C => by
    rw [← ht]
    exact (putsL_cl C (invT0 n).ech hr.len).trans ⟨fun q => q.2, fun q => ⟨fun r z => (by unfold tab0 at z; rw [rows_empty] at z; exact (nomatch z)), q⟩⟩
  have lT : ∀ r ∈ rowsOf t, r.length = n := fun r q => (eT.ech.row r q).1
  have tdy : tidy (rowsOf t) = grows [] rs := bas_one (n := n) (g := rs) (g' := rs) ⟨tidy_ech eT.ech, tidy_hn eT.ech, fun S C => (tidy_cl C (rowsOf t) n lT).trans (clT S C)⟩ N.bas fun S C => Iff.rfl
  have cT : (rowsOf t).length ≤ 5 := by have := eT.ech.count (Nat.zero_le _); omega
  have szT : ∀ s ∈ rowsOf t, ∀ i, (itm s i).natAbs ≤ 2 ^ 327680 := fun s hs i => Nat.le_trans (IT.sz.all s hs i) (Lat.p2le (by
    rw [lt, Nat.mul_assoc, ← Nat.pow_add]
    exact Nat.le_trans (Nat.mul_le_mul_left 10 (Nat.pow_le_pow_right (show 0 < 2 by decide) (show rs.length + n ≤ 15 by omega))) (by decide)))
  have pvT : ∀ s ∈ rowsOf t, (itm s (piv s)).natAbs ≤ 2 ^ 300 := fun s hs => Nat.le_trans (IT.g2.piv s hs) (Lat.p2le (by omega))
  have mm := Nat.mul_le_mul_right 327681 cT
  refine ⟨okT, eT, clT, tdy, fun p r er => ?_, fun v l hv => ?_, fun v l => ?_⟩
  · have pn : p < t.length := (List.getElem?_eq_some_iff.mp er).1
    have eTT := tidyT_tab eT
    have lTT : (tidyT t).length = t.length := tidyT_len t
    have mem : ∀ s ∈ rowsOf (low (p + 1) (tidyT t)), s ∈ grows [] rs := fun s hs => by
      rw [low_rows] at hs
      rw [← tdy, ← rows_tidyT eT]
      exact rows_mem_drop _ _ s hs
    have elw : EchT n 0 (low (p + 1) (tidyT t)) := low_tab eTT (by omega)
    have cL : (rowsOf (low (p + 1) (tidyT t))).length ≤ 5 := by have := elw.ech.count (Nat.zero_le _); omega
    have mm2 := Nat.mul_le_mul_right 290 cL
    refine okLeft_of elw (redV_size (n := n) (π := 289) (β := 289) (ξ := 327680) (by decide) elw.ech (lT r (List.mem_filterMap.mpr ⟨some r, List.mem_of_getElem? er, rfl⟩)) (fun s hs => N.size s (mem s hs) _) (fun s hs => N.size s (mem s hs)) (szT r (List.mem_filterMap.mpr ⟨some r, List.mem_of_getElem? er, rfl⟩)) (by omega)).1
  · exact okLeft_of eT (redV_size (n := n) (π := 300) (β := 327680) (ξ := 8) (by decide) eT.ech l pvT szT hv (by omega)).1
  · rw [leftL_red eT]
    constructor
    · intro q S C hS
      have hS' := (clT S C).mpr hS
      exact (redV_cl C (rowsOf t) v (fun r hr' => (lT r hr').trans l.symm) hS').mp (C.itm_zero q)
    · intro q
      exact red_zero eT.ech l (q _ (In.cl _) ((clT _ (In.cl _)).mp fun r z => In.mem _ _ z))
/-! ## one column more -/
theorem tot6 (x : Nat) : tot x 6 = 63 * (x + 1) := by simp only [tot]; omega
theorem growX6 {n : Nat} (n6 : n ≤ 6) {B : List Vec} {v : Vec} (I : G2 8 n B) (hn : Hn B) (l : v.length = n) (hv : ∀ i, (itm v i).natAbs ≤ 2 ^ 8) : OkGrow B v ∧ G2 8 n (grow B v) ∧ Hn (grow B v) := by
  have t5 := tot6 8
  have t4 := tot5 8
  have tn := tot_le (x := 8) n6
  have tn1 := tot_le (x := 8) (show n - 1 ≤ 5 by omega)
  have hp : ∀ s ∈ B, (itm s (piv s)).natAbs ≤ 2 ^ 8990 := fun s hs => Nat.le_trans (I.piv s hs) (Lat.p2le (by omega))
  have hall : ∀ s ∈ B, ∀ i, (itm s i).natAbs ≤ 2 ^ 17690 := fun s hs i => Nat.le_trans (I.all hn s hs i) (Lat.p2le (by omega))
  have cB : B.length ≤ 6 := by have := I.eB.count (Nat.zero_le _); omega
  have hm := Nat.mul_le_mul_right 17691 cB
  have rz := redV_size (π := 8990) (β := 17690) (ξ := 8) (by decide) I.eB l hp hall hv (by omega)
  have ru : ∀ i, (itm (redV B v) i).natAbs ≤ 2 ^ 110000 := fun i => Nat.le_trans (rz.2 i) (Lat.p2le (by omega))
  have hlen : ∀ r ∈ B, r.length = v.length := fun r hr => ((I.eB.row r hr).1).trans l.symm
  have lu := redV_len B v hlen
  have hlen' : ∀ r ∈ B, r.length = (redV B v).length := fun r hr => (hlen r hr).trans lu.symm
  have d5 : dbl B.length 110000 ≤ 7040126 := Nat.le_trans (dbl_le cB 110000) (by decide)
  have st := stepped_sizeJ (n := n) (π := 8990) (τ := 110000) (by decide) I.eB (lu.trans l) hp (fun s hs i => Nat.le_trans (hall s hs i) (Lat.p2le (by decide))) ru (by omega)
  have es : Ech n 0 (stepped B (redV B v)) := stepped_ech I.eB (lu.trans l) (Nat.zero_le _) fun i hi => absurd hi (Nat.not_lt_zero _)
  have cs : (stepped B (redV B v)).length ≤ 6 := by have := es.count (Nat.zero_le _); omega
  have rc : ∀ {S : (Nat → Int) → Prop}, Cl S → (∀ r ∈ B, S (itm r)) → (S (itm (redV B v)) ↔ S (itm v)) := fun C => redV_cl C B v hlen
  have Is : G2 8 n (stepped B (redV B v)) := I.step es l hv fun S C => by
    rw [stepped_cl C hlen']
    exact ⟨fun q => ⟨q.1, (rc C q.1).mp q.2⟩, fun q => ⟨q.1, (rc C q.1).mpr q.2⟩⟩
  have ps : ∀ s ∈ stepped B (redV B v), (itm s (piv s)).natAbs ≤ 2 ^ 8990 := fun s hs => Nat.le_trans (Is.piv s hs) (Lat.p2le (by omega))
  have td := tidy_sizeX (π := 8990) (τ := 7040126) (E := 17690) (by decide) (by decide) es cs ps (fun s hs i => Nat.le_trans (st.2 s hs i) (Lat.p2le d5)) fun C hC s hs i => Nat.le_trans (Is.tails hC s hs i) (Lat.p2le (by omega))
  have eg : Ech n 0 (grow B v) := by
    unfold grow; split
    · exact I.eB
    · exact tidy_ech es
  refine ⟨⟨rz.1, .inr ⟨st.1, td, by omega⟩⟩, I.step eg l hv fun S C => grow_cl C hlen, ?_⟩
  unfold grow; split
  · exact hn
  · exact tidy_hn es
theorem growsX6 {n : Nat} (n6 : n ≤ 6) : ∀ (rs B : List Vec), G2 8 n B → Hn B → Small n rs → OkGrows B rs
  | [], B, _, _, _ => trivial
  | v :: vs, B, I, h, hr => by
    obtain ⟨⟨l, w⟩, h2⟩ := List.forall_mem_cons.mp hr
    obtain ⟨g1, g2, g3⟩ := growX6 n6 I h l w
    have := I.eB.count (Nat.zero_le _)
    exact ⟨g1, by omega, growsX6 n6 vs (grow B v) g2 g3 h2⟩
theorem small_ok6 {n : Nat} (n6 : n ≤ 6) {rs : List Vec} (h : Small n rs) : OkGrows [] rs := growsX6 n6 rs [] (G2.nil 8 n) trivial h
end K06

namespace K06
open PySem L2 RZ Lat
theorem small_of {n : Nat} {rs : List Vec} (h : ∀ r ∈ rs, r.length = n ∧ Within 44 r) : Small n rs := fun r hr => ⟨(h r hr).1, fun i => by
  by_cases hi : i < r.length
  · have := (h r hr).2 _ (List.mem_of_getElem? (itm_of hi))
    have e : (2 : Nat) ^ 8 = 256 := by decide
    rw [e]; omega
  · rw [itm_out (by omega)]; exact Nat.zero_le _⟩
structure Facts09 (n : Nat) (rs : List Vec) (B : List Vec) (t : Tab) : Prop where
  f4 : Facts04 n rs B t
  f5 : Facts05 n rs t
  bas : tidy (rowsOf t) = B
  len : B.length ≤ n
  size : ∀ r ∈ B, ∀ m ∈ r, m.natAbs.log2 < 1920
theorem facts09 {n : Nat} (n1 : 1 ≤ n) (n5 : n ≤ 5) (rs : List Vec) (h : rs.length ≤ 5) (hr : ∀ r ∈ rs, r.length = n ∧ Within 44 r) : Facts09 n rs (grows [] rs) (putsL (tab0 n) rs) := by
  have f5 := facts05 n5 rs (by omega) (small_of hr)
  have N := small_nice n5 (small_of hr)
  refine ⟨facts04 n1 n5 rs h hr, f5, f5.tdy, N.count, fun r hr m hm => ?_⟩
  obtain ⟨i, rfl⟩ := mem_itm hm
  exact log_bound (N.size r hr i) (by decide)
theorem Facts09.eqv {n : Nat} {rs B : List Vec} {t : Tab} (f : Facts09 n rs B t) {v u d : Vec} (lv : v.length = n) (lu : u.length = n) (ld : d.length = n) (hd : ∀ i, itm d i = itm v i - itm u i) :
    decide (redV B v = redV B u) = decide (piv (leftL t 0 d) = (leftL t 0 d).length) := by
  have key : redV B v = redV B u ↔ piv (leftL t 0 d) = (leftL t 0 d).length := by
    rw [f.f5.isin d ld]
    constructor
    · intro e S C hS
      have h1 := f.f4.rest v lv S C hS
      have h2 := f.f4.rest u lu S C hS
      exact C.of (t := -1) h1 h2 fun i => by rw [hd, e]; omega
    · intro h
      exact f.f4.again v u lv lu fun S C hS => C.of (t := 0) (h S C hS) C.zero fun i => by rw [hd]; omega
  by_cases h : redV B v = redV B u
  · rw [decide_eq_true h, decide_eq_true (key.mp h)]
  · rw [decide_eq_false h, decide_eq_false (fun z => h (key.mpr z))]
theorem rep_of_zero9 {v : Vec} {n : Nat} (l : v.length = n) (h : piv v = v.length) : v = List.replicate n 0 := by
  refine vec_ext (by rw [List.length_replicate]; exact l) fun i => ?_
  rw [Lat.itm_zero h]
  unfold itm
  rw [List.getD_eq_getElem?_getD, List.getElem?_replicate]
  split <;> rfl
theorem within32' {v : Vec} {B : Int} (hB : B ≤ 4000000000) (w : Within B v) : ∀ i, (itm v i).natAbs ≤ 2 ^ 32 := fun i => by
  have e : (2 : Nat) ^ 32 = 4294967296 := by decide
  by_cases hi : i < v.length
  · have := w _ (List.mem_of_getElem? (itm_of hi))
    rw [e]; omega
  · rw [itm_out (by omega)]; exact Nat.zero_le _
/-! ## all vectors -/
theorem unit_good {n : Nat} : ∀ r ∈ unitRows n, r.length = n ∧ Within 44 r := fun r hr => by
  unfold unitRows at hr
  obtain ⟨p, _, rfl⟩ := List.mem_map.mp hr
  refine ⟨unitV_len n p, fun m hm => ?_⟩
  unfold unitV at hm
  obtain ⟨a, _, rfl⟩ := List.mem_map.mp hm
  split <;> omega
theorem itm_unit {n p i : Nat} (hp : p < n) : itm (unitV n p) i = if i = p then 1 else 0 := by
  by_cases hi : i < n
  · have := itm_of (v := unitV n p) (i := i) (by rw [unitV_len]; exact hi)
    rw [unitV_at hi] at this
    exact (Option.some.inj this).symm
  · rw [itm_out (by rw [unitV_len]; omega), if_neg (by omega)]
theorem unit_sums {n : Nat} {v : Vec} (l : v.length = n) : Sums (unitRows n) (itm v) := fun S C hS => by
  have step : ∀ k, k ≤ n → S fun i => if i < k then itm v i else 0 := by
    intro k
    induction k with
    | zero => intro _; exact C.of (t := 0) C.zero C.zero fun i => by simp
    | succ k ih =>
      intro hk
      refine C.of (t := itm v k) (ih (by omega)) (hS (unitV n k) (List.mem_map.mpr ⟨k, List.mem_range.mpr (by omega), rfl⟩)) fun i => ?_
      rw [itm_unit (by omega)]
      by_cases e : i = k
      · subst e; simp
      · by_cases h : i < k
        · rw [if_pos (by omega), if_pos h, if_neg e]; omega
        · rw [if_neg (by omega), if_neg h, if_neg e]; omega
  refine C.of (t := 0) (step n (Nat.le_refl n)) C.zero fun i => ?_
  by_cases h : i < n
  · rw [if_pos h]; omega
  · rw [if_neg h, itm_out (by omega)]; omega
theorem unit_len {n : Nat} (n1 : 1 ≤ n) (n5 : n ≤ 5) : (grows [] (unitRows n)).length = n := by
  have : n = 1 ∨ n = 2 ∨ n = 3 ∨ n = 4 ∨ n = 5 := by omega
  rcases this with e | e | e | e | e <;> subst e <;> decide +kernel
theorem unit_facts {n : Nat} (n1 : 1 ≤ n) (n5 : n ≤ 5) : Facts09 n (unitRows n) (grows [] (unitRows n)) (putsL (tab0 n) (unitRows n)) := facts09 n1 n5 (unitRows n) (by unfold unitRows; rw [List.length_map, List.length_range]; exact n5) unit_good
theorem unit_red {n : Nat} (n1 : 1 ≤ n) (n5 : n ≤ 5) {v : Vec} (l : v.length = n) : redV (grows [] (unitRows n)) v = List.replicate n 0 := by
  have f := unit_facts n1 n5
  refine rep_of_zero9 ((redV_len _ v fun r hr => (f.f4.lB r hr).trans l.symm).trans l) (f.f4.zero v l (unit_sums l))
theorem end_one : redV (grows [] [[4]]) [7] = [3] := by decide +kernel
end K06

namespace Lat
/-! ## what stands behind the first places -/
def sh (a : Nat) (f : Nat → Int) : Nat → Int := fun i => f (a + i)
theorem itm_drop (v : Vec) (a i : Nat) : itm (v.drop a) i = itm v (a + i) := by
  unfold itm
  rw [List.getD_eq_getElem?_getD, List.getD_eq_getElem?_getD, List.getElem?_drop]
theorem itm_app (v u : Vec) (i : Nat) : itm (v ++ u) i = if i < v.length then itm v i else itm u (i - v.length) := by
  unfold itm
  rw [List.getD_eq_getElem?_getD, List.getD_eq_getElem?_getD, List.getD_eq_getElem?_getD]
  split
  · rw [List.getElem?_append_left (by assumption)]
  · rw [List.getElem?_append_right (by omega)]
def freeR (a : Nat) (B : List Vec) : List Vec := (B.filter fun r => decide (a ≤ piv r)).map fun r => r.drop a
theorem piv_drop : ∀ (a : Nat) (v : Vec), a ≤ piv v → piv (v.drop a) = piv v - a
  | 0, v, _ => rfl
  | a + 1, [], h => by simp [piv] at h
  | a + 1, x :: v, h => by
    by_cases q : x = 0
    · have e : piv (x :: v) = piv v + 1 := by
        show (if x ≠ 0 then 0 else piv v + 1) = _
        rw [if_neg (fun z => z q)]
      rw [e] at h ⊢
      show piv (v.drop a) = _
      rw [piv_drop a v (by omega)]; omega
    · have e : piv (x :: v) = 0 := if_pos q
      rw [e] at h; omega
theorem filter_all {n a : Nat} {c : Nat} {B : List Vec} (e : Ech n c B) (h : a ≤ c) : B.filter (fun r => decide (a ≤ piv r)) = B := by
  rw [List.filter_eq_self]
  intro r hr
  have := (e.row r hr).2.1
  exact decide_eq_true (by omega)
theorem In.behind {n a : Nat} : ∀ {c : Nat} {B : List Vec} {f : Nat → Int}, Ech n c B → In B f → (∀ i, i < a → f i = 0) → In (B.filter fun r => decide (a ≤ piv r)) f
  | _, [], _, _, h, _ => h
  | c, r :: rs, f, e, h, z => by
    by_cases q : a ≤ piv r
    · rw [filter_all (n := n) (c := piv r) (B := r :: rs) (show Ech n (piv r) (r :: rs) from ⟨e.1, Nat.le_refl _, e.2.2⟩) q]; exact h
    · rw [List.filter_cons_of_neg (by simpa using q)]
      exact In.behind e.2.2.2 (In.tail e h (z _ (by omega))) z
theorem In.shift {a : Nat} : ∀ {B : List Vec} {f : Nat → Int}, In B f → In (B.map fun r => r.drop a) (sh a f)
  | [], f, h => fun i => h (a + i)
  | r :: rs, f, ⟨x, h⟩ => ⟨x, by
    have := In.shift (a := a) h
    exact (In.cl _).of (t := 0) this (In.cl _).zero fun i => by
      show f (a + i) - x * itm (r.drop a) i = f (a + i) - x * itm r (a + i) + 0 * 0
      rw [itm_drop]; omega⟩
theorem In.unshift {a : Nat} : ∀ {B : List Vec} {f : Nat → Int}, (∀ r ∈ B, ∀ i, i < a → itm r i = 0) → (∀ i, i < a → f i = 0) → In (B.map fun r => r.drop a) (sh a f) → In B f
  | [], f, _, z, h => fun i => by
    by_cases q : i < a
    · exact z i q
    · have : f (a + (i - a)) = 0 := h (i - a)
      rwa [show a + (i - a) = i by omega] at this
  | r :: rs, f, hr, z, ⟨x, h⟩ => by
    obtain ⟨r1, r2⟩ := List.forall_mem_cons.mp hr
    refine ⟨x, In.unshift r2 (fun i hi => by show f i - x * itm r i = 0; rw [z i hi, r1 i hi]; omega) ?_⟩
    exact (In.cl _).of (t := 0) h (In.cl _).zero fun i => by
      show f (a + i) - x * itm r (a + i) = f (a + i) - x * itm (r.drop a) i + 0 * 0
      rw [itm_drop]; omega
theorem Ech.filter {n a : Nat} : ∀ {c : Nat} {B : List Vec}, Ech n c B → Ech n a (B.filter fun r => decide (a ≤ piv r))
  | _, [], _ => trivial
  | c, r :: rs, e => by
    by_cases q : a ≤ piv r
    · rw [filter_all (n := n) (c := piv r) (B := r :: rs) (show Ech n (piv r) (r :: rs) from ⟨e.1, Nat.le_refl _, e.2.2⟩) q]
      exact ⟨e.1, q, e.2.2⟩
    · rw [List.filter_cons_of_neg (by simpa using q)]
      exact Ech.filter e.2.2.2
theorem Ech.dropped {n a : Nat} : ∀ {c : Nat} {B : List Vec}, Ech n c B → a ≤ c → Ech (n - a) (c - a) (B.map fun r => r.drop a)
  | _, [], _, _ => trivial
  | c, r :: rs, e, h => by
    have p := piv_drop a r (by have := e.2.1; omega)
    have e1 := e.2.1
    have e2 := e.2.2.1
    refine ⟨by rw [List.length_drop, e.1], by rw [p]; omega, by rw [p]; omega, ?_⟩
    have := Ech.dropped (a := a) e.2.2.2 (by omega)
    rw [p, show piv r - a + 1 = piv r + 1 - a by omega]
    exact this
theorem free_ech {n a : Nat} {c : Nat} {B : List Vec} (e : Ech n c B) : Ech (n - a) 0 (freeR a B) := by
  have := Ech.dropped (a := a) (Ech.filter (a := a) e) (Nat.le_refl _)
  rw [Nat.sub_self] at this
  exact this
theorem free_in {n a : Nat} {B : List Vec} (e : Ech n 0 B) (g : Nat → Int) : In (freeR a B) g ↔ In B fun j => if j < a then 0 else g (j - a) := by
  have es : sh a (fun j => if j < a then 0 else g (j - a)) = g := funext fun i => by
    show (if a + i < a then (0 : Int) else g (a + i - a)) = g i
    rw [if_neg (by omega), show a + i - a = i by omega]
  constructor
  · intro h
    have h1 : In (B.filter fun r => decide (a ≤ piv r)) fun j => if j < a then 0 else g (j - a) := by
      refine In.unshift (a := a) (fun r hr i hi => (Ech.filter e).zero hr hi) (fun i hi => if_pos hi) ?_
      rw [es]; exact h
    exact In.sub (In.cl B) (fun r hr => In.mem _ _ (List.mem_filter.mp hr).1) h1
  · intro h
    have := In.shift (a := a) (In.behind e h fun i hi => if_pos hi)
    rw [es] at this
    exact this
theorem Hn.filter {n a : Nat} : ∀ {c : Nat} {B : List Vec}, Ech n c B → Hn B → Hn (B.filter fun r => decide (a ≤ piv r))
  | _, [], _, _ => trivial
  | c, r :: rs, e, h => by
    by_cases q : a ≤ piv r
    · rw [filter_all (n := n) (c := piv r) (B := r :: rs) (show Ech n (piv r) (r :: rs) from ⟨e.1, Nat.le_refl _, e.2.2⟩) q]; exact h
    · rw [List.filter_cons_of_neg (by simpa using q)]
      exact Hn.filter e.2.2.2 h.2.2
theorem Hn.dropped {n a : Nat} : ∀ {c : Nat} {B : List Vec}, Ech n c B → a ≤ c → Hn B → Hn (B.map fun r => r.drop a)
  | _, [], _, _, _ => trivial
  | c, r :: rs, e, h, hn => by
    have e1 := e.2.1
    have p := piv_drop a r (by omega)
    refine ⟨fun s hs => ?_, ?_, Hn.dropped (a := a) e.2.2.2 (by omega) hn.2.2⟩
    · obtain ⟨t, ht, rfl⟩ := List.mem_map.mp hs
      have pt := (e.2.2.2.row t ht).2.1
      have p2 := piv_drop a t (by omega)
      have := hn.1 t ht
      rw [p2, itm_drop, itm_drop, show a + (piv t - a) = piv t by omega]
      exact this
    · rw [p, itm_drop, show a + (piv r - a) = piv r by omega]
      exact hn.2.1
theorem free_hn {n a : Nat} {B : List Vec} (e : Ech n 0 B) (h : Hn B) : Hn (freeR a B) := Hn.dropped (Ech.filter e) (Nat.le_refl _) (Hn.filter e h)
/-! ## what is left of a target -/
theorem rest_zero {n a : Nat} {B : List Vec} {u : Vec} {f : Nat → Int} (eB : Ech n 0 B) (l : u.length = n) (hf : In B f) (h : ∀ i, i < a → f i = itm u i) : ∀ i, i < a → itm (redV B u) i = 0 := by
  have lB : ∀ r ∈ B, r.length = u.length := fun r hr => (eB.row r hr).1.trans l.symm
  have hd : In B fun i => itm u i - itm (redV B u) i := redV_diff (In.cl B) B u lB fun r hr => In.mem _ _ hr
  have hin : In B fun i => f i - itm u i + itm (redV B u) i := (In.cl B).of (t := -1) hf hd fun i => by omega
  rcases lead eB hin with z | ⟨s, hs, c, hc, zz, y⟩
  · intro i hi
    have := z i
    have := h i hi
    omega
  · intro i hi
    by_cases q : piv s < a
    · have e := h _ q
      have y' : f (piv s) - itm u (piv s) + itm (redV B u) (piv s) = c * itm s (piv s) := y
      have sm := redV_small eB l s hs
      have e2 : (itm (redV B u) (piv s)).natAbs = (c * itm s (piv s)).natAbs := by rw [← y']; congr 1; omega
      rw [Int.natAbs_mul] at e2
      have := Nat.le_mul_of_pos_left (itm s (piv s)).natAbs (Int.natAbs_pos.mpr hc)
      omega
    · have := zz i (by omega)
      have := h i hi
      omega
def srcPt (a : Nat) (B : List Vec) (u : Vec) : Option Vec := if piv (redV B u) < a then none else some (((redV B u).drop a).map fun m => -m)
def srcFr (a : Nat) (B : List Vec) (u : Vec) : List Vec := if piv (redV B u) < a then [] else freeR a B
theorem itm_neg (v : Vec) (i : Nat) : itm (v.map fun m => -m) i = -itm v i := by
  unfold itm
  rw [List.getD_eq_getElem?_getD, List.getD_eq_getElem?_getD, List.getElem?_map]
  cases v[i]? <;> rfl
/-! ## forms -/
def dotF : Vec → (Nat → Int) → Int
  | [], _ => 0
  | x :: r, g => x * g 0 + dotF r fun i => g (i + 1)
theorem dotF_add : ∀ (r : Vec) (f h : Nat → Int) (t : Int), dotF r (fun i => f i + t * h i) = dotF r f + t * dotF r h
  | [], _, _, t => by show (0 : Int) = 0 + t * 0; omega
  | x :: r, f, h, t => by
    have ih := dotF_add r (fun i => f (i + 1)) (fun i => h (i + 1)) t
    show x * (f 0 + t * h 0) + dotF r (fun i => f (i + 1) + t * h (i + 1)) = (x * f 0 + dotF r fun i => f (i + 1)) + t * (x * h 0 + dotF r fun i => h (i + 1))
    rw [ih]; grind
theorem dotF_zero : ∀ (r : Vec), dotF r (fun _ => 0) = 0
  | [] => rfl
  | x :: r => by
    show x * 0 + dotF r (fun _ => 0) = 0
    rw [dotF_zero r]; omega
theorem dotF_congr : ∀ {r : Vec} {f g : Nat → Int}, (∀ i, i < r.length → f i = g i) → dotF r f = dotF r g
  | [], _, _, _ => rfl
  | x :: r, f, g, h => by
    show x * f 0 + dotF r (fun i => f (i + 1)) = x * g 0 + dotF r fun i => g (i + 1)
    rw [h 0 (Nat.succ_pos _), dotF_congr fun i hi => h (i + 1) (Nat.succ_lt_succ hi)]
theorem dotF_unit : ∀ (r : Vec) (p : Nat), dotF r (fun i => if i = p then 1 else 0) = itm r p
  | [], p => by unfold itm; simp [dotF]
  | x :: r, 0 => by
    show x * (if 0 = 0 then 1 else 0) + dotF r (fun i => if i + 1 = 0 then 1 else 0) = x
    rw [dotF_congr (g := fun _ => 0) fun i _ => if_neg (by omega), dotF_zero]; simp
  | x :: r, p + 1 => by
    show x * (if 0 = p + 1 then 1 else 0) + dotF r (fun i => if i + 1 = p + 1 then 1 else 0) = itm r p
    rw [dotF_congr (g := fun i => if i = p then 1 else 0) fun i _ => by
      by_cases q : i = p
      · rw [if_pos (by omega), if_pos q]
      · rw [if_neg (by omega), if_neg q], dotF_unit r p, if_neg (by omega)]; omega
def rowAt (F : List Vec) (j : Nat) : Vec := F.getD j []
def Solves (F : List Vec) (b : Nat → Int) (g : Nat → Int) : Prop := ∀ j, j < F.length → dotF (rowAt F j) g = b j
def colV (F : List Vec) (p : Nat) : Vec := F.map fun r => itm r p
theorem colV_len (F : List Vec) (p : Nat) : (colV F p).length = F.length := List.length_map _
theorem colV_at (F : List Vec) (p j : Nat) : itm (colV F p) j = itm (rowAt F j) p := by
  unfold colV rowAt itm
  rw [List.getD_eq_getElem?_getD, List.getElem?_map, List.getD_eq_getElem?_getD, List.getD_eq_getElem?_getD]
  cases F[j]? <;> simp
/-- (forms at v, v) -/
def Graph (F : List Vec) (w : Nat) (f : Nat → Int) : Prop := Solves F f (sh F.length f) ∧ ∀ i, F.length + w ≤ i → f i = 0
theorem Graph.cl (F : List Vec) (w : Nat) : Cl (Graph F w) :=
  ⟨⟨fun j _ => dotF_zero _, fun _ _ => rfl⟩, fun f h t a b => ⟨fun j hj => by
    have := dotF_add (rowAt F j) (sh F.length f) (sh F.length h) t
    show dotF (rowAt F j) (fun i => sh F.length f i + t * sh F.length h i) = f j + t * h j
    rw [this, a.1 j hj, b.1 j hj], fun i hi => by show f i + t * h i = 0; rw [a.2 i hi, b.2 i hi]; omega⟩⟩
end Lat
namespace K06
open PySem L2 RZ Lat
def gensOf (F : List Vec) (w : Nat) : List Vec := (List.range w).map fun p => colV F p ++ unitV w p
theorem gens_graph {F : List Vec} {w : Nat} : ∀ g ∈ gensOf F w, Graph F w (itm g) := fun g hg => by
  obtain ⟨p, hp, rfl⟩ := List.mem_map.mp hg
  have hp' := List.mem_range.mp hp
  refine ⟨fun j hj => ?_, fun i hi => itm_out (by rw [List.length_append, colV_len, unitV_len]; exact hi)⟩
  rw [itm_app, colV_len, if_pos hj, colV_at, ← dotF_unit]
  refine dotF_congr fun i _ => ?_
  show itm (colV F p ++ unitV w p) (F.length + i) = _
  rw [itm_app, colV_len, if_neg (by omega), show F.length + i - F.length = i by omega, itm_unit hp']
theorem graph_gens {F : List Vec} {w : Nat} (lF : ∀ r ∈ F, r.length = w) {S : (Nat → Int) → Prop} (C : Cl S) (hS : ∀ g ∈ gensOf F w, S (itm g)) {f : Nat → Int} (h : Graph F w f) : S f := by
  have step : ∀ k, k ≤ w → S fun i => if i < F.length then dotF (rowAt F i) (fun t => if t < k then f (F.length + t) else 0) else if i - F.length < k then f i else 0 := by
    intro k
    induction k with
    | zero =>
      intro _
      refine C.of (t := 0) C.zero C.zero fun i => ?_
      by_cases q : i < F.length
      · rw [if_pos q, dotF_congr (g := fun _ => 0) fun t _ => if_neg (Nat.not_lt_zero _), dotF_zero]; omega
      · rw [if_neg q, if_neg (Nat.not_lt_zero _)]; omega
    | succ k ih =>
      intro hk
      refine C.of (t := f (F.length + k)) (ih (by omega)) (hS _ (List.mem_map.mpr ⟨k, List.mem_range.mpr (by omega), rfl⟩)) fun i => ?_
      rw [itm_app, colV_len]
      by_cases q : i < F.length
      · rw [if_pos q, if_pos q, if_pos q, colV_at, ← dotF_unit, ← dotF_add]
        refine dotF_congr fun t _ => ?_
        by_cases e : t = k
        · subst e; rw [if_pos (by omega), if_neg (by omega), if_pos rfl]; omega
        · by_cases g : t < k
          · rw [if_pos (by omega), if_pos g, if_neg e]; omega
          · rw [if_neg (by omega), if_neg g, if_neg e]; omega
      · rw [if_neg q, if_neg q, if_neg q, itm_unit (by omega)]
        by_cases e : i - F.length = k
        · rw [if_pos (by omega), if_neg (by omega), if_pos e, show F.length + k = i by omega]; omega
        · by_cases g : i - F.length < k
          · rw [if_pos (by omega), if_pos g, if_neg e]; omega
          · rw [if_neg (by omega), if_neg g, if_neg e]; omega
  refine C.of (t := 0) (step w (Nat.le_refl _)) C.zero fun i => ?_
  by_cases q : i < F.length
  · rw [if_pos q, ← h.1 i q]
    have lr : (rowAt F i).length = w := lF _ (by
      unfold rowAt
      rw [List.getD_eq_getElem?_getD, List.getElem?_eq_getElem q]
      exact List.getElem_mem q)
    have e : dotF (rowAt F i) (fun t => if t < w then f (F.length + t) else 0) = dotF (rowAt F i) (sh F.length f) := dotF_congr fun t ht => if_pos (by omega)
    rw [e]; omega
  · rw [if_neg q]
    by_cases g : i - F.length < w
    · rw [if_pos g]; omega
    · rw [if_neg g, h.2 i (by omega)]; omega
end K06

namespace K06
open PySem L2 RZ Lat
theorem canon_same {n : Nat} {B : List Vec} (e : Ech n 0 B) (h : Hn B) : grows [] B = B :=
  bas_one (n := n) (bas_of fun r hr => (e.row r hr).1) ⟨e, h, fun S C => Iff.rfl⟩ fun S C => Iff.rfl
/-- reduced by one family, vectors that differ by one of its lattice are one -/
theorem red_one {n : Nat} {B : List Vec} (eB : Ech n 0 B) (pB : PosP B) {v u : Vec} (lv : v.length = n) (lu : u.length = n) (h : In B fun i => itm v i - itm u i) : redV B v = redV B u := by
  have lBv : ∀ r ∈ B, r.length = v.length := fun r hr => (eB.row r hr).1.trans lv.symm
  have lBu : ∀ r ∈ B, r.length = u.length := fun r hr => (eB.row r hr).1.trans lu.symm
  have d1 : In B fun i => itm v i - itm (redV B v) i := redV_diff (In.cl B) B v lBv fun r hr => In.mem _ _ hr
  have d2 : In B fun i => itm u i - itm (redV B u) i := redV_diff (In.cl B) B u lBu fun r hr => In.mem _ _ hr
  have d3 : In B fun i => itm (redV B v) i - itm (redV B u) i := (In.cl B).of (t := -1) ((In.cl B).of (t := 1) h d2 fun i => rfl) d1 fun i => by omega
  refine vec_ext ((redV_len B v lBv).trans (lv.trans (lu.symm.trans (redV_len B u lBu).symm))) fun i => ?_
  rcases lead eB d3 with z | ⟨s, hs, c, hc, _, y⟩
  · have := z i; omega
  · exfalso
    have sp := pB s hs
    have r1 := redV_rng eB pB lv s hs
    have r2 := redV_rng eB pB lu s hs
    have y' : itm (redV B v) (piv s) - itm (redV B u) (piv s) = c * itm s (piv s) := y
    have e2 : (itm (redV B v) (piv s) - itm (redV B u) (piv s)).natAbs = (c * itm s (piv s)).natAbs := by rw [y']
    rw [Int.natAbs_mul] at e2
    have := Nat.le_mul_of_pos_left (itm s (piv s)).natAbs (Int.natAbs_pos.mpr hc)
    omega
/-- all vectors at which the forms have these values, by a point and a basis -/
structure SolF (w : Nat) (F : List Vec) (b : Nat → Int) (X : Nat) (o : Option Vec) (B : List Vec) : Prop where
  ech : Ech w 0 B
  hn : Hn B
  siz : ∀ s ∈ B, ∀ i, (itm s i).natAbs ≤ 2 ^ X
  no : o = none → B = [] ∧ ∀ g, (∀ i, w ≤ i → g i = 0) → ¬ Solves F b g
  yes : ∀ p, o = some p → p.length = w ∧ Solves F b (itm p) ∧ redV B p = p
  ker : ∀ p, o = some p → ∀ g, In B g ↔ ((∀ i, w ≤ i → g i = 0) ∧ Solves F (fun _ => 0) g)
theorem Solves.sub {F : List Vec} {b c f g : Nat → Int} (h : Solves F b f) (k : Solves F c g) : Solves F (fun j => b j - c j) fun i => f i - g i := fun j hj => by
  have := dotF_add (rowAt F j) f g (-1)
  show dotF (rowAt F j) (fun i => f i - g i) = b j - c j
  rw [show (fun i => f i - g i) = fun i => f i + -1 * g i from funext fun i => by omega, this, h j hj, k j hj]; omega
theorem Solves.congr {F : List Vec} {b c f : Nat → Int} (h : Solves F b f) (e : ∀ j, j < F.length → b j = c j) : Solves F c f := fun j hj => (h j hj).trans (e j hj)
/-- in it just if all forms have these values -/
theorem SolF.mem {w X : Nat} {F : List Vec} {b : Nat → Int} {p : Vec} {B : List Vec} (h : SolF w F b X (some p) B) {v : Vec} (l : v.length = w) : redV B v = p ↔ Solves F b (itm v) := by
  obtain ⟨lp, sp, rp⟩ := h.yes p rfl
  have zo : ∀ (u : Vec), u.length = w → ∀ i, w ≤ i → itm u i = 0 := fun u hu i hi => itm_out (by omega)
  constructor
  · intro e
    have lB : ∀ r ∈ B, r.length = v.length := fun r hr => (h.ech.row r hr).1.trans l.symm
    have d : In B fun i => itm v i - itm (redV B v) i := redV_diff (In.cl B) B v lB fun r hr => In.mem _ _ hr
    rw [e] at d
    have k := ((h.ker p rfl _).mp d).2
    refine fun j hj => ?_
    have a : dotF (rowAt F j) (fun i => itm v i - itm p i) = 0 := k j hj
    have q := dotF_add (rowAt F j) (itm v) (itm p) (-1)
    rw [show (fun i => itm v i - itm p i) = fun i => itm v i + -1 * itm p i from funext fun i => by omega, q, sp j hj] at a
    omega
  · intro e
    rw [← rp]
    refine red_one h.ech h.hn.pos l lp ((h.ker p rfl _).mpr ⟨fun i hi => by rw [zo v l i hi, zo p lp i hi]; omega, ?_⟩)
    exact Solves.congr (Solves.sub e sp) fun j _ => by show b j - b j = 0; omega
theorem SolF.one {w X Y : Nat} {F G : List Vec} {b c : Nat → Int} {o o' : Option Vec} {B B' : List Vec} (h : SolF w F b X o B) (k : SolF w G c Y o' B') (e : ∀ g, (∀ i, w ≤ i → g i = 0) → (Solves F b g ↔ Solves G c g)) : o = o' ∧ B = B' := by
  have zo : ∀ (u : Vec), u.length = w → ∀ i, w ≤ i → itm u i = 0 := fun u hu i hi => itm_out (by omega)
  cases o with
  | none =>
    obtain ⟨hB, hn⟩ := h.no rfl
    cases o' with
    | none => exact ⟨rfl, hB.trans (k.no rfl).1.symm⟩
    | some p =>
      obtain ⟨lp, sp, _⟩ := k.yes p rfl
      exact absurd ((e _ (zo p lp)).mpr sp) (hn _ (zo p lp))
  | some p =>
    obtain ⟨lp, sp, rp⟩ := h.yes p rfl
    cases o' with
    | none => exact absurd ((e _ (zo p lp)).mp sp) ((k.no rfl).2 _ (zo p lp))
    | some q =>
      obtain ⟨lq, sq, rq⟩ := k.yes q rfl
      have sp' := (e _ (zo p lp)).mp sp
      have hk : ∀ g, In B g ↔ In B' g := fun g => by
        rw [h.ker p rfl, k.ker q rfl]
        refine and_congr_right fun z => ?_
        have q1 := e (fun i => itm p i + g i) fun i hi => by rw [zo p lp i hi, z i hi]; omega
        have a1 : ∀ j, dotF (rowAt F j) (fun i => itm p i + g i) = dotF (rowAt F j) (itm p) + dotF (rowAt F j) g := fun j => by
          have := dotF_add (rowAt F j) (itm p) g 1
          rw [show (fun i => itm p i + g i) = fun i => itm p i + 1 * g i from funext fun i => by omega, this]; omega
        have a2 : ∀ j, dotF (rowAt G j) (fun i => itm p i + g i) = dotF (rowAt G j) (itm p) + dotF (rowAt G j) g := fun j => by
          have := dotF_add (rowAt G j) (itm p) g 1
          rw [show (fun i => itm p i + g i) = fun i => itm p i + 1 * g i from funext fun i => by omega, this]; omega
        constructor
        · intro s j hj
          have := q1.mp (fun j hj => by have s' : dotF (rowAt F j) g = 0 := s j hj; rw [a1, sp j hj, s']; omega) j hj
          rw [a2, sp' j hj] at this
          show dotF (rowAt G j) g = 0
          omega
        · intro s j hj
          have := q1.mpr (fun j hj => by have s' : dotF (rowAt G j) g = 0 := s j hj; rw [a2, sp' j hj, s']; omega) j hj
          rw [a1, sp j hj] at this
          show dotF (rowAt F j) g = 0
          omega
      have eB : B = B' := hn_one h.ech k.ech h.hn k.hn (fun r hr => (hk _).mp (In.mem _ _ hr)) fun r hr => (hk _).mpr (In.mem _ _ hr)
      subst eB
      refine ⟨congrArg some ?_, rfl⟩
      rw [← rp, ← rq]
      refine red_one h.ech h.hn.pos lp lq ((h.ker p rfl _).mpr ⟨fun i hi => by rw [zo p lp i hi, zo q lq i hi]; omega, ?_⟩)
      have sq' := (e _ (zo q lq)).mpr sq
      exact Solves.congr (Solves.sub sp sq') fun j _ => by show b j - b j = 0; omega
/-! ## what solving makes -/
def gB (F : List Vec) (w : Nat) : List Vec := grows [] (gensOf F w)
def tgt (w : Nat) (b : Vec) : Vec := b ++ zer w
structure Srcd (w : Nat) (F : List Vec) (b : Vec) (X Y : Nat) (o : Option Vec) (fr : List Vec) : Prop where
  len : ∀ r ∈ fr, r.length = w
  ech : Ech w 0 fr
  hn : Hn fr
  siz : ∀ s ∈ fr, ∀ i, (itm s i).natAbs ≤ 2 ^ X
  none' : o = none → fr = []
  pt : ∀ p, o = some p → p.length = w ∧ ∀ i, (itm p i).natAbs ≤ 2 ^ Y
  sol : SolF w F (itm b) X (o.map (redV fr)) fr
theorem gens_row {F : List Vec} {w x : Nat} (hF : ∀ r ∈ F, ∀ i, (itm r i).natAbs ≤ 2 ^ x) : ∀ r ∈ gensOf F w, r.length = F.length + w ∧ ∀ i, (itm r i).natAbs ≤ 2 ^ x := fun g hg => by
  obtain ⟨p, hp, rfl⟩ := List.mem_map.mp hg
  refine ⟨by rw [List.length_append, colV_len, unitV_len], fun i => ?_⟩
  rw [itm_app]
  split
  · rename_i h
    rw [colV_len] at h
    rw [colV_at]
    refine hF _ ?_ p
    unfold rowAt
    rw [List.getD_eq_getElem?_getD, List.getElem?_eq_getElem h]
    exact List.getElem_mem h
  · rw [itm_unit (List.mem_range.mp hp)]
    have := Nat.one_le_two_pow (n := x)
    split
    · exact this
    · exact Nat.zero_le _
theorem gens_len (F : List Vec) (w : Nat) : (gensOf F w).length = w := by unfold gensOf; rw [List.length_map, List.length_range]
theorem gens_rws {F : List Vec} {w x κ : Nat} (fit : Fit x κ) (wκ : w ≤ κ) (hF : ∀ r ∈ F, ∀ i, (itm r i).natAbs ≤ 2 ^ x) : Rws x (F.length + w) κ (gensOf F w) :=
  ⟨fit, by rw [gens_len]; have := fit.2.1; omega, .inr (by rw [gens_len]; exact wκ), gens_row hF⟩
theorem tgt_len {w : Nat} {b : Vec} {m : Nat} (l : b.length = m) : (tgt w b).length = m + w := by
  unfold tgt zer; rw [List.length_append, List.length_replicate, l]
theorem tgt_itm {w : Nat} {b : Vec} (i : Nat) : itm (tgt w b) i = if i < b.length then itm b i else 0 := by
  unfold tgt
  rw [itm_app]
  split
  · rfl
  · unfold zer itm
    rw [List.getD_eq_getElem?_getD, List.getElem?_replicate]
    split <;> rfl
theorem sourced {F : List Vec} {w x κ y : Nat} {b : Vec} (fit : Fit x κ) (wκ : w ≤ κ) (lF : ∀ r ∈ F, r.length = w) (hF : ∀ r ∈ F, ∀ i, (itm r i).natAbs ≤ 2 ^ x) (lb : b.length = F.length) (yx : x ≤ y) (yP : (x + 5) * κ ≤ y) (hb : ∀ i, (itm b i).natAbs ≤ 2 ^ y) :
    Srcd w F b (E1 x κ) (x + 5 + (y + 7) * κ) (srcPt F.length (gB F w) (tgt w b)) (srcFr F.length (gB F w) (tgt w b)) := by
  have R := gens_rws fit wκ hF
  have eB : Ech (F.length + w) 0 (gB F w) := R.gen.ech
  have hB : Hn (gB F w) := R.bas.hn
  have inG : ∀ f, In (gB F w) f ↔ Graph F w f := fun f => by
    constructor
    · intro h
      exact In.sub (Graph.cl F w) ((R.gen.cl _ (Graph.cl F w)).mpr gens_graph) h
    · intro h
      exact graph_gens lF (In.cl _) ((R.gen.cl _ (In.cl _)).mp fun r hr => In.mem _ _ hr) h
  have lt := tgt_len (w := w) lb
  have ut : ∀ i, (itm (tgt w b) i).natAbs ≤ 2 ^ y := fun i => by
    rw [tgt_itm]; split
    · exact hb i
    · exact Nat.zero_le _
  have short := red_short fit.1 R.gen lt yx yP ut
  have lR : ∀ r ∈ gB F w, r.length = (tgt w b).length := fun r hr => (eB.row r hr).1.trans lt.symm
  have lred : (redV (gB F w) (tgt w b)).length = F.length + w := (redV_len _ _ lR).trans lt
  have fe : Ech w 0 (freeR F.length (gB F w)) := by
    have := free_ech (a := F.length) eB
    rw [Nat.add_sub_cancel_left] at this
    exact this
  have fh : Hn (freeR F.length (gB F w)) := free_hn eB hB
  have fs : ∀ s ∈ freeR F.length (gB F w), ∀ i, (itm s i).natAbs ≤ 2 ^ E1 x κ := fun s hs i => by
    obtain ⟨t, ht, rfl⟩ := List.mem_map.mp hs
    rw [itm_drop]
    exact R.size t (List.mem_filter.mp ht).1 _
  have fk : ∀ g, In (freeR F.length (gB F w)) g ↔ ((∀ i, w ≤ i → g i = 0) ∧ Solves F (fun _ => 0) g) := fun g => by
    rw [free_in eB, inG]
    have es : sh F.length (fun j => if j < F.length then 0 else g (j - F.length)) = g := funext fun i => by
      show (if F.length + i < F.length then (0 : Int) else g (F.length + i - F.length)) = g i
      rw [if_neg (by omega), show F.length + i - F.length = i by omega]
    constructor
    · rintro ⟨a, z⟩
      rw [es] at a
      refine ⟨fun i hi => ?_, fun j hj => (a j hj).trans (if_pos hj)⟩
      have : (if F.length + i < F.length then (0 : Int) else g (F.length + i - F.length)) = 0 := z (F.length + i) (by omega)
      rwa [if_neg (by omega), show F.length + i - F.length = i by omega] at this
    · rintro ⟨z, a⟩
      refine ⟨?_, fun i hi => by show (if i < F.length then (0 : Int) else g (i - F.length)) = 0; rw [if_neg (by omega)]; exact z _ (by omega)⟩
      rw [es]
      exact fun j hj => (a j hj).trans (if_pos hj).symm
  by_cases q : piv (redV (gB F w) (tgt w b)) < F.length
  · have e1 : srcPt F.length (gB F w) (tgt w b) = none := if_pos q
    have e2 : srcFr F.length (gB F w) (tgt w b) = [] := if_pos q
    rw [e1, e2]
    refine ⟨fun r h => (nomatch h), trivial, trivial, fun r h => (nomatch h), fun _ => rfl, fun p h => (nomatch h), ⟨trivial, trivial, fun r h => (nomatch h), fun _ => ⟨rfl, fun g z s => ?_⟩, fun p h => (nomatch h), fun p h => (nomatch h)⟩⟩
    have hin : In (gB F w) fun j => if j < F.length then itm b j else g (j - F.length) := by
      rw [inG]
      have es : sh F.length (fun j => if j < F.length then itm b j else g (j - F.length)) = g := funext fun i => by
        show (if F.length + i < F.length then itm b (F.length + i) else g (F.length + i - F.length)) = g i
        rw [if_neg (by omega), show F.length + i - F.length = i by omega]
      refine ⟨?_, fun i hi => by show (if i < F.length then itm b i else g (i - F.length)) = 0; rw [if_neg (by omega)]; exact z _ (by omega)⟩
      rw [es]
      exact fun j hj => (s j hj).trans (if_pos hj).symm
    have rz := rest_zero (a := F.length) eB lt hin fun i hi => by rw [if_pos hi, tgt_itm, if_pos (by omega)]
    have := piv_ge (c := F.length) rz (by omega)
    omega
  · have e1 : srcPt F.length (gB F w) (tgt w b) = some (((redV (gB F w) (tgt w b)).drop F.length).map fun m => -m) := if_neg q
    have e2 : srcFr F.length (gB F w) (tgt w b) = freeR F.length (gB F w) := if_neg q
    rw [e1, e2]
    have rz : ∀ i, i < F.length → itm (redV (gB F w) (tgt w b)) i = 0 := fun i hi => (piv_spec _).1 i (by omega)
    have lp : (((redV (gB F w) (tgt w b)).drop F.length).map fun m => -m).length = w := by rw [List.length_map, List.length_drop, lred]; omega
    have ip : ∀ i, itm (((redV (gB F w) (tgt w b)).drop F.length).map fun m => -m) i = -itm (redV (gB F w) (tgt w b)) (F.length + i) := fun i => by rw [itm_neg, itm_drop]
    generalize (((redV (gB F w) (tgt w b)).drop F.length).map fun m => -m) = p at lp ip ⊢
    have hd : Graph F w fun i => itm (tgt w b) i - itm (redV (gB F w) (tgt w b)) i := (inG _).mp (redV_diff (In.cl _) _ _ lR fun r hr => In.mem _ _ hr)
    have sp : Solves F (itm b) (itm p) := fun j hj => by
      have a := hd.1 j hj
      have es : sh F.length (fun i => itm (tgt w b) i - itm (redV (gB F w) (tgt w b)) i) = itm p := funext fun i => by
        show itm (tgt w b) (F.length + i) - itm (redV (gB F w) (tgt w b)) (F.length + i) = itm p i
        rw [ip, tgt_itm, if_neg (by omega)]; omega
      rw [es] at a
      have a' : dotF (rowAt F j) (itm p) = itm (tgt w b) j - itm (redV (gB F w) (tgt w b)) j := a
      rw [a', rz j hj, tgt_itm, if_pos (by omega)]; omega
    have lfr : ∀ r ∈ freeR F.length (gB F w), r.length = w := fun r hr => (fe.row r hr).1
    have lp' : (redV (freeR F.length (gB F w)) p).length = w := (redV_len _ _ fun r hr => (lfr r hr).trans lp.symm).trans lp
    have dp : In (freeR F.length (gB F w)) fun i => itm p i - itm (redV (freeR F.length (gB F w)) p) i := redV_diff (In.cl _) _ _ (fun r hr => (lfr r hr).trans lp.symm) fun r hr => In.mem _ _ hr
    refine ⟨lfr, fe, fh, fs, fun h => (nomatch h), fun p' h => ?_, ⟨fe, fh, fs, fun h => (nomatch h), fun p' h => ?_, fun _ _ => fk⟩⟩
    · cases h
      exact ⟨lp, fun i => by rw [ip, Int.natAbs_neg]; exact short _⟩
    · cases h
      refine ⟨lp', ?_, red_one fe fh.pos lp' lp ((In.cl _).of (t := -1) (In.cl _).zero dp fun i => by omega)⟩
      intro j hj
      have a : dotF (rowAt F j) (fun i => itm p i - itm (redV (freeR F.length (gB F w)) p) i) = 0 := ((fk _).mp dp).2 j hj
      have q := dotF_add (rowAt F j) (itm p) (itm (redV (freeR F.length (gB F w)) p)) (-1)
      rw [show (fun i => itm p i - itm (redV (freeR F.length (gB F w)) p) i) = fun i => itm p i + -1 * itm (redV (freeR F.length (gB F w)) p) i from funext fun i => by omega, q, sp j hj] at a
      omega
end K06

namespace K06
open PySem L2 RZ Lat
section
variable {P : Program} {w : World} {K : PySem.W.Frag} {mg : Str → Option Value} {base : Heap}
theorem zer_one (n : Nat) : (List.replicate n [V.int 0]).flatten = (zer n).map V.int := zer_map n
def appR (is rs : List Vec) : List Vec := List.zipWith (· ++ ·) is rs
abbrev s_sources : Stmt := top 29
abbrev n_sources : List Str := ["images", "rows", "target", "width", "ahead", "both", "rest", "free", "row", "image", "number"]
theorem sc_sources : FnScope n_sources ["images", "rows", "target", "width"] (defScope s_sources) := ⟨rfl, rfl, rfl, by decide +kernel, rfl, by decide +kernel, by decide +kernel⟩
def spSources : Sp := fun vs H Q _ => ∃ (im rw' tg : Addr) (ia ra : List V) (is rs : List Vec) (u : Vec) (m n : Nat), vs = [.ref im, .ref rw', .ref tg, .int ((n : Nat) : Int)] ∧ H im = some (.lst ia) ∧ H rw' = some (.lst ra) ∧ Rows H m ia is ∧ Rows H n ra rs ∧ is.length = rs.length ∧ IsV H tg u ∧ u.length = m ∧ 1 ≤ n ∧ n ≤ 60 ∧ m ≤ 60 ∧ rs.length ≤ 60 ∧
  OkGrows [] (appR is rs) ∧ OkRed (grows [] (appR is rs)) (tgt n u) ∧ (grows [] (appR is rs)).length ≤ 100 ∧ ∀ (H' : Hp) (t l : Addr) (pv : V) (as : List V), Same H H' → H' t = some (.tup [pv, .ref l]) → PtAt H' n pv (srcPt m (grows [] (appR is rs)) (tgt n u)) → H' l = some (.lst as) → Rows H' n as (srcFr m (grows [] (appR is rs)) (tgt n u)) → Q (.ref t) H'
theorem ok_sources {C fL fR : Addr} {fdL fdR : FuncData} (T : Txt mg) (CL : ClsL K mg C) (ML : Mk K C fL) (g_lattice : FnOk P w K mg base CX0 5 fL fdL ["self", "width", "rows"] (spLattice K C)) (bL : Binds K fdL ["self", "width", "rows"] [])
    (mR : Meth K C "reduced" fR) (g_reduced : FnOk P w K mg base CX0 3 fR fdR ["self", "vector"] (spRedM C)) (bR : Binds K fdR ["self", "vector"] []) (g_pivot_of : Has P w K mg base 1 "pivot_of" ["vector"] spPivot)
    (F : DefAt K mg "sources" s_sources ["images", "rows", "target", "width"]) : Has P w K mg base 7 "sources" ["images", "rows", "target", "width"] spSources := by
  refine F.has sc_sources (fun vs H Q E h => ?_) (fun f cdv A outer s H vs Q E hr h => ?_)
  · obtain ⟨im, rw', tg, ia, ra, is, rs, u, m, n, rfl, _⟩ := h
    rfl
  · obtain ⟨im, rw', tg, ia, ra, is, rs, u, m, n, rfl, him, hrw, hia, hra, ll, hu, lu, n1, n60, m60, r60, okG, okR, hBn, k⟩ := h
    refine ⟨_, (pss_cons (ps_set (i := 4) sc_sources.nd rfl (Or.inr rfl) (pe_callB call_len (by rfl) T.z_len (by decide +kernel) (pa_cons (pv 2) pa_nil)))
      (pss_cons (ps_set (i := 5) sc_sources.nd rfl (Or.inl rfl) (pe_make ML g_lattice (hr.mono (by decide)) rfl CL.m bL .nil pass0 (pa_cons (pe_op op_add (pv 4) (pv 3)) (pa_cons (pe_lc (own := [("image", 9), ("row", 8)]) (g := gTup K 2 (gCons (gName 9) (gCons (gName 8) gNil))) (by rfl) sc_sources.nd (pi_zipA (by rfl) T.z_zip (pa_cons (pv 0) (pa_cons (pv 1) pa_nil))) (blkOk_by (own := [("image", 9), ("row", 8)]) (N := n_sources) (sc := defScope s_sources) (by decide +kernel)) (fun _ _ _ _ _ => (pg_tup rfl (pgs_cons (pg_name (i := 9) sc_sources.nd rfl (Or.inl rfl)) (pgs_cons (pg_name (i := 8) sc_sources.nd rfl (Or.inl rfl)) pgs_nil)))) (fun _ _ _ _ _ => pts_nil) (fun _ _ _ _ _ => (pe_op (op_catFK (K := K) rfl) (pv 9) (pv 8)))) pa_nil))))
      (pss_cons (ps_set (i := 6) sc_sources.nd rfl (Or.inl rfl) (pe_meth (pv 5) CL.cl mR g_reduced (hr.mono (by decide)) bR .nil pass0 (pa_cons (pe_op op_catF (pv 2) (pe_op op_repTF (pe_tup (pa_cons pe_int pa_nil)) (pv 3))) pa_nil)))
      (pss_cons (ps_if (pt_cmpR op_lt (pe_callHas g_pivot_of (hr.mono (by decide)) rfl (pa_cons (pv 6) pa_nil)) (pv 4) (nomark _)) (pss_one (ps_ret (pe_tup (pa_cons pe_non (pa_cons (pe_lst pa_nil) pa_nil))))) pss_nil)
      (pss_cons (ps_setLc (i := 7) (own := [("row", 8)]) (g := gName 8) (by rfl) sc_sources.nd rfl rfl (sw_true rfl rfl rfl (by decide +kernel)) (pi_tupK (K := K) rfl (pe_fld (pv 5) rfl)) (blkOk_by (own := [("row", 8)]) (N := n_sources) (sc := defScope s_sources) (by decide +kernel)) (fun _ _ _ _ _ => (pg_name (i := 8) sc_sources.nd rfl (Or.inl rfl))) (fun _ _ _ _ _ => (pts_one (pt_cmpR op_ge (pe_callHas g_pivot_of (hr.mono (by decide)) rfl (pa_cons (pv 8) pa_nil)) (pv 4) (nomark _)))) (fun _ _ _ _ _ => (pe_slice (sl_tupFK (K := K) rfl) (pv 8) (po_some (pv 4)) po_none)))
      (pss_one (ps_ret (pe_tup (pa_cons (pe_callTy call_tuple_of (by rfl) T.z_tuple (by decide +kernel) (pa_cons (pe_lc (own := [("number", 10)]) (g := gName 10) (by rfl) sc_sources.nd (pi_tupK (K := K) rfl (pe_slice sl_tupF (pv 6) (po_some (pv 4)) po_none)) (blkOk_by (own := [("number", 10)]) (N := n_sources) (sc := defScope s_sources) (by decide +kernel)) (fun _ _ _ _ _ => (pg_name (i := 10) sc_sources.nd rfl (Or.inl rfl))) (fun _ _ _ _ _ => pts_nil) (fun _ _ _ _ _ => (pe_un un_neg (pv 10)))) pa_nil)) (pa_cons (pv 7) pa_nil)))))))))), ?_⟩
    refine ⟨_, rfl, _, _, rfl, .inr ⟨_, SqT.of hu, rfl⟩, ?_⟩
    rw [List.length_map, lu]
    have la : (appR is rs).length = rs.length := by unfold appR; rw [List.length_zipWith, ll, Nat.min_self]
    have hl : min ia.length ra.length = rs.length := by rw [hia.len, hra.len, ll, Nat.min_self]
    -- both
    refine ⟨_, rfl, _, rfl, _, _, rfl, rfl, _, rfl, _, rfl, im, rw', _, _, rfl, .inl ⟨SqL.of him, SqL.of hrw, fun D hD => lc_it (walk_zip (xs := ia) (ys := ra) hl.symm) (fun t H' => Same H H' ∧ ∃ os, H' D = some (.lst os) ∧ os.length = t ∧ Rows H' (m + n) os ((appR is rs).take t)) ⟨(new_at hD).1, [], upd_same, rfl, .nil, fun v hv => nomatch hv⟩ (fun t H' _ z => ⟨SqL.of (z.1 _ _ him), SqL.of (z.1 _ _ hrw)⟩) ?_ ?_⟩⟩
    · rintro t z H' H'' ht ⟨sm, os, hx, lx, hos⟩ ⟨p, y1, y2, rfl, hp, rfl, e1, e2⟩
      obtain ⟨a1, i1, f1, rfl, g1, l1⟩ := hia.at e1
      obtain ⟨a2, i2, f2, rfl, g2, l2⟩ := hra.at e2
      have sp := (new_at (o := .tup [V.ref a1, V.ref a2]) hp).1
      have smp := sm.trans sp
      refine ⟨p, _, rfl, SqT.of upd_same, rfl, _, _, rfl, _, _, rfl, rfl, rfl, ?_⟩
      refine ⟨_, rfl, _, rfl, a1, a2, _, _, rfl, rfl, SqT.of (smp _ _ g1), smp _ _ g2, (fun z => by
        have := congrArg List.length z
        rw [List.length_map, l2] at this
        exact absurd this (by show ¬ n = 0; omega)), by rw [List.length_map, List.length_map, l1, l2]; exact Nat.le_trans (Nat.add_le_add m60 n60) (by decide), fun Hb q sb hq => ?_⟩
      have spb := sp.trans sb
      refine ⟨_, spb _ _ hx, by rw [lx]; exact Nat.lt_of_lt_of_le ht (Nat.le_trans r60 (by decide)), fun y o z => by rw [upd_ne (ne_of_none z hD)]; exact spb _ _ (sm _ _ z), os ++ [.ref q], upd_same, by rw [List.length_append, lx]; rfl, ?_⟩
      have hq' : IsV Hb q (i1 ++ i2) := by
        show Hb q = some (.tup ((i1 ++ i2).map V.int))
        rw [List.map_append]; exact hq
      have et : (appR is rs).take (t + 1) = (appR is rs).take t ++ [i1 ++ i2] := by
        have e0 : (appR is rs)[t]? = some (i1 ++ i2) := by unfold appR; rw [List.getElem?_zipWith, f1, f2]
        rw [List.take_add_one, e0]; rfl
      rw [et]
      exact Rows.lst (spb _ _ hx) But.upd' ((hos.keep spb).snoc hq' (by rw [List.length_append, l1, l2]))
    rintro H2 ⟨s2, os, hx2, lx2, hos2⟩
    rw [← la, List.take_length] at hos2
    refine fun y dy hy hdy ndy => ?_
    have so : Same H2 (upd (upd H2 dy (.own y)) y (.ins C dy [])) := fun z o h => by
      rw [upd_ne (ne_of_none h hy), upd_ne (ne_of_none h hdy)]; exact h
    refine ⟨y, dy, D, m + n, os, appR is rs, rfl, upd_same, by omega, by omega, by omega, .inl (so _ _ hx2), hos2.keep so, okG, fun H3 kp3 lat => ⟨rfl, ?_⟩⟩
    have s3 : Same H2 H3 := fun z o h => kp3 z o (ne_of_none h hy) (so _ _ h)
    have s13 := s2.trans s3
    generalize hB : grows [] (appR is rs) = B at lat okR k hBn
    obtain ⟨ly, b, bs, hy3, hb3, hbs⟩ := id lat
    have bsm : B.length < sizeLine := Nat.lt_of_le_of_lt hBn (by decide)
    have nd : (lf ((m + n : Nat) : Int) b).lookup ("reduced" : Str) = none := lf_none _ _ (by decide +kernel) (by decide +kernel)
    -- rest
    refine ⟨_, rfl, y, ly, _, rfl, hy3, nd, _, rfl, (by decide : 1 ≤ sizeLine), fun z1 hz1 => ?_⟩
    obtain ⟨t1, hz1'⟩ := new_at (o := .tup [V.int 0]) hz1
    refine ⟨_, rfl, z1, n, _, rfl, rfl, hz1', (fun z => nomatch z), n1, by omega, by decide, fun H4 z2 t2 hz2 => ?_⟩
    rw [zer_one] at hz2
    have t12 := t1.trans t2
    refine ⟨tg, z2, _, _, rfl, rfl, SqT.of (t12 _ _ (s13 _ _ hu)), hz2, (fun z => by
      have := congrArg List.length z
      unfold zer at this
      rw [List.length_map, List.length_replicate] at this
      exact absurd this (by show ¬ n = 0; omega)), ?_, fun H5 q5 t5 hq5 => ?_⟩
    · unfold zer
      rw [List.length_map, List.length_map, List.length_replicate, lu]
      exact Nat.le_trans (Nat.add_le_add m60 n60) (by decide)
    have hq5' : IsV H5 q5 (tgt n u) := by
      show H5 q5 = some (.tup ((tgt n u).map V.int))
      unfold tgt
      rw [List.map_append]; exact hq5
    have lt := tgt_len (w := n) lu
    have t15 := t12.trans t5
    refine ⟨y, q5, tgt n u, B, rfl, by rw [lt]; exact lat.keep t15, hq5', by omega, okR, fun H6 r6 t6 hr6 lr6 => ?_⟩
    have s36 := t15.trans t6
    have hb6 := s36 _ _ hb3
    have hy6 := s36 _ _ hy3
    have hbs6 := hbs.keep s36
    have s06 := s13.trans s36
    have lred : (redV B (tgt n u)).length = m + n := lr6.trans lt
    clear hx2 hos2 so kp3 lat hy3 hb3 hbs nd t1 hz1' hz2 t12 hq5 hq5' t5 t15 t6 s36 s3 s2 s13
    -- if pivot_of(rest) < ahead
    refine ⟨_, rfl, r6, _, rfl, hr6, fun H7 s7 => ⟨_, rfl, _, _, rfl, rfl, _, rfl, ?_⟩⟩
    by_cases q : piv (redV B (tgt n u)) < m
    · show if decide (((piv (redV B (tgt n u)) : Nat) : Int) < ((m : Nat) : Int)) = true then _ else _
      rw [decide_eq_true (by omega), if_pos rfl]
      have e1 : srcPt m B (tgt n u) = none := if_pos q
      have e2 : srcFr m B (tgt n u) = [] := if_pos q
      rw [e1, e2] at k
      refine ⟨Nat.zero_le _, fun l hl => ⟨(by decide : 2 ≤ sizeLine), fun t ht => ?_⟩⟩
      obtain ⟨s8, hl8⟩ := new_at (o := .lst []) hl
      obtain ⟨s9, ht9⟩ := new_at (o := .tup [V.non, V.ref l]) ht
      exact k _ t l .non [] ((s06.trans s7).trans (s8.trans s9)) ht9 rfl (s9 _ _ hl8) ⟨.nil, fun v hv => nomatch hv⟩
    · show if decide (((piv (redV B (tgt n u)) : Nat) : Int) < ((m : Nat) : Int)) = true then _ else _
      rw [decide_eq_false (by omega), if_neg (by decide)]
      have e1 : srcPt m B (tgt n u) = some (((redV B (tgt n u)).drop m).map fun m => -m) := if_neg q
      have e2 : srcFr m B (tgt n u) = freeR m B := if_neg q
      rw [e1, e2] at k
      -- free
      have hb7 := s7 _ _ hb6
      have hy7 := s7 _ _ hy6
      have hbs7 := hbs6.keep s7
      have hr7 := s7 _ _ hr6
      refine ⟨_, rfl, y, C, ly, _, _, rfl, hy7, CL.cl, CL.nB, lf_basis _ _, _, rfl, ⟨_, SqT.of hb7⟩, fun D2 hD2 => lc_it (walk_tup (xs := bs)) (fun t H' => Same H7 H' ∧ ∃ os, H' D2 = some (.lst os) ∧ os.length ≤ t ∧ Rows H' n os (freeR m (B.take t))) ⟨(new_at hD2).1, [], upd_same, Nat.le_refl _, .nil, fun v hv => nomatch hv⟩ (fun t H' _ z => SqT.of (z.1 _ _ hb7)) ?_ ?_⟩
      · rintro t z H' H'' ht ⟨sm, os, hx, lx, hos⟩ ⟨rfl, ez⟩
        obtain ⟨ar, r, er, rfl, hr0, lr⟩ := (hbs7.keep sm).at ez
        refine ⟨rfl, ?_⟩
        refine ⟨_, rfl, ar, r, rfl, hr0, fun H8 s8 => ⟨_, rfl, _, _, rfl, rfl, _, rfl, ?_⟩⟩
        have ef : freeR m (B.take (t + 1)) = freeR m (B.take t) ++ freeR m [r] := by
          unfold freeR
          rw [List.take_add_one, er, List.filter_append, List.map_append]; rfl
        have hx8 := s8 _ _ hx
        have c60 : os.length < sizeLine := by
          have h1 := hbs7.len
          have h2 := (List.getElem?_eq_some_iff.mp er).1
          exact Nat.lt_of_le_of_lt (show os.length ≤ B.length by omega) bsm
        by_cases g : m ≤ piv r
        · show if decide (((m : Nat) : Int) ≤ ((piv r : Nat) : Int)) = true then _ else _
          rw [decide_eq_true (by omega), if_pos rfl]
          refine ⟨_, rfl, _, rfl, _, rfl, ar, _, m, rfl, rfl, rfl, s8 _ _ hr0, by rw [List.length_map, lr]; omega, fun H9 p s9 hp => ?_⟩
          rw [ints_drop] at hp
          refine ⟨_, s9 _ _ hx8, c60, fun y o z => by rw [upd_ne (ne_of_none z hD2)]; exact s9 _ _ (s8 _ _ (sm _ _ z)), os ++ [.ref p], upd_same, by rw [List.length_append]; show os.length + 1 ≤ t + 1; omega, ?_⟩
          rw [ef, show freeR m [r] = [r.drop m] by unfold freeR; rw [List.filter_cons_of_pos (by simpa using g)]; rfl]
          exact Rows.lst (s9 _ _ hx8) But.upd' (((hos.keep s8).keep s9).snoc hp (by rw [List.length_drop, lr]; omega))
        · show if decide (((m : Nat) : Int) ≤ ((piv r : Nat) : Int)) = true then _ else _
          rw [decide_eq_false (by omega), if_neg (by decide)]
          refine ⟨sm.trans s8, os, hx8, by omega, ?_⟩
          rw [ef, show freeR m [r] = [] by unfold freeR; rw [List.filter_cons_of_neg (by simpa using g)]; rfl, List.append_nil]
          exact hos.keep s8
      rintro H8 ⟨s8, os, hx8, lx8, hos8⟩
      rw [hbs7.len, List.take_length] at hos8
      -- the point
      have lm : ((redV B (tgt n u)).map V.int).length = m + n := by rw [List.length_map, lred]
      refine ⟨_, rfl, _, rfl, _, rfl, r6, _, m, rfl, rfl, rfl, s8 _ _ hr7, by rw [lm]; omega, fun H9 q9 s9 hq9 => ?_⟩
      rw [ints_drop] at hq9
      have lpt : ((redV B (tgt n u)).drop m).length = n := by rw [List.length_drop, lred]; omega
      generalize (redV B (tgt n u)).drop m = p0 at hq9 k lpt
      refine ⟨q9, rfl, ⟨_, SqT.of hq9⟩, fun D3 hD3 => lc_it (walk_tup (xs := p0.map V.int)) (fun t H' => Same H9 H' ∧ H' D3 = some (.lst (((p0.map fun m => -m).take t).map V.int))) ⟨(new_at hD3).1, upd_same⟩ (fun t H' _ z => SqT.of (z.1 _ _ hq9)) ?_ ?_⟩
      · rintro t z H' H'' ht ⟨sm, hD'⟩ ⟨rfl, ez⟩
        obtain ⟨m1, em1, rfl⟩ := map_at ez
        refine ⟨rfl, ?_⟩
        refine ⟨_, rfl, _, rfl, ?_⟩
        refine ⟨_, hD', by rw [List.length_map, List.length_take, List.length_map]; exact Nat.lt_of_le_of_lt (Nat.le_trans (Nat.min_le_right _ _) (lpt ▸ n60)) (by decide), fun y o z => by rw [upd_ne (ne_of_none z hD3)]; exact sm _ _ z, ?_⟩
        rw [upd_same, take_snoc (n := -m1)]
        rw [List.getElem?_map, em1]; rfl
      rintro H10 ⟨s10, hD10⟩
      rw [take_all (show (p0.map fun m => -m).length = (p0.map V.int).length by rw [List.length_map, List.length_map])] at hD10
      refine ⟨_, _, rfl, .inl ⟨SqL.of hD10, fun a1 ha1 => ?_⟩⟩
      obtain ⟨s11, ha11⟩ := new_at (o := .tup ((p0.map fun m => -m).map V.int)) ha1
      have s811 := s9.trans (s10.trans s11)
      refine ⟨_, rfl, (by decide : 2 ≤ sizeLine), fun t ht => ?_⟩
      obtain ⟨s12, ht12⟩ := new_at (o := .tup [V.ref a1, V.ref D2]) ht
      have s812 := s811.trans s12
      exact k _ t D2 (.ref a1) os ((s06.trans s7).trans (s8.trans s812)) ht12 ⟨a1, rfl, s12 _ _ ha11, by rw [List.length_map]; exact lpt⟩ (s812 _ _ hx8) (hos8.keep s812)
end
end K06

namespace K06
open PySem L2 RZ Lat
theorem walk_zipT {K : PySem.W.Frag} {a b : Addr} {xs ys : List V} {n : Nat} (hn : n = min xs.length ys.length) : Walk (ItzT K a b) n (fun H => SqT K H a xs ∧ SqT K H b ys) (YPair (fun i => xs[i]?) (fun i => ys[i]?)) := by
  subst hn
  refine ⟨fun i _ hi q => ?_, fun _ q => ⟨xs, ys, q.1, q.2, by omega⟩, fun i H v H' _ q y => ?_⟩
  · have h1 : i < xs.length := by omega
    have h2 : i < ys.length := by omega
    exact ⟨xs, ys, xs[i], ys[i], q.1, q.2, by simp [h1], by simp [h2]⟩
  · obtain ⟨T, x, z, h1, h2, h3, h4, h5⟩ := y
    exact ⟨T, x, z, h1, h2, h3, h4 xs q.1, h5 ys q.2⟩
section
variable {P : Program} {w : World} {K : PySem.W.Frag} {mg : Str → Option Value} {base : Heap}
def spSourcesT : Sp := fun vs H Q _ => ∃ (im rw' tg : Addr) (ia ra : List V) (is rs : List Vec) (u : Vec) (m n : Nat), vs = [.ref im, .ref rw', .ref tg, .int ((n : Nat) : Int)] ∧ H im = some (.tup ia) ∧ H rw' = some (.tup ra) ∧ Rows H m ia is ∧ Rows H n ra rs ∧ is.length = rs.length ∧ IsV H tg u ∧ u.length = m ∧ 1 ≤ n ∧ n ≤ 60 ∧ m ≤ 60 ∧ rs.length ≤ 60 ∧
  OkGrows [] (appR is rs) ∧ OkRed (grows [] (appR is rs)) (tgt n u) ∧ (grows [] (appR is rs)).length ≤ 100 ∧ ∀ (H' : Hp) (t l : Addr) (pv : V) (as : List V), Same H H' → H' t = some (.tup [pv, .ref l]) → PtAt H' n pv (srcPt m (grows [] (appR is rs)) (tgt n u)) → H' l = some (.lst as) → Rows H' n as (srcFr m (grows [] (appR is rs)) (tgt n u)) → Q (.ref t) H'
theorem ok_sourcesT {C fL fR : Addr} {fdL fdR : FuncData} (T : Txt mg) (CL : ClsL K mg C) (ML : Mk K C fL) (g_lattice : FnOk P w K mg base CX0 5 fL fdL ["self", "width", "rows"] (spLattice K C)) (bL : Binds K fdL ["self", "width", "rows"] [])
    (mR : Meth K C "reduced" fR) (g_reduced : FnOk P w K mg base CX0 3 fR fdR ["self", "vector"] (spRedM C)) (bR : Binds K fdR ["self", "vector"] []) (g_pivot_of : Has P w K mg base 1 "pivot_of" ["vector"] spPivot)
    (F : DefAt K mg "sources" s_sources ["images", "rows", "target", "width"]) : Has P w K mg base 7 "sources" ["images", "rows", "target", "width"] spSourcesT := by
  refine F.has sc_sources (fun vs H Q E h => ?_) (fun f cdv A outer s H vs Q E hr h => ?_)
  · obtain ⟨im, rw', tg, ia, ra, is, rs, u, m, n, rfl, _⟩ := h
    rfl
  · obtain ⟨im, rw', tg, ia, ra, is, rs, u, m, n, rfl, him, hrw, hia, hra, ll, hu, lu, n1, n60, m60, r60, okG, okR, hBn, k⟩ := h
    refine ⟨_, (pss_cons (ps_set (i := 4) sc_sources.nd rfl (Or.inr rfl) (pe_callB call_len (by rfl) T.z_len (by decide +kernel) (pa_cons (pv 2) pa_nil)))
      (pss_cons (ps_set (i := 5) sc_sources.nd rfl (Or.inl rfl) (pe_make ML g_lattice (hr.mono (by decide)) rfl CL.m bL .nil pass0 (pa_cons (pe_op op_add (pv 4) (pv 3)) (pa_cons (pe_lc (own := [("image", 9), ("row", 8)]) (g := gTup K 2 (gCons (gName 9) (gCons (gName 8) gNil))) (by rfl) sc_sources.nd (pi_zipA (by rfl) T.z_zip (pa_cons (pv 0) (pa_cons (pv 1) pa_nil))) (blkOk_by (own := [("image", 9), ("row", 8)]) (N := n_sources) (sc := defScope s_sources) (by decide +kernel)) (fun _ _ _ _ _ => (pg_tup rfl (pgs_cons (pg_name (i := 9) sc_sources.nd rfl (Or.inl rfl)) (pgs_cons (pg_name (i := 8) sc_sources.nd rfl (Or.inl rfl)) pgs_nil)))) (fun _ _ _ _ _ => pts_nil) (fun _ _ _ _ _ => (pe_op (op_catFK (K := K) rfl) (pv 9) (pv 8)))) pa_nil))))
      (pss_cons (ps_set (i := 6) sc_sources.nd rfl (Or.inl rfl) (pe_meth (pv 5) CL.cl mR g_reduced (hr.mono (by decide)) bR .nil pass0 (pa_cons (pe_op op_catF (pv 2) (pe_op op_repTF (pe_tup (pa_cons pe_int pa_nil)) (pv 3))) pa_nil)))
      (pss_cons (ps_if (pt_cmpR op_lt (pe_callHas g_pivot_of (hr.mono (by decide)) rfl (pa_cons (pv 6) pa_nil)) (pv 4) (nomark _)) (pss_one (ps_ret (pe_tup (pa_cons pe_non (pa_cons (pe_lst pa_nil) pa_nil))))) pss_nil)
      (pss_cons (ps_setLc (i := 7) (own := [("row", 8)]) (g := gName 8) (by rfl) sc_sources.nd rfl rfl (sw_true rfl rfl rfl (by decide +kernel)) (pi_tupK (K := K) rfl (pe_fld (pv 5) rfl)) (blkOk_by (own := [("row", 8)]) (N := n_sources) (sc := defScope s_sources) (by decide +kernel)) (fun _ _ _ _ _ => (pg_name (i := 8) sc_sources.nd rfl (Or.inl rfl))) (fun _ _ _ _ _ => (pts_one (pt_cmpR op_ge (pe_callHas g_pivot_of (hr.mono (by decide)) rfl (pa_cons (pv 8) pa_nil)) (pv 4) (nomark _)))) (fun _ _ _ _ _ => (pe_slice (sl_tupFK (K := K) rfl) (pv 8) (po_some (pv 4)) po_none)))
      (pss_one (ps_ret (pe_tup (pa_cons (pe_callTy call_tuple_of (by rfl) T.z_tuple (by decide +kernel) (pa_cons (pe_lc (own := [("number", 10)]) (g := gName 10) (by rfl) sc_sources.nd (pi_tupK (K := K) rfl (pe_slice sl_tupF (pv 6) (po_some (pv 4)) po_none)) (blkOk_by (own := [("number", 10)]) (N := n_sources) (sc := defScope s_sources) (by decide +kernel)) (fun _ _ _ _ _ => (pg_name (i := 10) sc_sources.nd rfl (Or.inl rfl))) (fun _ _ _ _ _ => pts_nil) (fun _ _ _ _ _ => (pe_un un_neg (pv 10)))) pa_nil)) (pa_cons (pv 7) pa_nil)))))))))), ?_⟩
    refine ⟨_, rfl, _, _, rfl, .inr ⟨_, SqT.of hu, rfl⟩, ?_⟩
    rw [List.length_map, lu]
    have la : (appR is rs).length = rs.length := by unfold appR; rw [List.length_zipWith, ll, Nat.min_self]
    have hl : min ia.length ra.length = rs.length := by rw [hia.len, hra.len, ll, Nat.min_self]
    -- both
    refine ⟨_, rfl, _, rfl, _, _, rfl, rfl, _, rfl, _, rfl, im, rw', _, _, rfl, .inr ⟨SqT.of him, SqT.of hrw, fun D hD => lc_it (walk_zipT (xs := ia) (ys := ra) hl.symm) (fun t H' => Same H H' ∧ ∃ os, H' D = some (.lst os) ∧ os.length = t ∧ Rows H' (m + n) os ((appR is rs).take t)) ⟨(new_at hD).1, [], upd_same, rfl, .nil, fun v hv => nomatch hv⟩ (fun t H' _ z => ⟨SqT.of (z.1 _ _ him), SqT.of (z.1 _ _ hrw)⟩) ?_ ?_⟩⟩
    · rintro t z H' H'' ht ⟨sm, os, hx, lx, hos⟩ ⟨p, y1, y2, rfl, hp, rfl, e1, e2⟩
      obtain ⟨a1, i1, f1, rfl, g1, l1⟩ := hia.at e1
      obtain ⟨a2, i2, f2, rfl, g2, l2⟩ := hra.at e2
      have sp := (new_at (o := .tup [V.ref a1, V.ref a2]) hp).1
      have smp := sm.trans sp
      refine ⟨p, _, rfl, SqT.of upd_same, rfl, _, _, rfl, _, _, rfl, rfl, rfl, ?_⟩
      refine ⟨_, rfl, _, rfl, a1, a2, _, _, rfl, rfl, SqT.of (smp _ _ g1), smp _ _ g2, (fun z => by
        have := congrArg List.length z
        rw [List.length_map, l2] at this
        exact absurd this (by show ¬ n = 0; omega)), by rw [List.length_map, List.length_map, l1, l2]; exact Nat.le_trans (Nat.add_le_add m60 n60) (by decide), fun Hb q sb hq => ?_⟩
      have spb := sp.trans sb
      refine ⟨_, spb _ _ hx, by rw [lx]; exact Nat.lt_of_lt_of_le ht (Nat.le_trans r60 (by decide)), fun y o z => by rw [upd_ne (ne_of_none z hD)]; exact spb _ _ (sm _ _ z), os ++ [.ref q], upd_same, by rw [List.length_append, lx]; rfl, ?_⟩
      have hq' : IsV Hb q (i1 ++ i2) := by
        show Hb q = some (.tup ((i1 ++ i2).map V.int))
        rw [List.map_append]; exact hq
      have et : (appR is rs).take (t + 1) = (appR is rs).take t ++ [i1 ++ i2] := by
        have e0 : (appR is rs)[t]? = some (i1 ++ i2) := by unfold appR; rw [List.getElem?_zipWith, f1, f2]
        rw [List.take_add_one, e0]; rfl
      rw [et]
      exact Rows.lst (spb _ _ hx) But.upd' ((hos.keep spb).snoc hq' (by rw [List.length_append, l1, l2]))
    rintro H2 ⟨s2, os, hx2, lx2, hos2⟩
    rw [← la, List.take_length] at hos2
    refine fun y dy hy hdy ndy => ?_
    have so : Same H2 (upd (upd H2 dy (.own y)) y (.ins C dy [])) := fun z o h => by
      rw [upd_ne (ne_of_none h hy), upd_ne (ne_of_none h hdy)]; exact h
    refine ⟨y, dy, D, m + n, os, appR is rs, rfl, upd_same, by omega, by omega, by omega, .inl (so _ _ hx2), hos2.keep so, okG, fun H3 kp3 lat => ⟨rfl, ?_⟩⟩
    have s3 : Same H2 H3 := fun z o h => kp3 z o (ne_of_none h hy) (so _ _ h)
    have s13 := s2.trans s3
    generalize hB : grows [] (appR is rs) = B at lat okR k hBn
    obtain ⟨ly, b, bs, hy3, hb3, hbs⟩ := id lat
    have bsm : B.length < sizeLine := Nat.lt_of_le_of_lt hBn (by decide)
    have nd : (lf ((m + n : Nat) : Int) b).lookup ("reduced" : Str) = none := lf_none _ _ (by decide +kernel) (by decide +kernel)
    -- rest
    refine ⟨_, rfl, y, ly, _, rfl, hy3, nd, _, rfl, (by decide : 1 ≤ sizeLine), fun z1 hz1 => ?_⟩
    obtain ⟨t1, hz1'⟩ := new_at (o := .tup [V.int 0]) hz1
    refine ⟨_, rfl, z1, n, _, rfl, rfl, hz1', (fun z => nomatch z), n1, by omega, by decide, fun H4 z2 t2 hz2 => ?_⟩
    rw [zer_one] at hz2
    have t12 := t1.trans t2
    refine ⟨tg, z2, _, _, rfl, rfl, SqT.of (t12 _ _ (s13 _ _ hu)), hz2, (fun z => by
      have := congrArg List.length z
      unfold zer at this
      rw [List.length_map, List.length_replicate] at this
      exact absurd this (by show ¬ n = 0; omega)), ?_, fun H5 q5 t5 hq5 => ?_⟩
    · unfold zer
      rw [List.length_map, List.length_map, List.length_replicate, lu]
      exact Nat.le_trans (Nat.add_le_add m60 n60) (by decide)
    have hq5' : IsV H5 q5 (tgt n u) := by
      show H5 q5 = some (.tup ((tgt n u).map V.int))
      unfold tgt
      rw [List.map_append]; exact hq5
    have lt := tgt_len (w := n) lu
    have t15 := t12.trans t5
    refine ⟨y, q5, tgt n u, B, rfl, by rw [lt]; exact lat.keep t15, hq5', by omega, okR, fun H6 r6 t6 hr6 lr6 => ?_⟩
    have s36 := t15.trans t6
    have hb6 := s36 _ _ hb3
    have hy6 := s36 _ _ hy3
    have hbs6 := hbs.keep s36
    have s06 := s13.trans s36
    have lred : (redV B (tgt n u)).length = m + n := lr6.trans lt
    clear hx2 hos2 so kp3 lat hy3 hb3 hbs nd t1 hz1' hz2 t12 hq5 hq5' t5 t15 t6 s36 s3 s2 s13
    -- if pivot_of(rest) < ahead
    refine ⟨_, rfl, r6, _, rfl, hr6, fun H7 s7 => ⟨_, rfl, _, _, rfl, rfl, _, rfl, ?_⟩⟩
    by_cases q : piv (redV B (tgt n u)) < m
    · show if decide (((piv (redV B (tgt n u)) : Nat) : Int) < ((m : Nat) : Int)) = true then _ else _
      rw [decide_eq_true (by omega), if_pos rfl]
      have e1 : srcPt m B (tgt n u) = none := if_pos q
      have e2 : srcFr m B (tgt n u) = [] := if_pos q
      rw [e1, e2] at k
      refine ⟨Nat.zero_le _, fun l hl => ⟨(by decide : 2 ≤ sizeLine), fun t ht => ?_⟩⟩
      obtain ⟨s8, hl8⟩ := new_at (o := .lst []) hl
      obtain ⟨s9, ht9⟩ := new_at (o := .tup [V.non, V.ref l]) ht
      exact k _ t l .non [] ((s06.trans s7).trans (s8.trans s9)) ht9 rfl (s9 _ _ hl8) ⟨.nil, fun v hv => nomatch hv⟩
    · show if decide (((piv (redV B (tgt n u)) : Nat) : Int) < ((m : Nat) : Int)) = true then _ else _
      rw [decide_eq_false (by omega), if_neg (by decide)]
      have e1 : srcPt m B (tgt n u) = some (((redV B (tgt n u)).drop m).map fun m => -m) := if_neg q
      have e2 : srcFr m B (tgt n u) = freeR m B := if_neg q
      rw [e1, e2] at k
      -- free
      have hb7 := s7 _ _ hb6
      have hy7 := s7 _ _ hy6
      have hbs7 := hbs6.keep s7
      have hr7 := s7 _ _ hr6
      refine ⟨_, rfl, y, C, ly, _, _, rfl, hy7, CL.cl, CL.nB, lf_basis _ _, _, rfl, ⟨_, SqT.of hb7⟩, fun D2 hD2 => lc_it (walk_tup (xs := bs)) (fun t H' => Same H7 H' ∧ ∃ os, H' D2 = some (.lst os) ∧ os.length ≤ t ∧ Rows H' n os (freeR m (B.take t))) ⟨(new_at hD2).1, [], upd_same, Nat.le_refl _, .nil, fun v hv => nomatch hv⟩ (fun t H' _ z => SqT.of (z.1 _ _ hb7)) ?_ ?_⟩
      · rintro t z H' H'' ht ⟨sm, os, hx, lx, hos⟩ ⟨rfl, ez⟩
        obtain ⟨ar, r, er, rfl, hr0, lr⟩ := (hbs7.keep sm).at ez
        refine ⟨rfl, ?_⟩
        refine ⟨_, rfl, ar, r, rfl, hr0, fun H8 s8 => ⟨_, rfl, _, _, rfl, rfl, _, rfl, ?_⟩⟩
        have ef : freeR m (B.take (t + 1)) = freeR m (B.take t) ++ freeR m [r] := by
          unfold freeR
          rw [List.take_add_one, er, List.filter_append, List.map_append]; rfl
        have hx8 := s8 _ _ hx
        have c60 : os.length < sizeLine := by
          have h1 := hbs7.len
          have h2 := (List.getElem?_eq_some_iff.mp er).1
          exact Nat.lt_of_le_of_lt (show os.length ≤ B.length by omega) bsm
        by_cases g : m ≤ piv r
        · show if decide (((m : Nat) : Int) ≤ ((piv r : Nat) : Int)) = true then _ else _
          rw [decide_eq_true (by omega), if_pos rfl]
          refine ⟨_, rfl, _, rfl, _, rfl, ar, _, m, rfl, rfl, rfl, s8 _ _ hr0, by rw [List.length_map, lr]; omega, fun H9 p s9 hp => ?_⟩
          rw [ints_drop] at hp
          refine ⟨_, s9 _ _ hx8, c60, fun y o z => by rw [upd_ne (ne_of_none z hD2)]; exact s9 _ _ (s8 _ _ (sm _ _ z)), os ++ [.ref p], upd_same, by rw [List.length_append]; show os.length + 1 ≤ t + 1; omega, ?_⟩
          rw [ef, show freeR m [r] = [r.drop m] by unfold freeR; rw [List.filter_cons_of_pos (by simpa using g)]; rfl]
          exact Rows.lst (s9 _ _ hx8) But.upd' (((hos.keep s8).keep s9).snoc hp (by rw [List.length_drop, lr]; omega))
        · show if decide (((m : Nat) : Int) ≤ ((piv r : Nat) : Int)) = true then _ else _
          rw [decide_eq_false (by omega), if_neg (by decide)]
          refine ⟨sm.trans s8, os, hx8, by omega, ?_⟩
          rw [ef, show freeR m [r] = [] by unfold freeR; rw [List.filter_cons_of_neg (by simpa using g)]; rfl, List.append_nil]
          exact hos.keep s8
      rintro H8 ⟨s8, os, hx8, lx8, hos8⟩
      rw [hbs7.len, List.take_length] at hos8
      -- the point
      have lm : ((redV B (tgt n u)).map V.int).length = m + n := by rw [List.length_map, lred]
      refine ⟨_, rfl, _, rfl, _, rfl, r6, _, m, rfl, rfl, rfl, s8 _ _ hr7, by rw [lm]; omega, fun H9 q9 s9 hq9 => ?_⟩
      rw [ints_drop] at hq9
      have lpt : ((redV B (tgt n u)).drop m).length = n := by rw [List.length_drop, lred]; omega
      generalize (redV B (tgt n u)).drop m = p0 at hq9 k lpt
      refine ⟨q9, rfl, ⟨_, SqT.of hq9⟩, fun D3 hD3 => lc_it (walk_tup (xs := p0.map V.int)) (fun t H' => Same H9 H' ∧ H' D3 = some (.lst (((p0.map fun m => -m).take t).map V.int))) ⟨(new_at hD3).1, upd_same⟩ (fun t H' _ z => SqT.of (z.1 _ _ hq9)) ?_ ?_⟩
      · rintro t z H' H'' ht ⟨sm, hD'⟩ ⟨rfl, ez⟩
        obtain ⟨m1, em1, rfl⟩ := map_at ez
        refine ⟨rfl, ?_⟩
        refine ⟨_, rfl, _, rfl, ?_⟩
        refine ⟨_, hD', by rw [List.length_map, List.length_take, List.length_map]; exact Nat.lt_of_le_of_lt (Nat.le_trans (Nat.min_le_right _ _) (lpt ▸ n60)) (by decide), fun y o z => by rw [upd_ne (ne_of_none z hD3)]; exact sm _ _ z, ?_⟩
        rw [upd_same, take_snoc (n := -m1)]
        rw [List.getElem?_map, em1]; rfl
      rintro H10 ⟨s10, hD10⟩
      rw [take_all (show (p0.map fun m => -m).length = (p0.map V.int).length by rw [List.length_map, List.length_map])] at hD10
      refine ⟨_, _, rfl, .inl ⟨SqL.of hD10, fun a1 ha1 => ?_⟩⟩
      obtain ⟨s11, ha11⟩ := new_at (o := .tup ((p0.map fun m => -m).map V.int)) ha1
      have s811 := s9.trans (s10.trans s11)
      refine ⟨_, rfl, (by decide : 2 ≤ sizeLine), fun t ht => ?_⟩
      obtain ⟨s12, ht12⟩ := new_at (o := .tup [V.ref a1, V.ref D2]) ht
      have s812 := s811.trans s12
      exact k _ t D2 (.ref a1) os ((s06.trans s7).trans (s8.trans s812)) ht12 ⟨a1, rfl, s12 _ _ ha11, by rw [List.length_map]; exact lpt⟩ (s812 _ _ hx8) (hos8.keep s812)
end
end K06

namespace K06
open PySem L2 RZ Lat

/-! ## what two sets have in common -/
def mGens (B1 B2 : List Vec) (w : Nat) : List Vec := B1.map (fun r => r ++ r) ++ B2.map fun r => r ++ zer w
theorem zip_rep (z : Vec) : ∀ B : List Vec, List.zipWith (· ++ ·) B (List.replicate B.length z) = B.map fun r => r ++ z
  | [] => rfl
  | r :: B => by
    show (r ++ z) :: List.zipWith (· ++ ·) B (List.replicate B.length z) = _
    rw [zip_rep z B]; rfl
theorem gens_m (B1 B2 : List Vec) (w : Nat) : List.zipWith (· ++ ·) (B1 ++ B2) (B1 ++ List.replicate B2.length (zer w)) = mGens B1 B2 w := by
  rw [List.zipWith_append rfl, List.zipWith_self, zip_rep]; rfl
theorem zer_len (w : Nat) : (zer w).length = w := by unfold zer; rw [List.length_replicate]
theorem itm_zer (w i : Nat) : itm (zer w) i = 0 := by
  unfold zer itm
  rw [List.getD_eq_getElem?_getD, List.getElem?_replicate]
  split <;> rfl
def LM (B1 B2 : List Vec) (w : Nat) (f : Nat → Int) : Prop := In B1 (sh w f) ∧ In B2 (fun i => if i < w then f i - f (w + i) else 0) ∧ ∀ i, w + w ≤ i → f i = 0
theorem LM.cl (B1 B2 : List Vec) (w : Nat) : Cl (LM B1 B2 w) :=
  ⟨⟨(In.cl _).zero, (In.cl _).of (t := 0) (In.cl _).zero (In.cl _).zero fun i => by show (if i < w then (0 : Int) - 0 else 0) = 0 + 0 * 0; split <;> omega, fun _ _ => rfl⟩, fun f h t a b =>
    ⟨(In.cl _).of (t := t) a.1 b.1 fun i => rfl, (In.cl _).of (t := t) a.2.1 b.2.1 fun i => by
      show (if i < w then (f i + t * h i) - (f (w + i) + t * h (w + i)) else 0) = (if i < w then f i - f (w + i) else 0) + t * (if i < w then h i - h (w + i) else 0)
      split
      · rw [Int.mul_sub]; omega
      · omega, fun i hi => by show f i + t * h i = 0; rw [a.2.2 i hi, b.2.2 i hi]; omega⟩⟩
theorem gens_lm {B1 B2 : List Vec} {w : Nat} (l1 : ∀ r ∈ B1, r.length = w) (l2 : ∀ r ∈ B2, r.length = w) : ∀ g ∈ mGens B1 B2 w, LM B1 B2 w (itm g) := fun g hg => by
  rcases List.mem_append.mp hg with hg | hg
  · obtain ⟨r, hr, rfl⟩ := List.mem_map.mp hg
    have lr := l1 r hr
    refine ⟨(In.cl _).of (t := 0) (In.mem _ _ hr) (In.cl _).zero fun i => ?_, (In.cl _).of (t := 0) (In.cl _).zero (In.cl _).zero fun i => ?_, fun i hi => itm_out (by rw [List.length_append, lr]; exact hi)⟩
    · show itm (r ++ r) (w + i) = itm r i + 0 * 0
      rw [itm_app, lr, if_neg (by omega), show w + i - w = i by omega]; omega
    · show (if i < w then itm (r ++ r) i - itm (r ++ r) (w + i) else 0) = 0 + 0 * 0
      split
      · rename_i q
        rw [itm_app, itm_app, lr, if_pos q, if_neg (by omega), show w + i - w = i by omega]; omega
      · omega
  · obtain ⟨r, hr, rfl⟩ := List.mem_map.mp hg
    have lr := l2 r hr
    refine ⟨(In.cl _).of (t := 0) (In.cl _).zero (In.cl _).zero fun i => ?_, (In.cl _).of (t := 0) (In.mem _ _ hr) (In.cl _).zero fun i => ?_, fun i hi => itm_out (by rw [List.length_append, lr, zer_len]; exact hi)⟩
    · show itm (r ++ zer w) (w + i) = 0 + 0 * 0
      rw [itm_app, lr, if_neg (by omega), itm_zer]; omega
    · show (if i < w then itm (r ++ zer w) i - itm (r ++ zer w) (w + i) else 0) = itm r i + 0 * 0
      split
      · rename_i q
        rw [itm_app, itm_app, lr, if_pos q, if_neg (by omega), itm_zer]; omega
      · rw [itm_out (by omega)]; omega
theorem lm_gens {B1 B2 : List Vec} {w : Nat} (l1 : ∀ r ∈ B1, r.length = w) (l2 : ∀ r ∈ B2, r.length = w) {S : (Nat → Int) → Prop} (C : Cl S) (hS : ∀ g ∈ mGens B1 B2 w, S (itm g)) {f : Nat → Int} (h : LM B1 B2 w f) : S f := by
  have C1 : Cl fun g : Nat → Int => S fun j => if j < w then g j else if j < w + w then g (j - w) else 0 :=
    ⟨C.of (t := 0) C.zero C.zero fun i => by show (if i < w then (0 : Int) else if i < w + w then 0 else 0) = 0 + 0 * 0; (repeat' split) <;> omega, fun g h t a b => C.of (t := t) a b fun i => by
      show (if i < w then g i + t * h i else if i < w + w then g (i - w) + t * h (i - w) else 0) = (if i < w then g i else if i < w + w then g (i - w) else 0) + t * (if i < w then h i else if i < w + w then h (i - w) else 0)
      (repeat' split) <;> omega⟩
  have C2 : Cl fun g : Nat → Int => S fun j => if j < w then g j else 0 :=
    ⟨C.of (t := 0) C.zero C.zero fun i => by show (if i < w then (0 : Int) else 0) = 0 + 0 * 0; (repeat' split) <;> omega, fun g h t a b => C.of (t := t) a b fun i => by
      show (if i < w then g i + t * h i else 0) = (if i < w then g i else 0) + t * (if i < w then h i else 0)
      (repeat' split) <;> omega⟩
  have a1 := In.sub C1 (fun r hr => by
    have lr := l1 r hr
    refine C.of (t := 0) (hS (r ++ r) (List.mem_append_left _ (List.mem_map.mpr ⟨r, hr, rfl⟩))) C.zero fun i => ?_
    rw [itm_app, lr]
    by_cases q : i < w
    · rw [if_pos q, if_pos q]; omega
    · rw [if_neg q, if_neg q]
      split
      · omega
      · rw [itm_out (by omega)]; omega) h.1
  have a2 := In.sub C2 (fun r hr => by
    have lr := l2 r hr
    refine C.of (t := 0) (hS (r ++ zer w) (List.mem_append_right _ (List.mem_map.mpr ⟨r, hr, rfl⟩))) C.zero fun i => ?_
    rw [itm_app, lr]
    by_cases q : i < w
    · rw [if_pos q, if_pos q]; omega
    · rw [if_neg q, if_neg q, itm_zer]; omega) h.2.1
  refine C.of (t := 1) a1 a2 fun i => ?_
  by_cases q : i < w
  · rw [if_pos q, if_pos q, if_pos q]
    show f i = f (w + i) + 1 * (f i - f (w + i))
    omega
  · rw [if_neg q, if_neg q]
    by_cases q2 : i < w + w
    · rw [if_pos q2]
      show f i = f (w + (i - w)) + 1 * 0
      rw [show w + (i - w) = i by omega]; omega
    · rw [if_neg q2, h.2.2 i (by omega)]; omega
theorem solves_app {F G : List Vec} {b c : Vec} (l : b.length = F.length) (g : Nat → Int) : Solves (F ++ G) (itm (b ++ c)) g ↔ Solves F (itm b) g ∧ Solves G (itm c) g := by
  have ra : ∀ j, j < F.length → rowAt (F ++ G) j = rowAt F j := fun j hj => by
    unfold rowAt
    rw [List.getD_eq_getElem?_getD, List.getD_eq_getElem?_getD, List.getElem?_append_left hj]
  have rb : ∀ j, rowAt (F ++ G) (F.length + j) = rowAt G j := fun j => by
    unfold rowAt
    rw [List.getD_eq_getElem?_getD, List.getD_eq_getElem?_getD, List.getElem?_append_right (by omega), show F.length + j - F.length = j by omega]
  constructor
  · intro h
    refine ⟨fun j hj => ?_, fun j hj => ?_⟩
    · have := h j (by rw [List.length_append]; omega)
      rwa [ra j hj, itm_app, if_pos (by omega)] at this
    · have := h (F.length + j) (by rw [List.length_append]; omega)
      rwa [rb, itm_app, if_neg (by omega), show F.length + j - b.length = j by omega] at this
  · rintro ⟨h1, h2⟩ j hj
    rw [List.length_append] at hj
    by_cases q : j < F.length
    · rw [ra j q, itm_app, if_pos (by omega)]; exact h1 j q
    · have := h2 (j - F.length) (by omega)
      rw [← rb, show F.length + (j - F.length) = j by omega] at this
      rw [itm_app, if_neg (by omega), l]; exact this
theorem solves_app0 {F G : List Vec} (g : Nat → Int) : Solves (F ++ G) (fun _ => 0) g ↔ Solves F (fun _ => 0) g ∧ Solves G (fun _ => 0) g := by
  have e : ∀ (F : List Vec), Solves F (fun _ => 0) g ↔ Solves F (itm (zer F.length)) g := fun F => by
    constructor <;> (intro h j hj; have := h j hj; rw [itm_zer] at *; exact this)
  have := solves_app (F := F) (G := G) (b := zer F.length) (c := zer G.length) (zer_len _) g
  rw [e F, e G, ← this]
  constructor <;> (intro h j hj; have q := h j hj; rw [itm_app] at *; split at * <;> (simp only [itm_zer] at *; exact q))
end K06

namespace K06
open PySem L2 RZ Lat
def mgB (B1 B2 : List Vec) (w : Nat) : List Vec := grows [] (mGens B1 B2 w)
def mTg (p q : Vec) (w : Nat) : Vec := tgt w (addV q (-1) p)
def mPt (B1 B2 : List Vec) (p q : Vec) (w : Nat) : Option Vec := srcPt w (mgB B1 B2 w) (mTg p q w)
def mFr (B1 B2 : List Vec) (p q : Vec) (w : Nat) : List Vec := srcFr w (mgB B1 B2 w) (mTg p q w)
def andO (w : Nat) : Option Vec → List Vec → Option Vec → List Vec → Option Vec
  | some p, B1, some q, B2 => (mPt B1 B2 p q w).map fun v => redV (grows [] (mFr B1 B2 p q w)) (addV p 1 v)
  | _, _, _, _ => none
def andB (w : Nat) : Option Vec → List Vec → Option Vec → List Vec → List Vec
  | some p, B1, some q, B2 => (mPt B1 B2 p q w).elim [] fun _ => grows [] (mFr B1 B2 p q w)
  | _, _, _, _ => []
theorem fit8 : Fit 939 8 := by decide +kernel
/-- the meeting of two sets, run and solved -/
structure Mtg (w : Nat) (B1 B2 : List Vec) (p q : Vec) : Prop where
  okG : OkGrows [] (mGens B1 B2 w)
  okR : OkRed (mgB B1 B2 w) (mTg p q w)
  cnt : (mgB B1 B2 w).length ≤ 100
  fr : ∀ r ∈ mFr B1 B2 p q w, r.length = w
  ech : Ech w 0 (mFr B1 B2 p q w)
  hn : Hn (mFr B1 B2 p q w)
  pt : ∀ v, mPt B1 B2 p q w = some v → v.length = w ∧ ∀ i, (itm v i).natAbs ≤ 2 ^ 197700
theorem meets {F G : List Vec} {rb rc : Vec} {w : Nat} {p q : Vec} {B1 B2 : List Vec} (w4 : w ≤ 4) (lb : rb.length = F.length) (h1 : SolF w F (itm rb) 939 (some p) B1) (h2 : SolF w G (itm rc) 939 (some q) B2) (sp : ∀ i, (itm p i).natAbs ≤ 2 ^ 24579) (sq : ∀ i, (itm q i).natAbs ≤ 2 ^ 24579) :
    Mtg w B1 B2 p q ∧ SolF w (F ++ G) (itm (rb ++ rc)) 61407 (andO w (some p) B1 (some q) B2) (mFr B1 B2 p q w) := by
  obtain ⟨lp, solp, _⟩ := h1.yes p rfl
  obtain ⟨lq, solq, _⟩ := h2.yes q rfl
  have k1 := h1.ker p rfl
  have k2 := h2.ker q rfl
  have l1 : ∀ r ∈ B1, r.length = w := fun r hr => (h1.ech.row r hr).1
  have l2 : ∀ r ∈ B2, r.length = w := fun r hr => (h2.ech.row r hr).1
  have c1 := h1.ech.count (Nat.zero_le _)
  have c2 := h2.ech.count (Nat.zero_le _)
  have R : Rws 939 (w + w) 8 (mGens B1 B2 w) := ⟨fit8, by unfold mGens; rw [List.length_append, List.length_map, List.length_map]; omega, .inl (by omega), fun g hg => by
    rcases List.mem_append.mp hg with hg | hg
    · obtain ⟨r, hr, rfl⟩ := List.mem_map.mp hg
      refine ⟨by rw [List.length_append, l1 r hr], fun i => ?_⟩
      rw [itm_app]; split
      · exact h1.siz r hr _
      · exact h1.siz r hr _
    · obtain ⟨r, hr, rfl⟩ := List.mem_map.mp hg
      refine ⟨by rw [List.length_append, l2 r hr, zer_len], fun i => ?_⟩
      rw [itm_app]; split
      · exact h2.siz r hr _
      · rw [itm_zer]; exact Nat.zero_le _⟩
  have eB : Ech (w + w) 0 (mgB B1 B2 w) := R.gen.ech
  have hB : Hn (mgB B1 B2 w) := R.bas.hn
  have inG : ∀ f, In (mgB B1 B2 w) f ↔ LM B1 B2 w f := fun f => by
    constructor
    · intro h
      exact In.sub (LM.cl B1 B2 w) ((R.gen.cl _ (LM.cl B1 B2 w)).mpr (gens_lm l1 l2)) h
    · intro h
      exact lm_gens l1 l2 (In.cl _) ((R.gen.cl _ (In.cl _)).mp fun r hr => In.mem _ _ hr) h
  have lqp : q.length = p.length := lq.trans lp.symm
  have lu : (addV q (-1) p).length = w := (addV_len lqp).trans lq
  have iu : ∀ i, itm (addV q (-1) p) i = itm q i - itm p i := fun i => by rw [itm_add lqp]; omega
  have lt : (mTg p q w).length = w + w := tgt_len lu
  have it : ∀ i, itm (mTg p q w) i = if i < w then itm q i - itm p i else 0 := fun i => by
    unfold mTg
    rw [tgt_itm, lu, iu]
  have ut : ∀ i, (itm (mTg p q w) i).natAbs ≤ 2 ^ 24580 := fun i => by
    rw [it]; split
    · have a := sp i
      have b := sq i
      have e : 2 ^ 24580 = 2 ^ 24579 * 2 := Nat.pow_succ 2 24579
      have := Int.natAbs_sub_le (itm q i) (itm p i)
      rw [e]; omega
    · exact Nat.zero_le _
  have short := red_short fit8.1 R.gen lt (y := 24580) (by decide) (by decide) ut
  have lR : ∀ r ∈ mgB B1 B2 w, r.length = (mTg p q w).length := fun r hr => (eB.row r hr).1.trans lt.symm
  have lred : (redV (mgB B1 B2 w) (mTg p q w)).length = w + w := (redV_len _ _ lR).trans lt
  have okR : OkRed (mgB B1 B2 w) (mTg p q w) := R.red (y := 24580) lt ut (by decide)
  have cnt : (mgB B1 B2 w).length ≤ 100 := by have := R.gen.count; show (grows [] (mGens B1 B2 w)).length ≤ 100; omega
  have fe : Ech w 0 (freeR w (mgB B1 B2 w)) := by
    have := free_ech (a := w) eB
    rw [Nat.add_sub_cancel_left] at this
    exact this
  have fh : Hn (freeR w (mgB B1 B2 w)) := free_hn eB hB
  have fs : ∀ s ∈ freeR w (mgB B1 B2 w), ∀ i, (itm s i).natAbs ≤ 2 ^ 61407 := fun s hs i => by
    obtain ⟨t, ht, rfl⟩ := List.mem_map.mp hs
    rw [itm_drop]
    exact Nat.le_trans (R.size t (List.mem_filter.mp ht).1 _) (Nat.pow_le_pow_right (by decide) (by decide))
  have es : ∀ (g : Nat → Int) (z : Nat → Int), sh w (fun j => if j < w then z j else g (j - w)) = g := fun g z => funext fun i => by
    show (if w + i < w then z (w + i) else g (w + i - w)) = g i
    rw [if_neg (by omega), show w + i - w = i by omega]
  have fk : ∀ g, In (freeR w (mgB B1 B2 w)) g ↔ ((∀ i, w ≤ i → g i = 0) ∧ Solves (F ++ G) (fun _ => 0) g) := fun g => by
    rw [free_in eB, inG, solves_app0]
    have e0 := es g fun _ => 0
    have em : (∀ i, w ≤ i → g i = 0) → (fun i => if i < w then (if i < w then (0 : Int) else g (i - w)) - (if w + i < w then 0 else g (w + i - w)) else 0) = fun i => -1 * g i := fun z => funext fun i => by
      by_cases q : i < w
      · rw [if_pos q, if_pos q, if_neg (by omega), show w + i - w = i by omega]; omega
      · rw [if_neg q, z i (by omega)]; omega
    constructor
    · rintro ⟨a, b, _⟩
      rw [e0] at a
      obtain ⟨z, s1⟩ := (k1 g).mp a
      refine ⟨z, s1, ?_⟩
      rw [em z] at b
      refine ((k2 g).mp ?_).2
      exact (In.cl _).of (t := -1) (In.cl _).zero b fun i => by omega
    · rintro ⟨z, s1, s2⟩
      refine ⟨?_, ?_, fun i hi => by show (if i < w then (0 : Int) else g (i - w)) = 0; rw [if_neg (by omega)]; exact z _ (by omega)⟩
      · rw [e0]; exact (k1 g).mpr ⟨z, s1⟩
      · rw [em z]
        exact (In.cl _).of (t := -1) (In.cl _).zero ((k2 g).mpr ⟨z, s2⟩) fun i => by omega
  by_cases qq : piv (redV (mgB B1 B2 w) (mTg p q w)) < w
  · have e1 : mPt B1 B2 p q w = none := if_pos qq
    have e2 : mFr B1 B2 p q w = [] := if_pos qq
    have e3 : andO w (some p) B1 (some q) B2 = none := by show (mPt B1 B2 p q w).map _ = none; rw [e1]; rfl
    rw [e3]
    refine ⟨⟨R.ok, okR, cnt, ?_, ?_, ?_, ?_⟩, ?_⟩
    · rw [e2]; exact fun r h => nomatch h
    · rw [e2]; exact trivial
    · rw [e2]; exact trivial
    · rw [e1]; exact fun v h => nomatch h
    rw [e2]
    refine ⟨trivial, trivial, fun r h => (nomatch h), fun _ => ⟨rfl, fun g z s => ?_⟩, fun p h => (nomatch h), fun p h => (nomatch h)⟩
    obtain ⟨s1, s2⟩ := (solves_app lb g).mp s
    have zp : ∀ i, w ≤ i → itm p i = 0 := fun i hi => itm_out (by omega)
    have zq : ∀ i, w ≤ i → itm q i = 0 := fun i hi => itm_out (by omega)
    have g1 : In B1 fun i => g i - itm p i := (k1 _).mpr ⟨fun i hi => by rw [z i hi, zp i hi]; omega, Solves.congr (Solves.sub s1 solp) fun j _ => by show itm rb j - itm rb j = 0; omega⟩
    have g2 : In B2 fun i => itm q i - g i := (k2 _).mpr ⟨fun i hi => by rw [z i hi, zq i hi]; omega, Solves.congr (Solves.sub solq s2) fun j _ => by show itm rc j - itm rc j = 0; omega⟩
    have hin : In (mgB B1 B2 w) fun j => if j < w then itm q j - itm p j else (fun i => g i - itm p i) (j - w) := by
      rw [inG]
      refine ⟨?_, (In.cl _).of (t := 0) g2 (In.cl _).zero fun i => ?_, fun i hi => ?_⟩
      · rw [es (fun i => g i - itm p i) fun j => itm q j - itm p j]; exact g1
      · show (if i < w then (if i < w then itm q i - itm p i else g (i - w) - itm p (i - w)) - (if w + i < w then itm q (w + i) - itm p (w + i) else g (w + i - w) - itm p (w + i - w)) else 0) = itm q i - g i + 0 * 0
        by_cases h : i < w
        · rw [if_pos h, if_pos h, if_neg (by omega), show w + i - w = i by omega]; omega
        · rw [if_neg h, zq i (by omega), z i (by omega)]; omega
      · show (if i < w then itm q i - itm p i else g (i - w) - itm p (i - w)) = 0
        rw [if_neg (by omega), z _ (by omega), zp _ (by omega)]; omega
    have rz := rest_zero (a := w) eB lt hin fun i hi => by rw [if_pos hi, it, if_pos hi]
    have := piv_ge (c := w) rz (by omega)
    omega
  · have e1 : mPt B1 B2 p q w = some (((redV (mgB B1 B2 w) (mTg p q w)).drop w).map fun m => -m) := if_neg qq
    have e2 : mFr B1 B2 p q w = freeR w (mgB B1 B2 w) := if_neg qq
    have rz : ∀ i, i < w → itm (redV (mgB B1 B2 w) (mTg p q w)) i = 0 := fun i hi => (piv_spec _).1 i (by omega)
    have lv : (((redV (mgB B1 B2 w) (mTg p q w)).drop w).map fun m => -m).length = w := by rw [List.length_map, List.length_drop, lred]; omega
    have iv : ∀ i, itm (((redV (mgB B1 B2 w) (mTg p q w)).drop w).map fun m => -m) i = -itm (redV (mgB B1 B2 w) (mTg p q w)) (w + i) := fun i => by rw [itm_neg, itm_drop]
    generalize (((redV (mgB B1 B2 w) (mTg p q w)).drop w).map fun m => -m) = v at lv iv e1
    have lfr : ∀ r ∈ freeR w (mgB B1 B2 w), r.length = w := fun r hr => (fe.row r hr).1
    have e3 : andO w (some p) B1 (some q) B2 = some (redV (freeR w (mgB B1 B2 w)) (addV p 1 v)) := by
      show (mPt B1 B2 p q w).map (fun v => redV (grows [] (mFr B1 B2 p q w)) (addV p 1 v)) = _
      rw [e1, e2, canon_same fe fh]; rfl
    rw [e3]
    have lpv : p.length = v.length := lp.trans lv.symm
    have ls : (addV p 1 v).length = w := (addV_len lpv).trans lp
    have is : ∀ i, itm (addV p 1 v) i = itm p i + itm v i := fun i => by rw [itm_add lpv]; omega
    have hd := (inG _).mp (redV_diff (In.cl _) _ _ lR fun r hr => In.mem _ _ hr)
    have inv1 : In B1 (itm v) := (In.cl _).of (t := 0) hd.1 (In.cl _).zero fun i => by
      show itm v i = itm (mTg p q w) (w + i) - itm (redV (mgB B1 B2 w) (mTg p q w)) (w + i) + 0 * 0
      rw [iv, it, if_neg (by omega)]; omega
    have inv2 : In B2 fun i => itm q i - itm p i - itm v i := (In.cl _).of (t := 0) hd.2.1 (In.cl _).zero fun i => by
      show itm q i - itm p i - itm v i = (if i < w then (itm (mTg p q w) i - itm (redV (mgB B1 B2 w) (mTg p q w)) i) - (itm (mTg p q w) (w + i) - itm (redV (mgB B1 B2 w) (mTg p q w)) (w + i)) else 0) + 0 * 0
      by_cases h : i < w
      · rw [if_pos h, rz i h, it, it, if_pos h, if_neg (by omega), iv]; omega
      · rw [if_neg h, itm_out (v := q) (by omega), itm_out (v := p) (by omega), itm_out (v := v) (by omega)]; omega
    have solA : Solves (F ++ G) (itm (rb ++ rc)) (itm (addV p 1 v)) := by
      rw [solves_app lb]
      have s1 := ((k1 _).mp inv1).2
      have s2 := ((k2 _).mp inv2).2
      refine ⟨fun j hj => ?_, fun j hj => ?_⟩
      · have q0 := dotF_add (rowAt F j) (itm p) (itm v) 1
        rw [show itm (addV p 1 v) = fun i => itm p i + 1 * itm v i from funext fun i => by rw [is]; omega, q0, solp j hj]
        have : dotF (rowAt F j) (itm v) = 0 := s1 j hj
        omega
      · have q0 := dotF_add (rowAt G j) (itm q) (fun i => itm q i - itm p i - itm v i) (-1)
        rw [show itm (addV p 1 v) = fun i => itm q i + -1 * (itm q i - itm p i - itm v i) from funext fun i => by rw [is]; omega, q0, solq j hj]
        have : dotF (rowAt G j) (fun i => itm q i - itm p i - itm v i) = 0 := s2 j hj
        omega
    have dp : In (freeR w (mgB B1 B2 w)) fun i => itm (addV p 1 v) i - itm (redV (freeR w (mgB B1 B2 w)) (addV p 1 v)) i := redV_diff (In.cl _) _ _ (fun r hr => (lfr r hr).trans ls.symm) fun r hr => In.mem _ _ hr
    have lr' : (redV (freeR w (mgB B1 B2 w)) (addV p 1 v)).length = w := (redV_len _ _ fun r hr => (lfr r hr).trans ls.symm).trans ls
    refine ⟨⟨R.ok, okR, cnt, by rw [e2]; exact lfr, by rw [e2]; exact fe, by rw [e2]; exact fh, fun v' h => ?_⟩, ?_⟩
    · rw [e1] at h
      cases h
      exact ⟨lv, fun i => by rw [iv, Int.natAbs_neg]; exact Nat.le_trans (short _) (Nat.pow_le_pow_right (by decide) (by decide))⟩
    rw [e2]
    refine ⟨fe, fh, fs, fun h => (nomatch h), fun p' h => ?_, fun _ _ => fk⟩
    cases h
    refine ⟨lr', fun j hj => ?_, red_one fe fh.pos lr' ls ((In.cl _).of (t := -1) (In.cl _).zero dp fun i => by omega)⟩
    have a : dotF (rowAt (F ++ G) j) (fun i => itm (addV p 1 v) i - itm (redV (freeR w (mgB B1 B2 w)) (addV p 1 v)) i) = 0 := ((fk _).mp dp).2 j hj
    have q0 := dotF_add (rowAt (F ++ G) j) (itm (addV p 1 v)) (itm (redV (freeR w (mgB B1 B2 w)) (addV p 1 v))) (-1)
    rw [show (fun i => itm (addV p 1 v) i - itm (redV (freeR w (mgB B1 B2 w)) (addV p 1 v)) i) = fun i => itm (addV p 1 v) i + -1 * itm (redV (freeR w (mgB B1 B2 w)) (addV p 1 v)) i from funext fun i => by omega, q0, solA j hj] at a
    omega
end K06

namespace L2
open PySem PySem.Spec PyProof.Rows
theorem tuple_mul0 (l : Addr) (items : Array Value) (n : Nat) (dd : Option Addr) (sl : Array (Option Value)) (u : Tok) (c1 : items.isEmpty = false) :
    Meets (Builtin.«tuple.__mul__» ⟨[.ref l, .int 0 u], []⟩) (fun _ R s => s.heap.get? l = some { cls := .type "tuple", dict := dd, data := .seq items n, slots := sl } ∧
      R (.ok (.ret (Value.ref s.heap.objs.size))) { s with heap := s.heap.push { cls := Value.type "tuple", data := Data.seq #[] }, toks := s.toks }) :=
  .of_wp fun prog w A R s h => by
    obtain ⟨hp, g, d, tk, os⟩ := s
    obtain ⟨hl, h⟩ := h
    have f1 := AutoSeq1.idx_int
    wp_walk using wpAny_loadPart' hl
    repeat (first
      | (refine wpAny_ite_false (decide_eq_false (by decide)) ?_; wp_walk using wpAny_loadPart' hl)
      | (refine wpAny_ite_false (decide_eq_false (by rw [c1]; decide)) ?_; wp_walk using wpAny_loadPart' hl)
      | (refine wpAny_ite_true (decide_eq_true (by simp)) ?_; wp_walk using wpAny_loadPart' hl))
    exact ⟨_, rfl, h⟩
/-- t * k, k a natural number, by none too -/
def rRepN (K : PySem.W.Frag) : R2 := fun x y H Q => ∃ (l : Addr) (n : Nat) (xs : List V), x = .ref l ∧ y = .int ((n : Nat) : Int) ∧ H l = some (.tup xs) ∧ xs ≠ [] ∧ n ≤ 1000 ∧ xs.length ≤ 1000 ∧ ∀ (H' : Hp) (p : Addr), Same H H' → H' p = some (.tup (List.replicate n xs).flatten) → Q (.ref p) H'
theorem op_repN {X : Cx} : OpR X (binaryOp .Mult) (rRepN X.K) := by
  intro pins s σ H x y v u Q I rx ry h
  obtain ⟨l, k, xs, ex, ey, hT, hne, h2, hz, q⟩ := h
  have new : ∀ p, H p = none → Same H (upd H p (.tup (List.replicate k xs).flatten)) := fun p hp z o h => by
    by_cases e : z = p
    · subst e; rw [hp] at h; cases h
    · rw [upd_ne e]; exact h
  by_cases hk : k = 0
  · subst hk ex ey
    cases rx
    obtain ⟨t, rfl⟩ := ry
    obtain ⟨its, r, ⟨⟨cls, dd, data, sl⟩, ho, hc, n, hd⟩, hs⟩ := I.tuple (SqT.of hT)
    simp only at hc hd
    subst hc hd
    have hi : its.toArray.isEmpty = false := by
      cases its with
      | nil => cases r; exact absurd rfl hne
      | cons a b => rfl
    refine wpAny_binaryOp_repeat_ref (T := "tuple") (U := "int") (by decide) ⟨_, ho, rfl⟩ (fun s' => typeIs_int s' 0 t) noFill_tuple_mul F.fills_int_mul F.slot_int_rmul repeat_tuple F.slot_int_index.lookup
      (call_meets F.slot_int_rmul (typeIs_int s 0 t) F.entry_int_rmul (F.args_int_rmul_2 _ _) (int_rmul_tuple 0 t l its.toArray n dd sl)
        ⟨ho, rfl, ⟨_, ho, rfl⟩, call_meets F.slot_tuple_mul ⟨_, ho, rfl⟩ F.entry_tuple_mul (F.args_tuple_mul_2 _ _) (tuple_mul0 l its.toArray n dd sl t hi) ⟨ho, ?_⟩⟩)
    have hf := I.hok.fresh (Nat.le_refl s.heap.objs.size)
    refine ⟨.ref s.heap.objs.size, _, I.laid (t' := s.toks) (o := .tup []) (fun b ob q => Heap.get?_push_of_some _ q) (Nat.le_refl _) ?_, rfl, q _ _ (new _ hf) upd_same⟩
    exact ⟨Nat.zero_le _, [], .nil, IsTup.new _ _⟩
  · refine op_repTA pins s σ H x y v u Q I rx ry ⟨l, ((k : Nat) : Int), xs, ex, ey, SqT.of hT, hne, by omega, by omega, hz, fun e => ?_, fun _ p hp => ?_⟩
    · have : k = 1 := by omega
      subst this
      exact q H l (fun _ _ z => z) (by simpa using hT)
    · rw [Int.toNat_natCast]
      exact q _ p (new p hp) upd_same
end L2

namespace K06
open PySem L2 RZ Lat
/-- two tuples of the run put together -/
def rCatG : R2 := fun x y H Q => ∃ a b xs ys, x = .ref a ∧ y = .ref b ∧ H a = some (.tup xs) ∧ H b = some (.tup ys) ∧ xs.length + ys.length ≤ sizeLine ∧ ∀ (H' : Hp) (p : Addr), Same H H' → H' p = some (.tup (xs ++ ys)) → Q (.ref p) H'
theorem op_catG {X : Cx} : OpR X (binaryOp .Add) rCatG := fun pins s σ H x y v u Q I rx ry h => op_catA pins s σ H x y v u Q I rx ry (by
  obtain ⟨a, b, xs, ys, rfl, rfl, ha, hb, hz, k⟩ := h
  refine ⟨a, b, xs, ys, rfl, rfl, SqT.of ha, SqT.of hb, hz, fun e => k H b (Same.refl H) (by rw [e]; exact hb), fun _ e => k H a (Same.refl H) (by rw [e, List.append_nil]; exact ha), fun _ _ p hp => ?_⟩
  obtain ⟨s1, h1⟩ := new_at (o := .tup (xs ++ ys)) hp
  exact k _ p s1 h1)
theorem Rows.rep {H : Hp} {n : Nat} {a : Addr} {v : Vec} (h : IsV H a v) (l : v.length = n) : ∀ k : Nat, Rows H n (List.replicate k [V.ref a]).flatten (List.replicate k v)
  | 0 => ⟨.nil, fun v hv => nomatch hv⟩
  | k + 1 => by
    have ih := Rows.rep h l k
    refine ⟨?_, fun u hu => (List.mem_cons.mp hu).elim (fun e => e ▸ l) (ih.2 u)⟩
    exact .cons ⟨a, rfl, h⟩ ih.1
theorem wne {n m : Nat} (h : n ≠ m) : decide (V.int ((n : Nat) : Int) = V.int ((m : Nat) : Int)) = false := decide_eq_false fun z => h (by have := V.int.inj z; omega)
theorem weq (n : Nat) : decide (V.int ((n : Nat) : Int) = V.int ((n : Nat) : Int)) = true := decide_eq_true rfl
/-- two sets that can be met -/
structure OkAnd (w : Nat) (p : Vec) (B1 : List Vec) (q : Vec) (B2 : List Vec) : Prop where
  n1 : 1 ≤ w
  n60 : w ≤ 60
  c60 : B1.length + B2.length ≤ 60
  okG : OkGrows [] (mGens B1 B2 w)
  okR : OkRed (mgB B1 B2 w) (mTg p q w)
  cnt : (mgB B1 B2 w).length ≤ 100
  mp : ∀ m ∈ p, CMulX (-1) m
  mv : ∀ v, mPt B1 B2 p q w = some v → v.length = w ∧ ∀ m ∈ v, CMulX 1 m
  okF : OkGrows [] (mFr B1 B2 p q w)
  num : (mFr B1 B2 p q w).length ≤ 1000
  okP : ∀ v, mPt B1 B2 p q w = some v → OkRed (grows [] (mFr B1 B2 p q w)) (addV p 1 v)
section
variable {P : Program} {w : World} {K : PySem.W.Frag} {mg : Str → Option Value} {base : Heap}
abbrev s_meeting : Stmt := top 30
abbrev n_meeting : List Str := ["p", "q", "rows", "way", "free"]
theorem sc_meeting : FnScope n_meeting ["p", "q"] (defScope s_meeting) := ⟨rfl, rfl, rfl, by decide +kernel, rfl, by decide +kernel, by decide +kernel⟩
def spMeeting (D : Addr) : Sp := fun vs H Q _ => ∃ (x y : Addr) (n : Nat) (p q : Vec) (B1 B2 : List Vec), vs = [.ref x, .ref y] ∧ FacAt D H x n (some p) B1 ∧ FacAt D H y n (some q) B2 ∧ OkAnd n p B1 q B2 ∧ ∀ (H' : Hp) (t l : Addr) (pv : V) (as : List V), Same H H' → H' t = some (.tup [pv, .ref l]) → PtAt H' n pv ((mPt B1 B2 p q n).map (addV p 1)) → H' l = some (.lst as) → Rows H' n as (mFr B1 B2 p q n) → Q (.ref t) H'
theorem ok_meeting {D : Addr} (T : Txt mg) (DL : ClsF K mg D) (g_added : Has P w K mg base 1 "added" ["vector", "times", "other"] spAdded) (g_sources : Has P w K mg base 7 "sources" ["images", "rows", "target", "width"] spSourcesT)
    (F : DefAt K mg "meeting" s_meeting ["p", "q"]) : Has P w K mg base 8 "meeting" ["p", "q"] (spMeeting D) := by
  refine F.has sc_meeting (fun vs H Q E h => ?_) (fun f cdv A outer s H vs Q E hr h => ?_)
  · obtain ⟨x, y, n, p, q, B1, B2, rfl, _⟩ := h
    rfl
  · obtain ⟨x, y, n, p, q, B1, B2, rfl, ⟨dx, b, w0, os, hx, hb, hrs, hpt⟩, ⟨dy, c, w1, os2, hy, hc, hrs2, hpt2⟩, ok, k⟩ := h
    obtain ⟨n1, n60, c60, okG, okR, cnt, mp, mv, okF, num, okP⟩ := ok
    obtain ⟨ap, rfl, hp, lp⟩ := hpt
    obtain ⟨aq, rfl, hq, lq⟩ := hpt2
    refine ⟨_, (pss_cons (ps_set (i := 2) sc_meeting.nd rfl (Or.inl rfl) (pe_op op_catG (pe_fld (pv 0) rfl) (pe_op op_repN (pe_tup (pa_cons (pe_op op_repN (pe_tup (pa_cons pe_int pa_nil)) (pe_fld (pv 0) rfl)) pa_nil)) (pe_callB call_len (by rfl) T.z_len (by decide +kernel) (pa_cons (pe_fld (pv 1) rfl) pa_nil)))))
      (pss_cons (ps_asg (pe_callHas g_sources (hr.mono (by decide)) rfl (pa_cons (pe_op op_catG (pe_fld (pv 0) rfl) (pe_fld (pv 1) rfl)) (pa_cons (pv 2) (pa_cons (pe_callHas g_added (hr.mono (by decide)) rfl (pa_cons (pe_fld (pv 1) rfl) (pa_cons (pe_un un_neg pe_int) (pa_cons (pe_fld (pv 0) rfl) pa_nil)))) (pa_cons (pe_fld (pv 0) rfl) pa_nil))))) (pg_tup rfl (pgs_cons (pg_name (i := 3) sc_meeting.nd rfl (Or.inl rfl)) (pgs_cons (pg_name (i := 4) sc_meeting.nd rfl (Or.inl rfl)) pgs_nil))))
      (pss_cons (ps_if (pt_cmpR op_isN (pv 3) pe_non (nomark _)) (pss_one (ps_ret (pe_tup (pa_cons pe_non (pa_cons (pe_lst pa_nil) pa_nil))))) pss_nil)
      (pss_one (ps_ret (pe_tup (pa_cons (pe_callHas g_added (hr.mono (by decide)) rfl (pa_cons (pe_fld (pv 0) rfl) (pa_cons pe_int (pa_cons (pv 3) pa_nil)))) (pa_cons (pv 4) pa_nil)))))))), ?_⟩
    have e1 := hrs.len
    have e2 := hrs2.len
    -- rows
    refine ⟨_, rfl, x, D, dx, _, _, rfl, hx, DL.cl, DL.nB, ff_basis _ _ _, (by decide : 1 ≤ sizeLine), fun z1 hz1 => ?_⟩
    obtain ⟨t1, hz1'⟩ := new_at (o := .tup [V.int 0]) hz1
    refine ⟨_, rfl, x, D, dx, _, _, rfl, t1 _ _ hx, DL.cl, DL.nW, ff_width _ _ _, z1, n, _, rfl, rfl, hz1', (fun z => nomatch z), by omega, by decide, fun H2 z2 t2 hz2 => ?_⟩
    rw [zer_one] at hz2
    refine ⟨(by decide : 1 ≤ sizeLine), fun z3 hz3 => ?_⟩
    obtain ⟨t3, hz3'⟩ := new_at (o := .tup [V.ref z2]) hz3
    have t13 := t1.trans (t2.trans t3)
    refine ⟨_, rfl, y, D, dy, _, _, rfl, t13 _ _ hy, DL.cl, DL.nB, ff_basis _ _ _, _, _, rfl, .inr ⟨_, SqT.of (t13 _ _ hc), rfl⟩, ?_⟩
    have lz : (zer n).length = n := zer_len n
    refine ⟨z3, os2.length, [V.ref z2], rfl, rfl, hz3', (fun z => nomatch z), by omega, (by show 1 ≤ 1000; decide), fun H5 z5 t5 hz5 => ?_⟩
    have hz2' : IsV H5 z5 [] ∨ True := .inr trivial
    have t25 := t3.trans t5
    have t15 := t13.trans t5
    have lrep : (List.replicate os2.length [V.ref z2]).flatten.length = os2.length := by rw [PyProof.Rows.lm_len_rep_flat]; show os2.length * 1 = os2.length; omega
    refine ⟨b, z5, os, _, rfl, rfl, t15 _ _ hb, hz5, by rw [lrep]; exact Nat.le_trans (show os.length + os2.length ≤ 60 by omega) (by decide), fun H6 z6 t6 hz6 => ?_⟩
    have t16 := t15.trans t6
    have r6 : Rows H6 n (os ++ (List.replicate os2.length [V.ref z2]).flatten) (B1 ++ List.replicate B2.length (zer n)) := by
      rw [e2]
      exact Rows.append (hrs.keep t16) (Rows.rep (t6 _ _ (t25 _ _ hz2)) lz B2.length)
    -- sources
    refine ⟨_, rfl, x, D, dx, _, _, rfl, t16 _ _ hx, DL.cl, DL.nB, ff_basis _ _ _, _, rfl, y, D, dy, _, _, rfl, t16 _ _ hy, DL.cl, DL.nB, ff_basis _ _ _, b, c, os, os2, rfl, rfl, t16 _ _ hb, t16 _ _ hc, Nat.le_trans (show os.length + os2.length ≤ 60 by omega) (by decide), fun H7 z7 t7 hz7 => ?_⟩
    have t17 := t16.trans t7
    have lqp : q.length = p.length := lq.trans lp.symm
    refine ⟨_, rfl, _, rfl, y, D, dy, _, _, rfl, t17 _ _ hy, DL.cl, DL.nP, ff_point _ _ _, _, rfl, _, rfl, x, D, dx, _, _, rfl, t17 _ _ hx, DL.cl, DL.nP, ff_point _ _ _, aq, ap, -1, q, p, rfl, t17 _ _ hq, t17 _ _ hp, lqp, by omega, mp, fun H8 p8 t8 hp8 => ?_⟩
    have t18 := t17.trans t8
    have r7 := (Rows.append hrs hrs2).keep t18
    refine ⟨_, rfl, x, D, dx, _, _, rfl, t18 _ _ hx, DL.cl, DL.nW, ff_width _ _ _, z7, z6, p8, _, _, _, _, addV q (-1) p, n, n, rfl, t8 _ _ hz7, t8 _ _ (t7 _ _ hz6), r7, r6.keep (t7.trans t8), by rw [List.length_append, List.length_append, List.length_replicate], hp8, (addV_len lqp).trans lq, n1, n60, n60, by rw [List.length_append, List.length_replicate]; omega, by rw [show appR _ _ = _ from gens_m B1 B2 n]; exact okG, by rw [show appR _ _ = _ from gens_m B1 B2 n]; exact okR, by rw [show appR _ _ = _ from gens_m B1 B2 n]; exact cnt, fun H9 t9 l9 pv as s9 ht9 hpt9 hl9 has9 => ?_⟩
    rw [show appR _ _ = _ from gens_m B1 B2 n] at hpt9 has9
    have t19 := t18.trans s9
    refine ⟨t9, _, rfl, SqT.of ht9, rfl, _, _, rfl, _, _, rfl, rfl, ?_⟩
    have hpt9' : PtAt H9 n pv (mPt B1 B2 p q n) := hpt9
    have has9' : Rows H9 n as (mFr B1 B2 p q n) := has9
    clear hpt9 has9 r6 r7
    cases hm : mPt B1 B2 p q n with
    | none =>
      rw [hm] at hpt9' k
      cases (show pv = .non from hpt9')
      have hF : mFr B1 B2 p q n = [] := by
        unfold mPt srcPt at hm
        unfold mFr srcFr
        split at hm
        · rename_i h; rw [if_pos h]
        · cases hm
      rw [hF] at k
      refine ⟨_, rfl, rfl, _, rfl, iteSe rfl ⟨Nat.zero_le _, fun l hl => ⟨(by decide : 2 ≤ sizeLine), fun t ht => ?_⟩⟩⟩
      obtain ⟨s10, hl10⟩ := new_at (o := .lst []) hl
      obtain ⟨s11, ht11⟩ := new_at (o := .tup [V.non, V.ref l]) ht
      exact k _ t l .non [] (t19.trans (s10.trans s11)) ht11 rfl (s11 _ _ hl10) ⟨.nil, fun v hv => nomatch hv⟩
    | some v =>
      obtain ⟨lv, m1⟩ := mv v hm
      rw [hm] at hpt9' k
      obtain ⟨av, rfl, hv, _⟩ := hpt9'
      refine ⟨_, rfl, rfl, _, rfl, iteSf rfl ?_⟩
      refine ⟨_, rfl, x, D, dx, _, _, rfl, t19 _ _ hx, DL.cl, DL.nP, ff_point _ _ _, _, rfl, ap, av, 1, p, v, rfl, t19 _ _ hp, hv, lp.trans lv.symm, by omega, m1, fun H10 p10 s10 hp10 => ⟨_, rfl, (by decide : 2 ≤ sizeLine), fun t ht => ?_⟩⟩
      obtain ⟨s11, ht11⟩ := new_at (o := .tup [V.ref p10, V.ref l9]) ht
      exact k _ t l9 (.ref p10) as (t19.trans (s10.trans s11)) ht11 ⟨p10, rfl, s11 _ _ hp10, (addV_len (lp.trans lv.symm)).trans lp⟩ (s11 _ _ (s10 _ _ hl9)) (has9'.keep (s10.trans s11))
end
end K06

namespace K06
open PySem L2 RZ Lat
theorem pe_fldK {X : Cx} {K : PySem.W.Frag} (e0 : X.K = K) {e : Expr} {ta : TE} {f : Str} {pos : Pos} (he : PE X e ta) (hb : attributeBase e f X.env (eval e X.env) = eval e X.env) : PE X (.Attribute e f pos) (tFld K ta f) := by
  subst e0; exact pe_fld he hb
theorem hn_nil : grows [] ([] : List Vec) = [] := rfl
section
variable {P : Program} {w : World} {K : PySem.W.Frag} {mg : Str → Option Value} {base : Heap}
abbrev s_Factors_and : Stmt := inClass (top 33) 7
abbrev n_Factors_and : List Str := ["self", "other", "point", "free"]
theorem sc_Factors_and : FnScope n_Factors_and ["self", "other"] (defScope s_Factors_and) := ⟨rfl, rfl, rfl, by decide +kernel, rfl, by decide +kernel, by decide +kernel⟩
def spAnd (D M : Addr) : Sp := fun vs H Q E => ∃ (x y : Addr) (n m : Nat) (o o' : Option Vec) (B B' : List Vec), vs = [.ref x, .ref y] ∧ FacAt D H x n o B ∧ FacAt D H y m o' B' ∧ ((n ≠ m ∧ E (.ref M) none H) ∨ (n = m ∧ 1 ≤ n ∧ n ≤ 60 ∧ (∀ p q, o = some p → o' = some q → OkAnd n p B q B') ∧ ∀ (H' : Hp) (z : Addr), Same H H' → FacAt D H' z n (andO n o B o' B') (andB n o B o' B') → Q (.ref z) H'))
theorem ok_and {D M fF fA t0 : Addr} {fdF fd : FuncData} {ds1 : List Value} (T : Txt mg) (DL : ClsF K mg D) (TD : ClsT K D) (EM : ErrC K mg "Mismatch" M) (MD : Mk K D fF) (g_factors : FnOk P w K mg base CX0 7 fF fdF ["self", "width", "point", "rows"] (spFactors K D)) (bF : Binds K fdF ["self", "width", "point", "rows"] [])
    (bF1 : Binds K fdF ["self", "width", "point", "rows"] ds1) (vF1 : Vals [.non, .ref t0] ds1) (it0 : ∀ H, InSeq K H t0 [])
    (g_meeting : Has P w K mg base 8 "meeting" ["p", "q"] (spMeeting D)) (F : Fun K "__and__" "Factors.__and__" s_Factors_and fA fd) : FnOk P w K mg base (L2.CX P w) 9 fA fd ["self", "other"] (spAnd D M) := by
  refine F.okX sc_Factors_and (fun vs H Q E h => ?_) (fun cdv A outer s H vs Q E hr h => ?_)
  · obtain ⟨x, y, n, m, o, o', B, B', rfl, _⟩ := h
    rfl
  · obtain ⟨x, y, n, m, o, o', B, B', rfl, fx, fy, h⟩ := h
    obtain ⟨dx, b, w0, os, hx, hb, hrs, hpt⟩ := id fx
    obtain ⟨dy, c, w1, os2, hy, hc, hrs2, hpt2⟩ := id fy
    refine ⟨_, (pss_cons (ps_if (pt_not (pt_val (pe_callB call_isi (by rfl) T.z_isinstance (by decide +kernel) (pa_cons (pv 1) (pa_cons (pe_glob (v := .ref D) rfl DL.m rfl) pa_nil))))) (pss_one ps_never) pss_nil)
      (pss_cons (ps_if (pt_cmpR op_ne (pe_fld (pv 0) rfl) (pe_fld (pv 1) rfl) (nomark _)) (pss_one (ps_raise rfl (takes_of rfl rfl rfl rfl) (pmk_err EM rfl))) pss_nil)
      (pss_cons (ps_if (PW.pt (pw_or (pt_cmpR op_isN (pe_fld (pv 0) rfl) pe_non (nomark _)) (pw_or1 (pt_cmpR op_isN (pe_fld (pv 1) rfl) pe_non (nomark _))))) (pss_one (ps_ret (pe_make MD g_factors (hr.mono (by decide)) rfl DL.m bF1 vF1 pass0 (pa_cons (pe_fld (pv 0) rfl) pa_nil)))) pss_nil)
      (pss_cons (ps_asg (pe_callHas g_meeting (hr.mono (by decide)) rfl (pa_cons (pv 0) (pa_cons (pv 1) pa_nil))) (pg_tup rfl (pgs_cons (pg_name (i := 2) sc_Factors_and.nd rfl (Or.inl rfl)) (pgs_cons (pg_name (i := 3) sc_Factors_and.nd rfl (Or.inl rfl)) pgs_nil))))
      (pss_one (ps_ret (pe_make MD g_factors (hr.mono (by decide)) rfl DL.m bF .nil pass0 (pa_cons (pe_fld (pv 0) rfl) (pa_cons (pv 2) (pa_cons (pv 3) pa_nil)))))))))), ?_⟩
    refine ⟨_, rfl, _, _, _, _, true, rfl, .own _, .base (.ins hy DL.cl TD.ha TD.hn TD.htk TD.two.obj), TD.kk, _, rfl, ?_⟩
    refine ⟨_, rfl, x, D, dx, _, _, rfl, hx, DL.cl, DL.nW, ff_width _ _ _, _, rfl, y, D, dy, _, _, rfl, hy, DL.cl, DL.nW, ff_width _ _ _, rfl, _, rfl, ?_⟩
    show if (!decide (V.int ((n : Nat) : Int) = V.int ((m : Nat) : Int))) = true then _ else _
    rcases h with ⟨ne, e⟩ | ⟨rfl, n1, n60, ok, k⟩
    · rw [wne ne]
      exact e
    rw [weq]
    have bare : andO n o B o' B' = none → andB n o B o' B' = [] → ∀ (z dz : Addr), H z = none → H dz = none → dz ≠ z → spFactors K D [.ref z, .int ((n : Nat) : Int), .non, .ref t0] (upd (upd H dz (.own z)) z (.ins D dz [])) (fun v H2 => v = .non ∧ Q (.ref z) H2) E0 := fun ea eb z dz hz hdz ndz => by
      have so : Same H (upd (upd H dz (.own z)) z (.ins D dz [])) := fun z' o h => by
        rw [upd_ne (ne_of_none h hz), upd_ne (ne_of_none h hdz)]; exact h
      refine ⟨z, dz, t0, n, .non, none, [], [], rfl, upd_same, n1, by omega, by decide, it0 _, ⟨.nil, fun v hv => nomatch hv⟩, trivial, rfl, (fun v e => nomatch e), fun H2 kp fac => ⟨rfl, k H2 z (fun z' o h => kp z' o (ne_of_none h hz) (so _ _ h)) ?_⟩⟩
      rw [ea, eb]; exact fac
    cases o with
    | none =>
      cases (show w0 = .non from hpt)
      refine ⟨_, rfl, x, D, dx, _, _, rfl, hx, DL.cl, DL.nP, ff_point _ _ _, rfl, _, rfl, iteSe rfl (iteSe rfl ?_)⟩
      refine ⟨_, rfl, x, D, dx, _, _, rfl, hx, DL.cl, DL.nW, ff_width _ _ _, ?_⟩
      exact bare (by cases o' <;> rfl) (by cases o' <;> rfl)
    | some p =>
      cases o' with
      | none =>
        cases (show w1 = .non from hpt2)
        obtain ⟨ap, rfl, hp, lp⟩ := id hpt
        refine ⟨_, rfl, x, D, dx, _, _, rfl, hx, DL.cl, DL.nP, ff_point _ _ _, rfl, _, rfl, iteSf rfl ?_⟩
        refine ⟨_, rfl, y, D, dy, _, _, rfl, hy, DL.cl, DL.nP, ff_point _ _ _, rfl, _, rfl, iteSe rfl ?_⟩
        refine ⟨_, rfl, x, D, dx, _, _, rfl, hx, DL.cl, DL.nW, ff_width _ _ _, ?_⟩
        exact bare rfl rfl
      | some q =>
        have ok := ok p q rfl rfl
        obtain ⟨ap, rfl, hp, lp⟩ := id hpt
        obtain ⟨aq, rfl, hq, lq⟩ := id hpt2
        refine ⟨_, rfl, x, D, dx, _, _, rfl, hx, DL.cl, DL.nP, ff_point _ _ _, rfl, _, rfl, iteSf rfl ?_⟩
        refine ⟨_, rfl, y, D, dy, _, _, rfl, hy, DL.cl, DL.nP, ff_point _ _ _, rfl, _, rfl, iteSf rfl ?_⟩
        refine ⟨_, rfl, _, rfl, x, y, n, p, q, B, B', rfl, fx, fy, ok, fun H1 t l pv as s1 ht hpv hl has => ?_⟩
        refine ⟨t, _, rfl, SqT.of ht, rfl, _, _, rfl, _, _, rfl, rfl, ?_⟩
        refine ⟨_, rfl, x, D, dx, _, _, rfl, s1 _ _ hx, DL.cl, DL.nW, ff_width _ _ _, _, rfl, _, rfl, ?_⟩
        refine fun z dz hz hdz ndz => ?_
        have so : Same H1 (upd (upd H1 dz (.own z)) z (.ins D dz [])) := fun z' o h => by
          rw [upd_ne (ne_of_none h hz), upd_ne (ne_of_none h hdz)]; exact h
        refine ⟨z, dz, l, n, pv, _, as, _, rfl, upd_same, n1, by omega, ok.num, .inl (so _ _ hl), has.keep so, ok.okF, hpv.keep so, fun v hv => ?_, fun H2 kp fac => ⟨rfl, ?_⟩⟩
        · cases hm : mPt B B' p q n with
          | none => rw [hm] at hv; cases hv
          | some v0 =>
            rw [hm] at hv
            cases hv
            exact ok.okP v0 hm
        · refine k H2 z (fun z' o h => kp z' o (ne_of_none (s1 _ _ h) hz) (so _ _ (s1 _ _ h))) ?_
          have e1 : andO n (some p) B (some q) B' = ((mPt B B' p q n).map (addV p 1)).map (redV (grows [] (mFr B B' p q n))) := by
            show (mPt B B' p q n).map (fun v => redV (grows [] (mFr B B' p q n)) (addV p 1 v)) = _
            rw [Option.map_map]; rfl
          have e2 : andB n (some p) B (some q) B' = ((mPt B B' p q n).map (addV p 1)).elim [] fun _ => grows [] (mFr B B' p q n) := by
            show (mPt B B' p q n).elim [] (fun _ => grows [] (mFr B B' p q n)) = _
            cases mPt B B' p q n <;> rfl
          rw [e1, e2]; exact fac
def covB (o : Option Vec) (B : List Vec) (o' : Option Vec) (B' : List Vec) : Bool := match o', o with
  | none, _ => true
  | some q, none => false
  | some q, some p => decide (redV B q = p) && (B'.map fun r => decide (piv (redV B r) = (redV B r).length)).all id
abbrev s_covers : Stmt := top 31
abbrev n_covers : List Str := ["outer", "inner", "row"]
theorem sc_covers : FnScope n_covers ["outer", "inner"] (defScope s_covers) := ⟨rfl, rfl, rfl, by decide +kernel, rfl, by decide +kernel, by decide +kernel⟩
def spCovers (D M : Addr) : Sp := fun vs H Q E => ∃ (x y : Addr) (n m : Nat) (o o' : Option Vec) (B B' : List Vec), vs = [.ref x, .ref y] ∧ FacAt D H x n o B ∧ FacAt D H y m o' B' ∧ ((n ≠ m ∧ E (.ref M) none H) ∨ (n = m ∧ n ≤ 1000 ∧ B'.length ≤ 400 ∧ (∀ r ∈ B', OkRed B r) ∧ (∀ q, o' = some q → OkRed B q) ∧ ∀ H', Same H H' → Q (.bl (covB o B o' B')) H'))
theorem ok_covers {D M fC : Addr} {fdC : FuncData} (T : Txt mg) (DL : ClsF K mg D) (EM : ErrC K mg "Mismatch" M) (hsC : PySem.W.findIn K (.ref D) "__contains__" = some (some (.ref fC))) (fnC : PySem.W.isFn K (.ref fC) = true) (g_cont : FnOk P w K mg base CX0 4 fC fdC ["self", "x"] (spContF D)) (bC : Binds K fdC ["self", "x"] [])
    (g_is_zero : Has P w K mg base 2 "is_zero" ["vector"] spZero) (g_reduced_by : Has P w K mg base 2 "reduced_by" ["basis", "vector"] spReduced) (F : DefAt K mg "covers" s_covers ["outer", "inner"]) : HasX P w K mg base 5 "covers" ["outer", "inner"] (spCovers D M) := by
  refine F.hasX sc_covers (fun vs H Q E h => ?_) (fun f cdv A outer s H vs Q E hr h => ?_)
  · obtain ⟨x, y, n, m, o, o', B, B', rfl, _⟩ := h
    rfl
  · obtain ⟨x, y, n, m, o, o', B, B', rfl, fx, fy, h⟩ := h
    obtain ⟨dx, b, w0, os, hx, hb, hrs, hpt⟩ := id fx
    obtain ⟨dy, c, w1, os2, hy, hc, hrs2, hpt2⟩ := id fy
    refine ⟨_, (pss_cons (ps_if (pt_cmpR op_ne (pe_fld (pv 0) rfl) (pe_fld (pv 1) rfl) (nomark _)) (pss_one (ps_raise rfl (takes_of rfl rfl rfl rfl) (pmk_err EM rfl))) pss_nil)
      (pss_cons (ps_if (pt_cmpR op_isN (pe_fld (pv 1) rfl) pe_non (nomark _)) (pss_one (ps_ret pe_bl)) pss_nil)
      (pss_one (ps_ret (pe_and (pe_cmpR (op_inO g_cont hsC fnC (hr.mono (by decide)) bC pass0) (pe_fld (pv 1) rfl) (pv 0) (by rfl)) (pe_one (pe_callB (cr_all rfl) (by rfl) T.z_all (by decide +kernel) (pa_cons (pe_lc (own := [("row", 2)]) (g := gName 2) (by rfl) sc_covers.nd (pi_tup (pe_fld (pv 1) rfl)) (blkOk_by (own := [("row", 2)]) (N := n_covers) (sc := defScope s_covers) (by decide +kernel)) (fun _ _ _ _ _ => (pg_name (i := 2) sc_covers.nd rfl (Or.inl rfl))) (fun _ _ _ _ _ => pts_nil) (fun _ _ _ _ _ => (pe_callHas g_is_zero (hr.mono (by decide)) rfl (pa_cons (pe_callHas g_reduced_by (hr.mono (by decide)) rfl (pa_cons (pe_fldK (K := K) rfl (pv 0) rfl) (pa_cons (pv 2) pa_nil))) pa_nil)))) pa_nil)))))))), ?_⟩
    refine ⟨_, rfl, x, D, dx, _, _, rfl, hx, DL.cl, DL.nW, ff_width _ _ _, _, rfl, y, D, dy, _, _, rfl, hy, DL.cl, DL.nW, ff_width _ _ _, rfl, _, rfl, ?_⟩
    show if (!decide (V.int ((n : Nat) : Int) = V.int ((m : Nat) : Int))) = true then _ else _
    rcases h with ⟨ne, e⟩ | ⟨rfl, n2, l2, ok, okq, k⟩
    · rw [wne ne]
      exact e
    rw [weq]
    cases o' with
    | none =>
      cases (show w1 = .non from hpt2)
      refine ⟨_, rfl, y, D, dy, _, _, rfl, hy, DL.cl, DL.nP, ff_point _ _ _, rfl, _, rfl, iteSe rfl ?_⟩
      exact k H (Same.refl H)
    | some q =>
      obtain ⟨aq, rfl, hq, lq⟩ := id hpt2
      refine ⟨_, rfl, y, D, dy, _, _, rfl, hy, DL.cl, DL.nP, ff_point _ _ _, rfl, _, rfl, iteSf rfl ?_⟩
      refine ⟨_, rfl, y, D, dy, _, _, rfl, hy, DL.cl, DL.nP, ff_point _ _ _, _, rfl, x, dx, _, rfl, hx, x, .ref aq, n, o, B, rfl, fx, n2, ?_⟩
      cases o with
      | none =>
        exact .inl ⟨rfl, _, rfl, _, rfl, iteSf rfl (k H (Same.refl H))⟩
      | some p =>
        refine .inr (.inl ⟨p, aq, q, rfl, rfl, hq, lq, okq q rfl, fun H1 s1 => ⟨_, rfl, ?_⟩⟩)
        have fne : ∀ c : Bool, (false != c) = c := by decide
        rw [fne]
        have k' : ∀ H', Same H H' → Q (.bl (decide (redV B q = p) && (B'.map fun r => decide (piv (redV B r) = (redV B r).length)).all id)) H' := k
        by_cases e : redV B q = p
        · rw [decide_eq_true e] at k' ⊢
          refine ⟨_, rfl, iteSe rfl ?_⟩
          have hc1 := s1 _ _ hc
          have hrs1 := hrs2.keep s1
          refine ⟨_, rfl, y, D, dy, _, _, rfl, s1 _ _ hy, DL.cl, DL.nB, ff_basis _ _ _, c, rfl, ⟨_, SqT.of hc1⟩, fun D2 hD => lc_it (walk_tup (xs := os2)) (fun i H' => Same H1 H' ∧ H' D2 = some (.lst (((B'.take i).map fun r => decide (piv (redV B r) = (redV B r).length)).map V.bl))) ⟨(new_at hD).1, upd_same⟩ (fun i H' _ q => SqT.of (q.1 _ _ hc1)) ?_ ?_⟩
          · rintro i z H' H'' hi ⟨sm, hD'⟩ ⟨rfl, ez⟩
            obtain ⟨a, r, er, rfl, hr0, lr⟩ := (hrs1.keep sm).at ez
            have hmem := List.mem_of_getElem? er
            refine ⟨rfl, ?_⟩
            have s0 := s1.trans sm
            refine ⟨_, rfl, x, D, dx, _, _, rfl, s0 _ _ hx, DL.cl, DL.nB, ff_basis _ _ _, _, rfl, b, a, os, B, r, rfl, .inl (s0 _ _ hb), lr ▸ hrs.keep s0, hr0, by omega, ok r hmem, fun H2 q2 s2 hq2 lq2 => ?_⟩
            refine ⟨q2, _, rfl, hq2, fun H3 s3 => ?_⟩
            have s23 := s2.trans s3
            refine ⟨_, s23 _ _ hD', ?_, fun y o z => ?_, ?_⟩
            · rw [List.length_map, List.length_map, List.length_take]
              exact Nat.lt_of_le_of_lt (Nat.le_trans (Nat.min_le_right _ _) l2) (by decide)
            · rw [upd_ne (ne_of_none z hD)]
              exact s23 _ _ (sm _ _ z)
            · rw [upd_same, List.take_add_one, er, List.map_append, List.map_append]; rfl
          · rintro H' ⟨sm, hD'⟩
            rw [hrs1.len, List.take_length] at hD'
            exact ⟨_, _, rfl, SqL.of hD', k' _ (s1.trans sm)⟩
        · rw [decide_eq_false e] at k' ⊢
          exact ⟨_, rfl, iteSf rfl (k' H1 s1)⟩
abbrev s_Factors_le : Stmt := inClass (top 33) 9
abbrev n_Factors_le : List Str := ["self", "other"]
theorem sc_Factors_le : FnScope n_Factors_le ["self", "other"] (defScope s_Factors_le) := ⟨rfl, rfl, rfl, by decide +kernel, rfl, by decide +kernel, by decide +kernel⟩
def spLeF (D M : Addr) : Sp := fun vs H Q E => ∃ (x y : Addr) (n m : Nat) (o o' : Option Vec) (B B' : List Vec), vs = [.ref x, .ref y] ∧ FacAt D H x n o B ∧ FacAt D H y m o' B' ∧ ((n ≠ m ∧ E (.ref M) none H) ∨ (n = m ∧ n ≤ 1000 ∧ B.length ≤ 400 ∧ (∀ r ∈ B, OkRed B' r) ∧ (∀ q, o = some q → OkRed B' q) ∧ ∀ H', Same H H' → Q (.bl (covB o' B' o B)) H'))
theorem ok_leF {D M fL : Addr} {fd : FuncData} (T : Txt mg) (DL : ClsF K mg D) (TD : ClsT K D) (g_covers : HasX P w K mg base 5 "covers" ["outer", "inner"] (spCovers D M)) 
    (F : Fun K "__le__" "Factors.__le__" s_Factors_le fL fd) : FnOk P w K mg base (L2.CX P w) 6 fL fd ["self", "other"] (spLeF D M) := by
  refine F.okX sc_Factors_le (fun vs H Q E h => ?_) (fun cdv A outer s H vs Q E hr h => ?_)
  · obtain ⟨x, y, n, m, o, o', B, B', rfl, _⟩ := h
    rfl
  · obtain ⟨x, y, n, m, o, o', B, B', rfl, fx, fy, h⟩ := h
    obtain ⟨dx, b, w0, os, hx, hb, hrs, hpt⟩ := id fx
    obtain ⟨dy, c, w1, os2, hy, hc, hrs2, hpt2⟩ := id fy
    refine ⟨_, (pss_cons (ps_if (pt_not (pt_val (pe_callB call_isi (by rfl) T.z_isinstance (by decide +kernel) (pa_cons (pv 1) (pa_cons (pe_glob (v := .ref D) rfl DL.m rfl) pa_nil))))) (pss_one ps_never) pss_nil)
      (pss_one (ps_ret (pe_callHasX g_covers (hr.mono (by decide)) rfl (passOut rfl rfl rfl rfl) (pa_cons (pv 1) (pa_cons (pv 0) pa_nil)))))), ?_⟩
    refine ⟨_, rfl, _, _, _, _, true, rfl, .own _, .base (.ins hy DL.cl TD.ha TD.hn TD.htk TD.two.obj), TD.kk, _, rfl, ?_⟩
    rcases h with ⟨ne, e⟩ | ⟨rfl, n2, l2, ok, okq, k⟩
    · exact ⟨_, rfl, _, rfl, y, x, m, n, o', o, B', B, rfl, fy, fx, .inl ⟨ne.symm, e⟩⟩
    · exact ⟨_, rfl, _, rfl, y, x, n, n, o', o, B', B, rfl, fy, fx, .inr ⟨rfl, n2, l2, ok, okq, fun H1 s1 => k H1 s1⟩⟩
end
end K06

namespace K06
open PySem L2 RZ Lat
section
variable {P : Program} {w : World} {K : PySem.W.Frag} {mg : Str → Option Value} {base : Heap}
def IntsAt (H : Hp) (r : Addr) (b : Vec) : Prop := IsV H r b ∨ IsL H r b
theorem IntsAt.keep {H H' : Hp} {r : Addr} {b : Vec} (s : Same H H') (h : IntsAt H r b) : IntsAt H' r b := h.imp (s _ _) (s _ _)
theorem tupof_step {K : PySem.W.Frag} {H : Hp} {r : Addr} {b : Vec} {Q : VK} (h : IntsAt H r b) (k : ∀ (H' : Hp) (q : Addr), Same H H' → IsV H' q b → Q (.ref q) H') : ∃ p ys, [V.ref r] = [.ref p] ∧ ((SqL K H p ys ∧ ∀ l, H l = none → Q (.ref l) (upd H l (.tup ys))) ∨ (SqT K H p ys ∧ Q (.ref p) H)) := by
  rcases h with h | h
  · exact ⟨r, _, rfl, .inr ⟨SqT.of h, k H r (Same.refl H) h⟩⟩
  · exact ⟨r, _, rfl, .inl ⟨SqL.of h, fun l hl => k _ l (new_at hl).1 (new_at hl).2⟩⟩
/-- tuple(x), x a list or a tuple of ints -/
theorem call_tupI {X : Cx} : CallR X (.type "tuple") (fun xs H Q => ∃ (r : Addr) (b : Vec), xs = [.ref r] ∧ IntsAt H r b ∧ ∀ (H' : Hp) (q : Addr), Same H H' → IsV H' q b → Q (.ref q) H') := fun pins s σ H xs us Q I r h => call_tuple_of pins s σ H xs us Q I r (by
  obtain ⟨a, b, rfl, h, k⟩ := h
  exact tupof_step h k)
theorem seq_len {K : PySem.W.Frag} {H : Hp} {l : Addr} {as : List V} (h : InSeq K H l as) : LenV K (.ref l) H as.length := by
  rcases h with h | h
  · exact .inl ⟨_, SqL.of h, rfl⟩
  · exact .inr ⟨_, h.1 H (Same.refl H), rfl⟩
theorem ints_seq {K : PySem.W.Frag} {H : Hp} {r : Addr} {b : Vec} (h : IntsAt H r b) : InSeq K H r (b.map V.int) := by
  rcases h with h | h
  · exact .tup h
  · exact .inl h
theorem gens_app (F : List Vec) (n : Nat) : appR ((List.range n).map (colV F)) (unitRows n) = gensOf F n := by
  unfold appR unitRows gensOf
  rw [List.zipWith_map, List.zipWith_self]
abbrev s_Factors_solving : Stmt := inClass (top 33) 2
abbrev n_Factors_solving : List Str := ["cls", "width", "forms", "rights", "images", "point", "free", "at", "form"]
theorem sc_Factors_solving : FnScope n_Factors_solving ["cls", "width", "forms", "rights"] (defScope s_Factors_solving) := ⟨rfl, rfl, rfl, by decide +kernel, rfl, by decide +kernel, by decide +kernel⟩
def fPt (F : List Vec) (n : Nat) (b : Vec) : Option Vec := srcPt F.length (gB F n) (tgt n b)
def fFr (F : List Vec) (n : Nat) (b : Vec) : List Vec := srcFr F.length (gB F n) (tgt n b)
def solO (F : List Vec) (n : Nat) (b : Vec) : Option Vec := (fPt F n b).map (redV (grows [] (fFr F n b)))
def solB (F : List Vec) (n : Nat) (b : Vec) : List Vec := (fPt F n b).elim [] fun _ => grows [] (fFr F n b)
structure OkSol (F : List Vec) (n : Nat) (b : Vec) : Prop where
  n1 : 1 ≤ n
  n60 : n ≤ 60
  m60 : F.length ≤ 60
  lb : b.length = F.length
  lF : ∀ r ∈ F, r.length = n
  okG : OkGrows [] (gensOf F n)
  okR : OkRed (gB F n) (tgt n b)
  cnt : (gB F n).length ≤ 100
  okF : OkGrows [] (fFr F n b)
  okP : ∀ p, fPt F n b = some p → OkRed (grows [] (fFr F n b)) p
  num : (fFr F n b).length ≤ 1000
def spSolving (K : PySem.W.Frag) (D : Addr) : Sp := fun vs H Q _ => ∃ (f r : Addr) (n : Nat) (fa : List V) (F : List Vec) (b : Vec), vs = [.ref D, .int ((n : Nat) : Int), .ref f, .ref r] ∧ InSeq K H f fa ∧ Rows H n fa F ∧ IntsAt H r b ∧ OkSol F n b ∧ ∀ (H' : Hp) (x : Addr), Same H H' → FacAt D H' x n (solO F n b) (solB F n b) → Q (.ref x) H'
theorem ok_solving {D fF fV : Addr} {fdF fd : FuncData} (T : Txt mg) (MD : Mk K D fF) (g_is_width : Has P w K mg base 2 "is_width" ["value"] spWidth) (g_are_vectors : Has P w K mg base 3 "are_vectors" ["value", "width"] (spAreVectors K)) (g_is_sequence : Has P w K mg base 1 "is_sequence" ["value"] (spSeq K)) (g_is_vector : Has P w K mg base 2 "is_vector" ["value", "width"] spIsVector)
    (g_unit_rows : Has P w K mg base 1 "unit_rows" ["width"] spUnit) (g_sources : Has P w K mg base 7 "sources" ["images", "rows", "target", "width"] spSources)
    (g_factors : FnOk P w K mg base CX0 7 fF fdF ["self", "width", "point", "rows"] (spFactors K D)) (bF : Binds K fdF ["self", "width", "point", "rows"] [])
    (F : Fun K "solving" "Factors.solving" s_Factors_solving fV fd) : FnOk P w K mg base CX0 10 fV fd ["cls", "width", "forms", "rights"] (spSolving K D) := by
  refine F.ok sc_Factors_solving (fun vs H Q E h => ?_) (fun cdv A outer s H vs Q E hr h => ?_)
  · obtain ⟨f, r, n, fa, F, b, rfl, _⟩ := h
    rfl
  · obtain ⟨f, r, n, fa, F, b, rfl, hf, hfa, hr0, ok, k⟩ := h
    obtain ⟨n1, n60, m60, lb, lF, okG, okR, cnt, okF, okP, num⟩ := ok
    refine ⟨_, (pss_cons (ps_if (PW.pt (pw_or (pt_not (pt_val (pe_callHas g_is_width (hr.mono (by decide)) rfl (pa_cons (pv 1) pa_nil)))) (pw_or1 (pt_not (pt_val (pe_callHas g_are_vectors (hr.mono (by decide)) rfl (pa_cons (pv 2) (pa_cons (pv 1) pa_nil)))))))) (pss_one ps_never) pss_nil)
      (pss_cons (ps_if (PW.pt (pw_or (pt_not (pt_val (pe_callHas g_is_sequence (hr.mono (by decide)) rfl (pa_cons (pv 3) pa_nil)))) (pw_or1 (pt_not (pt_val (pe_callHas g_is_vector (hr.mono (by decide)) rfl (pa_cons (pe_callTy call_tupI (by rfl) T.z_tuple (by decide +kernel) (pa_cons (pv 3) pa_nil)) (pa_cons (pe_callB call_len (by rfl) T.z_len (by decide +kernel) (pa_cons (pv 2) pa_nil)) pa_nil)))))))) (pss_one ps_never) pss_nil)
      (pss_cons (ps_setLc (i := 4) (own := [("at", 7)]) (g := gName 7) (by rfl) sc_Factors_solving.nd rfl rfl (sw_true rfl rfl rfl (by decide +kernel)) (pi_range1 rfl T.z_range (pa_cons (pv 1) pa_nil)) (blkOk_by (own := [("at", 7)]) (N := n_Factors_solving) (sc := defScope s_Factors_solving) (by decide +kernel)) (fun _ _ _ _ _ => (pg_name (i := 7) sc_Factors_solving.nd rfl (Or.inr rfl))) (fun _ _ _ _ _ => pts_nil) (fun _ _ _ _ _ => (pe_callTy (call_tupK (K := K) rfl) (by rfl) T.z_tuple (by decide +kernel) (pa_cons (pe_lc (own := [("form", 8)]) (g := gName 8) (by rfl) sc_Factors_solving.nd (pi_seqK (K := K) rfl (pv 2)) (blkOk_by (own := [("form", 8)]) (N := n_Factors_solving) (sc := ({ kind := .function, names := [((".0" : Str), .local), ("at", .cell), ("tuple", .globalImplicit), ("forms", .cell)], isGenerator := false, isCoroutine := false } : Scope)) (by decide +kernel)) (fun _ _ _ _ _ => (pg_name (i := 8) sc_Factors_solving.nd rfl (Or.inl rfl))) (fun _ _ _ _ _ => pts_nil) (fun _ _ _ _ _ => (pe_ix (ix_tupK (K := K) rfl) (pv 8) (pv 7) (fun _ _ => rfl)))) pa_nil))))
      (pss_cons (ps_asg (pe_callHas g_sources (hr.mono (by decide)) rfl (pa_cons (pv 4) (pa_cons (pe_callHas g_unit_rows (hr.mono (by decide)) rfl (pa_cons (pv 1) pa_nil)) (pa_cons (pe_callTy call_tupI (by rfl) T.z_tuple (by decide +kernel) (pa_cons (pv 3) pa_nil)) (pa_cons (pv 1) pa_nil))))) (pg_tup rfl (pgs_cons (pg_name (i := 5) sc_Factors_solving.nd rfl (Or.inl rfl)) (pgs_cons (pg_name (i := 6) sc_Factors_solving.nd rfl (Or.inl rfl)) pgs_nil))))
      (pss_one (ps_ret (pe_makeV (i := 0) MD g_factors (hr.mono (by decide)) rfl (Or.inl rfl) bF .nil pass0 (pa_cons (pv 1) (pa_cons (pv 5) (pa_cons (pv 6) pa_nil)))))))))), ?_⟩
    refine ⟨_, rfl, _, rfl, by omega, _, rfl, _, rfl, _, rfl, f, fa, F, n, rfl, hf, hfa, by omega, by omega, fun H1 s1 => ⟨_, rfl, ?_⟩⟩
    refine ⟨_, rfl, r, _, rfl, (ints_seq hr0).keep s1, fun H2 s2 => ⟨_, rfl, ?_⟩⟩
    have s12 := s1.trans s2
    refine ⟨_, rfl, r, b, rfl, hr0.keep s12, fun H3 q3 s3 hq3 => ?_⟩
    have s13 := s12.trans s3
    refine ⟨_, rfl, _, _, rfl, seq_len (hf.keep s13), q3, b, by rw [hfa.len, lb]; rfl, hq3, by omega, fun H4 s4 => ⟨_, rfl, ?_⟩⟩
    have s14 := s13.trans s4
    have hf4 := hf.keep s14
    have hfa4 := hfa.keep s14
    have hr4 := hr0.keep s14
    clear s1 s2 s3 s12 s13 hq3 s4
    -- images
    refine ⟨_, rfl, ((n : Nat) : Int), rfl, by omega, by omega, fun D1 hD1 => lc_range (lo := 0) (n := n) (fun t H' => Same H4 H' ∧ ∃ os, H' D1 = some (.lst os) ∧ os.length = t ∧ Rows H' F.length os ((List.range t).map (colV F))) ⟨(new_at hD1).1, [], upd_same, rfl, .nil, fun v hv => nomatch hv⟩ ?_ ?_⟩
    · rintro t H' ht ⟨sm, os, hx, lx, hos⟩
      refine ⟨rfl, ?_⟩
      have hf' := hf4.keep sm
      have hfa' := hfa4.keep sm
      have fin : ∀ (D2 : Addr) (H3 : Hp), H' D2 = none → Same H' H3 → H3 D2 = some (.lst ((colV F t).map V.int)) → ∀ q, H3 q = none → ∃ acc, (upd H3 q (.tup ((colV F t).map V.int))) D1 = some (.lst acc) ∧ acc.length < sizeLine ∧ (Same H4 (upd (upd H3 q (.tup ((colV F t).map V.int))) D1 (.lst (acc ++ [.ref q]))) ∧ ∃ os, upd (upd H3 q (.tup ((colV F t).map V.int))) D1 (.lst (acc ++ [.ref q])) D1 = some (.lst os) ∧ os.length = t + 1 ∧ Rows (upd (upd H3 q (.tup ((colV F t).map V.int))) D1 (.lst (acc ++ [.ref q]))) F.length os ((List.range (t + 1)).map (colV F))) := fun D2 H3 hD2 s3 h2 q hq => by
        obtain ⟨s5, hq5⟩ := new_at (o := .tup ((colV F t).map V.int)) hq
        have s35 := s3.trans s5
        refine ⟨os, s35 _ _ hx, by rw [lx]; exact Nat.lt_of_lt_of_le ht (Nat.le_trans n60 (by decide)), fun y o z => by rw [upd_ne (ne_of_none z hD1)]; exact s35 _ _ (sm _ _ z), os ++ [.ref q], upd_same, by rw [List.length_append, lx]; rfl, ?_⟩
        rw [List.range_succ, List.map_append]
        exact Rows.lst (s35 _ _ hx) But.upd' ((hos.keep s35).snoc hq5 (colV_len F t))
      have stp : ∀ (D2 : Addr) (H3 : Hp) (i : Nat) (y : V), H' D2 = none → Same H' H3 → H3 D2 = some (.lst (((colV F t).take i).map V.int)) → fa[i]? = some y → ∃ ar r, y = .ref ar ∧ SqT K H3 ar (r.map V.int) ∧ atI (r.map V.int) (0 + ((t : Nat) : Int)) = some (V.int (itm r t)) ∧ ∃ acc, H3 D2 = some (.lst acc) ∧ acc.length < sizeLine ∧ (Same H' (upd H3 D2 (.lst (acc ++ [V.int (itm r t)]))) ∧ upd H3 D2 (.lst (acc ++ [V.int (itm r t)])) D2 = some (.lst (((colV F t).take (i + 1)).map V.int))) := fun D2 H3 i y hD2 s3 h2 ey => by
        obtain ⟨ar, r, er, rfl, hr1, lr⟩ := (hfa'.keep s3).at ey
        refine ⟨ar, r, rfl, SqT.of hr1, ?_, _, h2, ?_, fun y o z => by rw [upd_ne (ne_of_none z hD2)]; exact s3 _ _ z, ?_⟩
        · rw [show (0 + ((t : Nat) : Int)) = ((t : Nat) : Int) by omega]
          exact int_at (by omega)
        · rw [List.length_map, List.length_take, colV_len]
          exact Nat.lt_of_le_of_lt (Nat.le_trans (Nat.min_le_right _ _) m60) (by decide)
        · rw [upd_same, take_snoc (n := itm r t)]
          unfold colV
          rw [List.getElem?_map, er]; rfl
      rcases hf' with hl | hl
      · refine .inl ⟨_, rfl, f, rfl, ⟨_, SqL.of hl⟩, fun D2 hD2 => lc_it (walk_list (xs := fa)) (fun i H3 => Same H' H3 ∧ H3 D2 = some (.lst (((colV F t).take i).map V.int))) ⟨(new_at hD2).1, upd_same⟩ (fun i H3 _ z => SqL.of (z.1 _ _ hl)) ?_ ?_⟩
        · rintro i y H3 H3' hi ⟨s3, h2⟩ ⟨rfl, ey⟩
          obtain ⟨ar, r, rfl, a1, a2, a3⟩ := stp D2 _ i y hD2 s3 h2 ey
          exact ⟨rfl, ⟨_, rfl, _, rfl, ar, _, _, _, rfl, rfl, a1, a2, a3⟩⟩
        · rintro H3 ⟨s3, h2⟩
          rw [hfa'.len, take_all (colV_len F t)] at h2
          exact ⟨_, _, rfl, .inl ⟨SqL.of h2, fun q hq => fin D2 H3 hD2 s3 h2 q hq⟩⟩
      · refine .inr ⟨_, rfl, f, rfl, ⟨_, hl.1 _ (Same.refl _)⟩, fun D2 hD2 => lc_it (walk_tup (xs := fa)) (fun i H3 => Same H' H3 ∧ H3 D2 = some (.lst (((colV F t).take i).map V.int))) ⟨(new_at hD2).1, upd_same⟩ (fun i H3 _ z => hl.1 _ z.1) ?_ ?_⟩
        · rintro i y H3 H3' hi ⟨s3, h2⟩ ⟨rfl, ey⟩
          obtain ⟨ar, r, rfl, a1, a2, a3⟩ := stp D2 _ i y hD2 s3 h2 ey
          exact ⟨rfl, ⟨_, rfl, _, rfl, ar, _, _, _, rfl, rfl, a1, a2, a3⟩⟩
        · rintro H3 ⟨s3, h2⟩
          rw [hfa'.len, take_all (colV_len F t)] at h2
          exact ⟨_, _, rfl, .inl ⟨SqL.of h2, fun q hq => fin D2 H3 hD2 s3 h2 q hq⟩⟩
    rintro H5 ⟨s5, os, hx5, lx5, hos5⟩
    -- sources
    refine ⟨_, rfl, _, rfl, n, rfl, n60, fun H6 l6 as6 s6 hl6 has6 => ⟨_, rfl, r, b, rfl, hr4.keep (s5.trans s6), fun H7 q7 s7 hq7 => ⟨_, rfl, ?_⟩⟩⟩
    have s67 := s6.trans s7
    have eg := gens_app F n
    refine ⟨D1, l6, q7, os, as6, (List.range n).map (colV F), unitRows n, b, F.length, n, rfl, s67 _ _ hx5, s7 _ _ hl6, hos5.keep s67, has6.keep s7, by rw [unitRows_len, List.length_map, List.length_range], hq7, lb, n1, n60, m60, by rw [unitRows_len]; exact n60, by rw [eg]; exact okG, by rw [eg]; exact okR, by rw [eg]; exact cnt, fun H8 t8 l8 pv as8 s8 ht8 hpt hl8 has8 => ?_⟩
    rw [eg] at hpt has8
    refine ⟨t8, _, rfl, SqT.of ht8, rfl, _, _, rfl, _, _, rfl, rfl, ?_⟩
    have s18 := s14.trans ((s5.trans s67).trans s8)
    refine ⟨rfl, _, rfl, _, rfl, _, rfl, fun y dy hy hdy ndy => ?_⟩
    have so : Same H8 (upd (upd H8 dy (.own y)) y (.ins D dy [])) := fun z o h => by
      rw [upd_ne (ne_of_none h hy), upd_ne (ne_of_none h hdy)]; exact h
    exact ⟨y, dy, l8, n, pv, fPt F n b, as8, fFr F n b, rfl, upd_same, n1, by omega, num, .inl (so _ _ hl8), has8.keep so, okF, hpt.keep so, okP, fun H9 kp fac => ⟨rfl, k _ y (fun z o h => kp z o (ne_of_none (s18 _ _ h) hy) (so _ _ (s18 _ _ h))) fac⟩⟩
end
end K06

namespace L2
open PySem PySem.Spec PyProof.Rows RZ
/-! ### zip of a tuple and a list -/
def ItzN (K : PySem.W.Frag) (a b : Addr) : It :=
  ⟨fun i H => ∃ (vs ws : List V) (v w : V), SqT K H a vs ∧ SqL K H b ws ∧ vs[i]? = some v ∧ ws[i]? = some w,
    fun i H r H' => ∃ T v w, r = .ref T ∧ H T = none ∧ H' = upd H T (.tup [v, w]) ∧ (∀ vs, SqT K H a vs → vs[i]? = some v) ∧ ∀ ws, SqL K H b ws → ws[i]? = some w,
    fun i H => ∃ vs ws : List V, SqT K H a vs ∧ SqL K H b ws ∧ i ≤ vs.length ∧ i ≤ ws.length ∧ (i = vs.length ∨ i = ws.length)⟩
theorem turn_zipN {P : Program} {w : World} {K : PySem.W.Frag} {es : List Expr} {n0 : Nat} {tp : Pos} {a b z TI TO i1 i2 : Addr} (D : ZipApart z TI TO i1 i2 a b) :
    Turn P w K (.Tuple es n0 tp) (ItzN K a b) [z, TI, TO, i1, i2] z (fun i g => IsZip g z TI TO .none ∧ IsTupOf2 g TI (.ref i1) (.ref i2) ∧ (∃ p q, IsTupOf2 g TO p q) ∧ g.IsTupleIter i1 a i ∧ g.IsListIter i2 b i) where
  mem := List.mem_cons_self
  obj := fun i g st c hc => by
    obtain ⟨gz, gI, ⟨p, q, gO⟩, ⟨o1, e1, _, d1⟩, ⟨o2, e2, _, d2⟩⟩ := st
    have cases5 : c = z ∨ c = TI ∨ c = TO ∨ c = i1 ∨ c = i2 := by simpa using hc
    rcases cases5 with r | r | r | r | r <;> rw [r]
    · exact ⟨_, gz, fun _ f => nomatch f⟩
    · exact ⟨_, gI, fun _ f => nomatch f⟩
    · exact ⟨_, gO, fun _ f => nomatch f⟩
    · exact ⟨o1, e1, fun _ f => by rw [d1] at f; cases f⟩
    · exact ⟨o2, e2, fun _ f => by rw [d2] at f; cases f⟩
  keep := fun i g g' st kp => by
    obtain ⟨gz, gI, ⟨p, q, gO⟩, l1, l2⟩ := st
    have k : ∀ c, c ∈ [z, TI, TO, i1, i2] → ∀ o, g.get? c = some o → g'.get? c = some o := kp
    refine ⟨k z (by simp) _ gz, k TI (by simp) _ gI, ⟨p, q, k TO (by simp) _ gO⟩, l1.at fun o => k i1 (by simp) o, l2.at fun o => k i2 (by simp) o⟩
  item := by
    intro X eP ew eK hc i pins s σ H E I hf st hg
    subst eP ew eK
    obtain ⟨gz, gI, ⟨p, q, gO⟩, l1, l2⟩ := st
    obtain ⟨vs, ws, v, v2, qa, qb, ev, ew⟩ := hg
    obtain ⟨us, rv, pa, _⟩ := I.tuple qa
    obtain ⟨us2, rv2, pb, _⟩ := I.list qb
    obtain ⟨u, hu, ru⟩ := rv.get ev
    obtain ⟨u2, hu2, ru2⟩ := rv2.get ew
    have zlt : z < s.heap.objs.size := Heap.lt_size gz
    have bi1 : i < us.toArray.size := by rw [List.size_toArray]; exact (List.getElem?_eq_some_iff.mp hu).1
    have bi2 : i < us2.toArray.size := by rw [List.size_toArray]; exact (List.getElem?_eq_some_iff.mp hu2).1
    refine wpAny_pyNext_zipD2_item (sep_of D) (Draws.tuple (A := X.A.in1) (I.ok.hd hc) i1 a D.l1i1 us.toArray) (Draws.list (A := X.A.in1) (I.ok.hd hc) i2 b D.l2i2 us2.toArray) gz gI gO ⟨l1, pa⟩ ⟨l2, pb.isList⟩ bi1 bi2 fun x1 x2 h' tk y1 y2 z' TO' m1 m2 hT hsz kp => ?_
    have e1 : x1 = u := by
      have := (show us.toArray[i]? = some x1 from y1)
      rw [show us.toArray[i]? = us[i]? by simp, hu] at this
      exact (Option.some.inj this).symm
    have e2 : x2 = u2 := by
      have := (show us2.toArray[i]? = some x2 from y2)
      rw [show us2.toArray[i]? = us2[i]? by simp, hu2] at this
      exact (Option.some.inj this).symm
    subst e1 e2
    refine ⟨_, rfl, wpAny_letOwnedTupleGo_zip (s := { s with heap := h', toks := tk }) z' fun h'' z'' sm => ?_⟩
    have newT : h''.get? s.heap.objs.size = some { cls := .type "tuple", data := .seq #[x1, x2] } := (sm.2 _ (Nat.ne_of_gt zlt)).trans hT
    have ok : ObjOk X.prog X.w (upd H s.heap.objs.size (.tup [v, v2])) h'' s.heap.objs.size (.tup [v, v2]) :=
      ⟨by show 2 ≤ sizeLine; decide, [x1, x2], .cons ru (.cons ru2 .nil), ⟨_, newT, rfl, _, rfl⟩⟩
    have J : Inv X pins σ (upd H s.heap.objs.size (.tup [v, v2])) { s with heap := h'', toks := tk } := by
      refine I.turnedNew (t' := tk) (ch := [z, TI, TO, i1, i2]) (fun c o nc r => ?_) hf (Nat.le_refl _) ok
      have n5 : c ≠ z ∧ c ≠ TI ∧ c ≠ TO ∧ c ≠ i1 ∧ c ≠ i2 := by simpa using nc
      exact (sm.2 c n5.1).trans (kp c o n5.1 n5.2.2.1 n5.2.2.2.1 n5.2.2.2.2 r)
    refine ⟨.ref s.heap.objs.size, _, J, rfl, ⟨_, v, v2, rfl, I.hok.fresh (Nat.le_refl _), rfl, fun l hl => by rw [I.tuple_inj hl qa]; exact ev, fun l hl => by rw [I.list_inj hl qb]; exact ew⟩, ⟨z'', ?_, ⟨x1, x2, ?_⟩, ?_, ?_⟩, fun c hcm => ?_⟩
    · exact (sm.2 _ D.TIz).trans (kp _ _ D.TIz D.TITO D.TIi1 D.TIi2 gI)
    · exact (sm.2 _ D.TOz).trans TO'
    · exact m1.1.at fun o r => (sm.2 _ D.i1z).trans r
    · exact m2.1.at fun o r => (sm.2 _ D.i2z).trans r
    · have clt : c < s.heap.objs.size := by
        have cases5 : c = z ∨ c = TI ∨ c = TO ∨ c = i1 ∨ c = i2 := by simpa using hcm
        rcases cases5 with r | r | r | r | r <;> rw [r]
        · exact zlt
        · exact Heap.lt_size gI
        · exact Heap.lt_size gO
        · obtain ⟨_, e1, _⟩ := l1; exact Heap.lt_size e1
        · obtain ⟨_, e2, _⟩ := l2; exact Heap.lt_size e2
      rw [upd_ne (Nat.ne_of_lt clt)]
      exact (hf c hcm).1
  done := by
    intro X eP ew eK hc i pins s σ H E I hf st hg
    subst eP ew eK
    obtain ⟨gz, gI, ⟨p, q, gO⟩, l1, l2⟩ := st
    obtain ⟨vs, ws, qa, qb, n1, n2, fin⟩ := hg
    obtain ⟨us, rv, pa, _⟩ := I.tuple qa
    obtain ⟨us2, rv2, pb, _⟩ := I.list qb
    have len1 : us.toArray.size = vs.length := by rw [List.size_toArray, rv.length]
    have len2 : us2.toArray.size = ws.length := by rw [List.size_toArray, rv2.length]
    refine wpAny_pyNext_zipD2_end (sep_of D) (Draws.tuple (A := X.A.in1) (I.ok.hd hc) i1 a D.l1i1 us.toArray) (Draws.list (A := X.A.in1) (I.ok.hd hc) i2 b D.l2i2 us2.toArray) gz gI gO ⟨l1, pa⟩ ⟨l2, pb.isList⟩ (by omega) (by omega) (by omega) fun h' tk kp => ⟨rfl, I.turnedL (t' := tk) (ch := [z, TI, TO, i1, i2]) (fun c o nc r => ?_) hf⟩
    have n5 : c ≠ z ∧ c ≠ TI ∧ c ≠ TO ∧ c ≠ i1 ∧ c ≠ i2 := by simpa using nc
    exact kp c o n5.1 n5.2.2.1 n5.2.2.2.1 n5.2.2.2.2 r
  self := fun A i s Q E st h => wpAny_pyIter_zip st.1 h
def iZipN (K : PySem.W.Frag) (ta : TA) : TI := fun σ H R => ta σ H fun vs H1 => ∃ a b xs ys, vs = [.ref a, .ref b] ∧ SqT K H1 a xs ∧ SqL K H1 b ys ∧ R (ItzN K a b) H1
theorem pi_zipN {X : Cx} {e e2 : Expr} {ta : TA} {p pos tpos : Pos} {elts : List Expr} {kk : Nat} (hg : Gl X "zip") (hm : X.mg "zip" = none) (ha : PA X [e, e2] ta)
    (hs : starEach [e, e2] X.env = (false, eval e X.env) :: starEach [e2] X.env := by rfl) (hpl : (backTo pos (starEach [e2] X.env)).any (·.1) = false := by rfl) :
    PI X (.Tuple elts kk tpos) (.Call (.Name "zip" p) [e, e2] [] pos) (iZipN X.K ta) := by
  refine ⟨fun pins s σ H R I h => Call_ (ld_blt I hg hm PyProof.Rows.boot_zip (PyProof.Rows.callWith_type1 (thn (ha.run pos pins s σ H _ I h) fun us s1 ⟨vs, H1, I1, r1, q1⟩ => ?_) hs hpl))⟩
  obtain ⟨a, b, xs, ys, ex, qx, qy, q⟩ := q1
  subst ex
  cases r1 with
  | cons r rr =>
    cases rr with
    | cons r' rr =>
      cases rr
      cases r
      cases r'
      obtain ⟨its, rv, p1, _⟩ := I1.tuple qx
      obtain ⟨its2, rv2, p2, _⟩ := I1.list qy
      obtain ⟨o1, ho1, _⟩ := id p1
      let N := s1.heap.objs.size
      have new5 : ∀ c, c ∈ [N + 4, N + 2, N + 3, N, N + 1] → FpOk X pins H1 c := fun c hcm => by
        have q5 : c = N + 4 ∨ c = N + 2 ∨ c = N + 3 ∨ c = N ∨ c = N + 1 := by simpa using hcm
        have le5 : s1.heap.objs.size ≤ c := by
          show N ≤ c
          omega
        exact I1.fpOk le5 (I1.hok.fresh le5)
      refine zip_begins2 (begins_tuple a its.toArray) (begins_list b its2.toArray) p1 p2.isList fun h' hz hTI hTO h1 h2 hsz hk => wpAny_pyIter_zip hz ?_
      have I2 : Inv X pins σ H1 { s1 with heap := h' } := I1.kept (t' := s1.toks) hk
      exact ⟨N + 4, [N + 4, N + 2, N + 3, N, N + 1], _, _, H1, rfl, I2, turn_zipN (PySem.W.ktu_apart s1.heap.objs.size a b (Heap.lt_size ho1) p2.lt), ⟨hz, hTI, ⟨_, _, hTO⟩, ⟨_, h1, rfl, rfl⟩, ⟨_, h2, rfl, rfl⟩⟩, new5, q⟩
theorem walk_zipN {K : PySem.W.Frag} {a b : Addr} {xs ys : List V} {n : Nat} (hn : xs.length = n) (hm : ys.length = n) : Walk (ItzN K a b) n (fun H => SqT K H a xs ∧ SqL K H b ys) (YPair (fun i => xs[i]?) (fun i => ys[i]?)) := by
  refine ⟨fun i H hi h => ⟨xs, ys, xs[i]'(by omega), ys[i]'(by omega), h.1, h.2, List.getElem?_eq_getElem _, List.getElem?_eq_getElem _⟩, fun H h => ⟨xs, ys, h.1, h.2, by omega, by omega, by omega⟩, fun i H x H' hi h y => ?_⟩
  obtain ⟨T, z, z2, e1, e2, e3, e4, e5⟩ := y
  exact ⟨T, z, z2, e1, e2, e3, e4 xs h.1, e5 ys h.2⟩
/-- .. of a tuple and a list or a tuple -/
def iZipTX (K : PySem.W.Frag) (ta : TA) : TI := fun σ H R => iZipN K ta σ H R ∨ iZipA K ta σ H R
theorem pi_zipTX {X : Cx} {e e2 : Expr} {ta : TA} {p pos tpos : Pos} {elts : List Expr} {kk : Nat} (hg : Gl X "zip") (hm : X.mg "zip" = none) (ha : PA X [e, e2] ta)
    (hs : starEach [e, e2] X.env = (false, eval e X.env) :: starEach [e2] X.env := by rfl) (hpl : (backTo pos (starEach [e2] X.env)).any (·.1) = false := by rfl) :
    PI X (.Tuple elts kk tpos) (.Call (.Name "zip" p) [e, e2] [] pos) (iZipTX X.K ta) :=
  ⟨fun pins s σ H R I q => q.elim ((pi_zipN hg hm ha hs hpl).run pins s σ H R I) ((pi_zipA hg hm ha hs hpl).run pins s σ H R I)⟩
end L2

namespace K06
open PySem L2 RZ Lat
theorem dot_sum : ∀ (v u : Vec), v.length = u.length → (List.zipWith (fun n m : Int => n * m) v u).sum = dotF v (itm u)
  | [], [], _ => rfl
  | x :: v, y :: u, h => by
    have ih := dot_sum v u (Nat.succ.inj h)
    show x * y + (List.zipWith (fun n m : Int => n * m) v u).sum = x * y + dotF v (itm u)
    rw [ih]
  | [], _ :: _, h => nomatch h
  | _ :: _, [], h => nomatch h
theorem eqv_nil (v : Vec) : PyData.eqv (.list (v.map PyData.int)) (.list []) = decide (v = []) := by
  cases v with
  | nil => decide +kernel
  | cons a v => simp [PyData.eqv, PyData.eqvAll]
theorem decide_ne_eq {n m : Int} : (!decide (V.int n = V.int m)) = !decide (n = m) := by
  by_cases h : n = m
  · subst h; simp
  · rw [decide_eq_false h, decide_eq_false (fun z => h (V.int.inj z))]
section
variable {P : Program} {w : World} {K : PySem.W.Frag} {mg : Str → Option Value} {base : Heap}
abbrev s_law_value : Stmt := top 46
abbrev n_law_value : List Str := ["_law_form", "_law_row", "_law_here", "_law_there"]
theorem sc_law_value : FnScope n_law_value ["_law_form", "_law_row"] (defScope s_law_value) := ⟨rfl, rfl, rfl, by decide +kernel, rfl, by decide +kernel, by decide +kernel⟩
def spValue : Sp := fun vs H Q _ => ∃ (a r : Addr) (v u : Vec), vs = [.ref a, .ref r] ∧ IsV H a v ∧ IntsAt H r u ∧ v.length = u.length ∧ v.length ≤ 1000 ∧ (∀ n ∈ v, ∀ m ∈ u, CMulX n m) ∧ ∀ H', Same H H' → Q (.int (dotF v (itm u))) H'
theorem ok_value (T : Txt mg) (F : DefAt K mg "_law_value" s_law_value ["_law_form", "_law_row"]) : Has P w K mg base 1 "_law_value" ["_law_form", "_law_row"] spValue := by
  refine F.has sc_law_value (fun vs H Q E h => ?_) (fun f cdv A outer s H vs Q E hr h => ?_)
  · obtain ⟨a, r, v, u, rfl, _⟩ := h
    rfl
  · obtain ⟨a, r, v, u, rfl, hv, hu, hl, h1, hm, k⟩ := h
    refine ⟨_, (pss_one (ps_ret (pe_callB (cr_sum rfl) (by rfl) T.z_sum (by decide +kernel) (pa_cons (pe_lc (own := [("_law_here", 2), ("_law_there", 3)]) (g := gTup K 2 (gCons (gName 2) (gCons (gName 3) gNil))) (by rfl) sc_law_value.nd (pi_zipTX (by rfl) T.z_zip (pa_cons (pv 0) (pa_cons (pv 1) pa_nil))) (blkOk_by (own := [("_law_here", 2), ("_law_there", 3)]) (N := n_law_value) (sc := defScope s_law_value) (by decide +kernel)) (fun _ _ _ _ _ => (pg_tup rfl (pgs_cons (pg_name (i := 2) sc_law_value.nd rfl (Or.inl rfl)) (pgs_cons (pg_name (i := 3) sc_law_value.nd rfl (Or.inl rfl)) pgs_nil)))) (fun _ _ _ _ _ => pts_nil) (fun _ _ _ _ _ => (pe_op op_mulX (pv 2) (pv 3)))) pa_nil)))), ?_⟩
    have lv : (v.map V.int).length = v.length := List.length_map ..
    have lu : (u.map V.int).length = v.length := by rw [List.length_map, hl]
    have la : (List.zipWith (fun n m : Int => n * m) v u).length = v.length := by rw [List.length_zipWith, hl, Nat.min_self]
    have stp : ∀ (D q : Addr) (H' : Hp) (i : Nat) (n m : Int), H D = none → Same H H' → H' D = some (.lst (((List.zipWith (fun n m : Int => n * m) v u).take i).map V.int)) → H' q = none → v[i]? = some n → u[i]? = some m → CMulX n m ∧ ∃ acc, upd H' q (.tup [V.int n, V.int m]) D = some (.lst acc) ∧ acc.length < sizeLine ∧ (Same H (upd (upd H' q (.tup [V.int n, V.int m])) D (.lst (acc ++ [V.int (n * m)]))) ∧ upd (upd H' q (.tup [V.int n, V.int m])) D (.lst (acc ++ [V.int (n * m)])) D = some (.lst (((List.zipWith (fun n m : Int => n * m) v u).take (i + 1)).map V.int))) := fun D q H' i n m hD sm hD' hq en em => by
      have nDq : D ≠ q := ne_of_none hD' hq
      refine ⟨hm n (List.mem_of_getElem? en) m (List.mem_of_getElem? em), _, (upd_ne nDq).trans hD', by rw [List.length_map, List.length_take]; exact Nat.lt_of_le_of_lt (Nat.le_trans (Nat.min_le_right _ _) (la ▸ h1)) (by decide), fun x o z => ?_, ?_⟩
      · rw [upd_ne (ne_of_none z hD)]
        exact (new_at hq).1 _ _ (sm _ _ z)
      · rw [upd_same, take_snoc (n := n * m)]
        rw [List.getElem?_zipWith, en, em]
    rcases hu with hu | hu
    · refine .inr ⟨_, rfl, _, rfl, a, r, _, _, rfl, .inr ⟨SqT.of hv, SqT.of hu, fun D hD => lc_it (walk_zipT (xs := v.map V.int) (ys := u.map V.int) (n := v.length) (by rw [lv, lu, Nat.min_self])) (fun i H' => Same H H' ∧ H' D = some (.lst (((List.zipWith (fun n m : Int => n * m) v u).take i).map V.int))) ⟨(new_at hD).1, upd_same⟩ (fun i H' _ q => ⟨SqT.of (q.1 _ _ hv), SqT.of (q.1 _ _ hu)⟩) ?_ ?_⟩⟩
      · rintro i x H' H'' hi ⟨sm, hD'⟩ ⟨q, y1, y2, rfl, hq, rfl, e1, e2⟩
        obtain ⟨n, en, rfl⟩ := map_at e1
        obtain ⟨m, em, rfl⟩ := map_at e2
        obtain ⟨c1, c2⟩ := stp D q H' i n m hD sm hD' hq en em
        exact ⟨q, _, rfl, SqT.of upd_same, rfl, _, _, rfl, _, _, rfl, rfl, rfl, ⟨_, rfl, _, rfl, _, _, rfl, rfl, c1, c2⟩⟩
      · rintro H' ⟨sm, hD'⟩
        rw [take_all la] at hD'
        refine ⟨_, _, rfl, SqL.of hD', ?_⟩
        rw [dot_sum v u hl]; exact k _ sm
    · refine .inl ⟨_, rfl, _, rfl, a, r, _, _, rfl, SqT.of hv, SqL.of hu, fun D hD => lc_it (walk_zipN (xs := v.map V.int) (ys := u.map V.int) (n := v.length) lv lu) (fun i H' => Same H H' ∧ H' D = some (.lst (((List.zipWith (fun n m : Int => n * m) v u).take i).map V.int))) ⟨(new_at hD).1, upd_same⟩ (fun i H' _ q => ⟨SqT.of (q.1 _ _ hv), SqL.of (q.1 _ _ hu)⟩) ?_ ?_⟩
      · rintro i x H' H'' hi ⟨sm, hD'⟩ ⟨q, y1, y2, rfl, hq, rfl, e1, e2⟩
        obtain ⟨n, en, rfl⟩ := map_at e1
        obtain ⟨m, em, rfl⟩ := map_at e2
        obtain ⟨c1, c2⟩ := stp D q H' i n m hD sm hD' hq en em
        exact ⟨q, _, rfl, SqT.of upd_same, rfl, _, _, rfl, _, _, rfl, rfl, rfl, ⟨_, rfl, _, rfl, _, _, rfl, rfl, c1, c2⟩⟩
      · rintro H' ⟨sm, hD'⟩
        rw [take_all la] at hD'
        refine ⟨_, _, rfl, SqL.of hD', ?_⟩
        rw [dot_sum v u hl]; exact k _ sm
abbrev s_law_solves : Stmt := top 48
abbrev n_law_solves : List Str := ["_law_shapes", "_law_rights", "_law_row", "_law_shape", "_law_right"]
theorem sc_law_solves : FnScope n_law_solves ["_law_shapes", "_law_rights", "_law_row"] (defScope s_law_solves) := ⟨rfl, rfl, rfl, by decide +kernel, rfl, by decide +kernel, by decide +kernel⟩
def spSolves : Sp := fun vs H Q _ => ∃ (l r p : Addr) (as : List V) (n : Nat) (F : List Vec) (b u : Vec), vs = [.ref l, .ref r, .ref p] ∧ H l = some (.lst as) ∧ Rows H n as F ∧ IsL H r b ∧ b.length = F.length ∧ F.length ≤ 1000 ∧ n ≤ 1000 ∧ IntsAt H p u ∧ u.length = n ∧ (∀ v ∈ F, ∀ x ∈ v, ∀ m ∈ u, CMulX x m) ∧ ∀ (c : Bool), (c = true ↔ Solves F (itm b) (itm u)) → ∀ H', Same H H' → Q (.bl c) H'
theorem ok_solves (T : Txt mg) (g_law_value : Has P w K mg base 1 "_law_value" ["_law_form", "_law_row"] spValue) (F : DefAt K mg "_law_solves" s_law_solves ["_law_shapes", "_law_rights", "_law_row"]) : Has P w K mg base 2 "_law_solves" ["_law_shapes", "_law_rights", "_law_row"] spSolves := by
  refine F.has sc_law_solves (fun vs H Q E h => ?_) (fun f cdv A outer s H vs Q E hr h => ?_)
  · obtain ⟨l, r, p, as, n, F, b, u, rfl, _⟩ := h
    rfl
  · have hu := hr.units
    obtain ⟨l, r, p, as, n, F, b, u, rfl, hl, has, hb, lb, lF, n1, hp, lu, hm, k⟩ := h
    refine ⟨_, (pss_one (ps_ret (pe_cmpR (op_eqD hu) (pe_lc (own := [("_law_shape", 3), ("_law_right", 4)]) (g := gTup K 2 (gCons (gName 3) (gCons (gName 4) gNil))) (by rfl) sc_law_solves.nd (pi_zipA (by rfl) T.z_zip (pa_cons (pv 0) (pa_cons (pv 1) pa_nil))) (blkOk_by (own := [("_law_shape", 3), ("_law_right", 4)]) (N := n_law_solves) (sc := defScope s_law_solves) (by decide +kernel)) (fun _ _ _ _ _ => (pg_tup rfl (pgs_cons (pg_name (i := 3) sc_law_solves.nd rfl (Or.inl rfl)) (pgs_cons (pg_name (i := 4) sc_law_solves.nd rfl (Or.inl rfl)) pgs_nil)))) (fun _ _ _ _ _ => (pts_one (pt_cmpR op_ne (pe_callHas g_law_value (hr.mono (by decide)) rfl (pa_cons (pv 3) (pa_cons (pv 2) pa_nil))) (pv 4) (nomark _)))) (fun _ _ _ _ _ => pe_int)) (pe_lst pa_nil) (nomark _)))), ?_⟩
    have ln : min as.length (b.map V.int).length = F.length := by rw [has.len, List.length_map, lb, Nat.min_self]
    refine ⟨_, rfl, _, rfl, l, r, _, _, rfl, .inl ⟨SqL.of hl, SqL.of hb, fun D hD => lc_it (walk_zip (xs := as) (ys := b.map V.int) ln.symm) (fun i H' => Same H H' ∧ H' D = some (.lst ((((List.range i).filter fun j => !decide (dotF (rowAt F j) (itm u) = itm b j)).map fun _ => (1 : Int)).map V.int))) ⟨(new_at hD).1, upd_same⟩ (fun i H' _ q => ⟨SqL.of (q.1 _ _ hl), SqL.of (q.1 _ _ hb)⟩) ?_ ?_⟩⟩
    · rintro i x H' H'' hi ⟨sm, hD'⟩ ⟨q, y1, y2, rfl, hq, rfl, e1, e2⟩
      obtain ⟨ar, v, ev, rfl, hv, lv⟩ := has.at e1
      obtain ⟨m, em, rfl⟩ := map_at e2
      have sq := (new_at (o := .tup [V.ref ar, V.int m]) hq).1
      have smq := sm.trans sq
      refine ⟨q, _, rfl, SqT.of upd_same, rfl, _, _, rfl, _, _, rfl, rfl, rfl, ?_⟩
      refine ⟨_, rfl, _, rfl, ar, p, v, u, rfl, smq _ _ hv, hp.keep smq, by omega, by omega, hm v (List.mem_of_getElem? ev), fun H3 s3 => ⟨_, rfl, rfl, _, rfl, ?_⟩⟩
      have er : rowAt F i = v := by unfold rowAt; rw [List.getD_eq_getElem?_getD, ev]; rfl
      have eb : itm b i = m := by unfold itm; rw [List.getD_eq_getElem?_getD, em]; rfl
      have nDq : D ≠ q := ne_of_none hD' hq
      have hD3 := s3 _ _ ((upd_ne nDq).trans hD')
      have sm3 := smq.trans s3
      rw [decide_ne_eq, List.range_succ, List.filter_append, List.map_append, List.map_append]
      have et : (List.filter (fun j => !decide (dotF (rowAt F j) (itm u) = itm b j)) [i]) = if decide (dotF v (itm u) = m) = true then [] else [i] := by
        rw [List.filter_cons, er, eb]
        cases decide (dotF v (itm u) = m) <;> rfl
      rw [et]
      cases hd : decide (dotF v (itm u) = m) with
      | true =>
        refine iteSf rfl ⟨sm3, ?_⟩
        rw [if_pos rfl, List.map_nil, List.map_nil, List.append_nil]; exact hD3
      | false =>
        refine iteSe rfl ⟨_, hD3, ?_, fun y o z => by rw [upd_ne (ne_of_none z hD)]; exact sm3 _ _ z, ?_⟩
        · rw [List.length_map, List.length_map]
          exact Nat.lt_of_le_of_lt (Nat.le_trans (List.length_filter_le _ _) (by rw [List.length_range]; omega)) (show 1000 < sizeLine by decide)
        · rw [upd_same, if_neg (by decide)]; rfl
    · rintro H' ⟨sm, hD'⟩
      refine ⟨Nat.zero_le _, fun z hz => ?_⟩
      obtain ⟨s2, hz2⟩ := new_at (o := .lst []) hz
      refine ⟨.list ((((List.range F.length).filter fun j => !decide (dotF (rowAt F j) (itm u) = itm b j)).map fun _ => (1 : Int)).map PyData.int), .list [], .lst (SqL.of (s2 _ _ hD')) (ints_dp _), .lst (SqL.of hz2) .nil, intsD_shaped _, by decide +kernel, ?_⟩
      rw [eqv_nil]
      refine k _ ?_ _ (sm.trans s2)
      rw [decide_eq_true_eq, List.map_eq_nil_iff, List.filter_eq_nil_iff]
      constructor
      · intro h j hj
        have := h j (List.mem_range.mpr hj)
        simpa using this
      · intro h j hj
        have := h j (List.mem_range.mp hj)
        simpa using this
abbrev s_law_box_of : Stmt := top 47
abbrev n_law_box_of : List Str := ["_law_width", "_law_most", "_law_found", "_law_at", "_law_longer", "_law_row", "_law_number_here"]
theorem sc_law_box_of : FnScope n_law_box_of ["_law_width", "_law_most"] (defScope s_law_box_of) := ⟨rfl, rfl, rfl, by decide +kernel, rfl, by decide +kernel, by decide +kernel⟩
def spBoxOf : Sp := fun vs H Q _ => ∃ (n m : Nat), vs = [.int ((n : Nat) : Int), .int ((m : Nat) : Int)] ∧ n ≤ 60 ∧ m ≤ 60 ∧ (2 * m + 1) ^ n ≤ 1000 ∧ ∀ (H' : Hp) (l : Addr) (as : List V) (rs : List Vec), Same H H' → H l = none → H' l = some (.lst as) → Rows H' n as rs → rs.length ≤ 1000 → (∀ r ∈ rs, Within 60 r) → Q (.ref l) H'
theorem ok_box_of (T : Txt mg) (F : DefAt K mg "_law_box_of" s_law_box_of ["_law_width", "_law_most"]) : Has P w K mg base 1 "_law_box_of" ["_law_width", "_law_most"] spBoxOf := by
  refine F.has sc_law_box_of (fun vs H Q E h => ?_) (fun f cdv A outer s H vs Q E hr h => ?_)
  · obtain ⟨n, m, rfl, _⟩ := h
    rfl
  · obtain ⟨n, m, rfl, n60, m60, hw, k⟩ := h
    refine ⟨_, (pss_cons (ps_set (i := 2) sc_law_box_of.nd rfl (Or.inl rfl) (pe_lst (pa_cons (pe_tup pa_nil) pa_nil)))
      (pss_cons (ps_for PassesOwn.never rfl (pi_range1 rfl T.z_range (pa_cons (pv 0) pa_nil)) (pg_name (i := 3) sc_law_box_of.nd rfl (Or.inl rfl)) (pss_cons (ps_set (i := 4) sc_law_box_of.nd rfl (Or.inl rfl) (pe_lst pa_nil))
      (pss_cons (ps_for PassesOwn.never rfl (pi_list (pv 2)) (pg_name (i := 5) sc_law_box_of.nd rfl (Or.inr rfl)) (pss_one (ps_expr (pe_bm PySem.F.plainAttrs_list PySem.F.slot_list_extend PySem.F.type_list_extend mt_extend (pv 4) (pa_cons (pe_lc (own := [("_law_number_here", 6)]) (g := gName 6) (by rfl) sc_law_box_of.nd (pi_range2 rfl T.z_range (pa_cons (pe_op op_sub pe_int (pv 1)) (pa_cons (pe_op op_add (pv 1) pe_int) pa_nil))) (blkOk_by (own := [("_law_number_here", 6)]) (N := n_law_box_of) (sc := defScope s_law_box_of) (by decide +kernel)) (fun _ _ _ _ _ => (pg_name (i := 6) sc_law_box_of.nd rfl (Or.inl rfl))) (fun _ _ _ _ _ => pts_nil) (fun _ _ _ _ _ => (pe_op (op_catFK (K := K) rfl) (pv 5) (pe_tup (pa_cons (pv 6) pa_nil))))) pa_nil)))))
      (pss_one (ps_set (i := 2) sc_law_box_of.nd rfl (Or.inl rfl) (pv 4))))))
      (pss_one (ps_ret (pv 2))))), ?_⟩
    refine ⟨Nat.zero_le _, fun e he => ⟨(by decide : 1 ≤ sizeLine), fun l0 hl0 => ?_⟩⟩
    obtain ⟨t1, he1⟩ := new_at (o := .tup []) he
    obtain ⟨t2, hl2⟩ := new_at (o := .lst [V.ref e]) hl0
    have lim : ∀ t, t ≤ n → (2 * m + 1) ^ t ≤ 1000 := fun t ht => Nat.le_trans (Nat.pow_le_pow_right (by omega) ht) hw
    refine ⟨_, rfl, ((n : Nat) : Int), rfl, by omega, by omega, for_range (lo := 0) (n := n) (fun t σ H' => Same H H' ∧ ∃ (l : Addr) (as : List V) (rs : List Vec) (x3 x4 x5 x6 : Option V), σ = [some (.int ((n : Nat) : Int)), some (.int ((m : Nat) : Int)), some (.ref l), x3, x4, x5, x6] ∧ H l = none ∧ H' l = some (.lst as) ∧ Rows H' t as rs ∧ rs.length = (2 * m + 1) ^ t ∧ ∀ r ∈ rs, Within 60 r)
      ⟨t1.trans t2, l0, _, [[]], _, _, _, _, rfl, ?_, hl2, ⟨.cons ⟨e, rfl, t2 _ _ he1⟩ .nil, fun v hv => by rw [List.mem_singleton.mp hv]; rfl⟩, rfl, fun r hr' => by rw [List.mem_singleton.mp hr']; exact fun x hx => nomatch hx⟩ ?_ ?_⟩
    · cases q : H l0 with
      | none => rfl
      | some o => rw [t1 _ _ q] at hl0; cases hl0
    · rintro t σ H1 ht ⟨sm, l, as, rs, x3, x4, x5, x6, rfl, hl0', hl, hrs, lrs, wrs⟩
      refine ⟨Nat.zero_le _, fun l2 hl2' => ?_⟩
      obtain ⟨s2, hl3⟩ := new_at (o := .lst []) hl2'
      have lt := lim (t + 1) (by omega)
      rw [Nat.pow_succ] at lt
      refine ⟨_, rfl, l, rfl, ⟨_, SqL.of (s2 _ _ hl)⟩, for_it (walk_list (xs := as)) (fun i σ H' => But l2 H1 H' ∧ ∃ (as2 : List V) (rs2 : List Vec) (x5 x6 : Option V), σ = [some (.int ((n : Nat) : Int)), some (.int ((m : Nat) : Int)), some (.ref l), some (.int (0 + ((t : Nat) : Int))), some (.ref l2), x5, x6] ∧ H' l2 = some (.lst as2) ∧ Rows H' (t + 1) as2 rs2 ∧ rs2.length = i * (2 * m + 1) ∧ ∀ r ∈ rs2, Within 60 r)
        ⟨Same.but s2, [], [], _, _, rfl, hl3, ⟨.nil, fun v hv => nomatch hv⟩, by rw [Nat.zero_mul]; rfl, fun r hr' => nomatch hr'⟩ (fun i σ H' _ z => SqL.of (z.1 _ _ (ne_of_none hl hl2') hl)) ?_ ?_⟩
      · rintro i y σ H2 H2' hi ⟨bu, as2, rs2, x5, x6, rfl, hl2, hrs2, lrs2, wrs2⟩ ⟨rfl, ey⟩
        have hrsI : Rows H2' t as rs := ⟨Paired.mapP hrs.1 fun x v z => by
          obtain ⟨a, e, q⟩ := z
          exact ⟨a, e, bu _ _ (ne_of_none q hl2') q⟩, hrs.2⟩
        obtain ⟨ar, r, er, rfl, hr0, lr⟩ := hrsI.at ey
        have wr := wrs r (List.mem_of_getElem? er)
        have hi' : i < rs.length := (List.getElem?_eq_some_iff.mp er).1
        have hsz : (i + 1) * (2 * m + 1) ≤ 1000 := Nat.le_trans (Nat.mul_le_mul_right _ (show i + 1 ≤ (2 * m + 1) ^ t by omega)) lt
        rw [Nat.add_mul, Nat.one_mul] at hsz
        have enum : ((((m : Nat) : Int) + 1) - (0 - ((m : Nat) : Int))).toNat = 2 * m + 1 := by omega
        refine ⟨_, rfl, .inl ⟨rfl, _, SqL.of hl2⟩, _, rfl, _, _, rfl, rfl, _, rfl, _, _, rfl, rfl, _, _, rfl, ⟨by omega, by omega, by omega, by omega⟩, fun D hD => ?_⟩
        rw [enum]
        refine lc_range (lo := 0 - ((m : Nat) : Int)) (n := 2 * m + 1) (fun u H' => Same H2' H' ∧ ∃ (os : List V) (us : List Vec), H' D = some (.lst os) ∧ Rows H' (t + 1) os us ∧ us.length = u ∧ ∀ r ∈ us, Within 60 r) ⟨(new_at hD).1, [], [], upd_same, ⟨.nil, fun v hv => nomatch hv⟩, rfl, fun r hr' => nomatch hr'⟩ ?_ ?_
        · rintro u H3 hu' ⟨s3, os, us, hD3, hus, lus, wus⟩
          refine ⟨rfl, ?_⟩
          refine ⟨_, rfl, _, rfl, (by decide : 1 ≤ sizeLine), fun z hz => ?_⟩
          obtain ⟨s4, hz4⟩ := new_at (o := .tup [V.int (0 - ((m : Nat) : Int) + ((u : Nat) : Int))]) hz
          refine ⟨ar, z, _, _, rfl, rfl, SqT.of (s4 _ _ (s3 _ _ hr0)), hz4, (fun q => nomatch q), by rw [List.length_map, lr]; exact Nat.le_trans (show t + 1 ≤ 61 by omega) (by decide), fun H5 q s5 hq => ?_⟩
          have s45 := s4.trans s5
          have hq' : IsV H5 q (r ++ [0 - ((m : Nat) : Int) + ((u : Nat) : Int)]) := by
            show H5 q = some (.tup ((r ++ [_]).map V.int))
            rw [List.map_append]; exact hq
          refine ⟨_, s45 _ _ hD3, by rw [hus.len, lus]; exact Nat.lt_of_lt_of_le hu' (Nat.le_trans (show 2 * m + 1 ≤ 121 by omega) (by decide)), fun y o z => by rw [upd_ne (ne_of_none z hD)]; exact s45 _ _ (s3 _ _ z), os ++ [.ref q], us ++ [r ++ [0 - ((m : Nat) : Int) + ((u : Nat) : Int)]], upd_same, Rows.lst (s45 _ _ hD3) But.upd' ((hus.keep s45).snoc hq' (by rw [List.length_append, lr]; rfl)), by rw [List.length_append, lus]; rfl, fun v hv => ?_⟩
          rcases List.mem_append.mp hv with hv | hv
          · exact wus v hv
          · rw [List.mem_singleton.mp hv]
            intro x hx
            rcases List.mem_append.mp hx with hx | hx
            · exact wr x hx
            · rw [List.mem_singleton.mp hx]; omega
        · rintro H3 ⟨s3, os, us, hD3, hus, lus, wus⟩
          have hl23 := s3 _ _ hl2
          refine ⟨l2, D, _, _, rfl, rfl, hl23, hD3, ?_, fun y o nb z => by rw [upd_ne nb]; exact s3 _ _ (bu y o nb z), as2 ++ os, rs2 ++ us, _, _, rfl, upd_same, Rows.lst hl23 But.upd' (Rows.append (hrs2.keep s3) hus), ?_, fun v hv => ?_⟩
          · rw [hrs2.len, hus.len, lrs2, lus]
            exact Nat.le_trans hsz (by decide)
          · rw [List.length_append, lrs2, lus, Nat.add_mul, Nat.one_mul]
          · exact (List.mem_append.mp hv).elim (wrs2 v) (wus v)
      · rintro σ H2 ⟨bu, as2, rs2, x5, x6, rfl, hl2, hrs2, lrs2, wrs2⟩
        refine ⟨_, rfl, fun y o z => bu y o (ne_of_none (sm _ _ z) hl2') (sm _ _ z), l2, as2, rs2, _, _, _, _, rfl, ?_, hl2, hrs2, by rw [lrs2, hrs.len, lrs, Nat.pow_succ], wrs2⟩
        cases q : H l2 with
        | none => rfl
        | some o => rw [sm _ _ q] at hl2'; cases hl2'
    · rintro σ H1 ⟨sm, l, as, rs, x3, x4, x5, x6, rfl, hl0', hl, hrs, lrs, wrs⟩
      exact ⟨_, rfl, k _ l as rs sm hl0' hl hrs (by rw [lrs]; exact hw) wrs⟩
end
end K06

namespace K06
open PySem L2 RZ Lat
theorem dotF_bound (A B : Nat) : ∀ (v : Vec) (f : Nat → Int), (∀ x ∈ v, x.natAbs ≤ A) → (∀ i, (f i).natAbs ≤ B) → (dotF v f).natAbs ≤ v.length * (A * B)
  | [], f, _, _ => Nat.zero_le _
  | x :: v, f, h, g => by
    obtain ⟨h1, h2⟩ := List.forall_mem_cons.mp h
    have ih := dotF_bound A B v (fun i => f (i + 1)) h2 fun i => g _
    show (x * f 0 + dotF v fun i => f (i + 1)).natAbs ≤ (v.length + 1) * (A * B)
    have q : (x * f 0).natAbs ≤ A * B := by rw [Int.natAbs_mul]; exact Nat.mul_le_mul h1 (g 0)
    have := Int.natAbs_add_le (x * f 0) (dotF v fun i => f (i + 1))
    rw [Nat.add_mul, Nat.one_mul]; omega
theorem within_itm {B : Nat} {v : Vec} (h : Within ((B : Nat) : Int) v) : ∀ i, (itm v i).natAbs ≤ B := fun i => by
  by_cases hi : i < v.length
  · have := h _ (List.mem_of_getElem? (itm_of hi))
    omega
  · rw [itm_out (by omega)]; exact Nat.zero_le _
theorem cmul_small {x m : Int} (h1 : -1000000000000 ≤ x ∧ x ≤ 1000000000000) (h2 : -1000000000000 ≤ m ∧ m ≤ 1000000000000) : CMulX x m := by
  have e : (2 : Nat) ^ 40 = 1099511627776 := by decide
  exact mul_ok (α := 40) (β := 40) (by rw [e]; omega) (by rw [e]; omega) (by decide)
/-- what stands of a drawn system -/
structure Sys (H : Hp) (b : Addr) (n m : Nat) (l p r : Addr) (as : List V) (F : List Vec) (pt rb : Vec) : Prop where
  bx : Box H b
  hl : H l = some (.lst as)
  rows : Rows H n as F
  lF : F.length = m
  wF : ∀ v ∈ F, Within (3 * (4 + 8 * ((m : Nat) : Int))) v
  hp : IsL H p pt
  lp : pt.length = n
  wp : Within 4 pt
  hr : IsL H r rb
  lr : rb.length = m
  wr : Within 20000 rb
  nl : l ≠ b
  np : p ≠ b
  nr : r ≠ b
section
variable {P : Program} {w : World} {K : PySem.W.Frag} {mg : Str → Option Value} {base : Heap}
abbrev s_law_system : Stmt := top 49
abbrev n_law_system : List Str := ["_law_box_here", "_law_width", "_law_many", "_law_shapes", "_law_point", "_law_form", "_law_rights", "_law_shape", "_law_at", "_law_number_here"]
theorem sc_law_system : FnScope n_law_system ["_law_box_here", "_law_width", "_law_many"] (defScope s_law_system) := ⟨rfl, rfl, rfl, by decide +kernel, rfl, by decide +kernel, by decide +kernel⟩
def spSystem : Sp := fun vs H Q _ => ∃ (b : Addr) (n m : Nat), vs = [.ref b, .int ((n : Nat) : Int), .int ((m : Nat) : Int)] ∧ Box H b ∧ 1 ≤ n ∧ n ≤ 12 ∧ m ≤ 12 ∧ ∀ (H' : Hp) (t l r : Addr) (as : List V) (F : List Vec) (rb : Vec), But b H H' → Box H' b → H' t = some (.tup [.ref l, .ref r]) → H' l = some (.lst as) → Rows H' n as F → F.length = m → (∀ v ∈ F, Within (3 * (4 + 8 * ((m : Nat) : Int))) v) →
  IsL H' r rb → rb.length = m → Within 20000 rb → l ≠ b → r ≠ b → Q (.ref t) H'
theorem ok_system (T : Txt mg) (g_law_take : Has P w K mg base 1 "_law_take" ["_law_box_here", "_law_many"] spTake) (g_law_small : Has P w K mg base 2 "_law_small" ["_law_box_here"] spSmall) (g_law_rows : Has P w K mg base 3 "_law_rows" ["_law_box_here", "_law_width", "_law_many", "_law_is_great"] spRows) (g_law_value : Has P w K mg base 1 "_law_value" ["_law_form", "_law_row"] spValue)
    (F : DefAt K mg "_law_system" s_law_system ["_law_box_here", "_law_width", "_law_many"]) : Has P w K mg base 4 "_law_system" ["_law_box_here", "_law_width", "_law_many"] spSystem := by
  refine F.has sc_law_system (fun vs H Q E h => ?_) (fun f cdv A outer s H vs Q E hr h => ?_)
  · obtain ⟨b, n, m, rfl, _⟩ := h
    rfl
  · have hu := hr.units
    obtain ⟨b, n, m, rfl, hb, n1, n12, m12, k⟩ := h
    refine ⟨_, (pss_cons (ps_set (i := 3) sc_law_system.nd rfl (Or.inl rfl) (pe_callHas g_law_rows (hr.mono (by decide)) rfl (pa_cons (pv 0) (pa_cons (pv 1) (pa_cons (pv 2) (pa_cons pe_bl pa_nil))))))
      (pss_cons (ps_asg (pe_tup (pa_cons (pe_lc (own := [("_law_at", 8)]) (g := gName 8) (by rfl) sc_law_system.nd (pi_range1 rfl T.z_range (pa_cons (pv 1) pa_nil)) (blkOk_by (own := [("_law_at", 8)]) (N := n_law_system) (sc := defScope s_law_system) (by decide +kernel)) (fun _ _ _ _ _ => (pg_name (i := 8) sc_law_system.nd rfl (Or.inl rfl))) (fun _ _ _ _ _ => pts_nil) (fun _ _ _ _ _ => (pe_callHas g_law_small (hr.mono (by decide)) rfl (pa_cons (pv 0) pa_nil)))) (pa_cons (pe_callHas g_law_take (hr.mono (by decide)) rfl (pa_cons (pv 0) (pa_cons pe_int pa_nil))) pa_nil))) (pg_tup rfl (pgs_cons (pg_name (i := 4) sc_law_system.nd rfl (Or.inr rfl)) (pgs_cons (pg_name (i := 5) sc_law_system.nd rfl (Or.inl rfl)) pgs_nil))))
      (pss_cons (ps_setLc (i := 6) (own := [("_law_shape", 7)]) (g := gName 7) (by rfl) sc_law_system.nd rfl rfl (sw_true rfl rfl rfl (by decide +kernel)) (pi_list (pv 3)) (blkOk_by (own := [("_law_shape", 7)]) (N := n_law_system) (sc := defScope s_law_system) (by decide +kernel)) (fun _ _ _ _ _ => (pg_name (i := 7) sc_law_system.nd rfl (Or.inl rfl))) (fun _ _ _ _ _ => pts_nil) (fun _ _ _ _ _ => (pe_callHas g_law_value (hr.mono (by decide)) rfl (pa_cons (pv 7) (pa_cons (pv 4) pa_nil)))))
      (C8.pss_cut (ps_if (PW.pt (pw_and (pt_cmpR op_eq (pv 5) pe_int (nomark _)) (pw_and1 (pt_cmpR op_gt (pv 2) pe_int (nomark _))))) (pss_one (ps_asg (pe_callHas g_law_small (hr.mono (by decide)) rfl (pa_cons (pv 0) pa_nil)) (pg_sub (pv 6) (pe_callHas g_law_take (hr.mono (by decide)) rfl (pa_cons (pv 0) (pa_cons (pv 2) pa_nil))) set_list))) pss_nil)
      (C8.pss_cut (ps_if (pt_cmpR op_eq (pv 5) pe_int (nomark _)) (pss_cons (ps_setLc (i := 3) (own := [("_law_shape", 7)]) (g := gName 7) (by rfl) sc_law_system.nd rfl rfl (sw_true rfl rfl rfl (by decide +kernel)) (pi_list (pv 3)) (blkOk_by (own := [("_law_shape", 7)]) (N := n_law_system) (sc := defScope s_law_system) (by decide +kernel)) (fun _ _ _ _ _ => (pg_name (i := 7) sc_law_system.nd rfl (Or.inl rfl))) (fun _ _ _ _ _ => pts_nil) (fun _ _ _ _ _ => (pe_callTy (call_tupK (K := K) rfl) (by rfl) T.z_tuple (by decide +kernel) (pa_cons (pe_lc (own := [("_law_at", 8), ("_law_number_here", 9)]) (g := gTup K 2 (gCons (gName 8) (gCons (gName 9) gNil))) (by rfl) sc_law_system.nd (pi_enumTK (K := K) rfl (by rfl) T.z_enumerate (pa_cons (pv 7) pa_nil)) (blkOk_by (own := [("_law_at", 8), ("_law_number_here", 9)]) (N := n_law_system) (sc := ({ kind := .function, names := [((".0" : Str), .local), ("_law_shape", .local), ("tuple", .globalImplicit), ("enumerate", .globalImplicit)], isGenerator := false, isCoroutine := false } : Scope)) (by decide +kernel)) (fun _ _ _ _ _ => (pg_tup rfl (pgs_cons (pg_name (i := 8) sc_law_system.nd rfl (Or.inl rfl)) (pgs_cons (pg_name (i := 9) sc_law_system.nd rfl (Or.inl rfl)) pgs_nil)))) (fun _ _ _ _ _ => pts_nil) (fun _ _ _ _ _ => (pe_op op_mulX (pe_ix (ix_listK (K := K) rfl) (pe_lst (pa_cons pe_int (pa_cons pe_int pa_nil))) (pe_op op_mod (pv 8) pe_int) (fun _ _ => rfl)) (pv 9)))) pa_nil))))
      (pss_one (ps_setLc (i := 6) (own := [("_law_shape", 7)]) (g := gName 7) (by rfl) sc_law_system.nd rfl rfl (sw_true rfl rfl rfl (by decide +kernel)) (pi_list (pv 3)) (blkOk_by (own := [("_law_shape", 7)]) (N := n_law_system) (sc := defScope s_law_system) (by decide +kernel)) (fun _ _ _ _ _ => (pg_name (i := 7) sc_law_system.nd rfl (Or.inl rfl))) (fun _ _ _ _ _ => pts_nil) (fun _ _ _ _ _ => (pe_op op_add (pe_callHas g_law_small (hr.mono (by decide)) rfl (pa_cons (pv 0) pa_nil)) (pe_op op_fdiv (pe_callHas g_law_value (hr.mono (by decide)) rfl (pa_cons (pv 7) (pa_cons (pv 4) pa_nil))) pe_int)))))) pss_nil)
      (pss_one (ps_ret (pe_tup (pa_cons (pv 3) (pa_cons (pv 6) pa_nil)))))))))), ?_⟩
    refine ⟨_, rfl, _, rfl, _, rfl, b, n, m, rfl, hb, n1, n12, m12, fun H1 l as F nlb fresh bu1 hb1 hl hrs lF wF => ?_⟩
    -- the point
    refine ⟨_, rfl, ((n : Nat) : Int), rfl, by omega, by omega, fun D1 hD1 => lc_range (lo := 0) (n := n) (fun t H' => (∀ y o, y ≠ b → y ≠ D1 → H1 y = some o → H' y = some o) ∧ Box H' b ∧ ∃ g : Vec, H' D1 = some (.lst (g.map V.int)) ∧ g.length = t ∧ Within 4 g) ?_ ?_ ?_⟩
    · exact ⟨fun y o _ nD z => by rw [upd_ne nD]; exact z, hb1.new hD1, [], upd_same, rfl, fun y hy => nomatch hy⟩
    · rintro t H' ht ⟨kp, hb', g, hD', lg, wg⟩
      refine ⟨rfl, ?_⟩
      refine ⟨_, rfl, b, rfl, hb', fun H3' d1 bu' hb'' d2 d3 => ?_⟩
      have nDb := hb1.ne hD1
      refine ⟨_, bu' _ _ nDb hD', by rw [List.length_map, lg]; exact Nat.lt_of_lt_of_le ht (Nat.le_trans n12 (by decide)), fun y o nb nD z => by rw [upd_ne nD]; exact bu' _ _ nb (kp y o nb nD z), ?_, g ++ [d1], ?_, by rw [List.length_append, lg]; rfl, ?_⟩
      · obtain ⟨y1, y2, y3, h⟩ := hb''
        exact ⟨y1, y2, y3, by rw [upd_ne nDb.symm]; exact h⟩
      · rw [upd_same, List.map_append]; rfl
      · intro y hy
        rcases List.mem_append.mp hy with hy | hy
        · exact wg y hy
        · rw [List.mem_singleton.mp hy]; exact ⟨d2, d3⟩
    rintro H2 ⟨kp2, hb2, pt, hD2, lp, wp⟩
    have bu12 : But b H1 H2 := fun y o nb z => kp2 y o nb (ne_of_none z hD1) z
    have nDb := hb1.ne hD1
    refine ⟨_, rfl, b, 4, rfl, hb2, by decide, by decide, fun d u1 u2 u3 d0 d1 => ⟨(by decide : 2 ≤ sizeLine), fun z hz => ?_⟩⟩
    have hb2' : Box (upd H2 b (.lst [.int u1, .int u2, .int u3])) b := Box.upd'
    obtain ⟨sz, hz3⟩ := new_at (o := .tup [V.ref D1, V.int d]) hz
    have hb3 := hb2'.keep sz
    have bu23 : But b H2 _ := But.upd'.trans (Same.but sz)
    refine ⟨z, _, rfl, SqT.of hz3, rfl, _, _, rfl, _, _, rfl, rfl, ?_⟩
    generalize upd (upd H2 b (.lst [.int u1, .int u2, .int u3])) z (HO.tup [V.ref D1, V.int d]) = H3 at hb3 bu23 ⊢
    clear hz3 sz hb2' hz
    have bu13 := bu12.trans bu23
    have hl3 := bu13 _ _ nlb hl
    have hrs3 := hrs.but hb1 bu13
    have hp3 : IsL H3 D1 pt := bu23 _ _ nDb hD2
    have bu03 := bu1.trans bu13
    -- the right sides
    have wp4 : ∀ i, (itm pt i).natAbs ≤ 4 := within_itm (B := 4) wp
    have vb : ∀ (v : Vec) (c : Int), v.length = n → Within c v → 0 ≤ c → c ≤ 300 → -14400 ≤ dotF v (itm pt) ∧ dotF v (itm pt) ≤ 14400 := fun v c lv wv c0 c3 => by
      have := dotF_bound 300 4 v (itm pt) (fun x hx => by have := wv x hx; omega) wp4
      rw [lv] at this
      have := Nat.mul_le_mul_right (300 * 4) n12
      omega
    refine ⟨_, rfl, l, rfl, ⟨_, SqL.of hl3⟩, fun D3 hD3 => lc_it (walk_list (xs := as)) (fun t H' => Same H3 H' ∧ ∃ g : Vec, H' D3 = some (.lst (g.map V.int)) ∧ g.length = t ∧ Within 20000 g) ⟨(new_at hD3).1, [], upd_same, rfl, fun y hy => nomatch hy⟩ (fun t H' _ z => SqL.of (z.1 _ _ hl3)) ?_ ?_⟩
    · rintro t y H' H'' ht ⟨sm, g, hD', lg, wg⟩ ⟨rfl, ey⟩
      obtain ⟨ar, v, ev, rfl, hv, lv⟩ := (hrs3.keep sm).at ey
      have mv := List.mem_of_getElem? ev
      have wv := wF v mv
      refine ⟨rfl, ?_⟩
      refine ⟨_, rfl, _, rfl, ar, D1, v, pt, rfl, hv, .inr (sm _ _ hp3), by rw [lv, lp], by omega, fun x hx z hz => cmul_small (by have := wv x hx; omega) (by have := wp z hz; omega), fun H4 s4 => ?_⟩
      have q := vb v _ lv wv (by omega) (by omega)
      refine ⟨_, s4 _ _ hD', by rw [List.length_map, lg]; exact Nat.lt_of_lt_of_le ht (Nat.le_trans (show as.length ≤ 12 by have := hrs3.len; omega) (by decide)), fun y o z => by rw [upd_ne (ne_of_none z hD3)]; exact s4 _ _ (sm _ _ z), g ++ [dotF v (itm pt)], ?_, by rw [List.length_append, lg]; rfl, fun y hy => ?_⟩
      · rw [upd_same, List.map_append]; rfl
      · rcases List.mem_append.mp hy with hy | hy
        · exact wg y hy
        · rw [List.mem_singleton.mp hy]; omega
    rintro H4 ⟨s4, rb, hD4, lrb, wrb⟩
    have nD3b : D3 ≠ b := hb3.ne hD3
    have S4 : Sys H4 b n m l D1 D3 as F pt rb := ⟨hb3.keep s4, s4 _ _ hl3, hrs3.keep s4, lF, fun v hv x hx => by have := wF v hv x hx; omega, s4 _ _ hp3, lp, wp, hD4, by rw [lrb, hrs3.len, lF], wrb, nlb, nDb, nD3b⟩
    have bu04 := bu03.trans (Same.but s4)
    have fr3 : ∀ o, ¬ H D3 = some o := fun o z => by rw [bu03 _ _ nD3b z] at hD3; cases hD3
    have fl3 : l ≠ D3 := ne_of_none hl3 hD3
    have fp3 : D1 ≠ D3 := ne_of_none hp3 hD3
    have wF4 : ∀ v ∈ F, Within (4 + 8 * ((m : Nat) : Int)) v := wF
    clear hD4 wrb lrb s4 hD3 hp3 hl3 hrs3 hb3 bu23 bu13 bu12 hD2 kp2 hb2 hb1 hD1 bu1 bu03 wF
    refine ⟨fun σ' H' => ∃ rb', σ' = [some (.ref b), some (.int ((n : Nat) : Int)), some (.int ((m : Nat) : Int)), some (.ref l), some (.ref D1), some (.int d), some (.ref D3), none, none, none] ∧ But b H H' ∧ Sys H' b n m l D1 D3 as F pt rb', ?_, ?_⟩
    · refine ⟨_, rfl, rfl, _, rfl, ?_⟩
      by_cases c0 : d = 0
      · show if decide (V.int d = V.int 0) = true then _ else _
        rw [decide_eq_true (by rw [c0]), if_pos rfl]
        refine ⟨_, rfl, _, _, rfl, rfl, _, rfl, ?_⟩
        by_cases c1 : (0 : Int) < ((m : Nat) : Int)
        · show if decide ((0 : Int) < ((m : Nat) : Int)) = true then _ else _
          rw [decide_eq_true c1, if_pos rfl]
          refine ⟨_, rfl, b, rfl, S4.bx, fun H5 d5 bu5 hb5 lo hi => ?_⟩
          refine ⟨_, rfl, _, rfl, _, rfl, b, _, rfl, hb5, c1, by omega, fun e v1 v2 v3 e0 e1 => ?_⟩
          have hr5 : IsL (upd H5 b (.lst [.int v1, .int v2, .int v3])) D3 rb := (upd_ne S4.nr).trans (bu5 _ _ S4.nr S4.hr)
          have bu6 : But b H4 (upd H5 b (.lst [.int v1, .int v2, .int v3])) := bu5.trans But.upd'
          refine ⟨D3, _, e, e.toNat, rfl, rfl, hr5, ?_, ?_⟩
          · unfold ixN
            rw [if_pos e0, List.length_map, S4.lr, if_pos e1]
          refine ⟨rb.set e.toNat d5, rfl, fun y o nb z => ?_, ?_⟩
          · by_cases q : y = D3
            · exfalso
              rw [q] at z nb
              exact fr3 o z
            · rw [upd_ne q]; exact bu6 _ _ nb (bu04 _ _ nb z)
          · obtain ⟨y1, y2, y3, hbx⟩ : Box (upd H5 b (.lst [.int v1, .int v2, .int v3])) b := Box.upd'
            have nl3 : l ≠ D3 := fl3
            refine ⟨⟨y1, y2, y3, (upd_ne S4.nr.symm).trans hbx⟩, (upd_ne nl3).trans (bu6 _ _ S4.nl S4.hl), Rows.lst hr5 But.upd' (S4.rows.but S4.bx bu6), S4.lF, S4.wF, (upd_ne fp3).trans (bu6 _ _ S4.np S4.hp), S4.lp, S4.wp, ?_, by rw [List.length_set]; exact S4.lr, fun x hx => ?_, S4.nl, S4.np, S4.nr⟩
            · show upd _ _ _ _ = some (.lst ((rb.set e.toNat d5).map V.int))
              rw [upd_same, List.map_set]
            · rcases List.mem_or_eq_of_mem_set hx with hx | hx
              · exact S4.wr x hx
              · rw [hx]; omega
        · show if decide ((0 : Int) < ((m : Nat) : Int)) = true then _ else _
          rw [decide_eq_false c1, if_neg (by decide)]
          exact ⟨rb, rfl, bu04, S4⟩
      · show if decide (V.int d = V.int 0) = true then _ else _
        rw [decide_eq_false (fun z => c0 (V.int.inj z)), if_neg (by decide)]
        exact ⟨rb, rfl, bu04, S4⟩
    rintro σ' H5 ⟨rb5, rfl, bu05, S5⟩
    have wF5 : ∀ v ∈ F, Within (4 + 8 * ((m : Nat) : Int)) v := wF4
    clear S4 bu04 fr3 fl3 fp3
    refine ⟨fun σ' H' => ∃ l' as' F' r' rb', σ' = [some (.ref b), some (.int ((n : Nat) : Int)), some (.int ((m : Nat) : Int)), some (.ref l'), some (.ref D1), some (.int d), some (.ref r'), none, none, none] ∧ But b H H' ∧ Sys H' b n m l' D1 r' as' F' pt rb', ?_, ?_⟩
    · refine ⟨_, rfl, rfl, _, rfl, ?_⟩
      by_cases c0 : d = 1
      · show if decide (V.int d = V.int 1) = true then _ else _
        rw [decide_eq_true (by rw [c0]), if_pos rfl]
        -- other shapes
        refine ⟨_, rfl, l, rfl, ⟨_, SqL.of S5.hl⟩, fun D5 hD5 => lc_it (walk_list (xs := as)) (fun t H' => Same H5 H' ∧ ∃ (os : List V) (us : List Vec), H' D5 = some (.lst os) ∧ Rows H' n os us ∧ us.length = t ∧ ∀ v ∈ us, Within (3 * (4 + 8 * ((m : Nat) : Int))) v) ⟨(new_at hD5).1, [], [], upd_same, ⟨.nil, fun v hv => nomatch hv⟩, rfl, fun v hv => nomatch hv⟩ (fun t H' _ z => SqL.of (z.1 _ _ S5.hl)) ?_ ?_⟩
        · rintro t y H' H'' ht ⟨sm, os, us, hx, hus, lus, wus⟩ ⟨rfl, ey⟩
          obtain ⟨ar, v, ev, rfl, hv, lv⟩ := (S5.rows.keep sm).at ey
          have wv := wF5 v (List.mem_of_getElem? ev)
          refine ⟨rfl, ?_⟩
          refine ⟨_, rfl, ar, _, rfl, SqT.of hv, fun D6 hD6 => lc_it (walk_enumT (ys := v.map V.int)) (fun i H3 => Same H'' H3 ∧ ∃ g : Vec, H3 D6 = some (.lst (g.map V.int)) ∧ g.length = i ∧ Within (3 * (4 + 8 * ((m : Nat) : Int))) g) ⟨(new_at hD6).1, [], upd_same, rfl, fun y hy => nomatch hy⟩ (fun i H3 _ z => SqT.of (z.1 _ _ hv)) ?_ ?_⟩
          · rintro i x H3 H3' hi ⟨s3, g, hD', lg, wg⟩ ⟨q, y1, y2, rfl, hq, rfl, e1, e2⟩
            obtain ⟨m1, em, rfl⟩ := map_at e2
            cases e1
            rw [List.length_map] at hi
            have wm := wv m1 (List.mem_of_getElem? em)
            have sq := (new_at (o := .tup [V.int ((i : Nat) : Int), V.int m1]) hq).1
            refine ⟨q, _, rfl, SqT.of upd_same, rfl, _, _, rfl, _, _, rfl, rfl, rfl, ?_⟩
            refine ⟨(by decide : 2 ≤ sizeLine), fun z hz => ?_⟩
            obtain ⟨sz, hz4⟩ := new_at (o := .lst [V.int 2, V.int 3]) hz
            obtain ⟨c, ec, c2, c3⟩ : ∃ c : Int, atI [V.int 2, V.int 3] (((i : Nat) : Int) % 2) = some (V.int c) ∧ 2 ≤ c ∧ c ≤ 3 := by
              have : ((i : Nat) : Int) % 2 = 0 ∨ ((i : Nat) : Int) % 2 = 1 := by omega
              rcases this with e | e <;> rw [e]
              · exact ⟨2, rfl, by decide, by decide⟩
              · exact ⟨3, rfl, by decide, by decide⟩
            have cm : -300 ≤ c * m1 ∧ c * m1 ≤ 300 ∧ -(3 * (4 + 8 * ((m : Nat) : Int))) ≤ c * m1 ∧ c * m1 ≤ 3 * (4 + 8 * ((m : Nat) : Int)) := by
              have : c = 2 ∨ c = 3 := by omega
              rcases this with e | e <;> subst e <;> (refine ⟨?_, ?_, ?_, ?_⟩ <;> omega)
            refine ⟨_, rfl, _, _, rfl, rfl, (by show (0 : Int) < 2; decide), z, _, _, _, rfl, rfl, SqL.of hz4, ec, _, rfl, _, _, rfl, rfl, cmul_small (by omega) (by omega), ?_⟩
            have nDq : D6 ≠ q := ne_of_none hD' hq
            have sqz := sq.trans sz
            refine ⟨_, sqz _ _ hD', by rw [List.length_map, lg]; exact Nat.lt_of_lt_of_le hi (Nat.le_trans (show v.length ≤ 12 by omega) (by decide)), fun y o w => by rw [upd_ne (ne_of_none w hD6)]; exact sqz _ _ (s3 _ _ w), g ++ [c * m1], ?_, by rw [List.length_append, lg]; rfl, fun y hy => ?_⟩
            · rw [upd_same, List.map_append]; rfl
            · rcases List.mem_append.mp hy with hy | hy
              · exact wg y hy
              · rw [List.mem_singleton.mp hy]; exact ⟨cm.2.2.1, cm.2.2.2⟩
          · rintro H3 ⟨s3, g, hD', lg, wg⟩
            rw [List.length_map] at lg
            refine ⟨_, _, rfl, .inl ⟨SqL.of hD', fun q hq => ?_⟩⟩
            obtain ⟨s4, hq4⟩ := new_at (o := .tup (g.map V.int)) hq
            have s34 := s3.trans s4
            refine ⟨_, s34 _ _ hx, by rw [hus.len, lus]; exact Nat.lt_of_lt_of_le ht (Nat.le_trans (show as.length ≤ 12 by have := S5.rows.len; have := S5.lF; omega) (by decide)), fun y o w => by rw [upd_ne (ne_of_none w hD5)]; exact s34 _ _ (sm _ _ w), os ++ [.ref q], us ++ [g], upd_same, Rows.lst (s34 _ _ hx) But.upd' ((hus.keep s34).snoc hq4 (lg.trans lv)), by rw [List.length_append, lus]; rfl, fun v' hv' => ?_⟩
            rcases List.mem_append.mp hv' with hv' | hv'
            · exact wus v' hv'
            · rw [List.mem_singleton.mp hv']; exact wg
        rintro H6 ⟨s6, os, us, hx6, hus, lus, wus⟩
        rw [S5.rows.len, S5.lF] at lus
        have S6 := S5.bx.keep s6
        have nD5b : D5 ≠ b := S5.bx.ne hD5
        have hp6 := s6 _ _ S5.hp
        have bu06 := bu05.trans (Same.but s6)
        -- other right sides
        refine ⟨_, rfl, D5, rfl, ⟨_, SqL.of hx6⟩, fun D7 hD7 => lc_it (walk_list (xs := os)) (fun t H' => (∀ y o, y ≠ b → y ≠ D7 → H6 y = some o → H' y = some o) ∧ Box H' b ∧ ∃ g : Vec, H' D7 = some (.lst (g.map V.int)) ∧ g.length = t ∧ Within 20000 g) ⟨fun y o _ nD z => by rw [upd_ne nD]; exact z, S6.new hD7, [], upd_same, rfl, fun y hy => nomatch hy⟩ (fun t H' _ z => SqL.of (z.1 _ _ nD5b (ne_of_none hx6 hD7) hx6)) ?_ ?_⟩
        · rintro t y H' H'' ht ⟨kp, hb', g, hD', lg, wg⟩ ⟨rfl, ey⟩
          obtain ⟨ar, v, ev, rfl, hv6, lv⟩ := hus.at ey
          have wv := wus v (List.mem_of_getElem? ev)
          have nDb := S6.ne hD7
          refine ⟨rfl, ?_⟩
          refine ⟨_, rfl, b, rfl, hb', fun H8 d8 bu8 hb8 lo hi => ?_⟩
          have nab : ar ≠ b := by
            obtain ⟨y1, y2, y3, hbx⟩ := S6
            exact ne_of hv6 hbx fun z => nomatch z
          have hv8 : IsV H8 ar v := bu8 _ _ nab (kp _ _ nab (ne_of_none hv6 hD7) hv6)
          have hp8 : IsL H8 D1 pt := bu8 _ _ S5.np (kp _ _ S5.np (ne_of_none hp6 hD7) hp6)
          refine ⟨_, rfl, _, rfl, ar, D1, v, pt, rfl, hv8, .inr hp8, by rw [lv, S5.lp], by omega, fun x hx z hz => cmul_small (by have := wv x hx; omega) (by have := S5.wp z hz; omega), fun H9 s9 => ?_⟩
          have q := vb v _ lv wv (by omega) (by omega)
          refine ⟨_, _, rfl, rfl, ⟨by decide, by decide⟩, _, _, rfl, rfl, ?_⟩
          have hfd : -7200 ≤ dotF v (itm pt) / 2 ∧ dotF v (itm pt) / 2 ≤ 7200 := ⟨by omega, by omega⟩
          generalize dotF v (itm pt) / 2 = hf at hfd ⊢
          refine ⟨_, s9 _ _ (bu8 _ _ nDb hD'), by rw [List.length_map, lg]; exact Nat.lt_of_lt_of_le ht (Nat.le_trans (show os.length ≤ 12 by have := hus.len; omega) (by decide)), fun y o nb nD w => by rw [upd_ne nD]; exact s9 _ _ (bu8 _ _ nb (kp y o nb nD w)), ?_, g ++ [d8 + hf], ?_, by rw [List.length_append, lg]; rfl, fun y hy => ?_⟩
          · obtain ⟨y1, y2, y3, h⟩ := hb8.keep s9
            exact ⟨y1, y2, y3, by rw [upd_ne nDb.symm]; exact h⟩
          · rw [upd_same, List.map_append]; rfl
          · rcases List.mem_append.mp hy with hy | hy
            · exact wg y hy
            · rw [List.mem_singleton.mp hy]; omega
        rintro H7 ⟨kp7, hb7, g, hD7', lg, wg⟩
        have nDb := S6.ne hD7
        have bu67 : But b H6 H7 := fun y o nb z => kp7 y o nb (ne_of_none z hD7) z
        exact ⟨D5, os, us, D7, g, rfl, bu06.trans bu67, ⟨hb7, bu67 _ _ nD5b hx6, hus.but S6 bu67, lus, wus, bu67 _ _ S5.np hp6, S5.lp, S5.wp, hD7', by rw [lg, hus.len, lus], wg, nD5b, S5.np, nDb⟩⟩
      · show if decide (V.int d = V.int 1) = true then _ else _
        rw [decide_eq_false (fun z => c0 (V.int.inj z)), if_neg (by decide)]
        exact ⟨l, as, F, D3, rb5, rfl, bu05, S5⟩
    rintro σ' H8 ⟨l', as', F', r', rb', rfl, bu08, S8⟩
    refine ⟨_, rfl, _, rfl, (by decide : 2 ≤ sizeLine), fun t ht => ?_⟩
    obtain ⟨s9, ht9⟩ := new_at (o := .tup [V.ref l', V.ref r']) ht
    exact k _ t l' r' as' F' rb' (bu08.trans (Same.but s9)) (S8.bx.keep s9) ht9 (s9 _ _ S8.hl) (S8.rows.keep s9) S8.lF S8.wF (s9 _ _ S8.hr) S8.lr S8.wr S8.nl S8.nr
end
end K06

namespace K06
open PySem L2 RZ Lat
/-- is it in, as a bool -/
def memb (o : Option Vec) (B : List Vec) (v : Vec) : Bool := match o with
  | none => false
  | some p => decide (redV B v = p)
theorem memb_iff {n X : Nat} {F : List Vec} {b : Nat → Int} {o : Option Vec} {B : List Vec} (h : SolF n F b X o B) {v : Vec} (l : v.length = n) : memb o B v = true ↔ Solves F b (itm v) := by
  cases o with
  | none => exact ⟨fun z => (nomatch z), fun z => absurd z ((h.no rfl).2 _ fun i hi => itm_out (by omega))⟩
  | some p => exact decide_eq_true_iff.trans (h.mem l)
theorem cont_step {D x p : Addr} {H : Hp} {n : Nat} {o : Option Vec} {B : List Vec} {v : Vec} {Q : VK} (fac : FacAt D H x n o B) (n1 : n ≤ 1000) (hp : IsV H p v) (lv : v.length = n) (ok : OkRed B v) (k : ∀ H', Same H H' → Q (.bl (memb o B v)) H') : spContF D [.ref x, .ref p] H Q E0 := by
  refine ⟨x, .ref p, n, o, B, rfl, fac, n1, ?_⟩
  cases o with
  | none => exact .inl ⟨rfl, k H (Same.refl H)⟩
  | some q => exact .inr (.inl ⟨q, p, v, rfl, rfl, hp, lv, ok, k⟩)
def somP (p : Vec) (B : List Vec) : List Vec := p :: B.map (addV p 1)
def withB (o : Option Vec) (B : List Vec) (o' : Option Vec) (B' : List Vec) : Bool := match o with
  | none => true
  | some p => decide ((somP p B).filter (fun v => !memb o' B' v) = [])
end K06

namespace L2
open PySem PySem.Spec PyProof.Rows PySem.W
/-- a law's def keeps its promise where nothing is being shown around the call -/
structure LawOk (P : Program) (w : World) (K : PySem.W.Frag) (mg : Str → Option Value) (base : Heap) (k : Nat) (f : Addr) (sp : Sp) : Prop where
  run : ∀ (A : Around) (s : Shared) (H : Hp) (u : Value) (v : V) (Q : VK), A.guards = some [] → Room k A → Env0 P w K mg base A [] s H → RelV v u → sp [v] H Q E0 → codeAny (model P w) A (.call (.ref f) ⟨[u], []⟩) (CR CX0 [] P w H s Q E0) s
theorem LawOk.of {P : Program} {w : World} {K : PySem.W.Frag} {mg : Str → Option Value} {base : Heap} {k : Nat} {f : Addr} {nm qual x : Str} {st : Stmt} {fd : FuncData} {N : List Str} {sp : Sp} (F : Fun K nm qual st f fd) (S : FnScope N [x] (defScope st))
    (hb : ∀ (s : Shared) (u : Value), K.In s.heap → BindsTo s fd ⟨[u], []⟩ [(x, u)])
    (body : ∀ (cdv : Value) (A : Around) (s : Shared) (H : Hp) (v : V) (Q : VK), A.guards = some [] → Room k (A.deeper (envOfC qual (defScope st) s.heap.objs.size f cdv)) → sp [v] H Q E0 →
      ∃ t, PSs (cxOf CX0 P w K mg base N qual (defScope st) f cdv A [] s H E0).nox (defBody st) t ∧ t { nx := fun _ H' => Q .non H', rt := Q } (start N [v]) H) : LawOk P w K mg base (k + 1) f sp := by
  obtain ⟨oc, od, kV, doc, pm, an, cdv, ct, osl, e, lk, hcd⟩ := F.ex
  subst e
  refine ⟨fun A s H u v Q hg hr z0 r q => ?_⟩
  have KI : K.In s.heap := z0.mod.kin.keeps fun b o y => (z0.bs b o y).1
  have zl : s.heap.NoLimit := z0.mod.nolimit.keeps fun b o y => (z0.bs b o y).1
  have kinds : ∀ y ∈ [x].zip [u], (defScope st).names.lookup y.1 = some .local ∨ ((defScope st).names.lookup y.1 = some .cell ∧ ((cellsFrom (s.heap.objs.size + 1) (defScope st).names []).lookup y.1).isSome = true) := by
    rintro ⟨n, v'⟩ hy
    exact (S.par n (List.of_mem_zip hy).1).imp (fun y => y) fun y => ⟨y, PySem.W.cellsFrom_some _ _ _ (.inl y)⟩
  refine codeAny_call_function hr.depth (KI _ _ lk) rfl S.co S.gen rfl (PySem.W.codeRec_of KI hcd) (hb s u KI _ _ _ _ (wpAny_newFunctionEnv_cells S.kind kinds fun env he s1 y => ?_))
  subst he
  obtain ⟨t, ht, hq⟩ := body cdv A s H v Q hg (hr.deeper _) q
  have I := inv_start (CX := CX0) (E := E0) S hr.hd z0 rfl (.cons r .nil) y
  refine ⟨zl.keeps y.toInCall.keep, codeAny_func (wpAny_mono (ht.nox.run [] s1 (start N [v]) H _ I hq) (fun fl s' hs => ?_) fun _ _ hs => hs)⟩
  match fl, hs with
  | .ret u, ⟨v, σ', H', J, rv, q⟩ => exact ⟨v, H', J.os, J.bare, J.base, J.hok, rv, q⟩
  | .next, ⟨σ', H', J, q⟩ => exact ⟨V.non, H', J.os, J.bare, J.base, J.hok, rfl, q⟩
  | .brk, ⟨_, _, _, q⟩ => exact q.elim
  | .cont, ⟨_, _, _, q⟩ => exact q.elim

/-- what the caller of the law sees: nothing stood there but the script, locked -/
theorem LawOk.called {P : Program} {w : World} {K : PySem.W.Frag} {mg mb : Str → Option Value} {k : Nat} {fa a : Addr} {sp : Sp} {z : Shared} {vs : List Value} {ns : List Int} (KI : K.In z.heap) (g1 : z.heap.Ns mainGlobals mg) (g2 : z.heap.Ns builtinsNs mb)
    (g3 : ∀ x : Str, x ≠ "__name__" → mb x = bootBuiltins x) (g4 : z.heap.NoLimit) (g5 : z.gens = #[]) (ha : z.heap.get? a = some { cls := .type "list", data := .seq vs.toArray }) (hi : IntsAre vs ns) (hl : ns.length ≤ sizeLine) (hr : Room k callerA)
    (F : ∀ base : Heap, K.In base → base.Ns mainGlobals mg → LawOk P w K mg base k fa sp) (hsp : ∀ H : Hp, SqL K H a (ns.map V.int) → sp [.ref a] H (fun v _ => v = .bl true) E0) :
    codeAny (model P w) callerA (.call (.ref fa) ⟨[.ref a], []⟩) (fun r s' => r = .ok (.ret (.bool true)) ∧ OldK z.heap s'.heap ∧ s'.os = z.os ∧ AllBare s'.gens) z := by
  have rv := vals_ints hi
  have lv := hi.length
  have main : ∀ H : Hp, (∀ b u, H b = some u → b = a ∧ K.lookup a = none ∧ ∃ ys, u = .frz { cls := .type "list", data := .seq vs.toArray } ys) → SqL K H a (ns.map V.int) → HOk P w H z.heap →
      codeAny (model P w) callerA (.call (.ref fa) ⟨[.ref a], []⟩) (fun r s' => r = .ok (.ret (.bool true)) ∧ OldK z.heap s'.heap ∧ s'.os = z.os ∧ AllBare s'.gens) z := by
    intro H hA hS hok
    have no : ∀ {b : Addr} {o : Obj}, z.heap.get? b = some o → (b = a → K.lookup a ≠ none ∨ ∃ es ep, o.data = .dict es ep) → H b = none := fun {b o} e d => by
      cases q : H b with
      | none => rfl
      | some u =>
        obtain ⟨e1, e2, _⟩ := hA b u q
        rcases d e1 with d1 | ⟨es, ep, d1⟩
        · exact absurd e2 d1
        · rw [e1] at e
          cases ha.symm.trans e
          cases d1
    have kb : K.In (hidT z.heap H) := fun b o e => hidT_get (KI b o e) (no (KI b o e) fun _ => .inl (by rw [← (by assumption : b = a), e]; simp))
    have nb : ∀ {b : Addr} {m : Str → Option Value}, z.heap.Ns b m → (hidT z.heap H).Ns b m := fun {b m} q => by
      obtain ⟨o, es, ep, e, d, r⟩ := q
      exact ⟨o, es, ep, hidT_get e (no e fun _ => .inr ⟨es, ep, d⟩), d, r⟩
    have z0 : Env0 P w K mg (hidT z.heap H) callerA [] z H := by
      refine ⟨rfl, ⟨kb, nb g1, ⟨mb, nb g2, g3⟩, ?_⟩, fun b o e => of_hidT e, Nat.le_of_eq (hidT_size _ _), trivial, fun b hb => absurd (show b ∈ ([] : List Addr) from hb) (by simp), hok, .of_eq g5⟩
      obtain ⟨mc, q1, q2⟩ := g4
      exact ⟨mc, nb q1, q2⟩
    refine codeAny_mono ((F _ kb (nb g1)).run callerA z H (.ref a) (.ref a) (fun v _ => v = .bl true) rfl hr z0 rfl (hsp H hS)) fun r s' h => ?_
    match r, h with
    | .error e, h => exact h.elim
    | .ok .next, h => exact h.elim
    | .ok .brk, h => exact h.elim
    | .ok .cont, h => exact h.elim
    | .ok (.ret u), ⟨v, H', os, bare, un, hok', r', q⟩ =>
      subst q
      obtain rfl : u = Value.bool true := r'
      refine ⟨rfl, OldK.of_keep fun b o e => ?_, os, bare⟩
      cases q : H b with
      | none => exact un.keep b o e q (fun y => absurd (show b ∈ ([] : List Addr) from y) (by simp)) (by simp)
      | some u =>
        obtain ⟨e1, _, ys, e2⟩ := hA b u q
        subst e2
        obtain ⟨y1, _⟩ := hok b _ q
        obtain ⟨y2, _⟩ := hok' b _ (un.frzs b _ ys q)
        cases e.symm.trans y1
        exact y2
  cases hk : K.lookup a with
  | some o =>
    cases (KI a o hk).symm.trans ha
    exact main (fun _ => none) (fun b u y => nomatch y) (.inr ⟨_, vs.toArray, _, hk, rfl, rfl, rfl, by rw [List.size_toArray, lv]; exact hl, by simpa using rv⟩) fun b u y => nomatch y
  | none =>
    have key : ∀ b u, (if b = a then some (HO.frz { cls := .type "list", data := .seq vs.toArray } (.lst (ns.map V.int))) else none) = some u → b = a ∧ u = .frz { cls := .type "list", data := .seq vs.toArray } (.lst (ns.map V.int)) := fun b u y => by
      by_cases hb : b = a
      · rw [if_pos hb] at y
        exact ⟨hb, (Option.some.inj y).symm⟩
      · rw [if_neg hb] at y
        cases y
    refine main (fun b => if b = a then some (.frz { cls := .type "list", data := .seq vs.toArray } (.lst (ns.map V.int))) else none) (fun b u y => ?_) (.inl (.inr ⟨_, if_pos rfl⟩)) fun b u y => ?_
    · obtain ⟨y1, y2⟩ := key b u y
      exact ⟨y1, hk, _, y2⟩
    · obtain ⟨y1, y2⟩ := key b u y
      subst y1 y2
      exact ⟨ha, by rw [List.length_map]; exact hl, vs, _, rv, ha⟩
theorem walk_law {l : PySem.W.OpenLaw} {n k : Nat} {q : Program} {loose : List Str} {XP : (Str → Option Value) → Heap → Prop} {YP : World → Heap → Prop} {d : DefRec} {K : Params → PySem.W.Frag} {sp : PySem.W.Frag → Sp} (hn : l.most = some n) (hn2 : n ≤ sizeLine)
    (hdf : d.params.defaults = []) (hr : Room k callerA) (hY : ∀ (w : World) (h : Heap), YP w h → (K w.params).In h)
    (F : ∀ (w : World) (mg : Str → Option Value) (fa : Addr) (h : Heap), (K w.params).In h → h.Ns mainGlobals mg → mg d.name = some (.ref fa) → ∀ base : Heap, (K w.params).In base → base.Ns mainGlobals mg → LawOk l.prog w (K w.params) mg base k fa (sp (K w.params)))
    (hsp : ∀ (K : PySem.W.Frag) (H : Hp) (a : Addr) (ns : List Int), ns.length ≤ n → SqL K H a (ns.map V.int) → sp K [.ref a] H (fun v _ => v = .bl true) E0) : PySem.W.WalkO q loose XP YP l.row.toRowW d [] (fun f vs => PySem.call f vs) := by
  refine Att.attach_call hn hdf fun w s₀ s₁ mg mb fa o pm cd doc a vs ns G Y ho hd hcd hmg hobj hints hlen hg => ?_
  exact LawOk.called (hY w _ Y) G.T.g G.T.b G.T.builtins G.T.nolimit hg hobj hints (Nat.le_trans hlen hn2) hr (F w mg fa _ (hY w _ Y) G.T.g hmg) fun H hS => hsp _ H a ns hlen hS
end L2

namespace L2
open PySem PySem.Spec PyProof.Rows
section
variable {X : Cx}
theorem call_repr_bl : CallR X (.builtin "repr") (fun xs H Q => ∃ b, xs = [.bl b] ∧ Q (.str (if b then "True" else "False" : String)) H) := by
  intro pins s σ H xs us Q I r h
  obtain ⟨b, rfl, q⟩ := h
  match us, r with
  | [u], .cons r1 .nil =>
    cases r1
    refine PySem.P.repr_of_bool ⟨.str _, H, I.tok _, ⟨_, rfl⟩, ?_⟩
    cases b <;> exact q
/-- repr(x), x a list or tuple of data, where nothing else is being shown -/
def rRepr (K : PySem.W.Frag) : List V → Hp → VK → Prop := fun xs H Q => ∃ (a : Addr) (d : PyData), xs = [.ref a] ∧ Dp K H (.ref a) d ∧ d.showable = true ∧ d.hasDict = false ∧ d.depth ≤ 60 ∧ d.shown.length ≤ sizeLine ∧ Q (.str d.shown) H
theorem call_reprD (hg : X.A.guards = some []) (hu : X.A.units + 64 < cLine) : CallR X (.builtin "repr") (rRepr X.K) := by
  intro pins s σ H xs us Q I r h
  obtain ⟨a, d, rfl, hd, h1, h2, h3, h4, q⟩ := h
  match us, r with
  | [u], .cons r1 .nil =>
    obtain ⟨as, R⟩ := Dp.reads I d _ u hd r1
    obtain rfl : u = Value.ref a := r1
    refine repr_of_reads' R h1 (fun z => ?_) hg (by omega) (fun b o z => z) (fun h' u tk k => ?_) h4
    · rw [h2] at z; cases z
    · exact ⟨.str d.shown, H, I.kept (t' := tk) k, ⟨_, rfl⟩, q⟩
end
/-- a tuple of ints that are not too long is shown -/
theorem ints_shown : ∀ v : List Int, (∀ n ∈ v, n.natAbs.log2 < 1920) → PyData.showableAll (v.map PyData.int) = true ∧ PyData.hasDictAll (v.map PyData.int) = false ∧ PyData.depthAll (v.map PyData.int) = 0 ∧ ((PyData.shownAll (v.map PyData.int)).map (·.length)).sum ≤ 1921 * v.length ∧ (PyData.shownAll (v.map PyData.int)).length = v.length
  | [], _ => ⟨rfl, rfl, rfl, Nat.le_refl _, rfl⟩
  | n :: v, h => by
    obtain ⟨a1, a2, a3, a4, a5⟩ := ints_shown v fun x hx => h x (List.mem_cons_of_mem _ hx)
    have hn := h n List.mem_cons_self
    have q := int_text_length_le (a := n) (k := 1920) (by decide) hn
    refine ⟨?_, ?_, ?_, ?_, ?_⟩
    · simp only [List.map_cons, PyData.showableAll, PyData.showable, a1, decide_eq_true hn, Bool.and_self]
    · simp only [List.map_cons, PyData.hasDictAll, PyData.hasDict, a2, Bool.or_self]
    · simp only [List.map_cons, PyData.depthAll, PyData.depth, a3]; rfl
    · simp only [List.map_cons, PyData.shownAll, List.sum_cons, List.length_cons, PyData.shown]
      have e : (Str.ofString (toString n)).length = (toString n).length := PySem.ofString_length _
      have : (Str.ofString (toString n)).length ≤ 1921 := by rw [e]; exact q
      show (Str.ofString (toString n)).length + _ ≤ _
      omega
    · simp only [List.map_cons, PyData.shownAll, List.length_cons, a5]
theorem tup_shown {v : List Int} (h : ∀ n ∈ v, n.natAbs.log2 < 1920) (l : v.length ≤ 1000) : (PyData.tuple (v.map PyData.int)).showable = true ∧ (PyData.tuple (v.map PyData.int)).hasDict = false ∧ (PyData.tuple (v.map PyData.int)).depth ≤ 60 ∧ (PyData.tuple (v.map PyData.int)).shown.length ≤ sizeLine := by
  obtain ⟨a1, a2, a3, a4, a5⟩ := ints_shown v h
  refine ⟨?_, ?_, ?_, ?_⟩
  · simpa only [PyData.showable] using a1
  · simpa only [PyData.hasDict] using a2
  · simp only [PyData.depth]; omega
  · have q := tupleText_len_le (PyData.shownAll (v.map PyData.int))
    simp only [PyData.shown]
    rw [sizeLine_eq]; omega
end L2

namespace K06
open PySem L2 RZ Lat
theorem SolF.mono {w X Y : Nat} {F : List Vec} {b : Nat → Int} {o : Option Vec} {B : List Vec} (h : SolF w F b X o B) (hX : X ≤ Y) : SolF w F b Y o B :=
  ⟨h.ech, h.hn, fun s hs i => Nat.le_trans (h.siz s hs i) (Nat.pow_le_pow_right (by decide) hX), h.no, h.yes, h.ker⟩
theorem fit30 : Fit 30 5 := by decide +kernel
theorem fit939 : Fit 939 5 := by decide +kernel
structure Al (n : Nat) (F : List Vec) (b : Vec) : Prop where
  n1 : 1 ≤ n
  n4 : n ≤ 4
  lb : b.length = F.length
  ok : OkSol F n b
  sol : SolF n F (itm b) 939 (solO F n b) (solB F n b)
  pt : ∀ p, solO F n b = some p → ∀ i, (itm p i).natAbs ≤ 2 ^ 24579
  okB : OkGrows [] (solB F n b)
  red : ∀ v : Vec, v.length = n → (∀ i, (itm v i).natAbs ≤ 2 ^ 200000) → OkRed (solB F n b) v
theorem al_of {n : Nat} {F : List Vec} {b : Vec} (n1 : 1 ≤ n) (n4 : n ≤ 4) (m12 : F.length ≤ 12) (lF : ∀ r ∈ F, r.length = n) (lb : b.length = F.length) (hF : ∀ r ∈ F, ∀ i, (itm r i).natAbs ≤ 2 ^ 30) (hb : ∀ i, (itm b i).natAbs ≤ 2 ^ 175) : Al n F b := by
  have n5 : n ≤ 5 := by omega
  have R := gens_rws (F := F) (w := n) fit30 n5 hF
  have src : Srcd n F b 939 945 (fPt F n b) (fFr F n b) := sourced fit30 n5 lF hF lb (by decide) (by decide) hb
  have cs : grows [] (fFr F n b) = fFr F n b := canon_same src.ech src.hn
  have cf : (fFr F n b).length ≤ n := by have := src.ech.count (Nat.zero_le _); omega
  have eB : solB F n b = fFr F n b := by
    unfold solB
    cases h : fPt F n b with
    | none => exact (src.none' h).symm
    | some p => exact cs
  have eO : solO F n b = (fPt F n b).map (redV (fFr F n b)) := by unfold solO; rw [cs]
  have R2 : Rws 939 n 5 (fFr F n b) := ⟨fit939, by omega, .inl n5, fun r hr => ⟨src.len r hr, src.siz r hr⟩⟩
  have sol : SolF n F (itm b) 939 (solO F n b) (solB F n b) := by rw [eO, eB]; exact src.sol
  have pt : ∀ p, solO F n b = some p → ∀ i, (itm p i).natAbs ≤ 2 ^ 24579 := fun p hp => by
    rw [eO] at hp
    cases h : fPt F n b with
    | none => rw [h] at hp; cases hp
    | some q =>
      rw [h] at hp
      cases hp
      obtain ⟨lq, sq⟩ := src.pt q h
      have := red_short (y := 4720) (show 1 ≤ 5 by decide) R2.gen lq (by decide) (by decide) fun i => Nat.le_trans (sq i) (Nat.pow_le_pow_right (by decide) (by decide))
      rw [cs] at this
      exact this
  refine ⟨n1, n4, lb, ⟨n1, by omega, by omega, lb, lF, R.ok, R.red (y := 175) (tgt_len lb) (fun i => ?_) (by decide), by have := R.gen.count; show (grows [] (gensOf F n)).length ≤ 100; omega, R2.ok, fun p hp => ?_, by omega⟩, sol, pt, ?_, fun v lv hv => ?_⟩
  · rw [tgt_itm]; split
    · exact hb i
    · exact Nat.zero_le _
  · obtain ⟨lp, sp⟩ := src.pt p hp
    exact R2.red (y := 945) lp sp (by decide)
  · rw [eB]; exact R2.ok
  · have := R2.red (y := 200000) lv hv (by decide)
    rw [cs] at this
    rw [eB]; exact this
theorem Al.cnt {n : Nat} {F : List Vec} {b : Vec} (h : Al n F b) : (solB F n b).length ≤ n := by have := h.sol.ech.count (Nat.zero_le _); omega
/-- one set within another one -/
def cv (n : Nat) (F : List Vec) (b : Vec) (G : List Vec) (c : Vec) : Bool := covB (solO G n c) (solB G n c) (solO F n b) (solB F n b)
theorem dot_plus (r : Vec) (f g : Nat → Int) : dotF r (fun i => f i + g i) = dotF r f + dotF r g := by
  have := dotF_add r f g 1
  rw [show (fun i => f i + 1 * g i) = fun i => f i + g i from funext fun i => by omega] at this
  omega
theorem zo {u : Vec} {w : Nat} (hu : u.length = w) : ∀ i, w ≤ i → itm u i = 0 := fun i hi => itm_out (by omega)
theorem mem_zero {n X : Nat} {G : List Vec} {c : Nat → Int} {q : Vec} {B : List Vec} (h : SolF n G c X (some q) B) {r : Vec} (l : r.length = n) : piv (redV B r) = (redV B r).length ↔ Solves G (fun _ => 0) (itm r) := by
  have lB : ∀ s ∈ B, s.length = r.length := fun s hs => (h.ech.row s hs).1.trans l.symm
  constructor
  · intro e
    exact ((h.ker q rfl _).mp (red_in lB e)).2
  · intro s
    exact red_zero h.ech l ((h.ker q rfl _).mpr ⟨zo l, s⟩)
theorem all_iff (B' : List Vec) (p : Vec → Bool) : (B'.map p).all id = true ↔ ∀ r ∈ B', p r = true := by
  rw [List.all_map, List.all_eq_true]; rfl
/-- within, by solutions -/
theorem sub_iff {n X Y : Nat} {F G : List Vec} {b c : Nat → Int} {p : Vec} {B : List Vec} (h : SolF n F b X (some p) B) : (Solves G c (itm p) ∧ ∀ r ∈ B, Solves G (fun _ => 0) (itm r)) ↔ ∀ g, (∀ i, n ≤ i → g i = 0) → Solves F b g → Solves G c g := by
  obtain ⟨lp, sp, _⟩ := h.yes p rfl
  constructor
  · rintro ⟨a1, a2⟩ g z s
    have C : Cl fun f => Solves G (fun _ => 0) f := ⟨fun j _ => dotF_zero _, fun f k t x y => fun j hj => by rw [dotF_add, x j hj, y j hj]; show (0 : Int) + t * 0 = 0; omega⟩
    have d : In B fun i => g i - itm p i := (h.ker p rfl _).mpr ⟨fun i hi => by rw [z i hi, zo lp i hi]; omega, Solves.congr (Solves.sub s sp) fun j _ => by show b j - b j = 0; omega⟩
    have e := In.sub C a2 d
    intro j hj
    have q := dot_plus (rowAt G j) (itm p) fun i => g i - itm p i
    rw [show (fun i => itm p i + (g i - itm p i)) = g from funext fun i => by omega] at q
    rw [q, a1 j hj]
    have : dotF (rowAt G j) (fun i => g i - itm p i) = 0 := e j hj
    omega
  · intro k
    have a1 := k _ (zo lp) sp
    refine ⟨a1, fun r hr j hj => ?_⟩
    obtain ⟨zr, sr⟩ := (h.ker p rfl _).mp (In.mem _ _ hr)
    have s2 := k (fun i => itm p i + itm r i) (fun i hi => by rw [zo lp i hi, zr i hi]; omega) fun j hj => by
      rw [dot_plus, sp j hj]
      have : dotF (rowAt F j) (itm r) = 0 := sr j hj
      omega
    have q := s2 j hj
    rw [dot_plus, a1 j hj] at q
    show dotF (rowAt G j) (itm r) = 0
    omega
theorem cov_iff {n X Y : Nat} {F G : List Vec} {b c : Nat → Int} {o o' : Option Vec} {B B' : List Vec} (h : SolF n F b X o B) (k : SolF n G c Y o' B') : covB o' B' o B = true ↔ ∀ g, (∀ i, n ≤ i → g i = 0) → Solves F b g → Solves G c g := by
  cases o with
  | none => exact ⟨fun _ g z s => absurd s ((h.no rfl).2 g z), fun _ => rfl⟩
  | some p =>
    obtain ⟨lp, sp, _⟩ := h.yes p rfl
    cases o' with
    | none => exact ⟨fun z => (nomatch z), fun z => absurd (z _ (zo lp) sp) ((k.no rfl).2 _ (zo lp))⟩
    | some q =>
      rw [← sub_iff (Y := Y) h]
      show (decide (redV B' p = q) && (B.map fun r => decide (piv (redV B' r) = (redV B' r).length)).all id) = true ↔ _
      rw [Bool.and_eq_true, decide_eq_true_iff, k.mem lp, all_iff]
      refine and_congr_right fun _ => forall_congr' fun r => ?_
      constructor
      · intro z hr
        exact (mem_zero k (h.ech.row r hr).1).mp (of_decide_eq_true (z hr))
      · intro z hr
        exact decide_eq_true ((mem_zero k (h.ech.row r hr).1).mpr (z hr))
theorem with_iff {n X Y : Nat} {F G : List Vec} {b c : Nat → Int} {o o' : Option Vec} {B B' : List Vec} (h : SolF n F b X o B) (k : SolF n G c Y o' B') : withB o B o' B' = true ↔ ∀ g, (∀ i, n ≤ i → g i = 0) → Solves F b g → Solves G c g := by
  cases o with
  | none => exact ⟨fun _ g z s => absurd s ((h.no rfl).2 g z), fun _ => rfl⟩
  | some p =>
    obtain ⟨lp, sp, _⟩ := h.yes p rfl
    have lr : ∀ r ∈ B, r.length = n := fun r hr => (h.ech.row r hr).1
    have la : ∀ r ∈ B, (addV p 1 r).length = n := fun r hr => (addV_len (lp.trans (lr r hr).symm)).trans lp
    have ia : ∀ r ∈ B, itm (addV p 1 r) = fun i => itm p i + itm r i := fun r hr => funext fun i => by rw [itm_add (lp.trans (lr r hr).symm)]; omega
    rw [← sub_iff (Y := Y) h]
    show decide ((somP p B).filter (fun v => !memb o' B' v) = []) = true ↔ _
    rw [decide_eq_true_iff, List.filter_eq_nil_iff]
    have e : (∀ v ∈ somP p B, ¬ (!memb o' B' v) = true) ↔ Solves G c (itm p) ∧ ∀ r ∈ B, Solves G c (itm (addV p 1 r)) := by
      constructor
      · intro z
        have z' : ∀ v ∈ somP p B, memb o' B' v = true := fun v hv => by have := z v hv; cases hm : memb o' B' v with | true => rfl | false => rw [hm] at this; exact absurd rfl this
        exact ⟨(memb_iff k lp).mp (z' p List.mem_cons_self), fun r hr => (memb_iff k (la r hr)).mp (z' _ (List.mem_cons_of_mem _ (List.mem_map.mpr ⟨r, hr, rfl⟩)))⟩
      · rintro ⟨z1, z2⟩ v hv
        have : memb o' B' v = true := by
          rcases List.mem_cons.mp hv with e | e
          · rw [e]; exact (memb_iff k lp).mpr z1
          · obtain ⟨r, hr, rfl⟩ := List.mem_map.mp e
            exact (memb_iff k (la r hr)).mpr (z2 r hr)
        rw [this]; decide
    rw [e]
    refine and_congr_right fun a1 => forall_congr' fun r => forall_congr' fun hr => ?_
    rw [ia r hr]
    constructor
    · intro s j hj
      have q := s j hj
      rw [dot_plus, a1 j hj] at q
      show dotF (rowAt G j) (itm r) = 0
      omega
    · intro s j hj
      rw [dot_plus, a1 j hj]
      have : dotF (rowAt G j) (itm r) = 0 := s j hj
      omega
theorem with_cv {n : Nat} {F G : List Vec} {b c : Vec} (h : Al n F b) (k : Al n G c) : withB (solO F n b) (solB F n b) (solO G n c) (solB G n c) = cv n F b G c := by
  rw [Bool.eq_iff_iff, with_iff h.sol k.sol]
  exact (cov_iff h.sol k.sol).symm
theorem eq_cv {n : Nat} {F G : List Vec} {b c : Vec} (h : Al n F b) (k : Al n G c) : (decide (solO F n b = solO G n c) && decide (solB F n b = solB G n c)) = (cv n F b G c && cv n G c F b) := by
  rw [Bool.eq_iff_iff, Bool.and_eq_true, Bool.and_eq_true, decide_eq_true_iff, decide_eq_true_iff]
  have c1 : cv n F b G c = true ↔ _ := cov_iff h.sol k.sol
  have c2 : cv n G c F b = true ↔ _ := cov_iff k.sol h.sol
  rw [c1, c2]
  constructor
  · rintro ⟨e1, e2⟩
    refine ⟨fun g z s => ?_, fun g z s => ?_⟩
    · cases ho : solO F n b with
      | none => exact absurd s ((h.sol.no ho).2 g z)
      | some p =>
        have h' := h.sol; rw [ho] at h'
        have k' := k.sol; rw [← e1, ← e2, ho] at k'
        obtain ⟨lp, sp, _⟩ := h'.yes p rfl
        obtain ⟨_, sq, _⟩ := k'.yes p rfl
        exact (sub_iff (Y := 939) h').mp ⟨sq, fun r hr => ((k'.ker p rfl _).mp (In.mem _ _ hr)).2⟩ g z s
    · cases ho : solO F n b with
      | none => exact absurd s ((k.sol.no (e1 ▸ ho)).2 g z)
      | some p =>
        have h' := h.sol; rw [ho] at h'
        have k' := k.sol; rw [← e1, ← e2, ho] at k'
        obtain ⟨lp, sp, _⟩ := h'.yes p rfl
        exact (sub_iff (Y := 939) k').mp ⟨sp, fun r hr => ((h'.ker p rfl _).mp (In.mem _ _ hr)).2⟩ g z s
  · rintro ⟨z1, z2⟩
    exact h.sol.one k.sol fun g z => ⟨z1 g z, z2 g z⟩
theorem memb_app {n : Nat} {F G : List Vec} {b c : Vec} (h : Al n F b) (k : Al n G c) (m : Al n (F ++ G) (b ++ c)) {v : Vec} (l : v.length = n) : memb (solO (F ++ G) n (b ++ c)) (solB (F ++ G) n (b ++ c)) v = (memb (solO F n b) (solB F n b) v && memb (solO G n c) (solB G n c) v) := by
  rw [Bool.eq_iff_iff, Bool.and_eq_true, memb_iff m.sol l, memb_iff h.sol l, memb_iff k.sol l]
  exact solves_app h.lb _
theorem met_al {n : Nat} {F G : List Vec} {b c : Vec} (h : Al n F b) (k : Al n G c) (m : Al n (F ++ G) (b ++ c)) {p q : Vec} (e1 : solO F n b = some p) (e2 : solO G n c = some q) : OkAnd n p (solB F n b) q (solB G n c) ∧ andO n (some p) (solB F n b) (some q) (solB G n c) = solO (F ++ G) n (b ++ c) ∧ andB n (some p) (solB F n b) (some q) (solB G n c) = solB (F ++ G) n (b ++ c) := by
  have hs := h.sol; rw [e1] at hs
  have ks := k.sol; rw [e2] at ks
  obtain ⟨mt, ms⟩ := meets h.n4 h.lb hs ks (h.pt p e1) (k.pt q e2)
  obtain ⟨e3, e4⟩ := ms.one m.sol fun g _ => Iff.rfl
  have n4 := h.n4
  have c1 := h.cnt
  have c2 := k.cnt
  have c3 := m.cnt
  have cs : grows [] (mFr (solB F n b) (solB G n c) p q n) = mFr (solB F n b) (solB G n c) p q n := canon_same mt.ech mt.hn
  have n1' : ((-1 : Int)).natAbs ≤ 2 ^ 0 := by decide
  have n1'' : ((1 : Int)).natAbs ≤ 2 ^ 0 := by decide
  have lp := (hs.yes p rfl).1
  refine ⟨⟨h.n1, by omega, by omega, mt.okG, mt.okR, mt.cnt, fun m hm => ?_, fun v hv => ⟨(mt.pt v hv).1, fun m hm => ?_⟩, by rw [e4]; exact m.okB, by rw [e4]; omega, fun v hv => ?_⟩, e3, ?_⟩
  · obtain ⟨i, rfl⟩ := mem_itm hm
    exact mul_ok (α := 0) (β := 24579) n1' (h.pt p e1 i) (by decide)
  · obtain ⟨i, rfl⟩ := mem_itm hm
    exact mul_ok (α := 0) (β := 197700) n1'' ((mt.pt v hv).2 i) (by decide)
  · rw [cs, e4]
    obtain ⟨lv, sv⟩ := mt.pt v hv
    have lpv : p.length = v.length := lp.trans lv.symm
    refine m.red _ ((addV_len lpv).trans lp) fun i => ?_
    rw [itm_add lpv]
    have a := h.pt p e1 i
    have b := sv i
    have e : (2 : Nat) ^ 24579 ≤ 2 ^ 197700 := Nat.pow_le_pow_right (by decide) (by decide)
    have e' : (2 : Nat) ^ 197700 * 2 ≤ 2 ^ 200000 := by
      rw [← Nat.pow_succ]; exact Nat.pow_le_pow_right (by decide) (by decide)
    have := Int.natAbs_add_le (itm p i) (1 * itm v i)
    rw [Int.one_mul] at this ⊢
    omega
  · have hb : andB n (some p) (solB F n b) (some q) (solB G n c) = (mPt (solB F n b) (solB G n c) p q n).elim [] fun _ => grows [] (mFr (solB F n b) (solB G n c) p q n) := rfl
    rw [hb]
    cases hm : mPt (solB F n b) (solB G n c) p q n with
    | none =>
      have hF : mFr (solB F n b) (solB G n c) p q n = [] := by
        unfold mPt srcPt at hm
        unfold mFr srcFr
        split at hm
        · rename_i h; rw [if_pos h]
        · cases hm
      rw [← e4, hF]; rfl
    | some v => show grows [] _ = _; rw [cs, e4]
/-- what both have -/
theorem and_al {n : Nat} {F G : List Vec} {b c : Vec} (h : Al n F b) (k : Al n G c) (m : Al n (F ++ G) (b ++ c)) : (∀ p q, solO F n b = some p → solO G n c = some q → OkAnd n p (solB F n b) q (solB G n c)) ∧ andO n (solO F n b) (solB F n b) (solO G n c) (solB G n c) = solO (F ++ G) n (b ++ c) ∧ andB n (solO F n b) (solB F n b) (solO G n c) (solB G n c) = solB (F ++ G) n (b ++ c) := by
  refine ⟨fun p q e1 e2 => (met_al h k m e1 e2).1, ?_⟩
  have none2 : (∀ g, (∀ i, n ≤ i → g i = 0) → ¬ Solves (F ++ G) (itm (b ++ c)) g) → none = solO (F ++ G) n (b ++ c) ∧ ([] : List Vec) = solB (F ++ G) n (b ++ c) := fun z => by
    cases hm : solO (F ++ G) n (b ++ c) with
    | none => exact ⟨rfl, (m.sol.no hm).1.symm⟩
    | some r =>
      obtain ⟨lr, sr, _⟩ := m.sol.yes r hm
      exact absurd sr (z _ (zo lr))
  cases ho : solO F n b with
  | none =>
    have e : andO n none (solB F n b) (solO G n c) (solB G n c) = none ∧ andB n none (solB F n b) (solO G n c) (solB G n c) = [] := by cases solO G n c <;> exact ⟨rfl, rfl⟩
    rw [e.1, e.2]
    exact none2 fun g z s => (h.sol.no ho).2 g z ((solves_app h.lb g).mp s).1
  | some p =>
    cases ho' : solO G n c with
    | none =>
      show none = _ ∧ [] = _
      exact none2 fun g z s => (k.sol.no ho').2 g z ((solves_app h.lb g).mp s).2
    | some q => exact (met_al h k m ho ho').2
theorem twice_al {n : Nat} {F : List Vec} {b : Vec} (h : Al n F b) (m : Al n (F ++ F) (b ++ b)) : solO (F ++ F) n (b ++ b) = solO F n b ∧ solB (F ++ F) n (b ++ b) = solB F n b :=
  m.sol.one h.sol fun g _ => by rw [solves_app h.lb]; exact and_self_iff
end K06

namespace K06
open PySem L2 RZ Lat
theorem within_pow {B : Int} {v : Vec} {k : Nat} (h : Within B v) (hB : B ≤ 1000000000000) (hk : 40 ≤ k) : ∀ i, (itm v i).natAbs ≤ 2 ^ k := fun i => by
  refine Nat.le_trans ?_ (Nat.pow_le_pow_right (by decide) hk)
  have e : (2 : Nat) ^ 40 = 1099511627776 := by decide
  rw [e]
  by_cases hi : i < v.length
  · have := h _ (List.mem_of_getElem? (itm_of hi))
    omega
  · rw [itm_out (by omega)]; exact Nat.zero_le _
theorem within_30 {B : Int} {v : Vec} (h : Within B v) (hB : B ≤ 1000000000) : ∀ i, (itm v i).natAbs ≤ 2 ^ 30 := fun i => by
  have e : (2 : Nat) ^ 30 = 1073741824 := by decide
  rw [e]
  by_cases hi : i < v.length
  · have := h _ (List.mem_of_getElem? (itm_of hi))
    omega
  · rw [itm_out (by omega)]; exact Nat.zero_le _
/-- the set of some forms, as it stands -/
def FF (D : Addr) (H : Hp) (x : Addr) (n : Nat) (F : List Vec) (b : Vec) : Prop := FacAt D H x n (solO F n b) (solB F n b) ∧ Al n F b
theorem FF.keep {D : Addr} {H H' : Hp} {x : Addr} {n : Nat} {F : List Vec} {b : Vec} (s : Same H H') (h : FF D H x n F b) : FF D H' x n F b := ⟨h.1.keep s, h.2⟩
section
variable {D M x y : Addr} {H : Hp} {n : Nat} {F G : List Vec} {b c : Vec} {Q : VK} {E : XK}
theorem and_step (hx : FF D H x n F b) (hy : FF D H y n G c) (m : Al n (F ++ G) (b ++ c)) (k : ∀ (H' : Hp) (p : Addr), Same H H' → FF D H' p n (F ++ G) (b ++ c) → Q (.ref p) H') : rAndO D (spAnd D M) E (.ref x) (.ref y) H Q := by
  obtain ⟨dx, fs, ox⟩ := hx.1.ins
  obtain ⟨dy, gs, oy⟩ := hy.1.ins
  obtain ⟨a1, a2, a3⟩ := and_al hx.2 hy.2 m
  refine ⟨x, dx, fs, y, dy, gs, rfl, ox, rfl, oy, x, y, n, n, _, _, _, _, rfl, hx.1, hy.1, .inr ⟨rfl, m.n1, by have := m.n4; omega, a1, fun H' p s fac => ⟨p, rfl, k H' p s ⟨?_, m⟩⟩⟩⟩
  rw [a2, a3] at fac
  exact fac
theorem red_of (h : Al n F b) (k : Al n G c) : (∀ r ∈ solB F n b, OkRed (solB G n c) r) ∧ ∀ q, solO F n b = some q → OkRed (solB G n c) q :=
  ⟨fun r hr => k.red r (h.sol.ech.row r hr).1 fun i => Nat.le_trans (h.sol.siz r hr i) (Nat.pow_le_pow_right (by decide) (by decide)), fun q hq => k.red q (h.sol.yes q hq).1 fun i => Nat.le_trans (h.pt q hq i) (Nat.pow_le_pow_right (by decide) (by decide))⟩
theorem fne : ∀ c : Bool, (false != c) = c := by decide
theorem le_step (hx : FF D H x n F b) (hy : FF D H y n G c) (k : ∀ H', Same H H' → Q (.bl (cv n F b G c)) H') : rCmpO D (spLeF D M) E false (.ref x) (.ref y) H Q := by
  obtain ⟨dx, fs, ox⟩ := hx.1.ins
  obtain ⟨dy, gs, oy⟩ := hy.1.ins
  obtain ⟨r1, r2⟩ := red_of hx.2 hy.2
  refine ⟨x, dx, fs, y, dy, gs, rfl, ox, rfl, oy, x, y, n, n, _, _, _, _, rfl, hx.1, hy.1, .inr ⟨rfl, by have := hx.2.n4; omega, by have := hx.2.cnt; have := hx.2.n4; omega, r1, r2, fun H' s => ⟨_, rfl, ?_⟩⟩⟩
  rw [fne]
  exact k H' s
theorem eq_step {m : Nat} {o o' : Option Vec} {B B' : List Vec} (hx : FacAt D H x n o B) (hy : FacAt D H y m o' B') (k : Q (.bl (decide (n = m) && (decide (o = o') && decide (B = B')))) H) : rCmpO D (spEqF D) E false (.ref x) (.ref y) H Q := by
  obtain ⟨dx, fs, ox⟩ := hx.ins
  obtain ⟨dy, gs, oy⟩ := hy.ins
  refine ⟨x, dx, fs, y, dy, gs, rfl, ox, rfl, oy, .inl ⟨x, y, n, m, _, _, _, _, rfl, hx, hy, _, rfl, ?_⟩⟩
  rw [fne]
  exact k
theorem ne_step {m : Nat} {o o' : Option Vec} {B B' : List Vec} (hx : FacAt D H x n o B) (hy : FacAt D H y m o' B') (k : Q (.bl (!(decide (n = m) && (decide (o = o') && decide (B = B'))))) H) : rCmpO D (spEqF D) E true (.ref x) (.ref y) H Q := by
  obtain ⟨dx, fs, ox⟩ := hx.ins
  obtain ⟨dy, gs, oy⟩ := hy.ins
  refine ⟨x, dx, fs, y, dy, gs, rfl, ox, rfl, oy, .inl ⟨x, y, n, m, _, _, _, _, rfl, hx, hy, _, rfl, ?_⟩⟩
  have tne : ∀ c : Bool, (true != c) = !c := by decide
  rw [tne]
  exact k
theorem eq_cv_step (hx : FF D H x n F b) (hy : FF D H y n G c) (k : Q (.bl (cv n F b G c && cv n G c F b)) H) : rCmpO D (spEqF D) E false (.ref x) (.ref y) H Q := eq_step hx.1 hy.1 (by
  rw [decide_eq_true rfl, Bool.true_and, eq_cv hx.2 hy.2]; exact k)
theorem ne_same {o : Option Vec} {B : List Vec} (hx : FacAt D H x n o B) (hy : FacAt D H y n o B) (k : Q (.bl false) H) : rCmpO D (spEqF D) E true (.ref x) (.ref y) H Q := ne_step hx hy (by
  rw [decide_eq_true rfl, decide_eq_true rfl, decide_eq_true rfl]; exact k)
end
end K06

namespace K06
open PySem L2 RZ Lat
/-! ## the vectors alone, of whole systems -/
theorem solves_cons {f : Vec} {x : Int} {F : List Vec} {b : Vec} (l : b.length = F.length) (g : Nat → Int) : Solves (f :: F) (itm (x :: b)) g ↔ Solves [f] (itm [x]) g ∧ Solves F (itm b) g :=
  solves_app (F := [f]) (G := F) (b := [x]) (c := b) rfl g
theorem solves_one {f : Vec} {x : Int} (g : Nat → Int) : Solves [f] (itm [x]) g ↔ dotF f g = x := by
  constructor
  · intro h; exact h 0 Nat.zero_lt_one
  · intro h j hj
    have : j = 0 := by simpa using hj
    subst this; exact h
theorem solves_rev (g : Nat → Int) : ∀ (F : List Vec) (b : Vec), b.length = F.length → (Solves F.reverse (itm b.reverse) g ↔ Solves F (itm b) g)
  | [], [], _ => Iff.rfl
  | f :: F, x :: b, l => by
    have l' : b.length = F.length := Nat.succ.inj l
    rw [List.reverse_cons, List.reverse_cons, solves_app (by rw [List.length_reverse, List.length_reverse]; exact l'), solves_rev g F b l', solves_cons l']
    exact and_comm
theorem dotF_addV : ∀ (v u : Vec) (t : Int) (g : Nat → Int), v.length = u.length → dotF (addV v t u) g = dotF v g + t * dotF u g
  | [], [], t, g, _ => by show (0 : Int) = 0 + t * 0; omega
  | x :: v, y :: u, t, g, l => by
    have ih := dotF_addV v u t (fun i => g (i + 1)) (Nat.succ.inj l)
    show (x + t * y) * g 0 + dotF (addV v t u) (fun i => g (i + 1)) = (x * g 0 + dotF v fun i => g (i + 1)) + t * (y * g 0 + dotF u fun i => g (i + 1))
    rw [ih]; grind
theorem dotF_mul (m : Int) : ∀ (v : Vec) (g : Nat → Int), dotF (v.map (m * ·)) g = m * dotF v g
  | [], _ => by show (0 : Int) = m * 0; omega
  | x :: v, g => by
    have ih := dotF_mul m v (fun i => g (i + 1))
    show m * x * g 0 + dotF (v.map (m * ·)) (fun i => g (i + 1)) = m * (x * g 0 + dotF v fun i => g (i + 1))
    rw [ih]; grind
theorem dotF_snoc (x : Int) : ∀ (v : Vec) (g : Nat → Int), dotF (v ++ [x]) g = dotF v g + x * g v.length
  | [], g => by show x * g 0 + 0 = 0 + x * g 0; omega
  | y :: v, g => by
    have ih := dotF_snoc x v (fun i => g (i + 1))
    show y * g 0 + dotF (v ++ [x]) (fun i => g (i + 1)) = (y * g 0 + dotF v fun i => g (i + 1)) + x * g (v.length + 1)
    rw [ih]; omega
theorem itm_snoc_at (p : Vec) (y : Int) : itm (p ++ [y]) p.length = y := by
  rw [itm_app]; split
  · omega
  · rw [Nat.sub_self]; rfl
theorem dotF_rev : ∀ (v p : Vec), v.length = p.length → dotF v.reverse (itm p.reverse) = dotF v (itm p)
  | [], [], _ => rfl
  | x :: v, y :: p, l => by
    have l' : v.length = p.length := Nat.succ.inj l
    rw [List.reverse_cons, List.reverse_cons, dotF_snoc]
    have e1 : dotF v.reverse (itm (p.reverse ++ [y])) = dotF v.reverse (itm p.reverse) := dotF_congr fun i hi => by
      rw [List.length_reverse] at hi
      rw [itm_app]; split
      · rfl
      · rename_i h; rw [List.length_reverse] at h; omega
    have e2 : itm (p.reverse ++ [y]) v.reverse.length = y := by
      rw [List.length_reverse, l', ← List.length_reverse (as := p)]; exact itm_snoc_at _ _
    rw [e1, e2, dotF_rev v p l']
    show _ = x * itm (y :: p) 0 + dotF v fun i => itm (y :: p) (i + 1)
    show dotF v (itm p) + x * y = x * y + dotF v (itm p)
    omega
theorem rowAt_mem {F : List Vec} {j : Nat} (h : j < F.length) : rowAt F j ∈ F := by
  unfold rowAt
  rw [List.getD_eq_getElem?_getD, List.getElem?_eq_getElem h]
  exact List.getElem_mem h
theorem rowAt_map {F : List Vec} {j : Nat} (h : j < F.length) (φ : Vec → Vec) : rowAt (F.map φ) j = φ (rowAt F j) := by
  unfold rowAt
  rw [List.getD_eq_getElem?_getD, List.getD_eq_getElem?_getD, List.getElem?_map, List.getElem?_eq_getElem h]; rfl
theorem solves_turn {n : Nat} {F : List Vec} {b : Nat → Int} {p : Vec} (lF : ∀ r ∈ F, r.length = n) (lp : p.length = n) : Solves (F.map List.reverse) b (itm p.reverse) ↔ Solves F b (itm p) := by
  have e : ∀ j, j < F.length → dotF (rowAt (F.map List.reverse) j) (itm p.reverse) = dotF (rowAt F j) (itm p) := fun j hj => by
    rw [rowAt_map hj]; exact dotF_rev _ _ ((lF _ (rowAt_mem hj)).trans lp.symm)
  constructor
  · intro h j hj; rw [← e j hj]; exact h j (by rw [List.length_map]; exact hj)
  · intro h j hj
    rw [List.length_map] at hj
    rw [e j hj]; exact h j hj
theorem map_rev_rev (F : List Vec) : (F.map List.reverse).map List.reverse = F := by
  rw [List.map_map]
  have : (List.reverse ∘ List.reverse : Vec → Vec) = id := funext fun v => List.reverse_reverse v
  rw [this, List.map_id]
/-- two sets with the same solutions are one -/
theorem Al.same {n : Nat} {F G : List Vec} {b c : Vec} (h : Al n F b) (k : Al n G c) (e : ∀ g, (∀ i, n ≤ i → g i = 0) → (Solves F (itm b) g ↔ Solves G (itm c) g)) : solO F n b = solO G n c ∧ solB F n b = solB G n c := h.sol.one k.sol e
theorem Al.rev {n : Nat} {F : List Vec} {b : Vec} (h : Al n F b) (k : Al n F.reverse b.reverse) : solO F.reverse n b.reverse = solO F n b ∧ solB F.reverse n b.reverse = solB F n b :=
  k.same h fun g _ => solves_rev g F b h.lb
/-- a sum of two forms behind -/
theorem Al.more {n a c : Nat} {F : List Vec} {b : Vec} {t : Int} (h : Al n F b) (ha : a < F.length) (hc : c < F.length) (lF : ∀ r ∈ F, r.length = n) (k : Al n (F ++ [addV (rowAt F a) t (rowAt F c)]) (b ++ [itm b a + t * itm b c])) : solO (F ++ [addV (rowAt F a) t (rowAt F c)]) n (b ++ [itm b a + t * itm b c]) = solO F n b ∧ solB (F ++ [addV (rowAt F a) t (rowAt F c)]) n (b ++ [itm b a + t * itm b c]) = solB F n b :=
  k.same h fun g _ => by
    rw [solves_app h.lb, solves_one]
    have l : (rowAt F a).length = (rowAt F c).length := (lF _ (rowAt_mem ha)).trans (lF _ (rowAt_mem hc)).symm
    refine ⟨fun z => z.1, fun z => ⟨z, ?_⟩⟩
    rw [dotF_addV _ _ _ _ l, z a ha, z c hc]
/-- a contrary one behind -/
theorem Al.contra {n a c : Nat} {F : List Vec} {b : Vec} {t : Int} (h : Al n F b) (ha : a < F.length) (hc : c < F.length) (lF : ∀ r ∈ F, r.length = n) (k : Al n (F ++ [addV (rowAt F a) t (rowAt F c)]) (b ++ [itm b a + t * itm b c + 1])) : solO (F ++ [addV (rowAt F a) t (rowAt F c)]) n (b ++ [itm b a + t * itm b c + 1]) = none := by
  cases ho : solO (F ++ [addV (rowAt F a) t (rowAt F c)]) n (b ++ [itm b a + t * itm b c + 1]) with
  | none => rfl
  | some p =>
    obtain ⟨lp, sp, _⟩ := k.sol.yes p ho
    rw [solves_app h.lb, solves_one] at sp
    have l : (rowAt F a).length = (rowAt F c).length := (lF _ (rowAt_mem ha)).trans (lF _ (rowAt_mem hc)).symm
    have e := sp.2
    rw [dotF_addV _ _ _ _ l, sp.1 a ha, sp.1 c hc] at e
    omega
/-- one form multiplied -/
theorem solves_mul {f : Vec} {x m : Int} (hm : 0 < m) (g : Nat → Int) : Solves [f.map (m * ·)] (itm [m * x]) g ↔ Solves [f] (itm [x]) g := by
  rw [solves_one, solves_one, dotF_mul]
  constructor
  · intro e; exact Int.eq_of_mul_eq_mul_left (by omega) e
  · intro e; rw [e]
/-- turned about -/
theorem Al.turned {n : Nat} {F : List Vec} {b : Vec} (h : Al n F b) (lF : ∀ r ∈ F, r.length = n) (k : Al n (F.map List.reverse) b) : (solO (F.map List.reverse) n b).isSome = (solO F n b).isSome ∧ ∀ p, solO F n b = some p → memb (solO (F.map List.reverse) n b) (solB (F.map List.reverse) n b) p.reverse = true := by
  have key : ∀ p, solO F n b = some p → memb (solO (F.map List.reverse) n b) (solB (F.map List.reverse) n b) p.reverse = true := fun p hp => by
    obtain ⟨lp, sp, _⟩ := h.sol.yes p hp
    exact (memb_iff k.sol (by rw [List.length_reverse]; exact lp)).mpr ((solves_turn lF lp).mpr sp)
  refine ⟨?_, key⟩
  cases ho : solO F n b with
  | some p =>
    have := key p ho
    cases hk : solO (F.map List.reverse) n b with
    | some q => rfl
    | none => rw [hk] at this; cases this
  | none =>
    cases hk : solO (F.map List.reverse) n b with
    | none => rfl
    | some q =>
      obtain ⟨lq, sq, _⟩ := k.sol.yes q hk
      have lF' : ∀ r ∈ F.map List.reverse, r.length = n := fun r hr => by
        obtain ⟨r0, h0, rfl⟩ := List.mem_map.mp hr
        rw [List.length_reverse]; exact lF _ h0
      have s2 := (solves_turn (b := itm b) lF' lq).mpr sq
      rw [map_rev_rev] at s2
      exact absurd s2 ((h.sol.no ho).2 _ (zo (by rw [List.length_reverse]; exact lq)))
/-- right sides 0 -/
theorem Al.nought {n m : Nat} {F : List Vec} {b : Vec} (h : Al n F b) (k : Al n F (zer m)) : solO F n (zer m) = some (List.replicate n 0) ∧ ∀ p, solO F n b = some p → solB F n (zer m) = solB F n b := by
  have z0 : (fun _ => (0 : Int)) = itm (zer m) := funext fun i => (itm_zer ..).symm
  cases ho : solO F n (zer m) with
  | none => exact absurd (fun j _ => by rw [dotF_zero, ← z0]) ((k.sol.no ho).2 (fun _ => 0) fun _ _ => rfl)
  | some q =>
    obtain ⟨lq, sq, rq⟩ := k.sol.yes q ho
    rw [← z0] at sq
    have kq := (k.sol.ker q ho (itm q)).mpr ⟨zo lq, sq⟩
    have lB : ∀ r ∈ solB F n (zer m), r.length = q.length := fun r hr => (k.sol.ech.row r hr).1.trans lq.symm
    have e := red_zero k.sol.ech lq kq
    rw [rq] at e
    refine ⟨congrArg some (rep_of_zero9 lq e), fun p hp => ?_⟩
    exact hn_one k.sol.ech h.sol.ech k.sol.hn h.sol.hn (fun r hr => (h.sol.ker p hp _).mpr ((k.sol.ker q ho _).mp (In.mem _ _ hr))) fun r hr => (k.sol.ker q ho _).mpr ((h.sol.ker p hp _).mp (In.mem _ _ hr))
/-- all vectors: no forms -/
theorem every_sol {n : Nat} (n1 : 1 ≤ n) (n4 : n ≤ 4) : some (redV (grows [] (unitRows n)) (zer n)) = solO [] n [] ∧ grows [] (unitRows n) = solB [] n [] := by
  have : n = 1 ∨ n = 2 ∨ n = 3 ∨ n = 4 := by omega
  rcases this with e | e | e | e <;> subst e <;> decide +kernel
theorem Al.again {n : Nat} {F : List Vec} {b p : Vec} (h : Al n F b) (hp : solO F n b = some p) : grows [] (solB F n b) = solB F n b ∧ redV (solB F n b) p = p :=
  ⟨canon_same h.sol.ech h.sol.hn, (h.sol.yes p hp).2.2⟩
theorem fit74 : Fit 7 4 := by decide +kernel
/-- numbers of the point and of the basis, of small systems -/
theorem Al.small {n : Nat} {F : List Vec} {b : Vec} (h : Al n F b) (lF : ∀ r ∈ F, r.length = n) (hF : ∀ r ∈ F, ∀ i, (itm r i).natAbs ≤ 2 ^ 7) (hb : ∀ i, (itm b i).natAbs ≤ 2 ^ 48) : (∀ v ∈ solB F n b, ∀ i, (itm v i).natAbs ≤ 2 ^ 1800) ∧ ∀ p, solO F n b = some p → ∀ i, (itm p i).natAbs ≤ 2 ^ 1800 := by
  have n4 := h.n4
  refine ⟨fun v hv i => Nat.le_trans (h.sol.siz v hv i) (Nat.pow_le_pow_right (by decide) (by decide)), fun p hp => ?_⟩
  have src : Srcd n F b 227 232 (fPt F n b) (fFr F n b) := sourced fit74 n4 lF hF h.lb (by decide) (by decide) hb
  have cs : grows [] (fFr F n b) = fFr F n b := canon_same src.ech src.hn
  have cf : (fFr F n b).length ≤ n := by have := src.ech.count (Nat.zero_le _); omega
  have e : solO F n b = (fPt F n b).map (redV (fFr F n b)) := by unfold solO; rw [cs]
  rw [e] at hp
  cases hq : fPt F n b with
  | none => rw [hq] at hp; cases hp
  | some q =>
    rw [hq] at hp
    cases hp
    obtain ⟨lq, sq⟩ := src.pt q hq
    have := (redV_size (n := n) (π := 227) (β := 227) (ξ := 232) (by decide) src.ech lq (fun s hs => src.siz s hs _) src.siz sq (by
      have := Nat.mul_le_mul_right (227 + 1) (Nat.le_trans cf n4)
      omega)).2
    intro i
    refine Nat.le_trans (this i) (Nat.pow_le_pow_right (by decide) ?_)
    have := Nat.mul_le_mul_right (227 + 1) (Nat.le_trans cf n4)
    omega
end K06

namespace L2
open PySem PySem.Spec PyProof.Rows
section
variable {X : Cx} {CX : CXT} {k : Nat} {C g : Addr} {fd : FuncData} {ps : List Str} {sp : Sp} {E : XK}
/-- str(x), x an instance with its own __str__ -/
theorem call_strO (F : FnOk X.prog X.w X.K X.mg X.base CX k g fd ps sp) (hs : PySem.W.findIn X.K (.ref C) "__str__" = some (some (.ref g))) (hf : PySem.W.isFn X.K (.ref g) = true) (hr : Room (k + 2) X.A) (hb : Binds X.K fd ps []) (hx : Passes CX X E) :
    CallR X (.type "str") (fun xs H Q => ∃ a dx fs, xs = [.ref a] ∧ H a = some (.ins C dx fs) ∧ sp [.ref a] H (fun r H' => ∃ z, r = .str z ∧ Q (.str z) H') E) := by
  intro pins s σ H xs us Q I r h
  obtain ⟨a, dx, fs, rfl, ha, q⟩ := h
  obtain rfl := Vals.ref1 r
  obtain ⟨mA, J, _⟩ := ins_get I.hok ha
  obtain ⟨od, J, _⟩ := J.look
  have h2 : Room k X.A.in1.in1 := hr.in1.in1
  refine PySem.W.kso_call (by have := h2.units; omega) I.kIn J hs hf ?_
  refine run_own1 F h2 rfl hb hx I (show Vals [V.ref a] [Value.ref a] from .cons rfl .nil) q fun w z s' H' I' rz qz => ?_
  obtain ⟨y, rfl, qy⟩ := qz
  obtain ⟨t, rfl⟩ := rz
  exact ⟨.str y, H', I', ⟨t, rfl⟩, qy⟩
end
theorem join_len (sep : Str) (l : List Str) : (PySem.Txt.join sep l).length ≤ (l.map (·.length)).sum + l.length * sep.length := by
  rw [show PySem.Txt.join sep l = PySem.Str.join sep l from PySem.StrLaws.glued_eq_join sep l]
  cases l with
  | nil => exact Nat.zero_le _
  | cons a r =>
    rw [len_join_cons, List.length_cons, Nat.add_mul]
    omega
/-- a number as a text -/
def iS (i : Int) : Str := Str.ofString (toString i)
theorem iS_len {i : Int} (h : i.natAbs.log2 < 1920) : (iS i).length ≤ 1921 := by
  have q := int_text_length_le (a := i) (k := 1920) (by decide) h
  unfold iS
  rw [PySem.ofString_length]; exact q
theorem iSs_len : ∀ {v : List Int}, (∀ i ∈ v, i.natAbs.log2 < 1920) → ((v.map iS).map (·.length)).sum ≤ 1921 * v.length
  | [], _ => Nat.le_refl _
  | i :: v, h => by
    have h1 := iS_len (h i List.mem_cons_self)
    have h2 := iSs_len (v := v) fun x hx => h x (List.mem_cons_of_mem _ hx)
    simp only [List.map_cons, List.sum_cons, List.length_cons]
    omega
/-- a vector as a text -/
def wS (v : List Int) : Str := PySem.Txt.join (Str.ofString " ") (v.map iS)
theorem wS_len {v : List Int} (h : ∀ i ∈ v, i.natAbs.log2 < 1920) : (wS v).length ≤ 1922 * v.length := by
  have h1 := iSs_len h
  have h2 := join_len (Str.ofString " ") (v.map iS)
  rw [List.length_map, show (Str.ofString " ").length = 1 by decide +kernel] at h2
  unfold wS; omega
theorem wSs_len : ∀ {B : List (List Int)} {n : Nat}, (∀ v ∈ B, v.length = n ∧ ∀ i ∈ v, i.natAbs.log2 < 1920) → ((B.map wS).map (·.length)).sum ≤ 1922 * n * B.length
  | [], _, _ => Nat.le_refl _
  | v :: B, n, h => by
    obtain ⟨l, h0⟩ := h v List.mem_cons_self
    have h1 := wS_len h0
    have h2 := wSs_len (B := B) (n := n) fun x hx => h x (List.mem_cons_of_mem _ hx)
    rw [l] at h1
    simp only [List.map_cons, List.sum_cons, List.length_cons, Nat.mul_add, Nat.mul_one]
    omega
end L2
namespace L2
open PySem PySem.Spec PyProof.Rows
theorem strOk_app (a b : Str) : PyData.strOk (a ++ b) = (PyData.strOk a && PyData.strOk b) := by
  show (a.cps ++ b.cps).all _ = _
  rw [Array.all_append]; rfl
theorem strOk_string (s : String) : PyData.strOk (Str.ofString s) = true := by
  rw [Str.ofString_eq_toList]
  show ((s.toList.map Char.toNat).toArray).all (fun n => decide (n < 0x110000)) = true
  rw [Array.all_eq_true']
  intro x hx
  rw [List.mem_toArray] at hx
  obtain ⟨c, _, rfl⟩ := List.mem_map.mp hx
  exact decide_eq_true (by
    have := c.valid
    have h2 : c.toNat = c.val.toNat := rfl
    rcases this with h | h
    · have : c.val.toNat < 0xD800 := h
      omega
    · have : c.val.toNat < 0x110000 := h.2
      omega)
theorem strOk_join {sep : Str} (hs : PyData.strOk sep = true) : ∀ {l : List Str}, (∀ x ∈ l, PyData.strOk x = true) → PyData.strOk (PySem.Txt.join sep l) = true := by
  have key : ∀ l : List Str, (∀ x ∈ l, PyData.strOk x = true) → PyData.strOk (PySem.Str.join sep l) = true := by
    intro l
    induction l with
    | nil =>
      intro _
      show PyData.strOk PySem.Str.empty = true
      decide +kernel
    | cons a r ih =>
      intro h
      cases r with
      | nil => exact h a List.mem_cons_self
      | cons b r =>
        show PyData.strOk (a ++ sep ++ PySem.Str.join sep (b :: r)) = true
        rw [strOk_app, strOk_app, h a List.mem_cons_self, hs, ih fun x hx => h x (List.mem_cons_of_mem _ hx)]; rfl
  intro l h
  rw [show PySem.Txt.join sep l = PySem.Str.join sep l from PySem.StrLaws.glued_eq_join sep l]
  exact key l h
theorem strOk_w (v : List Int) : PyData.strOk (wS v) = true := strOk_join (strOk_string _) fun x hx => by
  obtain ⟨i, _, rfl⟩ := List.mem_map.mp hx
  exact strOk_string _
theorem strs_shaped {l : List Str} (h : ∀ x ∈ l, PyData.strOk x = true) : SeqAt.shaped (.list (l.map PyData.str)) = true := by
  have h1 : ∀ l : List Str, (∀ x ∈ l, PyData.strOk x = true) → PyData.canLayAll0 (l.map PyData.str) = true ∧ PyData.depthAll (l.map PyData.str) = 0 := by
    intro l
    induction l with
    | nil => exact fun _ => ⟨rfl, rfl⟩
    | cons a r ih =>
      intro h
      obtain ⟨i1, i2⟩ := ih fun x hx => h x (List.mem_cons_of_mem _ hx)
      exact ⟨by simp only [List.map_cons, PyData.canLayAll0, PyData.canLay0, h a List.mem_cons_self, i1, Bool.and_self], by simp only [List.map_cons, PyData.depthAll, PyData.depth, i2]; rfl⟩
  obtain ⟨h2, h3⟩ := h1 l h
  show (PyData.canLay0 (.list (l.map PyData.str)) && decide (PyData.depth (.list (l.map PyData.str)) ≤ 64)) = true
  rw [Bool.and_eq_true]
  exact ⟨by simp only [PyData.canLay0]; exact h2, decide_eq_true (by simp only [PyData.depth, h3]; decide)⟩
theorem strs_dp {K : PySem.W.Frag} {H : Hp} : ∀ l : List Str, DpAll K H (l.map V.str) (l.map PyData.str)
  | [] => .nil
  | s :: l => .cons (.str s) (strs_dp l)
theorem strs_eqv (l : List Str) : PyData.eqv (.list (l.map PyData.str)) (.list []) = decide (l = []) := by
  cases l with
  | nil => decide +kernel
  | cons n v => simp [PyData.eqv, PyData.eqvAll]
end L2

namespace L2
open PySem PySem.Spec PyProof.Rows
namespace RD
open TL
theorem tl_nat (n : Nat) : tl (iS ((n : Nat) : Int)) = numL n := tl_num n
theorem tl_neg (n : Nat) : tl (iS (Int.negSucc n)) = 45 :: numL (n + 1) := by
  have e : (toString (Int.negSucc n) : String) = "-" ++ toString (((n + 1 : Nat)) : Int) := rfl
  have h : tl (iS (Int.negSucc n)) = (toString (Int.negSucc n) : String).toList.map Char.toNat := tl_ofString _
  rw [h, e, String.toList_append, List.map_append]
  have h2 : (toString (((n + 1 : Nat)) : Int) : String).toList.map Char.toNat = numL (n + 1) := by rw [← tl_ofString]; exact tl_num _
  rw [h2]; rfl
theorem numL_head : ∀ n : Nat, 0 < n → ∃ c r, numL n = c :: r ∧ 49 ≤ c ∧ c ≤ 57 := by
  intro n
  induction n using Nat.strongRecOn with
  | _ n ih =>
    intro hn
    by_cases h : n < 10
    · exact ⟨48 + n, [], numL_lt h, by omega, by omega⟩
    · obtain ⟨c, r, e, h1, h2⟩ := ih (n / 10) (by omega) (by omega)
      exact ⟨c, r ++ [48 + n % 10], by rw [numL_step (by omega), e]; rfl, h1, h2⟩
theorem starts_one (x y : Str) (c : Nat) (hy : tl y = [c]) : Txt.startswith x y = ((tl x).head? == some c) := by
  have ly : y.length = 1 := by rw [len_tl, hy]; rfl
  show (decide (0 + y.length ≤ x.length) && Builtin.Str.subAt x y 0) = _
  rw [PySem.StrLaws.subAt_eq, ly, show y.cps.toList = [c] from hy, List.drop_zero, len_tl, show x.cps.toList = tl x from rfl]
  generalize tl x = l
  cases l with
  | nil => rfl
  | cons a r =>
    show (decide (0 + 1 ≤ (a :: r).length) && ((a :: r).take 1 == [c])) = (some a == some c)
    rw [decide_eq_true (show 0 + 1 ≤ (a :: r).length by rw [List.length_cons]; omega), Bool.true_and]
    rw [Bool.eq_iff_iff, beq_iff_eq, beq_iff_eq]
    constructor
    · intro e; cases e; rfl
    · intro e; cases e; rfl
theorem cut_one (x y : Str) (c : Nat) (hx : tl x = c :: tl y) : cutS x (some 1) none = y := by
  apply ext_tl
  show ((x.cps.toList.drop (HT.sIx x.length 0 (some 1))).take (HT.sIx x.length x.length none - HT.sIx x.length 0 (some 1))) = _
  have lx : x.length = (tl y).length + 1 := by rw [len_tl, hx]; rfl
  have e1 : HT.sIx x.length 0 (some 1) = 1 := by
    rw [lx]
    show (min (1 : Int).toNat ((tl y).length + 1) : Nat) = 1
    show min 1 ((tl y).length + 1) = 1
    omega
  have e2 : HT.sIx x.length x.length none = x.length := rfl
  rw [e1, e2, show x.cps.toList = c :: tl y from hx, lx]
  show (tl y).take _ = _
  exact List.take_of_length_le (by omega)
theorem ascii_all {x : Str} (h : ∀ c ∈ tl x, c < 128) : Txt.isascii x = true := by
  show x.cps.all (fun c => decide (c < 128)) = true
  rw [← Array.all_toList, List.all_eq_true]
  exact fun c hc => decide_eq_true (h c hc)
theorem digit_all {x : Str} (hne : tl x ≠ []) (h : NumText.AllDigits (tl x)) : Txt.isdigit x = true := by
  show (decide (x.length > 0) && x.cps.all Unicode.isDigit) = true
  rw [decide_eq_true (by rw [len_tl]; exact List.length_pos_iff.mpr hne), Bool.true_and, ← Array.all_toList, List.all_eq_true]
  intro c hc
  have hd : ∀ c, c < 128 → 48 ≤ c → c ≤ 57 → Unicode.isDigit c = true := by decide +kernel
  obtain ⟨h1, h2⟩ := h c hc
  exact hd c (by omega) h1 h2
theorem free32 (i : Int) : 32 ∉ tl (iS i) := PyProof.Rows.int_text_free' 32 ⟨by decide, by decide⟩ i
theorem ne_plus (i : Int) : iS i ≠ "+" := fun e => by
  have := PyProof.Rows.int_text_free' 43 ⟨by decide, by decide⟩ i
  refine this ?_
  show 43 ∈ tl (iS i)
  rw [e]; decide +kernel
/-- the figures of a number -/
def figs (i : Int) : Str := iS ((i.natAbs : Nat) : Int)
theorem tl_figs (i : Int) : tl (figs i) = numL i.natAbs := tl_nat _
theorem figs_pos (n : Nat) : figs ((n : Nat) : Int) = iS ((n : Nat) : Int) := rfl
theorem minus (i : Int) : Txt.startswith (iS i) "-" = decide (i < 0) := by
  rw [starts_one _ _ 45 (by decide +kernel)]
  cases i with
  | ofNat n =>
    rw [show tl (iS (Int.ofNat n)) = numL n from tl_nat n, decide_eq_false (show ¬ Int.ofNat n < 0 from by simp)]
    have hd := numL_digits n
    cases h : numL n with
    | nil => exact absurd h (numL_ne n)
    | cons c r =>
      rw [h] at hd
      have := hd.head
      show (some c == some 45) = false
      exact beq_eq_false_iff_ne.mpr fun e => by injection e with e; omega
  | negSucc n =>
    rw [tl_neg, decide_eq_true (Int.negSucc_lt_zero n)]
    rfl
theorem cut_neg {i : Int} (h : i < 0) : cutS (iS i) (some 1) none = figs i := by
  cases i with
  | ofNat n => exact absurd h (by simp)
  | negSucc n => exact cut_one _ _ 45 (by rw [tl_neg, tl_figs]; rfl)
theorem figs_ascii (i : Int) : Txt.isascii (figs i) = true := ascii_all fun c hc => by
  rw [tl_figs] at hc
  have := numL_digits _ c hc
  omega
theorem figs_digit (i : Int) : Txt.isdigit (figs i) = true := digit_all (by rw [tl_figs]; exact numL_ne _) (by rw [tl_figs]; exact numL_digits _)
theorem figs_zero (i : Int) : Txt.startswith (figs i) "0" = decide (i = 0) := by
  rw [starts_one _ _ 48 (by decide +kernel), tl_figs]
  by_cases h : i = 0
  · subst h
    rw [show (0 : Int).natAbs = 0 from rfl, numL_lt (by decide), decide_eq_true rfl]; rfl
  · obtain ⟨c, r, e, h1, h2⟩ := numL_head i.natAbs (by omega)
    rw [e, decide_eq_false h]
    exact beq_eq_false_iff_ne.mpr fun e => by injection e with e; omega
theorem zero_text : iS 0 = "0" := by decide +kernel
theorem figs_le (i : Int) : (figs i).length ≤ (iS i).length := by
  rw [len_tl, len_tl, tl_figs]
  cases i with
  | ofNat n => rw [show tl (iS (Int.ofNat n)) = numL n from tl_nat n]; exact Nat.le_refl _
  | negSucc n => rw [tl_neg, List.length_cons]; exact Nat.le_succ _
theorem back (i : Int) (h : (iS i).length ≤ 4300) : intText? (iS i) = some i := by
  cases i with
  | ofNat n =>
    have : (numL n).length ≤ 4300 := by rw [len_tl, show tl (iS (Int.ofNat n)) = numL n from tl_nat n] at h; exact h
    exact int_num this
  | negSucc n =>
    have e := intText_neg (x := iS (Int.negSucc n)) (tl_neg n) (numL_digits _) (numL_ne _) h
    rw [e, numL_val]; rfl
theorem plus_minus : Txt.startswith "+" "-" = false := by decide +kernel
theorem plus_ascii : Txt.isascii "+" = true := by decide +kernel
theorem plus_digit : Txt.isdigit "+" = false := by decide +kernel
end RD
end L2

namespace L2
open PySem PySem.Spec PyProof.Rows
namespace RD
open TL
theorem joinL_app {S : List Nat} : ∀ {a b : List (List Nat)}, a ≠ [] → b ≠ [] → joinL S (a ++ b) = joinL S a ++ (S ++ joinL S b)
  | [], _, h, _ => absurd rfl h
  | [p], [], _, h => absurd rfl h
  | [p], q :: r, _, _ => rfl
  | p :: q :: r, b, _, hb => by
    show p ++ (S ++ joinL S ((q :: r) ++ b)) = (p ++ (S ++ joinL S (q :: r))) ++ (S ++ joinL S b)
    rw [joinL_app (a := q :: r) (by simp) hb, List.append_assoc, List.append_assoc]
/-- the words of a set's text -/
inductive Wd where
  | num (i : Int)
  | plus
def Wd.txt : Wd → Str
  | .num i => iS i
  | .plus => "+"
def wds (p : List Int) : List (List Int) → List Wd
  | [] => p.map .num
  | v :: B => p.map .num ++ .plus :: wds v B
def textP (p : List Int) (B : List (List Int)) : Str := PySem.Txt.join (Str.ofString " + ") ((p :: B).map wS)
theorem tl_wS (v : List Int) : tl (wS v) = joinL [32] ((v.map iS).map tl) := by
  unfold wS
  rw [join_eq, tl_join, show tl (Str.ofString " ") = [32] from by decide +kernel]
theorem num_txt (v : List Int) : (v.map Wd.num).map Wd.txt = v.map iS := by rw [List.map_map]; rfl
theorem wds_ne {p : List Int} (h : p ≠ []) : ∀ B, wds p B ≠ []
  | [] => fun e => h (List.map_eq_nil_iff.mp e)
  | v :: B => by simp [wds]
theorem text_words : ∀ (B : List (List Int)) (p : List Int), p ≠ [] → (∀ v ∈ B, v ≠ []) → textP p B = PySem.Txt.join (Str.ofString " ") ((wds p B).map Wd.txt) := by
  intro B
  induction B with
  | nil =>
    intro p hp _
    refine ext_tl ?_
    unfold textP
    rw [join_eq, join_eq, tl_join, tl_join, show tl (Str.ofString " ") = [32] from by decide +kernel]
    show tl (wS p) = joinL [32] (((p.map Wd.num).map Wd.txt).map tl)
    rw [num_txt, tl_wS]
  | cons v B ih =>
    intro p hp hB
    have hv := hB v List.mem_cons_self
    have e := congrArg tl (ih v hv fun x hx => hB x (List.mem_cons_of_mem _ hx))
    refine ext_tl ?_
    unfold textP at e ⊢
    rw [join_eq, join_eq, tl_join, tl_join, show tl (Str.ofString " ") = [32] from by decide +kernel, show tl (Str.ofString " + ") = [32, 43, 32] from by decide +kernel] at e ⊢
    show tl (wS p) ++ ([32, 43, 32] ++ joinL [32, 43, 32] (((v :: B).map wS).map tl)) = joinL [32] (((p.map Wd.num ++ Wd.plus :: wds v B).map Wd.txt).map tl)
    rw [e, List.map_append, List.map_append, joinL_app (by simpa using hp) (by simp), num_txt, tl_wS]
    have : joinL [32] (((Wd.plus :: wds v B).map Wd.txt).map tl) = [43] ++ ([32] ++ joinL [32] (((wds v B).map Wd.txt).map tl)) := by
      have hne := wds_ne hv B
      cases hw : wds v B with
      | nil => exact absurd hw hne
      | cons a r => rfl
    rw [this]; rfl
theorem txt_free (w : Wd) : 32 ∉ tl w.txt := by
  cases w with
  | num i => exact free32 i
  | plus => decide +kernel
theorem split_text {p : List Int} {B : List (List Int)} (hp : p ≠ []) (hB : ∀ v ∈ B, v ≠ []) : Txt.split (textP p B) (Str.ofString " ") = (wds p B).map Wd.txt := by
  rw [text_words B p hp hB]
  exact split_join (s := 32) (S := []) (by decide +kernel) (by decide +kernel) (fun e => wds_ne hp B (List.map_eq_nil_iff.mp e)) fun q hq => by
    obtain ⟨w, _, rfl⟩ := List.mem_map.mp hq
    exact txt_free w
/-! ## the reading -/
def lastV (R : List (List Int)) : List Int := R.getLast?.getD []
def fullB (R : List (List Int)) : Bool := decide ((lastV R).length > 0) && decide ((lastV R).length = (R.head?.getD []).length)
def rstep (R : List (List Int)) : Wd → Option (List (List Int))
  | .plus => if fullB R then some (R ++ [[]]) else none
  | .num i => if fullB R && decide (R.length > 1) then none else some (R.dropLast ++ [lastV R ++ [i]])
theorem lastV_snoc (R : List (List Int)) (z : List Int) : lastV (R ++ [z]) = z := by unfold lastV; rw [List.getLast?_concat]; rfl
/-- the first row -/
theorem read_first : ∀ (p a : List Int), (p.map Wd.num).foldlM rstep [a] = some [a ++ p]
  | [], a => by rw [List.append_nil]; rfl
  | i :: p, a => by
    have h := read_first p (a ++ [i])
    rw [List.append_assoc] at h
    rw [List.map_cons, List.foldlM_cons]
    have : rstep [a] (.num i) = some [a ++ [i]] := by
      show (if fullB [a] && decide ([a].length > 1) then none else some _) = _
      rw [show decide ([a].length > 1) = false from rfl, Bool.and_false]; rfl
    rw [this]
    exact h
theorem head_app {R : List (List Int)} (h : R ≠ []) (S : List (List Int)) : (R ++ S).head?.getD [] = R.head?.getD [] := by
  cases R with
  | nil => exact absurd rfl h
  | cons a r => rfl
/-- a later row -/
theorem read_row {R : List (List Int)} (hR : R ≠ []) : ∀ (p a : List Int), a.length + p.length ≤ (R.head?.getD []).length → (p.map Wd.num).foldlM rstep (R ++ [a]) = some (R ++ [a ++ p])
  | [], a, _ => by rw [List.append_nil]; rfl
  | i :: p, a, hl => by
    rw [List.length_cons] at hl
    have h := read_row hR p (a ++ [i]) (by rw [List.length_append]; show a.length + 1 + p.length ≤ _; omega)
    rw [List.append_assoc] at h
    rw [List.map_cons, List.foldlM_cons]
    have : rstep (R ++ [a]) (.num i) = some (R ++ [a ++ [i]]) := by
      show (if fullB (R ++ [a]) && decide ((R ++ [a]).length > 1) then none else some _) = _
      have : fullB (R ++ [a]) = false := by
        unfold fullB
        rw [lastV_snoc, head_app hR, decide_eq_false (show ¬ a.length = (R.head?.getD []).length by omega), Bool.and_false]
      rw [this, Bool.false_and, lastV_snoc, List.dropLast_concat]; rfl
    rw [this]
    exact h
theorem read_plus {R : List (List Int)} {z : List Int} (h0 : 0 < z.length) (h1 : z.length = ((R ++ [z]).head?.getD []).length) : rstep (R ++ [z]) .plus = some ((R ++ [z]) ++ [[]]) := by
  show (if fullB (R ++ [z]) then some _ else none) = _
  unfold fullB
  rw [lastV_snoc, decide_eq_true (show z.length > 0 from h0), decide_eq_true h1]; rfl
theorem read_rest {n : Nat} (hn : 0 < n) : ∀ (B R : List (List Int)) (z : List Int), z.length = n → ((R ++ [z]).head?.getD []).length = n → (∀ v ∈ B, v.length = n) → ∀ v, v.length = n → (Wd.plus :: wds v B).foldlM rstep (R ++ [z]) = some (R ++ [z] ++ (v :: B))
  | [], R, z, hz, hh, _, v, hv => by
    rw [List.foldlM_cons, read_plus (by omega) (by omega)]
    show ((v.map Wd.num).foldlM rstep ((R ++ [z]) ++ [[]])) = _
    rw [read_row (by simp) v [] (by rw [hh, hv]; show 0 + n ≤ n; omega)]; rfl
  | u :: B, R, z, hz, hh, hB, v, hv => by
    rw [List.foldlM_cons, read_plus (by omega) (by omega)]
    show ((v.map Wd.num ++ Wd.plus :: wds u B).foldlM rstep ((R ++ [z]) ++ [[]])) = _
    rw [List.foldlM_append, read_row (by simp) v [] (by rw [hh, hv]; show 0 + n ≤ n; omega)]
    show (Wd.plus :: wds u B).foldlM rstep ((R ++ [z]) ++ [v]) = _
    rw [read_rest hn B (R ++ [z]) v hv (by rw [head_app (by simp)]; exact hh) (fun x hx => hB x (List.mem_cons_of_mem _ hx)) u (hB u List.mem_cons_self), List.append_assoc]; rfl
theorem read_all {n : Nat} (hn : 0 < n) (p : List Int) (B : List (List Int)) (hp : p.length = n) (hB : ∀ v ∈ B, v.length = n) : (wds p B).foldlM rstep [[]] = some (p :: B) := by
  cases B with
  | nil => exact read_first p []
  | cons v B =>
    show ((p.map Wd.num ++ Wd.plus :: wds v B).foldlM rstep [[]]) = _
    rw [List.foldlM_append, read_first p []]
    show (Wd.plus :: wds v B).foldlM rstep ([] ++ [p]) = _
    exact read_rest hn B [] p hp hp (fun x hx => hB x (List.mem_cons_of_mem _ hx)) v (hB v List.mem_cons_self)
/-- a run so far -/
theorem run_so_far {W : List Wd} {R0 E : List (List Int)} (h : W.foldlM rstep R0 = some E) (t : Nat) {w : Wd} {R : List (List Int)} (hw : W[t]? = some w) (hR : (W.take t).foldlM rstep R0 = some R) : ∃ R', rstep R w = some R' ∧ (W.take (t + 1)).foldlM rstep R0 = some R' := by
  have e : (W.take (t + 1)).foldlM rstep R0 = rstep R w := by
    rw [List.take_add_one, hw, List.foldlM_append, hR]
    show ([w].foldlM rstep R) = _
    rw [List.foldlM_cons]
    cases rstep R w <;> rfl
  have h2 := h
  rw [← List.take_append_drop (t + 1) W, List.foldlM_append, e] at h2
  cases hs : rstep R w with
  | none => rw [hs] at h2; cases h2
  | some R' => exact ⟨R', rfl, e.trans hs⟩
theorem wds_mem {p : List Int} {B : List (List Int)} {w : Wd} : w ∈ wds p B → w = .plus ∨ ∃ i, w = .num i ∧ (i ∈ p ∨ ∃ v ∈ B, i ∈ v) := by
  induction B generalizing p with
  | nil =>
    intro h
    obtain ⟨i, hi, rfl⟩ := List.mem_map.mp h
    exact .inr ⟨i, rfl, .inl hi⟩
  | cons v B ih =>
    intro h
    rcases List.mem_append.mp h with h | h
    · obtain ⟨i, hi, rfl⟩ := List.mem_map.mp h
      exact .inr ⟨i, rfl, .inl hi⟩
    · rcases List.mem_cons.mp h with h | h
      · exact .inl h
      · rcases ih h with h | ⟨i, e, h | ⟨u, hu, h⟩⟩
        · exact .inl h
        · exact .inr ⟨i, e, .inr ⟨v, List.mem_cons_self, h⟩⟩
        · exact .inr ⟨i, e, .inr ⟨u, List.mem_cons_of_mem _ hu, h⟩⟩
theorem wds_len {n : Nat} : ∀ (B : List (List Int)) (p : List Int), p.length = n → (∀ v ∈ B, v.length = n) → (wds p B).length + 1 = (n + 1) * (B.length + 1)
  | [], p, hp, _ => by show (p.map Wd.num).length + 1 = _; rw [List.length_map, hp]; simp
  | v :: B, p, hp, hB => by
    have := wds_len B v (hB v List.mem_cons_self) fun x hx => hB x (List.mem_cons_of_mem _ hx)
    show (p.map Wd.num ++ Wd.plus :: wds v B).length + 1 = _
    rw [List.length_append, List.length_map, hp, List.length_cons, List.length_cons, Nat.mul_add (n + 1) (B.length + 1) 1]
    omega
end RD
end L2

namespace K06
open PySem L2 RZ Lat
structure TxtS (mg : Str → Option Value) : Prop extends Txt mg where
  z_str : mg "str" = none
section
variable {P : Program} {w : World} {K : PySem.W.Frag} {mg : Str → Option Value} {base : Heap}
abbrev s_read_number : Stmt := top 11
abbrev n_read_number : List Str := ["word", "digits", "figures"]
theorem sc_read_number : FnScope n_read_number ["word", "digits"] (defScope s_read_number) := ⟨rfl, rfl, rfl, by decide +kernel, rfl, by decide +kernel, by decide +kernel⟩
def spReadN : Sp := fun vs H Q _ => ∃ z : Str, vs = [.str z, .int 9] ∧ ((∃ i : Int, z = iS i ∧ z.length ≤ 9 ∧ Q (.int i) H) ∨ (z = "+" ∧ Q .non H))
theorem ok_read_number (T : TxtS mg) (F : DefAt K mg "read_number" s_read_number ["word", "digits"]) : Has P w K mg base 1 "read_number" ["word", "digits"] spReadN := by
  refine F.has sc_read_number (fun vs H Q E h => ?_) (fun f cdv A outer s H vs Q E hr h => ?_)
  · obtain ⟨z, rfl, _⟩ := h
    rfl
  · obtain ⟨z, rfl, h⟩ := h
    refine ⟨_, (pss_cons (ps_set (i := 2) sc_read_number.nd rfl (Or.inl rfl) (pe_ifExp (pt_val (pe_m1 PySem.F.slot_str_startswith PySem.F.type_str_startswith mt_startswith (pv 0) pe_str)) (pe_slice sl_str (pv 0) (po_some pe_int) po_none) (pv 0)))
      (pss_cons (ps_if (PW.pt (pw_or (pt_not (pt_val (pe_m0 PySem.F.slot_str_isascii PySem.F.type_str_isascii mt_isascii (pv 2)))) (pw_or (pt_not (pt_val (pe_m0 PySem.F.slot_str_isdigit PySem.F.type_str_isdigit mt_isdigit (pv 2)))) (pw_or1 (pt_cmpR op_gt (pe_callB call_len (by rfl) T.z_len (by decide +kernel) (pa_cons (pv 2) pa_nil)) (pv 1) (nomark _)))))) (pss_one (ps_ret pe_non)) pss_nil)
      (pss_cons (ps_if (PW.pt (pw_and (pt_val (pe_m1 PySem.F.slot_str_startswith PySem.F.type_str_startswith mt_startswith (pv 2) pe_str)) (pw_and1 (pt_cmpR op_ne (pv 0) pe_str (nomark _))))) (pss_one (ps_ret pe_non)) pss_nil)
      (pss_one (ps_ret (pe_callTy call_int_str (by rfl) T.z_int (by decide +kernel) (pa_cons (pv 0) pa_nil))))))), ?_⟩
    rcases h with ⟨i, rfl, l9, k⟩ | ⟨rfl, k⟩
    · have lz : (iS i).length ≤ sizeLine := Nat.le_trans l9 (by decide)
      have lf := RD.figs_le i
      have fA := RD.figs_ascii i
      have fD := RD.figs_digit i
      have f0 := RD.figs_zero i
      refine ⟨_, rfl, ⟨_, rfl⟩, _, _, rfl, rfl, _, rfl, ?_⟩
      have bk := RD.back i (by omega)
      by_cases h : i < 0
      · refine iteSe (by rw [RD.minus]; exact decide_eq_true h) ?_
        have e := RD.cut_neg h
        rw [← e] at lf fA fD f0
        refine ⟨_, rfl, _, rfl, _, rfl, lz, ?_⟩
        refine ⟨_, rfl, ⟨_, rfl⟩, _, rfl, rfl, trivial, _, rfl, ?_⟩
        refine iteSf (by rw [fA]; rfl) ?_
        refine ⟨_, rfl, ⟨_, rfl⟩, _, rfl, rfl, trivial, _, rfl, ?_⟩
        refine iteSf (by rw [fD]; rfl) ?_
        refine ⟨_, rfl, _, _, rfl, ⟨Nat.le_trans lf lz, rfl⟩, _, rfl, _, _, rfl, rfl, _, rfl, ?_⟩
        refine iteSf (decide_eq_false (by omega)) ?_
        refine ⟨_, rfl, ⟨_, rfl⟩, _, _, rfl, rfl, _, rfl, ?_⟩
        by_cases h0 : i = 0
        · refine iteSe (by rw [f0]; exact decide_eq_true h0) ?_
          refine ⟨_, rfl, rfl, _, rfl, ?_⟩
          refine iteSf (by rw [decide_eq_true (show V.str (iS i) = V.str _ from by rw [h0]; exact congrArg V.str RD.zero_text)]; rfl) ?_
          exact ⟨_, rfl, _, _, rfl, bk, by omega, k⟩
        · refine iteSf (by rw [f0]; exact decide_eq_false h0) ?_
          exact iteSf rfl ⟨_, rfl, _, _, rfl, bk, by omega, k⟩
      · refine iteSf (by rw [RD.minus]; exact decide_eq_false h) ?_
        have e : iS i = RD.figs i := by
          unfold RD.figs; exact congrArg iS (by omega)
        rw [← e] at lf fA fD f0
        refine ⟨_, rfl, ?_⟩
        refine ⟨_, rfl, ⟨_, rfl⟩, _, rfl, rfl, trivial, _, rfl, ?_⟩
        refine iteSf (by rw [fA]; rfl) ?_
        refine ⟨_, rfl, ⟨_, rfl⟩, _, rfl, rfl, trivial, _, rfl, ?_⟩
        refine iteSf (by rw [fD]; rfl) ?_
        refine ⟨_, rfl, _, _, rfl, ⟨Nat.le_trans lf lz, rfl⟩, _, rfl, _, _, rfl, rfl, _, rfl, ?_⟩
        refine iteSf (decide_eq_false (by omega)) ?_
        refine ⟨_, rfl, ⟨_, rfl⟩, _, _, rfl, rfl, _, rfl, ?_⟩
        by_cases h0 : i = 0
        · refine iteSe (by rw [f0]; exact decide_eq_true h0) ?_
          refine ⟨_, rfl, rfl, _, rfl, ?_⟩
          refine iteSf (by rw [decide_eq_true (show V.str (iS i) = V.str _ from by rw [h0]; exact congrArg V.str RD.zero_text)]; rfl) ?_
          exact ⟨_, rfl, _, _, rfl, bk, by omega, k⟩
        · refine iteSf (by rw [f0]; exact decide_eq_false h0) ?_
          exact iteSf rfl ⟨_, rfl, _, _, rfl, bk, by omega, k⟩
    · refine ⟨_, rfl, ⟨_, rfl⟩, _, _, rfl, rfl, _, rfl, ?_⟩
      refine iteSf RD.plus_minus ?_
      refine ⟨_, rfl, ?_⟩
      refine ⟨_, rfl, ⟨_, rfl⟩, _, rfl, rfl, trivial, _, rfl, ?_⟩
      refine iteSf (by rw [RD.plus_ascii]; rfl) ?_
      refine ⟨_, rfl, ⟨_, rfl⟩, _, rfl, rfl, trivial, _, rfl, ?_⟩
      refine iteSe (by rw [RD.plus_digit]; rfl) ?_
      exact k
abbrev s_read_vectors : Stmt := top 32
abbrev n_read_vectors : List Str := ["words", "rows", "at", "word", "number", "full", "row"]
theorem sc_read_vectors : FnScope n_read_vectors ["words"] (defScope s_read_vectors) := ⟨rfl, rfl, rfl, by decide +kernel, rfl, by decide +kernel, by decide +kernel⟩
/-- a list of lists of numbers, none of them twice -/
structure LL (H : Hp) (l : Addr) (As : List Addr) (R : List Vec) : Prop where
  hl : H l = some (.lst (As.map V.ref))
  len : As.length = R.length
  nd : As.Nodup
  at' : ∀ (j : Nat) (a : Addr) (v : Vec), As[j]? = some a → R[j]? = some v → IsL H a v
theorem atI_last (xs : List V) (x : V) : atI (xs ++ [x]) (-1) = some x := by
  unfold atI
  have : ixN (xs ++ [x]).length (-1) = some xs.length := by
    unfold ixN
    rw [List.length_append]
    show (if (0 : Int) ≤ -1 then _ else if _ then _ else _) = _
    rw [if_neg (by decide)]
    have : (-(((xs.length + [x].length : Nat)) : Int) ≤ -1) := by rw [show [x].length = 1 from rfl]; omega
    rw [if_pos this, show [x].length = 1 from rfl]
    congr 1
    omega
  rw [this]
  show (xs ++ [x])[xs.length]? = some x
  rw [List.getElem?_append_right (Nat.le_refl _), Nat.sub_self]; rfl
theorem LL.keep {H H' : Hp} {l : Addr} {As : List Addr} {R : List Vec} (s : Same H H') (h : LL H l As R) : LL H' l As R :=
  ⟨s _ _ h.hl, h.len, h.nd, fun j a v e1 e2 => s _ _ (h.at' j a v e1 e2)⟩
theorem LL.mem {H : Hp} {l : Addr} {As : List Addr} {R : List Vec} (h : LL H l As R) {a : Addr} (ha : a ∈ As) : ∃ v, IsL H a v := by
  obtain ⟨j, hj, e⟩ := List.getElem_of_mem ha
  have hj2 : j < R.length := by rw [← h.len]; exact hj
  exact ⟨R[j], h.at' j a R[j] (by rw [List.getElem?_eq_getElem hj, e]) (List.getElem?_eq_getElem hj2)⟩
theorem LL.snoc {H : Hp} {l q : Addr} {As : List Addr} {R : List Vec} (h : LL H l As R) (hq : H q = none) (fr : ∀ a ∈ As, a ≠ l) : LL (upd (upd H q (.lst [])) l (.lst (As.map V.ref ++ [.ref q]))) l (As ++ [q]) (R ++ [[]]) := by
  have nql : q ≠ l := (ne_of_none h.hl hq).symm
  refine ⟨by rw [upd_same, List.map_append]; rfl, by rw [List.length_append, List.length_append, h.len]; rfl, ?_, fun j a v ea ev => ?_⟩
  · refine List.nodup_append.mpr ⟨h.nd, by simp, fun a ha b hb e => ?_⟩
    rw [List.mem_singleton] at hb
    obtain ⟨v, hv⟩ := h.mem ha
    rw [e, hb] at hv
    rw [show H q = _ from hv] at hq
    cases hq
  · by_cases hj : j < As.length
    · rw [List.getElem?_append_left hj] at ea
      rw [List.getElem?_append_left (by rw [← h.len]; exact hj)] at ev
      have hv := h.at' j a v ea ev
      show upd _ _ _ a = _
      rw [upd_ne (fr a (List.mem_of_getElem? ea)), upd_ne (ne_of_none hv hq)]; exact hv
    · rw [List.getElem?_append_right (by omega)] at ea
      rw [List.getElem?_append_right (by rw [← h.len]; omega), ← h.len] at ev
      cases hk : j - As.length with
      | zero =>
        rw [hk] at ea ev
        cases ea; cases ev
        show upd _ _ _ q = _
        rw [upd_ne nql, upd_same]; rfl
      | succ k => rw [hk] at ea; cases ea
theorem LL.grow {H : Hp} {l a : Addr} {A0 : List Addr} {R0 : List Vec} {z : Vec} {i : Int} (h : LL H l (A0 ++ [a]) (R0 ++ [z])) (ne : a ≠ l) : LL (upd H a (.lst (z.map V.int ++ [.int i]))) l (A0 ++ [a]) (R0 ++ [z ++ [i]]) := by
  have l0 : A0.length = R0.length := by have := h.len; rw [List.length_append, List.length_append] at this; exact Nat.add_right_cancel this
  refine ⟨(upd_ne ne.symm).trans h.hl, by rw [List.length_append, List.length_append, l0]; rfl, h.nd, fun j b v ea ev => ?_⟩
  by_cases hj : j < A0.length
  · rw [List.getElem?_append_left (by omega)] at ev
    have hv := h.at' j b v ea (by rw [List.getElem?_append_left (by omega)]; exact ev)
    rw [List.getElem?_append_left hj] at ea
    have nb : b ≠ a := fun e => by
      have := List.nodup_append.mp h.nd
      exact this.2.2 b (List.mem_of_getElem? ea) a (List.mem_singleton.mpr rfl) e
    exact (upd_ne nb).trans hv
  · rw [List.getElem?_append_right (by omega)] at ea
    rw [List.getElem?_append_right (by omega), ← l0] at ev
    cases hk : j - A0.length with
    | zero =>
      rw [hk] at ea ev
      cases ea; cases ev
      show upd _ _ _ a = _
      rw [upd_same, List.map_append]; rfl
    | succ k => rw [hk] at ea; cases ea
def nval : RD.Wd → V
  | .num i => .int i
  | .plus => .non
theorem atI_head (x : V) (xs : List V) : atI (x :: xs) 0 = some x := by
  unfold atI
  have : ixN (x :: xs).length 0 = some 0 := by
    unfold ixN
    rw [if_pos (by decide), if_pos (by rw [List.length_cons]; omega)]; rfl
  rw [this]; rfl
def spReadV : Sp := fun vs H Q _ => ∃ (l : Addr) (n : Nat) (p : Vec) (B : List Vec), vs = [.ref l] ∧ H l = some (.lst (((RD.wds p B).map RD.Wd.txt).map V.str)) ∧ p.length = n ∧ (∀ v ∈ B, v.length = n) ∧ 1 ≤ n ∧ n ≤ 60 ∧ B.length ≤ 60 ∧ (∀ w ∈ RD.wds p B, w.txt.length ≤ 9) ∧ ∀ (H' : Hp) (r : Addr) (as : List V), Same H H' → H' r = some (.lst as) → Rows H' n as (p :: B) → Q (.ref r) H'
theorem ok_read_vectors (T : TxtS mg) (hDig : ∃ u, mg "DIGITS" = some u ∧ RelV (.int 9) u) (g_read_number : Has P w K mg base 1 "read_number" ["word", "digits"] spReadN) (F : DefAt K mg "read_vectors" s_read_vectors ["words"]) : Has P w K mg base 2 "read_vectors" ["words"] spReadV := by
  refine F.has sc_read_vectors (fun vs H Q E h => ?_) (fun f cdv A outer s H vs Q E hr h => ?_)
  · obtain ⟨l, n, p, B, rfl, _⟩ := h
    rfl
  · obtain ⟨l, n, p, B, rfl, hl, lp, lB, n1, n60, b60, short, k⟩ := h
    refine ⟨_, (pss_cons (ps_set (i := 1) sc_read_vectors.nd rfl (Or.inl rfl) (pe_lst (pa_cons (pe_lst pa_nil) pa_nil)))
      (pss_cons (ps_for PassesOwn.never rfl (pi_enum (by rfl) T.z_enumerate (pa_cons (pv 0) pa_nil)) (pg_tup rfl (pgs_cons (pg_name (i := 2) sc_read_vectors.nd rfl (Or.inl rfl)) (pgs_cons (pg_name (i := 3) sc_read_vectors.nd rfl (Or.inl rfl)) pgs_nil))) (C8.pss_cut (ps_set (i := 4) sc_read_vectors.nd rfl (Or.inl rfl) (pe_callHas g_read_number (hr.mono (by decide)) rfl (pa_cons (pv 3) (pa_cons (C8.pe_gc (v := .int 9) rfl hDig) pa_nil))))
      (C8.pss_cut (ps_set (i := 5) sc_read_vectors.nd rfl (Or.inl rfl) (pe_and (pe_cmpR op_gt (pe_callB call_len (by rfl) T.z_len (by decide +kernel) (pa_cons (pe_ix ix_list (pv 1) (pe_un un_neg pe_int) (fun _ _ => rfl)) pa_nil)) pe_int (nomark _)) (pe_one (pe_cmpR op_eq (pe_callB call_len (by rfl) T.z_len (by decide +kernel) (pa_cons (pe_ix ix_list (pv 1) (pe_un un_neg pe_int) (fun _ _ => rfl)) pa_nil)) (pe_callB call_len (by rfl) T.z_len (by decide +kernel) (pa_cons (pe_ix ix_list (pv 1) pe_int (fun _ _ => rfl)) pa_nil)) (nomark _)))))
      (pss_one (ps_if (PW.pt (pw_and (pt_cmpR op_eq (pv 3) pe_str (nomark _)) (pw_and1 (pt_val (pv 5))))) (pss_one (ps_expr (pe_bm PySem.F.plainAttrs_list PySem.F.slot_list_append PySem.F.type_list_append mt_append (pv 1) (pa_cons (pe_lst pa_nil) pa_nil)))) (pss_one (ps_if (PW.pt (pw_or (pt_cmpR op_isN (pv 4) pe_non (nomark _)) (pw_or1 (PW.pt (pw_and (pt_val (pv 5)) (pw_and1 (pt_cmpR op_gt (pe_callB call_len (by rfl) T.z_len (by decide +kernel) (pa_cons (pv 1) pa_nil)) pe_int (nomark _)))))))) (pss_one ps_never) (pss_one (ps_expr (pe_bm PySem.F.plainAttrs_list PySem.F.slot_list_append PySem.F.type_list_append mt_append (pe_ix ix_list (pv 1) (pe_un un_neg pe_int) (fun _ _ => rfl)) (pa_cons (pv 4) pa_nil)))))))))))
      (pss_cons (ps_if (pt_cmpR op_lt (pe_callB call_len (by rfl) T.z_len (by decide +kernel) (pa_cons (pe_ix ix_list (pv 1) (pe_un un_neg pe_int) (fun _ _ => rfl)) pa_nil)) (pe_callB call_len (by rfl) T.z_len (by decide +kernel) (pa_cons (pe_ix ix_list (pv 1) pe_int (fun _ _ => rfl)) pa_nil)) (nomark _)) (pss_one ps_never) pss_nil)
      (pss_one (ps_ret (pe_lc (own := [("row", 6)]) (g := gName 6) (by rfl) sc_read_vectors.nd (pi_list (pv 1)) (blkOk_by (own := [("row", 6)]) (N := n_read_vectors) (sc := defScope s_read_vectors) (by decide +kernel)) (fun _ _ _ _ _ => (pg_name (i := 6) sc_read_vectors.nd rfl (Or.inl rfl))) (fun _ _ _ _ _ => pts_nil) (fun _ _ _ _ _ => (pe_callTy (call_tupK (K := K) rfl) (by rfl) T.z_tuple (by decide +kernel) (pa_cons (pv 6) pa_nil))))))))), ?_⟩
    have all := RD.read_all n1 p B lp lB
    refine ⟨Nat.zero_le _, fun q hq => ?_⟩
    obtain ⟨sq, hq'⟩ := new_at (o := .lst []) hq
    refine ⟨(by decide : 1 ≤ sizeLine), fun r hr => ?_⟩
    obtain ⟨sr, hr'⟩ := new_at (o := .lst [V.ref q]) hr
    have nqr : q ≠ r := ne_of_none hq' hr
    have Hr : H r = none := by
      cases e : H r with
      | none => rfl
      | some o => rw [sq _ _ e] at hr; cases hr
    have s0 := sq.trans sr
    have hle : (((RD.wds p B).map RD.Wd.txt).map V.str).length = (RD.wds p B).length := by rw [List.length_map, List.length_map]
    have lW := RD.wds_len B p lp lB
    have W4 : (RD.wds p B).length ≤ 4000 := by
      have := Nat.mul_le_mul (show n + 1 ≤ 61 by omega) (show B.length + 1 ≤ 61 by omega)
      omega
    generalize RD.wds p B = W at *
    refine ⟨_, rfl, l, _, rfl, SqL.of (s0 _ _ hl), for_it (walk_enum (xs := (W.map RD.Wd.txt).map V.str)) (fun t σ H' => ∃ (As : List Addr) (R : List Vec) (x2 x3 x4 x5 : Option V), σ = [some (.ref l), some (.ref r), x2, x3, x4, x5, none] ∧ Same H H' ∧ (W.take t).foldlM RD.rstep [[]] = some R ∧ R ≠ [] ∧ R.length ≤ t + 1 ∧ (∀ v ∈ R, v.length ≤ t) ∧ LL H' r As R ∧ ∀ a ∈ As, H a = none ∧ a ≠ r) ⟨[q], [[]], _, _, _, _, rfl, s0, rfl, by simp, Nat.le_refl _, by simp, ⟨hr', rfl, by simp, fun j a v ea ev => ?_⟩, fun a ha => ?_⟩ (fun t σ H' _ z => ?_) ?_ ?_⟩
    · match j, ea, ev with
      | 0, ea, ev => cases ea; cases ev; exact sr _ _ hq'
    · rw [List.mem_singleton.mp ha]; exact ⟨hq, nqr⟩
    · obtain ⟨As, R, _, _, _, _, _, sm, _⟩ := z
      exact SqL.of (sm _ _ hl)
    · rintro t y σ H' H'' ht ⟨As, R, x2, x3, x4, x5, rfl, sm, fR, nR, lR, lv, ll, fre⟩ ⟨T1, y1, y2, rfl, hT, rfl, e1, e2⟩
      cases e1
      obtain ⟨w, ew, rfl⟩ : ∃ w, W[t]? = some w ∧ y2 = V.str w.txt := by
        have e3 : (W.map (V.str ∘ RD.Wd.txt))[t]? = some y2 := by rw [← List.map_map]; exact e2
        rw [List.getElem?_map] at e3
        obtain ⟨w, ew, e⟩ := Option.map_eq_some_iff.mp e3
        exact ⟨w, ew, e.symm⟩
      have wshort := short w (List.mem_of_getElem? ew)
      obtain ⟨R', st, fR'⟩ := RD.run_so_far all t ew fR
      obtain ⟨sT, hT'⟩ := new_at (o := .tup [V.int ((t : Nat) : Int), V.str w.txt]) hT
      replace ll := ll.keep sT
      replace sm := sm.trans sT
      clear sT e2
      refine ⟨T1, _, rfl, SqT.of hT', rfl, _, _, rfl, _, _, rfl, rfl, ?_⟩
      clear hT'
      generalize upd H' T1 _ = H2 at *
      obtain ⟨R0, z, rfl⟩ : ∃ R0 z, R = R0 ++ [z] := ⟨R.dropLast, R.getLast nR, (List.dropLast_concat_getLast nR).symm⟩
      have nA : As ≠ [] := fun e => by have := ll.len; rw [e, List.length_append] at this; cases this
      obtain ⟨A0, a, rfl⟩ : ∃ A0 a, As = A0 ++ [a] := ⟨As.dropLast, As.getLast nA, (List.dropLast_concat_getLast nA).symm⟩
      have l0 : A0.length = R0.length := by have := ll.len; rw [List.length_append, List.length_append] at this; exact Nat.add_right_cancel this
      have ha : IsL H2 a z := ll.at' A0.length a z (by rw [List.getElem?_append_right (Nat.le_refl _), Nat.sub_self]; rfl) (by rw [l0, List.getElem?_append_right (Nat.le_refl _), Nat.sub_self]; rfl)
      have hl2 : H2 r = some (.lst (A0.map V.ref ++ [V.ref a])) := by have := ll.hl; rw [List.map_append] at this; exact this
      obtain ⟨a1, v1, e0, eh, h1⟩ : ∃ a1 v1, atI (A0.map V.ref ++ [V.ref a]) 0 = some (.ref a1) ∧ (R0 ++ [z]).head?.getD [] = v1 ∧ IsL H2 a1 v1 := by
        cases A0 with
        | nil =>
          cases R0 with
          | nil => exact ⟨a, z, atI_head _ _, rfl, ha⟩
          | cons _ _ => cases l0
        | cons b A1 =>
          cases R0 with
          | nil => cases l0
          | cons u R1 => exact ⟨b, u, atI_head _ _, rfl, ll.at' 0 b u rfl rfl⟩
      refine ⟨fun σ' H3 => H3 = H2 ∧ σ' = [some (.ref l), some (.ref r), some (.int ((t : Nat) : Int)), some (.str w.txt), some (nval w), x5, none], ?_, ?_⟩
      · cases w with
        | num i => exact ⟨_, rfl, _, rfl, .inl ⟨i, rfl, wshort, rfl, rfl⟩⟩
        | plus => exact ⟨_, rfl, _, rfl, .inr ⟨rfl, rfl, rfl⟩⟩
      rintro σ' H3 ⟨rfl, rfl⟩
      refine ⟨fun σ' H4 => H4 = H3 ∧ σ' = [some (.ref l), some (.ref r), some (.int ((t : Nat) : Int)), some (.str w.txt), some (nval w), some (.bl (RD.fullB (R0 ++ [z]))), none], ?_, ?_⟩
      · refine ⟨_, rfl, _, rfl, r, _, _, _, rfl, rfl, SqL.of hl2, atI_last _ _, _, _, rfl, .inl ⟨_, SqL.of ha, rfl⟩, _, _, rfl, rfl, _, rfl, ?_⟩
        have el : (z.map V.int).length = z.length := List.length_map _
        rw [el]
        by_cases hz : z.length > 0
        · refine iteSe (decide_eq_true (by omega)) ?_
          refine ⟨_, rfl, _, rfl, r, _, _, _, rfl, rfl, SqL.of hl2, atI_last _ _, _, _, rfl, .inl ⟨_, SqL.of ha, rfl⟩, ?_⟩
          refine ⟨_, rfl, r, _, _, _, rfl, rfl, SqL.of hl2, e0, _, _, rfl, .inl ⟨_, SqL.of h1, rfl⟩, ?_⟩
          refine ⟨rfl, rfl, ?_⟩
          have : RD.fullB (R0 ++ [z]) = decide (V.int (((z.map V.int).length : Nat) : Int) = V.int (((v1.map V.int).length : Nat) : Int)) := by
            unfold RD.fullB
            rw [RD.lastV_snoc, eh, decide_eq_true hz, Bool.true_and, List.length_map, List.length_map]
            exact decide_eq_decide.mpr ⟨fun e => by rw [e], fun e => by have := V.int.inj e; omega⟩
          rw [this]; rfl
        · refine iteSf (decide_eq_false (by omega)) ?_
          refine ⟨rfl, ?_⟩
          have : RD.fullB (R0 ++ [z]) = false := by
            unfold RD.fullB
            rw [RD.lastV_snoc, decide_eq_false hz, Bool.false_and]
          rw [this]; rfl
      rintro σ' H4 ⟨rfl, rfl⟩
      have nar := (fre a (by simp)).2
      cases w with
      | plus =>
        have hf : RD.fullB (R0 ++ [z]) = true := by
          cases hf : RD.fullB (R0 ++ [z]) with
          | true => rfl
          | false =>
            have st' : (if RD.fullB (R0 ++ [z]) = true then some ((R0 ++ [z]) ++ [[]]) else none) = some R' := st
            rw [if_neg (by rw [hf]; decide)] at st'
            cases st'
        have eR : R' = (R0 ++ [z]) ++ [[]] := by
          have st' : (if RD.fullB (R0 ++ [z]) = true then some ((R0 ++ [z]) ++ [[]]) else none) = some R' := st
          rw [if_pos hf] at st'
          exact (Option.some.inj st').symm
        subst eR
        refine ⟨_, rfl, rfl, _, rfl, iteSe (decide_eq_true rfl) ⟨_, rfl, _, rfl, iteSe hf ?_⟩⟩
        refine ⟨_, rfl, .inl ⟨rfl, _, .inl (.inl hl2)⟩, Nat.zero_le _, fun q2 hq2 => ?_⟩
        have nq2 : r ≠ q2 := ne_of_none hl2 hq2
        refine ⟨r, _, _, rfl, rfl, (upd_ne nq2).trans hl2, ?_, A0 ++ [a] ++ [q2], (R0 ++ [z]) ++ [[]], _, _, _, _, rfl, fun y o hy => ?_, fR', by simp, ?_, fun v hv => ?_, (by have := ll.snoc hq2 (fun b hb => (fre b hb).2); rw [List.map_append] at this; exact this), fun b hb => ?_⟩
        · rw [← List.map_singleton, ← List.map_append, List.length_map, ll.len]
          exact Nat.lt_of_le_of_lt (Nat.le_trans lR (show t + 1 ≤ 4001 by omega)) (by decide)
        · rw [upd_ne (fun e => by rw [e, Hr] at hy; cases hy), upd_ne (ne_of_none (sm _ _ hy) hq2)]
          exact sm _ _ hy
        · rw [List.length_append]
          exact Nat.succ_le_succ lR
        · rcases List.mem_append.mp hv with hv | hv
          · exact Nat.le_trans (lv v hv) (Nat.le_succ _)
          · rw [List.mem_singleton.mp hv]; exact Nat.zero_le _
        · rcases List.mem_append.mp hb with hb | hb
          · exact fre b hb
          · rw [List.mem_singleton.mp hb]
            refine ⟨?_, nq2.symm⟩
            cases e : H q2 with
            | none => rfl
            | some o => rw [sm _ _ e] at hq2; cases hq2
      | num i =>
        have hf : (RD.fullB (R0 ++ [z]) && decide ((R0 ++ [z]).length > 1)) = false := by
          cases hf : (RD.fullB (R0 ++ [z]) && decide ((R0 ++ [z]).length > 1)) with
          | false => rfl
          | true =>
            have st' : (if (RD.fullB (R0 ++ [z]) && decide ((R0 ++ [z]).length > 1)) = true then none else some ((R0 ++ [z]).dropLast ++ [RD.lastV (R0 ++ [z]) ++ [i]])) = some R' := st
            rw [if_pos hf] at st'
            cases st'
        have eR : R' = R0 ++ [z ++ [i]] := by
          have st' : (if (RD.fullB (R0 ++ [z]) && decide ((R0 ++ [z]).length > 1)) = true then none else some ((R0 ++ [z]).dropLast ++ [RD.lastV (R0 ++ [z]) ++ [i]])) = some R' := st
          rw [if_neg (by rw [hf]; decide), List.dropLast_concat, RD.lastV_snoc] at st'
          exact (Option.some.inj st').symm
        subst eR
        refine ⟨_, rfl, rfl, _, rfl, iteSf (decide_eq_false fun e => RD.ne_plus i (V.str.inj e)) ?_⟩
        refine iteSf rfl ?_
        refine ⟨_, rfl, rfl, _, rfl, iteSf rfl ?_⟩
        refine ⟨_, rfl, _, rfl, ?_⟩
        cases hF : RD.fullB (R0 ++ [z]) with
        | true =>
          refine iteSe rfl ?_
          rw [hF, Bool.true_and] at hf
          have hf' := of_decide_eq_false hf
          refine ⟨_, rfl, _, _, rfl, .inl ⟨_, SqL.of hl2, rfl⟩, _, _, rfl, rfl, _, rfl, iteSf (decide_eq_false ?_) ?_⟩
          · rw [← List.map_singleton, ← List.map_append, List.length_map, ll.len]
            omega
          refine ⟨_, rfl, _, rfl, r, _, _, _, rfl, rfl, SqL.of hl2, atI_last _ _, .inl ⟨rfl, _, .inl (.inl ha)⟩, ?_⟩
          refine ⟨_, rfl, a, _, _, rfl, rfl, ha, ?_, A0 ++ [a], R0 ++ [z ++ [i]], _, _, _, _, rfl, fun y o hy => ?_, fR', by simp, ?_, fun v hv => ?_, ll.grow nar, fre⟩
          · rw [List.length_map]
            exact Nat.lt_of_le_of_lt (Nat.le_trans (lv z (by simp)) (show t ≤ 4000 by omega)) (by decide)
          · rw [upd_ne (fun e => by rw [e, (fre a (by simp)).1] at hy; cases hy)]
            exact sm _ _ hy
          · have := lR
            rw [List.length_append] at this ⊢
            show R0.length + 1 ≤ _
            have e : [z].length = 1 := rfl
            omega
          · rcases List.mem_append.mp hv with hv | hv
            · exact Nat.le_trans (lv v (List.mem_append_left _ hv)) (Nat.le_succ _)
            · rw [List.mem_singleton.mp hv, List.length_append]
              exact Nat.succ_le_succ (lv z (by simp))
        | false =>
          refine iteSf rfl ?_
          refine ⟨_, rfl, _, rfl, r, _, _, _, rfl, rfl, SqL.of hl2, atI_last _ _, .inl ⟨rfl, _, .inl (.inl ha)⟩, ?_⟩
          refine ⟨_, rfl, a, _, _, rfl, rfl, ha, ?_, A0 ++ [a], R0 ++ [z ++ [i]], _, _, _, _, rfl, fun y o hy => ?_, fR', by simp, ?_, fun v hv => ?_, ll.grow nar, fre⟩
          · rw [List.length_map]
            exact Nat.lt_of_le_of_lt (Nat.le_trans (lv z (by simp)) (show t ≤ 4000 by omega)) (by decide)
          · rw [upd_ne (fun e => by rw [e, (fre a (by simp)).1] at hy; cases hy)]
            exact sm _ _ hy
          · have := lR
            rw [List.length_append] at this ⊢
            show R0.length + 1 ≤ _
            have e : [z].length = 1 := rfl
            omega
          · rcases List.mem_append.mp hv with hv | hv
            · exact Nat.le_trans (lv v (List.mem_append_left _ hv)) (Nat.le_succ _)
            · rw [List.mem_singleton.mp hv, List.length_append]
              exact Nat.succ_le_succ (lv z (by simp))
    · rintro σ H' ⟨As, R, x2, x3, x4, x5, rfl, sm, fR, nR, lR, lv, ll, fre⟩
      rw [hle, List.take_length, all] at fR
      cases fR
      have lAs : As.length = B.length + 1 := ll.len
      have lall : ∀ v ∈ p :: B, v.length = n := fun v hv => (List.mem_cons.mp hv).elim (fun e => e ▸ lp) (lB v)
      obtain ⟨A0, a, rfl⟩ : ∃ A0 a, As = A0 ++ [a] := by
        have nA : As ≠ [] := fun e => by rw [e] at lAs; cases lAs
        exact ⟨As.dropLast, As.getLast nA, (List.dropLast_concat_getLast nA).symm⟩
      have l0 : A0.length = B.length := by rw [List.length_append] at lAs; exact Nat.add_right_cancel lAs
      obtain ⟨z, ez, hz⟩ : ∃ z, (p :: B)[A0.length]? = some z ∧ z.length = n := by
        have : A0.length < (p :: B).length := by rw [List.length_cons, l0]; omega
        exact ⟨_, List.getElem?_eq_getElem this, lall _ (List.getElem_mem this)⟩
      have ha : IsL H' a z := ll.at' A0.length a z (by rw [List.getElem?_append_right (Nat.le_refl _), Nat.sub_self]; rfl) ez
      have hl2 : H' r = some (.lst (A0.map V.ref ++ [V.ref a])) := by have := ll.hl; rw [List.map_append] at this; exact this
      obtain ⟨a1, e0, h1⟩ : ∃ a1, atI (A0.map V.ref ++ [V.ref a]) 0 = some (.ref a1) ∧ IsL H' a1 p := by
        cases A0 with
        | nil => exact ⟨a, atI_head _ _, ll.at' 0 a p rfl rfl⟩
        | cons b A1 => exact ⟨b, atI_head _ _, ll.at' 0 b p rfl rfl⟩
      refine ⟨_, rfl, _, rfl, r, _, _, _, rfl, rfl, SqL.of hl2, atI_last _ _, _, _, rfl, .inl ⟨_, SqL.of ha, rfl⟩, ?_⟩
      refine ⟨_, rfl, r, _, _, _, rfl, rfl, SqL.of hl2, e0, _, _, rfl, .inl ⟨_, SqL.of h1, rfl⟩, _, _, rfl, rfl, _, rfl, ?_⟩
      refine iteSf (decide_eq_false (by rw [List.length_map, List.length_map, hz, lp]; omega)) ?_
      refine ⟨_, rfl, r, rfl, ⟨_, SqL.of hl2⟩, fun D hD => lc_it (walk_list (xs := A0.map V.ref ++ [V.ref a])) (fun i H2 => Same H' H2 ∧ ∃ as : List V, H2 D = some (.lst as) ∧ Rows H2 n as ((p :: B).take i)) ⟨(new_at hD).1, [], upd_same, ⟨.nil, fun v hv => nomatch hv⟩⟩ (fun i H2 _ q => SqL.of (q.1 _ _ hl2)) ?_ ?_⟩
      · rintro i y H2 H3 hi ⟨sm2, as, hD', hrs⟩ ⟨rfl, e1⟩
        rw [← List.map_singleton, ← List.map_append, List.getElem?_map] at e1
        obtain ⟨b, eb, rfl⟩ := Option.map_eq_some_iff.mp e1
        have ib : i < (p :: B).length := by
          rw [← ll.len]
          exact (List.getElem?_eq_some_iff.mp eb).1
        have ev := List.getElem?_eq_getElem ib
        have lv := lall _ (List.getElem_mem ib)
        generalize (p :: B)[i] = v at ev lv
        have hb := sm2 _ _ (ll.at' i b v eb ev)
        refine ⟨rfl, ?_⟩
        refine ⟨_, rfl, _, _, rfl, .inl ⟨SqL.of hb, fun q2 hq2 => ?_⟩⟩
        obtain ⟨s3, hq3⟩ := new_at (o := .tup (v.map V.int)) hq2
        refine ⟨_, s3 _ _ hD', ?_, fun y o w => by rw [upd_ne (ne_of_none w hD)]; exact s3 _ _ (sm2 _ _ w), as ++ [.ref q2], upd_same, ?_⟩
        · rw [hrs.len, List.length_take]
          exact Nat.lt_of_le_of_lt (Nat.le_trans (Nat.min_le_right _ _) (show (p :: B).length ≤ 61 by rw [List.length_cons]; omega)) (by decide)
        · rw [List.take_add_one, ev]
          exact Rows.lst (s3 _ _ hD') But.upd' ((hrs.keep s3).snoc hq3 lv)
      · rintro H2 ⟨sm2, as, hD', hrs⟩
        rw [← List.map_singleton, ← List.map_append, List.length_map, ll.len, List.take_length] at hrs
        exact k _ D as (sm.trans sm2) hD' hrs
def textO : Option Vec → List Vec → Str
  | none, _ => "none"
  | some p, B => RD.textP p B
abbrev s_Factors_read : Stmt := inClass (top 33) 3
abbrev n_Factors_read : List Str := ["cls", "text", "rows"]
theorem sc_Factors_read : FnScope n_Factors_read ["cls", "text"] (defScope s_Factors_read) := ⟨rfl, rfl, rfl, by decide +kernel, rfl, by decide +kernel, by decide +kernel⟩
def spRead (D : Addr) : Sp := fun vs H Q _ => ∃ (n : Nat) (p : Vec) (B : List Vec), vs = [.ref D, .str (RD.textP p B)] ∧ p.length = n ∧ (∀ v ∈ B, v.length = n) ∧ 1 ≤ n ∧ n ≤ 60 ∧ B.length ≤ 60 ∧ (∀ w ∈ RD.wds p B, w.txt.length ≤ 9) ∧ (RD.textP p B).length ≤ 1000000 ∧ OkGrows [] B ∧ OkRed (grows [] B) p ∧ ∀ (H' : Hp) (x : Addr), Same H H' → FacAt D H' x n (some (redV (grows [] B) p)) (grows [] B) → Q (.ref x) H'
theorem cutV1 (xs : List V) : cutV xs (some 1) none = xs.drop 1 := by
  cases xs with
  | nil => rfl
  | cons x xs => exact cutV_from (x :: xs) 1 (Nat.succ_le_succ (Nat.zero_le _))
theorem ok_read {D fF fE : Addr} {fdF fd : FuncData} (T : TxtS mg) (MD : Mk K D fF) (g_factors : FnOk P w K mg base CX0 7 fF fdF ["self", "width", "point", "rows"] (spFactors K D)) (bF : Binds K fdF ["self", "width", "point", "rows"] [])
    (g_read_vectors : Has P w K mg base 2 "read_vectors" ["words"] spReadV) (F : Fun K "read" "Factors.read" s_Factors_read fE fd) : FnOk P w K mg base CX0 9 fE fd ["cls", "text"] (spRead D) := by
  refine F.ok sc_Factors_read (fun vs H Q E h => ?_) (fun cdv A outer s H vs Q E hr h => ?_)
  · obtain ⟨n, p, B, rfl, _⟩ := h
    rfl
  · obtain ⟨n, p, B, rfl, lp, lB, n1, n60, b60, short, ltx, ok, okr, k⟩ := h
    refine ⟨_, (pss_cons (ps_if (pt_not (pt_val (pe_callB call_isi (by rfl) T.z_isinstance (by decide +kernel) (pa_cons (pv 1) (pa_cons (pe_bltn (v := .ty "str") (by rfl) T.z_str (by decide +kernel) rfl) pa_nil))))) (pss_one ps_never) pss_nil)
      (pss_cons (ps_set (i := 2) sc_Factors_read.nd rfl (Or.inl rfl) (pe_callHas g_read_vectors (hr.mono (by decide)) rfl (pa_cons (pe_split (pv 1) pe_str) pa_nil)))
      (pss_one (ps_ret (pe_makeV (i := 0) MD g_factors (hr.mono (by decide)) rfl (Or.inl rfl) bF .nil pass0 (pa_cons (pe_callB call_len (by rfl) T.z_len (by decide +kernel) (pa_cons (pe_ix ix_list (pv 2) pe_int (fun _ _ => rfl)) pa_nil)) (pa_cons (pe_ix ix_list (pv 2) pe_int (fun _ _ => rfl)) (pa_cons (pe_slice sl_list (pv 2) (po_some pe_int) po_none) pa_nil)))))))), ?_⟩
    refine ⟨_, rfl, _, _, _, _, true, rfl, .ty _, .base (.str _), kit_ty (by decide +kernel), _, rfl, ?_⟩
    refine ⟨_, rfl, ⟨_, rfl⟩, _, _, rfl, rfl, by decide +kernel, Nat.le_trans (Nat.add_le_add_right ltx 2) (by decide), fun c hc => ?_⟩
    obtain ⟨sc, hc'⟩ := new_at (o := .lst ((Txt.split (RD.textP p B) (Str.ofString " ")).map V.str)) hc
    have pne : p ≠ [] := fun e => by rw [e] at lp; rw [← lp] at n1; exact absurd n1 (by decide)
    rw [RD.split_text pne fun v hv e => by have := lB v hv; rw [e] at this; rw [← this] at n1; exact absurd n1 (by decide)] at hc' sc ⊢
    refine ⟨c, n, p, B, rfl, hc', lp, lB, n1, n60, b60, short, fun H1 r as s1 hr1 hrs => ?_⟩
    cases as with
    | nil => exact (nomatch hrs.1)
    | cons a0 as =>
    obtain ⟨h0, hrs1⟩ : (∃ b, a0 = .ref b ∧ IsV H1 b p) ∧ Rows H1 n as B := by
      cases hrs.1 with
      | cons x y => exact ⟨x, y, lB⟩
    obtain ⟨b0, rfl, h0⟩ := h0
    refine ⟨rfl, ?_⟩
    refine ⟨_, rfl, r, _, _, _, rfl, rfl, SqL.of hr1, atI_head _ _, _, _, rfl, .inr ⟨_, SqT.of h0, rfl⟩, ?_⟩
    refine ⟨_, rfl, r, _, _, _, rfl, rfl, SqL.of hr1, atI_head _ _, ?_⟩
    refine ⟨_, rfl, _, rfl, r, _, rfl, SqL.of hr1, fun c2 hc2 => ?_⟩
    obtain ⟨s2, hc2'⟩ := new_at (o := .lst (cutV (V.ref b0 :: as) (some 1) none)) hc2
    rw [cutV1] at hc2' s2 ⊢
    refine fun x dx hx hdx ndx => ?_
    rw [List.length_map, lp]
    have so : ∀ {H3 : Hp}, H3 x = none → H3 dx = none → Same H3 (upd (upd H3 dx (.own x)) x (.ins D dx [])) := fun {H3} hx hdx z o h => by
      rw [upd_ne (ne_of_none h hx), upd_ne (ne_of_none h hdx)]; exact h
    have s3 := so hx hdx
    refine ⟨x, dx, c2, n, .ref b0, some p, as, B, rfl, upd_same, n1, by omega, by omega, .inl (s3 _ _ hc2'), hrs1.keep (s2.trans s3), ok, ⟨b0, rfl, s3 _ _ (s2 _ _ h0), lp⟩, (fun v e => by cases e; exact okr), fun H' kp fac => ⟨rfl, k _ x (fun y o h => ?_) fac⟩⟩
    have h4 := s2 _ _ (s1 _ _ (sc _ _ h))
    exact kp y o (ne_of_none h4 hx) (s3 _ _ h4)
abbrev s_written : Stmt := top 10
abbrev n_written : List Str := ["vector", "number"]
theorem sc_written : FnScope n_written ["vector"] (defScope s_written) := ⟨rfl, rfl, rfl, by decide +kernel, rfl, by decide +kernel, by decide +kernel⟩
def Num1 (v : Vec) : Prop := ∀ i ∈ v, i.natAbs.log2 < 1920
def spWritten : Sp := fun vs H Q _ => ∃ (a : Addr) (v : Vec), vs = [.ref a] ∧ IsV H a v ∧ v.length ≤ 1000 ∧ Num1 v ∧ ∀ H', Same H H' → Q (.str (wS v)) H'
theorem ok_written (T : TxtS mg) (F : DefAt K mg "written" s_written ["vector"]) : Has P w K mg base 1 "written" ["vector"] spWritten := by
  refine F.has sc_written (fun vs H Q E h => ?_) (fun f cdv A outer s H vs Q E hr h => ?_)
  · obtain ⟨a, v, rfl, _⟩ := h
    rfl
  · obtain ⟨a, v, rfl, ha, l1, n1, k⟩ := h
    refine ⟨_, (pss_one (ps_ret (pe_join pe_str (pe_lc (own := [("number", 1)]) (g := gName 1) (by rfl) sc_written.nd (pi_tup (pv 0)) (blkOk_by (own := [("number", 1)]) (N := n_written) (sc := defScope s_written) (by decide +kernel)) (fun _ _ _ _ _ => (pg_name (i := 1) sc_written.nd rfl (Or.inl rfl))) (fun _ _ _ _ _ => pts_nil) (fun _ _ _ _ _ => (pe_callTy call_str_int (by rfl) T.z_str (by decide +kernel) (pa_cons (pv 1) pa_nil))))))), ?_⟩
    have el : (v.map V.int).length = v.length := List.length_map _
    refine ⟨⟨_, rfl⟩, _, rfl, a, rfl, ⟨_, SqT.of ha⟩, fun D hD => lc_it (walk_tup (xs := v.map V.int)) (fun i H' => Same H H' ∧ H' D = some (.lst ((v.take i).map fun z => V.str (iS z)))) ⟨(new_at hD).1, upd_same⟩ (fun i H' _ q => SqT.of (q.1 _ _ ha)) ?_ ?_⟩
    · rintro i y H' H'' hi ⟨sm, hD'⟩ ⟨rfl, e1⟩
      rw [List.getElem?_map] at e1
      obtain ⟨z, ez, rfl⟩ := Option.map_eq_some_iff.mp e1
      refine ⟨rfl, _, rfl, z, rfl, n1 z (List.mem_of_getElem? ez), _, hD', ?_, fun y o w => by rw [upd_ne (ne_of_none w hD)]; exact sm _ _ w, ?_⟩
      · rw [List.length_map]
        exact Nat.lt_of_le_of_lt (Nat.le_trans (List.length_take_le' _ _) l1) (by decide)
      · rw [upd_same, List.take_add_one, ez, List.map_append]; rfl
    · rintro H' ⟨sm, hD'⟩
      rw [el, List.take_length] at hD'
      have hs := iSs_len n1
      refine ⟨_, D, v.map iS, rfl, rfl, .inl (SqL.of (by rw [List.map_map]; exact hD')), ?_, k _ sm⟩
      rw [List.length_map, show (Str.ofString " ").length = 1 by decide +kernel]
      omega
abbrev s_Factors_str : Stmt := inClass (top 33) 13
abbrev n_Factors_str : List Str := ["self", "row"]
theorem sc_Factors_str : FnScope n_Factors_str ["self"] (defScope s_Factors_str) := ⟨rfl, rfl, rfl, by decide +kernel, rfl, by decide +kernel, by decide +kernel⟩
def spStrF (D : Addr) : Sp := fun vs H Q _ => ∃ (x : Addr) (n : Nat) (o : Option Vec) (B : List Vec), vs = [.ref x] ∧ FacAt D H x n o B ∧ n ≤ 60 ∧ B.length ≤ 60 ∧ (∀ p, o = some p → Num1 p) ∧ (∀ v ∈ B, Num1 v) ∧ ∀ H', Same H H' → Q (.str (textO o B)) H'
theorem ok_strF {D fS : Addr} {fd : FuncData} (T : TxtS mg) (DL : ClsF K mg D) (g_written : Has P w K mg base 1 "written" ["vector"] spWritten) (F : Fun K "__str__" "Factors.__str__" s_Factors_str fS fd) : FnOk P w K mg base CX0 2 fS fd ["self"] (spStrF D) := by
  refine F.ok sc_Factors_str (fun vs H Q E h => ?_) (fun cdv A outer s H vs Q E hr h => ?_)
  · obtain ⟨x, n, o, B, rfl, _⟩ := h
    rfl
  · obtain ⟨x, n, o, B, rfl, ⟨dx, b, w0, os, hx, hb, hos, hpt⟩, n60, b60, np, nB, k⟩ := h
    refine ⟨_, (pss_cons (ps_if (pt_cmpR op_isN (pe_fld (pv 0) rfl) pe_non (nomark _)) (pss_one (ps_ret pe_str)) pss_nil)
      (pss_one (ps_ret (pe_join pe_str (pe_lc (own := [("row", 1)]) (g := gName 1) (by rfl) sc_Factors_str.nd (pi_list (pe_lst (pa_cons (pe_fld (pv 0) rfl) (StX.pa_star (pe_fld (pv 0) rfl) pa_nil)))) (blkOk_by (own := [("row", 1)]) (N := n_Factors_str) (sc := defScope s_Factors_str) (by decide +kernel)) (fun _ _ _ _ _ => (pg_name (i := 1) sc_Factors_str.nd rfl (Or.inl rfl))) (fun _ _ _ _ _ => pts_nil) (fun _ _ _ _ _ => (pe_callHas g_written (hr.mono (by decide)) rfl (pa_cons (pv 1) pa_nil)))))))), ?_⟩
    refine ⟨_, rfl, x, D, dx, _, _, rfl, hx, DL.cl, DL.nP, ff_point _ _ _, rfl, ?_⟩
    cases o with
    | none =>
      cases (show w0 = .non from hpt)
      refine ⟨_, rfl, ?_⟩
      refine iteSe rfl ?_
      exact k _ (Same.refl H)
    | some p =>
      obtain ⟨ap, rfl, hp, lp⟩ := id hpt
      refine ⟨_, rfl, ?_⟩
      refine iteSf rfl ?_
      have los := hos.len
      refine ⟨⟨_, rfl⟩, _, rfl, x, D, dx, _, _, rfl, hx, DL.cl, DL.nP, ff_point _ _ _, _, rfl, x, D, dx, _, _, rfl, hx, DL.cl, DL.nB, ff_basis _ _ _, b, os, rfl, .inl (SqT.of hb), ?_⟩
      refine ⟨?_, fun l hl => ?_⟩
      · exact Nat.le_trans (show (V.ref ap :: (os ++ [])).length ≤ 61 by rw [List.length_cons, List.append_nil]; omega) (by decide)
      rw [List.append_nil]
      obtain ⟨s1, hl1⟩ := new_at (o := .lst (V.ref ap :: os)) hl
      have hos2 : Rows H n (V.ref ap :: os) (p :: B) := ⟨.cons ⟨ap, rfl, hp⟩ hos.1, fun v hv => (List.mem_cons.mp hv).elim (fun e => e ▸ lp) (hos.2 v)⟩
      have num : ∀ v ∈ p :: B, Num1 v := fun v hv => (List.mem_cons.mp hv).elim (fun e => e ▸ np p rfl) (nB v)
      have l61 : (p :: B).length ≤ 61 := by rw [List.length_cons]; omega
      refine ⟨l, rfl, ⟨_, SqL.of hl1⟩, fun D2 hD => lc_it (walk_list (xs := V.ref ap :: os)) (fun i H' => Same (upd H l (.lst (V.ref ap :: os))) H' ∧ H' D2 = some (.lst (((p :: B).take i).map fun z => V.str (wS z)))) ⟨(new_at hD).1, upd_same⟩ (fun i H' _ q => SqL.of (q.1 _ _ hl1)) ?_ ?_⟩
      · rintro i y H' H'' hi ⟨sm, hD'⟩ ⟨rfl, e1⟩
        obtain ⟨a, r, er, rfl, hr0, lr⟩ := (hos2.keep (s1.trans sm)).at e1
        refine ⟨rfl, _, rfl, a, r, rfl, hr0, by omega, num r (List.mem_of_getElem? er), fun H2 s2 => ⟨_, s2 _ _ hD', ?_, fun y o w => by rw [upd_ne (ne_of_none w hD)]; exact s2 _ _ (sm _ _ w), ?_⟩⟩
        · rw [List.length_map]
          exact Nat.lt_of_le_of_lt (Nat.le_trans (List.length_take_le' _ _) l61) (by decide)
        · rw [upd_same, List.take_add_one, er, List.map_append]; rfl
      · rintro H' ⟨sm, hD'⟩
        rw [hos2.len, List.take_length] at hD'
        have hs := wSs_len (B := p :: B) (n := n) fun v hv => ⟨hos2.2 v hv, num v hv⟩
        refine ⟨_, D2, (p :: B).map wS, rfl, rfl, .inl (SqL.of (by rw [List.map_map]; exact hD')), ?_, k _ (s1.trans sm)⟩
        rw [List.length_map, show (Str.ofString " + ").length = 3 by decide +kernel]
        have := Nat.mul_le_mul (show 1922 * n ≤ 1922 * 60 by omega) l61
        omega
end
end K06

namespace L2
open PySem PySem.Spec PyProof.Rows
section
variable {X : Cx} {CX : CXT} {C g : Addr} {k : Nat} {fd : FuncData} {ps : List Str} {sp : Sp} {E : XK}
/-- the truth of an instance with its own __bool__ -/
theorem tru_own (F : FnOk X.prog X.w X.K X.mg X.base CX k g fd ps sp) (hs : PySem.W.findIn X.K (.ref C) "__bool__" = some (some (.ref g))) (hf : PySem.W.isFn X.K (.ref g) = true) (hr : Room (k + 2) X.A) (hb : Binds X.K fd ps []) (hx : Passes CX X E) :
    TruR X (fun x H Q => ∃ a dx fs, x = .ref a ∧ H a = some (.ins C dx fs) ∧ sp [.ref a] H (fun r H' => ∃ c, r = .bl c ∧ Q c H') E) := by
  intro pins s σ H x v Q I rx h
  obtain ⟨a, dx, fs, rfl, ha, q⟩ := h
  cases rx
  obtain ⟨mA, J, _⟩ := ins_get I.hok ha
  obtain ⟨od, J, _⟩ := J.look
  obtain ⟨m, hF⟩ := I.fr
  refine PySem.W.truthy_K hF I.ok.mod.kin J hs hf ?_
  refine run_own1 F (hr.mono (Nat.le_add_right _ _)) rfl hb hx I (show Vals [V.ref a] [Value.ref a] from .cons rfl .nil) q fun w z s' H' I' rz qz => ?_
  obtain ⟨c, rfl, qc⟩ := qz
  cases rz
  exact ⟨H', I', qc⟩
end
end L2

namespace K06
open PySem L2 RZ Lat
theorem PtAt.but {b : Addr} {H H' : Hp} {n : Nat} {w0 : V} {o : Option Vec} (hb : Box H b) (s : But b H H') (h : PtAt H n w0 o) : PtAt H' n w0 o := by
  cases o with
  | none => exact h
  | some v =>
    obtain ⟨p, e, q, l⟩ := h
    obtain ⟨y1, y2, y3, hb⟩ := hb
    exact ⟨p, e, s _ _ (ne_of q hb fun z => nomatch z) q, l⟩
theorem FacAt.but {b D : Addr} {H H' : Hp} {x : Addr} {n : Nat} {o : Option Vec} {B : List Vec} (hb : Box H b) (s : But b H H') (h : FacAt D H x n o B) : FacAt D H' x n o B := by
  obtain ⟨dx, c, w0, os, h1, h2, h3, h4⟩ := h
  obtain ⟨y1, y2, y3, hb'⟩ := id hb
  exact ⟨dx, c, w0, os, s _ _ (ne_of h1 hb' fun z => nomatch z) h1, s _ _ (ne_of h2 hb' fun z => nomatch z) h2, h3.but hb s, h4.but hb s⟩
theorem PtAt.lst {D : Addr} {xs : List V} {H H' : Hp} {n : Nat} {w0 : V} {o : Option Vec} (hD : H D = some (.lst xs)) (s : But D H H') (h : PtAt H n w0 o) : PtAt H' n w0 o := by
  cases o with
  | none => exact h
  | some v =>
    obtain ⟨p, e, q, l⟩ := h
    exact ⟨p, e, s _ _ (ne_of q hD fun z => nomatch z) q, l⟩
theorem FacAt.lst {D E : Addr} {xs : List V} {H H' : Hp} {x : Addr} {n : Nat} {o : Option Vec} {B : List Vec} (hD : H E = some (.lst xs)) (s : But E H H') (h : FacAt D H x n o B) : FacAt D H' x n o B := by
  obtain ⟨dx, c, w0, os, h1, h2, h3, h4⟩ := h
  exact ⟨dx, c, w0, os, s _ _ (ne_of h1 hD fun z => nomatch z) h1, s _ _ (ne_of h2 hD fun z => nomatch z) h2, h3.lst hD s, h4.lst hD s⟩
/-- what stands of one turn -/
structure B12 (b D : Addr) (n : Nat) (x l r : Addr) (as : List V) (F : List Vec) (rb : Vec) (H : Hp) : Prop where
  bx : Box H b
  hl : H l = some (.lst as)
  rows : Rows H n as F
  hr : IsL H r rb
  fx : FF D H x n F rb
  lb : l ≠ b
  rb' : r ≠ b
section
variable {b D e : Addr} {xs : List V} {n : Nat} {x l r : Addr} {as : List V} {F : List Vec} {rb : Vec} {H H' : Hp}
theorem B12.keep (h : B12 b D n x l r as F rb H) (s : Same H H') : B12 b D n x l r as F rb H' :=
  ⟨h.bx.keep s, s _ _ h.hl, h.rows.keep s, s _ _ h.hr, h.fx.keep s, h.lb, h.rb'⟩
theorem B12.but (h : B12 b D n x l r as F rb H) (s : But b H H') (hb : Box H' b) : B12 b D n x l r as F rb H' :=
  ⟨hb, s _ _ h.lb h.hl, h.rows.but h.bx s, s _ _ h.rb' h.hr, ⟨h.fx.1.but h.bx s, h.fx.2⟩, h.lb, h.rb'⟩
theorem B12.lst (he : H e = some (.lst xs)) (s : But e H H') (nb : b ≠ e) (nl : l ≠ e) (nr : r ≠ e) (h : B12 b D n x l r as F rb H) : B12 b D n x l r as F rb H' := by
  obtain ⟨y1, y2, y3, hb⟩ := h.bx
  exact ⟨⟨y1, y2, y3, s _ _ nb hb⟩, s _ _ nl h.hl, h.rows.lst he s, s _ _ nr h.hr, ⟨h.fx.1.lst he s, h.fx.2⟩, h.lb, h.rb'⟩
end
theorem within_itm2 {B : Int} {v : Vec} (h : Within B v) (h0 : 0 ≤ B) (i : Nat) : -B ≤ itm v i ∧ itm v i ≤ B := by
  by_cases hi : i < v.length
  · exact h _ (List.mem_of_getElem? (itm_of hi))
  · rw [itm_out (by omega)]; omega
theorem rowAt_at {F : List Vec} {j : Nat} {v : Vec} (h : F[j]? = some v) : rowAt F j = v := by
  unfold rowAt; rw [List.getD_eq_getElem?_getD, h]; rfl
theorem atI_nat {xs : List V} {j : Nat} {v : V} (h : xs[j]? = some v) : atI xs ((j : Nat) : Int) = some v := by
  have hj : j < xs.length := (List.getElem?_eq_some_iff.mp h).1
  unfold atI ixN
  rw [if_pos (Int.natCast_nonneg _), if_pos (by omega), Int.toNat_natCast]
  exact h
section
variable {P : Program} {w : World} {K : PySem.W.Frag} {mg : Str → Option Value} {base : Heap}
abbrev s_law_more_right : Stmt := top 51
abbrev n_law_more_right : List Str := ["_law_box_here", "_law_shapes", "_law_rights", "_law_made", "_law_width", "_law_at", "_law_to", "_law_times", "_law_row", "_law_right", "_law_wide", "_law_sums", "_law_shape", "_law_one", "_law_much", "_law_here", "_law_there", "_law_number_here"]
theorem sc_law_more_right : FnScope n_law_more_right ["_law_box_here", "_law_shapes", "_law_rights", "_law_made"] (defScope s_law_more_right) := ⟨rfl, rfl, rfl, by decide +kernel, rfl, by decide +kernel, by decide +kernel⟩
def spMore (D : Addr) : Sp := fun vs H Q _ => ∃ (b l r x : Addr) (n : Nat) (as : List V) (F : List Vec) (rb : Vec), vs = [.ref b, .ref l, .ref r, .ref x] ∧ B12 b D n x l r as F rb H ∧ 1 ≤ F.length ∧ F.length ≤ 4 ∧ (∀ v ∈ F, Within 300 v) ∧ Within 20000 rb ∧ ∀ H', But b H H' → Box H' b → Q (.bl true) H'
theorem ok_more {D fE fB pW fW : Addr} {fdE fdB : FuncData} {mcD : Value} (T : Txt mg) (DL : ClsF K mg D) (TD : ClsT K D) (hsE : PySem.W.findIn K (.ref D) "__eq__" = some (some (.ref fE))) (fnE : PySem.W.isFn K (.ref fE) = true) (g_eq : FnOk P w K mg base CX0 1 fE fdE ["self", "other"] (spEqF D)) (bE : Binds K fdE ["self", "other"] [])
    (hsB : PySem.W.findIn K (.ref D) "__bool__" = some (some (.ref fB))) (fnB : PySem.W.isFn K (.ref fB) = true) (g_bool : FnOk P w K mg base CX0 1 fB fdB ["self"] (spBoolF D)) (bB : Binds K fdB ["self"] [])
    (RD : ClX.CRead K D mcD) (CS : ClX.CMet K D mcD "solving" pW fW) (g_solving : FnR P w K mg base CX0 10 fW (spSolving K D))
    (g_law_take : Has P w K mg base 1 "_law_take" ["_law_box_here", "_law_many"] spTake)
    (F : DefAt K mg "_law_more_right" s_law_more_right ["_law_box_here", "_law_shapes", "_law_rights", "_law_made"]) : Has P w K mg base 11 "_law_more_right" ["_law_box_here", "_law_shapes", "_law_rights", "_law_made"] (spMore D) := by
  refine F.has sc_law_more_right (fun vs H Q E h => ?_) (fun f cdv A outer s H vs Q E hr h => ?_)
  · obtain ⟨b, l, r, x, n, as, F, rb, rfl, _⟩ := h
    rfl
  · obtain ⟨b, l, r, x, n, as, F, rb, rfl, B, m1, m4, wF, wrb, k⟩ := h
    refine ⟨_, (pss_cons (ps_asg (pe_tup (pa_cons (pe_fld (pv 3) rfl) (pa_cons (pe_callHas g_law_take (hr.mono (by decide)) rfl (pa_cons (pv 0) (pa_cons (pe_callB call_len (by rfl) T.z_len (by decide +kernel) (pa_cons (pv 1) pa_nil)) pa_nil))) (pa_cons (pe_callHas g_law_take (hr.mono (by decide)) rfl (pa_cons (pv 0) (pa_cons (pe_callB call_len (by rfl) T.z_len (by decide +kernel) (pa_cons (pv 1) pa_nil)) pa_nil))) (pa_cons (pe_op op_sub (pe_callHas g_law_take (hr.mono (by decide)) rfl (pa_cons (pv 0) (pa_cons pe_int pa_nil))) pe_int) pa_nil))))) (pg_tup rfl (pgs_cons (pg_name (i := 4) sc_law_more_right.nd rfl (Or.inl rfl)) (pgs_cons (pg_name (i := 5) sc_law_more_right.nd rfl (Or.inl rfl)) (pgs_cons (pg_name (i := 6) sc_law_more_right.nd rfl (Or.inl rfl)) (pgs_cons (pg_name (i := 7) sc_law_more_right.nd rfl (Or.inr rfl)) pgs_nil))))))
      (pss_cons (ps_set (i := 8) sc_law_more_right.nd rfl (Or.inl rfl) (pe_callTy call_tuple_of (by rfl) T.z_tuple (by decide +kernel) (pa_cons (pe_lc (own := [("_law_here", 15), ("_law_there", 16)]) (g := gTup K 2 (gCons (gName 15) (gCons (gName 16) gNil))) (by rfl) sc_law_more_right.nd (pi_zipA (by rfl) T.z_zip (pa_cons (pe_ix ix_list (pv 1) (pv 5) (fun _ _ => rfl)) (pa_cons (pe_ix ix_list (pv 1) (pv 6) (fun _ _ => rfl)) pa_nil))) (blkOk_by (own := [("_law_here", 15), ("_law_there", 16)]) (N := n_law_more_right) (sc := defScope s_law_more_right) (by decide +kernel)) (fun _ _ _ _ _ => (pg_tup rfl (pgs_cons (pg_name (i := 15) sc_law_more_right.nd rfl (Or.inl rfl)) (pgs_cons (pg_name (i := 16) sc_law_more_right.nd rfl (Or.inl rfl)) pgs_nil)))) (fun _ _ _ _ _ => pts_nil) (fun _ _ _ _ _ => (pe_op op_add (pv 15) (pe_op op_mulX (pv 7) (pv 16))))) pa_nil)))
      (pss_cons (ps_set (i := 9) sc_law_more_right.nd rfl (Or.inl rfl) (pe_op op_add (pe_ix ix_list (pv 2) (pv 5) (fun _ _ => rfl)) (pe_op op_mulX (pv 7) (pe_ix ix_list (pv 2) (pv 6) (fun _ _ => rfl)))))
      (pss_cons (ps_if (pt_cmpR (op_neO TD.two g_eq hsE fnE (hr.mono (by decide)) bE pass0) (ClX.pe_cmeth (pe_glob (v := .ref D) rfl DL.m rfl) RD CS g_solving (hr.mono (by decide)) pass0 (pa_cons (pv 4) (pa_cons (pe_op op_cat (pv 1) (pe_lst (pa_cons (pv 8) pa_nil))) (pa_cons (pe_op op_cat (pv 2) (pe_lst (pa_cons (pv 9) pa_nil))) pa_nil)))) (pv 3) (nomark _)) (pss_one (ps_ret pe_bl)) pss_nil)
      (C8.pss_cut (ps_if (PW.pt (pw_and (pt_truthR (pv 3) (tru_own g_bool hsB fnB (hr.mono (by decide)) bB pass0) (fun _ => rfl)) (pw_and1 (pt_truthR (ClX.pe_cmeth (pe_glob (v := .ref D) rfl DL.m rfl) RD CS g_solving (hr.mono (by decide)) pass0 (pa_cons (pv 4) (pa_cons (pe_op op_cat (pv 1) (pe_lst (pa_cons (pv 8) pa_nil))) (pa_cons (pe_op op_cat (pv 2) (pe_lst (pa_cons (pe_op op_add (pv 9) pe_int) pa_nil))) pa_nil)))) (tru_own g_bool hsB fnB (hr.mono (by decide)) bB pass0) (fun _ => rfl))))) (pss_one (ps_ret pe_bl)) pss_nil)
      (pss_cons (ps_par (i := 10) (j := 11) (by rfl) sc_law_more_right.nd rfl rfl (by decide) rfl rfl (pa_cons (pe_lst pa_nil) (pa_cons (pe_lst pa_nil) pa_nil)) (by rfl))
      (pss_cons (ps_for PassesOwn.never rfl (pi_zipA (by rfl) T.z_zip (pa_cons (pv 1) (pa_cons (pv 2) pa_nil))) (pg_tup rfl (pgs_cons (pg_name (i := 12) sc_law_more_right.nd rfl (Or.inl rfl)) (pgs_cons (pg_name (i := 13) sc_law_more_right.nd rfl (Or.inl rfl)) pgs_nil))) (pss_cons (ps_set (i := 14) sc_law_more_right.nd rfl (Or.inr rfl) (pe_op op_add pe_int (pe_callHas g_law_take (hr.mono (by decide)) rfl (pa_cons (pv 0) (pa_cons pe_int pa_nil)))))
      (pss_cons (ps_expr (pe_bm PySem.F.plainAttrs_list PySem.F.slot_list_append PySem.F.type_list_append mt_append (pv 10) (pa_cons (pe_callTy call_tuple_of (by rfl) T.z_tuple (by decide +kernel) (pa_cons (pe_lc (own := [("_law_number_here", 17)]) (g := gName 17) (by rfl) sc_law_more_right.nd (pi_tup (pv 12)) (blkOk_by (own := [("_law_number_here", 17)]) (N := n_law_more_right) (sc := defScope s_law_more_right) (by decide +kernel)) (fun _ _ _ _ _ => (pg_name (i := 17) sc_law_more_right.nd rfl (Or.inl rfl))) (fun _ _ _ _ _ => pts_nil) (fun _ _ _ _ _ => (pe_op op_mulX (pv 14) (pv 17)))) pa_nil)) pa_nil)))
      (pss_one (ps_expr (pe_bm PySem.F.plainAttrs_list PySem.F.slot_list_append PySem.F.type_list_append mt_append (pv 11) (pa_cons (pe_op op_mulX (pv 14) (pv 13)) pa_nil)))))))
      (pss_one (ps_ret (pe_cmpR (op_cmpO (op := .Eq) (nm := "__eq__") rfl (fun _ _ => rfl) g_eq hsE fnE (hr.mono (by decide)) bE pass0) (ClX.pe_cmeth (pe_glob (v := .ref D) rfl DL.m rfl) RD CS g_solving (hr.mono (by decide)) pass0 (pa_cons (pv 4) (pa_cons (pv 10) (pa_cons (pv 11) pa_nil)))) (pv 3) (nomark _))))))))))), ?_⟩
    obtain ⟨dx, b0, w0, os, hx, _⟩ := id B.fx.1
    have las := B.rows.len
    have lrb : rb.length = F.length := B.fx.2.lb
    refine ⟨_, rfl, x, D, dx, _, _, rfl, hx, DL.cl, DL.nW, ff_width _ _ _, ?_⟩
    refine ⟨_, rfl, _, rfl, _, _, rfl, .inl ⟨_, SqL.of B.hl, rfl⟩, b, _, rfl, B.bx, by omega, by omega, fun a u1 u2 u3 a0 a1 => ?_⟩
    have B1 := B.but (But.upd' (o := .lst [.int u1, .int u2, .int u3])) Box.upd'
    refine ⟨_, rfl, _, rfl, _, _, rfl, .inl ⟨_, SqL.of B1.hl, rfl⟩, b, _, rfl, B1.bx, by omega, by omega, fun c u4 u5 u6 c0 c1 => ?_⟩
    have B2 := B1.but (But.upd' (o := .lst [.int u4, .int u5, .int u6])) Box.upd'
    refine ⟨_, rfl, b, 5, rfl, B2.bx, by decide, by decide, fun t u7 u8 u9 t0 t1 => ⟨_, _, rfl, rfl, ?_⟩⟩
    have B3 := B2.but (But.upd' (o := .lst [.int u7, .int u8, .int u9])) Box.upd'
    have bu3 : But b H (upd (upd (upd H b (.lst [.int u1, .int u2, .int u3])) b (.lst [.int u4, .int u5, .int u6])) b (.lst [.int u7, .int u8, .int u9])) := But.upd'.trans (But.upd'.trans But.upd')
    generalize upd (upd (upd H b (.lst [.int u1, .int u2, .int u3])) b (.lst [.int u4, .int u5, .int u6])) b (.lst [.int u7, .int u8, .int u9]) = H3 at B3 bu3 ⊢
    clear B1 B2
    refine ⟨(by decide : 4 ≤ sizeLine), fun q hq => ?_⟩
    obtain ⟨s4, hq4⟩ := new_at (o := .tup [V.int ((n : Nat) : Int), V.int a, V.int c, V.int (t - 2)]) hq
    have B4 := B3.keep s4
    have bu4 := bu3.trans (Same.but s4)
    refine ⟨q, _, rfl, SqT.of hq4, rfl, _, _, rfl, _, _, rfl, _, _, rfl, _, _, rfl, rfl, ?_⟩
    clear hq4 s4 B3 bu3 hq
    generalize upd H3 q _ = H4 at *
    obtain ⟨ia, rfl⟩ : ∃ ia : Nat, a = ((ia : Nat) : Int) := ⟨a.toNat, by omega⟩
    obtain ⟨ic, rfl⟩ : ∃ ic : Nat, c = ((ic : Nat) : Int) := ⟨c.toNat, by omega⟩
    obtain ⟨va, ea⟩ : ∃ va, F[ia]? = some va := ⟨_, List.getElem?_eq_getElem (by omega)⟩
    obtain ⟨vc, ec⟩ : ∃ vc, F[ic]? = some vc := ⟨_, List.getElem?_eq_getElem (by omega)⟩
    have hia : ia < F.length := by omega
    have hic : ic < F.length := by omega
    obtain ⟨ya, eya⟩ : ∃ y, as[ia]? = some y := ⟨_, List.getElem?_eq_getElem (by omega)⟩
    obtain ⟨yc, eyc⟩ : ∃ y, as[ic]? = some y := ⟨_, List.getElem?_eq_getElem (by omega)⟩
    obtain ⟨aa, va', ea', rfl, hva, lva⟩ := B4.rows.at eya
    obtain ⟨ac, vc', ec', rfl, hvc, lvc⟩ := B4.rows.at eyc
    obtain rfl : va' = va := Option.some.inj (ea'.symm.trans ea)
    obtain rfl : vc' = vc := Option.some.inj (ec'.symm.trans ec)
    have wa := wF _ (List.mem_of_getElem? ea)
    have wc := wF _ (List.mem_of_getElem? ec)
    have t2 : -2 ≤ t - 2 ∧ t - 2 ≤ 2 := by omega
    generalize t - 2 = tt at t2 ⊢
    have lz := lva.trans lvc.symm
    have la : (addV va' tt vc').length = va'.length := addV_len lz
    have ln : min (va'.map V.int).length (vc'.map V.int).length = va'.length := by rw [List.length_map, List.length_map, lz, Nat.min_self]
    have n4 := B.fx.2.n4
    have h1 : va'.length ≤ 1000 := by omega
    have hm : ∀ m ∈ vc', CMulX tt m := fun m hm => cmul_small (by omega) (by have := wc m hm; omega)
    -- the sum
    refine ⟨_, rfl, _, rfl, l, _, _, _, rfl, rfl, SqL.of B4.hl, atI_nat eya, _, rfl, _, rfl, l, _, _, _, rfl, rfl, SqL.of B4.hl, atI_nat eyc, ?_⟩
    refine ⟨aa, ac, _, _, rfl, .inr ⟨SqT.of hva, SqT.of hvc, fun D1 hD => lc_it (walk_zipT (xs := va'.map V.int) (ys := vc'.map V.int) ln.symm) (fun i H' => Same H4 H' ∧ H' D1 = some (.lst (((addV va' tt vc').take i).map V.int))) ⟨(new_at hD).1, upd_same⟩ (fun i H' _ q => ⟨SqT.of (q.1 _ _ hva), SqT.of (q.1 _ _ hvc)⟩) ?_ ?_⟩⟩
    · rintro i x H' H'' hi ⟨sm, hD'⟩ ⟨q, y1, y2, rfl, hq, rfl, e1, e2⟩
      obtain ⟨n, en, rfl⟩ := map_at e1
      obtain ⟨m, em, rfl⟩ := map_at e2
      refine ⟨q, _, rfl, SqT.of upd_same, rfl, _, _, rfl, _, _, rfl, rfl, rfl, ?_⟩
      refine ⟨_, rfl, _, rfl, _, rfl, _, _, rfl, rfl, hm m (List.mem_of_getElem? em), _, _, rfl, rfl, ?_⟩
      have nDq : D1 ≠ q := ne_of_none hD' hq
      refine ⟨_, (upd_ne nDq).trans hD', by rw [List.length_map, List.length_take]; exact Nat.lt_of_le_of_lt (Nat.le_trans (Nat.min_le_right _ _) (la ▸ h1)) (by decide), fun x o z => ?_, ?_⟩
      · rw [upd_ne (ne_of_none z hD)]
        exact (new_at hq).1 _ _ (sm _ _ z)
      · rw [upd_same, take_snoc (n := n + tt * m)]
        unfold addV
        rw [List.getElem?_zipWith, en, em]
    rintro H5 ⟨sm5, hD5⟩
    rw [show va'.length = (addV va' tt vc').length from la.symm, List.take_length] at hD5
    refine ⟨_, _, rfl, .inl ⟨SqL.of hD5, fun q hq => ?_⟩⟩
    obtain ⟨s6, hv6⟩ := new_at (o := .tup ((addV va' tt vc').map V.int)) hq
    have B6 := B4.keep (sm5.trans s6)
    have bu6 := bu4.trans (Same.but (sm5.trans s6))
    clear hD5 sm5 s6 hq
    generalize upd H5 q _ = H6 at *
    have era : (rb.map V.int)[ia]? = some (V.int (itm rb ia)) := by rw [List.getElem?_map, itm_of (by omega)]; rfl
    have erc : (rb.map V.int)[ic]? = some (V.int (itm rb ic)) := by rw [List.getElem?_map, itm_of (by omega)]; rfl
    have wra := wrb _ (List.mem_of_getElem? (itm_of (v := rb) (i := ia) (by omega)))
    have wrc := wrb _ (List.mem_of_getElem? (itm_of (v := rb) (i := ic) (by omega)))
    refine ⟨_, rfl, _, rfl, r, _, _, _, rfl, rfl, SqL.of B6.hr, atI_nat era, _, rfl, _, rfl, _, rfl, r, _, _, _, rfl, rfl, SqL.of B6.hr, atI_nat erc, _, _, rfl, rfl, cmul_small (by omega) (by omega), _, _, rfl, rfl, ?_⟩
    have rowA : rowAt F ia = va' := rowAt_at ea
    have rowC : rowAt F ic = vc' := rowAt_at ec
    have lv : (addV va' tt vc').length = n := la.trans lva
    have wv : ∀ i, (itm (addV va' tt vc') i).natAbs ≤ 2 ^ 30 := fun i => by
      rw [itm_add lz]
      have h1 := within_itm2 wa (by decide) i
      have h2 := within_itm2 wc (by decide) i
      have e : (2 : Nat) ^ 30 = 1073741824 := by decide
      rw [e]
      have : tt = -2 ∨ tt = -1 ∨ tt = 0 ∨ tt = 1 ∨ tt = 2 := by omega
      rcases this with e | e | e | e | e <;> subst e <;> omega
    have ctt : -40000 ≤ tt * itm rb ic ∧ tt * itm rb ic ≤ 40000 := by
      have : tt = -2 ∨ tt = -1 ∨ tt = 0 ∨ tt = 1 ∨ tt = 2 := by omega
      rcases this with e | e | e | e | e <;> subst e <;> omega
    have al : ∀ y : Int, -70000 ≤ y → y ≤ 70000 → Al n (F ++ [addV va' tt vc']) (rb ++ [y]) := fun y y0 y1 =>
      al_of B.fx.2.n1 n4 (by rw [List.length_append]; show F.length + 1 ≤ 12; omega) (fun v hv => (List.mem_append.mp hv).elim (B.rows.2 v) fun hv => by rw [List.mem_singleton.mp hv]; exact lv) (by rw [List.length_append, List.length_append, lrb]; rfl)
        (fun v hv => (List.mem_append.mp hv).elim (fun hv => within_30 (wF v hv) (by decide)) fun hv => by rw [List.mem_singleton.mp hv]; exact wv)
        (within_pow (B := 70000) (fun m hm => (List.mem_append.mp hm).elim (fun hm => by have := wrb m hm; omega) fun hm => by rw [List.mem_singleton.mp hm]; omega) (by decide) (by decide))
    obtain ⟨eo, eB⟩ := B.fx.2.more (t := tt) hia hic B.rows.2 (by rw [rowA, rowC]; exact al _ (by omega) (by omega))
    have eN := B.fx.2.contra (t := tt) hia hic B.rows.2 (by rw [rowA, rowC]; exact al _ (by omega) (by omega))
    rw [rowA, rowC] at eo eB eN
    -- the sum changes nothing
    refine ⟨rfl, _, rfl, _, rfl, _, rfl, (by decide : 1 ≤ sizeLine), fun z1 hz1 => ?_⟩
    obtain ⟨s7, hz1'⟩ := new_at (o := .lst [V.ref q]) hz1
    refine ⟨l, z1, as, [V.ref q], rfl, rfl, s7 _ _ B6.hl, hz1', Nat.le_trans (show as.length + 1 ≤ 10 by omega) (by decide), fun z2 hz2 => ?_⟩
    obtain ⟨s8, hz2'⟩ := new_at (o := .lst (as ++ [V.ref q])) hz2
    refine ⟨_, rfl, _, rfl, (by decide : 1 ≤ sizeLine), fun z3 hz3 => ?_⟩
    obtain ⟨s9, hz3'⟩ := new_at (o := .lst [V.int (itm rb ia + tt * itm rb ic)]) hz3
    have s79 := s7.trans (s8.trans s9)
    refine ⟨r, z3, rb.map V.int, [V.int (itm rb ia + tt * itm rb ic)], rfl, rfl, s79 _ _ B6.hr, hz3', Nat.le_trans (show (rb.map V.int).length + 1 ≤ 10 by rw [List.length_map]; omega) (by decide), fun z4 hz4 => ?_⟩
    obtain ⟨s10, hz4'⟩ := new_at (o := .lst (rb.map V.int ++ [V.int (itm rb ia + tt * itm rb ic)])) hz4
    have s710 := s79.trans s10
    refine ⟨z2, z4, n, as ++ [V.ref q], F ++ [addV va' tt vc'], rb ++ [itm rb ia + tt * itm rb ic], rfl, .inl (s10 _ _ (s9 _ _ hz2')), (B6.rows.keep s710).snoc (s710 _ _ hv6) lv, .inr (by show _ = some (HO.lst ((rb ++ [_]).map V.int)); rw [List.map_append]; exact hz4'), (al _ (by omega) (by omega)).ok, fun H8 w8 s11 fac8 => ?_⟩
    have s711 := s710.trans s11
    have B8 := B6.keep s711
    have bu8 := bu6.trans (Same.but s711)
    have hv8 := s711 _ _ hv6
    rw [eo, eB] at fac8
    refine ⟨_, rfl, ne_same fac8 B8.fx.1 ⟨_, rfl, iteSf rfl ?_⟩⟩
    clear s7 s8 s9 s79 s10 s710 s11 s711 fac8 hz1 hz1' hz2 hz2' hz3 hz3' hz4 hz4' eo eB B6 bu6 hv6
    -- a contrary one changes all
    obtain ⟨dx8, gs8, ox8⟩ := B8.fx.1.ins
    refine ⟨fun σ' H' => But b H H' ∧ B12 b D n x l r as F rb H' ∧ σ' = [some (.ref b), some (.ref l), some (.ref r), some (.ref x), some (.int ((n : Nat) : Int)), some (.int ((ia : Nat) : Int)), some (.int ((ic : Nat) : Int)), some (.int tt), some (.ref q), some (.int (itm rb ia + tt * itm rb ic)), none, none, none, none, none, none, none, none], ?_, ?_⟩
    · refine ⟨_, rfl, x, dx8, gs8, rfl, ox8, x, n, _, _, rfl, B8.fx.1, _, rfl, ?_⟩
      cases hs : (solO F n rb).isSome with
      | false => exact iteSf rfl (iteSf rfl ⟨bu8, B8, rfl⟩)
      | true =>
      refine iteSe rfl ?_
      refine ⟨rfl, _, rfl, _, rfl, _, rfl, (by decide : 1 ≤ sizeLine), fun z1 hz1 => ?_⟩
      obtain ⟨s7, hz1'⟩ := new_at (o := .lst [V.ref q]) hz1
      refine ⟨l, z1, as, [V.ref q], rfl, rfl, s7 _ _ B8.hl, hz1', Nat.le_trans (show as.length + 1 ≤ 10 by omega) (by decide), fun z2 hz2 => ?_⟩
      obtain ⟨s8, hz2'⟩ := new_at (o := .lst (as ++ [V.ref q])) hz2
      refine ⟨_, rfl, _, rfl, _, _, rfl, rfl, (by decide : 1 ≤ sizeLine), fun z3 hz3 => ?_⟩
      obtain ⟨s9, hz3'⟩ := new_at (o := .lst [V.int (itm rb ia + tt * itm rb ic + 1)]) hz3
      have s79 := s7.trans (s8.trans s9)
      refine ⟨r, z3, rb.map V.int, [V.int (itm rb ia + tt * itm rb ic + 1)], rfl, rfl, s79 _ _ B8.hr, hz3', Nat.le_trans (show (rb.map V.int).length + 1 ≤ 10 by rw [List.length_map]; omega) (by decide), fun z4 hz4 => ?_⟩
      obtain ⟨s10, hz4'⟩ := new_at (o := .lst (rb.map V.int ++ [V.int (itm rb ia + tt * itm rb ic + 1)])) hz4
      have s710 := s79.trans s10
      refine ⟨z2, z4, n, as ++ [V.ref q], F ++ [addV va' tt vc'], rb ++ [itm rb ia + tt * itm rb ic + 1], rfl, .inl (s10 _ _ (s9 _ _ hz2')), (B8.rows.keep s710).snoc (s710 _ _ hv8) lv, .inr (by show _ = some (HO.lst ((rb ++ [_]).map V.int)); rw [List.map_append]; exact hz4'), (al _ (by omega) (by omega)).ok, fun H9 w9 s11 fac9 => ?_⟩
      have s711 := s710.trans s11
      have B9 := B8.keep s711
      have bu9 := bu8.trans (Same.but s711)
      obtain ⟨dx9, gs9, ox9⟩ := fac9.ins
      refine ⟨w9, dx9, gs9, rfl, ox9, w9, n, _, _, rfl, fac9, _, rfl, ?_⟩
      exact iteSf (by rw [eN]; rfl) ⟨bu9, B9, rfl⟩
    rintro σ' H9 ⟨bu9, B9, rfl⟩
    clear B8 bu8 ox8 hv8 eN al
    refine ⟨Nat.zero_le _, fun l1 hl1 => ?_⟩
    obtain ⟨s10, hl1'⟩ := new_at (o := .lst []) hl1
    refine ⟨Nat.zero_le _, fun l2 hl2 => ?_⟩
    obtain ⟨s11, hl2'⟩ := new_at (o := .lst []) hl2
    have n12 : l1 ≠ l2 := ne_of_none hl1' hl2
    have n1b : l1 ≠ b := B9.bx.ne hl1
    have n2b : l2 ≠ b := (B9.bx.keep s10).ne hl2
    have s1011 := s10.trans s11
    have N1 : H9 l1 = none := hl1
    have N2 : H9 l2 = none := by
      cases e : H9 l2 with
      | none => rfl
      | some o => rw [s10 _ _ e] at hl2; cases hl2
    have ln2 : min as.length (rb.map V.int).length = F.length := by rw [las, List.length_map, lrb, Nat.min_self]
    refine ⟨_, _, rfl, _, rfl, _, rfl, l, r, _, _, rfl, .inl ⟨SqL.of (s1011 _ _ B9.hl), SqL.of (s1011 _ _ B9.hr), for_it (walk_zip (xs := as) (ys := rb.map V.int) ln2.symm) (fun i σ H' => ∃ (us : List V) (W : List Vec) (Sv : Vec) (x12 x13 x14 : Option V), σ = [some (.ref b), some (.ref l), some (.ref r), some (.ref x), some (.int ((n : Nat) : Int)), some (.int ((ia : Nat) : Int)), some (.int ((ic : Nat) : Int)), some (.int tt), some (.ref q), some (.int (itm rb ia + tt * itm rb ic)), some (.ref l1), some (.ref l2), x12, x13, x14, none, none, none] ∧ But b H9 H' ∧ B12 b D n x l r as F rb H' ∧ H' l1 = some (.lst us) ∧ Rows H' n us W ∧ IsL H' l2 Sv ∧ W.length = i ∧ Sv.length = i ∧ (∀ w ∈ W, Within 1500 w) ∧ Within 200000 Sv ∧ ∀ g, Solves W (itm Sv) g ↔ Solves (F.take i) (itm (rb.take i)) g) ⟨[], [], [], _, _, _, rfl, Same.but s1011, B9.keep s1011, s11 _ _ hl1', ⟨.nil, (fun v hv => nomatch hv)⟩, hl2', rfl, rfl, (fun v hv => nomatch hv), (fun v hv => nomatch hv), fun g => Iff.rfl⟩ (fun i σ H' _ z => ?_) ?_ ?_⟩⟩
    · obtain ⟨_, _, _, _, _, _, _, _, BB, _⟩ := z
      exact ⟨SqL.of BB.hl, SqL.of BB.hr⟩
    · rintro i y σ H' H'' hi ⟨us, W, Sv, x12, x13, x14, rfl, bu', B', h1', hus, h2', lW, lS, wW, wS, eq'⟩ ⟨p1, y1, y2, rfl, hp1, rfl, e1, e2⟩
      obtain ⟨ar, v, ev, rfl, hv, lv'⟩ := B'.rows.at e1
      obtain ⟨m, em, rfl⟩ := map_at e2
      have wv' := wF v (List.mem_of_getElem? ev)
      have wm := wrb m (List.mem_of_getElem? em)
      obtain ⟨sp, hp1'⟩ := new_at (o := .tup [V.ref ar, V.int m]) hp1
      refine ⟨p1, _, rfl, SqT.of hp1', rfl, _, _, rfl, _, _, rfl, rfl, ?_⟩
      replace B' := B'.keep sp
      replace h1' := sp _ _ h1'
      replace h2' := sp _ _ h2'
      replace hus := hus.keep sp
      replace bu' := bu'.trans (Same.but sp)
      replace hv := sp _ _ hv
      clear sp hp1' hp1
      generalize upd H' p1 _ = H2 at *
      refine ⟨_, rfl, b, 4, rfl, B'.bx, by decide, by decide, fun d u1 u2 u3 d0 d1 => ⟨_, _, rfl, rfl, ?_⟩⟩
      have nab : ar ≠ b := by
        obtain ⟨y1, y2, y3, hbx⟩ := B'.bx
        exact ne_of hv hbx fun z => nomatch z
      have bu3 : But b H2 (upd H2 b (.lst [.int u1, .int u2, .int u3])) := But.upd'
      replace hus := hus.but B'.bx bu3
      replace B' := B'.but bu3 Box.upd'
      replace h1' := bu3 _ _ n1b h1'
      replace h2' : IsL _ l2 Sv := bu3 _ _ n2b h2'
      replace hv : IsV _ ar v := bu3 _ _ nab hv
      replace bu' := bu'.trans bu3
      clear bu3
      generalize upd H2 b _ = H3 at *
      have md : 2 ≤ 2 + d ∧ 2 + d ≤ 5 := by omega
      show gName 14 (V.int (2 + d)) _ _ _
      generalize 2 + d = mm at md ⊢
      have cm : ∀ z : Int, -20000 ≤ z → z ≤ 20000 → CMulX mm z ∧ -100000 ≤ mm * z ∧ mm * z ≤ 100000 := fun z z0 z1 => ⟨cmul_small (by omega) (by omega), by
        have : mm = 2 ∨ mm = 3 ∨ mm = 4 ∨ mm = 5 := by omega
        rcases this with e | e | e | e <;> subst e <;> omega⟩
      have cv : ∀ z ∈ v, CMulX mm z ∧ -1500 ≤ mm * z ∧ mm * z ≤ 1500 := fun z hz => by
        have w := wv' z hz
        refine ⟨(cm z (by omega) (by omega)).1, ?_⟩
        have : mm = 2 ∨ mm = 3 ∨ mm = 4 ∨ mm = 5 := by omega
        rcases this with e | e | e | e <;> subst e <;> omega
      refine ⟨_, rfl, .inl ⟨rfl, _, .inl (.inl h1')⟩, ?_⟩
      have el : (v.map V.int).length = v.length := List.length_map _
      have v4 : v.length ≤ 4 := by omega
      refine ⟨_, rfl, ar, rfl, ⟨_, SqT.of hv⟩, fun D2 hD => lc_it (walk_tup (xs := v.map V.int)) (fun j H' => Same H3 H' ∧ H' D2 = some (.lst (((v.take j).map (mm * ·)).map V.int))) ⟨(new_at hD).1, upd_same⟩ (fun j H' _ q => SqT.of (q.1 _ _ hv)) ?_ ?_⟩
      · rintro j y H' H4 hj ⟨sm, hD'⟩ ⟨rfl, e1⟩
        obtain ⟨z, ez, rfl⟩ := map_at e1
        refine ⟨rfl, _, rfl, _, rfl, _, _, rfl, rfl, (cv z (List.mem_of_getElem? ez)).1, _, hD', ?_, fun y o w => by rw [upd_ne (ne_of_none w hD)]; exact sm _ _ w, ?_⟩
        · rw [List.length_map, List.length_map]
          exact Nat.lt_of_le_of_lt (Nat.le_trans (List.length_take_le' _ _) v4) (by decide)
        · rw [upd_same, List.take_add_one, ez, List.map_append, List.map_append]; rfl
      · rintro H4 ⟨s4, hD4⟩
        rw [el, List.take_length] at hD4
        refine ⟨_, _, rfl, .inl ⟨SqL.of hD4, fun q2 hq2 => ?_⟩⟩
        obtain ⟨s5, hq2'⟩ := new_at (o := .tup ((v.map (mm * ·)).map V.int)) hq2
        have s45 := s4.trans s5
        replace B' := B'.keep s45
        replace h1' := s45 _ _ h1'
        replace h2' := s45 _ _ h2'
        replace hus := hus.keep s45
        replace bu' := bu'.trans (Same.but s45)
        clear s4 s5 s45 hD4
        generalize upd H4 q2 _ = H5 at *
        have lus : us.length ≤ 4 := by rw [hus.len]; omega
        have nq1 : q2 ≠ l1 := ne_of hq2' h1' fun z => nomatch z
        refine ⟨l1, us, _, rfl, rfl, h1', Nat.lt_of_le_of_lt lus (by decide), ?_⟩
        have bu6 : But l1 H5 (upd H5 l1 (.lst (us ++ [.ref q2]))) := But.upd'
        have nbl1 : b ≠ l1 := fun e => n1b e.symm
        have nll : l ≠ l1 := (ne_of_none B9.hl N1)
        have nrl : r ≠ l1 := (ne_of_none B9.hr N1)
        have B6 := B'.lst h1' bu6 nbl1 nll nrl
        have hus6 := (hus.snoc hq2' (by rw [List.length_map]; exact lv')).lst h1' bu6
        have h26 : IsL _ l2 Sv := bu6 _ _ (fun e => n12 e.symm) h2'
        have h16 : upd H5 l1 (.lst (us ++ [.ref q2])) l1 = some (.lst (us ++ [.ref q2])) := upd_same
        have bu96 : ∀ y o, y ≠ b → H9 y = some o → upd H5 l1 (.lst (us ++ [.ref q2])) y = some o := fun y o nb z => bu6 _ _ (ne_of_none z N1) (bu' y o nb z)
        generalize upd H5 l1 (.lst (us ++ [.ref q2])) = H6 at *
        refine ⟨_, rfl, .inl ⟨rfl, _, .inl (.inl h26)⟩, ?_⟩
        have cm1 := cm m (by omega) (by omega)
        refine ⟨_, rfl, _, rfl, _, _, rfl, rfl, cm1.1, ?_⟩
        have bu7 : But l2 H6 (upd H6 l2 (.lst (Sv.map V.int ++ [.int (mm * m)]))) := But.upd'
        have nbl2 : b ≠ l2 := fun e => n2b e.symm
        refine ⟨l2, _, _, rfl, rfl, h26, by rw [List.length_map, lS]; exact Nat.lt_of_lt_of_le hi (Nat.le_trans (show F.length ≤ 4 from m4) (by decide)), us ++ [.ref q2], W ++ [v.map (mm * ·)], Sv ++ [mm * m], _, _, _, rfl, fun y o nb z => bu7 _ _ (ne_of_none z N2) (bu96 y o nb z), B6.lst h26 bu7 nbl2 (ne_of_none B9.hl N2) (ne_of_none B9.hr N2), bu7 _ _ n12 h16, hus6.lst h26 bu7, by show _ = some (HO.lst ((Sv ++ [mm * m]).map V.int)); rw [List.map_append]; exact upd_same, by rw [List.length_append, lW]; rfl, by rw [List.length_append, lS]; rfl, fun w hw => ?_, fun z hz => ?_, fun g => ?_⟩
        · rcases List.mem_append.mp hw with hw | hw
          · exact wW w hw
          · rw [List.mem_singleton.mp hw]
            intro z hz
            obtain ⟨z0, hz0, rfl⟩ := List.mem_map.mp hz
            exact (cv z0 hz0).2
        · rcases List.mem_append.mp hz with hz | hz
          · exact wS z hz
          · rw [List.mem_singleton.mp hz]; omega
        · have lt : (rb.take i).length = (F.take i).length := by rw [List.length_take, List.length_take, lrb]
          rw [solves_app (lS.trans lW.symm), eq' g, solves_mul (by omega), List.take_add_one, List.take_add_one, ev, em]
          exact (solves_app (F := F.take i) (G := [v]) (b := rb.take i) (c := [m]) lt g).symm
    · rintro σ H' ⟨us, W, Sv, x12, x13, x14, rfl, bu', B', h1', hus, h2', lW, lS, wW, wS, eq'⟩
      have aW : Al n W Sv := al_of B.fx.2.n1 n4 (by omega) hus.2 (lS.trans lW.symm) (fun v hv => within_30 (wW v hv) (by decide)) (within_pow wS (by decide) (by decide))
      obtain ⟨eo, eB⟩ := aW.same B.fx.2 fun g _ => by
        rw [eq' g, List.take_length, ← lrb, List.take_length]
      refine ⟨rfl, _, rfl, _, rfl, _, rfl, ?_⟩
      refine ⟨l1, l2, n, us, W, Sv, rfl, .inl h1', hus, .inr h2', aW.ok, fun H8 w8 s8 fac8 => ?_⟩
      rw [eo, eB] at fac8
      refine ⟨_, rfl, eq_step fac8 (B'.fx.1.keep s8) ?_⟩
      rw [decide_eq_true rfl, decide_eq_true rfl, decide_eq_true rfl]
      exact k _ (bu9.trans (bu'.trans (Same.but s8))) (B'.bx.keep s8)
end
end K06

namespace K06
open PySem L2 RZ Lat
section
variable {P : Program} {w : World} {K : PySem.W.Frag} {mg : Str → Option Value} {base : Heap}
abbrev s_Factors_size : Stmt := inClass (top 33) 4
abbrev n_Factors_size : List Str := ["self"]
theorem sc_Factors_size : FnScope n_Factors_size ["self"] (defScope s_Factors_size) := ⟨rfl, rfl, rfl, by decide +kernel, rfl, by decide +kernel, by decide +kernel⟩
def spSizeF (D : Addr) : Sp := fun vs H Q _ => ∃ (x : Addr) (n : Nat) (o : Option Vec) (B : List Vec), vs = [.ref x] ∧ FacAt D H x n o B ∧ Q (o.elim (.int 0) fun _ => if B = [] then .int 1 else .non) H
theorem ok_sizeF {D fS : Addr} {fd : FuncData} (T : Txt mg) (DL : ClsF K mg D) (F : Fun K "size" "Factors.size" s_Factors_size fS fd) : FnOk P w K mg base CX0 1 fS fd ["self"] (spSizeF D) := by
  refine F.ok sc_Factors_size (fun vs H Q E h => ?_) (fun cdv A outer s H vs Q E hr h => ?_)
  · obtain ⟨x, n, o, B, rfl, _⟩ := h
    rfl
  · obtain ⟨x, n, o, B, rfl, ⟨dx, b, w0, os, hx, hb, hrs, hpt⟩, k⟩ := h
    refine ⟨_, (pss_cons (ps_if (pt_cmpR op_isN (pe_fld (pv 0) rfl) pe_non (nomark _)) (pss_one (ps_ret pe_int)) pss_nil)
      (pss_one (ps_ret (pe_ifExp (pt_truth (pe_fld (pv 0) rfl) (fun _ => rfl)) pe_non pe_int)))), ?_⟩
    refine ⟨_, rfl, x, D, dx, _, _, rfl, hx, DL.cl, DL.nP, ff_point _ _ _, rfl, _, rfl, ?_⟩
    cases o with
    | none =>
      cases (show w0 = .non from hpt)
      exact k
    | some v =>
      obtain ⟨p, rfl, hp, lv⟩ := hpt
      refine ⟨_, rfl, x, D, dx, _, _, rfl, hx, DL.cl, DL.nB, ff_basis _ _ _, _, .inr (.inl ⟨_, SqT.of hb, rfl⟩), ?_⟩
      cases B with
      | nil =>
        have e : os = [] := by
          have := hrs.len
          exact List.eq_nil_of_length_eq_zero (by rw [this]; rfl)
        subst e
        exact k
      | cons r B =>
        have e : os.isEmpty = false := by
          have := hrs.len
          cases os with
          | nil => simp at this
          | cons _ _ => rfl
        rw [e]
        exact k
end
end K06

namespace L2
open PySem PySem.Spec PyProof.Rows
theorem call_lenK {X : Cx} {K : PySem.W.Frag} (e : X.K = K) : CallR X (.builtin "len") (fun xs H Q => ∃ x n, xs = [x] ∧ LenV K x H n ∧ Q (.int n) H) := by
  subst e; exact call_len
end L2
namespace K06
open PySem L2 RZ Lat
theorem Rows.rev {H : Hp} {n : Nat} : ∀ {as : List V} {vs : List Vec}, Rows H n as vs → Rows H n as.reverse vs.reverse := by
  intro as vs h
  obtain ⟨h1, h2⟩ := h
  induction h1 with
  | nil => exact ⟨.nil, fun v hv => nomatch hv⟩
  | cons r q ih =>
    rw [List.reverse_cons, List.reverse_cons]
    exact Rows.append (ih fun v hv => h2 v (List.mem_cons_of_mem _ hv)) ⟨.cons r .nil, fun v hv => by rw [List.mem_singleton.mp hv]; exact h2 _ List.mem_cons_self⟩
theorem itm_rev_le {p : Vec} {k : Nat} (h : ∀ i, (itm p i).natAbs ≤ 2 ^ k) (t : Nat) : (itm p.reverse t).natAbs ≤ 2 ^ k := by
  by_cases ht : t < p.reverse.length
  · have := List.mem_reverse.mp (List.mem_of_getElem? (itm_of ht))
    obtain ⟨i, e⟩ := mem_itm this
    rw [← e]; exact h i
  · rw [itm_out (by omega)]; exact Nat.zero_le _
theorem Al.unit {n : Nat} (n1 : 1 ≤ n) (n4 : n ≤ 4) : Al n [] [] := al_of n1 n4 (by decide) (fun r hr => nomatch hr) rfl (fun r hr => nomatch hr) fun i => Nat.zero_le _
theorem Al.single {n : Nat} {v : Vec} {m : Int} (n1 : 1 ≤ n) (n4 : n ≤ 4) (lv : v.length = n) (wv : Within 300 v) (wm : -20000 ≤ m ∧ m ≤ 20000) : Al n [v] [m] :=
  al_of n1 n4 (show 1 ≤ 12 by decide) (fun r hr => by rw [List.mem_singleton.mp hr]; exact lv) rfl (fun r hr => by rw [List.mem_singleton.mp hr]; exact within_30 wv (by decide)) (within_pow (B := 20000) (fun z hz => by rw [List.mem_singleton.mp hz]; exact wm) (by decide) (by decide))
section
variable {P : Program} {w : World} {K : PySem.W.Frag} {mg : Str → Option Value} {base : Heap}
abbrev s_law : Stmt := top 52
abbrev n_law : List Str := ["_law_script", "_law_k", "_law_box_here", "_law_turn", "_law_width", "_law_shapes", "_law_rights", "_law_made", "_law_apart", "_law_shape", "_law_right", "_law_turned", "_law_nought", "_law_is_short", "_law_part"]
theorem sc_law : FnScope n_law ["_law_script"] (defScope s_law) := ⟨rfl, rfl, rfl, by decide +kernel, rfl, by decide +kernel, by decide +kernel⟩
def spLaw (K : PySem.W.Frag) : Sp := fun vs H Q _ => ∃ (a : Addr) (ns : List Int), vs = [.ref a] ∧ SqL K H a (ns.map V.int) ∧ ns.length ≤ 63 ∧ ∀ H', Q (.bl true) H'
theorem ok_law {C D M fLa fF fE fC fO fL fB fS fZ pV pW pR pU fV fW fR t0 f : Addr} {fdLa fdF fdE fdC fdO fdL fdB fdS fdZ fd : FuncData} {mcD : Value} {ds2 : List Value} (T : TxtS mg) (CL : ClsL K mg C) (ML : Mk K C fLa) (g_lattice : FnOk P w K mg base CX0 5 fLa fdLa ["self", "width", "rows"] (spLattice K C)) (bL : Binds K fdLa ["self", "width", "rows"] [])
    (DL : ClsF K mg D) (TD : ClsT K D) (MD : Mk K D fF) (g_factors : FnOk P w K mg base CX0 7 fF fdF ["self", "width", "point", "rows"] (spFactors K D)) (bF : Binds K fdF ["self", "width", "point", "rows"] [])
    (bF2 : Binds K fdF ["self", "width", "point", "rows"] ds2) (vF2 : Vals [.ref t0] ds2) (it0 : ∀ H, InSeq K H t0 [])
    (hsE : PySem.W.findIn K (.ref D) "__eq__" = some (some (.ref fE))) (fnE : PySem.W.isFn K (.ref fE) = true) (g_eq : FnOk P w K mg base CX0 1 fE fdE ["self", "other"] (spEqF D)) (bE : Binds K fdE ["self", "other"] [])
    (hsC : PySem.W.findIn K (.ref D) "__contains__" = some (some (.ref fC))) (fnC : PySem.W.isFn K (.ref fC) = true) (g_cont : FnOk P w K mg base CX0 4 fC fdC ["self", "x"] (spContF D)) (bC : Binds K fdC ["self", "x"] [])
    (hsO : PySem.W.findIn K (.ref D) "__and__" = some (some (.ref fO))) (fnO : PySem.W.isFn K (.ref fO) = true) (g_and : FnOk P w K mg base (L2.CX P w) 9 fO fdO ["self", "other"] (spAnd D M)) (bO : Binds K fdO ["self", "other"] [])
    (hsL : PySem.W.findIn K (.ref D) "__le__" = some (some (.ref fL))) (fnL : PySem.W.isFn K (.ref fL) = true) (g_le : FnOk P w K mg base (L2.CX P w) 6 fL fdL ["self", "other"] (spLeF D M)) (bLe : Binds K fdL ["self", "other"] [])
    (hsB : PySem.W.findIn K (.ref D) "__bool__" = some (some (.ref fB))) (fnB : PySem.W.isFn K (.ref fB) = true) (g_bool : FnOk P w K mg base CX0 1 fB fdB ["self"] (spBoolF D)) (bB : Binds K fdB ["self"] [])
    (hsS : PySem.W.findIn K (.ref D) "__str__" = some (some (.ref fS))) (fnS : PySem.W.isFn K (.ref fS) = true) (g_str : FnOk P w K mg base CX0 2 fS fdS ["self"] (spStrF D)) (bS : Binds K fdS ["self"] [])
    (pS : PropOf K D "size" pV fZ) (g_size : FnOk P w K mg base CX0 1 fZ fdZ ["self"] (spSizeF D)) (bS2 : Binds K fdZ ["self"] [])
    (RD : ClX.CRead K D mcD) (CE : ClX.CMet K D mcD "every" pW fV) (g_every : FnR P w K mg base CX0 9 fV (spEvery D)) (CS : ClX.CMet K D mcD "solving" pR fW) (g_solving : FnR P w K mg base CX0 10 fW (spSolving K D)) (CR : ClX.CMet K D mcD "read" pU fR) (g_read : FnR P w K mg base CX0 9 fR (spRead D))
    (F : Fun K "law" "law" s_law f fd) (hb : ∀ (s : Shared) (u : Value), K.In s.heap → BindsTo s fd ⟨[u], []⟩ [("_law_script", u)])
    (g_law_box : Has P w K mg base 1 "_law_box" ["_law_script", "_law_k", "_law_own"] (spBox K)) (g_law_take : Has P w K mg base 1 "_law_take" ["_law_box_here", "_law_many"] spTake)
    (g_law_system : Has P w K mg base 4 "_law_system" ["_law_box_here", "_law_width", "_law_many"] spSystem) (g_law_more_right : Has P w K mg base 11 "_law_more_right" ["_law_box_here", "_law_shapes", "_law_rights", "_law_made"] (spMore D)) : LawOk P w K mg base 12 f (spLaw K) := by
  refine LawOk.of F sc_law hb fun cdv A s H v Q hg0 hr h => ?_
  have hu : (A.deeper (PyProof.Rows.envOfC "law" (defScope s_law) s.heap.objs.size f cdv)).units + 64 < cLine := hr.units
  obtain ⟨a, ns, ev, hS, hlen, k⟩ := h
  cases ev
  refine ⟨_, (pss_cons (ps_for PassesOwn.never rfl (pi_range1 rfl T.z_range (pa_cons (pe_callB (call_max2 rfl) (by rfl) T.z_max (by decide +kernel) (pa_cons pe_int (pa_cons (pe_callB (call_min2 rfl) (by rfl) T.z_min (by decide +kernel) (pa_cons pe_int (pa_cons (pe_callB call_len (by rfl) T.z_len (by decide +kernel) (pa_cons (pv 0) pa_nil)) pa_nil))) pa_nil))) pa_nil)) (pg_name (i := 1) sc_law.nd rfl (Or.inl rfl)) (pss_cons (ps_set (i := 2) sc_law.nd rfl (Or.inl rfl) (pe_callHas g_law_box (hr.mono (by decide)) rfl (pa_cons (pv 0) (pa_cons (pv 1) (pa_cons pe_int pa_nil)))))
      (pss_one (ps_for PassesOwn.never rfl (pi_range1 rfl T.z_range (pa_cons pe_int pa_nil)) (pg_name (i := 3) sc_law.nd rfl (Or.inl rfl)) (pss_cons (ps_set (i := 4) sc_law.nd rfl (Or.inl rfl) (pe_op op_add pe_int (pe_callHas g_law_take (hr.mono (by decide)) rfl (pa_cons (pv 2) (pa_cons pe_int pa_nil)))))
      (pss_cons (ps_asg (pe_callHas g_law_system (hr.mono (by decide)) rfl (pa_cons (pv 2) (pa_cons (pv 4) (pa_cons (pe_op op_add pe_int (pe_callHas g_law_take (hr.mono (by decide)) rfl (pa_cons (pv 2) (pa_cons pe_int pa_nil)))) pa_nil)))) (pg_tup rfl (pgs_cons (pg_name (i := 5) sc_law.nd rfl (Or.inl rfl)) (pgs_cons (pg_name (i := 6) sc_law.nd rfl (Or.inl rfl)) pgs_nil))))
      (pss_cons (ps_par (i := 7) (j := 8) (by rfl) sc_law.nd rfl rfl (by decide) rfl rfl (pa_cons (ClX.pe_cmeth (pe_glob (v := .ref D) rfl DL.m rfl) RD CS g_solving (hr.mono (by decide)) pass0 (pa_cons (pv 4) (pa_cons (pv 5) (pa_cons (pv 6) pa_nil)))) (pa_cons (ClX.pe_cmeth (pe_glob (v := .ref D) rfl DL.m rfl) RD CE g_every (hr.mono (by decide)) pass0 (pa_cons (pv 4) pa_nil)) pa_nil)) (by rfl))
      (pss_cons (ps_for PassesOwn.never rfl (pi_zipA (by rfl) T.z_zip (pa_cons (pv 5) (pa_cons (pv 6) pa_nil))) (pg_tup rfl (pgs_cons (pg_name (i := 9) sc_law.nd rfl (Or.inl rfl)) (pgs_cons (pg_name (i := 10) sc_law.nd rfl (Or.inl rfl)) pgs_nil))) (pss_one (ps_set (i := 8) sc_law.nd rfl (Or.inl rfl) (pe_op (op_andO TD.two g_and hsO fnO (hr.mono (by decide)) bO passL) (pv 8) (ClX.pe_cmeth (pe_glob (v := .ref D) rfl DL.m rfl) RD CS g_solving (hr.mono (by decide)) pass0 (pa_cons (pv 4) (pa_cons (pe_lst (pa_cons (pv 9) pa_nil)) (pa_cons (pe_lst (pa_cons (pv 10) pa_nil)) pa_nil))))))))
      (pss_cons (ps_if (PW.pt (pw_or (pt_cmpR (op_neO TD.two g_eq hsE fnE (hr.mono (by decide)) bE pass0) (pv 8) (pv 7) (nomark _)) (pw_or1 (pt_cmpR (op_neO TD.two g_eq hsE fnE (hr.mono (by decide)) bE pass0) (ClX.pe_cmeth (pe_glob (v := .ref D) rfl DL.m rfl) RD CS g_solving (hr.mono (by decide)) pass0 (pa_cons (pv 4) (pa_cons (pe_revL (pv 5)) (pa_cons (pe_revL (pv 6)) pa_nil)))) (pv 7) (nomark _))))) (pss_one (ps_ret pe_bl)) pss_nil)
      (pss_cons (ps_if (pt_not (pt_val (pe_callHas g_law_more_right (hr.mono (by decide)) rfl (pa_cons (pv 2) (pa_cons (pv 5) (pa_cons (pv 6) (pa_cons (pv 7) pa_nil))))))) (pss_one (ps_ret pe_bl)) pss_nil)
      (pss_cons (ps_set (i := 11) sc_law.nd rfl (Or.inl rfl) (ClX.pe_cmeth (pe_glob (v := .ref D) rfl DL.m rfl) RD CS g_solving (hr.mono (by decide)) pass0 (pa_cons (pv 4) (pa_cons (pe_lc (own := [("_law_shape", 9)]) (g := gName 9) (by rfl) sc_law.nd (pi_list (pv 5)) (blkOk_by (own := [("_law_shape", 9)]) (N := n_law) (sc := defScope s_law) (by decide +kernel)) (fun _ _ _ _ _ => (pg_name (i := 9) sc_law.nd rfl (Or.inl rfl))) (fun _ _ _ _ _ => pts_nil) (fun _ _ _ _ _ => (pe_revTK (K := K) rfl (pv 9)))) (pa_cons (pv 6) pa_nil)))))
      (C8.pss_cut (ps_if (PW.pt (pw_or (pt_cmpR op_ne (pe_callTy (call_boolO g_bool hsB fnB (hr.mono (by decide)) bB pass0) (by rfl) T.z_bool (by decide +kernel) (pa_cons (pv 11) pa_nil)) (pe_callTy (call_boolO g_bool hsB fnB (hr.mono (by decide)) bB pass0) (by rfl) T.z_bool (by decide +kernel) (pa_cons (pv 7) pa_nil)) (nomark _)) (pw_or1 (PW.pt (pw_and (pt_truthR (pv 7) (tru_own g_bool hsB fnB (hr.mono (by decide)) bB pass0) (fun _ => rfl)) (pw_and1 (pt_cmpR (op_notInO g_cont hsC fnC (hr.mono (by decide)) bC pass0) (pe_revT (pe_fld (pv 7) rfl)) (pv 11) (by rfl)))))))) (pss_one (ps_ret pe_bl)) pss_nil)
      (pss_cons (ps_set (i := 12) sc_law.nd rfl (Or.inl rfl) (ClX.pe_cmeth (pe_glob (v := .ref D) rfl DL.m rfl) RD CS g_solving (hr.mono (by decide)) pass0 (pa_cons (pv 4) (pa_cons (pv 5) (pa_cons (pe_op op_rep (pe_lst (pa_cons pe_int pa_nil)) (pe_callB call_len (by rfl) T.z_len (by decide +kernel) (pa_cons (pv 5) pa_nil))) pa_nil)))))
      (C8.pss_cut (ps_if (PW.pt (pw_or (pt_cmpR (op_neD hu) (pe_fld (pv 12) rfl) (pe_callTy call_tuple_of (by rfl) T.z_tuple (by decide +kernel) (pa_cons (pe_op op_rep (pe_lst (pa_cons pe_int pa_nil)) (pv 4)) pa_nil)) (nomark _)) (pw_or1 (PW.pt (pw_and (pt_truthR (pv 7) (tru_own g_bool hsB fnB (hr.mono (by decide)) bB pass0) (fun _ => rfl)) (pw_and1 (pt_cmpR (op_neD hu) (pe_fld (pv 12) rfl) (pe_fld (pv 7) rfl) (nomark _)))))))) (pss_one (ps_ret pe_bl)) pss_nil)
      (pss_one (ps_if (pt_truthR (pv 7) (tru_own g_bool hsB fnB (hr.mono (by decide)) bB pass0) (fun _ => rfl)) (pss_cons (ps_set (i := 13) sc_law.nd rfl (Or.inl rfl) (pe_cmpR (op_eqD hu) (pe_lc (own := [("_law_part", 14)]) (g := gName 14) (by rfl) sc_law.nd (pi_list (pe_split (pe_callTy (call_strO g_str hsS fnS (hr.mono (by decide)) bS pass0) (by rfl) T.z_str (by decide +kernel) (pa_cons (pv 7) pa_nil)) pe_str)) (blkOk_by (own := [("_law_part", 14)]) (N := n_law) (sc := defScope s_law) (by decide +kernel)) (fun _ _ _ _ _ => (pg_name (i := 14) sc_law.nd rfl (Or.inl rfl))) (fun _ _ _ _ _ => (pts_one (pt_cmpR op_gt (pe_callB (call_lenK (K := K) rfl) (by rfl) T.z_len (by decide +kernel) (pa_cons (pv 14) pa_nil)) pe_int (nomark _)))) (fun _ _ _ _ _ => (pv 14))) (pe_lst pa_nil) (nomark _)))
      (C8.pss_cut (ps_if (PW.pt (pw_or (PW.pt (pw_and (pt_val (pv 13)) (pw_and1 (pt_cmpR (op_neO TD.two g_eq hsE fnE (hr.mono (by decide)) bE pass0) (ClX.pe_cmeth (pe_glob (v := .ref D) rfl DL.m rfl) RD CR g_read (hr.mono (by decide)) pass0 (pa_cons (pe_callTy (call_strO g_str hsS fnS (hr.mono (by decide)) bS pass0) (by rfl) T.z_str (by decide +kernel) (pa_cons (pv 7) pa_nil)) pa_nil)) (pv 7) (nomark _))))) (pw_or1 (pt_cmpR (op_neD hu) (pe_fld (pe_make ML g_lattice (hr.mono (by decide)) rfl CL.m bL .nil pass0 (pa_cons (pv 4) (pa_cons (pe_fld (pv 7) rfl) pa_nil))) rfl) (pe_fld (pv 7) rfl) (nomark _))))) (pss_one (ps_ret pe_bl)) pss_nil)
      (pss_one (ps_if (PW.pt (pw_or (pt_not (pt_cmpR (op_cmpO (op := .LtE) (nm := "__le__") rfl (fun _ _ => rfl) g_le hsL fnL (hr.mono (by decide)) bLe passL) (pe_make MD g_factors (hr.mono (by decide)) rfl DL.m bF2 vF2 pass0 (pa_cons (pv 4) (pa_cons (pe_fld (pv 7) rfl) pa_nil))) (pv 7) (nomark _))) (pw_or1 (pt_cmpR op_ne (pe_prop (pe_make MD g_factors (hr.mono (by decide)) rfl DL.m bF2 vF2 pass0 (pa_cons (pv 4) (pa_cons (pe_fld (pv 7) rfl) pa_nil))) DL.cl pS g_size (hr.mono (by decide)) bS2 .nil pass0 (by rfl)) pe_int (nomark _))))) (pss_one (ps_ret pe_bl)) pss_nil)))) pss_nil))))))))))))))))
      (pss_one (ps_ret pe_bl))), ?_⟩
  have hlen' : (((ns.map V.int).length : Nat) : Int) ≤ 63 := by rw [List.length_map]; omega
  refine ⟨_, rfl, _, _, rfl, .inl ⟨_, hS, rfl⟩, _, _, rfl, _, _, rfl, ?_⟩
  have hN : ∀ m : Int, 0 ≤ m → ∃ N : Int, (if (if m < 3 then m else 3) > 1 then (if m < 3 then m else 3) else 1) = N ∧ 0 ≤ N ∧ N ≤ 3 := fun m hm => ⟨_, rfl, by split <;> (try split) <;> omega, by split <;> (try split) <;> omega⟩
  obtain ⟨N, eN, N0, N3⟩ := hN (((ns.map V.int).length : Nat) : Int) (Int.natCast_nonneg _)
  refine ⟨N, by rw [← eN], by omega, by omega, for_range (lo := 0) (n := N.toNat) (fun i σ H' => Same H H' ∧ ∃ x1 x2 x3 x4 x5 x6 x7 x8 x9 x10 x11 x12 x13 x14, σ = [some (.ref a), x1, x2, x3, x4, x5, x6, x7, x8, x9, x10, x11, x12, x13, x14]) ⟨Same.refl _, _, _, _, _, _, _, _, _, _, _, _, _, _, _, rfl⟩ ?_ ?_⟩
  · rintro i σ H1 hi ⟨s1, x1, x2, x3, x4, x5, x6, x7, x8, x9, x10, x11, x12, x13, x14, rfl⟩
    refine ⟨_, rfl, _, rfl, a, ns, _, _, rfl, s1.seq hS, by omega, by omega, by decide, by decide, fun H2 b s2 hb0 hbox => ?_⟩
    refine ⟨3, rfl, by decide, by decide, for_range (lo := 0) (n := 3) (fun j σ H' => But b H2 H' ∧ Box H' b ∧ ∃ x3 x4 x5 x6 x7 x8 x9 x10 x11 x12 x13 x14, σ = [some (.ref a), some (.int (0 + ((i : Nat) : Int))), some (.ref b), x3, x4, x5, x6, x7, x8, x9, x10, x11, x12, x13, x14]) ⟨fun _ _ _ z => z, hbox, _, _, _, _, _, _, _, _, _, _, _, _, rfl⟩ ?_ ?_⟩
    · rintro j σ H3 hj ⟨bu3, hb3, x3, x4, x5, x6, x7, x8, x9, x10, x11, x12, x13, x14, rfl⟩
      refine ⟨_, rfl, b, 4, rfl, hb3, by decide, by decide, fun d u1 u2 u3 d0 d1 => ⟨_, _, rfl, rfl, ?_⟩⟩
      obtain ⟨n, en, n1, n4⟩ : ∃ n : Nat, (1 + d : Int) = ((n : Nat) : Int) ∧ 1 ≤ n ∧ n ≤ 4 := ⟨(1 + d).toNat, by omega, by omega, by omega⟩
      show gName 4 (V.int (1 + d)) _ _ _
      rw [en]
      have hb4 : Box (upd H3 b (.lst [.int u1, .int u2, .int u3])) b := Box.upd'
      have bu4 : But b H3 (upd H3 b (.lst [.int u1, .int u2, .int u3])) := But.upd'
      generalize upd H3 b (.lst [.int u1, .int u2, .int u3]) = H4 at hb4 bu4 ⊢
      -- the system
      refine ⟨_, rfl, _, rfl, _, rfl, b, 4, rfl, hb4, by decide, by decide, fun e v1 v2 v3 e0 e1 => ⟨_, _, rfl, rfl, ?_⟩⟩
      obtain ⟨m, em, m1, m4⟩ : ∃ m : Nat, ((m : Nat) : Int) = 1 + e ∧ 1 ≤ m ∧ m ≤ 4 := ⟨(1 + e).toNat, by omega, by omega, by omega⟩
      refine ⟨b, n, m, by rw [em]; rfl, Box.upd', n1, by omega, by omega, fun H5 t l r as F rb bu5 hb5 ht hl has lF wF hr5 lrb wrb nl nr => ?_⟩
      refine ⟨t, _, rfl, SqT.of ht, rfl, _, _, rfl, _, _, rfl, rfl, ?_⟩
      have bu25 : But b H2 H5 := bu3.trans (bu4.trans (But.upd'.trans bu5))
      have w108 : ∀ v ∈ F, Within 108 v := fun v hv x hx => by have := wF v hv x hx; omega
      have wF3 : ∀ v ∈ F, Within 300 v := fun v hv x hx => by have := wF v hv x hx; omega
      clear bu3 bu4 bu5 hb3 hb4 ht wF
      have lrF : rb.length = F.length := lrb.trans lF.symm
      have F30 : ∀ v ∈ F, ∀ i, (itm v i).natAbs ≤ 2 ^ 30 := fun v hv => within_30 (wF3 v hv) (by decide)
      have rb40 : ∀ i, (itm rb i).natAbs ≤ 2 ^ 40 := within_pow wrb (by decide) (by decide)
      have aF : Al n F rb := al_of n1 n4 (by omega) has.2 lrF F30 (within_pow wrb (by decide) (by decide))
      have ux := unit_facts (n := n) n1 (by omega)
      have wz : ∀ i, (itm (zer n) i).natAbs ≤ 2 ^ 32 := fun i => by rw [itm_zer]; exact Nat.zero_le _
      refine ⟨rfl, _, rfl, _, rfl, _, rfl, l, r, n, as, F, rb, rfl, .inl hl, has, .inr hr5, aF.ok, fun H7 x s7 fx => ?_⟩
      refine ⟨rfl, _, rfl, n, rfl, n1, by omega, ux.f4.okB, ux.f4.red _ (zer_len _) wz, fun H8 y s8 fy => ⟨_, _, rfl, ?_⟩⟩
      have s59 := s7.trans s8
      have B : B12 b D n x l r as F rb H8 := ⟨hb5.keep s59, s59 _ _ hl, has.keep s59, s59 _ _ hr5, ⟨fx.keep s8, aF⟩, nl, nr⟩
      have bu29 := bu25.trans (Same.but s59)
      have fy9 : FF D H8 y n [] [] := by
        obtain ⟨q1, q2⟩ := every_sol n1 n4
        rw [q1, q2] at fy
        exact ⟨fy, Al.unit n1 n4⟩
      clear s7 s8 s59 bu25 hl has hr5 fx fy hb5
      have las := B.rows.len
      have ln2 : min as.length (rb.map V.int).length = F.length := by rw [las, List.length_map, lrF, Nat.min_self]
      refine ⟨_, rfl, _, rfl, l, r, _, _, rfl, .inl ⟨SqL.of B.hl, SqL.of B.hr, for_it (walk_zip (xs := as) (ys := rb.map V.int) ln2.symm) (fun t σ H' => Same H8 H' ∧ ∃ (y : Addr) (x9 x10 : Option V), σ = [some (.ref a), some (.int (0 + ((i : Nat) : Int))), some (.ref b), some (.int (0 + ((j : Nat) : Int))), some (.int ((n : Nat) : Int)), some (.ref l), some (.ref r), some (.ref x), some (.ref y), x9, x10, x11, x12, x13, x14] ∧ FF D H' y n (F.take t) (rb.take t)) ⟨Same.refl _, y, _, _, rfl, fy9⟩ (fun t σ H' _ z => ⟨SqL.of (z.1 _ _ B.hl), SqL.of (z.1 _ _ B.hr)⟩) ?_ ?_⟩⟩
      · rintro t yv σ H' H'' ht ⟨sm, y, x9, x10, rfl, fy⟩ ⟨p1, y1, y2, rfl, hp1, rfl, e1, e2⟩
        obtain ⟨ar, v, ev, rfl, hv, lv⟩ := (B.rows.keep sm).at e1
        obtain ⟨m', em', rfl⟩ := map_at e2
        have wv := wF3 v (List.mem_of_getElem? ev)
        have wm := wrb m' (List.mem_of_getElem? em')
        obtain ⟨sp, hp1'⟩ := new_at (o := .tup [V.ref ar, V.int m']) hp1
        refine ⟨p1, _, rfl, SqT.of hp1', rfl, _, _, rfl, _, _, rfl, rfl, ?_⟩
        refine ⟨_, rfl, rfl, _, rfl, _, rfl, (by decide : 1 ≤ sizeLine), fun z1 hz1 => ?_⟩
        obtain ⟨s7, hz1'⟩ := new_at (o := .lst [V.ref ar]) hz1
        refine ⟨_, rfl, (by decide : 1 ≤ sizeLine), fun z2 hz2 => ?_⟩
        obtain ⟨s8, hz2'⟩ := new_at (o := .lst [V.int m']) hz2
        have s68 := sp.trans (s7.trans s8)
        have aS : Al n [v] [m'] := Al.single n1 n4 lv wv wm
        have aN : Al n (F.take t ++ [v]) (rb.take t ++ [m']) := al_of n1 n4 (by rw [List.length_append, List.length_take]; show min t F.length + 1 ≤ 12; omega) (fun u hu => (List.mem_append.mp hu).elim (fun hu => B.rows.2 u (List.mem_of_mem_take hu)) fun hu => by rw [List.mem_singleton.mp hu]; exact lv) (by rw [List.length_append, List.length_append, List.length_take, List.length_take, lrF]; rfl)
          (fun u hu => (List.mem_append.mp hu).elim (fun hu => F30 u (List.mem_of_mem_take hu)) fun hu => by rw [List.mem_singleton.mp hu]; exact within_30 wv (by decide))
          (within_pow (B := 20000) (fun z hz => (List.mem_append.mp hz).elim (fun hz => wrb z (List.mem_of_mem_take hz)) fun hz => by rw [List.mem_singleton.mp hz]; exact wm) (by decide) (by decide))
        refine ⟨z1, z2, n, [V.ref ar], [v], [m'], rfl, .inl (s8 _ _ hz1'), ⟨.cons ⟨ar, rfl, s68 _ _ hv⟩ .nil, fun u hu => by rw [List.mem_singleton.mp hu]; exact lv⟩, .inr hz2', aS.ok, fun H9 w9 s9 f9 => and_step (fy.keep (s68.trans s9)) ⟨f9, aS⟩ aN fun H10 p s10 fp => ?_⟩
        refine ⟨sm.trans (s68.trans (s9.trans s10)), p, _, _, rfl, ?_⟩
        rw [List.take_add_one, List.take_add_one, ev, em']
        exact fp
      rintro σ H10 ⟨s10, y, x9, x10, rfl, fy10⟩
      replace B := B.keep s10
      have bu210 := bu29.trans (Same.but s10)
      clear s10 fy9 bu29
      rw [List.take_length, ← lrF, List.take_length] at fy10
      refine ⟨_, rfl, _, rfl, ne_same fy10.1 B.fx.1 ⟨_, rfl, iteSf rfl ?_⟩⟩
      clear fy10
      have aR : Al n F.reverse rb.reverse := al_of n1 n4 (by rw [List.length_reverse]; omega) (fun u hu => B.rows.2 u (List.mem_reverse.mp hu)) (by rw [List.length_reverse, List.length_reverse, lrF]) (fun u hu => F30 u (List.mem_reverse.mp hu)) (within_pow (B := 20000) (fun z hz => wrb z (List.mem_reverse.mp hz)) (by decide) (by decide))
      refine ⟨rfl, _, rfl, _, rfl, l, _, rfl, SqL.of B.hl, fun z1 hz1 => ?_⟩
      obtain ⟨s1', hz1'⟩ := new_at (o := .lst as.reverse) hz1
      refine ⟨_, rfl, r, _, rfl, SqL.of (s1' _ _ B.hr), fun z2 hz2 => ?_⟩
      obtain ⟨s2', hz2'⟩ := new_at (o := .lst (rb.map V.int).reverse) hz2
      have s12' := s1'.trans s2'
      refine ⟨z1, z2, n, as.reverse, F.reverse, rb.reverse, rfl, .inl (s2' _ _ hz1'), B.rows.rev.keep s12', .inr (by show _ = some (HO.lst (rb.reverse.map V.int)); rw [List.map_reverse]; exact hz2'), aR.ok, fun H11 w11 s11 f11 => ?_⟩
      have s1011 := s12'.trans s11
      replace B := B.keep s1011
      have bu211 := bu210.trans (Same.but s1011)
      rw [(aF.rev aR).1, (aF.rev aR).2] at f11
      refine ⟨_, rfl, ne_same f11 B.fx.1 ⟨_, rfl, iteSf rfl ?_⟩⟩
      clear s1' s2' s12' s11 s1011 hz1 hz1' hz2 hz2' f11 aR bu210
      -- more forms
      refine ⟨_, rfl, _, rfl, _, rfl, _, rfl, b, l, r, x, n, as, F, rb, rfl, B, by omega, by omega, wF3, wrb, fun H12 bu12 hb12 => ⟨_, rfl, iteSf rfl ?_⟩⟩
      replace B := B.but bu12 hb12
      have bu212 := bu211.trans bu12
      clear bu211 bu12 hb12
      -- turned about
      have aT : Al n (F.map List.reverse) rb := al_of n1 n4 (by rw [List.length_map]; omega) (fun u hu => by obtain ⟨u0, h0, rfl⟩ := List.mem_map.mp hu; rw [List.length_reverse]; exact B.rows.2 _ h0) (by rw [List.length_map, lrF]) (fun u hu => by obtain ⟨u0, h0, rfl⟩ := List.mem_map.mp hu; exact within_30 (fun z hz => wF3 _ h0 z (List.mem_reverse.mp hz)) (by decide)) (within_pow wrb (by decide) (by decide))
      refine ⟨rfl, _, rfl, _, rfl, l, rfl, ⟨_, SqL.of B.hl⟩, fun D1 hD => lc_it (walk_list (xs := as)) (fun t H' => Same H12 H' ∧ ∃ us : List V, H' D1 = some (.lst us) ∧ Rows H' n us ((F.take t).map List.reverse)) ⟨(new_at hD).1, [], upd_same, ⟨.nil, fun v hv => nomatch hv⟩⟩ (fun t H' _ z => SqL.of (z.1 _ _ B.hl)) ?_ ?_⟩
      · rintro t yv H' H'' ht ⟨sm, us, hD', hus⟩ ⟨rfl, ey⟩
        obtain ⟨ar, v, ev, rfl, hv, lv⟩ := (B.rows.keep sm).at ey
        refine ⟨rfl, ?_⟩
        refine ⟨_, rfl, ar, _, rfl, SqT.of hv, fun q hq => ?_⟩
        obtain ⟨sq, hq'⟩ := new_at (o := .tup (v.map V.int).reverse) hq
        refine ⟨us, sq _ _ hD', ?_, fun y o z => by rw [upd_ne (ne_of_none z hD)]; exact sq _ _ (sm _ _ z), us ++ [.ref q], upd_same, ?_⟩
        · rw [hus.len, List.length_map, List.length_take]
          exact Nat.lt_of_le_of_lt (Nat.le_trans (Nat.min_le_right _ _) (show F.length ≤ 4 by omega)) (by decide)
        · rw [List.take_add_one, ev, List.map_append]
          exact Rows.lst (sq _ _ hD') But.upd' ((hus.keep sq).snoc (by show _ = some (HO.tup (v.reverse.map V.int)); rw [List.map_reverse]; exact hq') (by rw [List.length_reverse]; exact lv))
      rintro H13 ⟨s13, us, hus, rus⟩
      rw [las, List.take_length] at rus
      refine ⟨_, rfl, D1, r, n, us, F.map List.reverse, rb, rfl, .inl hus, rus, .inr (s13 _ _ B.hr), aT.ok, fun H14 xt s14 ft => ?_⟩
      replace B := B.keep (s13.trans s14)
      have bu214 := bu212.trans (Same.but (s13.trans s14))
      clear s13 s14 hus rus bu212
      obtain ⟨t1, t2⟩ := aF.turned B.rows.2 aT
      obtain ⟨dx, gs, ox⟩ := B.fx.1.ins
      obtain ⟨dxt, gst, oxt⟩ := ft.ins
      refine ⟨fun σ' H' => But b H2 H' ∧ B12 b D n x l r as F rb H' ∧ σ' = [some (.ref a), some (.int (0 + ((i : Nat) : Int))), some (.ref b), some (.int (0 + ((j : Nat) : Int))), some (.int ((n : Nat) : Int)), some (.ref l), some (.ref r), some (.ref x), some (.ref y), x9, x10, some (.ref xt), x12, x13, x14], ?_, ?_⟩
      · refine ⟨_, rfl, xt, dxt, gst, rfl, oxt, xt, n, _, _, rfl, ft, _, rfl, _, rfl, x, dx, gs, rfl, ox, x, n, _, _, rfl, B.fx.1, _, rfl, rfl, _, rfl, iteSf (by rw [t1, decide_eq_true rfl]; rfl) ?_⟩
        refine ⟨_, rfl, x, dx, gs, rfl, ox, x, n, _, _, rfl, B.fx.1, _, rfl, ?_⟩
        cases ho : solO F n rb with
        | none => exact iteSf rfl (iteSf rfl ⟨bu214, B, rfl⟩)
        | some p =>
          refine iteSe rfl ?_
          have fx := B.fx.1
          rw [ho] at fx
          obtain ⟨dx2, b2, w2, os2, hx2, hb2, hrs2, hpt2⟩ := id fx
          obtain ⟨ap, rfl, hp, lp⟩ := id hpt2
          refine ⟨_, rfl, x, D, dx2, _, _, rfl, hx2, DL.cl, DL.nP, ff_point _ _ _, ap, _, rfl, SqT.of hp, fun q hq => ?_⟩
          obtain ⟨sq, hq'⟩ := new_at (o := .tup (p.map V.int).reverse) hq
          have hq2 : IsV (upd H14 q (.tup (p.map V.int).reverse)) q p.reverse := by
            show _ = some (HO.tup (p.reverse.map V.int)); rw [List.map_reverse]; exact hq'
          refine ⟨_, rfl, xt, dxt, _, rfl, sq _ _ oxt, cont_step (ft.keep sq) (by omega) hq2 (by rw [List.length_reverse]; exact lp) (aT.red _ (by rw [List.length_reverse]; exact lp) fun t => ?_) fun H15 s15 => ⟨_, rfl, ?_⟩⟩
          · exact Nat.le_trans (itm_rev_le (aF.pt p ho) t) (Nat.pow_le_pow_right (by decide) (by decide))
          · have := t2 p ho
            exact ⟨_, rfl, iteSf (by rw [this]; rfl) ⟨bu214.trans (Same.but (sq.trans s15)), B.keep (sq.trans s15), rfl⟩⟩
      rintro σ' H15 ⟨bu215, B, rfl⟩
      clear bu214 ox ft oxt t1 t2
      -- right sides 0
      have aZ : Al n F (zer F.length) := al_of n1 n4 (by omega) B.rows.2 (zer_len _) F30 fun i => by rw [itm_zer]; exact Nat.zero_le _
      obtain ⟨t3, t4⟩ := aF.nought aZ
      refine ⟨rfl, _, rfl, _, rfl, (by decide : 1 ≤ sizeLine), fun z1 hz1 => ?_⟩
      obtain ⟨s16, hz1'⟩ := new_at (o := .lst [V.int 0]) hz1
      refine ⟨_, rfl, _, _, rfl, .inl ⟨_, SqL.of (s16 _ _ B.hl), rfl⟩, z1, _, _, rfl, rfl, hz1', by omega, by omega, by rw [Int.toNat_natCast]; exact Nat.le_trans (show [V.int 0].length * as.length ≤ 4 by show 1 * as.length ≤ 4; omega) (by decide), fun z2 hz2 => ?_⟩
      obtain ⟨s17, hz2'⟩ := new_at (o := .lst (List.replicate ((as.length : Nat) : Int).toNat [V.int 0]).flatten) hz2
      have s1617 := s16.trans s17
      have hz2'' : IsL (upd (upd H15 z1 (.lst [V.int 0])) z2 (.lst (List.replicate ((as.length : Nat) : Int).toNat [V.int 0]).flatten)) z2 (zer F.length) := by
        show _ = some (HO.lst ((zer F.length).map V.int))
        rw [← zer_map, ← las]; exact hz2'
      refine ⟨l, z2, n, as, F, zer F.length, rfl, .inl (s1617 _ _ B.hl), B.rows.keep s1617, .inr hz2'', aZ.ok, fun H18 xn s18 fn => ?_⟩
      replace B := B.keep (s1617.trans s18)
      have bu218 := bu215.trans (Same.but (s1617.trans s18))
      clear s16 s17 s1617 s18 hz1 hz1' hz2 hz2' hz2'' bu215
      rw [t3] at fn
      obtain ⟨dx, gs, ox⟩ := B.fx.1.ins
      obtain ⟨dxn, bn, wn, osn, hxn, hbn, hrn, hptn⟩ := id fn
      refine ⟨fun σ' H' => But b H2 H' ∧ B12 b D n x l r as F rb H' ∧ σ' = [some (.ref a), some (.int (0 + ((i : Nat) : Int))), some (.ref b), some (.int (0 + ((j : Nat) : Int))), some (.int ((n : Nat) : Int)), some (.ref l), some (.ref r), some (.ref x), some (.ref y), x9, x10, some (.ref xt), some (.ref xn), x13, x14], ?_, ?_⟩
      · refine ⟨_, rfl, xn, D, dxn, _, _, rfl, hxn, DL.cl, DL.nP, ff_point _ _ _, ?_⟩
        refine ⟨(by decide : 1 ≤ sizeLine), fun z3 hz3 => ?_⟩
        obtain ⟨s19, hz3'⟩ := new_at (o := .lst [V.int 0]) hz3
        refine ⟨_, rfl, z3, _, _, rfl, rfl, hz3', by omega, by omega, by rw [Int.toNat_natCast]; exact Nat.le_trans (show [V.int 0].length * n ≤ 4 by show 1 * n ≤ 4; omega) (by decide), fun z4 hz4 => ?_⟩
        obtain ⟨s20, hz4'⟩ := new_at (o := .lst (List.replicate ((n : Nat) : Int).toNat [V.int 0]).flatten) hz4
        refine ⟨_, _, rfl, .inl ⟨SqL.of hz4', fun z5 hz5 => ?_⟩⟩
        obtain ⟨s21, hz5'⟩ := new_at (o := .tup (List.replicate ((n : Nat) : Int).toNat [V.int 0]).flatten) hz5
        have s1921 := s19.trans (s20.trans s21)
        refine ⟨ptD (some (List.replicate n 0)), ptD (some (List.replicate n 0)), pt_dp (hptn.keep s1921), pt_dp (n := n) ⟨z5, rfl, ?_, List.length_replicate⟩, pt_shaped _, pt_shaped _, _, rfl, iteSf (by rw [pt_eq, decide_eq_true rfl]; rfl) ?_⟩
        · show _ = some (HO.tup ((zer n).map V.int))
          rw [← zer_map]
          exact hz5'
        · have B' := B.keep s1921
          have bu' := bu218.trans (Same.but s1921)
          replace ox := s1921 _ _ ox
          refine ⟨_, rfl, x, dx, gs, rfl, ox, x, n, _, _, rfl, B'.fx.1, _, rfl, ?_⟩
          cases ho : solO F n rb with
          | none => exact iteSf rfl (iteSf rfl ⟨bu', B', rfl⟩)
          | some p =>
            refine iteSe rfl ?_
            obtain ⟨dx2, b2, w2, os2, hx2, hb2, hrs2, hpt2⟩ := id B'.fx.1
            refine ⟨_, rfl, xn, D, dxn, _, _, rfl, s1921 _ _ hxn, DL.cl, DL.nB, ff_basis _ _ _, _, rfl, x, D, dx2, _, _, rfl, hx2, DL.cl, DL.nB, ff_basis _ _ _, .tuple ((solB F n (zer F.length)).map rowD), .tuple ((solB F n rb).map rowD), .tup (SqT.of (s1921 _ _ hbn)) (rows_dp (hrn.keep s1921).1), .tup (SqT.of hb2) (rows_dp hrs2.1), rowsT_shaped _, rowsT_shaped _, _, rfl, iteSf (by rw [rowsT_eq, t4 p ho, decide_eq_true rfl]; rfl) ⟨bu', B', rfl⟩⟩
      rintro σ' H19 ⟨bu219, B, rfl⟩
      clear bu218 ox fn t3 t4 hxn hbn hrn hptn aZ aT
      obtain ⟨dx, gs, ox⟩ := B.fx.1.ins
      refine ⟨_, rfl, x, dx, gs, rfl, ox, x, n, _, _, rfl, B.fx.1, _, rfl, ?_⟩
      cases ho : solO F n rb with
      | none => exact iteSf rfl ⟨bu219, B.bx, _, _, _, _, _, _, _, _, _, _, _, _, rfl⟩
      | some p =>
        refine iteSe rfl ?_
        have aA := aF.again ho
        have fxs := B.fx.1
        rw [ho] at fxs
        have lp := (aF.sol.yes p ho).1
        have F7 : ∀ v ∈ F, ∀ i, (itm v i).natAbs ≤ 2 ^ 7 := fun v hv i => by
          have := within_itm2 (w108 v hv) (by decide) i
          have e : (2 : Nat) ^ 7 = 128 := by decide
          rw [e]; omega
        obtain ⟨c1, c2⟩ := aF.small B.rows.2 F7 (fun i => Nat.le_trans (rb40 i) (Nat.pow_le_pow_right (by decide) (by decide)))
        replace c2 := c2 p ho
        have nB : ∀ v ∈ solB F n rb, Num1 v := fun v hv m hm => by
          obtain ⟨i, rfl⟩ := mem_itm hm
          exact log_bound (c1 v hv i) (by decide)
        have np : ∀ q, some p = some q → Num1 q := fun q hq m hm => by
          cases hq
          obtain ⟨i, rfl⟩ := mem_itm hm
          exact log_bound (c2 i) (by decide)
        have lB : ∀ v ∈ solB F n rb, v.length = n := fun v hv => (aF.sol.ech.row v hv).1
        have cB : (solB F n rb).length ≤ 4 := Nat.le_trans aF.cnt n4
        have okB := aF.okB
        have okp : OkRed (grows [] (solB F n rb)) p := by rw [aA.1]; exact aF.red p lp fun i => Nat.le_trans (aF.pt p ho i) (Nat.pow_le_pow_right (by decide) (by decide))
        have fB : ∀ {H' : Hp}, B12 b D n x l r as F rb H' → FacAt D H' x n (some p) (solB F n rb) := fun {H'} h => by
          have := h.fx.1
          rw [ho] at this; exact this
        obtain ⟨aA1, aA2⟩ := aA
        clear c1 c2
        generalize solB F n rb = BB at *
        have ltx : (L2.RD.textP p BB).length ≤ 1000000 := by
          have hs := wSs_len (B := p :: BB) (n := n) fun v hv => (List.mem_cons.mp hv).elim (fun e => e ▸ ⟨lp, np p rfl⟩) fun hv => ⟨lB v hv, nB v hv⟩
          have hj := join_len (Str.ofString " + ") ((p :: BB).map wS)
          rw [List.length_map, show (Str.ofString " + ").length = 3 by decide +kernel, List.length_cons] at hj
          rw [List.length_cons] at hs
          have h1 := Nat.mul_le_mul (show 1922 * n ≤ 1922 * 4 by omega) (show BB.length + 1 ≤ 5 by omega)
          show (PySem.Txt.join _ _).length ≤ _
          omega
        have pne : p ≠ [] := fun e => by rw [e] at lp; rw [← lp] at n1; exact absurd n1 (by decide)
        have Bne : ∀ v ∈ BB, v ≠ [] := fun v hv e => by have := lB v hv; rw [e] at this; rw [← this] at n1; exact absurd n1 (by decide)
        -- is it short
        refine ⟨_, rfl, x, dx, gs, rfl, ox, x, n, _, _, rfl, fxs, by omega, by omega, np, nB, fun H20 s20 => ⟨_, rfl, ?_⟩⟩
        refine ⟨⟨_, rfl⟩, _, _, rfl, rfl, by decide +kernel, Nat.le_trans (Nat.add_le_add_right ltx 2) (by decide), fun c hc => ?_⟩
        rw [show textO (some p) BB = L2.RD.textP p BB from rfl, L2.RD.split_text pne Bne] at *
        obtain ⟨s21, hc'⟩ := new_at (o := .lst (((L2.RD.wds p BB).map L2.RD.Wd.txt).map V.str)) hc
        have lW := L2.RD.wds_len BB p lp lB
        have W25 : (L2.RD.wds p BB).length ≤ 25 := by
          have := Nat.mul_le_mul (show n + 1 ≤ 5 by omega) (show BB.length + 1 ≤ 5 by omega)
          omega
        have wlen : ∀ u ∈ (L2.RD.wds p BB).map L2.RD.Wd.txt, u.length ≤ 1921 := fun u hu => by
          obtain ⟨q, hq, rfl⟩ := List.mem_map.mp hu
          rcases L2.RD.wds_mem hq with rfl | ⟨m, rfl, hm⟩
          · exact Nat.le_trans (show ("+" : Str).length ≤ 1 by decide +kernel) (by decide)
          · refine iS_len ?_
            rcases hm with hm | ⟨v, hv, hm⟩
            · exact np p rfl m hm
            · exact nB v hv m hm
        have uok : ∀ u ∈ (L2.RD.wds p BB).map L2.RD.Wd.txt, PyData.strOk u = true := fun u hu => by
          obtain ⟨q, hq, rfl⟩ := List.mem_map.mp hu
          cases q with
          | num m => exact strOk_string _
          | plus => exact strOk_string _
        have lws : ((L2.RD.wds p BB).map L2.RD.Wd.txt).length ≤ 25 := by rw [List.length_map]; exact W25
        generalize hws : (L2.RD.wds p BB).map L2.RD.Wd.txt = ws at *
        refine ⟨c, rfl, ⟨_, SqL.of hc'⟩, fun D1 hD => lc_it (walk_list (xs := ws.map V.str)) (fun t H' => Same (upd H20 c (.lst (ws.map V.str))) H' ∧ H' D1 = some (.lst (((ws.take t).filter fun u => decide (9 < u.length)).map V.str))) ⟨(new_at hD).1, upd_same⟩ (fun t H' _ z => SqL.of (z.1 _ _ hc')) ?_ ?_⟩
        · rintro t yv H' H'' ht ⟨sm, hD'⟩ ⟨rfl, ey⟩
          rw [List.getElem?_map] at ey
          obtain ⟨u, eu, rfl⟩ := Option.map_eq_some_iff.mp ey
          have lu := wlen u (List.mem_of_getElem? eu)
          refine ⟨rfl, _, rfl, _, _, rfl, ⟨Nat.le_trans lu (by decide), rfl⟩, _, _, rfl, rfl, _, rfl, ?_⟩
          by_cases h9 : 9 < u.length
          · refine iteSe (decide_eq_true (by omega)) ?_
            refine ⟨_, rfl, _, hD', ?_, fun y o z => by rw [upd_ne (ne_of_none z hD)]; exact sm _ _ z, ?_⟩
            · rw [List.length_map]
              exact Nat.lt_of_le_of_lt (Nat.le_trans (List.length_filter_le _ _) (Nat.le_trans (List.length_take_le' _ _) lws)) (by decide)
            · rw [upd_same, List.take_add_one, eu, List.filter_append, List.map_append]
              have : [u].filter (fun u => decide (9 < u.length)) = [u] := by rw [List.filter_cons, if_pos (by exact decide_eq_true h9)]; rfl
              show _ = some (HO.lst (_ ++ ([u].filter _).map V.str))
              rw [this]; rfl
          · refine iteSf (decide_eq_false (by omega)) ?_
            refine ⟨sm, ?_⟩
            rw [hD', List.take_add_one, eu, List.filter_append]
            have : [u].filter (fun u => decide (9 < u.length)) = [] := by rw [List.filter_cons, if_neg (by rw [decide_eq_false h9]; decide)]; rfl
            show _ = some (HO.lst ((_ ++ [u].filter _).map V.str))
            rw [this, List.append_nil]
        rintro H21 ⟨s22, hD21⟩
        rw [List.length_map, List.take_length] at hD21
        refine ⟨Nat.zero_le _, fun z6 hz6 => ?_⟩
        obtain ⟨s23, hz6'⟩ := new_at (o := .lst []) hz6
        have s2023 := s20.trans (s21.trans (s22.trans s23))
        refine ⟨.list ((ws.filter fun u => decide (9 < u.length)).map PyData.str), .list [], .lst (SqL.of (s23 _ _ hD21)) (strs_dp _), .lst (SqL.of hz6') .nil, strs_shaped (fun u hu => uok u (List.mem_filter.mp hu).1), by decide +kernel, ?_⟩
        rw [strs_eqv]
        replace B := B.keep s2023
        have bu223 := bu219.trans (Same.but s2023)
        replace ox := s2023 _ _ ox
        clear s20 s21 s22 s23 s2023 hz6 hz6' hD21 hc hc' fxs bu219
        have short : decide ((ws.filter fun u => decide (9 < u.length)) = []) = true → ∀ q ∈ L2.RD.wds p BB, q.txt.length ≤ 9 := fun h q hq => by
          have := (List.filter_eq_nil_iff.mp (of_decide_eq_true h)) q.txt (by rw [← hws]; exact List.mem_map.mpr ⟨q, hq, rfl⟩)
          have h2 : ¬ 9 < q.txt.length := fun z => this (decide_eq_true z)
          omega
        generalize decide ((ws.filter fun u => decide (9 < u.length)) = []) = cs at short ⊢
        refine ⟨fun σ' H' => But b H2 H' ∧ B12 b D n x l r as F rb H' ∧ σ' = [some (.ref a), some (.int (0 + ((i : Nat) : Int))), some (.ref b), some (.int (0 + ((j : Nat) : Int))), some (.int ((n : Nat) : Int)), some (.ref l), some (.ref r), some (.ref x), some (.ref y), x9, x10, some (.ref xt), some (.ref xn), some (.bl cs), x14], ?_, ?_⟩
        · refine ⟨_, rfl, _, rfl, ?_⟩
          cases cs with
          | false =>
            refine iteSf rfl (iteSf rfl ?_)
            generalize upd H21 z6 _ = H22 at *
            obtain ⟨dx2, b2, w2, os2, hx2, hb2, hrs2, hpt2⟩ := id (fB B)
            refine ⟨_, rfl, _, rfl, x, D, dx2, _, _, rfl, hx2, DL.cl, DL.nB, ff_basis _ _ _, fun z dz hz hdz ndz => ?_⟩
            have so : Same H22 (upd (upd H22 dz (.own z)) z (.ins C dz [])) := fun z' o h => by
              rw [upd_ne (ne_of_none h hz), upd_ne (ne_of_none h hdz)]; exact h
            refine ⟨z, dz, b2, n, os2, BB, rfl, upd_same, n1, by omega, by omega, InSeq.tup (so _ _ hb2), hrs2.keep so, okB, fun H26 kp lat => ⟨rfl, ?_⟩⟩
            rw [aA1] at lat
            have s26 : Same H22 H26 := fun z' o h => kp z' o (ne_of_none h hz) (so _ _ h)
            obtain ⟨ly, b3, os3, hz3, hb3', hrs3⟩ := id lat
            refine ⟨z, C, ly, _, _, rfl, hz3, CL.cl, CL.nB, lf_basis _ _, ?_⟩
            refine ⟨_, rfl, x, D, dx2, _, _, rfl, s26 _ _ hx2, DL.cl, DL.nB, ff_basis _ _ _, .tuple (BB.map rowD), .tuple (BB.map rowD), .tup (SqT.of hb3') (rows_dp hrs3.1), .tup (SqT.of (s26 _ _ hb2)) (rows_dp (hrs2.keep s26).1), rowsT_shaped _, rowsT_shaped _, _, rfl, iteSf (by rw [rowsT_eq, decide_eq_true rfl]; rfl) ⟨bu223.trans (Same.but s26), B.keep s26, rfl⟩⟩
          | true =>
            refine iteSe rfl ?_
            refine ⟨rfl, _, rfl, x, dx, gs, rfl, ox, x, n, _, _, rfl, fB B, by omega, by omega, np, nB, fun H23 s23 => ⟨_, rfl, ?_⟩⟩
            refine ⟨n, p, BB, rfl, lp, lB, n1, by omega, by omega, short rfl, ltx, okB, okp, fun H24 xr s24 fr => ?_⟩
            rw [aA1, aA2] at fr
            have s2324 := s23.trans s24
            have B24 := B.keep s2324
            have bu24 := bu223.trans (Same.but s2324)
            refine ⟨_, rfl, ne_same fr (fB B24) ⟨_, rfl, iteSf rfl ?_⟩⟩
            obtain ⟨dx2, b2, w2, os2, hx2, hb2, hrs2, hpt2⟩ := id (fB B24)
            refine ⟨_, rfl, _, rfl, x, D, dx2, _, _, rfl, hx2, DL.cl, DL.nB, ff_basis _ _ _, fun z dz hz hdz ndz => ?_⟩
            have so : Same H24 (upd (upd H24 dz (.own z)) z (.ins C dz [])) := fun z' o h => by
              rw [upd_ne (ne_of_none h hz), upd_ne (ne_of_none h hdz)]; exact h
            refine ⟨z, dz, b2, n, os2, BB, rfl, upd_same, n1, by omega, by omega, InSeq.tup (so _ _ hb2), hrs2.keep so, okB, fun H26 kp lat => ⟨rfl, ?_⟩⟩
            rw [aA1] at lat
            have s26 : Same H24 H26 := fun z' o h => kp z' o (ne_of_none h hz) (so _ _ h)
            obtain ⟨ly, b3, os3, hz3, hb3', hrs3⟩ := id lat
            refine ⟨z, C, ly, _, _, rfl, hz3, CL.cl, CL.nB, lf_basis _ _, ?_⟩
            refine ⟨_, rfl, x, D, dx2, _, _, rfl, s26 _ _ hx2, DL.cl, DL.nB, ff_basis _ _ _, .tuple (BB.map rowD), .tuple (BB.map rowD), .tup (SqT.of hb3') (rows_dp hrs3.1), .tup (SqT.of (s26 _ _ hb2)) (rows_dp (hrs2.keep s26).1), rowsT_shaped _, rowsT_shaped _, _, rfl, iteSf (by rw [rowsT_eq, decide_eq_true rfl]; rfl) ⟨bu24.trans (Same.but s26), B24.keep s26, rfl⟩⟩
        rintro σ' H24 ⟨bu224, B, rfl⟩
        rw [aA1] at okp
        obtain ⟨dx2, b2, w2, os2, hx2, hb2, hrs2, hpt2⟩ := id (fB B)
        obtain ⟨ap, rfl, hp, _⟩ := id hpt2
        have pm : ∀ (H0 : Hp) (z dz : Addr) (Q : VK), IsV H0 ap p → H0 z = none → H0 dz = none → (∀ H4 : Hp, Same H0 H4 → FacAt D H4 z n (some p) [] → Q .non H4) → spFactors K D [.ref z, .int ((n : Nat) : Int), .ref ap, .ref t0] (upd (upd H0 dz (.own z)) z (.ins D dz [])) Q E0 := fun H0 z dz Q hp hz hdz k => by
          have so : Same H0 (upd (upd H0 dz (.own z)) z (.ins D dz [])) := fun z' o h => by
            rw [upd_ne (ne_of_none h hz), upd_ne (ne_of_none h hdz)]; exact h
          exact ⟨z, dz, t0, n, .ref ap, some p, [], [], rfl, upd_same, n1, by omega, by decide, it0 _, ⟨.nil, fun v hv => nomatch hv⟩, trivial, ⟨ap, rfl, so _ _ hp, lp⟩, (fun v e => by cases e; exact trivial), fun H2 kp fac => k H2 (fun z' o h => kp z' o (ne_of_none h hz) (so _ _ h)) fac⟩
        refine ⟨_, rfl, _, rfl, x, D, dx2, _, _, rfl, hx2, DL.cl, DL.nP, ff_point _ _ _, fun z1 dz1 hz1 hdz1 ndz1 => pm H24 z1 dz1 _ hp hz1 hdz1 fun H25 s25 f25 => ⟨rfl, ?_⟩⟩
        obtain ⟨dy, gy, oy⟩ := f25.ins
        refine ⟨_, rfl, z1, dy, gy, x, dx2, _, rfl, oy, rfl, s25 _ _ hx2, z1, x, n, n, some p, some p, [], BB, rfl, f25, fB (B.keep s25), .inr ⟨rfl, by omega, by decide, (fun r hr => nomatch hr), (fun q hq => by cases hq; exact okp), fun H26 s26 => ⟨_, rfl, ?_⟩⟩⟩
        have ec : covB (some p) BB (some p) [] = true := by
          show (decide (redV BB p = p) && _) = true
          rw [aA2, decide_eq_true rfl]; rfl
        rw [fne, ec]
        have s2426 := s25.trans s26
        have ip := 0
        refine ⟨_, rfl, iteSf rfl ?_⟩
        refine ⟨_, rfl, _, rfl, x, D, dx2, _, _, rfl, s2426 _ _ hx2, DL.cl, DL.nP, ff_point _ _ _, fun z2 dz2 hz2 hdz2 ndz2 => pm H26 z2 dz2 _ (s2426 _ _ hp) hz2 hdz2 fun H27 s27 f27 => ⟨rfl, ?_⟩⟩
        obtain ⟨dy2, gy2, oy2⟩ := f27.ins
        refine ⟨z2, dy2, gy2, rfl, oy2, z2, n, some p, [], rfl, f27, rfl, _, rfl, iteSf rfl ?_⟩
        have s2427 := s2426.trans s27
        exact ⟨bu224.trans (Same.but s2427), (B.keep s2427).bx, _, _, _, _, _, _, _, _, _, _, _, _, rfl⟩
    · rintro σ H3 ⟨bu3, hb3, x3, x4, x5, x6, x7, x8, x9, x10, x11, x12, x13, x14, rfl⟩
      exact ⟨fun y o z => bu3 y o (ne_of_none (s1 _ _ z) hb0) (s2 _ _ (s1 _ _ z)), _, _, _, _, _, _, _, _, _, _, _, _, _, _, rfl⟩
  · rintro σ H2 ⟨s2, x1, x2, x3, x4, x5, x6, x7, x8, x9, x10, x11, x12, x13, x14, rfl⟩
    exact k H2
end
end K06

namespace K06
open PySem L2
theorem facts {P : Program} {w : World} {K : PySem.W.Frag} {mg : Str → Option Value} {h : Heap} {fa : Addr} (X : K.In h) (G : h.Ns mainGlobals mg) (hfa : mg "law" = some (.ref fa))
    {C D M fI fR fF fC fE fO fL fB fS fZ fV fW fU pV pW pU pp T0 t0 T1 t1 f_is_integer f_is_sequence f_is_width f_is_vector f_are_vectors f_added f_pivot_of f_is_zero f_reduced_by f_cleared f_stepped f_positive f_tidied f_grown f_unit_rows f_sources f_meeting f_covers f_written f_read_number f_read_vectors f_law_box f_law_take f_law_small f_law_number f_law_rows f_law_value f_law_system f_law_more_right f_law : Addr}
    {dg : Tok}
    {restP : List Value}
    {restV restW restU : List Value}
    {oc_Lattice_init kV_Lattice_init dc_Lattice_init pm_Lattice_init cd_Lattice_init ct_Lattice_init : Value} {od_Lattice_init an_Lattice_init : Option Addr} {sl_Lattice_init : Array (Option Value)}
    {oc_Factors_init kV_Factors_init dc_Factors_init pm_Factors_init cd_Factors_init ct_Factors_init : Value} {od_Factors_init an_Factors_init : Option Addr} {sl_Factors_init : Array (Option Value)}
    {ocT ocT1 : Value} {odT od0 odT1 od1 : Option Addr} {nT n0 nT1 n1 : Nat} {slT sl0 slT1 sl1 : Array (Option Value)}
    {oc_Lattice_reduced kV_Lattice_reduced dc_Lattice_reduced pm_Lattice_reduced cd_Lattice_reduced ct_Lattice_reduced : Value} {od_Lattice_reduced an_Lattice_reduced : Option Addr} {sl_Lattice_reduced : Array (Option Value)}
    {oc_Factors_contains kV_Factors_contains dc_Factors_contains pm_Factors_contains cd_Factors_contains ct_Factors_contains : Value} {od_Factors_contains an_Factors_contains : Option Addr} {sl_Factors_contains : Array (Option Value)}
    {oc_Factors_eq kV_Factors_eq dc_Factors_eq pm_Factors_eq cd_Factors_eq ct_Factors_eq : Value} {od_Factors_eq an_Factors_eq : Option Addr} {sl_Factors_eq : Array (Option Value)}
    {oc_Factors_and kV_Factors_and dc_Factors_and pm_Factors_and cd_Factors_and ct_Factors_and : Value} {od_Factors_and an_Factors_and : Option Addr} {sl_Factors_and : Array (Option Value)}
    {oc_Factors_le kV_Factors_le dc_Factors_le pm_Factors_le cd_Factors_le ct_Factors_le : Value} {od_Factors_le an_Factors_le : Option Addr} {sl_Factors_le : Array (Option Value)}
    {oc_Factors_bool kV_Factors_bool dc_Factors_bool pm_Factors_bool cd_Factors_bool ct_Factors_bool : Value} {od_Factors_bool an_Factors_bool : Option Addr} {sl_Factors_bool : Array (Option Value)}
    {oc_Factors_str kV_Factors_str dc_Factors_str pm_Factors_str cd_Factors_str ct_Factors_str : Value} {od_Factors_str an_Factors_str : Option Addr} {sl_Factors_str : Array (Option Value)}
    {oc_Factors_every kV_Factors_every dc_Factors_every pm_Factors_every cd_Factors_every ct_Factors_every : Value} {od_Factors_every an_Factors_every : Option Addr} {sl_Factors_every : Array (Option Value)}
    {oc_Factors_solving kV_Factors_solving dc_Factors_solving pm_Factors_solving cd_Factors_solving ct_Factors_solving : Value} {od_Factors_solving an_Factors_solving : Option Addr} {sl_Factors_solving : Array (Option Value)}
    {oc_Factors_read kV_Factors_read dc_Factors_read pm_Factors_read cd_Factors_read ct_Factors_read : Value} {od_Factors_read an_Factors_read : Option Addr} {sl_Factors_read : Array (Option Value)}
    {oc_Factors_size kV_Factors_size dc_Factors_size pm_Factors_size cd_Factors_size ct_Factors_size : Value} {od_Factors_size an_Factors_size : Option Addr} {sl_Factors_size : Array (Option Value)}
    {oc_is_integer kV_is_integer dc_is_integer pm_is_integer cd_is_integer ct_is_integer : Value} {od_is_integer an_is_integer : Option Addr} {sl_is_integer : Array (Option Value)}
    {oc_is_sequence kV_is_sequence dc_is_sequence pm_is_sequence cd_is_sequence ct_is_sequence : Value} {od_is_sequence an_is_sequence : Option Addr} {sl_is_sequence : Array (Option Value)}
    {oc_is_width kV_is_width dc_is_width pm_is_width cd_is_width ct_is_width : Value} {od_is_width an_is_width : Option Addr} {sl_is_width : Array (Option Value)}
    {oc_is_vector kV_is_vector dc_is_vector pm_is_vector cd_is_vector ct_is_vector : Value} {od_is_vector an_is_vector : Option Addr} {sl_is_vector : Array (Option Value)}
    {oc_are_vectors kV_are_vectors dc_are_vectors pm_are_vectors cd_are_vectors ct_are_vectors : Value} {od_are_vectors an_are_vectors : Option Addr} {sl_are_vectors : Array (Option Value)}
    {oc_added kV_added dc_added pm_added cd_added ct_added : Value} {od_added an_added : Option Addr} {sl_added : Array (Option Value)}
    {oc_pivot_of kV_pivot_of dc_pivot_of pm_pivot_of cd_pivot_of ct_pivot_of : Value} {od_pivot_of an_pivot_of : Option Addr} {sl_pivot_of : Array (Option Value)}
    {oc_is_zero kV_is_zero dc_is_zero pm_is_zero cd_is_zero ct_is_zero : Value} {od_is_zero an_is_zero : Option Addr} {sl_is_zero : Array (Option Value)}
    {oc_reduced_by kV_reduced_by dc_reduced_by pm_reduced_by cd_reduced_by ct_reduced_by : Value} {od_reduced_by an_reduced_by : Option Addr} {sl_reduced_by : Array (Option Value)}
    {oc_cleared kV_cleared dc_cleared pm_cleared cd_cleared ct_cleared : Value} {od_cleared an_cleared : Option Addr} {sl_cleared : Array (Option Value)}
    {oc_stepped kV_stepped dc_stepped pm_stepped cd_stepped ct_stepped : Value} {od_stepped an_stepped : Option Addr} {sl_stepped : Array (Option Value)}
    {oc_positive kV_positive dc_positive pm_positive cd_positive ct_positive : Value} {od_positive an_positive : Option Addr} {sl_positive : Array (Option Value)}
    {oc_tidied kV_tidied dc_tidied pm_tidied cd_tidied ct_tidied : Value} {od_tidied an_tidied : Option Addr} {sl_tidied : Array (Option Value)}
    {oc_grown kV_grown dc_grown pm_grown cd_grown ct_grown : Value} {od_grown an_grown : Option Addr} {sl_grown : Array (Option Value)}
    {oc_unit_rows kV_unit_rows dc_unit_rows pm_unit_rows cd_unit_rows ct_unit_rows : Value} {od_unit_rows an_unit_rows : Option Addr} {sl_unit_rows : Array (Option Value)}
    {oc_sources kV_sources dc_sources pm_sources cd_sources ct_sources : Value} {od_sources an_sources : Option Addr} {sl_sources : Array (Option Value)}
    {oc_meeting kV_meeting dc_meeting pm_meeting cd_meeting ct_meeting : Value} {od_meeting an_meeting : Option Addr} {sl_meeting : Array (Option Value)}
    {oc_covers kV_covers dc_covers pm_covers cd_covers ct_covers : Value} {od_covers an_covers : Option Addr} {sl_covers : Array (Option Value)}
    {oc_written kV_written dc_written pm_written cd_written ct_written : Value} {od_written an_written : Option Addr} {sl_written : Array (Option Value)}
    {oc_read_number kV_read_number dc_read_number pm_read_number cd_read_number ct_read_number : Value} {od_read_number an_read_number : Option Addr} {sl_read_number : Array (Option Value)}
    {oc_read_vectors kV_read_vectors dc_read_vectors pm_read_vectors cd_read_vectors ct_read_vectors : Value} {od_read_vectors an_read_vectors : Option Addr} {sl_read_vectors : Array (Option Value)}
    {oc_law_box kV_law_box dc_law_box pm_law_box cd_law_box ct_law_box : Value} {od_law_box an_law_box : Option Addr} {sl_law_box : Array (Option Value)}
    {oc_law_take kV_law_take dc_law_take pm_law_take cd_law_take ct_law_take : Value} {od_law_take an_law_take : Option Addr} {sl_law_take : Array (Option Value)}
    {oc_law_small kV_law_small dc_law_small pm_law_small cd_law_small ct_law_small : Value} {od_law_small an_law_small : Option Addr} {sl_law_small : Array (Option Value)}
    {oc_law_number kV_law_number dc_law_number pm_law_number cd_law_number ct_law_number : Value} {od_law_number an_law_number : Option Addr} {sl_law_number : Array (Option Value)}
    {oc_law_rows kV_law_rows dc_law_rows pm_law_rows cd_law_rows ct_law_rows : Value} {od_law_rows an_law_rows : Option Addr} {sl_law_rows : Array (Option Value)}
    {oc_law_value kV_law_value dc_law_value pm_law_value cd_law_value ct_law_value : Value} {od_law_value an_law_value : Option Addr} {sl_law_value : Array (Option Value)}
    {oc_law_system kV_law_system dc_law_system pm_law_system cd_law_system ct_law_system : Value} {od_law_system an_law_system : Option Addr} {sl_law_system : Array (Option Value)}
    {oc_law_more_right kV_law_more_right dc_law_more_right pm_law_more_right cd_law_more_right ct_law_more_right : Value} {od_law_more_right an_law_more_right : Option Addr} {sl_law_more_right : Array (Option Value)}
    {oc_law kV_law dc_law pm_law cd_law ct_law : Value} {od_law an_law : Option Addr} {sl_law : Array (Option Value)}
    (aC : PySem.W.nsIn K mainGlobals "Lattice" = some (some (.ref C)))
    (aD : PySem.W.nsIn K mainGlobals "Factors" = some (some (.ref D)))
    (pgC : PySem.W.plainGet K C Str.empty = true)
    (hdC : PySem.W.hasDictIn K C = true)
    (poC : PySem.W.plainOver K C = true)
    (saC : PySem.W.findIn K (.ref C) "__setattr__" = some (some (.builtin "object.__setattr__")))
    (mkC : PySem.W.makesIn K C = true)
    (iniC : PySem.W.findIn K (.ref C) "__init__" = some (some (.ref fI)))
    (fnfI : PySem.W.isFn K (.ref fI) = true)
    (kC : PySem.W.keepIn K (.ref C) = true)
    (nCw : PySem.W.findIn K (.ref C) "width" = some none)
    (nCb : PySem.W.findIn K (.ref C) "basis" = some none)
    (pgD : PySem.W.plainGet K D Str.empty = true)
    (hdD : PySem.W.hasDictIn K D = true)
    (poD : PySem.W.plainOver K D = true)
    (saD : PySem.W.findIn K (.ref D) "__setattr__" = some (some (.builtin "object.__setattr__")))
    (mkD : PySem.W.makesIn K D = true)
    (iniD : PySem.W.findIn K (.ref D) "__init__" = some (some (.ref fF)))
    (fnfF : PySem.W.isFn K (.ref fF) = true)
    (kD : PySem.W.keepIn K (.ref D) = true)
    (nDw : PySem.W.findIn K (.ref D) "width" = some none)
    (nDp : PySem.W.findIn K (.ref D) "point" = some none)
    (nDb : PySem.W.findIn K (.ref D) "basis" = some none)
    (tS : PySem.W.selfFirst K D = true)
    (tO : PySem.W.mroIn K D (.type "object") = some true)
    (tN : PySem.W.findIn K (.ref D) "__ne__" = some (some (.builtin "object.__ne__")))
    (cA : PySem.W.findIn K (.ref D) "__class__" = some (some (.builtin "object.__class__")))
    (cG : PySem.W.specialIn K (.builtin "object.__class__") "__get__" = some (some (.builtin "getset_descriptor.__get__")))
    (cT : PySem.W.takesIn K (.builtin "object.__class__") = some true)
    (cK : PySem.W.kitOne K (.ref D) (.ref D) = some true)
    (ktT : PySem.W.kitOne K (.type "tuple") (.ref D) = some false)
    (mR : PySem.W.findIn K (.ref C) "reduced" = some (some (.ref fR)))
    (fnR : PySem.W.isFn K (.ref fR) = true)
    (aM : PySem.W.nsIn K mainGlobals "Mismatch" = some (some (.ref M)))
    (xM : PySem.W.excIn K M [.type "ValueError", .type "Exception", .type "BaseException", .type "object"] "ValueError.__new__" = true)
    (kM : PySem.W.keepIn K (.ref M) = true)
    (sM : PySem.W.subIn K (.ref M) (.type "BaseException") = some true)
    (tM : PySem.W.typeIn K (.ref M) = some (.type "type"))
    (zs : PySem.W.nsIn K mainGlobals "str" = some none)
    (aDg : PySem.W.nsIn K mainGlobals "DIGITS" = some (some (.int 9 dg)))
    (pA : PySem.W.findIn K (.ref D) "size" = some (some (.ref pp)))
    (pG : PySem.W.specialIn K (.ref pp) "__get__" = some (some (.builtin "property.__get__")))
    (pT : PySem.W.takesIn K (.ref pp) = some true)
    (pR : PySem.W.recIn K pp "property" = some (.ref fZ :: restP))
    (mC : PySem.W.findIn K (.ref D) "__contains__" = some (some (.ref fC)))
    (fnC : PySem.W.isFn K (.ref fC) = true)
    (mE : PySem.W.findIn K (.ref D) "__eq__" = some (some (.ref fE)))
    (fnE : PySem.W.isFn K (.ref fE) = true)
    (mO : PySem.W.findIn K (.ref D) "__and__" = some (some (.ref fO)))
    (fnO : PySem.W.isFn K (.ref fO) = true)
    (mL : PySem.W.findIn K (.ref D) "__le__" = some (some (.ref fL)))
    (fnL : PySem.W.isFn K (.ref fL) = true)
    (mB : PySem.W.findIn K (.ref D) "__bool__" = some (some (.ref fB)))
    (fnB : PySem.W.isFn K (.ref fB) = true)
    (mS : PySem.W.findIn K (.ref D) "__str__" = some (some (.ref fS)))
    (fnS : PySem.W.isFn K (.ref fS) = true)
    (vA : PySem.W.findIn K (.ref D) "every" = some (some (.ref pV)))
    (vR : PySem.W.recIn K pV "classmethod" = some (.ref fV :: restV))
    (vF : PySem.W.fnIn K fV = true)
    (wA : PySem.W.findIn K (.ref D) "solving" = some (some (.ref pW)))
    (wR : PySem.W.recIn K pW "classmethod" = some (.ref fW :: restW))
    (wF : PySem.W.fnIn K fW = true)
    (uA : PySem.W.findIn K (.ref D) "read" = some (some (.ref pU)))
    (uR : PySem.W.recIn K pU "classmethod" = some (.ref fU :: restU))
    (uF : PySem.W.fnIn K fU = true)
    (uC : PySem.W.findCls K (.ref D) (.type "type") "read" = some (.get (.builtin "classmethod.__get__") (.ref pU) .none (.ref D)))
    (wC : PySem.W.findCls K (.ref D) (.type "type") "solving" = some (.get (.builtin "classmethod.__get__") (.ref pW) .none (.ref D)))
    (vC : PySem.W.findCls K (.ref D) (.type "type") "every" = some (.get (.builtin "classmethod.__get__") (.ref pV) .none (.ref D)))
    (rD : PySem.W.readsIn K D (.type "type") = true)
    (rG : PySem.W.specialIn K (.ref D) "__getattribute__" = some (some (.builtin "type.__getattribute__")))
    (l_Lattice_init : K.lookup fI = some ⟨oc_Lattice_init, od_Lattice_init, .func (PySem.W.fnOf "__init__" "Lattice.__init__" (defArgs s_Lattice_init) (defBody s_Lattice_init) (defScope s_Lattice_init) (.ref T0) kV_Lattice_init dc_Lattice_init pm_Lattice_init an_Lattice_init cd_Lattice_init ct_Lattice_init), sl_Lattice_init⟩)
    (c_Lattice_init : PySem.W.codeIn K cd_Lattice_init "Lattice.__init__" = true)
    (k_Lattice_init : PySem.W.keepIn K (.ref fI) = true)
    (l_Factors_init : K.lookup fF = some ⟨oc_Factors_init, od_Factors_init, .func (PySem.W.fnOf "__init__" "Factors.__init__" (defArgs s_Factors_init) (defBody s_Factors_init) (defScope s_Factors_init) (.ref T1) kV_Factors_init dc_Factors_init pm_Factors_init an_Factors_init cd_Factors_init ct_Factors_init), sl_Factors_init⟩)
    (c_Factors_init : PySem.W.codeIn K cd_Factors_init "Factors.__init__" = true)
    (k_Factors_init : PySem.W.keepIn K (.ref fF) = true)
    (lT : K.lookup T0 = some ⟨ocT, odT, .seq #[.ref t0] nT, slT⟩)
    (l0 : K.lookup t0 = some ⟨.type "tuple", od0, .seq #[] n0, sl0⟩)
    (lT1 : K.lookup T1 = some ⟨ocT1, odT1, .seq #[.none, .ref t1] nT1, slT1⟩)
    (l1 : K.lookup t1 = some ⟨.type "tuple", od1, .seq #[] n1, sl1⟩)
    (l_Lattice_reduced : K.lookup fR = some ⟨oc_Lattice_reduced, od_Lattice_reduced, .func (PySem.W.fnOf "reduced" "Lattice.reduced" (defArgs s_Lattice_reduced) (defBody s_Lattice_reduced) (defScope s_Lattice_reduced) .none kV_Lattice_reduced dc_Lattice_reduced pm_Lattice_reduced an_Lattice_reduced cd_Lattice_reduced ct_Lattice_reduced), sl_Lattice_reduced⟩)
    (c_Lattice_reduced : PySem.W.codeIn K cd_Lattice_reduced "Lattice.reduced" = true)
    (k_Lattice_reduced : PySem.W.keepIn K (.ref fR) = true)
    (l_Factors_contains : K.lookup fC = some ⟨oc_Factors_contains, od_Factors_contains, .func (PySem.W.fnOf "__contains__" "Factors.__contains__" (defArgs s_Factors_contains) (defBody s_Factors_contains) (defScope s_Factors_contains) .none kV_Factors_contains dc_Factors_contains pm_Factors_contains an_Factors_contains cd_Factors_contains ct_Factors_contains), sl_Factors_contains⟩)
    (c_Factors_contains : PySem.W.codeIn K cd_Factors_contains "Factors.__contains__" = true)
    (k_Factors_contains : PySem.W.keepIn K (.ref fC) = true)
    (l_Factors_eq : K.lookup fE = some ⟨oc_Factors_eq, od_Factors_eq, .func (PySem.W.fnOf "__eq__" "Factors.__eq__" (defArgs s_Factors_eq) (defBody s_Factors_eq) (defScope s_Factors_eq) .none kV_Factors_eq dc_Factors_eq pm_Factors_eq an_Factors_eq cd_Factors_eq ct_Factors_eq), sl_Factors_eq⟩)
    (c_Factors_eq : PySem.W.codeIn K cd_Factors_eq "Factors.__eq__" = true)
    (k_Factors_eq : PySem.W.keepIn K (.ref fE) = true)
    (l_Factors_and : K.lookup fO = some ⟨oc_Factors_and, od_Factors_and, .func (PySem.W.fnOf "__and__" "Factors.__and__" (defArgs s_Factors_and) (defBody s_Factors_and) (defScope s_Factors_and) .none kV_Factors_and dc_Factors_and pm_Factors_and an_Factors_and cd_Factors_and ct_Factors_and), sl_Factors_and⟩)
    (c_Factors_and : PySem.W.codeIn K cd_Factors_and "Factors.__and__" = true)
    (k_Factors_and : PySem.W.keepIn K (.ref fO) = true)
    (l_Factors_le : K.lookup fL = some ⟨oc_Factors_le, od_Factors_le, .func (PySem.W.fnOf "__le__" "Factors.__le__" (defArgs s_Factors_le) (defBody s_Factors_le) (defScope s_Factors_le) .none kV_Factors_le dc_Factors_le pm_Factors_le an_Factors_le cd_Factors_le ct_Factors_le), sl_Factors_le⟩)
    (c_Factors_le : PySem.W.codeIn K cd_Factors_le "Factors.__le__" = true)
    (k_Factors_le : PySem.W.keepIn K (.ref fL) = true)
    (l_Factors_bool : K.lookup fB = some ⟨oc_Factors_bool, od_Factors_bool, .func (PySem.W.fnOf "__bool__" "Factors.__bool__" (defArgs s_Factors_bool) (defBody s_Factors_bool) (defScope s_Factors_bool) .none kV_Factors_bool dc_Factors_bool pm_Factors_bool an_Factors_bool cd_Factors_bool ct_Factors_bool), sl_Factors_bool⟩)
    (c_Factors_bool : PySem.W.codeIn K cd_Factors_bool "Factors.__bool__" = true)
    (k_Factors_bool : PySem.W.keepIn K (.ref fB) = true)
    (l_Factors_str : K.lookup fS = some ⟨oc_Factors_str, od_Factors_str, .func (PySem.W.fnOf "__str__" "Factors.__str__" (defArgs s_Factors_str) (defBody s_Factors_str) (defScope s_Factors_str) .none kV_Factors_str dc_Factors_str pm_Factors_str an_Factors_str cd_Factors_str ct_Factors_str), sl_Factors_str⟩)
    (c_Factors_str : PySem.W.codeIn K cd_Factors_str "Factors.__str__" = true)
    (k_Factors_str : PySem.W.keepIn K (.ref fS) = true)
    (l_Factors_every : K.lookup fV = some ⟨oc_Factors_every, od_Factors_every, .func (PySem.W.fnOf "every" "Factors.every" (defArgs s_Factors_every) (defBody s_Factors_every) (defScope s_Factors_every) .none kV_Factors_every dc_Factors_every pm_Factors_every an_Factors_every cd_Factors_every ct_Factors_every), sl_Factors_every⟩)
    (c_Factors_every : PySem.W.codeIn K cd_Factors_every "Factors.every" = true)
    (k_Factors_every : PySem.W.keepIn K (.ref fV) = true)
    (l_Factors_solving : K.lookup fW = some ⟨oc_Factors_solving, od_Factors_solving, .func (PySem.W.fnOf "solving" "Factors.solving" (defArgs s_Factors_solving) (defBody s_Factors_solving) (defScope s_Factors_solving) .none kV_Factors_solving dc_Factors_solving pm_Factors_solving an_Factors_solving cd_Factors_solving ct_Factors_solving), sl_Factors_solving⟩)
    (c_Factors_solving : PySem.W.codeIn K cd_Factors_solving "Factors.solving" = true)
    (k_Factors_solving : PySem.W.keepIn K (.ref fW) = true)
    (l_Factors_read : K.lookup fU = some ⟨oc_Factors_read, od_Factors_read, .func (PySem.W.fnOf "read" "Factors.read" (defArgs s_Factors_read) (defBody s_Factors_read) (defScope s_Factors_read) .none kV_Factors_read dc_Factors_read pm_Factors_read an_Factors_read cd_Factors_read ct_Factors_read), sl_Factors_read⟩)
    (c_Factors_read : PySem.W.codeIn K cd_Factors_read "Factors.read" = true)
    (k_Factors_read : PySem.W.keepIn K (.ref fU) = true)
    (l_Factors_size : K.lookup fZ = some ⟨oc_Factors_size, od_Factors_size, .func (PySem.W.fnOf "size" "Factors.size" (defArgs s_Factors_size) (defBody s_Factors_size) (defScope s_Factors_size) .none kV_Factors_size dc_Factors_size pm_Factors_size an_Factors_size cd_Factors_size ct_Factors_size), sl_Factors_size⟩)
    (c_Factors_size : PySem.W.codeIn K cd_Factors_size "Factors.size" = true)
    (k_Factors_size : PySem.W.keepIn K (.ref fZ) = true)
    (a_is_integer : PySem.W.nsIn K mainGlobals "is_integer" = some (some (.ref f_is_integer)))
    (l_is_integer : K.lookup f_is_integer = some ⟨oc_is_integer, od_is_integer, .func (PySem.W.fnOf "is_integer" "is_integer" (defArgs s_is_integer) (defBody s_is_integer) (defScope s_is_integer) .none kV_is_integer dc_is_integer pm_is_integer an_is_integer cd_is_integer ct_is_integer), sl_is_integer⟩)
    (c_is_integer : PySem.W.codeIn K cd_is_integer "is_integer" = true)
    (k_is_integer : PySem.W.keepIn K (.ref f_is_integer) = true)
    (a_is_sequence : PySem.W.nsIn K mainGlobals "is_sequence" = some (some (.ref f_is_sequence)))
    (l_is_sequence : K.lookup f_is_sequence = some ⟨oc_is_sequence, od_is_sequence, .func (PySem.W.fnOf "is_sequence" "is_sequence" (defArgs s_is_sequence) (defBody s_is_sequence) (defScope s_is_sequence) .none kV_is_sequence dc_is_sequence pm_is_sequence an_is_sequence cd_is_sequence ct_is_sequence), sl_is_sequence⟩)
    (c_is_sequence : PySem.W.codeIn K cd_is_sequence "is_sequence" = true)
    (k_is_sequence : PySem.W.keepIn K (.ref f_is_sequence) = true)
    (a_is_width : PySem.W.nsIn K mainGlobals "is_width" = some (some (.ref f_is_width)))
    (l_is_width : K.lookup f_is_width = some ⟨oc_is_width, od_is_width, .func (PySem.W.fnOf "is_width" "is_width" (defArgs s_is_width) (defBody s_is_width) (defScope s_is_width) .none kV_is_width dc_is_width pm_is_width an_is_width cd_is_width ct_is_width), sl_is_width⟩)
    (c_is_width : PySem.W.codeIn K cd_is_width "is_width" = true)
    (k_is_width : PySem.W.keepIn K (.ref f_is_width) = true)
    (a_is_vector : PySem.W.nsIn K mainGlobals "is_vector" = some (some (.ref f_is_vector)))
    (l_is_vector : K.lookup f_is_vector = some ⟨oc_is_vector, od_is_vector, .func (PySem.W.fnOf "is_vector" "is_vector" (defArgs s_is_vector) (defBody s_is_vector) (defScope s_is_vector) .none kV_is_vector dc_is_vector pm_is_vector an_is_vector cd_is_vector ct_is_vector), sl_is_vector⟩)
    (c_is_vector : PySem.W.codeIn K cd_is_vector "is_vector" = true)
    (k_is_vector : PySem.W.keepIn K (.ref f_is_vector) = true)
    (a_are_vectors : PySem.W.nsIn K mainGlobals "are_vectors" = some (some (.ref f_are_vectors)))
    (l_are_vectors : K.lookup f_are_vectors = some ⟨oc_are_vectors, od_are_vectors, .func (PySem.W.fnOf "are_vectors" "are_vectors" (defArgs s_are_vectors) (defBody s_are_vectors) (defScope s_are_vectors) .none kV_are_vectors dc_are_vectors pm_are_vectors an_are_vectors cd_are_vectors ct_are_vectors), sl_are_vectors⟩)
    (c_are_vectors : PySem.W.codeIn K cd_are_vectors "are_vectors" = true)
    (k_are_vectors : PySem.W.keepIn K (.ref f_are_vectors) = true)
    (a_added : PySem.W.nsIn K mainGlobals "added" = some (some (.ref f_added)))
    (l_added : K.lookup f_added = some ⟨oc_added, od_added, .func (PySem.W.fnOf "added" "added" (defArgs s_added) (defBody s_added) (defScope s_added) .none kV_added dc_added pm_added an_added cd_added ct_added), sl_added⟩)
    (c_added : PySem.W.codeIn K cd_added "added" = true)
    (k_added : PySem.W.keepIn K (.ref f_added) = true)
    (a_pivot_of : PySem.W.nsIn K mainGlobals "pivot_of" = some (some (.ref f_pivot_of)))
    (l_pivot_of : K.lookup f_pivot_of = some ⟨oc_pivot_of, od_pivot_of, .func (PySem.W.fnOf "pivot_of" "pivot_of" (defArgs s_pivot_of) (defBody s_pivot_of) (defScope s_pivot_of) .none kV_pivot_of dc_pivot_of pm_pivot_of an_pivot_of cd_pivot_of ct_pivot_of), sl_pivot_of⟩)
    (c_pivot_of : PySem.W.codeIn K cd_pivot_of "pivot_of" = true)
    (k_pivot_of : PySem.W.keepIn K (.ref f_pivot_of) = true)
    (a_is_zero : PySem.W.nsIn K mainGlobals "is_zero" = some (some (.ref f_is_zero)))
    (l_is_zero : K.lookup f_is_zero = some ⟨oc_is_zero, od_is_zero, .func (PySem.W.fnOf "is_zero" "is_zero" (defArgs s_is_zero) (defBody s_is_zero) (defScope s_is_zero) .none kV_is_zero dc_is_zero pm_is_zero an_is_zero cd_is_zero ct_is_zero), sl_is_zero⟩)
    (c_is_zero : PySem.W.codeIn K cd_is_zero "is_zero" = true)
    (k_is_zero : PySem.W.keepIn K (.ref f_is_zero) = true)
    (a_reduced_by : PySem.W.nsIn K mainGlobals "reduced_by" = some (some (.ref f_reduced_by)))
    (l_reduced_by : K.lookup f_reduced_by = some ⟨oc_reduced_by, od_reduced_by, .func (PySem.W.fnOf "reduced_by" "reduced_by" (defArgs s_reduced_by) (defBody s_reduced_by) (defScope s_reduced_by) .none kV_reduced_by dc_reduced_by pm_reduced_by an_reduced_by cd_reduced_by ct_reduced_by), sl_reduced_by⟩)
    (c_reduced_by : PySem.W.codeIn K cd_reduced_by "reduced_by" = true)
    (k_reduced_by : PySem.W.keepIn K (.ref f_reduced_by) = true)
    (a_cleared : PySem.W.nsIn K mainGlobals "cleared" = some (some (.ref f_cleared)))
    (l_cleared : K.lookup f_cleared = some ⟨oc_cleared, od_cleared, .func (PySem.W.fnOf "cleared" "cleared" (defArgs s_cleared) (defBody s_cleared) (defScope s_cleared) .none kV_cleared dc_cleared pm_cleared an_cleared cd_cleared ct_cleared), sl_cleared⟩)
    (c_cleared : PySem.W.codeIn K cd_cleared "cleared" = true)
    (k_cleared : PySem.W.keepIn K (.ref f_cleared) = true)
    (a_stepped : PySem.W.nsIn K mainGlobals "stepped" = some (some (.ref f_stepped)))
    (l_stepped : K.lookup f_stepped = some ⟨oc_stepped, od_stepped, .func (PySem.W.fnOf "stepped" "stepped" (defArgs s_stepped) (defBody s_stepped) (defScope s_stepped) .none kV_stepped dc_stepped pm_stepped an_stepped cd_stepped ct_stepped), sl_stepped⟩)
    (c_stepped : PySem.W.codeIn K cd_stepped "stepped" = true)
    (k_stepped : PySem.W.keepIn K (.ref f_stepped) = true)
    (a_positive : PySem.W.nsIn K mainGlobals "positive" = some (some (.ref f_positive)))
    (l_positive : K.lookup f_positive = some ⟨oc_positive, od_positive, .func (PySem.W.fnOf "positive" "positive" (defArgs s_positive) (defBody s_positive) (defScope s_positive) .none kV_positive dc_positive pm_positive an_positive cd_positive ct_positive), sl_positive⟩)
    (c_positive : PySem.W.codeIn K cd_positive "positive" = true)
    (k_positive : PySem.W.keepIn K (.ref f_positive) = true)
    (a_tidied : PySem.W.nsIn K mainGlobals "tidied" = some (some (.ref f_tidied)))
    (l_tidied : K.lookup f_tidied = some ⟨oc_tidied, od_tidied, .func (PySem.W.fnOf "tidied" "tidied" (defArgs s_tidied) (defBody s_tidied) (defScope s_tidied) .none kV_tidied dc_tidied pm_tidied an_tidied cd_tidied ct_tidied), sl_tidied⟩)
    (c_tidied : PySem.W.codeIn K cd_tidied "tidied" = true)
    (k_tidied : PySem.W.keepIn K (.ref f_tidied) = true)
    (a_grown : PySem.W.nsIn K mainGlobals "grown" = some (some (.ref f_grown)))
    (l_grown : K.lookup f_grown = some ⟨oc_grown, od_grown, .func (PySem.W.fnOf "grown" "grown" (defArgs s_grown) (defBody s_grown) (defScope s_grown) .none kV_grown dc_grown pm_grown an_grown cd_grown ct_grown), sl_grown⟩)
    (c_grown : PySem.W.codeIn K cd_grown "grown" = true)
    (k_grown : PySem.W.keepIn K (.ref f_grown) = true)
    (a_unit_rows : PySem.W.nsIn K mainGlobals "unit_rows" = some (some (.ref f_unit_rows)))
    (l_unit_rows : K.lookup f_unit_rows = some ⟨oc_unit_rows, od_unit_rows, .func (PySem.W.fnOf "unit_rows" "unit_rows" (defArgs s_unit_rows) (defBody s_unit_rows) (defScope s_unit_rows) .none kV_unit_rows dc_unit_rows pm_unit_rows an_unit_rows cd_unit_rows ct_unit_rows), sl_unit_rows⟩)
    (c_unit_rows : PySem.W.codeIn K cd_unit_rows "unit_rows" = true)
    (k_unit_rows : PySem.W.keepIn K (.ref f_unit_rows) = true)
    (a_sources : PySem.W.nsIn K mainGlobals "sources" = some (some (.ref f_sources)))
    (l_sources : K.lookup f_sources = some ⟨oc_sources, od_sources, .func (PySem.W.fnOf "sources" "sources" (defArgs s_sources) (defBody s_sources) (defScope s_sources) .none kV_sources dc_sources pm_sources an_sources cd_sources ct_sources), sl_sources⟩)
    (c_sources : PySem.W.codeIn K cd_sources "sources" = true)
    (k_sources : PySem.W.keepIn K (.ref f_sources) = true)
    (a_meeting : PySem.W.nsIn K mainGlobals "meeting" = some (some (.ref f_meeting)))
    (l_meeting : K.lookup f_meeting = some ⟨oc_meeting, od_meeting, .func (PySem.W.fnOf "meeting" "meeting" (defArgs s_meeting) (defBody s_meeting) (defScope s_meeting) .none kV_meeting dc_meeting pm_meeting an_meeting cd_meeting ct_meeting), sl_meeting⟩)
    (c_meeting : PySem.W.codeIn K cd_meeting "meeting" = true)
    (k_meeting : PySem.W.keepIn K (.ref f_meeting) = true)
    (a_covers : PySem.W.nsIn K mainGlobals "covers" = some (some (.ref f_covers)))
    (l_covers : K.lookup f_covers = some ⟨oc_covers, od_covers, .func (PySem.W.fnOf "covers" "covers" (defArgs s_covers) (defBody s_covers) (defScope s_covers) .none kV_covers dc_covers pm_covers an_covers cd_covers ct_covers), sl_covers⟩)
    (c_covers : PySem.W.codeIn K cd_covers "covers" = true)
    (k_covers : PySem.W.keepIn K (.ref f_covers) = true)
    (a_written : PySem.W.nsIn K mainGlobals "written" = some (some (.ref f_written)))
    (l_written : K.lookup f_written = some ⟨oc_written, od_written, .func (PySem.W.fnOf "written" "written" (defArgs s_written) (defBody s_written) (defScope s_written) .none kV_written dc_written pm_written an_written cd_written ct_written), sl_written⟩)
    (c_written : PySem.W.codeIn K cd_written "written" = true)
    (k_written : PySem.W.keepIn K (.ref f_written) = true)
    (a_read_number : PySem.W.nsIn K mainGlobals "read_number" = some (some (.ref f_read_number)))
    (l_read_number : K.lookup f_read_number = some ⟨oc_read_number, od_read_number, .func (PySem.W.fnOf "read_number" "read_number" (defArgs s_read_number) (defBody s_read_number) (defScope s_read_number) .none kV_read_number dc_read_number pm_read_number an_read_number cd_read_number ct_read_number), sl_read_number⟩)
    (c_read_number : PySem.W.codeIn K cd_read_number "read_number" = true)
    (k_read_number : PySem.W.keepIn K (.ref f_read_number) = true)
    (a_read_vectors : PySem.W.nsIn K mainGlobals "read_vectors" = some (some (.ref f_read_vectors)))
    (l_read_vectors : K.lookup f_read_vectors = some ⟨oc_read_vectors, od_read_vectors, .func (PySem.W.fnOf "read_vectors" "read_vectors" (defArgs s_read_vectors) (defBody s_read_vectors) (defScope s_read_vectors) .none kV_read_vectors dc_read_vectors pm_read_vectors an_read_vectors cd_read_vectors ct_read_vectors), sl_read_vectors⟩)
    (c_read_vectors : PySem.W.codeIn K cd_read_vectors "read_vectors" = true)
    (k_read_vectors : PySem.W.keepIn K (.ref f_read_vectors) = true)
    (a_law_box : PySem.W.nsIn K mainGlobals "_law_box" = some (some (.ref f_law_box)))
    (l_law_box : K.lookup f_law_box = some ⟨oc_law_box, od_law_box, .func (PySem.W.fnOf "_law_box" "_law_box" (defArgs s_law_box) (defBody s_law_box) (defScope s_law_box) .none kV_law_box dc_law_box pm_law_box an_law_box cd_law_box ct_law_box), sl_law_box⟩)
    (c_law_box : PySem.W.codeIn K cd_law_box "_law_box" = true)
    (k_law_box : PySem.W.keepIn K (.ref f_law_box) = true)
    (a_law_take : PySem.W.nsIn K mainGlobals "_law_take" = some (some (.ref f_law_take)))
    (l_law_take : K.lookup f_law_take = some ⟨oc_law_take, od_law_take, .func (PySem.W.fnOf "_law_take" "_law_take" (defArgs s_law_take) (defBody s_law_take) (defScope s_law_take) .none kV_law_take dc_law_take pm_law_take an_law_take cd_law_take ct_law_take), sl_law_take⟩)
    (c_law_take : PySem.W.codeIn K cd_law_take "_law_take" = true)
    (k_law_take : PySem.W.keepIn K (.ref f_law_take) = true)
    (a_law_small : PySem.W.nsIn K mainGlobals "_law_small" = some (some (.ref f_law_small)))
    (l_law_small : K.lookup f_law_small = some ⟨oc_law_small, od_law_small, .func (PySem.W.fnOf "_law_small" "_law_small" (defArgs s_law_small) (defBody s_law_small) (defScope s_law_small) .none kV_law_small dc_law_small pm_law_small an_law_small cd_law_small ct_law_small), sl_law_small⟩)
    (c_law_small : PySem.W.codeIn K cd_law_small "_law_small" = true)
    (k_law_small : PySem.W.keepIn K (.ref f_law_small) = true)
    (a_law_number : PySem.W.nsIn K mainGlobals "_law_number" = some (some (.ref f_law_number)))
    (l_law_number : K.lookup f_law_number = some ⟨oc_law_number, od_law_number, .func (PySem.W.fnOf "_law_number" "_law_number" (defArgs s_law_number) (defBody s_law_number) (defScope s_law_number) .none kV_law_number dc_law_number pm_law_number an_law_number cd_law_number ct_law_number), sl_law_number⟩)
    (c_law_number : PySem.W.codeIn K cd_law_number "_law_number" = true)
    (k_law_number : PySem.W.keepIn K (.ref f_law_number) = true)
    (a_law_rows : PySem.W.nsIn K mainGlobals "_law_rows" = some (some (.ref f_law_rows)))
    (l_law_rows : K.lookup f_law_rows = some ⟨oc_law_rows, od_law_rows, .func (PySem.W.fnOf "_law_rows" "_law_rows" (defArgs s_law_rows) (defBody s_law_rows) (defScope s_law_rows) .none kV_law_rows dc_law_rows pm_law_rows an_law_rows cd_law_rows ct_law_rows), sl_law_rows⟩)
    (c_law_rows : PySem.W.codeIn K cd_law_rows "_law_rows" = true)
    (k_law_rows : PySem.W.keepIn K (.ref f_law_rows) = true)
    (a_law_value : PySem.W.nsIn K mainGlobals "_law_value" = some (some (.ref f_law_value)))
    (l_law_value : K.lookup f_law_value = some ⟨oc_law_value, od_law_value, .func (PySem.W.fnOf "_law_value" "_law_value" (defArgs s_law_value) (defBody s_law_value) (defScope s_law_value) .none kV_law_value dc_law_value pm_law_value an_law_value cd_law_value ct_law_value), sl_law_value⟩)
    (c_law_value : PySem.W.codeIn K cd_law_value "_law_value" = true)
    (k_law_value : PySem.W.keepIn K (.ref f_law_value) = true)
    (a_law_system : PySem.W.nsIn K mainGlobals "_law_system" = some (some (.ref f_law_system)))
    (l_law_system : K.lookup f_law_system = some ⟨oc_law_system, od_law_system, .func (PySem.W.fnOf "_law_system" "_law_system" (defArgs s_law_system) (defBody s_law_system) (defScope s_law_system) .none kV_law_system dc_law_system pm_law_system an_law_system cd_law_system ct_law_system), sl_law_system⟩)
    (c_law_system : PySem.W.codeIn K cd_law_system "_law_system" = true)
    (k_law_system : PySem.W.keepIn K (.ref f_law_system) = true)
    (a_law_more_right : PySem.W.nsIn K mainGlobals "_law_more_right" = some (some (.ref f_law_more_right)))
    (l_law_more_right : K.lookup f_law_more_right = some ⟨oc_law_more_right, od_law_more_right, .func (PySem.W.fnOf "_law_more_right" "_law_more_right" (defArgs s_law_more_right) (defBody s_law_more_right) (defScope s_law_more_right) .none kV_law_more_right dc_law_more_right pm_law_more_right an_law_more_right cd_law_more_right ct_law_more_right), sl_law_more_right⟩)
    (c_law_more_right : PySem.W.codeIn K cd_law_more_right "_law_more_right" = true)
    (k_law_more_right : PySem.W.keepIn K (.ref f_law_more_right) = true)
    (a_law : PySem.W.nsIn K mainGlobals "law" = some (some (.ref f_law)))
    (l_law : K.lookup f_law = some ⟨oc_law, od_law, .func (PySem.W.fnOf "law" "law" (defArgs s_law) (defBody s_law) (defScope s_law) .none kV_law dc_law pm_law an_law cd_law ct_law), sl_law⟩)
    (c_law : PySem.W.codeIn K cd_law "law" = true)
    (k_law : PySem.W.keepIn K (.ref f_law) = true)
    (z_len : PySem.W.nsIn K mainGlobals "len" = some none)
    (z_abs : PySem.W.nsIn K mainGlobals "abs" = some none)
    (z_int : PySem.W.nsIn K mainGlobals "int" = some none)
    (z_max : PySem.W.nsIn K mainGlobals "max" = some none)
    (z_min : PySem.W.nsIn K mainGlobals "min" = some none)
    (z_range : PySem.W.nsIn K mainGlobals "range" = some none)
    (z_enumerate : PySem.W.nsIn K mainGlobals "enumerate" = some none)
    (z_isinstance : PySem.W.nsIn K mainGlobals "isinstance" = some none)
    (z_repr : PySem.W.nsIn K mainGlobals "repr" = some none)
    (z_zip : PySem.W.nsIn K mainGlobals "zip" = some none)
    (z_sum : PySem.W.nsIn K mainGlobals "sum" = some none)
    (z_all : PySem.W.nsIn K mainGlobals "all" = some none)
    (z_tuple : PySem.W.nsIn K mainGlobals "tuple" = some none)
    (z_list : PySem.W.nsIn K mainGlobals "list" = some none)
    (z_bool : PySem.W.nsIn K mainGlobals "bool" = some none)
    (z_sorted : PySem.W.nsIn K mainGlobals "sorted" = some none)
    (z_dict : PySem.W.nsIn K mainGlobals "dict" = some none)
    : ∀ base : Heap, K.In base → base.Ns mainGlobals mg → LawOk P w K mg base 12 fa (spLaw K) := by
  intro base _ _
  cases hfa.symm.trans (PySem.W.mg_of X G a_law)
  have T : Txt mg := ⟨PySem.W.mg_none_of X G z_len, PySem.W.mg_none_of X G z_abs, PySem.W.mg_none_of X G z_int, PySem.W.mg_none_of X G z_max, PySem.W.mg_none_of X G z_min, PySem.W.mg_none_of X G z_range, PySem.W.mg_none_of X G z_enumerate, PySem.W.mg_none_of X G z_isinstance, PySem.W.mg_none_of X G z_repr, PySem.W.mg_none_of X G z_zip, PySem.W.mg_none_of X G z_sum, PySem.W.mg_none_of X G z_all, PySem.W.mg_none_of X G z_tuple, PySem.W.mg_none_of X G z_list, PySem.W.mg_none_of X G z_bool, PySem.W.mg_none_of X G z_sorted, PySem.W.mg_none_of X G z_dict⟩
  have CL : ClsL K mg C := ⟨⟨pgC, hdC, poC, saC⟩, nCw, nCb, PySem.W.mg_of X G aC⟩
  have DL : ClsF K mg D := ⟨⟨pgD, hdD, poD, saD⟩, nDw, nDp, nDb, PySem.W.mg_of X G aD⟩
  have TD : ClsT K D := ⟨⟨tS, tO, tN⟩, cA, cG, cT, cK⟩
  have EM : ErrC K mg "Mismatch" M := ⟨PySem.W.mg_of X G aM, xM, kM, sM, tM⟩
  have ML : Mk K C fI := ⟨mkC, iniC, fnfI, kC⟩
  have MD : Mk K D fF := ⟨mkD, iniD, fnfF, kD⟩
  have D_is_integer := fun_mk (st := s_is_integer) l_is_integer c_is_integer k_is_integer
  have A_is_integer : DefAt K mg "is_integer" s_is_integer ["value"] := ⟨f_is_integer, _, D_is_integer, PySem.W.mg_of X G a_is_integer, D_is_integer.binds (fun _ _ _ _ _ _ us hl => match us, hl with | [_], _ => rfl)⟩
  have D_is_sequence := fun_mk (st := s_is_sequence) l_is_sequence c_is_sequence k_is_sequence
  have A_is_sequence : DefAt K mg "is_sequence" s_is_sequence ["value"] := ⟨f_is_sequence, _, D_is_sequence, PySem.W.mg_of X G a_is_sequence, D_is_sequence.binds (fun _ _ _ _ _ _ us hl => match us, hl with | [_], _ => rfl)⟩
  have D_is_width := fun_mk (st := s_is_width) l_is_width c_is_width k_is_width
  have A_is_width : DefAt K mg "is_width" s_is_width ["value"] := ⟨f_is_width, _, D_is_width, PySem.W.mg_of X G a_is_width, D_is_width.binds (fun _ _ _ _ _ _ us hl => match us, hl with | [_], _ => rfl)⟩
  have D_is_vector := fun_mk (st := s_is_vector) l_is_vector c_is_vector k_is_vector
  have A_is_vector : DefAt K mg "is_vector" s_is_vector ["value", "width"] := ⟨f_is_vector, _, D_is_vector, PySem.W.mg_of X G a_is_vector, D_is_vector.binds (fun _ _ _ _ _ _ us hl => match us, hl with | [_, _], _ => rfl)⟩
  have D_are_vectors := fun_mk (st := s_are_vectors) l_are_vectors c_are_vectors k_are_vectors
  have A_are_vectors : DefAt K mg "are_vectors" s_are_vectors ["value", "width"] := ⟨f_are_vectors, _, D_are_vectors, PySem.W.mg_of X G a_are_vectors, D_are_vectors.binds (fun _ _ _ _ _ _ us hl => match us, hl with | [_, _], _ => rfl)⟩
  have D_added := fun_mk (st := s_added) l_added c_added k_added
  have A_added : DefAt K mg "added" s_added ["vector", "times", "other"] := ⟨f_added, _, D_added, PySem.W.mg_of X G a_added, D_added.binds (fun _ _ _ _ _ _ us hl => match us, hl with | [_, _, _], _ => rfl)⟩
  have D_pivot_of := fun_mk (st := s_pivot_of) l_pivot_of c_pivot_of k_pivot_of
  have A_pivot_of : DefAt K mg "pivot_of" s_pivot_of ["vector"] := ⟨f_pivot_of, _, D_pivot_of, PySem.W.mg_of X G a_pivot_of, D_pivot_of.binds (fun _ _ _ _ _ _ us hl => match us, hl with | [_], _ => rfl)⟩
  have D_is_zero := fun_mk (st := s_is_zero) l_is_zero c_is_zero k_is_zero
  have A_is_zero : DefAt K mg "is_zero" s_is_zero ["vector"] := ⟨f_is_zero, _, D_is_zero, PySem.W.mg_of X G a_is_zero, D_is_zero.binds (fun _ _ _ _ _ _ us hl => match us, hl with | [_], _ => rfl)⟩
  have D_reduced_by := fun_mk (st := s_reduced_by) l_reduced_by c_reduced_by k_reduced_by
  have A_reduced_by : DefAt K mg "reduced_by" s_reduced_by ["basis", "vector"] := ⟨f_reduced_by, _, D_reduced_by, PySem.W.mg_of X G a_reduced_by, D_reduced_by.binds (fun _ _ _ _ _ _ us hl => match us, hl with | [_, _], _ => rfl)⟩
  have D_cleared := fun_mk (st := s_cleared) l_cleared c_cleared k_cleared
  have A_cleared : DefAt K mg "cleared" s_cleared ["row", "vector", "at"] := ⟨f_cleared, _, D_cleared, PySem.W.mg_of X G a_cleared, D_cleared.binds (fun _ _ _ _ _ _ us hl => match us, hl with | [_, _, _], _ => rfl)⟩
  have D_stepped := fun_mk (st := s_stepped) l_stepped c_stepped k_stepped
  have A_stepped : DefAt K mg "stepped" s_stepped ["steps", "vector"] := ⟨f_stepped, _, D_stepped, PySem.W.mg_of X G a_stepped, D_stepped.binds (fun _ _ _ _ _ _ us hl => match us, hl with | [_, _], _ => rfl)⟩
  have D_positive := fun_mk (st := s_positive) l_positive c_positive k_positive
  have A_positive : DefAt K mg "positive" s_positive ["row"] := ⟨f_positive, _, D_positive, PySem.W.mg_of X G a_positive, D_positive.binds (fun _ _ _ _ _ _ us hl => match us, hl with | [_], _ => rfl)⟩
  have D_tidied := fun_mk (st := s_tidied) l_tidied c_tidied k_tidied
  have A_tidied : DefAt K mg "tidied" s_tidied ["steps"] := ⟨f_tidied, _, D_tidied, PySem.W.mg_of X G a_tidied, D_tidied.binds (fun _ _ _ _ _ _ us hl => match us, hl with | [_], _ => rfl)⟩
  have D_grown := fun_mk (st := s_grown) l_grown c_grown k_grown
  have A_grown : DefAt K mg "grown" s_grown ["basis", "vector"] := ⟨f_grown, _, D_grown, PySem.W.mg_of X G a_grown, D_grown.binds (fun _ _ _ _ _ _ us hl => match us, hl with | [_, _], _ => rfl)⟩
  have D_unit_rows := fun_mk (st := s_unit_rows) l_unit_rows c_unit_rows k_unit_rows
  have A_unit_rows : DefAt K mg "unit_rows" s_unit_rows ["width"] := ⟨f_unit_rows, _, D_unit_rows, PySem.W.mg_of X G a_unit_rows, D_unit_rows.binds (fun _ _ _ _ _ _ us hl => match us, hl with | [_], _ => rfl)⟩
  have D_sources := fun_mk (st := s_sources) l_sources c_sources k_sources
  have A_sources : DefAt K mg "sources" s_sources ["images", "rows", "target", "width"] := ⟨f_sources, _, D_sources, PySem.W.mg_of X G a_sources, D_sources.binds (fun _ _ _ _ _ _ us hl => match us, hl with | [_, _, _, _], _ => rfl)⟩
  have D_meeting := fun_mk (st := s_meeting) l_meeting c_meeting k_meeting
  have A_meeting : DefAt K mg "meeting" s_meeting ["p", "q"] := ⟨f_meeting, _, D_meeting, PySem.W.mg_of X G a_meeting, D_meeting.binds (fun _ _ _ _ _ _ us hl => match us, hl with | [_, _], _ => rfl)⟩
  have D_covers := fun_mk (st := s_covers) l_covers c_covers k_covers
  have A_covers : DefAt K mg "covers" s_covers ["outer", "inner"] := ⟨f_covers, _, D_covers, PySem.W.mg_of X G a_covers, D_covers.binds (fun _ _ _ _ _ _ us hl => match us, hl with | [_, _], _ => rfl)⟩
  have D_written := fun_mk (st := s_written) l_written c_written k_written
  have A_written : DefAt K mg "written" s_written ["vector"] := ⟨f_written, _, D_written, PySem.W.mg_of X G a_written, D_written.binds (fun _ _ _ _ _ _ us hl => match us, hl with | [_], _ => rfl)⟩
  have D_read_number := fun_mk (st := s_read_number) l_read_number c_read_number k_read_number
  have A_read_number : DefAt K mg "read_number" s_read_number ["word", "digits"] := ⟨f_read_number, _, D_read_number, PySem.W.mg_of X G a_read_number, D_read_number.binds (fun _ _ _ _ _ _ us hl => match us, hl with | [_, _], _ => rfl)⟩
  have D_read_vectors := fun_mk (st := s_read_vectors) l_read_vectors c_read_vectors k_read_vectors
  have A_read_vectors : DefAt K mg "read_vectors" s_read_vectors ["words"] := ⟨f_read_vectors, _, D_read_vectors, PySem.W.mg_of X G a_read_vectors, D_read_vectors.binds (fun _ _ _ _ _ _ us hl => match us, hl with | [_], _ => rfl)⟩
  have D_law_box := fun_mk (st := s_law_box) l_law_box c_law_box k_law_box
  have A_law_box : DefAt K mg "_law_box" s_law_box ["_law_script", "_law_k", "_law_own"] := ⟨f_law_box, _, D_law_box, PySem.W.mg_of X G a_law_box, D_law_box.binds (fun _ _ _ _ _ _ us hl => match us, hl with | [_, _, _], _ => rfl)⟩
  have D_law_take := fun_mk (st := s_law_take) l_law_take c_law_take k_law_take
  have A_law_take : DefAt K mg "_law_take" s_law_take ["_law_box_here", "_law_many"] := ⟨f_law_take, _, D_law_take, PySem.W.mg_of X G a_law_take, D_law_take.binds (fun _ _ _ _ _ _ us hl => match us, hl with | [_, _], _ => rfl)⟩
  have D_law_small := fun_mk (st := s_law_small) l_law_small c_law_small k_law_small
  have A_law_small : DefAt K mg "_law_small" s_law_small ["_law_box_here"] := ⟨f_law_small, _, D_law_small, PySem.W.mg_of X G a_law_small, D_law_small.binds (fun _ _ _ _ _ _ us hl => match us, hl with | [_], _ => rfl)⟩
  have D_law_number := fun_mk (st := s_law_number) l_law_number c_law_number k_law_number
  have A_law_number : DefAt K mg "_law_number" s_law_number ["_law_box_here"] := ⟨f_law_number, _, D_law_number, PySem.W.mg_of X G a_law_number, D_law_number.binds (fun _ _ _ _ _ _ us hl => match us, hl with | [_], _ => rfl)⟩
  have D_law_rows := fun_mk (st := s_law_rows) l_law_rows c_law_rows k_law_rows
  have A_law_rows : DefAt K mg "_law_rows" s_law_rows ["_law_box_here", "_law_width", "_law_many", "_law_is_great"] := ⟨f_law_rows, _, D_law_rows, PySem.W.mg_of X G a_law_rows, D_law_rows.binds (fun _ _ _ _ _ _ us hl => match us, hl with | [_, _, _, _], _ => rfl)⟩
  have D_law_value := fun_mk (st := s_law_value) l_law_value c_law_value k_law_value
  have A_law_value : DefAt K mg "_law_value" s_law_value ["_law_form", "_law_row"] := ⟨f_law_value, _, D_law_value, PySem.W.mg_of X G a_law_value, D_law_value.binds (fun _ _ _ _ _ _ us hl => match us, hl with | [_, _], _ => rfl)⟩
  have D_law_system := fun_mk (st := s_law_system) l_law_system c_law_system k_law_system
  have A_law_system : DefAt K mg "_law_system" s_law_system ["_law_box_here", "_law_width", "_law_many"] := ⟨f_law_system, _, D_law_system, PySem.W.mg_of X G a_law_system, D_law_system.binds (fun _ _ _ _ _ _ us hl => match us, hl with | [_, _, _], _ => rfl)⟩
  have D_law_more_right := fun_mk (st := s_law_more_right) l_law_more_right c_law_more_right k_law_more_right
  have A_law_more_right : DefAt K mg "_law_more_right" s_law_more_right ["_law_box_here", "_law_shapes", "_law_rights", "_law_made"] := ⟨f_law_more_right, _, D_law_more_right, PySem.W.mg_of X G a_law_more_right, D_law_more_right.binds (fun _ _ _ _ _ _ us hl => match us, hl with | [_, _, _, _], _ => rfl)⟩
  have D_law := fun_mk (st := s_law) l_law c_law k_law
  have DR := fun_mk (st := s_Lattice_reduced) l_Lattice_reduced c_Lattice_reduced k_Lattice_reduced
  have bR := DR.binds (ps := ["self", "vector"]) (fun _ _ _ _ _ _ us hl => match us, hl with | [_, _], _ => rfl)
  have DC := fun_mk (st := s_Factors_contains) l_Factors_contains c_Factors_contains k_Factors_contains
  have bC := DC.binds (ps := ["self", "x"]) (fun _ _ _ _ _ _ us hl => match us, hl with | [_, _], _ => rfl)
  have DE := fun_mk (st := s_Factors_eq) l_Factors_eq c_Factors_eq k_Factors_eq
  have bE := DE.binds (ps := ["self", "other"]) (fun _ _ _ _ _ _ us hl => match us, hl with | [_, _], _ => rfl)
  have DO := fun_mk (st := s_Factors_and) l_Factors_and c_Factors_and k_Factors_and
  have bO := DO.binds (ps := ["self", "other"]) (fun _ _ _ _ _ _ us hl => match us, hl with | [_, _], _ => rfl)
  have DL_ := fun_mk (st := s_Factors_le) l_Factors_le c_Factors_le k_Factors_le
  have bL_ := DL_.binds (ps := ["self", "other"]) (fun _ _ _ _ _ _ us hl => match us, hl with | [_, _], _ => rfl)
  have DB := fun_mk (st := s_Factors_bool) l_Factors_bool c_Factors_bool k_Factors_bool
  have bB := DB.binds (ps := ["self"]) (fun _ _ _ _ _ _ us hl => match us, hl with | [_], _ => rfl)
  have DS := fun_mk (st := s_Factors_str) l_Factors_str c_Factors_str k_Factors_str
  have bS := DS.binds (ps := ["self"]) (fun _ _ _ _ _ _ us hl => match us, hl with | [_], _ => rfl)
  have DV := fun_mk (st := s_Factors_every) l_Factors_every c_Factors_every k_Factors_every
  have bV := DV.binds (ps := ["cls", "width"]) (fun _ _ _ _ _ _ us hl => match us, hl with | [_, _], _ => rfl)
  have DW := fun_mk (st := s_Factors_solving) l_Factors_solving c_Factors_solving k_Factors_solving
  have bW := DW.binds (ps := ["cls", "width", "forms", "rights"]) (fun _ _ _ _ _ _ us hl => match us, hl with | [_, _, _, _], _ => rfl)
  have DU := fun_mk (st := s_Factors_read) l_Factors_read c_Factors_read k_Factors_read
  have bU := DU.binds (ps := ["cls", "text"]) (fun _ _ _ _ _ _ us hl => match us, hl with | [_, _], _ => rfl)
  have DZ := fun_mk (st := s_Factors_size) l_Factors_size c_Factors_size k_Factors_size
  have bZ := DZ.binds (ps := ["self"]) (fun _ _ _ _ _ _ us hl => match us, hl with | [_], _ => rfl)
  have FI : FunD K "__init__" "Lattice.__init__" (defArgs s_Lattice_init) (defBody s_Lattice_init) (defScope s_Lattice_init) [V.ref t0] [] fI _ := ⟨⟨_, _, _, _, _, _, _, _, _, _, rfl, l_Lattice_init, c_Lattice_init, .inr ⟨(fun z => nomatch z), T0, _, [.ref t0], nT, rfl, lT, rfl, .cons rfl .nil⟩, .inl rfl⟩, k_Lattice_init⟩
  have FF : FunD K "__init__" "Factors.__init__" (defArgs s_Factors_init) (defBody s_Factors_init) (defScope s_Factors_init) [V.non, V.ref t1] [] fF _ := ⟨⟨_, _, _, _, _, _, _, _, _, _, rfl, l_Factors_init, c_Factors_init, .inr ⟨(fun z => nomatch z), T1, _, [.none, .ref t1], nT1, rfl, lT1, rfl, .cons rfl (.cons rfl .nil)⟩, .inl rfl⟩, k_Factors_init⟩
  obtain ⟨d0, v0, b0⟩ := FI.binds1 (ps := ["self", "width", "rows"]) 3 1 (fun z => nomatch z) rfl (fun _ _ _ _ _ _ _ us its hu hi => match us, hu, its, hi with | [_, _, _], _, [_], _ => ⟨_, rfl, rfl⟩)
  cases v0
  obtain ⟨e0, w0, g0⟩ := FF.binds1 (ps := ["self", "width", "point", "rows"]) 4 2 (fun z => nomatch z) rfl (fun _ _ _ _ _ _ _ us its hu hi => match us, hu, its, hi with | [_, _, _, _], _, [_, _], _ => ⟨_, rfl, rfl⟩)
  cases w0
  obtain ⟨e1, w1, g1⟩ := FF.binds1 (ps := ["self", "width", "point", "rows"]) 2 0 (fun z => nomatch z) rfl (fun _ _ _ _ _ _ _ us its hu hi => match us, hu, its, hi with | [_, _], _, [_, _], _ => ⟨_, rfl, rfl⟩)
  obtain ⟨e2, w2, g2⟩ := FF.binds1 (ps := ["self", "width", "point", "rows"]) 3 1 (fun z => nomatch z) rfl (fun _ _ _ _ _ _ _ us its hu hi => match us, hu, its, hi with | [_, _, _], _, [_, _], _ => ⟨_, rfl, rfl⟩)
  have TS : TxtS mg := ⟨T, PySem.W.mg_none_of X G zs⟩
  have it0 : ∀ H, InSeq K H t1 [] := fun H => .kt l1 rfl (fun H => .inr ⟨_, _, _, l1, rfl, rfl, Nat.zero_le _, .nil⟩)
  have g_is_integerG := ok_is_integerG (P := P) (w := w) (base := base) T A_is_integer
  have g_is_sequence := ok_is_sequence (P := P) (w := w) (base := base) T A_is_sequence
  have g_is_integer := ok_is_integer (P := P) (w := w) (base := base) g_is_integerG
  have g_is_width := ok_is_width (P := P) (w := w) (base := base) T g_is_integer A_is_width
  have g_is_integerW := ok_is_integerW (P := P) (w := w) (base := base) T A_is_integer
  have g_is_vectorW := ok_is_vectorW (P := P) (w := w) (base := base) T g_is_integerW A_is_vector
  have g_is_vectorV := ok_is_vectorV (P := P) (w := w) (base := base) g_is_vectorW
  have g_are_vectors := ok_are_vectors (P := P) (w := w) (base := base) T g_is_sequence g_is_vectorV A_are_vectors
  have g_added := ok_added (P := P) (w := w) (base := base) T A_added
  have g_pivot_of := ok_pivot_of (P := P) (w := w) (base := base) T A_pivot_of
  have g_is_zero := ok_is_zero (P := P) (w := w) (base := base) T g_pivot_of A_is_zero
  have g_reduced_by := ok_reduced_by (P := P) (w := w) (base := base) T g_pivot_of g_added A_reduced_by
  have g_cleared := ok_cleared (P := P) (w := w) (base := base) T g_added A_cleared
  have g_stepped := ok_stepped (P := P) (w := w) (base := base) T g_pivot_of g_cleared g_is_zero A_stepped
  have g_positive := ok_positive (P := P) (w := w) (base := base) T g_pivot_of g_added A_positive
  have g_tidied := ok_tidied (P := P) (w := w) (base := base) T g_positive g_reduced_by A_tidied
  have g_grown := ok_grown (P := P) (w := w) (base := base) T g_reduced_by g_is_zero g_stepped g_tidied A_grown
  have g_unit := ok_unit (P := P) (w := w) (base := base) T A_unit_rows
  have g_box := ok_box (P := P) (w := w) (base := base) T A_law_box
  have g_take := ok_take (P := P) (w := w) (base := base) T A_law_take
  have g_small := ok_small (P := P) (w := w) (base := base) T g_take A_law_small
  have g_number := ok_number (P := P) (w := w) (base := base) T g_take A_law_number
  have g_rows := ok_rows (P := P) (w := w) (base := base) T g_take g_small g_number A_law_rows
  have g_value := ok_value (P := P) (w := w) (base := base) T A_law_value
  have g_system := ok_system (P := P) (w := w) (base := base) T g_take g_small g_rows g_value A_law_system
  have g_written := ok_written (P := P) (w := w) (base := base) TS A_written
  have g_read_number := ok_read_number (P := P) (w := w) (base := base) TS A_read_number
  have g_read_vectors := ok_read_vectors (P := P) (w := w) (base := base) TS ⟨_, PySem.W.mg_of X G aDg, dg, rfl⟩ g_read_number A_read_vectors
  have gL := ok_lattice (P := P) (w := w) (base := base) T CL g_is_width g_are_vectors g_grown FI
  have gR := ok_redM (P := P) (w := w) (base := base) CL g_reduced_by DR
  have gF := ok_factors (P := P) (w := w) (base := base) T CL DL ML gL b0 ⟨mR, fnR, k_Lattice_reduced⟩ gR bR g_is_vectorV FF
  have gC := ok_contF (P := P) (w := w) (base := base) T DL g_is_vectorW g_reduced_by DC
  have gE := ok_eqF (P := P) (w := w) (base := base) T DL TD ktT DE
  have gV0 := ok_every (P := P) (w := w) (base := base) T MD g_is_width g_unit gF g0 DV
  have gV : FnR P w K mg base CX0 9 fV (spEvery D) := (gV0.raw bV .nil).imp fun vs H Q E h => by rw [List.append_nil]; exact h
  have gSo := ok_sources (P := P) (w := w) (base := base) T CL ML gL b0 ⟨mR, fnR, k_Lattice_reduced⟩ gR bR g_pivot_of A_sources
  have gW0 := ok_solving (P := P) (w := w) (base := base) T MD g_is_width g_are_vectors g_is_sequence g_is_vectorV g_unit gSo gF g0 DW
  have gW : FnR P w K mg base CX0 10 fW (spSolving K D) := (gW0.raw bW .nil).imp fun vs H Q E h => by rw [List.append_nil]; exact h
  have gST := ok_sourcesT (P := P) (w := w) (base := base) T CL ML gL b0 ⟨mR, fnR, k_Lattice_reduced⟩ gR bR g_pivot_of A_sources
  have gMt := ok_meeting (P := P) (w := w) (base := base) T DL g_added gST A_meeting
  have gO := ok_and (P := P) (w := w) (base := base) T DL TD EM MD gF g0 g1 w1 it0 gMt DO
  have gCo := ok_covers (P := P) (w := w) (base := base) T DL EM mC fnC gC bC g_is_zero g_reduced_by A_covers
  have gLe := ok_leF (P := P) (w := w) (base := base) T DL TD gCo DL_
  have gB := ok_boolF (P := P) (w := w) (base := base) T DL DB
  have gS := ok_strF (P := P) (w := w) (base := base) TS DL g_written DS
  have gZ := ok_sizeF (P := P) (w := w) (base := base) T DL DZ
  have gU0 := ok_read (P := P) (w := w) (base := base) TS MD gF g0 g_read_vectors DU
  have gU : FnR P w K mg base CX0 9 fU (spRead D) := (gU0.raw bU .nil).imp fun vs H Q E h => by rw [List.append_nil]; exact h
  have gMr := ok_more (P := P) (w := w) (base := base) T DL TD mE fnE gE bE mB fnB gB bB ⟨rD, rG⟩ ⟨wC, ⟨_, wR⟩, wF⟩ gW g_take A_law_more_right
  exact ok_law TS CL ML gL b0 DL TD MD gF g0 g2 w2 it0 mE fnE gE bE mC fnC gC bC mO fnO gO bO mL fnL gLe bL_ mB fnB gB bB mS fnS gS bS ⟨pA, pG, pT, _, pR⟩ gZ bZ ⟨rD, rG⟩ ⟨vC, ⟨_, vR⟩, vF⟩ gV ⟨wC, ⟨_, wR⟩, wF⟩ gW ⟨uC, ⟨_, uR⟩, uF⟩ gU D_law (fun s u _ => .of_eq rfl) g_box g_take g_system gMr
end K06

open PySem PySem.W PyProof.Rows in
set_option maxRecDepth 100000 in
set_option maxHeartbeats 0 in
theorem PySem.Challenge.cw_sumlives_k12_whole_systems_go_together_holds : PySem.Challenge.rw_sumlives_k12_whole_systems_go_together.Holds := by
  w_on; o_law; k_head; (case hw => w_witness2)
  k_fill
  refine L2.walk_law (l := PySem.Challenge.rw_sumlives_k12_whole_systems_go_together) (n := 63) (k := 12) (sp := K06.spLaw) rfl (by decide) rfl ⟨rfl, by decide, by decide⟩ (fun w h Y => PySem.W.kIn_of Y) ?F (fun K H a ns hl hS => ⟨a, ns, rfl, hS, hl, fun _ => rfl⟩)
  case F =>
    intro w mg fa h KX G hmg
    refine' K06.facts KX G hmg ?aC ?aD ?pgC ?hdC ?poC ?saC ?mkC ?iniC ?fnfI ?kC ?nCw ?nCb ?pgD ?hdD ?poD ?saD ?mkD ?iniD ?fnfF ?kD ?nDw ?nDp ?nDb ?tS ?tO ?tN ?cA ?cG ?cT ?cK ?ktT ?mR ?fnR ?aM ?xM ?kM ?sM ?tM ?zs ?aDg ?pA ?pG ?pT ?pR ?mC ?fnC ?mE ?fnE ?mO ?fnO ?mL ?fnL ?mB ?fnB ?mS ?fnS ?vA ?vR ?vF ?wA ?wR ?wF ?uA ?uR ?uF ?uC ?wC ?vC ?rD ?rG ?l_Lattice_init ?c_Lattice_init ?k_Lattice_init ?l_Factors_init ?c_Factors_init ?k_Factors_init ?lT ?l0 ?lT1 ?l1 ?l_Lattice_reduced ?c_Lattice_reduced ?k_Lattice_reduced ?l_Factors_contains ?c_Factors_contains ?k_Factors_contains ?l_Factors_eq ?c_Factors_eq ?k_Factors_eq ?l_Factors_and ?c_Factors_and ?k_Factors_and ?l_Factors_le ?c_Factors_le ?k_Factors_le ?l_Factors_bool ?c_Factors_bool ?k_Factors_bool ?l_Factors_str ?c_Factors_str ?k_Factors_str ?l_Factors_every ?c_Factors_every ?k_Factors_every ?l_Factors_solving ?c_Factors_solving ?k_Factors_solving ?l_Factors_read ?c_Factors_read ?k_Factors_read ?l_Factors_size ?c_Factors_size ?k_Factors_size ?a_is_integer ?l_is_integer ?c_is_integer ?k_is_integer ?a_is_sequence ?l_is_sequence ?c_is_sequence ?k_is_sequence ?a_is_width ?l_is_width ?c_is_width ?k_is_width ?a_is_vector ?l_is_vector ?c_is_vector ?k_is_vector ?a_are_vectors ?l_are_vectors ?c_are_vectors ?k_are_vectors ?a_added ?l_added ?c_added ?k_added ?a_pivot_of ?l_pivot_of ?c_pivot_of ?k_pivot_of ?a_is_zero ?l_is_zero ?c_is_zero ?k_is_zero ?a_reduced_by ?l_reduced_by ?c_reduced_by ?k_reduced_by ?a_cleared ?l_cleared ?c_cleared ?k_cleared ?a_stepped ?l_stepped ?c_stepped ?k_stepped ?a_positive ?l_positive ?c_positive ?k_positive ?a_tidied ?l_tidied ?c_tidied ?k_tidied ?a_grown ?l_grown ?c_grown ?k_grown ?a_unit_rows ?l_unit_rows ?c_unit_rows ?k_unit_rows ?a_sources ?l_sources ?c_sources ?k_sources ?a_meeting ?l_meeting ?c_meeting ?k_meeting ?a_covers ?l_covers ?c_covers ?k_covers ?a_written ?l_written ?c_written ?k_written ?a_read_number ?l_read_number ?c_read_number ?k_read_number ?a_read_vectors ?l_read_vectors ?c_read_vectors ?k_read_vectors ?a_law_box ?l_law_box ?c_law_box ?k_law_box ?a_law_take ?l_law_take ?c_law_take ?k_law_take ?a_law_small ?l_law_small ?c_law_small ?k_law_small ?a_law_number ?l_law_number ?c_law_number ?k_law_number ?a_law_rows ?l_law_rows ?c_law_rows ?k_law_rows ?a_law_value ?l_law_value ?c_law_value ?k_law_value ?a_law_system ?l_law_system ?c_law_system ?k_law_system ?a_law_more_right ?l_law_more_right ?c_law_more_right ?k_law_more_right ?a_law ?l_law ?c_law ?k_law ?z_len ?z_abs ?z_int ?z_max ?z_min ?z_range ?z_enumerate ?z_isinstance ?z_repr ?z_zip ?z_sum ?z_all ?z_tuple ?z_list ?z_bool ?z_sorted ?z_dict
    (case aC => k_is)
    (case aD => k_is)
    (case pgC => k_is)
    (case hdC => k_is)
    (case poC => k_is)
    (case saC => k_is)
    (case mkC => k_is)
    (case iniC => k_is)
    (case fnfI => k_is)
    (case kC => k_is)
    (case nCw => k_is)
    (case nCb => k_is)
    (case pgD => k_is)
    (case hdD => k_is)
    (case poD => k_is)
    (case saD => k_is)
    (case mkD => k_is)
    (case iniD => k_is)
    (case fnfF => k_is)
    (case kD => k_is)
    (case nDw => k_is)
    (case nDp => k_is)
    (case nDb => k_is)
    (case tS => k_is)
    (case tO => k_is)
    (case tN => k_is)
    (case cA => k_is)
    (case cG => k_is)
    (case cT => k_is)
    (case cK => exact if_pos (beq_self_eq_true _))
    (case ktT => kit_is)
    (case mR => k_is)
    (case fnR => k_is)
    (case aM => k_is)
    (case xM => k_exc)
    (case kM => k_is)
    (case sM => k_is)
    (case tM => k_is)
    (case zs => k_is)
    (case aDg => k_is)
    (case pA => k_is)
    (case pG => k_is)
    (case pT => k_is)
    (case pR => k_is)
    (case mC => k_is)
    (case fnC => k_is)
    (case mE => k_is)
    (case fnE => k_is)
    (case mO => k_is)
    (case fnO => k_is)
    (case mL => k_is)
    (case fnL => k_is)
    (case mB => k_is)
    (case fnB => k_is)
    (case mS => k_is)
    (case fnS => k_is)
    (case vA => k_is)
    (case vR => k_is)
    (case vF => k_is)
    (case wA => k_is)
    (case wR => k_is)
    (case wF => k_is)
    (case uA => k_is)
    (case uR => k_is)
    (case uF => k_is)
    (case uC => k_is)
    (case wC => k_is)
    (case vC => k_is)
    (case rD => k_is)
    (case rG => k_is)
    (case l_Lattice_init => k_is)
    (case c_Lattice_init => k_is)
    (case k_Lattice_init => k_is)
    (case l_Factors_init => k_is)
    (case c_Factors_init => k_is)
    (case k_Factors_init => k_is)
    (case lT => k_is)
    (case l0 => k_is)
    (case lT1 => k_is)
    (case l1 => k_is)
    (case l_Lattice_reduced => k_is)
    (case c_Lattice_reduced => k_is)
    (case k_Lattice_reduced => k_is)
    (case l_Factors_contains => k_is)
    (case c_Factors_contains => k_is)
    (case k_Factors_contains => k_is)
    (case l_Factors_eq => k_is)
    (case c_Factors_eq => k_is)
    (case k_Factors_eq => k_is)
    (case l_Factors_and => k_is)
    (case c_Factors_and => k_is)
    (case k_Factors_and => k_is)
    (case l_Factors_le => k_is)
    (case c_Factors_le => k_is)
    (case k_Factors_le => k_is)
    (case l_Factors_bool => k_is)
    (case c_Factors_bool => k_is)
    (case k_Factors_bool => k_is)
    (case l_Factors_str => k_is)
    (case c_Factors_str => k_is)
    (case k_Factors_str => k_is)
    (case l_Factors_every => k_is)
    (case c_Factors_every => k_is)
    (case k_Factors_every => k_is)
    (case l_Factors_solving => k_is)
    (case c_Factors_solving => k_is)
    (case k_Factors_solving => k_is)
    (case l_Factors_read => k_is)
    (case c_Factors_read => k_is)
    (case k_Factors_read => k_is)
    (case l_Factors_size => k_is)
    (case c_Factors_size => k_is)
    (case k_Factors_size => k_is)
    (case a_is_integer => k_is)
    (case l_is_integer => k_is)
    (case c_is_integer => k_is)
    (case k_is_integer => k_is)
    (case a_is_sequence => k_is)
    (case l_is_sequence => k_is)
    (case c_is_sequence => k_is)
    (case k_is_sequence => k_is)
    (case a_is_width => k_is)
    (case l_is_width => k_is)
    (case c_is_width => k_is)
    (case k_is_width => k_is)
    (case a_is_vector => k_is)
    (case l_is_vector => k_is)
    (case c_is_vector => k_is)
    (case k_is_vector => k_is)
    (case a_are_vectors => k_is)
    (case l_are_vectors => k_is)
    (case c_are_vectors => k_is)
    (case k_are_vectors => k_is)
    (case a_added => k_is)
    (case l_added => k_is)
    (case c_added => k_is)
    (case k_added => k_is)
    (case a_pivot_of => k_is)
    (case l_pivot_of => k_is)
    (case c_pivot_of => k_is)
    (case k_pivot_of => k_is)
    (case a_is_zero => k_is)
    (case l_is_zero => k_is)
    (case c_is_zero => k_is)
    (case k_is_zero => k_is)
    (case a_reduced_by => k_is)
    (case l_reduced_by => k_is)
    (case c_reduced_by => k_is)
    (case k_reduced_by => k_is)
    (case a_cleared => k_is)
    (case l_cleared => k_is)
    (case c_cleared => k_is)
    (case k_cleared => k_is)
    (case a_stepped => k_is)
    (case l_stepped => k_is)
    (case c_stepped => k_is)
    (case k_stepped => k_is)
    (case a_positive => k_is)
    (case l_positive => k_is)
    (case c_positive => k_is)
    (case k_positive => k_is)
    (case a_tidied => k_is)
    (case l_tidied => k_is)
    (case c_tidied => k_is)
    (case k_tidied => k_is)
    (case a_grown => k_is)
    (case l_grown => k_is)
    (case c_grown => k_is)
    (case k_grown => k_is)
    (case a_unit_rows => k_is)
    (case l_unit_rows => k_is)
    (case c_unit_rows => k_is)
    (case k_unit_rows => k_is)
    (case a_sources => k_is)
    (case l_sources => k_is)
    (case c_sources => k_is)
    (case k_sources => k_is)
    (case a_meeting => k_is)
    (case l_meeting => k_is)
    (case c_meeting => k_is)
    (case k_meeting => k_is)
    (case a_covers => k_is)
    (case l_covers => k_is)
    (case c_covers => k_is)
    (case k_covers => k_is)
    (case a_written => k_is)
    (case l_written => k_is)
    (case c_written => k_is)
    (case k_written => k_is)
    (case a_read_number => k_is)
    (case l_read_number => k_is)
    (case c_read_number => k_is)
    (case k_read_number => k_is)
    (case a_read_vectors => k_is)
    (case l_read_vectors => k_is)
    (case c_read_vectors => k_is)
    (case k_read_vectors => k_is)
    (case a_law_box => k_is)
    (case l_law_box => k_is)
    (case c_law_box => k_is)
    (case k_law_box => k_is)
    (case a_law_take => k_is)
    (case l_law_take => k_is)
    (case c_law_take => k_is)
    (case k_law_take => k_is)
    (case a_law_small => k_is)
    (case l_law_small => k_is)
    (case c_law_small => k_is)
    (case k_law_small => k_is)
    (case a_law_number => k_is)
    (case l_law_number => k_is)
    (case c_law_number => k_is)
    (case k_law_number => k_is)
    (case a_law_rows => k_is)
    (case l_law_rows => k_is)
    (case c_law_rows => k_is)
    (case k_law_rows => k_is)
    (case a_law_value => k_is)
    (case l_law_value => k_is)
    (case c_law_value => k_is)
    (case k_law_value => k_is)
    (case a_law_system => k_is)
    (case l_law_system => k_is)
    (case c_law_system => k_is)
    (case k_law_system => k_is)
    (case a_law_more_right => k_is)
    (case l_law_more_right => k_is)
    (case c_law_more_right => k_is)
    (case k_law_more_right => k_is)
    (case a_law => k_is)
    (case l_law => k_is)
    (case c_law => k_is)
    (case k_law => k_is)
    (case z_len => k_is)
    (case z_abs => k_is)
    (case z_int => k_is)
    (case z_max => k_is)
    (case z_min => k_is)
    (case z_range => k_is)
    (case z_enumerate => k_is)
    (case z_isinstance => k_is)
    (case z_repr => k_is)
    (case z_zip => k_is)
    (case z_sum => k_is)
    (case z_all => k_is)
    (case z_tuple => k_is)
    (case z_list => k_is)
    (case z_bool => k_is)
    (case z_sorted => k_is)
    (case z_dict => k_is)
