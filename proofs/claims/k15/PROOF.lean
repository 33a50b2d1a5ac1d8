import PyProof.Rows.All
import Wide.All
import OpenK.AllK
import Wide.FinOn
import HandS.ForMost
import HandS.Zip
import HandS.Walk
import HandS.Star
import HandS.Style
import HandS.Gcd
import HandS.WideBits
import HandS.IsInst
import HandS.Defaults
import HandS.RaiseMore
import KE.GoesMore
import HandS.OwnEq
import HandS.IterVal
import HandS.ClsMeth
import HandS.Small
import KE.KCallOwn
import KE.KFmtOwn
import HandS.FStr
import HandS.Deep
import HandS.Wide
import HandS.ExcInit
import HandS.Text
import HandS.StrMore
import HandS.Dict
import HandS.Codes
import HandS.GenCall
import HandS.Strs
import PyProof.Rows.ReprOcc
import PyProof.Rows.StrAscii
import PyProof.StrLawsRepr
import PyProof.ReprRoads
import PyProof.ReprBulk
import PyProof.P3Eq
import PyProof.NeKinds
import PySem.Challenge.RW_sumlives_k15_parts_of_books_made
set_option Elab.async false
set_option maxRecDepth 100000
set_option maxHeartbeats 8000000
namespace L2
open PySem PySem.Spec PyProof.Rows RZ
section
variable {X : Cx}
/-- // by any number but 0 that the model divides itself -/
def CDivZ (i j : Int) : Prop := j ≠ 0 ∧ Builtin.divisionGoesByPylong i j = false
theorem op_fdivZ : OpR X (binaryOp .FloorDiv) (rI CDivZ fun i j => .int (i.fdiv j)) := opI fun _ _ _ _ _ _ _ hc q => floordiv_int hc.1 q (.inl hc.2)
/-- a for over a list or a tuple -/
def iSeq (K : PySem.W.Frag) (t : TE) : TI := fun σ H R => iList K t σ H R ∨ iTup K t σ H R
theorem pi_seq {tg l : Expr} {tl : TE} (h : PE X l tl) : PI X tg l (iSeq X.K tl) := ⟨fun pins s σ H R I q => q.elim ((pi_list h).run pins s σ H R I) ((pi_tup h).run pins s σ H R I)⟩
end
/-! ### enumerate(tuple) -/
def IteT (K : PySem.W.Frag) (a : Addr) : It :=
  ⟨fun i H => ∃ (ys : List V) (y : V), SqT K H a ys ∧ ys[i]? = some y,
   fun i H v H' => ∃ T y, v = .ref T ∧ H T = none ∧ H' = upd H T (.tup [.int (i : Nat), y]) ∧ ∀ ys, SqT K H a ys → ys[i]? = some y,
   fun i H => ∃ ys : List V, SqT K H a ys ∧ ys.length = i⟩
theorem turn_enumT {P : Program} {w : World} {K : PySem.W.Frag} {elts : List Expr} {kk : Nat} {tpos : Pos} (a e it : Addr) (hia : a ≠ it) (hea : a ≠ e) :
    Turn P w K (.Tuple elts kk tpos) (IteT K a) [e, it] e (fun i h => (∃ old, IsEnum h e it ((i : Nat) : Int) old) ∧ h.IsTupleIter it a i ∧ e ≠ it) where
  mem := List.mem_cons_self
  obj := fun i h st b hb => by
    obtain ⟨⟨old, he⟩, ⟨o, ho, _, hd⟩, _⟩ := st
    rcases List.mem_cons.mp hb with z | z
    · rw [z]
      exact ⟨_, he, fun v q => nomatch q⟩
    · rw [List.mem_singleton.mp z]
      exact ⟨o, ho, fun v q => by rw [hd] at q; cases q⟩
  keep := fun i h h' st k => by
    obtain ⟨⟨old, he⟩, hi, hne⟩ := st
    exact ⟨⟨old, k e (by simp) _ he⟩, hi.at fun o q => k it (by simp) o q, hne⟩
  item := by
    intro X hP hw hK hc i pins s σ H E I hf st hg
    subst hP hw hK
    obtain ⟨⟨old, he⟩, hit, hne⟩ := st
    obtain ⟨ys, y, hq, hy⟩ := hg
    obtain ⟨its, rv, p, hz⟩ := I.tuple hq
    obtain ⟨u, hu, ru⟩ := rv.get hy
    have hel : e < s.heap.objs.size := Heap.lt_size he
    have hil : it < s.heap.objs.size := by
      obtain ⟨_, q, _⟩ := id hit
      exact Heap.lt_size q
    have hsz : i < its.toArray.size := by
      rw [List.size_toArray]
      exact (List.getElem?_eq_some_iff.mp hu).1
    refine wpAny_pyNext_enum_itemD (Draws.tuple (A := X.A.in1) (I.ok.hd hc) it a hia its.toArray) he ⟨hit, p⟩ hsz hne (fun z => ?_) fun x h' tk hx ho st' hT hs1 hk => ?_
    · rcases List.mem_cons.mp z with z | z
      · exact hne z
      · exact hea (List.mem_singleton.mp z).symm
    have ex : x = u := by
      have z : its.toArray[i]? = some x := hx
      rw [show its.toArray[i]? = its[i]? by simp, hu] at z
      exact (Option.some.inj z).symm
    subst ex
    refine ⟨_, rfl, wpAny_letOwnedTupleGo_enum (s := { s with heap := h', toks := tk + 1 }) ho fun h'' he' sb => ?_⟩
    have hT2 : h''.get? s.heap.objs.size = some { cls := .type "tuple", data := .seq #[.int i tk, x] } := (sb.2 _ (Nat.ne_of_gt hel)).trans hT
    have new : ObjOk X.prog X.w (upd H s.heap.objs.size (.tup [.int (i : Nat), y])) h'' s.heap.objs.size (.tup [.int (i : Nat), y]) :=
      ⟨by show 2 ≤ sizeLine; decide, [.int i tk, x], .cons ⟨_, rfl⟩ (.cons ru .nil), _, hT2, rfl, _, rfl⟩
    have J : Inv X pins σ (upd H s.heap.objs.size (.tup [.int (i : Nat), y])) { s with heap := h'', toks := tk + 1 } :=
      I.turnedNew (ch := [e, it]) (fun b ob hb q => (sb.2 b fun z => hb (by simp [z])).trans (hk b ob (fun z => hb (by simp [z])) (fun z => hb (by simp [z])) q)) hf (Nat.le_refl _) new
    refine ⟨.ref s.heap.objs.size, _, J, rfl, ⟨_, y, rfl, I.hok.fresh (Nat.le_refl _), rfl, fun l hl => by rw [I.tuple_inj hl hq]; exact hy⟩, ⟨⟨x, ?_⟩, st'.1.at fun o q => (sb.2 it (Ne.symm hne)).trans q, hne⟩, fun b hb => ?_⟩
    · rw [show ((i + 1 : Nat) : Int) = (i : Int) + 1 by omega]
      exact he'
    · have hlt : b < s.heap.objs.size := by
        rcases List.mem_cons.mp hb with z | z
        · rw [z]; exact hel
        · rw [List.mem_singleton.mp z]; exact hil
      rw [upd_ne (Nat.ne_of_lt hlt)]
      exact (hf b hb).1
  done := by
    intro X hP hw hK hc i pins s σ H E I hf st hg
    subst hP hw hK
    obtain ⟨⟨old, he⟩, hit, hne⟩ := st
    obtain ⟨ys, hq, hy⟩ := hg
    obtain ⟨its, rv, p, hz⟩ := I.tuple hq
    obtain ⟨f0, f1, f2, f3, f4, f5⟩ := hf it (by simp)
    have hl := rv.length
    have hn : i = its.toArray.size := by rw [List.size_toArray]; omega
    subst hn
    exact wpAny_pyNext_enum_endD (Draws.tuple (A := X.A.in1) (I.ok.hd hc) it a hia its.toArray) he ⟨hit, p⟩ fun h' eb => ⟨rfl, I.turned (t' := s.toks) (fun b o hb q => eb b o hb q) f0 f1 f3 f4 f5⟩
  self := fun A i s Q E st h => by
    obtain ⟨⟨_, he⟩, _⟩ := st
    exact wpAny_pyIter_enum he h
theorem meets_enum_tup (t : Addr) (items : Array Value) : Meets (Builtin.«enumerate.__new__» ⟨[.type "enumerate", .ref t], []⟩) (fun _ R s => s.heap.IsTuple t items ∧
    R (.ok (.ret (.ref (s.heap.objs.size + 1)))) { s with heap := (s.heap.push { cls := .type "tuple_iterator", data := .fields #[.ref t, .int 0 0] }).push { cls := .type "enumerate", data := .fields #[.none, .bool false, .ref s.heap.objs.size, rawInt 0, .none, .none] } }) :=
  .of_wp fun prog w A R s h => by
    obtain ⟨hp, g, d, tk, os⟩ := s
    obtain ⟨ht, h⟩ := h
    have hsub := sub_enumerate
    have e1 : (hp.push { cls := .type "tuple_iterator", data := .fields #[.ref t, .int 0 0] }).objs.size = hp.objs.size + 1 := Heap.size_push ..
    have q1 : ∀ {A' : Around} {E : Value → Shared → Prop} {Q : Value → Shared → Prop}, Q (.ref hp.objs.size) ⟨hp.push { cls := .type "tuple_iterator", data := .fields #[.ref t, .int 0 0] }, g, d, tk, os⟩ →
        wpAny (model prog w) A' (pyIter (.ref t)) Q E ⟨hp, g, d, tk, os⟩ := fun q => wpAny_pyIter_tuple ht q
    wp_walk using q1
    refine wpAny_stack_any fun st => wpAny_pure ?_
    split
    · rename_i c _ _ _ _ _
      cases (c == Value.type "enumerate") <;> (wp_walk using q1; rw [e1]; exact ⟨_, rfl, h⟩)
    · wp_walk using q1
      rw [e1]; exact ⟨_, rfl, h⟩
theorem call_enum_tup {prog : Program} {w : World} {A : Around} {E : Value → Shared → Prop} {s : Shared} {t : Addr} {items : Array Value} {Q : Value → Shared → Prop} (ht : s.heap.IsTuple t items)
    (h : ∀ h', IsEnum h' (s.heap.objs.size + 1) s.heap.objs.size 0 .none → h'.IsTupleIter s.heap.objs.size t 0 → (∀ b o, s.heap.get? b = some o → h'.get? b = some o) → Q (.ref (s.heap.objs.size + 1)) { s with heap := h' }) :
    wpAny (model prog w) A (call (.type "enumerate") [.ref t]) Q E s := by
  refine callType_new F.called_enumerate (by decide) (F.typeCall_enumerate_1 _) (F.newCall_enumerate_1 _) (fun obj => F.args_object_init_2 obj _) F.entry_enumerate_new (meets_enum_tup t items) ⟨ht, ?_⟩
  have he : IsEnum ((s.heap.push { cls := .type "tuple_iterator", data := .fields #[.ref t, .int 0 0] }).push { cls := .type "enumerate", data := .fields #[.none, .bool false, .ref s.heap.objs.size, rawInt 0, .none, .none] }) (s.heap.objs.size + 1) s.heap.objs.size 0 .none := by
    heap_get
  exact ⟨⟨_, he, rfl⟩, h _ he ⟨_, Heap.get?_push_of_some _ (Heap.get?_push_size _ rfl), rfl, rfl⟩ fun b o x => Heap.get?_push_of_some _ (Heap.get?_push_of_some _ x)⟩
def iEnumT (K : PySem.W.Frag) (ta : TA) : TI := fun σ H R => ta σ H fun vs H1 => ∃ a ys, vs = [.ref a] ∧ SqT K H1 a ys ∧ R (IteT K a) H1
theorem pi_enumT {X : Cx} {e : Expr} {ta : TA} {p pos tpos : Pos} {elts : List Expr} {kk : Nat} (hg : Gl X "enumerate") (hm : X.mg "enumerate" = none) (ha : PA X [e] ta) (hs : starEach [e] X.env = [(false, eval e X.env)] := by rfl) :
    PI X (.Tuple elts kk tpos) (.Call (.Name "enumerate" p) [e] [] pos) (iEnumT X.K ta) := by
  refine ⟨fun pins s σ H R I h => Call_ (ld_blt I hg hm boot_enumerate (PyProof.Rows.callWith_type1 (thn (ha.run pos pins s σ H _ I h) fun us s1 z => ?_) hs rfl))⟩
  obtain ⟨vs, H1, I1, r1, a, ys, ex, hq, q⟩ := z
  subst ex
  match us, r1 with
  | [u], .cons r .nil =>
    obtain rfl : u = Value.ref a := r
    obtain ⟨its, rv, pt, hz⟩ := I1.tuple hq
    have la : a < s1.heap.objs.size := by
      obtain ⟨o, ho, _⟩ := id pt
      exact Heap.lt_size ho
    refine call_enum_tup (items := its.toArray) pt fun h' he hit hk => wpAny_pyIter_enum he ?_
    have I2 : Inv X pins σ H1 { s1 with heap := h' } := I1.kept (t' := s1.toks) hk
    refine ⟨s1.heap.objs.size + 1, [s1.heap.objs.size + 1, s1.heap.objs.size], _, _, H1, rfl, I2, turn_enumT a (s1.heap.objs.size + 1) s1.heap.objs.size (Nat.ne_of_lt la) (Nat.ne_of_lt (Nat.lt_succ_of_lt la)), ⟨⟨.none, he⟩, hit, Nat.succ_ne_self _⟩, fun b hb => ?_, q⟩
    have hle : s1.heap.objs.size ≤ b := by
      rcases List.mem_cons.mp hb with z | z
      · rw [z]; exact Nat.le_succ _
      · rw [List.mem_singleton.mp z]; exact Nat.le_refl _
    exact I1.fpOk hle (I1.hok.fresh hle)
theorem walk_enumT {K : PySem.W.Frag} {a : Addr} {ys : List V} : Walk (IteT K a) ys.length (fun H => SqT K H a ys) (YPair (fun i => some (.int (i : Nat))) (fun i => ys[i]?)) := by
  refine ⟨fun i H hi h => ⟨ys, ys[i], h, List.getElem?_eq_getElem hi⟩, fun H h => ⟨ys, h, rfl⟩, fun i H x H' hi h y => ?_⟩
  obtain ⟨T, z, e1, e2, e3, e4⟩ := y
  exact ⟨T, _, z, e1, e2, e3, rfl, e4 ys h⟩
theorem walk_zipT {K : PySem.W.Frag} {a b : Addr} {xs ys : List V} {n : Nat} (hn : n = min xs.length ys.length) : Walk (ItzT K a b) n (fun H => SqT K H a xs ∧ SqT K H b ys) (YPair (fun i => xs[i]?) (fun i => ys[i]?)) := by
  refine ⟨fun i H hi h => ⟨xs, ys, xs[i]'(by omega), ys[i]'(by omega), h.1, h.2, List.getElem?_eq_getElem _, List.getElem?_eq_getElem _⟩, fun H h => ⟨xs, ys, h.1, h.2, by omega⟩, fun i H x H' hi h y => ?_⟩
  obtain ⟨T, z, z2, e1, e2, e3, e4, e5⟩ := y
  exact ⟨T, z, z2, e1, e2, e3, e4 xs h.1, e5 ys h.2⟩
end L2

namespace L2
open PySem PySem.Spec PyProof.Rows
/-! ### a def that a def calls, by its name -/
def Has (P : Program) (w : World) (K : PySem.W.Frag) (mg : Str → Option Value) (base : Heap) (k : Nat) (nm : Str) (ps : List Str) (sp : Sp) : Prop :=
  ∃ (f : Addr) (fd : FuncData), FnOk P w K mg base CX0 k f fd ps sp ∧ mg nm = some (.ref f) ∧ PySem.W.keepIn K (.ref f) = true ∧ Binds K fd ps []
theorem pe_callHas {X : Cx} {k : Nat} {x : Str} {ps : List Str} {sp : Sp} {p pos : Pos} {e : Expr} {es : List Expr} {t : TA} (G : Has X.prog X.w X.K X.mg X.base k x ps sp) (hr : Room k X.A) (hg : Gl X x) (ha : PA X (e :: es) t)
    (hdb : (x == ("__debug__" : Str)) = false := by decide) (he : starEach (e :: es) X.env = (false, eval e X.env) :: starEach es X.env := by rfl) (hpl : (backTo pos (starEach es X.env)).any (·.1) = false := by rfl) :
    PE X (.Call (.Name x p) (e :: es) [] pos) (tCall sp [] E0 t) := by
  obtain ⟨f, fd, F, m, kp, b⟩ := G
  exact pe_call F hr hg m kp b .nil pass0 ha hdb he hpl
/-- where a def of the text stands behind the top -/
def DefAt (K : PySem.W.Frag) (mg : Str → Option Value) (nm : Str) (st : Stmt) (ps : List Str) : Prop :=
  ∃ (f : Addr) (fd : FuncData), Fun K nm nm st f fd ∧ mg nm = some (.ref f) ∧ Binds K fd ps []
theorem DefAt.has {P : Program} {w : World} {K : PySem.W.Frag} {mg : Str → Option Value} {base : Heap} {k : Nat} {nm : Str} {st : Stmt} {N ps : List Str} {sp : Sp} (F : DefAt K mg nm st ps) (S : FnScope N ps (defScope st)) (len : ∀ vs H Q E, sp vs H Q E → vs.length = ps.length)
    (hbody : ∀ (f : Addr) (cdv : Value) (A : Around) (outer : List Env) (s : Shared) (H : Hp) (vs : List V) (Q : VK) (E : XK), Room k (A.deeper (envOfC nm (defScope st) s.heap.objs.size f cdv)) → sp vs H Q E →
      ∃ t, PSs (cxOf CX0 P w K mg base N nm (defScope st) f cdv A outer s H E).nox (defBody st) t ∧ t { nx := fun _ H' => Q .non H', rt := Q } (start N vs) H) : Has P w K mg base (k + 1) nm ps sp := by
  obtain ⟨f, fd, F, m, b⟩ := F
  exact ⟨f, fd, F.ok S len (hbody f), m, F.kp, b⟩
end L2

namespace L2
open PySem PySem.Spec PyProof.Rows
/-! ### x in o, o | p, o <= p by the class's own methods -/
section
variable {X : Cx}
/-- what a call of an own method by a sign gives -/
theorem run_own {CX : CXT} {k : Nat} {g : Addr} {fd : FuncData} {ps : List Str} {sp : Sp} {E : XK} {pins : List (Addr × Obj)} {s : Shared} {σ : St} {H : Hp} {vs : List V} {us : List Value} {Q : VK} {R : Value → Shared → Prop} (F : FnOk X.prog X.w X.K X.mg X.base CX k g fd ps sp) (hr : Room k X.A) (hb : Binds X.K fd ps []) (hx : Passes CX X E)
    (I : Inv X pins σ H s) (r : Vals vs us) (q : sp vs H Q E) (hR : ∀ (w : Value) (z : V) (s' : Shared) (H' : Hp), Inv X pins σ H' s' → RelV z w → Q z H' → R w s') : wpAny (model X.prog X.w) X.A (call (.ref g) us) R X.xe s := by
  have hl := F.len _ _ _ _ q
  refine wpAny_call (codeAny_mono (F.run X.A X.stack s H ⟨us, []⟩ us vs _ E hr I.env0 (by
    have := hb s us I.kIn (by rw [List.append_nil, ← r.length]; exact hl)
    simpa using this) r q) fun r' s' hq => ?_)
  cases r' with
  | error e => exact hx pins σ H s e s' I hq
  | ok fl =>
    cases fl with
    | ret w =>
      obtain ⟨z, H', I', rz, q'⟩ := I.after hq
      exact hR w z s' H' I' rz q'
    | next => exact False.elim hq
    | brk => exact False.elim hq
    | cont => exact False.elim hq
def rInO (C : Addr) (sp : Sp) (E : XK) (n : Bool) : R2 := fun x y H Q => ∃ a dx fs, y = .ref a ∧ H a = some (.ins C dx fs) ∧ sp [.ref a, x] H (fun r H' => ∃ b, r = .bl b ∧ Q (.bl (n != b)) H') E
variable {CX : CXT} {C g : Addr} {k : Nat} {fd : FuncData} {ps : List Str} {sp : Sp} {E : XK}
theorem op_inO (F : FnOk X.prog X.w X.K X.mg X.base CX k g fd ps sp) (hs : PySem.W.findIn X.K (.ref C) "__contains__" = some (some (.ref g))) (hf : PySem.W.isFn X.K (.ref g) = true) (hr : Room k X.A) (hb : Binds X.K fd ps []) (hx : Passes CX X E) : OpR X (compareOp .In) (rInO C sp E false) := by
  intro pins s σ H x y v u Q I rx ry h
  obtain ⟨a, dx, fs, rfl, ha, q⟩ := h
  cases ry
  obtain ⟨mA, J, _⟩ := ins_get I.hok ha
  obtain ⟨od, J, _⟩ := J.look
  obtain ⟨m, hF⟩ := I.fr
  refine PySem.W.in_K hF I.ok.mod.kin J hs hf ?_
  refine run_own F hr hb hx I (show Vals [V.ref a, x] [Value.ref a, v] from .cons rfl (.cons rx .nil)) q fun w z s' H' I' rz qz => ?_
  obtain ⟨b, rfl, qb⟩ := qz
  cases rz
  refine wpAny_truthy_bool ⟨.bl b, H', I', rfl, ?_⟩
  cases b <;> exact qb
theorem op_notInO (F : FnOk X.prog X.w X.K X.mg X.base CX k g fd ps sp) (hs : PySem.W.findIn X.K (.ref C) "__contains__" = some (some (.ref g))) (hf : PySem.W.isFn X.K (.ref g) = true) (hr : Room k X.A) (hb : Binds X.K fd ps []) (hx : Passes CX X E) : OpR X (compareOp .NotIn) (rInO C sp E true) := by
  intro pins s σ H x y v u Q I rx ry h
  obtain ⟨a, dx, fs, rfl, ha, q⟩ := h
  cases ry
  obtain ⟨mA, J, _⟩ := ins_get I.hok ha
  obtain ⟨od, J, _⟩ := J.look
  obtain ⟨m, hF⟩ := I.fr
  refine PySem.W.notIn_K hF I.ok.mod.kin J hs hf ?_
  refine run_own F hr hb hx I (show Vals [V.ref a, x] [Value.ref a, v] from .cons rfl (.cons rx .nil)) q fun w z s' H' I' rz qz => ?_
  obtain ⟨b, rfl, qb⟩ := qz
  cases rz
  refine wpAny_truthy_bool ⟨.bl (!b), H', I', rfl, ?_⟩
  cases b <;> exact qb
end
end L2

namespace PySem.W
open PySem PySem.Calls PyProof.Rows Builtin
section
variable {prog : Program} {w : World} {A : Around} {E : Value → Shared → Prop} {s : Shared} {K : Frag} {x C L f : Addr} {h₀ : Heap} {m : Str → Option Value} {ox : Obj} {od : Option Obj} {b : Value}
/-- x != y by the class's own ==: object's own __ne__ asks it -/
theorem call_ne_own {Q : Value → Shared → Prop} (hu : A.units + 2 < cLine) (X : K.In s.heap) (I : InstAt s.heap x ox C od) (hm : mroIn K C (.type "object") = some true) (hs : findIn K (.ref C) "__eq__" = some (some (.ref f))) (hf : isFn K (.ref f) = true)
    (h : wpAny (model prog w) A.in1 (call (.ref f) [.ref x, b]) (fun v s' => ∃ r, v = .bool r ∧ Q (.bool (!r)) s') E s) : wpAny (model prog w) A (call (.builtin "object.__ne__") [.ref x, b]) Q E s := by
  have LI : Looks (model prog w) s.heap (isInstance (.ref x) (.type "object")) true := I.type.andThen (looks_mroIn X hm)
  refine wpAny_call (codeAny_call_builtin F.slot_object_ne.plain F.entry_object_ne (check_slot (i := "object.__ne__") (owner := "object") (n := "__ne__") (self := .ref x) (rest := [b]) (kw := []) (by decide +kernel) (by decide +kernel) LI (F.args_object_ne_2 _ _) ?_))
  show wpAny _ _ (Builtin.«object.__ne__» ⟨[.ref x, b], []⟩) _ _ s
  unfold Builtin.«object.__ne__»
  refine wpAny_bind (wpAny_pure ?_)
  refine wpAny_bind (wpAny_cRoomFor (show A.units + 1 < cLine by omega) ?_)
  refine wpAny_bind (ifBound_K X I hs hf (wpAny_mono h (fun v s' q => ?_) fun _ _ z => z))
  obtain ⟨r, rfl, q⟩ := q
  exact wpAny_bind (wpAny_truthy_bool (wpAny_pure q))
theorem ne_own {Q : Value → Shared → Prop} {tb : Value} (hu : A.units + 2 < cLine) (F : Fr h₀ L s.heap m) (X₀ : K.In h₀) (I : InstAt s.heap x ox C od) (hb : Looks (model prog w) s.heap (typeOf b) tb) (hn : notFirst K C tb = true) (hm : mroIn K C (.type "object") = some true)
    (hne : findIn K (.ref C) "__ne__" = some (some (.builtin "object.__ne__"))) (hs : findIn K (.ref C) "__eq__" = some (some (.ref f))) (hf : isFn K (.ref f) = true)
    (h : wpAny (model prog w) A.in1 (call (.ref f) [.ref x, b]) (fun v s' => ∃ r, v = .bool r ∧ Q (.bool (!r)) s') E s) : wpAny (model prog w) A (richCompare .NotEq (.ref x) b) Q E s := by
  have X := X₀.keeps F.keep
  have bd : bindSpecial (.builtin "object.__ne__") (.ref x) = pure (.builtin "object.__ne__", [.ref x]) := _root_.PySem.F.slot_object_ne.bind _
  have asked := call_ne_own (prog := prog) (w := w) (A := A) (b := b) (Q := fun v s' => ∃ r, v = Value.bool r ∧ Q (.bool r) s') hu X I hm hs hf (wpAny_mono h (fun v s' z => by
    obtain ⟨r, e, q⟩ := z
    exact ⟨r, e, !r, rfl, q⟩) fun _ _ e => e)
  have bound : wpAny (model prog w) A (callSpecialIfBound? (.ref x) (cmpInfo .NotEq).2.1 [b]) (fun r s' => ∃ v, r = some (Value.bool v) ∧ Q (.bool v) s') E s := by
    simp only [bindSpecialIfBound?, callSpecialIfBound?]
    have goes : wpAny (model prog w) A (call (.builtin "object.__ne__") ([.ref x] ++ [b]) >>= fun u => pure (some u)) (fun r s' => ∃ v, r = some (Value.bool v) ∧ Q (.bool v) s') E s := by
      refine wpAny_bind (wpAny_mono asked (fun v s' z => ?_) fun _ _ e => e)
      obtain ⟨r, rfl, q⟩ := z
      exact wpAny_pure ⟨r, rfl, q⟩
    refine wpAny_holding (wpAny_bind (wpAny_bind (wpAny_bind (I.type.here ((looks_findIn X hne).here ?_)))))
    refine wpAny_bind (wpAny_askSetting (wpAny_ite ?_))
    rw [bd]
    split
    · exact wpAny_bind (wpAny_pure (wpAny_pure (by exact goes)))
    · exact wpAny_tryCatch (wpAny_bind (wpAny_pure (wpAny_pure (by exact goes))))
  have one : wpAny (model prog w) A (tryCompare (.ref x) (cmpInfo .NotEq).2.1 b) (fun r s' => ∃ v, r = some v ∧ Q v s') E s := by
    unfold tryCompare
    refine wpAny_bind (wpAny_mono bound (fun r s' z => ?_) fun _ _ e => e)
    obtain ⟨v, rfl, q⟩ := z
    exact wpAny_pure ⟨_, rfl, q⟩
  unfold richCompare
  simp only [oneThing_ref]
  refine wpAny_holding (wpAny_bind (wpAny_cRoomFor (show A.units < cLine by omega) ?_))
  refine wpAny_bind (I.type.here (wpAny_bind (hb.here ?_)))
  split
  · rename_i q
    have e : subIn K tb (.ref C) = some false := by
      rcases Bool.or_eq_true_iff.mp hn with e | e
      · rw [beq_iff_eq.mp e] at q; simp at q
      · exact beq_iff_eq.mp e
    refine wpAny_bind ((looks_subIn X e).here ?_)
    rw [if_neg (by decide)]
    refine wpAny_bind (wpAny_mono one (fun r s' z => ?_) fun _ _ e => e)
    obtain ⟨v, rfl, hq⟩ := z
    exact wpAny_pure hq
  · refine wpAny_bind (wpAny_pure ?_)
    rw [if_neg (by decide)]
    refine wpAny_bind (wpAny_mono one (fun r s' z => ?_) fun _ _ e => e)
    obtain ⟨v, rfl, hq⟩ := z
    exact wpAny_pure hq
end
end PySem.W
namespace L2
open PySem PySem.Spec PyProof.Rows
section
variable {X : Cx} {CX : CXT} {C g : Addr} {k : Nat} {fd : FuncData} {ps : List Str} {sp : Sp} {E : XK}
/-- what the class's facts say beside its attributes -/
structure Two (K : PySem.W.Frag) (C : Addr) : Prop where
  self : PySem.W.selfFirst K C = true
  obj : PySem.W.mroIn K C (.type "object") = some true
  ne : PySem.W.findIn K (.ref C) "__ne__" = some (some (.builtin "object.__ne__"))
theorem run_own1 {pins : List (Addr × Obj)} {s : Shared} {σ : St} {H : Hp} {vs : List V} {us : List Value} {Q : VK} {R : Value → Shared → Prop} {A : Around} (F : FnOk X.prog X.w X.K X.mg X.base CX k g fd ps sp) (hr : Room k A) (hA : A.frames = X.A.frames) (hb : Binds X.K fd ps []) (hx : Passes CX X E)
    (I : Inv X pins σ H s) (r : Vals vs us) (q : sp vs H Q E) (hR : ∀ (w : Value) (z : V) (s' : Shared) (H' : Hp), Inv X pins σ H' s' → RelV z w → Q z H' → R w s') : wpAny (model X.prog X.w) A (call (.ref g) us) R X.xe s := by
  have hl := F.len _ _ _ _ q
  have e0 : Env0 X.prog X.w X.K X.mg X.base A X.stack s H := by
    have e := I.env0
    exact ⟨hA.trans e.frames, e.mod, e.bs, e.bsz, e.funs, e.frf, e.hok, e.bare⟩
  refine wpAny_call (codeAny_mono (F.run A X.stack s H ⟨us, []⟩ us vs _ E hr e0 (by
    have := hb s us I.kIn (by rw [List.append_nil, ← r.length]; exact hl)
    simpa using this) r q) fun r' s' hq => ?_)
  cases r' with
  | error e => exact hx pins σ H s e s' I hq
  | ok fl =>
    cases fl with
    | ret w =>
      obtain ⟨z, H', I', rz, q'⟩ := I.after hq
      exact hR w z s' H' I' rz q'
    | next => exact False.elim hq
    | brk => exact False.elim hq
    | cont => exact False.elim hq
def rOrO (C : Addr) (sp : Sp) (E : XK) : R2 := fun x y H Q => ∃ a dx fs b dy gs, x = .ref a ∧ H a = some (.ins C dx fs) ∧ y = .ref b ∧ H b = some (.ins C dy gs) ∧ sp [.ref a, .ref b] H (fun r H' => ∃ p, r = .ref p ∧ Q (.ref p) H') E
theorem op_orO (t : Two X.K C) (F : FnOk X.prog X.w X.K X.mg X.base CX k g fd ps sp) (hs : PySem.W.findIn X.K (.ref C) "__or__" = some (some (.ref g))) (hf : PySem.W.isFn X.K (.ref g) = true) (hr : Room k X.A) (hb : Binds X.K fd ps []) (hx : Passes CX X E) : OpR X (binaryOp .BitOr) (rOrO C sp E) := by
  intro pins s σ H x y v u Q I rx ry h
  obtain ⟨a, dx, fs, b, dy, gs, rfl, ha, rfl, hb', q⟩ := h
  cases rx
  cases ry
  obtain ⟨mA, J, _⟩ := ins_get I.hok ha
  obtain ⟨mB, J', _⟩ := ins_get I.hok hb'
  obtain ⟨od, J, _⟩ := J.look
  obtain ⟨od', J', _⟩ := J'.look
  obtain ⟨m, hF⟩ := I.fr
  refine PySem.W.binop_K (op := .BitOr) hF I.ok.mod.kin J J'.type t.self hs hf ?_
  refine run_own F hr hb hx I (show Vals [V.ref a, V.ref b] [Value.ref a, Value.ref b] from .cons rfl (.cons rfl .nil)) q fun w z s' H' I' rz qz => ?_
  obtain ⟨p, rfl, qp⟩ := qz
  cases rz
  exact ⟨.ref p, H', I', rfl, qp⟩
def rCmpO (C : Addr) (sp : Sp) (E : XK) (n : Bool) : R2 := fun x y H Q => ∃ a dx fs b dy gs, x = .ref a ∧ H a = some (.ins C dx fs) ∧ y = .ref b ∧ H b = some (.ins C dy gs) ∧ sp [.ref a, .ref b] H (fun r H' => ∃ c, r = .bl c ∧ Q (.bl (n != c)) H') E
theorem op_cmpO {op : CmpOp} {nm : Str} (hop : (PySem.cmpInfo op).2.1 = nm) (hcmp : ∀ a b, compareOp op a b = richCompare op a b) (F : FnOk X.prog X.w X.K X.mg X.base CX k g fd ps sp) (hs : PySem.W.findIn X.K (.ref C) nm = some (some (.ref g))) (hf : PySem.W.isFn X.K (.ref g) = true) (hr : Room k X.A) (hb : Binds X.K fd ps []) (hx : Passes CX X E) :
    OpR X (compareOp op) (rCmpO C sp E false) := by
  intro pins s σ H x y v u Q I rx ry h
  obtain ⟨a, dx, fs, b, dy, gs, rfl, ha, rfl, hb', q⟩ := h
  cases rx
  cases ry
  obtain ⟨mA, J, _⟩ := ins_get I.hok ha
  obtain ⟨mB, J', _⟩ := ins_get I.hok hb'
  obtain ⟨od, J, _⟩ := J.look
  obtain ⟨od', J', _⟩ := J'.look
  obtain ⟨m, hF⟩ := I.fr
  rw [hcmp]
  subst hop
  refine PySem.W.cmp_K (op := op) (tb := .ref C) hr.units0 hF I.ok.mod.kin J J'.type (by simp [PySem.W.notFirst]) hs hf ?_
  refine run_own F hr hb hx I (show Vals [V.ref a, V.ref b] [Value.ref a, Value.ref b] from .cons rfl (.cons rfl .nil)) q fun w z s' H' I' rz qz => ?_
  obtain ⟨c, rfl, qc⟩ := qz
  cases rz
  refine ⟨.bl c, H', I', rfl, ?_⟩
  cases c <;> exact qc
theorem op_neO (t : Two X.K C) (F : FnOk X.prog X.w X.K X.mg X.base CX k g fd ps sp) (hs : PySem.W.findIn X.K (.ref C) "__eq__" = some (some (.ref g))) (hf : PySem.W.isFn X.K (.ref g) = true) (hr : Room (k + 1) X.A) (hb : Binds X.K fd ps []) (hx : Passes CX X E) : OpR X (compareOp .NotEq) (rCmpO C sp E true) := by
  intro pins s σ H x y v u Q I rx ry h
  obtain ⟨a, dx, fs, b, dy, gs, rfl, ha, rfl, hb', q⟩ := h
  cases rx
  cases ry
  obtain ⟨mA, J, _⟩ := ins_get I.hok ha
  obtain ⟨mB, J', _⟩ := ins_get I.hok hb'
  obtain ⟨od, J, _⟩ := J.look
  obtain ⟨od', J', _⟩ := J'.look
  obtain ⟨m, hF⟩ := I.fr
  refine PySem.W.ne_own (tb := .ref C) (show X.A.units + 2 < cLine from Nat.lt_of_le_of_lt (Nat.add_le_add_left (by decide : 2 ≤ 64) _) hr.units) hF I.ok.mod.kin J J'.type (by simp [PySem.W.notFirst]) t.obj t.ne hs hf ?_
  refine run_own1 F hr.in1 rfl hb hx I (show Vals [V.ref a, V.ref b] [Value.ref a, Value.ref b] from .cons rfl (.cons rfl .nil)) q fun w z s' H' I' rz qz => ?_
  obtain ⟨c, rfl, qc⟩ := qz
  cases rz
  refine ⟨c, rfl, .bl (!c), H', I', rfl, ?_⟩
  cases c <;> exact qc
end
end L2

namespace L2
open PySem PySem.Spec PyProof.Rows
section
variable {X : Cx} {CX : CXT} {k : Nat} {C g : Addr} {fd : FuncData} {ps : List Str} {sp : Sp} {E : XK}
/-- str(x), x an instance with its own __str__ -/
theorem call_strO (F : FnOk X.prog X.w X.K X.mg X.base CX k g fd ps sp) (hs : PySem.W.findIn X.K (.ref C) "__str__" = some (some (.ref g))) (hf : PySem.W.isFn X.K (.ref g) = true) (hr : Room (k + 2) X.A) (hb : Binds X.K fd ps []) (hx : Passes CX X E) :
    CallR X (.type "str") (fun xs H Q => ∃ a dx fs, xs = [.ref a] ∧ H a = some (.ins C dx fs) ∧ sp [.ref a] H (fun r H' => ∃ z, r = .str z ∧ Q (.str z) H') E) := by
  intro pins s σ H xs us Q I r h
  obtain ⟨a, dx, fs, rfl, ha, q⟩ := h
  obtain rfl := Vals.ref1 r
  obtain ⟨mA, J, _⟩ := ins_get I.hok ha
  obtain ⟨od, J, _⟩ := J.look
  have h2 : Room k X.A.in1.in1 := hr.in1.in1
  refine PySem.W.kso_call (by have := h2.units; omega) I.kIn J hs hf ?_
  refine run_own1 F h2 rfl hb hx I (show Vals [V.ref a] [Value.ref a] from .cons rfl .nil) q fun w z s' H' I' rz qz => ?_
  obtain ⟨y, rfl, qy⟩ := qz
  obtain ⟨t, rfl⟩ := rz
  exact ⟨.str y, H', I', ⟨t, rfl⟩, qy⟩
end
theorem join_len (sep : Str) (l : List Str) : (PySem.Txt.join sep l).length ≤ (l.map (·.length)).sum + l.length * sep.length := by
  rw [show PySem.Txt.join sep l = PySem.Str.join sep l from PySem.StrLaws.glued_eq_join sep l]
  cases l with
  | nil => exact Nat.zero_le _
  | cons a r =>
    rw [len_join_cons, List.length_cons, Nat.add_mul]
    omega
/-- a number as a text -/
def iS (i : Int) : Str := Str.ofString (toString i)
theorem iS_len {i : Int} (h : i.natAbs.log2 < 1920) : (iS i).length ≤ 1921 := by
  have q := int_text_length_le (a := i) (k := 1920) (by decide) h
  unfold iS
  rw [PySem.ofString_length]; exact q
theorem iSs_len : ∀ {v : List Int}, (∀ i ∈ v, i.natAbs.log2 < 1920) → ((v.map iS).map (·.length)).sum ≤ 1921 * v.length
  | [], _ => Nat.le_refl _
  | i :: v, h => by
    have h1 := iS_len (h i List.mem_cons_self)
    have h2 := iSs_len (v := v) fun x hx => h x (List.mem_cons_of_mem _ hx)
    simp only [List.map_cons, List.sum_cons, List.length_cons]
    omega
/-- a vector as a text -/
def wS (v : List Int) : Str := PySem.Txt.join (Str.ofString " ") (v.map iS)
theorem wS_len {v : List Int} (h : ∀ i ∈ v, i.natAbs.log2 < 1920) : (wS v).length ≤ 1922 * v.length := by
  have h1 := iSs_len h
  have h2 := join_len (Str.ofString " ") (v.map iS)
  rw [List.length_map, show (Str.ofString " ").length = 1 by decide +kernel] at h2
  unfold wS; omega
theorem wSs_len : ∀ {B : List (List Int)} {n : Nat}, (∀ v ∈ B, v.length = n ∧ ∀ i ∈ v, i.natAbs.log2 < 1920) → ((B.map wS).map (·.length)).sum ≤ 1922 * n * B.length
  | [], _, _ => Nat.le_refl _
  | v :: B, n, h => by
    obtain ⟨l, h0⟩ := h v List.mem_cons_self
    have h1 := wS_len h0
    have h2 := wSs_len (B := B) (n := n) fun x hx => h x (List.mem_cons_of_mem _ hx)
    rw [l] at h1
    simp only [List.map_cons, List.sum_cons, List.length_cons, Nat.mul_add, Nat.mul_one]
    omega
end L2
namespace L2
open PySem PySem.Spec PyProof.Rows
theorem strOk_app (a b : Str) : PyData.strOk (a ++ b) = (PyData.strOk a && PyData.strOk b) := by
  show (a.cps ++ b.cps).all _ = _
  rw [Array.all_append]; rfl
theorem strOk_string (s : String) : PyData.strOk (Str.ofString s) = true := by
  rw [Str.ofString_eq_toList]
  show ((s.toList.map Char.toNat).toArray).all (fun n => decide (n < 0x110000)) = true
  rw [Array.all_eq_true']
  intro x hx
  rw [List.mem_toArray] at hx
  obtain ⟨c, _, rfl⟩ := List.mem_map.mp hx
  exact decide_eq_true (by
    have := c.valid
    have h2 : c.toNat = c.val.toNat := rfl
    rcases this with h | h
    · have : c.val.toNat < 0xD800 := h
      omega
    · have : c.val.toNat < 0x110000 := h.2
      omega)
theorem strOk_join {sep : Str} (hs : PyData.strOk sep = true) : ∀ {l : List Str}, (∀ x ∈ l, PyData.strOk x = true) → PyData.strOk (PySem.Txt.join sep l) = true := by
  have key : ∀ l : List Str, (∀ x ∈ l, PyData.strOk x = true) → PyData.strOk (PySem.Str.join sep l) = true := by
    intro l
    induction l with
    | nil =>
      intro _
      show PyData.strOk PySem.Str.empty = true
      decide +kernel
    | cons a r ih =>
      intro h
      cases r with
      | nil => exact h a List.mem_cons_self
      | cons b r =>
        show PyData.strOk (a ++ sep ++ PySem.Str.join sep (b :: r)) = true
        rw [strOk_app, strOk_app, h a List.mem_cons_self, hs, ih fun x hx => h x (List.mem_cons_of_mem _ hx)]; rfl
  intro l h
  rw [show PySem.Txt.join sep l = PySem.Str.join sep l from PySem.StrLaws.glued_eq_join sep l]
  exact key l h
theorem strOk_w (v : List Int) : PyData.strOk (wS v) = true := strOk_join (strOk_string _) fun x hx => by
  obtain ⟨i, _, rfl⟩ := List.mem_map.mp hx
  exact strOk_string _
theorem strs_shaped {l : List Str} (h : ∀ x ∈ l, PyData.strOk x = true) : SeqAt.shaped (.list (l.map PyData.str)) = true := by
  have h1 : ∀ l : List Str, (∀ x ∈ l, PyData.strOk x = true) → PyData.canLayAll0 (l.map PyData.str) = true ∧ PyData.depthAll (l.map PyData.str) = 0 := by
    intro l
    induction l with
    | nil => exact fun _ => ⟨rfl, rfl⟩
    | cons a r ih =>
      intro h
      obtain ⟨i1, i2⟩ := ih fun x hx => h x (List.mem_cons_of_mem _ hx)
      exact ⟨by simp only [List.map_cons, PyData.canLayAll0, PyData.canLay0, h a List.mem_cons_self, i1, Bool.and_self], by simp only [List.map_cons, PyData.depthAll, PyData.depth, i2]; rfl⟩
  obtain ⟨h2, h3⟩ := h1 l h
  show (PyData.canLay0 (.list (l.map PyData.str)) && decide (PyData.depth (.list (l.map PyData.str)) ≤ 64)) = true
  rw [Bool.and_eq_true]
  exact ⟨by simp only [PyData.canLay0]; exact h2, decide_eq_true (by simp only [PyData.depth, h3]; decide)⟩
theorem strs_dp {K : PySem.W.Frag} {H : Hp} : ∀ l : List Str, DpAll K H (l.map V.str) (l.map PyData.str)
  | [] => .nil
  | s :: l => .cons (.str s) (strs_dp l)
theorem strs_eqv (l : List Str) : PyData.eqv (.list (l.map PyData.str)) (.list []) = decide (l = []) := by
  cases l with
  | nil => decide +kernel
  | cons n v => simp [PyData.eqv, PyData.eqvAll]
end L2

/-! str(x) and {x} of instances of several own classes, each with its own __str__ -/
namespace L2
open PySem PySem.Spec PyProof.Rows
/-- __str__ of an instance of C that shows as S tells -/
def spStrC (C : Addr) (S : Hp → Addr → Str → Prop) : Sp := fun vs H Q _ => ∃ (a dx : Addr) (fs : List (Str × V)) (z : Str), vs = [.ref a] ∧ H a = some (.ins C dx fs) ∧ S H a z ∧ ∀ H', (∀ b o, H b = some o → H' b = some o) → Q (.str z) H'
structure Shows (P : Program) (w : World) (K : PySem.W.Frag) (mg : Str → Option Value) (base : Heap) (k : Nat) (cls : List Addr) (S : Hp → Addr → Str → Prop) : Prop where
  has : ∀ C ∈ cls, ∃ (g : Addr) (fd : FuncData), PySem.W.findIn K (.ref C) "__str__" = some (some (.ref g)) ∧ PySem.W.isFn K (.ref g) = true ∧ Binds K fd ["self"] [] ∧ FnOk P w K mg base CX0 k g fd ["self"] (spStrC C S)
  fmt : ∀ C ∈ cls, PySem.W.findIn K (.ref C) "__format__" = some (some (.builtin "object.__format__")) ∧ PySem.W.mroIn K C (.type "object") = some true
/-- what a text of such an instance asks -/
def rStrC (cls : List Addr) (S : Hp → Addr → Str → Prop) : V → Hp → VK → Prop := fun x H Q => ∃ (a C dx : Addr) (fs : List (Str × V)) (z : Str), x = .ref a ∧ H a = some (.ins C dx fs) ∧ C ∈ cls ∧ S H a z ∧ ∀ H', (∀ b o, H b = some o → H' b = some o) → Q (.str z) H'
section
variable {X : Cx} {k : Nat} {cls : List Addr} {S : Hp → Addr → Str → Prop}
theorem call_strC (Sh : Shows X.prog X.w X.K X.mg X.base k cls S) (hr : Room (k + 2) X.A) : CallR X (.type "str") (fun xs H Q => ∃ x, xs = [x] ∧ rStrC cls S x H Q) := by
  intro pins s σ H xs us Q I r h
  obtain ⟨x, rfl, a, C, dx, fs, z, rfl, ha, mC, hS, q⟩ := h
  obtain rfl := Vals.ref1 r
  obtain ⟨g, fd, hs, hf, hb, F⟩ := Sh.has C mC
  obtain ⟨mA, J, _⟩ := ins_get I.hok ha
  obtain ⟨od, J, _⟩ := J.look
  have h2 : Room k X.A.in1.in1 := hr.in1.in1
  refine PySem.W.kso_call (by have := h2.units; omega) I.kIn J hs hf ?_
  refine run_own1 (E := E0) F h2 rfl hb pass0 I (show Vals [V.ref a] [Value.ref a] from .cons rfl .nil) (Q := fun y H' => ∃ z, y = .str z ∧ Q (.str z) H') ⟨a, dx, fs, z, rfl, ha, hS, fun H' s => ⟨z, rfl, q H' s⟩⟩ fun w z s' H' I' rz qz => ?_
  obtain ⟨y, rfl, qy⟩ := qz
  obtain ⟨t, rfl⟩ := rz
  exact ⟨.str y, H', I', ⟨t, rfl⟩, qy⟩
/-- {x} -/
def tFmtC (cls : List Addr) (S : Hp → Addr → Str → Prop) (te : TE) : TE := fun σ H Q => te σ H fun x H1 => rStrC cls S x H1 Q
theorem pe_fmtC {e : Expr} {te : TE} {pos : Pos} (Sh : Shows X.prog X.w X.K X.mg X.base k cls S) (hr : Room (k + 1) X.A) (he : PE X e te) : PE X (.FormattedValue e (-1) none pos) (tFmtC cls S te) := by
  refine ⟨fun pins s σ H Q I h => ?_⟩
  refine wpAny_FormattedValue_plain (thn (he.run pins s σ H _ I h) fun v s1 hv => ?_)
  obtain ⟨x, H1, I1, r1, a, C, dx, fs, z, rfl, ha, mC, hS, q⟩ := hv
  obtain rfl : v = Value.ref a := r1
  obtain ⟨g, fd, hs, hf, hb, F⟩ := Sh.has C mC
  obtain ⟨hfm, hm⟩ := Sh.fmt C mC
  obtain ⟨mA, J, _⟩ := ins_get I1.hok ha
  obtain ⟨od, J, _⟩ := J.look
  have h2 : Room k X.A.in1 := hr.in1
  refine PySem.W.kfo_fieldS (by have := h2.units; omega) I1.kIn J hfm hm hs hf ?_
  refine run_own1 (E := E0) F h2 rfl hb pass0 (I1.tok _) (show Vals [V.ref a] [Value.ref a] from .cons rfl .nil) (Q := fun y H' => ∃ z, y = .str z ∧ Q (.str z) H') ⟨a, dx, fs, z, rfl, ha, hS, fun H' s => ⟨z, rfl, q H' s⟩⟩ fun w z s' H' I' rz qz => ?_
  obtain ⟨y, rfl, qy⟩ := qz
  obtain ⟨t, rfl⟩ := rz
  exact ⟨.str y, H', I', ⟨t, rfl⟩, qy⟩
end
end L2

set_option pp.maxSteps 600
namespace K14
open PySem L2 PySem.Spec PyProof.Rows
/-! ## the ground of the laws over rows and books -/
structure Txt (mg : Str → Option Value) : Prop where
  z_len : mg "len" = none
  z_abs : mg "abs" = none
  z_int : mg "int" = none
  z_max : mg "max" = none
  z_min : mg "min" = none
  z_range : mg "range" = none
  z_enumerate : mg "enumerate" = none
  z_isinstance : mg "isinstance" = none
  z_repr : mg "repr" = none
  z_zip : mg "zip" = none
  z_sum : mg "sum" = none
  z_all : mg "all" = none
  z_tuple : mg "tuple" = none
  z_list : mg "list" = none
  z_bool : mg "bool" = none
  z_sorted : mg "sorted" = none
  z_dict : mg "dict" = none
  z_str : mg "str" = none
  z_set : mg "set" = none
theorem new_at {H : Hp} {p : Addr} {o : HO} (h : H p = none) : Same H (upd H p o) ∧ upd H p o p = some o :=
  ⟨fun b u z => by rw [upd_ne (ne_of_none z h)]; exact z, upd_same⟩
theorem iteSe {b : Bool} {A B : Prop} (h : b = true) (k : A) : if b = true then A else B := by rw [if_pos h]; exact k
theorem iteSf {b : Bool} {A B : Prop} (h : b = false) (k : B) : if b = true then A else B := by rw [h, if_neg (by decide)]; exact k
theorem ne_of {H : Hp} {a b : Addr} {o u : HO} (ha : H a = some o) (hb : H b = some u) (d : o ≠ u) : a ≠ b := fun e => by
  rw [e, hb] at ha
  exact d (Option.some.inj ha).symm
/-! ### what is kept: all but the box at b and the tables of code objects -/
def Kp (b : Addr) (H H' : Hp) : Prop := ∀ a o, a ≠ b → H a = some o → (∀ ps, o ≠ .tbl ps) → H' a = some o
theorem Kp.refl (b : Addr) (H : Hp) : Kp b H H := fun _ _ _ h _ => h
theorem Kp.trans {b : Addr} {H H1 H2 : Hp} (s : Kp b H H1) (t : Kp b H1 H2) : Kp b H H2 := fun a o n h z => t a o n (s a o n h z) z
theorem Kp.of {b : Addr} {H H' : Hp} (s : Same H H') : Kp b H H' := fun a o _ h _ => s a o h
theorem Kp.upd' {b : Addr} {H : Hp} {o : HO} : Kp b H (upd H b o) := fun a u n h _ => by rw [upd_ne n]; exact h
/-! ### values, two deep, with instances of own classes among them (their classes: Z 0, Z 1, ..) -/
inductive Atom where
  | non
  | bl (b : Bool)
  | int (i : Int)
  | str (s : Str)
  | obj (k : Nat)
inductive D1 where
  | a (x : Atom)
  | s (isT : Bool) (xs : List Atom)
inductive D2 where
  | a (x : Atom)
  | s (isT : Bool) (xs : List D1)
def D1.up : D1 → D2
  | .a x => .a x
  | .s t xs => .s t (xs.map .a)
def seqO (isT : Bool) (xs : List V) : HO := if isT then .tup xs else .lst xs
theorem seqO_tbl {t : Bool} {xs : List V} (ps : Array Value) : seqO t xs ≠ .tbl ps := by cases t <;> exact fun z => nomatch z
def Rel0 (Z : Nat → Addr) (b : Addr) (H : Hp) (v : V) : Atom → Prop
  | .non => v = .non
  | .bl c => v = .bl c
  | .int i => v = .int i
  | .str s => v = .str s
  | .obj k => ∃ (a dx : Addr) (fs : List (Str × V)), v = .ref a ∧ a ≠ b ∧ H a = some (.ins (Z k) dx fs)
def Rel1 (Z : Nat → Addr) (b : Addr) (H : Hp) (v : V) : D1 → Prop
  | .a x => Rel0 Z b H v x
  | .s t xs => ∃ p as, v = .ref p ∧ p ≠ b ∧ H p = some (seqO t as) ∧ Paired (Rel0 Z b H) as xs
def Rel2 (Z : Nat → Addr) (b : Addr) (H : Hp) (v : V) : D2 → Prop
  | .a x => Rel0 Z b H v x
  | .s t xs => ∃ p as, v = .ref p ∧ p ≠ b ∧ H p = some (seqO t as) ∧ Paired (Rel1 Z b H) as xs
theorem _root_.PySem.Paired.mapP' {α β : Type} {R S : α → β → Prop} {as : List α} {bs : List β} (h : Paired R as bs) (f : ∀ a b, R a b → S a b) : Paired S as bs := by
  induction h with
  | nil => exact .nil
  | cons r _ ih => exact .cons (f _ _ r) ih
theorem _root_.PySem.Paired.mapR {α β γ : Type} {R : α → β → Prop} {S : α → γ → Prop} {g : β → γ} {as : List α} {bs : List β} (h : Paired R as bs) (f : ∀ a b, R a b → S a (g b)) : Paired S as (bs.map g) := by
  induction h with
  | nil => exact .nil
  | cons r _ ih => exact .cons (f _ _ r) ih
theorem _root_.PySem.Paired.app {α β : Type} {R : α → β → Prop} {as cs : List α} {bs ds : List β} (h : Paired R as bs) (g : Paired R cs ds) : Paired R (as ++ cs) (bs ++ ds) := by
  induction h with
  | nil => exact g
  | cons r _ ih => exact .cons r ih
theorem _root_.PySem.Paired.at' {α β : Type} {R : α → β → Prop} {as : List α} {bs : List β} (h : Paired R as bs) {i : Nat} {a : α} (e : as[i]? = some a) : ∃ b, bs[i]? = some b ∧ R a b := by
  induction h generalizing i with
  | nil => simp at e
  | cons r _ ih =>
    cases i with
    | zero => simp only [List.getElem?_cons_zero, Option.some.injEq] at e; subst e; exact ⟨_, rfl, r⟩
    | succ i => simp only [List.getElem?_cons_succ] at e ⊢; exact ih e
theorem _root_.PySem.Paired.len {α β : Type} {R : α → β → Prop} {as : List α} {bs : List β} (h : Paired R as bs) : as.length = bs.length := by
  induction h with
  | nil => rfl
  | cons _ _ ih => rw [List.length_cons, List.length_cons, ih]
section
variable {Z : Nat → Addr} {b : Addr} {H H' : Hp} {v : V}
theorem Rel0.kp {x : Atom} (s : Kp b H H') (h : Rel0 Z b H v x) : Rel0 Z b H' v x := by
  cases x with
  | obj k => obtain ⟨a, dx, fs, e, n, q⟩ := h; exact ⟨a, dx, fs, e, n, s _ _ n q fun ps z => nomatch z⟩
  | _ => exact h
theorem Rel1.kp {d : D1} (s : Kp b H H') (h : Rel1 Z b H v d) : Rel1 Z b H' v d := by
  cases d with
  | a x => exact Rel0.kp s h
  | s t xs => obtain ⟨p, as, e, n, q, r⟩ := h; exact ⟨p, as, e, n, s _ _ n q seqO_tbl, r.mapP' fun _ _ z => z.kp s⟩
theorem Rel2.kp {d : D2} (s : Kp b H H') (h : Rel2 Z b H v d) : Rel2 Z b H' v d := by
  cases d with
  | a x => exact Rel0.kp s h
  | s t xs => obtain ⟨p, as, e, n, q, r⟩ := h; exact ⟨p, as, e, n, s _ _ n q seqO_tbl, r.mapP' fun _ _ z => z.kp s⟩
theorem Rel1.up {d : D1} (h : Rel1 Z b H v d) : Rel2 Z b H v d.up := by
  cases d with
  | a x => exact h
  | s t xs => obtain ⟨p, as, e, n, q, r⟩ := h; exact ⟨p, as, e, n, q, r.mapR fun _ _ z => z⟩
end
/-! ### values that are written down -/
def G0 (Z : Nat → Addr) (b : Addr) (te : TE) (x : Atom) : Prop := ∀ σ H Q, H b ≠ none → (∀ H' v, Same H H' → Rel0 Z b H' v x → Q v H') → te σ H Q
def GA (Z : Nat → Addr) (b : Addr) (ta : TA) (xs : List Atom) : Prop := ∀ σ H Q, H b ≠ none → (∀ H' vs, Same H H' → Paired (Rel0 Z b H') vs xs → Q vs H') → ta σ H Q
def G1 (Z : Nat → Addr) (b : Addr) (te : TE) (d : D1) : Prop := ∀ σ H Q, H b ≠ none → (∀ H' v, Same H H' → Rel1 Z b H' v d → Q v H') → te σ H Q
def GA1 (Z : Nat → Addr) (b : Addr) (ta : TA) (ds : List D1) : Prop := ∀ σ H Q, H b ≠ none → (∀ H' vs, Same H H' → Paired (Rel1 Z b H') vs ds → Q vs H') → ta σ H Q
def G2 (Z : Nat → Addr) (b : Addr) (te : TE) (d : D2) : Prop := ∀ σ H Q, H b ≠ none → (∀ H' v, Same H H' → Rel2 Z b H' v d → Q v H') → te σ H Q
def GA2 (Z : Nat → Addr) (b : Addr) (ta : TA) (ds : List D2) : Prop := ∀ σ H Q, H b ≠ none → (∀ H' vs, Same H H' → Paired (Rel2 Z b H') vs ds → Q vs H') → ta σ H Q
section
variable {Z : Nat → Addr} {b : Addr}
theorem some_keep {H H' : Hp} (s : Same H H') (h : H b ≠ none) : H' b ≠ none := fun e => by
  cases q : H b with
  | none => exact h q
  | some o => rw [s _ _ q] at e; cases e
theorem new_ne {H : Hp} {p : Addr} (h : H b ≠ none) (hp : H p = none) : p ≠ b := fun e => h (e ▸ hp)
theorem g_int (i : Int) : G0 Z b (tC (.int i)) (.int i) := fun _ H _ _ q => q H _ (Same.refl H) rfl
theorem g_bl (c : Bool) : G0 Z b (tC (.bl c)) (.bl c) := fun _ H _ _ q => q H _ (Same.refl H) rfl
theorem g_non : G0 Z b (tC .non) .non := fun _ H _ _ q => q H _ (Same.refl H) rfl
theorem g_str (s : Str) : G0 Z b (tC (.str s)) (.str s) := fun _ H _ _ q => q H _ (Same.refl H) rfl
theorem g_neg (i : Int) : G0 Z b (tUn (rU fun i => .int (-i)) (tC (.int i))) (.int (-i)) := fun _ H _ _ q => ⟨i, rfl, q H _ (Same.refl H) rfl⟩
theorem ga_nil : GA Z b tNil [] := fun _ H _ _ q => q H [] (Same.refl H) .nil
theorem ga_cons {te : TE} {ta : TA} {x : Atom} {xs : List Atom} (h : G0 Z b te x) (t : GA Z b ta xs) : GA Z b (tCons te ta) (x :: xs) := fun σ H Q n q => h σ H _ n fun H1 v s1 r1 => t σ H1 _ (some_keep s1 n) fun H2 vs s2 r2 => q H2 (v :: vs) (s1.trans s2) (.cons (r1.kp (Kp.of s2)) r2)
theorem g1_a {te : TE} {x : Atom} (h : G0 Z b te x) : G1 Z b te (.a x) := fun σ H Q n q => h σ H _ n fun H' v s r => q H' v s r
theorem le_line {n : Nat} (h : n ≤ 1000) : n ≤ sizeLine := Nat.le_trans h (by decide)
theorem g1_tup {ta : TA} {xs : List Atom} (h : GA Z b ta xs) (l : xs.length ≤ 1000) : G1 Z b (tTup ta) (.s true xs) := fun σ H Q n q => h σ H _ n fun H1 vs s1 r1 => ⟨by rw [r1.len]; exact le_line l, fun p hp => q _ _ (s1.trans (new_at hp).1) ⟨p, vs, rfl, new_ne (some_keep s1 n) hp, (new_at hp).2, r1.mapP' fun _ _ z => z.kp (Kp.of (new_at hp).1)⟩⟩
theorem g1_lst {ta : TA} {xs : List Atom} (h : GA Z b ta xs) (l : xs.length ≤ 1000) : G1 Z b (tLst ta) (.s false xs) := fun σ H Q n q => h σ H _ n fun H1 vs s1 r1 => ⟨by rw [r1.len]; exact le_line l, fun p hp => q _ _ (s1.trans (new_at hp).1) ⟨p, vs, rfl, new_ne (some_keep s1 n) hp, (new_at hp).2, r1.mapP' fun _ _ z => z.kp (Kp.of (new_at hp).1)⟩⟩
theorem ga1_nil : GA1 Z b tNil [] := fun _ H _ _ q => q H [] (Same.refl H) .nil
theorem ga1_cons {te : TE} {ta : TA} {d : D1} {ds : List D1} (h : G1 Z b te d) (t : GA1 Z b ta ds) : GA1 Z b (tCons te ta) (d :: ds) := fun σ H Q n q => h σ H _ n fun H1 v s1 r1 => t σ H1 _ (some_keep s1 n) fun H2 vs s2 r2 => q H2 (v :: vs) (s1.trans s2) (.cons (r1.kp (Kp.of s2)) r2)
theorem g2_a {te : TE} {x : Atom} (h : G0 Z b te x) : G2 Z b te (.a x) := fun σ H Q n q => h σ H _ n fun H' v s r => q H' v s r
theorem g2_tup {ta : TA} {ds : List D1} (h : GA1 Z b ta ds) (l : ds.length ≤ 1000) : G2 Z b (tTup ta) (.s true ds) := fun σ H Q n q => h σ H _ n fun H1 vs s1 r1 => ⟨by rw [r1.len]; exact le_line l, fun p hp => q _ _ (s1.trans (new_at hp).1) ⟨p, vs, rfl, new_ne (some_keep s1 n) hp, (new_at hp).2, r1.mapP' fun _ _ z => z.kp (Kp.of (new_at hp).1)⟩⟩
theorem g2_lst {ta : TA} {ds : List D1} (h : GA1 Z b ta ds) (l : ds.length ≤ 1000) : G2 Z b (tLst ta) (.s false ds) := fun σ H Q n q => h σ H _ n fun H1 vs s1 r1 => ⟨by rw [r1.len]; exact le_line l, fun p hp => q _ _ (s1.trans (new_at hp).1) ⟨p, vs, rfl, new_ne (some_keep s1 n) hp, (new_at hp).2, r1.mapP' fun _ _ z => z.kp (Kp.of (new_at hp).1)⟩⟩
theorem ga2_nil : GA2 Z b tNil [] := fun _ H _ _ q => q H [] (Same.refl H) .nil
theorem ga2_cons {te : TE} {ta : TA} {d : D2} {ds : List D2} (h : G2 Z b te d) (t : GA2 Z b ta ds) : GA2 Z b (tCons te ta) (d :: ds) := fun σ H Q n q => h σ H _ n fun H1 v s1 r1 => t σ H1 _ (some_keep s1 n) fun H2 vs s2 r2 => q H2 (v :: vs) (s1.trans s2) (.cons (r1.kp (Kp.of s2)) r2)
theorem l_lst1 {ta : TA} {ds : List D1} (h : GA1 Z b ta ds) (l : ds.length ≤ 1000) {σ : L2.St} {H : Hp} {Q : VK} (n : H b ≠ none) (q : ∀ (H' : Hp) (p : Addr) (as : List V), Same H H' → p ≠ b → H' p = some (.lst as) → Paired (Rel1 Z b H') as ds → Q (.ref p) H') : tLst ta σ H Q := h σ H _ n fun H1 vs s1 r1 => ⟨by rw [r1.len]; exact le_line l, fun p hp => q _ p vs (s1.trans (new_at hp).1) (new_ne (some_keep s1 n) hp) (new_at hp).2 (r1.mapP' fun _ _ z => z.kp (Kp.of (new_at hp).1))⟩
theorem l_lst2 {ta : TA} {ds : List D2} (h : GA2 Z b ta ds) (l : ds.length ≤ 1000) {σ : L2.St} {H : Hp} {Q : VK} (n : H b ≠ none) (q : ∀ (H' : Hp) (p : Addr) (as : List V), Same H H' → p ≠ b → H' p = some (.lst as) → Paired (Rel2 Z b H') as ds → Q (.ref p) H') : tLst ta σ H Q := h σ H _ n fun H1 vs s1 r1 => ⟨by rw [r1.len]; exact le_line l, fun p hp => q _ p vs (s1.trans (new_at hp).1) (new_ne (some_keep s1 n) hp) (new_at hp).2 (r1.mapP' fun _ _ z => z.kp (Kp.of (new_at hp).1))⟩
end
end K14

namespace K14
open PySem L2 PySem.Spec PyProof.Rows
def top (i : Nat) : Stmt := PySem.Challenge.pw_sumlives_k15_parts_of_books_made.main.body.getD i (.Pass ⟨0, 0, 0, 0⟩)
theorem two_at (c : Int) (b : Prop) [Decidable b] : ∃ v, atI [V.int 0, V.int c] (if decide b = true then 1 else 0) = some (V.int v) := by
  by_cases h : b
  · exact ⟨c, by rw [decide_eq_true h]; rfl⟩
  · exact ⟨0, by rw [decide_eq_false h]; rfl⟩
/-- a box: three ints -/
def Box (H : Hp) (b : Addr) : Prop := ∃ x y z : Int, H b = some (.lst [.int x, .int y, .int z])
section
variable {P : Program} {w : World} {K : PySem.W.Frag} {mg : Str → Option Value} {base : Heap}
abbrev s_law_take : Stmt := top 37
abbrev n_law_take : List Str := ["_law_box_here", "_law_many", "_law_digit", "_law_raw", "_law_wide"]
theorem sc_law_take : FnScope n_law_take ["_law_box_here", "_law_many"] (defScope s_law_take) := ⟨rfl, rfl, rfl, by decide +kernel, rfl, by decide +kernel, by decide +kernel⟩
def spTake : Sp := fun vs H Q _ => ∃ (b : Addr) (n : Int), vs = [.ref b, .int n] ∧ Box H b ∧ 0 < n ∧ n < 10000000000 ∧ ∀ (d x y z : Int), 0 ≤ d → d < n → Q (.int d) (upd H b (.lst [.int x, .int y, .int z]))
theorem ok_take (T : Txt mg) (F : DefAt K mg "_law_take" s_law_take ["_law_box_here", "_law_many"]) : Has P w K mg base 1 "_law_take" ["_law_box_here", "_law_many"] spTake := by
  refine F.has sc_law_take (fun vs H Q E h => ?_) (fun f cdv A outer s H vs Q E hr h => ?_)
  · obtain ⟨b, n, rfl, _⟩ := h
    rfl
  · obtain ⟨b, n, rfl, ⟨x, y, z, hb⟩, n0, n1, k⟩ := h
    refine ⟨_, (pss_cons (ps_if (pt_cmpR op_gt (pe_ix ix_list (pv 0) pe_int (fun _ _ => rfl)) pe_int (nomark _)) (pss_cons (ps_set (i := 2) sc_law_take.nd rfl (Or.inl rfl) (pe_op op_mod (pe_callTy call_int1 (by rfl) T.z_int (by decide +kernel) (pa_cons (pe_ix ix_list (pv 0) pe_int (fun _ _ => rfl)) pa_nil)) (pv 1)))
      (pss_cons (ps_asg (pe_op op_fdivW (pe_ix ix_list (pv 0) pe_int (fun _ _ => rfl)) (pv 1)) (pg_sub (pv 0) pe_int set_list))
      (pss_one (ps_ret (pv 2))))) pss_nil)
      (pss_cons (ps_asg (pe_op op_add (pe_ix ix_list (pv 0) pe_int (fun _ _ => rfl)) pe_int) (pg_sub (pv 0) pe_int set_list))
      (pss_cons (ps_set (i := 3) sc_law_take.nd rfl (Or.inl rfl) (pe_op op_mod (pe_callTy call_int1 (by rfl) T.z_int (by decide +kernel) (pa_cons (pe_op op_mul (pe_op op_add (pe_ix ix_list (pv 0) pe_int (fun _ _ => rfl)) (pe_op op_mul pe_int (pe_ix ix_list (pv 0) pe_int (fun _ _ => rfl)))) pe_int) pa_nil)) pe_int))
      (pss_cons (ps_asg (pe_op op_add (pe_op op_mod (pe_callTy call_int1 (by rfl) T.z_int (by decide +kernel) (pa_cons (pe_op op_add (pe_op op_mul (pv 3) pe_int) pe_int) pa_nil)) pe_int) pe_int) (pg_sub (pv 0) pe_int set_list))
      (pss_cons (ps_if (pt_cmpR op_lt (pv 1) (pe_op op_pow pe_int pe_int) (nomark _)) (pss_one (ps_ret (pe_op op_mod (pe_callTy call_int1 (by rfl) T.z_int (by decide +kernel) (pa_cons (pe_op op_fdiv (pe_op op_add (pe_op op_mul (pv 3) pe_int) (pe_ix ix_list (pv 0) pe_int (fun _ _ => rfl))) pe_int) pa_nil)) (pv 1)))) pss_nil)
      (pss_cons (ps_set (i := 4) sc_law_take.nd rfl (Or.inl rfl) (pe_op op_mul (pe_op op_add (pe_op op_mul (pv 3) pe_int) (pe_ix ix_list (pv 0) pe_int (fun _ _ => rfl))) (pe_op op_pow pe_int pe_int)))
      (pss_one (ps_ret (pe_op op_mod (pe_callTy call_int1 (by rfl) T.z_int (by decide +kernel) (pa_cons (pe_op op_add (pe_op op_add (pv 4) (pe_op op_mul (pe_op op_pow (pe_ix ix_list (pv 0) pe_int (fun _ _ => rfl)) pe_int) pe_int)) (pv 3)) pa_nil)) (pv 1)))))))))), ?_⟩
    -- if box[0] > 0: the digit; else the next number
    refine ⟨_, rfl, b, _, _, _, rfl, rfl, SqL.of hb, rfl, _, _, rfl, rfl, _, rfl, ite2 (fun _ => ?_) (fun _ => ?_)⟩
    · refine ⟨_, rfl, b, _, _, _, rfl, rfl, SqL.of hb, rfl, .inl ⟨_, rfl, _, rfl, _, _, rfl, rfl, n0, ?_⟩⟩
      refine ⟨_, rfl, b, _, _, _, rfl, rfl, SqL.of hb, rfl, _, rfl, _, _, rfl, rfl, wide_div n0 (show n.natAbs < 2 ^ 40 by omega) (by decide) (by decide), _, rfl, b, _, _, _, rfl, rfl, hb, rfl, _, rfl, ?_⟩
      exact k _ _ _ _ (Int.emod_nonneg _ (by omega)) (Int.emod_lt_of_pos _ n0)
    · refine ⟨_, rfl, b, _, _, _, rfl, rfl, SqL.of hb, rfl, _, _, rfl, rfl, _, rfl, b, _, _, _, rfl, rfl, hb, rfl, ?_⟩
      have h1 : upd H b (.lst [.int x, .int y, .int (z + 1)]) b = some (.lst [.int x, .int y, .int (z + 1)]) := upd_same
      refine ⟨_, rfl, b, _, _, _, rfl, rfl, SqL.of h1, rfl, _, rfl, b, _, _, _, rfl, rfl, SqL.of h1, rfl, _, _, rfl, rfl, .inl ⟨by decide, by decide⟩, _, _, rfl, rfl, _, _, rfl, rfl, .inr ⟨by decide, by decide⟩, .inl ⟨_, rfl, _, _, rfl, rfl, (by show (0 : Int) < 2147483647; decide), ?_⟩⟩
      generalize (y + 104729 * (z + 1)) * 69623 % 2147483647 = r
      refine ⟨_, rfl, _, _, rfl, rfl, .inr ⟨by decide, by decide⟩, _, _, rfl, rfl, .inl ⟨_, rfl, _, _, rfl, rfl, (by show (0 : Int) < 2147483629; decide), _, _, rfl, rfl, _, rfl, b, _, _, _, rfl, rfl, h1, rfl, ?_⟩⟩
      rw [upd_upd]
      refine ⟨_, rfl, _, _, rfl, rfl, ⟨by decide, by decide, by decide⟩, _, _, rfl, rfl, _, rfl, ?_⟩
      have e : decide (n < 2 ^ (40 : Int).toNat) = true := decide_eq_true (by
        have q : (2 : Int) ^ (40 : Int).toNat = 1099511627776 := by decide +kernel
        omega)
      rw [e]
      refine iteT ⟨_, rfl, _, _, rfl, rfl, .inr ⟨by decide, by decide⟩, _, rfl, b, _, _, _, rfl, rfl, SqL.of upd_same, rfl, _, _, rfl, rfl, _, _, rfl, rfl, ⟨by decide, by decide⟩, .inl ⟨_, rfl, _, rfl, _, _, rfl, rfl, n0, ?_⟩⟩
      exact k _ _ _ _ (Int.emod_nonneg _ (by omega)) (Int.emod_lt_of_pos _ n0)
abbrev s_law_box : Stmt := top 36
abbrev n_law_box : List Str := ["_law_script", "_law_k", "_law_own", "_law_cell", "_law_seed"]
theorem sc_law_box : FnScope n_law_box ["_law_script", "_law_k", "_law_own"] (defScope s_law_box) := ⟨rfl, rfl, rfl, by decide +kernel, rfl, by decide +kernel, by decide +kernel⟩
def spBox (K : PySem.W.Frag) : Sp := fun vs H Q _ => ∃ (a : Addr) (ns : List Int) (k o : Int), vs = [.ref a, .int k, .int o] ∧ SqL K H a (ns.map V.int) ∧ 0 ≤ k ∧ k < 1000 ∧ 0 ≤ o ∧ o < 1000 ∧ ∀ (H' : Hp) (p : Addr), Same H H' → H p = none → Box H' p → Q (.ref p) H'
theorem ok_box (T : Txt mg) (F : DefAt K mg "_law_box" s_law_box ["_law_script", "_law_k", "_law_own"]) : Has P w K mg base 1 "_law_box" ["_law_script", "_law_k", "_law_own"] (spBox K) := by
  refine F.has sc_law_box (fun vs H Q E h => ?_) (fun f cdv A outer s H vs Q E hr h => ?_)
  · obtain ⟨a, ns, k, o, rfl, _⟩ := h
    rfl
  · obtain ⟨a, ns, i, o, rfl, hS, i0, i1, o0, o1, k⟩ := h
    refine ⟨_, (pss_cons (ps_set (i := 3) sc_law_box.nd rfl (Or.inl rfl) (pe_op op_add (pe_op op_add (pe_op op_mul pe_int (pv 1)) (pe_op op_mul pe_int (pv 2))) pe_int))
      (pss_cons (ps_if (pt_cmpR op_lt (pv 1) (pe_callB call_len (by rfl) T.z_len (by decide +kernel) (pa_cons (pv 0) pa_nil)) (nomark _)) (pss_one (ps_set (i := 3) sc_law_box.nd rfl (Or.inl rfl) (pe_callB call_abs (by rfl) T.z_abs (by decide +kernel) (pa_cons (pe_ix ix_list (pv 0) (pv 1) (fun _ _ => rfl)) pa_nil)))) (pss_one (ps_if (pt_cmpR op_gt (pe_callB call_len (by rfl) T.z_len (by decide +kernel) (pa_cons (pv 0) pa_nil)) pe_int (nomark _)) (pss_one (ps_set (i := 3) sc_law_box.nd rfl (Or.inl rfl) (pe_op op_add (pv 3) (pe_op op_mul (pe_op op_mod (pe_callTy call_int1 (by rfl) T.z_int (by decide +kernel) (pa_cons (pe_callB call_abs (by rfl) T.z_abs (by decide +kernel) (pa_cons (pe_ix ix_list (pv 0) (pe_op op_mod (pe_callTy call_int1 (by rfl) T.z_int (by decide +kernel) (pa_cons (pv 1) pa_nil)) (pe_callB call_len (by rfl) T.z_len (by decide +kernel) (pa_cons (pv 0) pa_nil))) (fun _ _ => rfl)) pa_nil)) pa_nil)) pe_int) pe_int)))) pss_nil)))
      (pss_cons (ps_set (i := 4) sc_law_box.nd rfl (Or.inl rfl) (pe_op op_add (pe_op op_mod (pe_callTy call_int1 (by rfl) T.z_int (by decide +kernel) (pa_cons (pe_op op_add (pe_op op_mul (pe_op op_mod (pe_callTy call_int1 (by rfl) T.z_int (by decide +kernel) (pa_cons (pv 3) pa_nil)) pe_int) pe_int) (pe_op op_mul pe_int (pe_op op_add (pv 1) (pe_op op_mul pe_int (pv 2))))) pa_nil)) pe_int) pe_int))
      (pss_one (ps_ret (pe_lst (pa_cons (pe_ix ix_list (pe_lst (pa_cons pe_int (pa_cons (pv 3) pa_nil))) (pe_callTy call_int1 (by rfl) T.z_int (by decide +kernel) (pa_cons (pe_cmpR op_ge (pv 3) (pe_op op_pow pe_int pe_int) (nomark _)) pa_nil)) (fun _ _ => rfl)) (pa_cons (pv 4) (pa_cons pe_int pa_nil))))))))), ?_⟩
    refine ⟨_, rfl, _, _, rfl, rfl, .inl ⟨by decide, by decide⟩, _, rfl, _, _, rfl, rfl, .inl ⟨by decide, by decide⟩, _, _, rfl, rfl, _, _, rfl, rfl, ?_⟩
    have hlen : (ns.map V.int).length = ns.length := List.length_map ..
    -- the cell by three ways; what follows is the same
    refine ⟨_, rfl, _, rfl, _, _, rfl, .inl ⟨_, hS, rfl⟩, _, _, rfl, rfl, _, rfl, ite2 (fun h1 => ?_) (fun h1 => ?_)⟩
    · have h1' : i < ((ns.map V.int).length : Int) := of_decide_eq_true h1
      obtain ⟨j, rfl⟩ : ∃ j : Nat, i = (j : Int) := ⟨i.toNat, by omega⟩
      have hj : j < ns.length := by omega
      have ej : (ns.map V.int)[j]? = some (V.int ns[j]) := by rw [List.getElem?_map, List.getElem?_eq_getElem hj]; rfl
      refine ⟨_, rfl, _, rfl, a, _, _, _, rfl, rfl, hS, atI_nat ej, _, rfl, ?_⟩
      refine ⟨_, rfl, .inl ⟨_, rfl, _, _, rfl, rfl, (by show (0 : Int) < 2147483629; decide), _, _, rfl, rfl, .inr ⟨by decide, by decide⟩, _, rfl, _, rfl, _, _, rfl, rfl, .inl ⟨by decide, by decide⟩, _, _, rfl, rfl, _, _, rfl, rfl, .inl ⟨by decide, by decide⟩, _, _, rfl, rfl, .inl ⟨_, rfl, _, _, rfl, rfl, (by show (0 : Int) < 2147483629; decide), _, _, rfl, rfl, ?_⟩⟩⟩
      refine ⟨_, rfl, (by decide : 2 ≤ sizeLine), fun q hq => ⟨_, rfl, _, _, rfl, rfl, ⟨by decide, by decide, by decide⟩, _, _, rfl, rfl, .inr ⟨_, rfl, ?_⟩⟩⟩
      refine ⟨q, _, _, _, rfl, rfl, SqL.of upd_same, (two_at _ _).choose_spec, _, rfl, (by decide : 3 ≤ sizeLine), fun p hp => ?_⟩
      have npq : p ≠ q := fun z => by rw [z, upd_same] at hp; cases hp
      have hp0 : H p = none := by rw [upd_ne npq] at hp; exact hp
      refine k _ p (fun b o z => ?_) hp0 ⟨_, _, _, upd_same⟩
      rw [upd_ne (ne_of_none z hp0), upd_ne (ne_of_none z hq)]
      exact z
    · refine ⟨_, rfl, _, _, rfl, .inl ⟨_, hS, rfl⟩, _, _, rfl, rfl, _, rfl, ite2 (fun h2 => ?_) (fun h2 => ?_)⟩
      · have h2' : (0 : Int) < ((ns.map V.int).length : Int) := of_decide_eq_true h2
        have m0 := Int.emod_nonneg i (b := ((ns.map V.int).length : Int)) (by omega)
        have m1 := Int.emod_lt_of_pos i h2'
        obtain ⟨j, ej0⟩ : ∃ j : Nat, i % ((ns.map V.int).length : Int) = (j : Int) := ⟨(i % ((ns.map V.int).length : Int)).toNat, by omega⟩
        have hj : j < ns.length := by omega
        have ej : (ns.map V.int)[j]? = some (V.int ns[j]) := by rw [List.getElem?_map, List.getElem?_eq_getElem hj]; rfl
        refine ⟨_, rfl, _, rfl, _, rfl, .inl ⟨_, rfl, _, rfl, _, _, rfl, .inl ⟨_, hS, rfl⟩, _, _, rfl, rfl, h2', a, _, _, _, rfl, rfl, hS, (by rw [ej0]; exact atI_nat ej), _, rfl, .inl ⟨_, rfl, _, _, rfl, rfl, (by show (0 : Int) < 2147483629; decide), _, _, rfl, rfl, .inr ⟨by decide, by decide⟩, _, _, rfl, rfl, ?_⟩⟩⟩
        refine ⟨_, rfl, .inl ⟨_, rfl, _, _, rfl, rfl, (by show (0 : Int) < 2147483629; decide), _, _, rfl, rfl, .inr ⟨by decide, by decide⟩, _, rfl, _, rfl, _, _, rfl, rfl, .inl ⟨by decide, by decide⟩, _, _, rfl, rfl, _, _, rfl, rfl, .inl ⟨by decide, by decide⟩, _, _, rfl, rfl, .inl ⟨_, rfl, _, _, rfl, rfl, (by show (0 : Int) < 2147483629; decide), _, _, rfl, rfl, ?_⟩⟩⟩
        refine ⟨_, rfl, (by decide : 2 ≤ sizeLine), fun q hq => ⟨_, rfl, _, _, rfl, rfl, ⟨by decide, by decide, by decide⟩, _, _, rfl, rfl, .inr ⟨_, rfl, ?_⟩⟩⟩
        refine ⟨q, _, _, _, rfl, rfl, SqL.of upd_same, (two_at _ _).choose_spec, _, rfl, (by decide : 3 ≤ sizeLine), fun p hp => ?_⟩
        have npq : p ≠ q := fun z => by rw [z, upd_same] at hp; cases hp
        have hp0 : H p = none := by rw [upd_ne npq] at hp; exact hp
        refine k _ p (fun b o z => ?_) hp0 ⟨_, _, _, upd_same⟩
        rw [upd_ne (ne_of_none z hp0), upd_ne (ne_of_none z hq)]
        exact z
      · show tSeq _ _ _ _ _
        refine ⟨_, rfl, .inl ⟨_, rfl, _, _, rfl, rfl, (by show (0 : Int) < 2147483629; decide), _, _, rfl, rfl, .inr ⟨by decide, by decide⟩, _, rfl, _, rfl, _, _, rfl, rfl, .inl ⟨by decide, by decide⟩, _, _, rfl, rfl, _, _, rfl, rfl, .inl ⟨by decide, by decide⟩, _, _, rfl, rfl, .inl ⟨_, rfl, _, _, rfl, rfl, (by show (0 : Int) < 2147483629; decide), _, _, rfl, rfl, ?_⟩⟩⟩
        refine ⟨_, rfl, (by decide : 2 ≤ sizeLine), fun q hq => ⟨_, rfl, _, _, rfl, rfl, ⟨by decide, by decide, by decide⟩, _, _, rfl, rfl, .inr ⟨_, rfl, ?_⟩⟩⟩
        refine ⟨q, _, _, _, rfl, rfl, SqL.of upd_same, (two_at _ _).choose_spec, _, rfl, (by decide : 3 ≤ sizeLine), fun p hp => ?_⟩
        have npq : p ≠ q := fun z => by rw [z, upd_same] at hp; cases hp
        have hp0 : H p = none := by rw [upd_ne npq] at hp; exact hp
        refine k _ p (fun b o z => ?_) hp0 ⟨_, _, _, upd_same⟩
        rw [upd_ne (ne_of_none z hp0), upd_ne (ne_of_none z hq)]
        exact z
/-- but for the box all stands as before -/
def But (b : Addr) (H H' : Hp) : Prop := ∀ a o, a ≠ b → H a = some o → H' a = some o
theorem But.trans {b : Addr} {H H1 H2 : Hp} (s : But b H H1) (t : But b H1 H2) : But b H H2 := fun a o n z => t a o n (s a o n z)
theorem But.upd' {b : Addr} {H : Hp} {o : HO} : But b H (upd H b o) := fun a u n z => by rw [upd_ne n]; exact z
theorem Same.but {b : Addr} {H H' : Hp} (s : Same H H') : But b H H' := fun a o _ z => s a o z
theorem Box.keep {b : Addr} {H H' : Hp} (s : Same H H') (h : Box H b) : Box H' b := by
  obtain ⟨x, y, z, h⟩ := h
  exact ⟨x, y, z, s _ _ h⟩
theorem Box.upd' {b : Addr} {H : Hp} {x y z : Int} : Box (upd H b (.lst [.int x, .int y, .int z])) b := ⟨x, y, z, upd_same⟩
end
end K14

set_option pp.maxSteps 600
namespace K14
open PySem L2 PySem.Spec PyProof.Rows
/-- what isinstance asks of an own class of the package -/
structure ObjK (K : PySem.W.Frag) (C : Addr) : Prop where
  cl : Cls K C
  ha : PySem.W.findIn K (.ref C) "__class__" = some (some (.builtin "object.__class__"))
  hn : PySem.W.specialIn K (.builtin "object.__class__") "__get__" = some (some (.builtin "getset_descriptor.__get__"))
  htk : PySem.W.takesIn K (.builtin "object.__class__") = some true
  hm : PySem.W.mroIn K C (.type "object") = some true
  str : PySem.W.kitOne K (.ref C) (.type "str") = some false
  int : PySem.W.kitOne K (.ref C) (.type "int") = some false
  bool : PySem.W.kitOne K (.ref C) (.type "bool") = some false
  lst : PySem.W.kitOne K (.ref C) (.type "list") = some false
  tup : PySem.W.kitOne K (.ref C) (.type "tuple") = some false
def isStr0 : Atom → Bool
  | .str _ => true
  | _ => false
def isInt0 : Atom → Bool
  | .int _ => true
  | .bl _ => true
  | _ => false
def isBl0 : Atom → Bool
  | .bl _ => true
  | _ => false
def at2 (f : Atom → Bool) : D2 → Bool
  | .a x => f x
  | _ => false
def isSeq2 : D2 → Bool
  | .s _ _ => true
  | _ => false
section
variable {K : PySem.W.Frag} {Z : Nat → Addr} {b : Addr} {H : Hp} {v : V}
theorem ty_obj (OZ : ∀ k, ObjK K (Z k)) {k : Nat} (h : Rel0 Z b H v (.obj k)) : TyX K H v (.ref (Z k)) := by
  obtain ⟨a, dx, fs, rfl, _, e⟩ := h
  have o := OZ k
  exact .base (.ins e o.cl o.ha o.hn o.htk o.hm)
theorem ty_seq {t : Bool} {xs : List D1} (h : Rel2 Z b H v (.s t xs)) : TyX K H v (.type (if t then "tuple" else "list")) := by
  obtain ⟨p, as, rfl, _, e, _⟩ := h
  cases t
  · exact .base (.lst e)
  · exact .base (.tup e)
theorem ty_of (OZ : ∀ k, ObjK K (Z k)) {d : D2} (h : Rel2 Z b H v d) {T : String} {f : Atom → Bool} (h0 : PySem.W.kitOne K (.type "NoneType") (.type T) = some (f .non)) (h1 : ∀ c, PySem.W.kitOne K (.type "bool") (.type T) = some (f (.bl c))) (h2 : ∀ i, PySem.W.kitOne K (.type "int") (.type T) = some (f (.int i))) (h3 : ∀ s, PySem.W.kitOne K (.type "str") (.type T) = some (f (.str s)))
    (h4 : ∀ k, PySem.W.kitOne K (.ref (Z k)) (.type T) = some (f (.obj k))) (h5 : PySem.W.kitOne K (.type "list") (.type T) = some false) (h6 : PySem.W.kitOne K (.type "tuple") (.type T) = some false) : ∃ t, TyX K H v t ∧ PySem.W.kitOne K t (.type T) = some (at2 f d) := by
  cases d with
  | a x =>
    cases x with
    | non => cases (show v = .non from h); exact ⟨_, .base .non, h0⟩
    | bl c => cases (show v = .bl c from h); exact ⟨_, .base (.bl c), h1 c⟩
    | int i => cases (show v = .int i from h); exact ⟨_, .base (.int i), h2 i⟩
    | str s => cases (show v = .str s from h); exact ⟨_, .base (.str s), h3 s⟩
    | obj k => exact ⟨_, ty_obj OZ (k := k) h, h4 k⟩
  | s t xs =>
    refine ⟨_, ty_seq h, ?_⟩
    cases t
    · exact h5
    · exact h6
theorem ty_str (OZ : ∀ k, ObjK K (Z k)) {d : D2} (h : Rel2 Z b H v d) : ∃ t, TyX K H v t ∧ PySem.W.kitOne K t (.type "str") = some (at2 isStr0 d) :=
  ty_of OZ h (kit_ty (by decide +kernel)) (fun _ => by first | exact kit_ty (show kitB _ _ = some false by decide +kernel) | exact kit_ty (show kitB _ _ = some true by decide +kernel)) (fun _ => by first | exact kit_ty (show kitB _ _ = some false by decide +kernel) | exact kit_ty (show kitB _ _ = some true by decide +kernel)) (fun _ => by first | exact kit_ty (show kitB _ _ = some false by decide +kernel) | exact kit_ty (show kitB _ _ = some true by decide +kernel)) (fun k => (OZ k).str) (kit_ty (by decide +kernel)) (kit_ty (by decide +kernel))
theorem ty_int (OZ : ∀ k, ObjK K (Z k)) {d : D2} (h : Rel2 Z b H v d) : ∃ t, TyX K H v t ∧ PySem.W.kitOne K t (.type "int") = some (at2 isInt0 d) :=
  ty_of OZ h (kit_ty (by decide +kernel)) (fun _ => by first | exact kit_ty (show kitB _ _ = some false by decide +kernel) | exact kit_ty (show kitB _ _ = some true by decide +kernel)) (fun _ => by first | exact kit_ty (show kitB _ _ = some false by decide +kernel) | exact kit_ty (show kitB _ _ = some true by decide +kernel)) (fun _ => by first | exact kit_ty (show kitB _ _ = some false by decide +kernel) | exact kit_ty (show kitB _ _ = some true by decide +kernel)) (fun k => (OZ k).int) (kit_ty (by decide +kernel)) (kit_ty (by decide +kernel))
theorem ty_bool (OZ : ∀ k, ObjK K (Z k)) {d : D2} (h : Rel2 Z b H v d) : ∃ t, TyX K H v t ∧ PySem.W.kitOne K t (.type "bool") = some (at2 isBl0 d) :=
  ty_of OZ h (kit_ty (by decide +kernel)) (fun _ => by first | exact kit_ty (show kitB _ _ = some false by decide +kernel) | exact kit_ty (show kitB _ _ = some true by decide +kernel)) (fun _ => by first | exact kit_ty (show kitB _ _ = some false by decide +kernel) | exact kit_ty (show kitB _ _ = some true by decide +kernel)) (fun _ => by first | exact kit_ty (show kitB _ _ = some false by decide +kernel) | exact kit_ty (show kitB _ _ = some true by decide +kernel)) (fun k => (OZ k).bool) (kit_ty (by decide +kernel)) (kit_ty (by decide +kernel))
theorem ty_seqs (OZ : ∀ k, ObjK K (Z k)) {d : D2} (h : Rel2 Z b H v d) : ∃ t, TyX K H v t ∧ PySem.W.kitAny K t [.type "list", .type "tuple"] = some (isSeq2 d) := by
  have no : ∀ {t : Value}, PySem.W.kitOne K t (.type "list") = some false → PySem.W.kitOne K t (.type "tuple") = some false → PySem.W.kitAny K t [.type "list", .type "tuple"] = some false := fun a b => kitAny_cons (b := false) a (fun _ => kitAny_cons (b := false) b (fun _ => rfl) (fun z => nomatch z)) (fun z => nomatch z)
  cases d with
  | a x =>
    cases x with
    | non => cases (show v = .non from h); exact ⟨_, .base .non, no (kit_ty (by decide +kernel)) (kit_ty (by decide +kernel))⟩
    | bl c => cases (show v = .bl c from h); exact ⟨_, .base (.bl c), no (kit_ty (by decide +kernel)) (kit_ty (by decide +kernel))⟩
    | int i => cases (show v = .int i from h); exact ⟨_, .base (.int i), no (kit_ty (by decide +kernel)) (kit_ty (by decide +kernel))⟩
    | str s => cases (show v = .str s from h); exact ⟨_, .base (.str s), no (kit_ty (by decide +kernel)) (kit_ty (by decide +kernel))⟩
    | obj k => exact ⟨_, ty_obj OZ (k := k) h, no (OZ k).lst (OZ k).tup⟩
  | s t xs =>
    refine ⟨_, ty_seq h, ?_⟩
    cases t
    · exact kitAny_cons (b := true) (kit_ty (by decide +kernel)) (fun z => nomatch z) (fun _ => rfl)
    · exact kitAny_cons (b := false) (kit_ty (by decide +kernel)) (fun _ => kitAny_cons (b := true) (kit_ty (by decide +kernel)) (fun z => nomatch z) (fun _ => rfl)) (fun z => nomatch z)
end
theorem inV_strs (s : Str) : ∀ l : List Str, inV (.str s) (l.map V.str) = decide (s ∈ l)
  | [] => rfl
  | a :: l => by
    have ih := inV_strs s l
    have e : inV (.str s) ((a :: l).map V.str) = (eqV (.str a) (.str s) || inV (.str s) (l.map V.str)) := rfl
    have e2 : eqV (.str a) (.str s) = decide (s = a) := by
      show decide _ = _
      exact decide_eq_decide.mpr ⟨fun q => by cases q; rfl, fun q => by rw [q]⟩
    rw [e, e2, ih]
    by_cases h : s = a
    · subst h; simp
    · simp [h]
def noNames : List Str := ["none", "to", "old", "new", "one", "not"]
def nameB (s : Str) : Bool := decide (s.length ≤ 4) && (Txt.isascii s && (Txt.isalpha s && (Txt.islower s && !decide (s ∈ noNames))))
def name0 : Atom → Bool
  | .str s => nameB s
  | _ => false
def int0 : Atom → Bool
  | .int _ => true
  | _ => false
theorem int_bl (d : D2) : (at2 isInt0 d && !at2 isBl0 d) = at2 int0 d := by
  cases d with
  | a x => cases x <;> rfl
  | s t xs => rfl
section
variable {P : Program} {w : World} {K : PySem.W.Frag} {mg : Str → Option Value} {base : Heap}
abbrev s_is_integer : Stmt := top 3
abbrev n_is_integer : List Str := ["value"]
theorem sc_is_integer : FnScope n_is_integer ["value"] (defScope s_is_integer) := ⟨rfl, rfl, rfl, by decide +kernel, rfl, by decide +kernel, by decide +kernel⟩
def spInt (Z : Nat → Addr) : Sp := fun vs H Q _ => ∃ (b : Addr) (x : V) (d : D2), vs = [x] ∧ Rel2 Z b H x d ∧ Q (.bl (at2 int0 d)) H
theorem ok_int {Z : Nat → Addr} (T : Txt mg) (OZ : ∀ k, ObjK K (Z k)) (F : DefAt K mg "is_integer" s_is_integer ["value"]) : Has P w K mg base 1 "is_integer" ["value"] (spInt Z) := by
  refine F.has sc_is_integer (fun vs H Q E h => ?_) (fun f cdv A outer s H vs Q E hr h => ?_)
  · obtain ⟨b, x, d, rfl, _⟩ := h
    rfl
  · obtain ⟨b, x, d, rfl, r, k⟩ := h
    refine ⟨_, (pss_one (ps_ret (pe_and (pe_callB call_isi (by rfl) T.z_isinstance (by decide +kernel) (pa_cons (pv 0) (pa_cons (pe_bltn (v := .ty "int") (by rfl) T.z_int (by decide +kernel) rfl) pa_nil))) (pe_one (pe_not (pe_callB call_isi (by rfl) T.z_isinstance (by decide +kernel) (pa_cons (pv 0) (pa_cons (pe_bltn (v := .ty "bool") (by rfl) T.z_bool (by decide +kernel) rfl) pa_nil)))))))), ?_⟩
    obtain ⟨t1, h1, k1⟩ := ty_int OZ r
    obtain ⟨t2, h2, k2⟩ := ty_bool OZ r
    rw [← int_bl] at k
    refine ⟨_, rfl, _, _, t1, _, _, rfl, .ty _, h1, k1, _, rfl, ?_⟩
    cases hi : at2 isInt0 d with
    | false =>
      rw [hi] at k
      exact iteSf rfl k
    | true =>
      rw [hi] at k
      exact iteSe rfl ⟨_, rfl, _, _, t2, _, _, rfl, .ty _, h2, k2, _, rfl, k⟩
abbrev s_is_sequence : Stmt := top 4
abbrev n_is_sequence : List Str := ["value"]
theorem sc_is_sequence : FnScope n_is_sequence ["value"] (defScope s_is_sequence) := ⟨rfl, rfl, rfl, by decide +kernel, rfl, by decide +kernel, by decide +kernel⟩
def spSeq (Z : Nat → Addr) : Sp := fun vs H Q _ => ∃ (b : Addr) (x : V) (d : D2), vs = [x] ∧ Rel2 Z b H x d ∧ ∀ H', Same H H' → Q (.bl (isSeq2 d)) H'
theorem ok_seq {Z : Nat → Addr} (T : Txt mg) (OZ : ∀ k, ObjK K (Z k)) (F : DefAt K mg "is_sequence" s_is_sequence ["value"]) : Has P w K mg base 1 "is_sequence" ["value"] (spSeq Z) := by
  refine F.has sc_is_sequence (fun vs H Q E h => ?_) (fun f cdv A outer s H vs Q E hr h => ?_)
  · obtain ⟨b, x, d, rfl, _⟩ := h
    rfl
  · obtain ⟨b, x, d, rfl, r, k⟩ := h
    refine ⟨_, (pss_one (ps_ret (pe_callB call_isiT (by rfl) T.z_isinstance (by decide +kernel) (pa_cons (pv 0) (pa_cons (pe_tup (pa_cons (pe_bltn (v := .ty "list") (by rfl) T.z_list (by decide +kernel) rfl) (pa_cons (pe_bltn (v := .ty "tuple") (by rfl) T.z_tuple (by decide +kernel) rfl) pa_nil))) pa_nil))))), ?_⟩
    refine ⟨_, rfl, (by decide : 2 ≤ sizeLine), fun t ht => ?_⟩
    obtain ⟨s1, h1⟩ := new_at (o := .tup [.ty "list", .ty "tuple"]) ht
    obtain ⟨tv, ht2, kt⟩ := ty_seqs OZ (r.kp (Kp.of s1))
    exact ⟨_, t, _, _, _, _, rfl, h1, .cons (.ty _) (.cons (.ty _) .nil), ht2, kt, k _ s1⟩
abbrev s_is_name : Stmt := top 5
abbrev n_is_name : List Str := ["value"]
theorem sc_is_name : FnScope n_is_name ["value"] (defScope s_is_name) := ⟨rfl, rfl, rfl, by decide +kernel, rfl, by decide +kernel, by decide +kernel⟩
def spName (Z : Nat → Addr) : Sp := fun vs H Q _ => ∃ (b : Addr) (x : V) (d : D2), vs = [x] ∧ Rel2 Z b H x d ∧ (∀ s, d = .a (.str s) → s.length ≤ 1000) ∧ Q (.bl (at2 name0 d)) H
theorem ok_name {Z : Nat → Addr} {NN : Addr} (T : Txt mg) (OZ : ∀ k, ObjK K (Z k)) (mNN : mg "NO_NAMES" = some (.ref NN)) (tNN : ∀ H, SqT K H NN (noNames.map V.str)) (F : DefAt K mg "is_name" s_is_name ["value"]) : Has P w K mg base 1 "is_name" ["value"] (spName Z) := by
  refine F.has sc_is_name (fun vs H Q E h => ?_) (fun f cdv A outer s H vs Q E hr h => ?_)
  · obtain ⟨b, x, d, rfl, _⟩ := h
    rfl
  · obtain ⟨b, x, d, rfl, r, l, k⟩ := h
    refine ⟨_, (pss_one (ps_ret (pe_and (pe_callB call_isi (by rfl) T.z_isinstance (by decide +kernel) (pa_cons (pv 0) (pa_cons (pe_bltn (v := .ty "str") (by rfl) T.z_str (by decide +kernel) rfl) pa_nil))) (pe_and (pe_cmpR op_le (pe_callB call_len (by rfl) T.z_len (by decide +kernel) (pa_cons (pv 0) pa_nil)) pe_int (nomark _)) (pe_and (pe_m0 PySem.F.slot_str_isascii PySem.F.type_str_isascii mt_isascii (pv 0)) (pe_and (pe_m0 PySem.F.slot_str_isalpha PySem.F.type_str_isalpha mt_isalpha (pv 0)) (pe_and (pe_m0 PySem.F.slot_str_islower PySem.F.type_str_islower mt_islower (pv 0)) (pe_one (pe_cmpR op_notIn_seq (pv 0) (pe_glob (v := .ref NN) rfl mNN rfl) (by rfl)))))))))), ?_⟩
    obtain ⟨t1, h1, k1⟩ := ty_str OZ r
    refine ⟨_, rfl, _, _, t1, _, _, rfl, .ty _, h1, k1, _, rfl, ?_⟩
    cases d with
    | s t xs => exact iteSf rfl k
    | a y =>
      cases y with
      | non => exact iteSf rfl k
      | bl c => exact iteSf rfl k
      | int i => exact iteSf rfl k
      | obj j => exact iteSf rfl k
      | str s =>
        have ls := l s rfl
        cases (show x = .str s from r)
        refine iteSe rfl ?_
        have k' : Q (.bl (nameB s)) H := k
        unfold nameB at k'
        have ls' : s.length ≤ sizeLine := Nat.le_trans ls (by decide)
        refine ⟨_, rfl, _, _, rfl, ⟨ls', rfl⟩, _, _, rfl, rfl, _, rfl, ?_⟩
        by_cases h4 : s.length ≤ 4
        · rw [decide_eq_true h4] at k'
          refine iteSe (decide_eq_true (by omega)) ⟨_, rfl, ⟨_, rfl⟩, _, rfl, rfl, trivial, _, rfl, ?_⟩
          cases hA : Txt.isascii s with
          | false => rw [hA] at k'; exact iteSf rfl k'
          | true =>
          rw [hA] at k'
          refine iteSe rfl ⟨_, rfl, ⟨_, rfl⟩, _, rfl, rfl, trivial, _, rfl, ?_⟩
          cases hB : Txt.isalpha s with
          | false => rw [hB] at k'; exact iteSf rfl k'
          | true =>
          rw [hB] at k'
          refine iteSe rfl ⟨_, rfl, ⟨_, rfl⟩, _, rfl, rfl, trivial, _, rfl, ?_⟩
          cases hC : Txt.islower s with
          | false => rw [hC] at k'; exact iteSf rfl k'
          | true =>
          rw [hC] at k'
          refine iteSe rfl ⟨_, rfl, NN, noNames.map V.str, rfl, .inr (tNN _), rfl, rfl, ?_⟩
          rw [if_pos rfl, inV_strs]
          exact k'
        · rw [decide_eq_false h4] at k'
          exact iteSf (decide_eq_false (by omega)) k'
end
end K14

namespace K14
open PySem L2 PySem.Spec PyProof.Rows
/-! ## drawn books: the data, and how they stand in the heap (tuples of tuples, as the laws write them) -/
inductive TestD where
  | was (k : Str)
  | cut (old : Bool) (n : Int)
  | moved
  | noted
  | not (t : TestD)
inductive RowD where
  | ife (t : TestD) (a b : List RowD)
  | add (f : Int) (w t p : Str)
  | put (n w : Str)
  | mark (p : Str)
structure EventD where
  name : Str
  origins : List Str
  kind : Str
  amount : Bool
  group : Bool
structure WorthD where
  total : Str
  kind : Str
  factor : Int
  what : Str
  least : Option Int
  below : Option Int
structure BookD where
  rests : List Str
  passes : List Str
  told : List Int
  totals : List Str
  notes : List Str
  worths : List WorthD
  events : List EventD
  handlers : List (Str × List RowD)
/-- tuples stay -/
def TupKp (H H' : Hp) : Prop := ∀ a xs, H a = some (.tup xs) → H' a = some (.tup xs)
theorem TupKp.refl (H : Hp) : TupKp H H := fun _ _ h => h
theorem TupKp.trans {H H1 H2 : Hp} (s : TupKp H H1) (t : TupKp H1 H2) : TupKp H H2 := fun a xs h => t a xs (s a xs h)
theorem TupKp.of {H H' : Hp} (s : Same H H') : TupKp H H' := fun a xs h => s a _ h
theorem TupKp.upd' {H : Hp} {a : Addr} {u o : HO} (h : H a = some u) (n : ∀ xs, u ≠ .tup xs) : TupKp H (upd H a o) := fun b xs e => by
  have : b ≠ a := fun z => by rw [z, h] at e; cases e; exact n xs rfl
  rw [upd_ne this]
  exact e
theorem TupKp.box {H : Hp} {b : Addr} {o : HO} (h : Box H b) : TupKp H (upd H b o) := by
  obtain ⟨x, y, z, e⟩ := h
  exact TupKp.upd' e fun xs z => nomatch z
def belowS (old : Bool) : Str := if old then "old" else "new"
def TestAt (H : Hp) : V → TestD → Prop
  | v, .was k => ∃ p, v = .ref p ∧ H p = some (.tup [.str "was", .str k])
  | v, .cut o n => ∃ p, v = .ref p ∧ H p = some (.tup [.str (belowS o), .int n])
  | v, .moved => ∃ p, v = .ref p ∧ H p = some (.tup [.str "moved"])
  | v, .noted => ∃ p, v = .ref p ∧ H p = some (.tup [.str "noted"])
  | v, .not t => ∃ p u, v = .ref p ∧ H p = some (.tup [.str "not", u]) ∧ TestAt H u t
theorem TestAt.kp {H H' : Hp} (s : TupKp H H') : ∀ {t : TestD} {v : V}, TestAt H v t → TestAt H' v t
  | .was _, _, ⟨p, e, h⟩ => ⟨p, e, s _ _ h⟩
  | .cut _ _, _, ⟨p, e, h⟩ => ⟨p, e, s _ _ h⟩
  | .moved, _, ⟨p, e, h⟩ => ⟨p, e, s _ _ h⟩
  | .noted, _, ⟨p, e, h⟩ => ⟨p, e, s _ _ h⟩
  | .not t, _, ⟨p, u, e, h, r⟩ => ⟨p, u, e, s _ _ h, TestAt.kp s r⟩
mutual
def RowAt (H : Hp) : RowD → V → Prop
  | .ife t a b, v => ∃ p u x y xs ys, v = .ref p ∧ H p = some (.tup [.str "if", u, .ref x, .ref y]) ∧ TestAt H u t ∧ H x = some (.tup xs) ∧ RowL H a xs ∧ H y = some (.tup ys) ∧ RowL H b ys
  | .add f w t pl, v => ∃ p, v = .ref p ∧ H p = some (.tup [.str "add", .int f, .str w, .str t, .str pl])
  | .put n w, v => ∃ p, v = .ref p ∧ H p = some (.tup [.str "put", .str n, .str w])
  | .mark pl, v => ∃ p, v = .ref p ∧ H p = some (.tup [.str "mark", .str pl])
def RowL (H : Hp) : List RowD → List V → Prop
  | [], xs => xs = []
  | r :: rs, xs => ∃ v vs, xs = v :: vs ∧ RowAt H r v ∧ RowL H rs vs
end
mutual
theorem RowAt.kp {H H' : Hp} (s : TupKp H H') : ∀ {r : RowD} {v : V}, RowAt H r v → RowAt H' r v
  | .ife _ _ _, _, h => by
    unfold RowAt at h ⊢
    obtain ⟨p, u, x, y, xs, ys, e, h1, t, h2, r2, h3, r3⟩ := h
    exact ⟨p, u, x, y, xs, ys, e, s _ _ h1, t.kp s, s _ _ h2, RowL.kp s r2, s _ _ h3, RowL.kp s r3⟩
  | .add _ _ _ _, _, h => by unfold RowAt at h ⊢; obtain ⟨p, e, h⟩ := h; exact ⟨p, e, s _ _ h⟩
  | .put _ _, _, h => by unfold RowAt at h ⊢; obtain ⟨p, e, h⟩ := h; exact ⟨p, e, s _ _ h⟩
  | .mark _, _, h => by unfold RowAt at h ⊢; obtain ⟨p, e, h⟩ := h; exact ⟨p, e, s _ _ h⟩
theorem RowL.kp {H H' : Hp} (s : TupKp H H') : ∀ {rs : List RowD} {xs : List V}, RowL H rs xs → RowL H' rs xs
  | [], _, h => by unfold RowL at h ⊢; exact h
  | _ :: _, _, h => by
    unfold RowL at h ⊢
    obtain ⟨v, vs, e, h1, h2⟩ := h
    exact ⟨v, vs, e, RowAt.kp s h1, RowL.kp s h2⟩
end
theorem RowL.app {H : Hp} : ∀ {rs : List RowD} {xs : List V} {r : RowD} {v : V}, RowL H rs xs → RowAt H r v → RowL H (rs ++ [r]) (xs ++ [v])
  | [], xs, r, v, h, g => by
    unfold RowL at h
    subst h
    show RowL H [r] [v]
    unfold RowL
    exact ⟨v, [], rfl, g, by unfold RowL; rfl⟩
  | r0 :: rs, xs, r, v, h, g => by
    unfold RowL at h
    obtain ⟨v0, vs, rfl, h1, h2⟩ := h
    show RowL H (r0 :: (rs ++ [r])) (v0 :: (vs ++ [v]))
    unfold RowL
    exact ⟨v0, _, rfl, h1, RowL.app h2 g⟩
theorem RowL.len {H : Hp} : ∀ {rs : List RowD} {xs : List V}, RowL H rs xs → xs.length = rs.length
  | [], _, h => by unfold RowL at h; subst h; rfl
  | _ :: _, _, h => by
    unfold RowL at h
    obtain ⟨v, vs, rfl, _, h2⟩ := h
    rw [List.length_cons, List.length_cons, RowL.len h2]
/-- an event: the origins are a list of their own -/
def EventAt (H : Hp) (v : V) (e : EventD) : Prop := ∃ p o, v = .ref p ∧ H p = some (.tup [.str e.name, .ref o, .str e.kind, .bl e.amount, .bl e.group]) ∧ H o = some (.lst (e.origins.map V.str))
def optV : Option Int → V
  | some n => .int n
  | none => .non
def WorthAt (H : Hp) (v : V) (e : WorthD) : Prop := ∃ p, v = .ref p ∧ H p = some (.tup [.str e.total, .str e.kind, .int e.factor, .str e.what, optV e.least, optV e.below])
def HandlerAt (H : Hp) (v : V) (e : Str × List RowD) : Prop := ∃ p x xs, v = .ref p ∧ H p = some (.tup [.str e.1, .ref x]) ∧ H x = some (.tup xs) ∧ RowL H e.2 xs
/-! ### what stays but for some addresses -/
def KpE (ex : Addr → Prop) (H H' : Hp) : Prop := ∀ a o, ¬ ex a → H a = some o → H' a = some o
theorem KpE.refl (ex : Addr → Prop) (H : Hp) : KpE ex H H := fun _ _ _ h => h
theorem KpE.trans {ex : Addr → Prop} {H H1 H2 : Hp} (s : KpE ex H H1) (t : KpE ex H1 H2) : KpE ex H H2 := fun a o n h => t a o n (s a o n h)
theorem KpE.of {ex : Addr → Prop} {H H' : Hp} (s : Same H H') : KpE ex H H' := fun a o _ h => s a o h
theorem KpE.mono {ex ex' : Addr → Prop} {H H' : Hp} (m : ∀ a, ex a → ex' a) (s : KpE ex H H') : KpE ex' H H' := fun a o n h => s a o (fun z => n (m a z)) h
theorem KpE.but {ex : Addr → Prop} {b : Addr} {H H' : Hp} (m : ex b) (s : But b H H') : KpE ex H H' := fun a o n h => s a o (fun z => n (by rw [z]; exact m)) h
/-- a list in the dict at d -/
def InD (H : Hp) (ex : Addr → Prop) (kvs : List (Key × V)) (k : Str) (xs : List V) : Prop := ∃ r, valV kvs (.inr k) = some (.ref r) ∧ ¬ ex r ∧ H r = some (.lst xs)
theorem InD.kp {H H' : Hp} {ex : Addr → Prop} {kvs : List (Key × V)} {k : Str} {xs : List V} (s : KpE ex H H') (h : InD H ex kvs k xs) : InD H' ex kvs k xs := by
  obtain ⟨r, e, n, q⟩ := h
  exact ⟨r, e, n, s _ _ n q⟩
theorem InD.mono {H : Hp} {ex ex' : Addr → Prop} {kvs : List (Key × V)} {k : Str} {xs : List V} (m : ∀ a, ex' a → ex a) (h : InD H ex kvs k xs) : InD H ex' kvs k xs := by
  obtain ⟨r, e, n, q⟩ := h
  exact ⟨r, e, fun z => n (m r z), q⟩
theorem InD.get {H : Hp} {ex : Addr → Prop} {d : Addr} {kvs : List (Key × V)} {k : Str} {xs : List V} (h : InD H ex kvs k xs) (e : H d = some (.dK kvs)) : ∃ r, DGet H d (.str k) (some (.ref r)) ∧ ¬ ex r ∧ H r = some (.lst xs) := by
  obtain ⟨r, q, n, l⟩ := h
  exact ⟨r, by rw [← q]; exact DGet.k (k := .inr k) e, n, l⟩
/-- a book whose lists of names and numbers stand -/
structure BkAt (H : Hp) (ex : Addr → Prop) (d : Addr) (B : BookD) (kvs : List (Key × V)) : Prop where
  at' : H d = some (.dK kvs)
  out : ¬ ex d
  rests : InD H ex kvs "rests" (B.rests.map V.str)
  passes : InD H ex kvs "passes" (B.passes.map V.str)
  told : InD H ex kvs "told" (B.told.map V.int)
  totals : InD H ex kvs "totals" (B.totals.map V.str)
  notes : InD H ex kvs "notes" (B.notes.map V.str)
theorem BkAt.kp {H H' : Hp} {ex : Addr → Prop} {d : Addr} {B : BookD} {kvs : List (Key × V)} (s : KpE ex H H') (h : BkAt H ex d B kvs) : BkAt H' ex d B kvs :=
  ⟨s _ _ h.out h.at', h.out, h.rests.kp s, h.passes.kp s, h.told.kp s, h.totals.kp s, h.notes.kp s⟩
theorem BkAt.mono {H : Hp} {ex ex' : Addr → Prop} {d : Addr} {B : BookD} {kvs : List (Key × V)} (m : ∀ a, ex' a → ex a) (h : BkAt H ex d B kvs) : BkAt H ex' d B kvs :=
  ⟨h.at', fun z => h.out (m d z), h.rests.mono m, h.passes.mono m, h.told.mono m, h.totals.mono m, h.notes.mono m⟩
/-- what is drawn of a book's names and numbers -/
structure BkOk (B : BookD) : Prop where
  names : ((B.rests ++ B.passes) ++ (B.totals ++ B.notes)).length ≤ 100
  told0 : B.told ≠ []
  told1 : B.told.length ≤ 100
  rests0 : B.rests ≠ []
  totals0 : B.totals ≠ []
  kinds : ∀ s ∈ B.rests ++ B.passes, nameB s = true
  toks : ∀ s ∈ B.totals ++ B.notes, nameB s = true
  kindsNd : (B.rests ++ B.passes).Nodup
  nums : ∀ n ∈ B.told, -999999 ≤ n ∧ n ≤ 999999
def okTest (B : BookD) : TestD → Prop
  | .was k => k ∈ B.rests ++ B.passes ++ [("none" : Str)]
  | .cut _ n => n ∈ B.told
  | .not t => okTest B t
  | _ => True
def tdep : TestD → Nat
  | .not t => tdep t + 1
  | _ => 0
def whatL : List Str := ["old", "new", "one", "old", "new"]
def amtL : List Str := ["old", "new", "one"]
def plcL : List Str := ["old", "new", "noted"]
def mrkL : List Str := ["old", "new", "none"]
def okWhat (B : BookD) (w : Str) : Prop := w ∈ amtL ∨ w ∈ B.notes
mutual
def okRow (B : BookD) : RowD → Nat → Prop
  | .ife t a b, k => ∃ k', k = k' + 1 ∧ okTest B t ∧ tdep t ≤ 2 ∧ a.length ≤ 3 ∧ b.length ≤ 3 ∧ okRowL B a k' ∧ okRowL B b k'
  | .add f w t p, _ => -999 ≤ f ∧ f ≤ 999 ∧ okWhat B w ∧ t ∈ B.totals ∧ p ∈ plcL
  | .put n w, _ => n ∈ B.notes ∧ okWhat B w
  | .mark p, _ => p ∈ mrkL
def okRowL (B : BookD) : List RowD → Nat → Prop
  | [], _ => True
  | r :: rs, k => okRow B r k ∧ okRowL B rs k
end
theorem okRowL.app {B : BookD} {k : Nat} : ∀ {rs : List RowD} {r : RowD}, okRowL B rs k → okRow B r k → okRowL B (rs ++ [r]) k
  | [], _, _, g => by show okRowL B [_] k; unfold okRowL; exact ⟨g, by unfold okRowL; trivial⟩
  | r0 :: rs, r, h, g => by
    unfold okRowL at h
    show okRowL B (r0 :: (rs ++ [r])) k
    unfold okRowL
    exact ⟨h.1, okRowL.app h.2 g⟩
theorem okWhat_of {B : BookD} {s : Str} (h : s ∈ whatL ++ B.notes) : okWhat B s := by
  rcases List.mem_append.mp h with hs | hs
  · left
    have all : whatL.all (fun s => decide (s ∈ amtL)) = true := by decide +kernel
    exact of_decide_eq_true (List.all_eq_true.mp all s hs)
  · exact .inr hs
def okEvent (B : BookD) (e : EventD) : Prop := nameB e.name = true ∧ ((e.origins = [("none" : Str)] ∧ e.kind ∈ B.rests ++ B.passes ∧ e.amount = true ∧ e.group = true) ∨
  (e.origins ≠ [] ∧ e.origins.Nodup ∧ (∀ s ∈ e.origins, s ∈ B.rests ++ B.passes) ∧ ((e.kind = ("none" : Str) ∧ e.amount = false ∧ e.group = false) ∨ e.kind ∈ B.rests ++ B.passes)))
def wfacL : List Int := [1, 1, -1, 2, 0]
def wwhatL : List Str := ["amount", "amount", "one"]
def okWorth (B : BookD) (e : WorthD) : Prop := e.total ∈ B.totals ∧ e.kind ∈ B.rests ∧ e.factor ∈ wfacL ∧ e.what ∈ wwhatL ∧ (∀ n, e.least = some n → n ∈ B.told) ∧ (∀ n, e.below = some n → n ∈ B.told) ∧ ∀ n m, e.least = some n → e.below = some m → n < m
theorem tup_but {b : Addr} {H H' : Hp} (hb : Box H b) (u : But b H H') : TupKp H H' := fun a xs e => u a _ (fun z => by obtain ⟨x, y, w, q⟩ := hb; rw [z, q] at e; cases e) e
theorem InD.updD {H : Hp} {ex : Addr → Prop} {d : Addr} {l kvs : List (Key × V)} {k : Str} {xs : List V} {o : HO} (hd : H d = some (.dK l)) (h : InD H ex kvs k xs) : InD (upd H d o) ex kvs k xs := by
  obtain ⟨r, e, n, q⟩ := h
  exact ⟨r, e, n, by rw [upd_ne (ne_of q hd fun z => nomatch z)]; exact q⟩
theorem InD.put {H : Hp} {ex : Addr → Prop} {kvs : List (Key × V)} {k k' : Str} {xs : List V} {v : V} (n : k ≠ k') (h : InD H ex kvs k xs) : InD H ex (putK kvs (.inr k') v) k xs := by
  obtain ⟨r, e, m, q⟩ := h
  refine ⟨r, ?_, m, q⟩
  rw [valV_put, if_neg (fun z => n (by injection z))]
  exact e
theorem InD.new {H : Hp} {ex : Addr → Prop} {kvs : List (Key × V)} {k : Str} {xs : List V} {r : Addr} (n : ¬ ex r) (q : H r = some (.lst xs)) : InD H ex (putK kvs (.inr k) (.ref r)) k xs :=
  ⟨r, by rw [valV_put, if_pos rfl], n, q⟩
theorem InD.exN {H : Hp} {ex : Addr → Prop} {kvs : List (Key × V)} {k : Str} {xs : List V} {c : Addr} (hc : H c = none) (h : InD H ex kvs k xs) : InD H (fun a => ex a ∨ a = c) kvs k xs := by
  obtain ⟨r, e, n, q⟩ := h
  exact ⟨r, e, (fun z => Or.elim z n (fun z => by rw [z, hc] at q; cases q)), q⟩
/-- an event whose list of origins none writes -/
def EventE (H : Hp) (ex : Addr → Prop) (v : V) (e : EventD) : Prop := ∃ p o, v = .ref p ∧ H p = some (.tup [.str e.name, .ref o, .str e.kind, .bl e.amount, .bl e.group]) ∧ ¬ ex o ∧ H o = some (.lst (e.origins.map V.str))
theorem EventE.kp {H H' : Hp} {ex : Addr → Prop} {v : V} {e : EventD} (t : TupKp H H') (s : KpE ex H H') (h : EventE H ex v e) : EventE H' ex v e := by
  obtain ⟨p, o, e1, h1, n, h2⟩ := h
  exact ⟨p, o, e1, t _ _ h1, n, s _ _ n h2⟩
theorem EventE.mono {H : Hp} {ex ex' : Addr → Prop} {v : V} {e : EventD} (m : ∀ a, ex' a → ex a) (h : EventE H ex v e) : EventE H ex' v e := by
  obtain ⟨p, o, e1, h1, n, h2⟩ := h
  exact ⟨p, o, e1, h1, fun z => n (m o z), h2⟩
theorem EventE.exN {H : Hp} {ex : Addr → Prop} {v : V} {e : EventD} {c : Addr} (hc : H c = none) (h : EventE H ex v e) : EventE H (fun a => ex a ∨ a = c) v e := by
  obtain ⟨p, o, e1, h1, n, h2⟩ := h
  exact ⟨p, o, e1, h1, (fun z => Or.elim z n (fun z => by rw [z, hc] at h2; cases h2)), h2⟩
theorem EventE.updD {H : Hp} {ex : Addr → Prop} {v : V} {e : EventD} {d : Addr} {l : List (Key × V)} {u : HO} (hd : H d = some (.dK l)) (h : EventE H ex v e) : EventE (upd H d u) ex v e := by
  obtain ⟨p, o, e1, h1, n, h2⟩ := h
  exact ⟨p, o, e1, by rw [upd_ne (ne_of h1 hd fun z => nomatch z)]; exact h1, n, by rw [upd_ne (ne_of h2 hd fun z => nomatch z)]; exact h2⟩
theorem WorthAt.kp {H H' : Hp} {v : V} {e : WorthD} (t : TupKp H H') (h : WorthAt H v e) : WorthAt H' v e := by
  obtain ⟨p, e1, h1⟩ := h
  exact ⟨p, e1, t _ _ h1⟩
theorem HandlerAt.kp {H H' : Hp} {v : V} {e : Str × List RowD} (t : TupKp H H') (h : HandlerAt H v e) : HandlerAt H' v e := by
  obtain ⟨p, x, xs, e1, h1, h2, h3⟩ := h
  exact ⟨p, x, xs, e1, t _ _ h1, t _ _ h2, h3.kp t⟩
/-- a whole book -/
structure BookAt (H : Hp) (ex : Addr → Prop) (d : Addr) (B : BookD) (kvs : List (Key × V)) : Prop where
  bk : BkAt H ex d B kvs
  worths : ∃ ws, InD H ex kvs "worths" ws ∧ Paired (WorthAt H) ws B.worths
  events : ∃ ws, InD H ex kvs "events" ws ∧ Paired (EventE H ex) ws B.events
  handlers : ∃ ws, InD H ex kvs "handlers" ws ∧ Paired (HandlerAt H) ws B.handlers
structure BookOk (B : BookD) : Prop where
  bk : BkOk B
  names : ((B.rests ++ B.passes) ++ (B.totals ++ (B.notes ++ B.events.map (·.name)))).Nodup
  worths : (∀ e ∈ B.worths, okWorth B e) ∧ B.worths.length ≤ 100
  events : (∀ e ∈ B.events, okEvent B e) ∧ B.events ≠ [] ∧ B.events.length ≤ 6
  handlers : (∀ e ∈ B.handlers, e.1 ∈ B.events.map (·.name) ∧ okRowL B e.2 3 ∧ e.2.length ≤ 3) ∧ (B.handlers.map (·.1)).Nodup
/-- the sizes of a book -/
structure SizesOk (ss : List V) (s0 s1 s2 s3 s4 s5 s6 s7 : Int) : Prop where
  eq : ss = [.int s0, .int s1, .int s2, .int s3, .int s4, .int s5, .int s6, .int s7]
  b0 : 1 ≤ s0 ∧ s0 ≤ 4
  b1 : 1 ≤ s1 ∧ s1 ≤ 2
  b2 : 0 ≤ s2 ∧ s2 ≤ 2
  b3 : 0 ≤ s3 ∧ s3 ≤ 50
  b4 : 1 ≤ s4 ∧ s4 ≤ 6
  b7 : 1 ≤ s7 ∧ s7 ≤ 50
/-- the same names and numbers -/
structure SameB (B B' : BookD) : Prop where
  rests : B.rests = B'.rests
  passes : B.passes = B'.passes
  told : B.told = B'.told
  totals : B.totals = B'.totals
  notes : B.notes = B'.notes
theorem okTest.cong {B B' : BookD} (s : SameB B B') : ∀ {t : TestD}, okTest B t → okTest B' t
  | .was k, h => by unfold okTest at h ⊢; rw [← s.rests, ← s.passes]; exact h
  | .cut _ n, h => by unfold okTest at h ⊢; rw [← s.told]; exact h
  | .moved, h => trivial
  | .noted, h => trivial
  | .not t, h => by unfold okTest at h ⊢; exact okTest.cong s h
theorem okWhat.cong {B B' : BookD} (s : SameB B B') {w : Str} (h : okWhat B w) : okWhat B' w := by unfold okWhat at h ⊢; rw [← s.notes]; exact h
mutual
theorem okRow.cong {B B' : BookD} (s : SameB B B') : ∀ {r : RowD} {k : Nat}, okRow B r k → okRow B' r k
  | .ife _ _ _, _, h => by
    unfold okRow at h ⊢
    obtain ⟨k', e, h1, h2, h3, h4, h5, h6⟩ := h
    exact ⟨k', e, h1.cong s, h2, h3, h4, okRowL.cong s h5, okRowL.cong s h6⟩
  | .add _ _ _ _, _, h => by unfold okRow at h ⊢; rw [← s.totals]; exact ⟨h.1, h.2.1, h.2.2.1.cong s, h.2.2.2⟩
  | .put _ _, _, h => by unfold okRow at h ⊢; rw [← s.notes]; exact ⟨h.1, h.2.cong s⟩
  | .mark _, _, h => by unfold okRow at h ⊢; exact h
theorem okRowL.cong {B B' : BookD} (s : SameB B B') : ∀ {rs : List RowD} {k : Nat}, okRowL B rs k → okRowL B' rs k
  | [], _, _ => by unfold okRowL; trivial
  | _ :: _, _, h => by unfold okRowL at h ⊢; exact ⟨okRow.cong s h.1, okRowL.cong s h.2⟩
end
end K14

set_option pp.maxSteps 600
namespace K14
open PySem L2 PySem.Spec PyProof.Rows
theorem cons_go {te : TE} {tr : TA} {σ : L2.St} {H : Hp} {Q : List V → Hp → Prop} (h : te σ H fun x H1 => tr σ H1 fun xs H2 => Q (x :: xs) H2) : tCons te tr σ H Q := h
theorem c_go {v : V} {σ : L2.St} {H : Hp} {Q : VK} (h : Q v H) : tC v σ H Q := h
theorem seq_asg {te : TE} {g : TG} {u : TS} {D : Ends} {σ : L2.St} {H : Hp} (h : te σ H fun x H1 => g x σ H1 fun σ2 H2 => u D σ2 H2) : tSeq (tAsg te g) u D σ H := h
theorem name_go {i : Nat} {v : V} {σ : L2.St} {H : Hp} {Q : L2.St → Hp → Prop} (h : Q (σ.set i (some v)) H) : gName i v σ H Q := h
theorem bl_go {i : Nat} {c : Bool} {σ : L2.St} {H : Hp} {Q : L2.St → Hp → Prop} (h : ∀ g : Bool, Q (σ.set i (some (.bl g))) H) : gName i (.bl c) σ H Q := h c
theorem ret_go {te : TE} {D : Ends} {σ : L2.St} {H : Hp} (h : te σ H D.rt) : tRet te D σ H := h
theorem tup_go {ta : TA} {σ : L2.St} {H : Hp} {Q : VK} (h : ta σ H fun vs H1 => vs.length ≤ sizeLine ∧ ∀ p, H1 p = none → Q (.ref p) (upd H1 p (.tup vs))) : tTup ta σ H Q := h
theorem cutN {xs : List V} {n : Nat} (h : n ≤ xs.length) : cutV xs none (some (n : Int)) = xs.take n := by
  unfold cutV
  rw [show HT.sIx xs.length xs.length (some (n : Int)) = n from by rw [HT.sIx_nat, Nat.min_eq_left h]]
  rfl
theorem back {H H' : Hp} (s : Same H H') {d : Addr} (h : H' d = none) : H d = none := by
  cases e : H d with
  | none => rfl
  | some o => rw [s _ _ e] at h; cases h
theorem Box.ne {H : Hp} {b : Addr} (h : Box H b) : H b ≠ none := by obtain ⟨x, y, z, e⟩ := h; rw [e]; exact fun z => nomatch z
theorem But.kp {b : Addr} {H H' : Hp} (s : But b H H') : Kp b H H' := fun a o n h _ => s a o n h
theorem lst_go {ta : TA} {xs : List V} {σ : L2.St} {H : Hp} {Q : VK} (e : ∀ Q : List V → Hp → Prop, Q xs H → ta σ H Q) (l : xs.length ≤ 1000) (q : ∀ (H' : Hp) (p : Addr), Same H H' → H p = none → H' p = some (.lst xs) → Q (.ref p) H') : tLst ta σ H Q := e _ ⟨le_line l, fun p hp => q _ p (new_at hp).1 hp (new_at hp).2⟩
theorem tupc_go {ta : TA} {xs : List V} {σ : L2.St} {H : Hp} {Q : VK} (e : ∀ Q : List V → Hp → Prop, Q xs H → ta σ H Q) (l : xs.length ≤ 1000) (q : ∀ (H' : Hp) (p : Addr), Same H H' → H p = none → H' p = some (.tup xs) → Q (.ref p) H') : tTup ta σ H Q := e _ ⟨le_line l, fun p hp => q _ p (new_at hp).1 hp (new_at hp).2⟩
theorem seq_par {i j : Nat} {ta : TA} {u : TS} {D : Ends} {σ : L2.St} {H : Hp} (h : ta σ H fun vs H1 => ∃ v w, vs = [v, w] ∧ u D ((σ.set i (some v)).set j (some w)) H1) : tSeq (tPar i j ta) u D σ H := h
theorem op_go {r : R2} {ta tb : TE} {σ : L2.St} {H : Hp} {Q : VK} (h : ta σ H fun x H1 => tb σ H1 fun y H2 => r x y H2 Q) : tOp r ta tb σ H Q := h
theorem next_go {D : Ends} {σ : L2.St} {H : Hp} (h : D.nx σ H) : tNext D σ H := h
theorem lstA_go {ta : TA} {σ : L2.St} {H : Hp} {Q : VK} (h : ta σ H fun vs H1 => vs.length ≤ sizeLine ∧ ∀ p, H1 p = none → Q (.ref p) (upd H1 p (.lst vs))) : tLst ta σ H Q := h
theorem asg_go {te : TE} {g : TG} {D : Ends} {σ : L2.St} {H : Hp} (h : te σ H fun x H1 => g x σ H1 fun σ2 H2 => D.nx σ2 H2) : tAsg te g D σ H := h
theorem nil_go {σ : L2.St} {H : Hp} {Q : List V → Hp → Prop} (h : Q [] H) : tNil σ H Q := h
theorem rng_go {ta : TA} {g : TG} {tb u : TS} {D : Ends} {σ : L2.St} {H : Hp} (h : ta σ H fun vs H1 => tSeq (tFor (iRng1 (fun _ H' Q => Q vs H')) g tb) u D σ H1) : tSeq (tFor (iRng1 ta) g tb) u D σ H := h
theorem and_go {ta tb : TT} {c1 c2 : Bool} {σ : L2.St} {H : Hp} {Q : Bool → Hp → Prop} (ha : ∀ Q : Bool → Hp → Prop, Q c1 H → ta σ H Q) (hb : ∀ Q : Bool → Hp → Prop, Q c2 H → tb σ H Q) (h : Q (c1 && c2) H) : tAnd ta tb σ H Q := ha _ (by
  cases c1 with
  | true => exact iteSe rfl (hb _ h)
  | false => exact iteSf rfl h)
theorem ifS_go {tt : TT} {t u : TS} {c : Bool} {D : Ends} {σ : L2.St} {H : Hp} (ht : ∀ Q : Bool → Hp → Prop, Q c H → tt σ H Q) (h1 : c = true → t D σ H) (h0 : c = false → u D σ H) : tIfS tt t u D σ H := ht _ (by
  cases c with
  | true => exact iteSe rfl (h1 rfl)
  | false => exact iteSf rfl (h0 rfl))
theorem seq_go {t u : TS} {D : Ends} {σ : L2.St} {H : Hp} (h : t { D with nx := u D } σ H) : tSeq t u D σ H := h
theorem perm_out {α : Type} : ∀ {xs : List α} {k : Nat} (h : k < xs.length), ([xs[k]] ++ xs.eraseIdx k).Perm xs
  | x :: xs, 0, _ => List.Perm.refl _
  | x :: xs, k + 1, h => by
    have ih := perm_out (xs := xs) (k := k) (by simpa using h)
    exact (List.Perm.swap _ _ _).trans (List.Perm.cons x ih)
section
variable {P : Program} {w : World} {K : PySem.W.Frag} {mg : Str → Option Value} {base : Heap}
abbrev s_law_pick : Stmt := top 38
abbrev n_law_pick : List Str := ["_law_box_here", "_law_items"]
theorem sc_law_pick : FnScope n_law_pick ["_law_box_here", "_law_items"] (defScope s_law_pick) := ⟨rfl, rfl, rfl, by decide +kernel, rfl, by decide +kernel, by decide +kernel⟩
def spPick : Sp := fun vs H Q _ => ∃ (b l : Addr) (as : List V), vs = [.ref b, .ref l] ∧ Box H b ∧ H l = some (.lst as) ∧ l ≠ b ∧ 0 < as.length ∧ as.length ≤ 1000 ∧ ∀ (i : Nat) (v : V) (x y z : Int), as[i]? = some v → Q v (upd H b (.lst [.int x, .int y, .int z]))
/-- one sign of a text -/
def spPickS : Sp := fun vs H Q _ => ∃ (b : Addr) (s : Str), vs = [.ref b, .str s] ∧ Box H b ∧ 0 < s.length ∧ s.length ≤ 1000 ∧ ∀ (i : Nat) (c : Nat) (x y z : Int), s.cps[i]? = some c → Q (.str ⟨#[c]⟩) (upd H b (.lst [.int x, .int y, .int z]))
theorem ok_pick (T : Txt mg) (g_law_take : Has P w K mg base 1 "_law_take" ["_law_box_here", "_law_many"] spTake) (F : DefAt K mg "_law_pick" s_law_pick ["_law_box_here", "_law_items"]) : Has P w K mg base 2 "_law_pick" ["_law_box_here", "_law_items"] spPick := by
  refine F.has sc_law_pick (fun vs H Q E h => ?_) (fun f cdv A outer s H vs Q E hr h => ?_)
  · obtain ⟨b, l, as, rfl, _⟩ := h
    rfl
  · obtain ⟨b, l, as, rfl, hb, hl, nb, l0, l1, k⟩ := h
    refine ⟨_, (pss_one (ps_ret (pe_ix ix_seq (pv 1) (pe_callHas g_law_take (hr.mono (by decide)) rfl (pa_cons (pv 0) (pa_cons (pe_callB call_len (by rfl) T.z_len (by decide +kernel) (pa_cons (pv 1) pa_nil)) pa_nil))) (fun _ _ => rfl)))), ?_⟩
    refine ⟨_, rfl, _, rfl, _, rfl, _, _, rfl, .inl ⟨as, SqL.of hl, rfl⟩, b, (as.length : Int), rfl, hb, by omega, by omega, fun d x y z d0 d1 => ?_⟩
    obtain ⟨i, rfl⟩ : ∃ i : Nat, d = ((i : Nat) : Int) := ⟨d.toNat, by omega⟩
    have hi : i < as.length := by omega
    have e := List.getElem?_eq_getElem hi
    refine .inl ⟨l, as, _, _, rfl, rfl, SqL.of (by rw [upd_ne nb]; exact hl), atI_nat e, ?_⟩
    exact k i _ x y z e
theorem ok_pickS (T : Txt mg) (g_law_take : Has P w K mg base 1 "_law_take" ["_law_box_here", "_law_many"] spTake) (F : DefAt K mg "_law_pick" s_law_pick ["_law_box_here", "_law_items"]) : Has P w K mg base 2 "_law_pick" ["_law_box_here", "_law_items"] spPickS := by
  refine F.has sc_law_pick (fun vs H Q E h => ?_) (fun f cdv A outer s H vs Q E hr h => ?_)
  · obtain ⟨b, z, rfl, _⟩ := h
    rfl
  · obtain ⟨b, z, rfl, hb, l0, l1, k⟩ := h
    refine ⟨_, (pss_one (ps_ret (pe_ix ix_seq (pv 1) (pe_callHas g_law_take (hr.mono (by decide)) rfl (pa_cons (pv 0) (pa_cons (pe_callB call_len (by rfl) T.z_len (by decide +kernel) (pa_cons (pv 1) pa_nil)) pa_nil))) (fun _ _ => rfl)))), ?_⟩
    refine ⟨_, rfl, _, rfl, _, rfl, _, _, rfl, ⟨le_line l1, rfl⟩, b, (z.length : Int), rfl, hb, by omega, by omega, fun d x y w d0 d1 => ?_⟩
    obtain ⟨i, rfl⟩ : ∃ i : Nat, d = ((i : Nat) : Int) := ⟨d.toNat, by omega⟩
    have hi : i < z.cps.size := by have : i < z.length := by omega
                                   exact this
    have e : z.cps[i]? = some z.cps[i] := Array.getElem?_eq_getElem hi
    exact .inr (.inr ⟨z, _, z.cps[i], rfl, rfl, le_line l1, atI_nat (by rw [Array.getElem?_toList]; exact e), k i _ x y w e⟩)
abbrev s_law_mixed : Stmt := top 39
abbrev n_law_mixed : List Str := ["_law_box_here", "_law_items", "_law_left", "_law_found", "_law_turn"]
theorem sc_law_mixed : FnScope n_law_mixed ["_law_box_here", "_law_items"] (defScope s_law_mixed) := ⟨rfl, rfl, rfl, by decide +kernel, rfl, by decide +kernel, by decide +kernel⟩
/-- the items in another order, a new list -/
def spMixed : Sp := fun vs H Q _ => ∃ (b l : Addr) (as : List V), vs = [.ref b, .ref l] ∧ Box H b ∧ H l = some (.lst as) ∧ l ≠ b ∧ as.length ≤ 1000 ∧ ∀ (H' : Hp) (q : Addr) (bs : List V), But b H H' → Box H' b → q ≠ b → H q = none → H' q = some (.lst bs) → bs.Perm as → Q (.ref q) H'
theorem ok_mixed (T : Txt mg) (g_law_take : Has P w K mg base 1 "_law_take" ["_law_box_here", "_law_many"] spTake) (F : DefAt K mg "_law_mixed" s_law_mixed ["_law_box_here", "_law_items"]) : Has P w K mg base 2 "_law_mixed" ["_law_box_here", "_law_items"] spMixed := by
  refine F.has sc_law_mixed (fun vs H Q E h => ?_) (fun f cdv A outer s H vs Q E hr h => ?_)
  · obtain ⟨b, l, as, rfl, _⟩ := h
    rfl
  · obtain ⟨b, l, as, rfl, hb, hl, nb, l1, k⟩ := h
    refine ⟨_, (pss_cons (ps_par (i := 2) (j := 3) (by rfl) sc_law_mixed.nd rfl rfl (by decide) rfl rfl (pa_cons (pe_callTy call_list_of (by rfl) T.z_list (by decide +kernel) (pa_cons (pv 1) pa_nil)) (pa_cons (pe_lst pa_nil) pa_nil)) (by rfl))
      (pss_cons (ps_for PassesOwn.never rfl (pi_range1 rfl T.z_range (pa_cons (pe_callB call_len (by rfl) T.z_len (by decide +kernel) (pa_cons (pv 2) pa_nil)) pa_nil)) (pg_name (i := 4) sc_law_mixed.nd rfl (Or.inl rfl)) (pss_one (ps_expr (pe_bm PySem.F.plainAttrs_list PySem.F.slot_list_append PySem.F.type_list_append mt_append (pv 3) (pa_cons (pe_bm PySem.F.plainAttrs_list PySem.F.slot_list_pop PySem.F.type_list_pop mt_popAt (pv 2) (pa_cons (pe_callHas g_law_take (hr.mono (by decide)) rfl (pa_cons (pv 0) (pa_cons (pe_callB call_len (by rfl) T.z_len (by decide +kernel) (pa_cons (pv 2) pa_nil)) pa_nil))) pa_nil)) pa_nil)))))
      (pss_one (ps_ret (pv 3))))), ?_⟩
    refine ⟨_, rfl, l, as, rfl, .inl (SqL.of hl), fun p hp => ?_⟩
    obtain ⟨s1, h1⟩ := new_at (o := .lst as) hp
    refine ⟨Nat.zero_le _, fun q hq => ?_⟩
    obtain ⟨s2, h2⟩ := new_at (o := .lst []) hq
    have hq0 : H q = none := by
      cases e : H q with
      | none => rfl
      | some o => rw [s1 _ _ e] at hq; cases hq
    have nqp : q ≠ p := fun z => by rw [z, h1] at hq; cases hq
    have bne : H b ≠ none := by obtain ⟨x, y, z, e⟩ := hb; rw [e]; exact fun z => nomatch z
    have npb : p ≠ b := new_ne bne hp
    have nqb : q ≠ b := new_ne bne hq0
    refine ⟨_, _, rfl, ?_⟩
    try dsimp only
    refine ⟨_, rfl, _, _, rfl, .inl ⟨as, SqL.of (s2 _ _ h1), rfl⟩, (as.length : Int), rfl, by omega, by omega, for_range (lo := 0) (n := as.length) (fun i σ H' => But b H H' ∧ Box H' b ∧ ∃ ls fs x4, σ = [some (.ref b), some (.ref l), some (.ref p), some (.ref q), x4] ∧ H' p = some (.lst ls) ∧ H' q = some (.lst fs) ∧ ls.length + i = as.length ∧ (fs ++ ls).Perm as)
      ⟨Same.but (s1.trans s2), (hb.keep s1).keep s2, as, [], _, rfl, s2 _ _ h1, h2, rfl, by simp⟩ ?_ ?_⟩
    · rintro i σ H' hi ⟨u, hb', ls, fs, x4, rfl, hp', hq', ln, pm⟩
      refine ⟨_, rfl, .inl ⟨rfl, _, SqL.of hq'⟩, ?_⟩
      refine ⟨_, rfl, .inl ⟨rfl, _, SqL.of hp'⟩, ?_⟩
      refine ⟨_, rfl, _, rfl, _, _, rfl, .inl ⟨ls, SqL.of hp', rfl⟩, b, (ls.length : Int), rfl, hb', by omega, by omega, fun d x y z d0 d1 => ?_⟩
      have hp2 : upd H' b (.lst [.int x, .int y, .int z]) p = some (.lst ls) := (upd_ne npb).trans hp'
      have hq2 : upd H' b (.lst [.int x, .int y, .int z]) q = some (.lst fs) := (upd_ne nqb).trans hq'
      have u2 : But b H (upd H' b (.lst [.int x, .int y, .int z])) := u.trans But.upd'
      have b2 : Box (upd H' b (.lst [.int x, .int y, .int z])) b := Box.upd'
      generalize upd H' b (.lst [.int x, .int y, .int z]) = H2 at *
      have hd : d.toNat < ls.length := by omega
      refine ⟨p, ls, d, d.toNat, ls[d.toNat], rfl, rfl, hp2, by omega, by omega, PyProof.Rows.seqIndex_at d0 d1, List.getElem?_eq_getElem hd, ?_⟩
      refine ⟨q, fs, ls[d.toNat], rfl, rfl, (upd_ne nqp).trans hq2, ?_, ?_⟩
      · have := pm.length_eq
        rw [List.length_append] at this
        have q2 : (1000 : Nat) < sizeLine := by decide
        omega
      · refine ⟨?_, ?_, ls.eraseIdx d.toNat, fs ++ [ls[d.toNat]], _, rfl, ?_, upd_same, ?_, ?_⟩
        · intro a o na ha
          have nap : a ≠ p := ne_of_none ha hp
          have naq : a ≠ q := ne_of_none ha hq0
          exact (upd_ne naq).trans ((upd_ne nap).trans (u2 _ _ na ha))
        · obtain ⟨x, y, z, e⟩ := b2
          exact ⟨x, y, z, (upd_ne nqb.symm).trans ((upd_ne npb.symm).trans e)⟩
        · exact (upd_ne nqp.symm).trans upd_same
        · rw [List.length_eraseIdx_of_lt hd]; omega
        · rw [List.append_assoc]
          refine List.Perm.trans (List.Perm.append_left fs ?_) pm
          exact (perm_out hd)
    · rintro σ H' ⟨u, hb', ls, fs, x4, rfl, hp', hq', ln, pm⟩
      have : ls = [] := List.length_eq_zero_iff.mp (by omega)
      subst this
      rw [List.append_nil] at pm
      exact ⟨_, rfl, k H' q fs u hb' nqb hq0 hq' pm⟩
end
end K14

set_option pp.maxSteps 600
namespace K14
open PySem L2 PySem.Spec PyProof.Rows
/-! ### words of small letters -/
def Lower (s : Str) : Prop := 0 < s.length ∧ ∀ c ∈ s.cps.toList, 97 ≤ c ∧ c ≤ 122
theorem letter : ∀ c, c < 123 → 97 ≤ c → (Unicode.isAlpha c && Unicode.isLower c && !(Unicode.isUpper c || Unicode.isTitle c)) = true := by decide +kernel
theorem nameB_lower {s : Str} (h : Lower s) (l : s.length ≤ 4) (n : s ∉ noNames) : nameB s = true := by
  obtain ⟨h0, h1⟩ := h
  have k : ∀ c ∈ s.cps.toList, Unicode.isAlpha c = true ∧ Unicode.isLower c = true ∧ (Unicode.isUpper c || Unicode.isTitle c) = false := fun c hc => by
    obtain ⟨c1, c2⟩ := h1 c hc
    have := letter c (by omega) c1
    simp only [Bool.and_eq_true, Bool.not_eq_true'] at this
    exact ⟨this.1.1, this.1.2, this.2⟩
  have a1 : Txt.isascii s = true := by
    unfold Txt.isascii
    rw [← Array.all_toList, List.all_eq_true]
    intro c hc
    have := (h1 c hc).2
    exact decide_eq_true (by omega)
  have a2 : Txt.isalpha s = true := by
    unfold Txt.isalpha
    rw [← Array.all_toList, Bool.and_eq_true]
    exact ⟨decide_eq_true h0, List.all_eq_true.mpr fun c hc => (k c hc).1⟩
  have a3 : Txt.islower s = true := by
    unfold Txt.islower
    rw [← Array.any_toList, ← Array.any_toList, Bool.and_eq_true]
    refine ⟨?_, ?_⟩
    · rw [List.any_eq_true]
      have : 0 < s.cps.toList.length := by rw [Array.length_toList]; exact h0
      obtain ⟨c, hc⟩ := List.exists_mem_of_length_pos this
      exact ⟨c, hc, (k c hc).2.1⟩
    · rw [Bool.not_eq_true', List.any_eq_false]
      intro c hc
      rw [(k c hc).2.2]
      exact fun z => nomatch z
  unfold nameB
  rw [decide_eq_true l, a1, a2, a3, decide_eq_false n]
  rfl
theorem join_cps : ∀ cs : List Nat, (PySem.Str.join "" (cs.map fun c => (⟨#[c]⟩ : Str))).cps.toList = cs
  | [] => rfl
  | [c] => rfl
  | c :: d :: cs => by
    have ih := join_cps (d :: cs)
    show ((⟨#[c]⟩ : Str) ++ ("" : Str) ++ PySem.Str.join "" ((d :: cs).map fun c => (⟨#[c]⟩ : Str))).cps.toList = _
    have e : ((⟨#[c]⟩ : Str) ++ ("" : Str) ++ PySem.Str.join "" ((d :: cs).map fun c => (⟨#[c]⟩ : Str))).cps = #[c] ++ ("" : Str).cps ++ (PySem.Str.join "" ((d :: cs).map fun c => (⟨#[c]⟩ : Str))).cps := rfl
    rw [e, Array.toList_append, Array.toList_append, ih]
    rfl
theorem lower_join {cs : List Nat} (h0 : 0 < cs.length) (h1 : ∀ c ∈ cs, 97 ≤ c ∧ c ≤ 122) : Lower (Txt.join "" (cs.map fun c => (⟨#[c]⟩ : Str))) ∧ (Txt.join "" (cs.map fun c => (⟨#[c]⟩ : Str))).length = cs.length := by
  rw [show Txt.join "" (cs.map fun c => (⟨#[c]⟩ : Str)) = PySem.Str.join "" (cs.map fun c => (⟨#[c]⟩ : Str)) from PySem.StrLaws.glued_eq_join _ _]
  have e := join_cps cs
  have l : (PySem.Str.join "" (cs.map fun c => (⟨#[c]⟩ : Str))).length = cs.length := by
    show (PySem.Str.join "" (cs.map fun c => (⟨#[c]⟩ : Str))).cps.size = _
    rw [← Array.length_toList, e]
  exact ⟨⟨by rw [l]; exact h0, by rw [e]; exact h1⟩, l⟩
theorem alphabet : ∀ {i c : Nat}, ("abcdefghijklmnopqrstuvwxyz" : Str).cps[i]? = some c → 97 ≤ c ∧ c ≤ 122 := by
  intro i c h
  have m : c ∈ ("abcdefghijklmnopqrstuvwxyz" : Str).cps.toList := by
    rw [← Array.getElem?_toList] at h
    exact List.mem_of_getElem? h
  have all : ("abcdefghijklmnopqrstuvwxyz" : Str).cps.toList.all (fun c => decide (97 ≤ c) && decide (c ≤ 122)) = true := by decide +kernel
  have := List.all_eq_true.mp all c m
  simpa using this
def strV : V → Str
  | .str s => s
  | _ => ""
theorem perm_strs {bs : List V} {l : List Str} (h : bs.Perm (l.map V.str)) : ∃ ms : List Str, bs = ms.map V.str ∧ ms.Perm l := by
  refine ⟨bs.map strV, ?_, ?_⟩
  · rw [List.map_map]
    refine (List.map_id bs).symm.trans (List.map_congr_left fun v hv => ?_)
    obtain ⟨s, _, rfl⟩ := List.mem_map.mp (h.mem_iff.mp hv)
    rfl
  · have := h.map strV
    rw [List.map_map] at this
    rw [show strV ∘ V.str = id from rfl, List.map_id] at this
    exact this
theorem flat_strs : ∀ l : List Str, (l.map V.str).all flatV = true
  | [] => rfl
  | _ :: l => by rw [List.map_cons, List.all_cons, flat_strs l]; rfl
theorem sum_ones : ∀ cs : List Nat, (((cs.map fun c => (⟨#[c]⟩ : Str))).map (·.length)).sum = cs.length
  | [] => rfl
  | c :: cs => by
    have ih := sum_ones cs
    rw [List.map_cons, List.map_cons, List.sum_cons, ih, List.length_cons]
    show 1 + cs.length = cs.length + 1
    omega
def someNames : List Str := ["a", "b", "n", "up", "sum", "rest", "pass", "note", "add", "on", "end", "was", "if", "from", "zzzz", "else"]
section
variable {P : Program} {w : World} {K : PySem.W.Frag} {mg : Str → Option Value} {base : Heap}
abbrev s_law_names : Stmt := top 40
abbrev n_law_names : List Str := ["_law_box_here", "_law_many", "_law_some", "_law_found", "_law_barred", "_law_name", "_law_letters", "_law_word", "_law_turn"]
theorem sc_law_names : FnScope n_law_names ["_law_box_here", "_law_many"] (defScope s_law_names) := ⟨rfl, rfl, rfl, by decide +kernel, rfl, by decide +kernel, by decide +kernel⟩
/-- unlike names -/
def spNames : Sp := fun vs H Q _ => ∃ (b : Addr) (n : Nat), vs = [.ref b, .int n] ∧ Box H b ∧ n ≤ 16 ∧ ∀ (H' : Hp) (q : Addr) (ns : List Str), But b H H' → Box H' b → q ≠ b → H q = none → H' q = some (.lst (ns.map V.str)) → ns.length = n → ns.Nodup → (∀ s ∈ ns, nameB s = true) → Q (.ref q) H'
theorem ok_names (T : Txt mg) (g_law_take : Has P w K mg base 1 "_law_take" ["_law_box_here", "_law_many"] spTake) (g_law_pickS : Has P w K mg base 2 "_law_pick" ["_law_box_here", "_law_items"] spPickS) (g_law_mixed : Has P w K mg base 2 "_law_mixed" ["_law_box_here", "_law_items"] spMixed)
    (F : DefAt K mg "_law_names" s_law_names ["_law_box_here", "_law_many"]) : Has P w K mg base 3 "_law_names" ["_law_box_here", "_law_many"] spNames := by
  refine F.has sc_law_names (fun vs H Q E h => ?_) (fun f cdv A outer s H vs Q E hr h => ?_)
  · obtain ⟨b, n, rfl, _⟩ := h
    rfl
  · obtain ⟨b, n, rfl, hb, n16, k⟩ := h
    refine ⟨_, (pss_cons (ps_set (i := 2) sc_law_names.nd rfl (Or.inl rfl) (pe_lst (pa_cons pe_str (pa_cons pe_str (pa_cons pe_str (pa_cons pe_str (pa_cons pe_str (pa_cons pe_str (pa_cons pe_str (pa_cons pe_str (pa_cons pe_str (pa_cons pe_str (pa_cons pe_str (pa_cons pe_str (pa_cons pe_str (pa_cons pe_str (pa_cons pe_str (pa_cons pe_str pa_nil))))))))))))))))))
      (pss_cons (ps_par (i := 3) (j := 4) (by rfl) sc_law_names.nd rfl rfl (by decide) rfl rfl (pa_cons (pe_lst pa_nil) (pa_cons (pe_lst (pa_cons pe_str (pa_cons pe_str (pa_cons pe_str (pa_cons pe_str (pa_cons pe_str (pa_cons pe_str pa_nil))))))) pa_nil)) (by rfl))
      (pss_cons (ps_for PassesOwn.never rfl (pi_list (pe_slice sl_list (pe_callHas g_law_mixed (hr.mono (by decide)) rfl (pa_cons (pv 0) (pa_cons (pv 2) pa_nil))) po_none (po_some (pv 1)))) (pg_name (i := 5) sc_law_names.nd rfl (Or.inl rfl)) (pss_cons (ps_if (pt_cmpR op_eq (pe_callHas g_law_take (hr.mono (by decide)) rfl (pa_cons (pv 0) (pa_cons pe_int pa_nil))) pe_int (nomark _)) (pss_cons (ps_setLc (i := 6) (own := [("_law_turn", 8)]) (g := gName 8) (by rfl) sc_law_names.nd rfl rfl (sw_true rfl rfl rfl (by decide +kernel)) (pi_range1 rfl T.z_range (pa_cons (pe_op op_add pe_int (pe_callHas g_law_take (hr.mono (by decide)) rfl (pa_cons (pv 0) (pa_cons pe_int pa_nil)))) pa_nil)) (blkOk_by (own := [("_law_turn", 8)]) (N := n_law_names) (sc := defScope s_law_names) (by decide +kernel)) (fun _ _ _ _ _ => (pg_name (i := 8) sc_law_names.nd rfl (Or.inl rfl))) (fun _ _ _ _ _ => pts_nil) (fun _ _ _ _ _ => (pe_callHas g_law_pickS (hr.mono (by decide)) rfl (pa_cons (pv 0) (pa_cons pe_str pa_nil)))))
      (pss_cons (ps_set (i := 7) sc_law_names.nd rfl (Or.inl rfl) (pe_join pe_str (pv 6)))
      (pss_one (ps_if (pt_cmpR op_notIn_seq (pv 7) (pe_op op_cat (pe_op op_cat (pv 3) (pv 2)) (pv 4)) (by rfl)) (pss_one (ps_set (i := 5) sc_law_names.nd rfl (Or.inl rfl) (pv 7))) pss_nil)))) pss_nil)
      (pss_one (ps_expr (pe_bm PySem.F.plainAttrs_list PySem.F.slot_list_append PySem.F.type_list_append mt_append (pv 3) (pa_cons (pv 5) pa_nil))))))
      (pss_one (ps_ret (pv 3)))))), ?_⟩
    have nb := hb.ne
    refine seq_asg (lst_go (xs := someNames.map V.str) (fun Q q => q) (by decide) fun H1 p s1 hp h1 => name_go ?_)
    try dsimp only
    refine seq_par (cons_go (lst_go (xs := []) (fun Q q => q) (by decide) fun H2 q s2 hq h2 => cons_go (lst_go (xs := noNames.map V.str) (fun Q q => q) (by decide) fun H3 r s3 hr h3 => ⟨_, _, rfl, ?_⟩)))
    try dsimp only
    have hq0 : H q = none := back s1 hq
    have nqb : q ≠ b := new_ne nb hq0
    have npb : p ≠ b := new_ne nb hp
    have s03 : Same H H3 := (s1.trans s2).trans s3
    have npq : p ≠ q := fun z => by rw [z, hq] at h1; cases h1
    have nrq : r ≠ q := fun z => by rw [z, h2] at hr; cases hr
    have nrb : r ≠ b := new_ne nb (back (s1.trans s2) hr)
    refine ⟨_, rfl, _, rfl, b, p, someNames.map V.str, rfl, hb.keep s03, s3 _ _ (s2 _ _ h1), npb, (by decide), fun H4 m bs u4 b4 nmb hm hbs pm => ?_⟩
    obtain ⟨ms, rfl, pms⟩ := perm_strs pm
    have l16 : ms.length = 16 := pms.length_eq
    have nd : ms.Nodup := pms.nodup_iff.mpr (by decide +kernel)
    refine ⟨_, rfl, (n : Int), rfl, m, _, rfl, SqL.of hbs, fun t ht => ?_⟩
    rw [cutN (by rw [List.length_map]; omega), ← List.map_take]
    obtain ⟨s5, h5⟩ := new_at (o := .lst ((ms.take n).map V.str)) ht
    have u5 : But b H (upd H4 t (.lst ((ms.take n).map V.str))) := ((Same.but s03).trans u4).trans (Same.but s5)
    have b5 : Box (upd H4 t (.lst ((ms.take n).map V.str))) b := b4.keep s5
    have hp5 := s5 _ _ (u4 _ _ npb (s3 _ _ (s2 _ _ h1)))
    have hq5 := s5 _ _ (u4 _ _ nqb (s3 _ _ h2))
    have hr5 := s5 _ _ (u4 _ _ nrb h3)
    have ntb : t ≠ b := fun z => by obtain ⟨x, y, w, e⟩ := b4; rw [z, e] at ht; cases ht
    have ntq : t ≠ q := fun z => by have := u4 _ _ nqb (s3 _ _ h2); rw [← z, ht] at this; cases this
    generalize upd H4 t (.lst ((ms.take n).map V.str)) = H5 at *
    refine ⟨t, rfl, ⟨_, SqL.of h5⟩, for_it (walk_list (xs := (ms.take n).map V.str)) (fun i σ H' => (∀ a o, a ≠ b → a ≠ q → H5 a = some o → H' a = some o) ∧ Box H' b ∧ ∃ (fs : List Str) (x5 x6 x7 x8 : Option V), σ = [some (.ref b), some (.int (n : Int)), some (.ref p), some (.ref q), some (.ref r), x5, x6, x7, x8] ∧ H' q = some (.lst (fs.map V.str)) ∧ fs.length = i ∧ fs.Nodup ∧ (∀ s ∈ fs, nameB s = true) ∧ ∀ s ∈ fs, s ∈ someNames → s ∈ (ms.take n).take i)
      ⟨fun _ _ _ _ h => h, b5, [], _, _, _, _, rfl, hq5, rfl, List.nodup_nil, (fun _ h => nomatch h), (fun _ h => nomatch h)⟩ (fun i σ H' _ z => SqL.of (z.1 _ _ ntb ntq h5)) ?_ ?_⟩
    · rintro i x σ H6' H6 hi ⟨k6, b6, fs, x5, x6, x7, x8, rfl, hq6, lf, ndf, okf, inf⟩ ⟨rfl, ex⟩
      rw [List.getElem?_map] at ex
      obtain ⟨w0, ew, rfl⟩ := Option.map_eq_some_iff.mp ex
      refine name_go ?_
      try dsimp only
      have hi' : i < (ms.take n).length := by rw [List.length_map] at hi; exact hi
      have lmn : (ms.take n).length ≤ 16 := by rw [List.length_take]; omega
      have q1000 : (1000 : Nat) < sizeLine := by decide
      have app : ∀ (w : Str) (x6 x7 x8 : Option V) (H' : Hp), (∀ a o, a ≠ b → a ≠ q → H5 a = some o → H' a = some o) → Box H' b → w ∉ fs → nameB w = true → (w ∈ someNames → w ∈ (ms.take n).take (i + 1)) →
          (∀ a o, a ≠ b → a ≠ q → H5 a = some o → upd H' q (.lst (fs.map V.str ++ [V.str w])) a = some o) ∧ Box (upd H' q (.lst (fs.map V.str ++ [V.str w]))) b ∧ ∃ (fs' : List Str) (x5 y6 y7 y8 : Option V), [some (V.ref b), some (.int (n : Int)), some (.ref p), some (.ref q), some (.ref r), some (V.str w), x6, x7, x8] = [some (.ref b), some (.int (n : Int)), some (.ref p), some (.ref q), some (.ref r), x5, y6, y7, y8] ∧ upd H' q (.lst (fs.map V.str ++ [V.str w])) q = some (.lst (fs'.map V.str)) ∧ fs'.length = i + 1 ∧ fs'.Nodup ∧ (∀ s ∈ fs', nameB s = true) ∧ ∀ s ∈ fs', s ∈ someNames → s ∈ (ms.take n).take (i + 1) := by
        intro w x6 x7 x8 H' k' b' nw ow iw
        refine ⟨fun a o na nq h => (upd_ne nq).trans (k' a o na nq h), ?_, fs ++ [w], _, _, _, _, rfl, by rw [List.map_append]; exact upd_same, by rw [List.length_append, lf]; rfl, ?_, ?_, ?_⟩
        · obtain ⟨x, y, z, e⟩ := b'
          exact ⟨x, y, z, (upd_ne nqb.symm).trans e⟩
        · rw [List.nodup_append]
          exact ⟨ndf, by simp, fun x hx y hy z => nw (by rw [List.mem_singleton] at hy; rw [← hy, ← z]; exact hx)⟩
        · intro s hs
          rcases List.mem_append.mp hs with hs | hs
          · exact okf s hs
          · rw [List.mem_singleton.mp hs]; exact ow
        · intro s hs h
          rcases List.mem_append.mp hs with hs | hs
          · have := inf s hs h
            rw [← List.take_append_getElem hi']
            exact List.mem_append_left _ this
          · rw [List.mem_singleton] at hs
            subst hs
            exact iw h
      have w0s : w0 ∈ someNames := pms.mem_iff.mp (List.mem_of_mem_take (List.mem_of_getElem? ew))
      have w0t : w0 ∈ (ms.take n).take (i + 1) := by
        rw [← List.take_append_getElem hi']
        refine List.mem_append_right _ ?_
        rw [List.getElem?_eq_getElem hi'] at ew
        rw [Option.some.inj ew]
        exact List.mem_singleton_self _
      have w0f : w0 ∉ fs := fun h => by
        have h2 := inf w0 h w0s
        have ndt : (ms.take n).Nodup := nd.sublist (List.take_sublist _ _)
        rw [← List.take_append_drop i (ms.take n), List.nodup_append] at ndt
        refine ndt.2.2 w0 h2 w0 ?_ rfl
        rw [List.drop_eq_getElem_cons hi']
        rw [List.getElem?_eq_getElem hi'] at ew
        rw [Option.some.inj ew]
        exact List.mem_cons_self
      have ok0 : nameB w0 = true := by
        have all : someNames.all nameB = true := by decide +kernel
        exact List.all_eq_true.mp all w0 w0s
      refine ⟨_, rfl, b, 4, rfl, b6, by decide, by decide, fun d x y z d0 d1 => ?_⟩
      have k7 : ∀ a o, a ≠ b → a ≠ q → H5 a = some o → upd H6 b (.lst [.int x, .int y, .int z]) a = some o := fun a o na nq h => (upd_ne na).trans (k6 a o na nq h)
      have b7 : Box (upd H6 b (.lst [.int x, .int y, .int z])) b := Box.upd'
      have hq7 : upd H6 b (.lst [.int x, .int y, .int z]) q = some (.lst (fs.map V.str)) := (upd_ne nqb).trans hq6
      generalize upd H6 b (.lst [.int x, .int y, .int z]) = H7 at *
      refine ⟨rfl, _, rfl, ite2 (fun _ => ?_) (fun _ => ?_)⟩
      · refine seq_asg ?_
        refine ⟨_, rfl, b, 4, rfl, b7, by decide, by decide, fun d2 x y z d20 d21 => ⟨_, _, rfl, rfl, 1 + d2, rfl, by omega, by omega, ?_⟩⟩
        have k8 : ∀ a o, a ≠ b → a ≠ q → H5 a = some o → upd H7 b (.lst [.int x, .int y, .int z]) a = some o := fun a o na nq h => (upd_ne na).trans (k7 a o na nq h)
        have b8 : Box (upd H7 b (.lst [.int x, .int y, .int z])) b := Box.upd'
        have hq8 : upd H7 b (.lst [.int x, .int y, .int z]) q = some (.lst (fs.map V.str)) := (upd_ne nqb).trans hq7
        generalize upd H7 b (.lst [.int x, .int y, .int z]) = H8 at *
        refine fun D hD => lc_range (lo := 0) (n := (1 + d2).toNat) (fun j H' => (∀ a o, a ≠ b → H8 a = some o → H' a = some o) ∧ Box H' b ∧ ∃ cs : List Nat, H' D = some (.lst ((cs.map fun c => (⟨#[c]⟩ : Str)).map V.str)) ∧ cs.length = j ∧ ∀ c ∈ cs, 97 ≤ c ∧ c ≤ 122) ⟨fun a o _ h => (new_at hD).1 a o h, b8.keep (new_at hD).1, [], upd_same, rfl, (fun _ h => nomatch h)⟩ ?_ ?_
        · rintro j H9 hj ⟨k9, b9, cs, hD9, lc, oc⟩
          have nDb : D ≠ b := fun z => by obtain ⟨x, y, w, e⟩ := b8; rw [← z, hD] at e; cases e
          refine name_go ⟨rfl, ?_⟩
          unfold tYes
          refine iteSe rfl ?_
          refine ⟨_, rfl, b, "abcdefghijklmnopqrstuvwxyz", rfl, b9, by decide +kernel, by decide +kernel, fun i2 c x y z e => ⟨_, (upd_ne nDb).trans hD9, ?_, ?_⟩⟩
          · rw [List.length_map, List.length_map, lc]; omega
          · refine ⟨fun a o na h => (upd_ne (ne_of_none h hD)).trans ((upd_ne na).trans (k9 a o na h)), ?_, cs ++ [c], ?_, ?_, ?_⟩
            · exact ⟨x, y, z, (upd_ne nDb.symm).trans upd_same⟩
            · rw [List.map_append, List.map_append]; exact upd_same
            · rw [List.length_append, lc]; rfl
            · intro c' hc
              rcases List.mem_append.mp hc with hc | hc
              · exact oc c' hc
              · rw [List.mem_singleton.mp hc]; exact alphabet e
        · rintro H9 ⟨k9, b9, cs, hD9, lc, oc⟩
          have lcs : cs.length ≤ 4 := by omega
          have lcp : 0 < cs.length := by omega
          obtain ⟨lw, ln⟩ := lower_join lcp oc
          refine name_go ?_
          try dsimp only
          refine seq_asg ⟨⟨_, rfl⟩, _, rfl, "", D, _, rfl, rfl, .inl (SqL.of hD9), ?_, name_go ?_⟩
          · rw [sum_ones]
            show cs.length + _ * 0 ≤ 16777216
            omega
          try dsimp only
          generalize Txt.join "" (cs.map fun c => (⟨#[c]⟩ : Str)) = word at *
          have k9' : ∀ a o, a ≠ b → a ≠ q → H5 a = some o → H9 a = some o := fun a o na nq h => k9 _ _ na (k8 a o na nq h)
          have hq9 := k9 _ _ nqb hq8
          have hp9 := k9' _ _ npb npq hp5
          have hr9 := k9' _ _ nrb nrq hr5
          refine ⟨_, rfl, _, rfl, _, rfl, q, p, _, _, rfl, rfl, hq9, hp9, ?_, fun t1 ht1 => ⟨_, rfl, t1, r, _, _, rfl, rfl, upd_same, (new_at ht1).1 _ _ hr9, ?_, fun t2 ht2 => ?_⟩⟩
          · rw [List.length_map, List.length_map]; show fs.length + 16 ≤ sizeLine; omega
          · rw [List.length_append, List.length_map, List.length_map, List.length_map]; show fs.length + 16 + 6 ≤ sizeLine; omega
          obtain ⟨s10, h10⟩ := new_at (o := .lst (fs.map V.str ++ someNames.map V.str)) ht1
          obtain ⟨s11, h11⟩ := new_at (o := .lst (fs.map V.str ++ someNames.map V.str ++ noNames.map V.str)) ht2
          have s91 := s10.trans s11
          have kA : ∀ a o, a ≠ b → a ≠ q → H5 a = some o → _ := fun a o na nq h => s91 _ _ (k9' a o na nq h)
          have bA := b9.keep s91
          have hqA := s91 _ _ hq9
          generalize upd (upd H9 t1 (.lst (fs.map V.str ++ someNames.map V.str))) t2 (.lst (fs.map V.str ++ someNames.map V.str ++ noNames.map V.str)) = HA at *
          rw [← List.map_append, ← List.map_append] at h11
          refine ⟨t2, _, rfl, .inl (SqL.of h11), rfl, flat_strs _, ?_⟩
          rw [if_pos rfl, inV_strs]
          refine ⟨_, rfl, ite2 (fun hn => ?_) (fun _ => ?_)⟩
          · have hn' : word ∉ fs ++ someNames ++ noNames := by simpa using hn
            have n1 : word ∉ fs := fun h => hn' (List.mem_append_left _ (List.mem_append_left _ h))
            have n2 : word ∉ someNames := fun h => hn' (List.mem_append_left _ (List.mem_append_right _ h))
            have n3 : word ∉ noNames := fun h => hn' (List.mem_append_right _ h)
            exact ⟨_, rfl, name_go ⟨_, rfl, .inl ⟨rfl, _, SqL.of hqA⟩, _, rfl, q, fs.map V.str, _, rfl, rfl, hqA, by rw [List.length_map]; omega, app word _ _ _ _ kA bA n1 (nameB_lower lw (by omega) n3) fun h => absurd h n2⟩⟩
          · exact ⟨_, rfl, .inl ⟨rfl, _, SqL.of hqA⟩, _, rfl, q, fs.map V.str, _, rfl, rfl, hqA, by rw [List.length_map]; omega, app w0 _ _ _ _ kA bA w0f ok0 fun _ => w0t⟩
      · exact ⟨_, rfl, .inl ⟨rfl, _, SqL.of hq7⟩, _, rfl, q, fs.map V.str, _, rfl, rfl, hq7, by rw [List.length_map]; omega, app w0 _ _ _ H7 k7 b7 w0f ok0 fun _ => w0t⟩
    · rintro σ H6 ⟨k6, b6, fs, x5, x6, x7, x8, rfl, hq6, lf, ndf, okf, inf⟩
      refine ⟨_, rfl, k H6 q fs ?_ b6 nqb hq0 hq6 (by rw [lf, List.length_map, List.length_take]; omega) ndf okf⟩
      exact fun a o na ha => k6 _ _ na (ne_of_none ha hq0) (u5 _ _ na ha)
abbrev s_law_number : Stmt := top 41
abbrev n_law_number : List Str := ["_law_box_here", "_law_most", "_law_form"]
theorem sc_law_number : FnScope n_law_number ["_law_box_here", "_law_most"] (defScope s_law_number) := ⟨rfl, rfl, rfl, by decide +kernel, rfl, by decide +kernel, by decide +kernel⟩
def spNumber : Sp := fun vs H Q _ => ∃ (b : Addr) (m : Int), vs = [.ref b, .int m] ∧ Box H b ∧ 8 ≤ m ∧ m < 10000000000 ∧ ∀ (H' : Hp) (i : Int), But b H H' → Box H' b → ((-m ≤ i ∧ i ≤ m) ∨ (-100 ≤ i ∧ i ≤ 100)) → Q (.int i) H'
theorem ok_number (T : Txt mg) (g_law_take : Has P w K mg base 1 "_law_take" ["_law_box_here", "_law_many"] spTake) (F : DefAt K mg "_law_number" s_law_number ["_law_box_here", "_law_most"]) : Has P w K mg base 2 "_law_number" ["_law_box_here", "_law_most"] spNumber := by
  refine F.has sc_law_number (fun vs H Q E h => ?_) (fun f cdv A outer s H vs Q E hr h => ?_)
  · obtain ⟨b, m, rfl, _⟩ := h
    rfl
  · obtain ⟨b, m, rfl, hb, m0, m1, k⟩ := h
    refine ⟨_, (pss_cons (ps_set (i := 2) sc_law_number.nd rfl (Or.inl rfl) (pe_callHas g_law_take (hr.mono (by decide)) rfl (pa_cons (pv 0) (pa_cons pe_int pa_nil))))
      (pss_cons (ps_if (pt_cmpR op_eq (pv 2) pe_int (nomark _)) (pss_one (ps_ret (pe_op op_mul (pe_ix ix_list (pe_lst (pa_cons pe_int (pa_cons (pe_un un_neg pe_int) pa_nil))) (pe_callHas g_law_take (hr.mono (by decide)) rfl (pa_cons (pv 0) (pa_cons pe_int pa_nil))) (fun _ _ => rfl)) (pe_op op_sub (pv 1) (pe_callHas g_law_take (hr.mono (by decide)) rfl (pa_cons (pv 0) (pa_cons pe_int pa_nil))))))) pss_nil)
      (pss_one (ps_ret (pe_op op_sub (pe_callHas g_law_take (hr.mono (by decide)) rfl (pa_cons (pv 0) (pa_cons (pe_ix ix_list (pe_lst (pa_cons pe_int (pa_cons pe_int (pa_cons pe_int pa_nil)))) (pe_op op_sub (pv 2) pe_int) (fun _ _ => rfl)) pa_nil))) (pe_ix ix_list (pe_lst (pa_cons pe_int (pa_cons pe_int (pa_cons pe_int pa_nil)))) (pe_op op_sub (pv 2) pe_int) (fun _ _ => rfl))))))), ?_⟩
    refine seq_asg ⟨_, rfl, b, 4, rfl, hb, by decide, by decide, fun d x y z d0 d1 => name_go ?_⟩
    have u1 : But b H (upd H b (.lst [.int x, .int y, .int z])) := But.upd'
    have b1 : Box (upd H b (.lst [.int x, .int y, .int z])) b := Box.upd'
    generalize upd H b (.lst [.int x, .int y, .int z]) = H1 at *
    try dsimp only
    refine ⟨_, rfl, rfl, _, rfl, ite2 (fun _ => ?_) (fun hd => ?_)⟩
    · refine ret_go (op_go (op_go (lst_go (xs := [.int 1, .int (-1)]) (fun Q q => ⟨1, rfl, q⟩) (by decide) fun H2 p s2 hp h2 => ?_)))
      have npb : p ≠ b := new_ne b1.ne hp
      refine ⟨_, rfl, b, 2, rfl, b1.keep s2, by decide, by decide, fun d2 x y z d20 d21 => ?_⟩
      have u3 : But b H (upd H2 b (.lst [.int x, .int y, .int z])) := (u1.trans (Same.but s2)).trans But.upd'
      have b3 : Box (upd H2 b (.lst [.int x, .int y, .int z])) b := Box.upd'
      have h3 : upd H2 b (.lst [.int x, .int y, .int z]) p = some (.lst [.int 1, .int (-1)]) := (upd_ne npb).trans h2
      generalize upd H2 b (.lst [.int x, .int y, .int z]) = H3 at *
      obtain ⟨sg, es, hs⟩ : ∃ sg : Int, atI [V.int 1, V.int (-1)] d2 = some (.int sg) ∧ (sg = 1 ∨ sg = -1) := by
        rcases (show d2 = 0 ∨ d2 = 1 by omega) with rfl | rfl
        · exact ⟨1, rfl, .inl rfl⟩
        · exact ⟨-1, rfl, .inr rfl⟩
      refine ⟨p, _, _, _, rfl, rfl, SqL.of h3, es, ?_⟩
      refine ⟨_, rfl, _, rfl, b, 9, rfl, b3, by decide, by decide, fun d3 x y z d30 d31 => ⟨_, _, rfl, rfl, _, _, rfl, rfl, ?_, ?_⟩⟩
      · rcases hs with rfl | rfl
        · exact .inl ⟨by decide, by decide⟩
        · exact .inl ⟨by decide, by decide⟩
      · refine k _ _ (u3.trans But.upd') Box.upd' ?_
        rcases hs with rfl | rfl
        · left; omega
        · left; omega
    · have hd' : d ≠ 0 := fun z => hd (by rw [z]; rfl)
      obtain ⟨c, c2, e1, e2, hc⟩ : ∃ c c2 : Int, atI [V.int 5, V.int 21, V.int 200] (d - 1) = some (.int c) ∧ atI [V.int 2, V.int 10, V.int 100] (d - 1) = some (.int c2) ∧ 0 < c ∧ c ≤ 200 ∧ 0 ≤ c2 ∧ c2 ≤ 100 ∧ c - c2 ≤ 100 := by
        rcases (show d = 1 ∨ d = 2 ∨ d = 3 by omega) with rfl | rfl | rfl
        · exact ⟨5, 2, rfl, rfl, by decide⟩
        · exact ⟨21, 10, rfl, rfl, by decide⟩
        · exact ⟨200, 100, rfl, rfl, by decide⟩
      refine next_go ?_
      try dsimp only
      refine ret_go (op_go ?_)
      refine ⟨_, rfl, ?_⟩
      refine cons_go (op_go (lst_go (xs := [.int 5, .int 21, .int 200]) (fun Q q => q) (by decide) fun H2 p s2 hp h2 => ?_))
      refine ⟨_, rfl, _, _, rfl, rfl, p, _, _, _, rfl, rfl, SqL.of h2, e1, b, c, rfl, b1.keep s2, by omega, by omega, fun e x y z e0 e1' => ?_⟩
      refine op_go (lst_go (xs := [.int 2, .int 10, .int 100]) (fun Q q => q) (by decide) fun H3 p3 s3 hp3 h3 => ?_)
      refine ⟨_, rfl, _, _, rfl, rfl, p3, _, _, _, rfl, rfl, SqL.of h3, e2, _, _, rfl, rfl, ?_⟩
      refine k _ _ (((u1.trans (Same.but s2)).trans But.upd').trans (Same.but s3)) (Box.upd'.keep s3) ?_
      right
      omega
end
end K14

set_option pp.maxSteps 600
namespace K14
open PySem L2 PySem.Spec PyProof.Rows
section
variable {P : Program} {w : World} {K : PySem.W.Frag} {mg : Str → Option Value} {base : Heap}
abbrev s_law_test : Stmt := top 42
abbrev n_law_test : List Str := ["_law_box_here", "_law_book_here", "_law_deep", "_law_form", "_law_found", "_law_turn"]
theorem sc_law_test : FnScope n_law_test ["_law_box_here", "_law_book_here", "_law_deep"] (defScope s_law_test) := ⟨rfl, rfl, rfl, by decide +kernel, rfl, by decide +kernel, by decide +kernel⟩
def spTest : Sp := fun vs H Q _ => ∃ (b d : Addr) (u : V) (B : BookD) (kvs : List (Key × V)), vs = [.ref b, .ref d, u] ∧ Box H b ∧ BkAt H (· = b) d B kvs ∧ BkOk B ∧ ∀ (H' : Hp) (v : V) (t : TestD), But b H H' → Box H' b → TestAt H' v t → okTest B t → tdep t ≤ 2 → Q v H'
theorem ok_test (T : Txt mg) (g_law_take : Has P w K mg base 1 "_law_take" ["_law_box_here", "_law_many"] spTake) (g_law_pick : Has P w K mg base 2 "_law_pick" ["_law_box_here", "_law_items"] spPick) (F : DefAt K mg "_law_test" s_law_test ["_law_box_here", "_law_book_here", "_law_deep"]) : Has P w K mg base 3 "_law_test" ["_law_box_here", "_law_book_here", "_law_deep"] spTest := by
  refine F.has sc_law_test (fun vs H Q E h => ?_) (fun f cdv A outer s H vs Q E hr h => ?_)
  · obtain ⟨b, d, u, B, kvs, rfl, _⟩ := h
    rfl
  · have hu := hr.units
    have hu1 := Nat.lt_of_le_of_lt (Nat.add_le_add_left (by decide : 1 ≤ 64) _) hu
    obtain ⟨b, d, u, B, kvs, rfl, hb, bk, ok, k⟩ := h
    refine ⟨_, (pss_cons (ps_set (i := 3) sc_law_test.nd rfl (Or.inl rfl) (pe_callHas g_law_take (hr.mono (by decide)) rfl (pa_cons (pv 0) (pa_cons pe_int pa_nil))))
      (pss_cons (ps_set (i := 4) sc_law_test.nd rfl (Or.inl rfl) (pe_ix ix_list (pe_lst (pa_cons (pe_tup (pa_cons pe_str pa_nil)) (pa_cons (pe_tup (pa_cons pe_str pa_nil)) pa_nil))) (pe_op op_mod (pv 3) pe_int) (fun _ _ => rfl)))
      (C8.pss_cut (ps_if (pt_cmpR op_lt (pv 3) pe_int (nomark _)) (pss_one (ps_set (i := 4) sc_law_test.nd rfl (Or.inl rfl) (pe_tup (pa_cons pe_str (pa_cons (pe_callHas g_law_pick (hr.mono (by decide)) rfl (pa_cons (pv 0) (pa_cons (pe_op op_cat (pe_op op_cat (pe_dget hu1 (pv 1) pe_str (fun _ _ => rfl)) (pe_dget hu1 (pv 1) pe_str (fun _ _ => rfl))) (pe_lst (pa_cons pe_str pa_nil))) pa_nil))) pa_nil))))) (pss_one (ps_if (pt_cmpR op_lt (pv 3) pe_int (nomark _)) (pss_one (ps_set (i := 4) sc_law_test.nd rfl (Or.inl rfl) (pe_tup (pa_cons (pe_ix ix_list (pe_lst (pa_cons pe_str (pa_cons pe_str pa_nil))) (pe_op op_sub (pv 3) pe_int) (fun _ _ => rfl)) (pa_cons (pe_callHas g_law_pick (hr.mono (by decide)) rfl (pa_cons (pv 0) (pa_cons (pe_dget hu1 (pv 1) pe_str (fun _ _ => rfl)) pa_nil))) pa_nil))))) pss_nil)))
      (pss_cons (ps_for PassesOwn.never rfl (pi_range1 rfl T.z_range (pa_cons (pe_ix ix_list (pe_lst (pa_cons pe_int (pa_cons pe_int (pa_cons pe_int (pa_cons pe_int pa_nil))))) (pe_callHas g_law_take (hr.mono (by decide)) rfl (pa_cons (pv 0) (pa_cons pe_int pa_nil))) (fun _ _ => rfl)) pa_nil)) (pg_name (i := 5) sc_law_test.nd rfl (Or.inl rfl)) (pss_one (ps_set (i := 4) sc_law_test.nd rfl (Or.inl rfl) (pe_tup (pa_cons pe_str (pa_cons (pv 4) pa_nil))))))
      (pss_one (ps_ret (pv 4))))))), ?_⟩
    refine seq_asg ⟨_, rfl, b, 6, rfl, hb, by decide, by decide, fun f x y z f0 f1 => name_go ?_⟩
    have u1 : But b H (upd H b (.lst [.int x, .int y, .int z])) := But.upd'
    have b1 : Box (upd H b (.lst [.int x, .int y, .int z])) b := Box.upd'
    generalize upd H b (.lst [.int x, .int y, .int z]) = H1 at *
    try dsimp only
    -- moved, noted
    refine seq_asg (op_go (lstA_go (cons_go (tupc_go (xs := [.str "moved"]) (fun Q q => q) (by decide) fun H2 p1 s2 _ h1 => cons_go (tupc_go (xs := [.str "noted"]) (fun Q q => q) (by decide) fun H3 p2 s3 _ h2 => ⟨(by decide : 2 ≤ sizeLine), fun p hp => ?_⟩)))))
    obtain ⟨s4, h4⟩ := new_at (o := .lst [V.ref p1, V.ref p2]) hp
    have u4 : But b H (upd H3 p (.lst [V.ref p1, V.ref p2])) := u1.trans (Same.but (s2.trans (s3.trans s4)))
    have b4 : Box (upd H3 p (.lst [V.ref p1, V.ref p2])) b := b1.keep (s2.trans (s3.trans s4))
    have t1 := (s3.trans s4) _ _ h1
    have t2 := s4 _ _ h2
    generalize upd H3 p (.lst [V.ref p1, V.ref p2]) = H4 at *
    obtain ⟨v, t, ev, rv, ov, dv⟩ : ∃ v t, atI [V.ref p1, V.ref p2] (f % 2) = some v ∧ TestAt H4 v t ∧ okTest B t ∧ tdep t = 0 := by
      rcases (show f % 2 = 0 ∨ f % 2 = 1 by omega) with e | e
      · exact ⟨_, .moved, by rw [e]; rfl, ⟨p1, rfl, t1⟩, trivial, rfl⟩
      · exact ⟨_, .noted, by rw [e]; rfl, ⟨p2, rfl, t2⟩, trivial, rfl⟩
    refine ⟨_, rfl, _, _, rfl, rfl, (by show (0:Int) < 2; decide), p, _, _, _, rfl, rfl, SqL.of h4, ev, name_go ?_⟩
    try dsimp only
    refine ⟨fun σ H' => But b H H' ∧ Box H' b ∧ ∃ v t x5, σ = [some (.ref b), some (.ref d), some u, some (.int f), some v, x5] ∧ TestAt H' v t ∧ okTest B t ∧ tdep t = 0, ?_, ?_⟩
    · have bk4 := bk.kp (KpE.but (ex := (· = b)) rfl u4)
      have nm := ok.names
      rw [List.length_append, List.length_append] at nm
      have q1000 : (1000 : Nat) < sizeLine := by decide
      obtain ⟨r1, g1, n1, h1⟩ := bk4.rests.get bk4.at'
      obtain ⟨r2, g2, n2, h2⟩ := bk4.passes.get bk4.at'
      obtain ⟨r3, g3, n3, h3⟩ := bk4.told.get bk4.at'
      refine ⟨_, rfl, _, _, rfl, rfl, _, rfl, ite2 (fun _ => ?_) (fun hf => ?_)⟩
      · refine asg_go (tup_go (cons_go (c_go (cons_go ?_))))
        refine ⟨_, rfl, cons_go (op_go (op_go ?_))⟩
        refine ⟨_, rfl, d, _, rfl, g1, _, rfl, d, _, rfl, g2, r1, r2, _, _, rfl, rfl, h1, h2, ?_, fun t1 ht1 => ?_⟩
        · rw [List.length_map, List.length_map]; omega
        obtain ⟨s5, h5⟩ := new_at (o := .lst (B.rests.map V.str ++ B.passes.map V.str)) ht1
        refine lst_go (xs := [.str "none"]) (fun Q q => q) (by decide) fun H6 l6 s6 _ h6 => ?_
        refine ⟨t1, l6, _, _, rfl, rfl, s6 _ _ h5, h6, ?_, fun t2 ht2 => ?_⟩
        · rw [List.length_append, List.length_map, List.length_map]; show _ + 1 ≤ sizeLine; omega
        obtain ⟨s7, h7⟩ := new_at (o := .lst (B.rests.map V.str ++ B.passes.map V.str ++ [V.str "none"])) ht2
        have s47 := s5.trans (s6.trans s7)
        have nt2 : t2 ≠ b := new_ne (b4.keep (s5.trans s6)).ne ht2
        unfold tNil
        dsimp only
        refine ⟨b, t2, _, rfl, b4.keep s47, h7, nt2, by rw [List.length_append]; show 0 < _ + 1; omega, ?_, fun i v x y z e => ⟨(by decide : 2 ≤ sizeLine), fun p hp => name_go ?_⟩⟩
        · rw [List.length_append, List.length_append, List.length_map, List.length_map]; show _ + 1 ≤ 1000; omega
        have e' : v ∈ (B.rests ++ B.passes ++ [("none" : Str)]).map V.str := by
          have := List.mem_of_getElem? e
          simpa using this
        obtain ⟨kd, mk, rfl⟩ := List.mem_map.mp e'
        obtain ⟨s8, h8⟩ := new_at (o := .tup [V.str "was", V.str kd]) hp
        exact ⟨((u4.trans (Same.but s47)).trans But.upd').trans (Same.but s8), Box.upd'.keep s8, _, .was kd, _, rfl, ⟨p, rfl, h8⟩, mk, rfl⟩
      · refine ⟨_, rfl, _, _, rfl, rfl, _, rfl, ite2 (fun hf2 => ?_) (fun _ => ⟨u4, b4, v, t, _, rfl, rv, ov, dv⟩)⟩
        have hf' : ¬ f < 2 := by simpa using hf
        have hf2' : f < 4 := by simpa using hf2
        refine asg_go (tup_go (cons_go (op_go (lst_go (xs := [.str "old", .str "new"]) (fun Q q => q) (by decide) fun H5 p5 s5 hp5 h5 => ?_))))
        obtain ⟨o, eo⟩ : ∃ o : Bool, atI [V.str "old", V.str "new"] (f - 2) = some (.str (belowS o)) := by
          rcases (show f - 2 = 0 ∨ f - 2 = 1 by omega) with e | e
          · exact ⟨true, by rw [e]; rfl⟩
          · exact ⟨false, by rw [e]; rfl⟩
        refine ⟨_, rfl, _, _, rfl, rfl, p5, _, _, _, rfl, rfl, SqL.of h5, eo, ?_⟩
        have bk5 := bk4.kp (KpE.of (ex := (· = b)) s5)
        obtain ⟨r3, g3, n3, h3⟩ := bk5.told.get bk5.at'
        refine cons_go ⟨_, rfl, _, rfl, d, _, rfl, g3, ?_⟩
        unfold tNil
        dsimp only
        have l0 : 0 < B.told.length := List.length_pos_iff.mpr ok.told0
        have l1 := ok.told1
        refine ⟨b, r3, _, rfl, b4.keep s5, h3, n3, by rw [List.length_map]; exact l0, by rw [List.length_map]; omega, fun i v x y z e => ⟨(by decide : 2 ≤ sizeLine), fun p hp => name_go ?_⟩⟩
        obtain ⟨n, mn, rfl⟩ := List.mem_map.mp (List.mem_of_getElem? e)
        obtain ⟨s8, h8⟩ := new_at (o := .tup [V.str (belowS o), V.int n]) hp
        exact ⟨((u4.trans (Same.but s5)).trans But.upd').trans (Same.but s8), Box.upd'.keep s8, _, .cut o n, _, rfl, ⟨p, rfl, h8⟩, mn, rfl⟩
    · rintro σ H5 ⟨u5, b5, v, t, x5, rfl, rv, ov, dv⟩
      refine rng_go (cons_go (op_go (lst_go (xs := [.int 0, .int 0, .int 1, .int 2]) (fun Q q => q) (by decide) fun H6 p s6 hp h6 => ?_)))
      refine ⟨_, rfl, b, 4, rfl, b5.keep s6, by decide, by decide, fun e x y z e0 e1 => ?_⟩
      have u7 : But b H (upd H6 b (.lst [.int x, .int y, .int z])) := (u5.trans (Same.but s6)).trans But.upd'
      have b7 : Box (upd H6 b (.lst [.int x, .int y, .int z])) b := Box.upd'
      have h7 : upd H6 b (.lst [.int x, .int y, .int z]) p = some (.lst [.int 0, .int 0, .int 1, .int 2]) := (upd_ne (new_ne b5.ne hp)).trans h6
      have rv7 := (rv.kp (TupKp.of s6)).kp (TupKp.box (o := .lst [.int x, .int y, .int z]) (b5.keep s6))
      generalize upd H6 b (.lst [.int x, .int y, .int z]) = H7 at *
      obtain ⟨N, eN, N2⟩ : ∃ N : Nat, atI [V.int 0, V.int 0, V.int 1, V.int 2] e = some (.int ((N : Nat) : Int)) ∧ N ≤ 2 := by
        rcases (show e = 0 ∨ e = 1 ∨ e = 2 ∨ e = 3 by omega) with rfl | rfl | rfl | rfl
        · exact ⟨0, rfl, by decide⟩
        · exact ⟨0, rfl, by decide⟩
        · exact ⟨1, rfl, by decide⟩
        · exact ⟨2, rfl, by decide⟩
      refine ⟨p, _, _, _, rfl, rfl, SqL.of h7, eN, _, rfl, by omega, by omega, for_range (lo := 0) (n := N) (fun i σ H' => But b H H' ∧ Box H' b ∧ ∃ v t x5, σ = [some (.ref b), some (.ref d), some u, some (.int f), some v, x5] ∧ TestAt H' v t ∧ okTest B t ∧ tdep t = i) ⟨u7, b7, v, t, _, rfl, rv7, ov, dv⟩ ?_ ?_⟩
      · rintro i σ H8 hi ⟨u8, b8, v, t, x5, rfl, rv, ov, dv⟩
        refine name_go (asg_go (tup_go (cons_go (c_go (cons_go ⟨_, rfl, ⟨(by decide : 2 ≤ sizeLine), fun q hq => name_go ?_⟩⟩)))))
        obtain ⟨s9, h9⟩ := new_at (o := .tup [V.str "not", v]) hq
        exact ⟨u8.trans (Same.but s9), b8.keep s9, _, .not t, _, rfl, ⟨q, v, rfl, h9, rv.kp (TupKp.of s9)⟩, ov, by show tdep t + 1 = i + 1; rw [dv]⟩
      · rintro σ H8 ⟨u8, b8, v, t, x5, rfl, rv, ov, dv⟩
        exact ⟨_, rfl, k _ _ t u8 b8 rv ov (by omega)⟩
end
end K14

set_option pp.maxSteps 600
namespace K14
open PySem L2 PySem.Spec PyProof.Rows
/-- how many rows and statements there may be still -/
def LeftAt (H : Hp) (l : Addr) : Prop := ∃ i j : Int, H l = some (.lst [.int i, .int j])
theorem LeftAt.ne {H : Hp} {l : Addr} (h : LeftAt H l) : H l ≠ none := by obtain ⟨x, y, e⟩ := h; rw [e]; exact fun z => nomatch z
theorem LeftAt.keep' {H H' : Hp} {l : Addr} (h : LeftAt H l) (s : ∀ o, H l = some o → H' l = some o) : LeftAt H' l := by
  obtain ⟨x, y, e⟩ := h
  exact ⟨x, y, s _ e⟩
theorem Box.other {H : Hp} {b D : Addr} {o : HO} (h : Box H b) (n : D ≠ b) : Box (upd H D o) b := by
  obtain ⟨x, y, z, q⟩ := h
  exact ⟨x, y, z, by rw [upd_ne n.symm]; exact q⟩
def ExBL (b l : Addr) : Addr → Prop := fun a => a = b ∨ a = l
theorem tupE {b l : Addr} {H H' : Hp} (hb : Box H b) (hl : LeftAt H l) (k : KpE (ExBL b l) H H') : TupKp H H' := fun a ys e => by
  refine k _ _ (fun z => ?_) e
  rcases z with rfl | rfl
  · obtain ⟨x, y, z, e'⟩ := hb; rw [e'] at e; cases e
  · obtain ⟨x, y, e'⟩ := hl; rw [e'] at e; cases e
def facL : List Int := [1, -1, 1, -1, 2, -3, 0, 999]
theorem pick_map {α : Type} {f : α → V} {L : List α} {b p : Addr} {H : Hp} {Q : VK} (hb : Box H b) (hp : H p = some (.lst (L.map f))) (n : p ≠ b) (l0 : 0 < L.length) (l1 : L.length ≤ 1000) (q : ∀ (H' : Hp) (a : α), But b H H' → Box H' b → a ∈ L → Q (f a) H') : spPick [.ref b, .ref p] H Q E0 :=
  ⟨b, p, _, rfl, hb, hp, n, by rw [List.length_map]; exact l0, by rw [List.length_map]; exact l1, fun i v x y z e => by
    obtain ⟨a, m, rfl⟩ := List.mem_map.mp (List.mem_of_getElem? e)
    exact q _ a But.upd' Box.upd' m⟩
theorem strOk_name {s : Str} (h : nameB s = true) : PyData.strOk s = true := by
  unfold nameB at h
  have h2 : Txt.isascii s = true := by
    have := (Bool.and_eq_true_iff.mp h).2
    exact (Bool.and_eq_true_iff.mp this).1
  unfold Txt.isascii at h2
  show s.cps.all (fun c => decide (c < 0x110000)) = true
  rw [← Array.all_toList, List.all_eq_true] at h2 ⊢
  intro c hc
  have := of_decide_eq_true (h2 c hc)
  exact decide_eq_true (by omega)
def spRows (k : Nat) : Sp := fun vs H Q _ => ∃ (b d l : Addr) (kk : Int) (B : BookD) (kvs : List (Key × V)), vs = [.ref b, .ref d, .ref l, .int kk] ∧ kk = (k : Int) ∧ Box H b ∧ LeftAt H l ∧ l ≠ b ∧ BkAt H (ExBL b l) d B kvs ∧ BkOk B ∧
  ∀ (H' : Hp) (q : Addr) (xs : List V) (rs : List RowD), KpE (ExBL b l) H H' → Box H' b → LeftAt H' l → H' q = some (.tup xs) → RowL H' rs xs → okRowL B rs k → rs.length ≤ 3 → Q (.ref q) H'
def spRow (k : Nat) : Sp := fun vs H Q _ => ∃ (b d l : Addr) (kk : Int) (B : BookD) (kvs : List (Key × V)), vs = [.ref b, .ref d, .ref l, .int kk] ∧ kk = (k : Int) ∧ Box H b ∧ LeftAt H l ∧ l ≠ b ∧ BkAt H (ExBL b l) d B kvs ∧ BkOk B ∧
  ∀ (H' : Hp) (v : V) (r : RowD), KpE (ExBL b l) H H' → Box H' b → LeftAt H' l → RowAt H' r v → okRow B r k → Q v H'
def spRowsK : Nat → Sp
  | 0 => fun _ _ _ _ => False
  | k + 1 => spRows k
section
variable {P : Program} {w : World} {K : PySem.W.Frag} {mg : Str → Option Value} {base : Heap}
abbrev s_law_rows : Stmt := top 44
abbrev n_law_rows : List Str := ["_law_box_here", "_law_book_here", "_law_left", "_law_deep", "_law_found", "_law_turn"]
theorem sc_law_rows : FnScope n_law_rows ["_law_box_here", "_law_book_here", "_law_left", "_law_deep"] (defScope s_law_rows) := ⟨rfl, rfl, rfl, by decide +kernel, rfl, by decide +kernel, by decide +kernel⟩
theorem ok_rowsD {k n : Nat} (hn : 3 ≤ n) (T : Txt mg) (g_law_take : Has P w K mg base 1 "_law_take" ["_law_box_here", "_law_many"] spTake) (g_law_row : Has P w K mg base n "_law_row" ["_law_box_here", "_law_book_here", "_law_left", "_law_deep"] (spRow k))
    (F : DefAt K mg "_law_rows" s_law_rows ["_law_box_here", "_law_book_here", "_law_left", "_law_deep"]) : Has P w K mg base (n + 1) "_law_rows" ["_law_box_here", "_law_book_here", "_law_left", "_law_deep"] (spRows k) := by
  refine F.has sc_law_rows (fun vs H Q E h => ?_) (fun f cdv A outer s H vs Q E hr h => ?_)
  · obtain ⟨b, d, l, kk, B, kvs, rfl, _⟩ := h
    rfl
  · have hu := hr.units
    have hu1 := Nat.lt_of_le_of_lt (Nat.add_le_add_left (by decide : 1 ≤ 64) _) hu
    obtain ⟨b, d, l, kk, B, kvs, rfl, ek, hb, hl, nlb, bk, ok, ret⟩ := h
    refine ⟨_, (pss_cons (ps_set (i := 4) sc_law_rows.nd rfl (Or.inl rfl) (pe_lst pa_nil))
      (pss_cons (ps_for PassesOwn.never rfl (pi_range1 rfl T.z_range (pa_cons (pe_callHas g_law_take (hr.mono (by omega)) rfl (pa_cons (pv 0) (pa_cons pe_int pa_nil))) pa_nil)) (pg_name (i := 5) sc_law_rows.nd rfl (Or.inl rfl)) (pss_one (ps_if (pt_cmpR op_gt (pe_ix ix_list (pv 2) pe_int (fun _ _ => rfl)) pe_int (nomark _)) (pss_cons (ps_asg (pe_op op_sub (pe_ix ix_list (pv 2) pe_int (fun _ _ => rfl)) pe_int) (pg_sub (pv 2) pe_int set_list))
      (pss_one (ps_expr (pe_bm PySem.F.plainAttrs_list PySem.F.slot_list_append PySem.F.type_list_append mt_append (pv 4) (pa_cons (pe_callHas g_law_row (hr.mono (by omega)) rfl (pa_cons (pv 0) (pa_cons (pv 1) (pa_cons (pv 2) (pa_cons (pv 3) pa_nil))))) pa_nil))))) pss_nil)))
      (pss_one (ps_ret (pe_callTy call_tuple_of (by rfl) T.z_tuple (by decide +kernel) (pa_cons (pv 4) pa_nil)))))), ?_⟩
    refine seq_asg (lst_go (xs := []) (fun Q q => q) (by decide) fun H1 q s1 hq h1 => name_go ?_)
    try dsimp only
    have nqb : q ≠ b := new_ne hb.ne hq
    have nql : q ≠ l := new_ne hl.ne hq
    have nq : ¬ ExBL b l q := fun z => z.elim nqb nql
    refine rng_go (cons_go ⟨_, rfl, b, 4, rfl, hb.keep s1, by decide, by decide, fun N x y z N0 N1 => ?_⟩)
    have k2 : KpE (ExBL b l) H (upd H1 b (.lst [.int x, .int y, .int z])) := (KpE.of s1).trans (KpE.but (.inl rfl) But.upd')
    have b2 : Box (upd H1 b (.lst [.int x, .int y, .int z])) b := Box.upd'
    have l2 : LeftAt (upd H1 b (.lst [.int x, .int y, .int z])) l := hl.keep' fun o e => (upd_ne nlb).trans (s1 _ _ e)
    have q2 : upd H1 b (.lst [.int x, .int y, .int z]) q = some (.lst []) := (upd_ne nqb).trans h1
    generalize upd H1 b (.lst [.int x, .int y, .int z]) = H2 at *
    refine ⟨N, rfl, by omega, by omega, for_range (lo := 0) (n := N.toNat) (fun i σ H' => KpE (ExBL b l) H H' ∧ Box H' b ∧ LeftAt H' l ∧ ∃ (xs : List V) (rs : List RowD) (x5 : Option V), σ = [some (.ref b), some (.ref d), some (.ref l), some (.int kk), some (.ref q), x5] ∧ H' q = some (.lst xs) ∧ RowL H' rs xs ∧ okRowL B rs k ∧ rs.length ≤ i) ⟨k2, b2, l2, [], [], _, rfl, q2, by unfold RowL; rfl, by unfold okRowL; trivial, Nat.le_refl _⟩ ?_ ?_⟩
    · rintro i σ H3 hi ⟨k3, b3, ⟨li, lj, hl3⟩, xs, rs, x5, rfl, hq3, rl, orl, lrs⟩
      refine name_go ⟨_, rfl, l, _, _, _, rfl, rfl, SqL.of hl3, rfl, _, _, rfl, rfl, _, rfl, ite2 (fun _ => ?_) (fun _ => ?_)⟩
      · refine ⟨_, rfl, l, _, _, _, rfl, rfl, SqL.of hl3, rfl, _, _, rfl, rfl, _, rfl, l, _, _, _, rfl, rfl, hl3, rfl, ?_⟩
        have k4 : KpE (ExBL b l) H (upd H3 l (.lst [.int (li - 1), .int lj])) := k3.trans fun a o n h => (upd_ne fun z => n (.inr z)).trans h
        have b4 : Box (upd H3 l (.lst [.int (li - 1), .int lj])) b := b3.other nlb
        have l4 : LeftAt (upd H3 l (.lst [.int (li - 1), .int lj])) l := ⟨_, _, upd_same⟩
        have q4 : upd H3 l (.lst [.int (li - 1), .int lj]) q = some (.lst xs) := (upd_ne nql).trans hq3
        have r4 : RowL (upd H3 l (.lst [.int (li - 1), .int lj])) rs xs := rl.kp (TupKp.upd' hl3 fun xs z => nomatch z)
        try dsimp only
        rw [show ([V.int li, V.int lj].set (Int.toNat 0) (V.int (li - 1))) = [V.int (li - 1), V.int lj] from rfl]
        generalize upd H3 l (.lst [.int (li - 1), .int lj]) = H4 at *
        refine ⟨_, rfl, .inl ⟨rfl, _, SqL.of q4⟩, ?_⟩
        refine ⟨_, rfl, _, rfl, _, rfl, _, rfl, b, d, l, kk, B, kvs, rfl, ek, b4, l4, nlb, bk.kp k4, ok, fun H5 v r k5 b5 l5 rv ov => ?_⟩
        have q5 := k5 _ _ nq q4
        have t45 : TupKp H4 H5 := fun a ys e => by
          refine k5 _ _ (fun z => ?_) e
          rcases z with rfl | rfl
          · obtain ⟨x, y, z, e'⟩ := b4; rw [e'] at e; cases e
          · obtain ⟨x, y, e'⟩ := l4; rw [e'] at e; cases e
        have q1000 : (1000 : Nat) < sizeLine := by decide
        refine ⟨q, xs, v, rfl, rfl, q5, by have := rl.len; omega, ?_⟩
        refine ⟨fun a o n h => (upd_ne (ne_of_none h hq)).trans ((k4.trans k5) a o n h), b5.other nqb, l5.keep' fun o e => (upd_ne nql.symm).trans e, xs ++ [v], rs ++ [r], _, rfl, upd_same, ?_, orl.app ov, by rw [List.length_append]; show _ + 1 ≤ _; omega⟩
        exact RowL.app ((r4.kp t45).kp (TupKp.upd' q5 fun xs z => nomatch z)) (rv.kp (TupKp.upd' q5 fun xs z => nomatch z))
      · exact next_go ⟨k3, b3, ⟨li, lj, hl3⟩, xs, rs, _, rfl, hq3, rl, orl, by omega⟩
    · rintro σ H3 ⟨k3, b3, l3, xs, rs, x5, rfl, hq3, rl, orl, lrs⟩
      refine ⟨_, rfl, q, xs, rfl, .inl ⟨SqL.of hq3, fun t ht => ?_⟩⟩
      obtain ⟨s4, h4⟩ := new_at (o := .tup xs) ht
      exact ret _ t xs rs (k3.trans (KpE.of s4)) (b3.keep s4) (l3.keep' fun o e => s4 _ _ e) h4 (rl.kp (TupKp.of s4)) orl (by omega)
abbrev s_law_row : Stmt := top 43
abbrev n_law_row : List Str := ["_law_box_here", "_law_book_here", "_law_left", "_law_deep", "_law_form", "_law_whats", "_law_test_here", "_law_ahead", "_law_others", "_law_factor", "_law_what"]
theorem sc_law_row : FnScope n_law_row ["_law_box_here", "_law_book_here", "_law_left", "_law_deep"] (defScope s_law_row) := ⟨rfl, rfl, rfl, by decide +kernel, rfl, by decide +kernel, by decide +kernel⟩
theorem ok_rowD {k n : Nat} (hn : 3 ≤ n) (T : Txt mg) (g_law_take : Has P w K mg base 1 "_law_take" ["_law_box_here", "_law_many"] spTake) (g_law_pick : Has P w K mg base 2 "_law_pick" ["_law_box_here", "_law_items"] spPick) (g_law_test : Has P w K mg base 3 "_law_test" ["_law_box_here", "_law_book_here", "_law_deep"] spTest)
    (g_law_rows : Has P w K mg base n "_law_rows" ["_law_box_here", "_law_book_here", "_law_left", "_law_deep"] (spRowsK k)) (F : DefAt K mg "_law_row" s_law_row ["_law_box_here", "_law_book_here", "_law_left", "_law_deep"]) : Has P w K mg base (n + 1) "_law_row" ["_law_box_here", "_law_book_here", "_law_left", "_law_deep"] (spRow k) := by
  refine F.has sc_law_row (fun vs H Q E h => ?_) (fun f cdv A outer s H vs Q E hr h => ?_)
  · obtain ⟨b, d, l, kk, B, kvs, rfl, _⟩ := h
    rfl
  · have hu := hr.units
    have hu1 := Nat.lt_of_le_of_lt (Nat.add_le_add_left (by decide : 1 ≤ 64) _) hu
    obtain ⟨b, d, l, kk, B, kvs, rfl, ek, hb, hl, nlb, bk, ok, ret⟩ := h
    refine ⟨_, (pss_cons (ps_par (i := 4) (j := 5) (by rfl) sc_law_row.nd rfl rfl (by decide) rfl rfl (pa_cons (pe_callHas g_law_take (hr.mono (by omega)) rfl (pa_cons (pv 0) (pa_cons pe_int pa_nil))) (pa_cons (pe_op op_cat (pe_lst (pa_cons pe_str (pa_cons pe_str (pa_cons pe_str (pa_cons pe_str (pa_cons pe_str pa_nil)))))) (pe_dget hu1 (pv 1) pe_str (fun _ _ => rfl))) pa_nil)) (by rfl))
      (pss_cons (ps_if (PW.pt (pw_and (pt_cmpR op_lt (pv 4) pe_int (nomark _)) (pw_and1 (pt_cmpR op_gt (pv 3) pe_int (nomark _))))) (pss_cons (ps_par (i := 6) (j := 7) (by rfl) sc_law_row.nd rfl rfl (by decide) rfl rfl (pa_cons (pe_callHas g_law_test (hr.mono (by omega)) rfl (pa_cons (pv 0) (pa_cons (pv 1) (pa_cons (pv 3) pa_nil)))) (pa_cons (pe_callHas g_law_rows (hr.mono (by omega)) rfl (pa_cons (pv 0) (pa_cons (pv 1) (pa_cons (pv 2) (pa_cons (pe_op op_sub (pv 3) pe_int) pa_nil))))) pa_nil)) (by rfl))
      (pss_cons (ps_set (i := 8) sc_law_row.nd rfl (Or.inl rfl) (pe_ifExp (pt_cmpR op_eq (pv 4) pe_int (nomark _)) (pe_callHas g_law_rows (hr.mono (by omega)) rfl (pa_cons (pv 0) (pa_cons (pv 1) (pa_cons (pv 2) (pa_cons (pe_op op_sub (pv 3) pe_int) pa_nil))))) (pe_tup pa_nil)))
      (pss_one (ps_ret (pe_tup (pa_cons pe_str (pa_cons (pv 6) (pa_cons (pv 7) (pa_cons (pv 8) pa_nil))))))))) pss_nil)
      (pss_cons (ps_if (PW.pt (pw_and (pt_cmpR op_lt (pv 4) pe_int (nomark _)) (pw_and1 (pt_cmpR op_gt (pe_ix ix_list (pv 2) pe_int (fun _ _ => rfl)) pe_int (nomark _))))) (pss_cons (ps_asg (pe_op op_sub (pe_ix ix_list (pv 2) pe_int (fun _ _ => rfl)) pe_int) (pg_sub (pv 2) pe_int set_list))
      (pss_cons (ps_par (i := 9) (j := 10) (by rfl) sc_law_row.nd rfl rfl (by decide) rfl rfl (pa_cons (pe_callHas g_law_pick (hr.mono (by omega)) rfl (pa_cons (pv 0) (pa_cons (pe_lst (pa_cons pe_int (pa_cons (pe_un un_neg pe_int) (pa_cons pe_int (pa_cons (pe_un un_neg pe_int) (pa_cons pe_int (pa_cons (pe_un un_neg pe_int) (pa_cons pe_int (pa_cons pe_int pa_nil))))))))) pa_nil))) (pa_cons (pe_callHas g_law_pick (hr.mono (by omega)) rfl (pa_cons (pv 0) (pa_cons (pv 5) pa_nil))) pa_nil)) (by rfl))
      (pss_one (ps_ret (pe_tup (pa_cons pe_str (pa_cons (pv 9) (pa_cons (pv 10) (pa_cons (pe_callHas g_law_pick (hr.mono (by omega)) rfl (pa_cons (pv 0) (pa_cons (pe_dget hu1 (pv 1) pe_str (fun _ _ => rfl)) pa_nil))) (pa_cons (pe_callHas g_law_pick (hr.mono (by omega)) rfl (pa_cons (pv 0) (pa_cons (pe_lst (pa_cons pe_str (pa_cons pe_str (pa_cons pe_str pa_nil)))) pa_nil))) pa_nil)))))))))) pss_nil)
      (pss_cons (ps_if (PW.pt (pw_and (pt_cmpR op_lt (pv 4) pe_int (nomark _)) (pw_and1 (pt_cmpR (op_neD hu) (pe_dget hu1 (pv 1) pe_str (fun _ _ => rfl)) (pe_lst pa_nil) (nomark _))))) (pss_one (ps_ret (pe_tup (pa_cons pe_str (pa_cons (pe_callHas g_law_pick (hr.mono (by omega)) rfl (pa_cons (pv 0) (pa_cons (pe_dget hu1 (pv 1) pe_str (fun _ _ => rfl)) pa_nil))) (pa_cons (pe_callHas g_law_pick (hr.mono (by omega)) rfl (pa_cons (pv 0) (pa_cons (pv 5) pa_nil))) pa_nil)))))) pss_nil)
      (pss_one (ps_ret (pe_tup (pa_cons pe_str (pa_cons (pe_callHas g_law_pick (hr.mono (by omega)) rfl (pa_cons (pv 0) (pa_cons (pe_lst (pa_cons pe_str (pa_cons pe_str (pa_cons pe_str pa_nil)))) pa_nil))) pa_nil))))))))), ?_⟩
    have nm := ok.names
    rw [List.length_append, List.length_append, List.length_append] at nm
    have q1000 : (1000 : Nat) < sizeLine := by decide
    refine seq_par (cons_go ⟨_, rfl, b, 10, rfl, hb, by decide, by decide, fun f x y z f0 f1 => ?_⟩)
    have k1 : KpE (ExBL b l) H (upd H b (.lst [.int x, .int y, .int z])) := KpE.but (.inl rfl) But.upd'
    have b1 : Box (upd H b (.lst [.int x, .int y, .int z])) b := Box.upd'
    have l1 : LeftAt (upd H b (.lst [.int x, .int y, .int z])) l := hl.keep' fun o e => (upd_ne nlb).trans e
    generalize upd H b (.lst [.int x, .int y, .int z]) = H1 at *
    refine cons_go (op_go (lst_go (xs := whatL.map V.str) (fun Q q => q) (by decide) fun H2 p s2 hp h2 => ?_))
    have bk2 := bk.kp (k1.trans (KpE.of s2))
    obtain ⟨r, gr, nr, hr2⟩ := bk2.notes.get bk2.at'
    refine ⟨_, rfl, d, _, rfl, gr, p, r, _, _, rfl, rfl, h2, hr2, by rw [List.length_map, List.length_map]; show 5 + _ ≤ sizeLine; omega, fun t ht => ⟨_, _, rfl, ?_⟩⟩
    obtain ⟨s3, h3⟩ := new_at (o := .lst (whatL.map V.str ++ B.notes.map V.str)) ht
    have k3 : KpE (ExBL b l) H (upd H2 t (.lst (whatL.map V.str ++ B.notes.map V.str))) := k1.trans (KpE.of (s2.trans s3))
    have b3 := b1.keep (s2.trans s3)
    have l3 := l1.keep' fun o e => (s2.trans s3) _ _ e
    have ntb : t ≠ b := new_ne (b1.keep s2).ne ht
    have ntl : t ≠ l := new_ne (l1.keep' fun o e => s2 _ _ e).ne ht
    have nt : ¬ ExBL b l t := fun z => z.elim ntb ntl
    generalize upd H2 t (.lst (whatL.map V.str ++ B.notes.map V.str)) = H3 at *
    rw [← List.map_append] at h3
    have lws : (whatL ++ B.notes).length = 5 + B.notes.length := by rw [List.length_append]; rfl
    try dsimp only
    have bk3 := bk.kp k3
    have bkb := bk3.mono (ex' := (· = b)) fun a e => .inl e
    refine seq_go (ifS_go (c := decide (f < 2) && decide (0 < kk)) (fun Q q => and_go (fun Q q => ⟨_, rfl, _, _, rfl, rfl, _, rfl, q⟩) (fun Q q => ⟨_, rfl, _, _, rfl, rfl, _, rfl, q⟩) q) (fun hc => ?_) (fun _ => next_go ?_))
    · obtain ⟨hf, hk⟩ := Bool.and_eq_true_iff.mp hc
      have hk' : 0 < kk := of_decide_eq_true hk
      obtain ⟨k', rfl⟩ : ∃ k', k = k' + 1 := ⟨k - 1, by omega⟩
      refine seq_par (cons_go ⟨_, rfl, _, rfl, _, rfl, b, d, _, B, kvs, rfl, b3, bkb, ok, fun H4 tv td u4 b4 rt ot dt => ?_⟩)
      have k4 : KpE (ExBL b l) H H4 := k3.trans (KpE.but (.inl rfl) u4)
      have l4 := l3.keep' fun o e => u4 _ _ nlb e
      refine cons_go ⟨_, rfl, _, rfl, _, rfl, _, rfl, _, _, rfl, rfl, b, d, l, kk - 1, B, kvs, rfl, by omega, b4, l4, nlb, bk.kp k4, ok, fun H5 q xs rs k5 b5 l5 hq rl orl lr => ⟨_, _, rfl, ?_⟩⟩
      have rt5 := rt.kp (tupE b4 l4 k5)
      have fin : ∀ (H6 : Hp) (y : Addr) (ys : List V) (rs2 : List RowD), KpE (ExBL b l) H5 H6 → Box H6 b → LeftAt H6 l → TupKp H5 H6 → H6 y = some (.tup ys) → RowL H6 rs2 ys → okRowL B rs2 k' → rs2.length ≤ 3 → ∀ p, H6 p = none → Q (.ref p) (upd H6 p (.tup [V.str "if", tv, .ref q, .ref y])) := fun H6 y ys rs2 k6 b6 l6 t6 hy rl2 or2 lr2 p hp => by
        obtain ⟨s7, h7⟩ := new_at (o := .tup [V.str "if", tv, V.ref q, V.ref y]) hp
        refine ret _ _ (.ife td rs rs2) (((k4.trans k5).trans k6).trans (KpE.of s7)) (b6.keep s7) (l6.keep' fun o e => s7 _ _ e) ?_ ?_
        · unfold RowAt
          exact ⟨p, tv, q, y, xs, ys, rfl, h7, (rt5.kp t6).kp (TupKp.of s7), s7 _ _ (t6 _ _ hq), (rl.kp t6).kp (TupKp.of s7), s7 _ _ hy, rl2.kp (TupKp.of s7)⟩
        · unfold okRow
          exact ⟨k', rfl, ot, dt, lr, lr2, orl, or2⟩
      try dsimp only
      refine seq_asg ⟨_, rfl, rfl, _, rfl, ite2 (fun _ => ?_) (fun _ => ?_)⟩
      · refine ⟨_, rfl, _, rfl, _, rfl, _, rfl, _, _, rfl, rfl, b, d, l, kk - 1, B, kvs, rfl, by omega, b5, l5, nlb, bk.kp (k4.trans k5), ok, fun H6 y ys rs2 k6 b6 l6 hy rl2 or2 lr2 => name_go ?_⟩
        exact ret_go (tup_go (cons_go (c_go (cons_go ⟨_, rfl, cons_go ⟨_, rfl, cons_go ⟨_, rfl, ⟨(by decide : 4 ≤ sizeLine), fin H6 y ys rs2 k6 b6 l6 (tupE b5 l5 k6) hy rl2 or2 lr2⟩⟩⟩⟩))))
      · refine tupc_go (xs := []) (fun Q q => q) (by decide) fun H6 y s6 hy0 hy => name_go ?_
        exact ret_go (tup_go (cons_go (c_go (cons_go ⟨_, rfl, cons_go ⟨_, rfl, cons_go ⟨_, rfl, ⟨(by decide : 4 ≤ sizeLine), fin H6 y [] [] (KpE.of s6) (b5.keep s6) (l5.keep' fun o e => s6 _ _ e) (TupKp.of s6) hy (by unfold RowL; rfl) (by unfold okRowL; trivial) (by decide)⟩⟩⟩⟩))))
    try dsimp only
    obtain ⟨li, lj, hl3⟩ := l3
    refine seq_go (ifS_go (c := decide (f < 7) && decide (0 < lj)) (fun Q q => and_go (fun Q q => ⟨_, rfl, _, _, rfl, rfl, _, rfl, q⟩) (fun Q q => ⟨_, rfl, l, _, _, _, rfl, rfl, SqL.of hl3, rfl, _, _, rfl, rfl, _, rfl, q⟩) q) (fun hc => ?_) (fun _ => next_go ?_))
    · refine ⟨_, rfl, l, _, _, _, rfl, rfl, SqL.of hl3, rfl, _, _, rfl, rfl, _, rfl, l, _, _, _, rfl, rfl, hl3, rfl, ?_⟩
      try dsimp only
      rw [show ([V.int li, V.int lj].set (Int.toNat 1) (V.int (lj - 1))) = [V.int li, V.int (lj - 1)] from rfl]
      have k4 : KpE (ExBL b l) H (upd H3 l (.lst [.int li, .int (lj - 1)])) := k3.trans fun a o n h => (upd_ne fun z => n (.inr z)).trans h
      have b4 : Box (upd H3 l (.lst [.int li, .int (lj - 1)])) b := b3.other nlb
      have l4 : LeftAt (upd H3 l (.lst [.int li, .int (lj - 1)])) l := ⟨_, _, upd_same⟩
      have t4 : upd H3 l (.lst [.int li, .int (lj - 1)]) t = some (.lst ((whatL ++ B.notes).map V.str)) := (upd_ne ntl).trans h3
      generalize upd H3 l (.lst [.int li, .int (lj - 1)]) = H4 at *
      refine seq_par (cons_go ?_)
      refine ⟨_, rfl, cons_go (lst_go (xs := facL.map V.int) (fun Q q => ⟨1, rfl, 1, rfl, 3, rfl, q⟩) (by decide) fun H5 p5 s5 hp5 h5 => ?_)⟩
      unfold tNil
      dsimp only
      refine pick_map (b4.keep s5) h5 (new_ne b4.ne hp5) (by decide) (by decide) fun H6 fct u6 b6 mf => ?_
      have f6 : -999 ≤ fct ∧ fct ≤ 999 := by
        have all : facL.all (fun n => decide (-999 ≤ n) && decide (n ≤ 999)) = true := by decide
        have := List.all_eq_true.mp all fct mf
        simpa using this
      have k6 : KpE (ExBL b l) H4 H6 := (KpE.of s5).trans (KpE.but (.inl rfl) u6)
      refine cons_go ⟨_, rfl, _, rfl, ?_⟩
      refine pick_map b6 (k6 _ _ nt t4) ntb (by rw [lws]; omega) (by rw [lws]; omega) fun H7 wd u7 b7 mw => ⟨_, _, rfl, ?_⟩
      have k7 : KpE (ExBL b l) H H7 := (k4.trans k6).trans (KpE.but (.inl rfl) u7)
      have l7 := l4.keep' fun o e => u7 _ _ nlb (u6 _ _ nlb (s5 _ _ e))
      have bk7 := bk.kp k7
      obtain ⟨r7, g7, n7, h7⟩ := bk7.totals.get bk7.at'
      have t0 : 0 < B.totals.length := List.length_pos_iff.mpr ok.totals0
      try dsimp only
      refine ret_go (tup_go (cons_go (c_go (cons_go ⟨_, rfl, cons_go ⟨_, rfl, cons_go ?_⟩⟩))))
      refine ⟨_, rfl, _, rfl, d, _, rfl, g7, ?_⟩
      refine pick_map b7 h7 (fun z => n7 (.inl z)) t0 (by omega) fun H8 tt u8 b8 mt => ?_
      refine cons_go ⟨_, rfl, cons_go (lst_go (xs := plcL.map V.str) (fun Q q => q) (by decide) fun H9 p9 s9 hp9 h9 => ?_)⟩
      try dsimp only
      refine pick_map (b8.keep s9) h9 (new_ne b8.ne hp9) (by decide) (by decide) fun HA pl uA bA mp => ⟨(by decide : 5 ≤ sizeLine), fun q hq => ?_⟩
      obtain ⟨sB, hB⟩ := new_at (o := .tup [V.str "add", V.int fct, V.str wd, V.str tt, V.str pl]) hq
      refine ret _ _ (.add fct wd tt pl) (((k7.trans (KpE.but (.inl rfl) u8)).trans (KpE.of s9)).trans ((KpE.but (.inl rfl) uA).trans (KpE.of sB))) (bA.keep sB) (l7.keep' fun o e => sB _ _ (uA _ _ nlb (s9 _ _ (u8 _ _ nlb e)))) ?_ ?_
      · unfold RowAt; exact ⟨q, rfl, hB⟩
      · unfold okRow; exact ⟨f6.1, f6.2, okWhat_of mw, mt, mp⟩
    try dsimp only
    have l3 : LeftAt H3 l := ⟨_, _, hl3⟩
    have mark : ∀ (H4 H6 : Hp) (pl : Str) (q : Addr), Same H3 H4 → But b H4 H6 → Box H6 b → pl ∈ mrkL → H6 q = none → Q (.ref q) (upd H6 q (.tup [V.str "mark", V.str pl])) := fun H4 H6 pl q s4 u6 b6 mp hq => by
      obtain ⟨s7, h7⟩ := new_at (o := .tup [V.str "mark", V.str pl]) hq
      refine ret _ _ (.mark pl) (((k3.trans (KpE.of s4)).trans (KpE.but (.inl rfl) u6)).trans (KpE.of s7)) (b6.keep s7) (l3.keep' fun o e => s7 _ _ (u6 _ _ nlb (s4 _ _ e))) ?_ ?_
      · unfold RowAt; exact ⟨q, rfl, h7⟩
      · unfold okRow; exact mp
    obtain ⟨r3, g3, n3, hr3⟩ := bk3.notes.get bk3.at'
    refine seq_go ⟨_, rfl, _, _, rfl, rfl, _, rfl, ite2 (fun _ => ?_) (fun _ => iteSf rfl (next_go ?_))⟩
    · refine ⟨_, rfl, d, _, rfl, g3, lst_go (xs := []) (fun Q q => q) (by decide) fun H4 e s4 he h4 => ?_⟩
      have sh := strs_shaped fun x hx => strOk_name (ok.toks x (List.mem_append_right _ hx))
      refine ⟨.list (B.notes.map PyData.str), .list [], .lst (SqL.of (s4 _ _ hr3)) (strs_dp _), .lst (SqL.of h4) .nil, sh, by decide +kernel, _, rfl, ?_⟩
      rw [strs_eqv]
      have b4 := b3.keep s4
      by_cases hn : B.notes = []
      · refine iteSf (by rw [decide_eq_true hn]; rfl) (next_go ?_)
        try dsimp only
        refine ret_go (tup_go (cons_go (c_go (cons_go ?_))))
        refine ⟨_, rfl, cons_go (lst_go (xs := mrkL.map V.str) (fun Q q => q) (by decide) fun H5 p5 s5 hp5 h5 => ?_)⟩
        unfold tNil
        dsimp only
        exact pick_map (b4.keep s5) h5 (new_ne b4.ne hp5) (by decide) (by decide) fun H6 pl u6 b6 mp => ⟨(by decide : 2 ≤ sizeLine), fun q hq => mark H5 H6 pl q (s4.trans s5) u6 b6 mp hq⟩
      · refine iteSe (by rw [decide_eq_false hn]; rfl) ?_
        have n0 : 0 < B.notes.length := List.length_pos_iff.mpr hn
        refine ret_go (tup_go (cons_go (c_go (cons_go ?_))))
        have bk4 := bk3.kp (KpE.of s4)
        obtain ⟨r4, g4, n4, hr4⟩ := bk4.notes.get bk4.at'
        refine ⟨_, rfl, _, rfl, d, _, rfl, g4, ?_⟩
        unfold tNil
        dsimp only
        refine pick_map b4 hr4 (fun z => n4 (.inl z)) n0 (by omega) fun H5 nt5 u5 b5 mn => ?_
        refine cons_go ⟨_, rfl, _, rfl, ?_⟩
        refine pick_map b5 (u5 _ _ ntb (s4 _ _ h3)) ntb (by rw [lws]; omega) (by rw [lws]; omega) fun H6 wd u6 b6 mw => ⟨(by decide : 3 ≤ sizeLine), fun q hq => ?_⟩
        obtain ⟨s7, h7⟩ := new_at (o := .tup [V.str "put", V.str nt5, V.str wd]) hq
        refine ret _ _ (.put nt5 wd) (((k3.trans (KpE.of s4)).trans (KpE.but (.inl rfl) (u5.trans u6))).trans (KpE.of s7)) (b6.keep s7) (l3.keep' fun o e => s7 _ _ (u6 _ _ nlb (u5 _ _ nlb (s4 _ _ e)))) ?_ ?_
        · unfold RowAt; exact ⟨q, rfl, h7⟩
        · unfold okRow; exact ⟨mn, okWhat_of mw⟩
    · try dsimp only
      refine ret_go (tup_go (cons_go (c_go (cons_go ?_))))
      refine ⟨_, rfl, cons_go (lst_go (xs := mrkL.map V.str) (fun Q q => q) (by decide) fun H5 p5 s5 hp5 h5 => ?_)⟩
      unfold tNil
      dsimp only
      exact pick_map (b3.keep s5) h5 (new_ne b3.ne hp5) (by decide) (by decide) fun H6 pl u6 b6 mp => ⟨(by decide : 2 ≤ sizeLine), fun q hq => mark H5 H6 pl q s5 u6 b6 mp hq⟩
/-- rows and row, for any depth -/
theorem ok_rowsAll (T : Txt mg) (g_law_take : Has P w K mg base 1 "_law_take" ["_law_box_here", "_law_many"] spTake) (g_law_pick : Has P w K mg base 2 "_law_pick" ["_law_box_here", "_law_items"] spPick) (g_law_test : Has P w K mg base 3 "_law_test" ["_law_box_here", "_law_book_here", "_law_deep"] spTest)
    (FR : DefAt K mg "_law_row" s_law_row ["_law_box_here", "_law_book_here", "_law_left", "_law_deep"]) (FS : DefAt K mg "_law_rows" s_law_rows ["_law_box_here", "_law_book_here", "_law_left", "_law_deep"]) : ∀ k : Nat, Has P w K mg base (5 + 2 * k) "_law_rows" ["_law_box_here", "_law_book_here", "_law_left", "_law_deep"] (spRows k)
  | 0 => by
    have g0 : Has P w K mg base 3 "_law_rows" ["_law_box_here", "_law_book_here", "_law_left", "_law_deep"] (spRowsK 0) := FS.has sc_law_rows (fun vs H Q E h => h.elim) (fun f cdv A outer s H vs Q E hr h => h.elim)
    exact ok_rowsD (by omega) T g_law_take (ok_rowD (n := 3) (by omega) T g_law_take g_law_pick g_law_test g0 FR) FS
  | k + 1 => by
    have g := ok_rowsAll T g_law_take g_law_pick g_law_test FR FS k
    exact ok_rowsD (n := 5 + 2 * k + 1) (by omega) T g_law_take (ok_rowD (k := k + 1) (n := 5 + 2 * k) (by omega) T g_law_take g_law_pick g_law_test g FR) FS
end
end K14

set_option pp.maxSteps 600
namespace K14
open PySem L2 PySem.Spec PyProof.Rows
theorem new_but {b o : Addr} {H H' : Hp} (u : But b H H') (hb : Box H' b) (h : H' o = none) : H o = none := by
  cases e : H o with
  | none => rfl
  | some x =>
    by_cases n : o = b
    · obtain ⟨x, y, z, q⟩ := hb
      rw [n, q] at h
      cases h
    · rw [u _ _ n e] at h
      cases h
theorem ev_first {b t : Addr} {nm : Str} {B : BookD} {H H2 : Hp} {D : Ends} {σ : L2.St} (e0 : σ[0]? = some (some (.ref b))) (e2 : σ[2]? = some (some (.str nm))) (e4 : σ[4]? = some (some (.ref t))) (u2 : But b H H2) (b2 : Box H2 b) (nt : t ≠ b) (ht : H2 t = some (.lst ((B.rests ++ B.passes).map V.str))) (l0 : 0 < (B.rests ++ B.passes).length) (l1 : (B.rests ++ B.passes).length ≤ 1000) (onm : nameB nm = true)
    (k : ∀ (H' : Hp) (p o : Addr) (e : EventD), But b H H' → Box H' b → H o = none → H' p = some (.tup [.str e.name, .ref o, .str e.kind, .bl e.amount, .bl e.group]) → H' o = some (.lst (e.origins.map V.str)) → e.name = nm → okEvent B e → D.rt (.ref p) H') :
    tRet (tTup (tCons (tVar 2) (tCons (tLst (tCons (tC (.str "none")) tNil)) (tCons (tCall spPick [] E0 (tCons (tVar 0) (tCons (tVar 4) tNil))) (tCons (tC (.bl true)) (tCons (tC (.bl true)) tNil)))))) D σ H2 := by
  refine ret_go (tup_go (cons_go ⟨_, e2, cons_go (lst_go (xs := [.str "none"]) (fun Q q => q) (by decide) fun H3 o s3 ho h3 => ?_)⟩))
  refine cons_go ⟨_, e0, _, e4, ?_⟩
  unfold tNil
  dsimp only
  refine pick_map (b2.keep s3) (s3 _ _ ht) nt l0 l1 fun H4 kd u4 b4 mk => ⟨(by decide : 5 ≤ sizeLine), fun p hp => ?_⟩
  obtain ⟨s5, h5⟩ := new_at (o := .tup [V.str nm, V.ref o, V.str kd, V.bl true, V.bl true]) hp
  exact k _ p o ⟨nm, [("none" : Str)], kd, true, true⟩ (((u2.trans (Same.but s3)).trans u4).trans (Same.but s5)) (b4.keep s5) (new_but u2 b2 ho) h5 (s5 _ _ (u4 _ _ (new_ne b2.ne ho) h3)) rfl ⟨onm, .inl ⟨rfl, mk, rfl, rfl⟩⟩
section
variable {P : Program} {w : World} {K : PySem.W.Frag} {mg : Str → Option Value} {base : Heap}
abbrev s_law_event : Stmt := top 45
abbrev n_law_event : List Str := ["_law_box_here", "_law_book_here", "_law_name", "_law_is_first", "_law_kinds", "_law_origins"]
theorem sc_law_event : FnScope n_law_event ["_law_box_here", "_law_book_here", "_law_name", "_law_is_first"] (defScope s_law_event) := ⟨rfl, rfl, rfl, by decide +kernel, rfl, by decide +kernel, by decide +kernel⟩
def spEvD : Sp := fun vs H Q _ => ∃ (b d : Addr) (nm : Str) (isf : Bool) (B : BookD) (kvs : List (Key × V)), vs = [.ref b, .ref d, .str nm, .bl isf] ∧ Box H b ∧ BkAt H (· = b) d B kvs ∧ BkOk B ∧ nameB nm = true ∧
  ∀ (H' : Hp) (p o : Addr) (e : EventD), But b H H' → Box H' b → H o = none → H' p = some (.tup [.str e.name, .ref o, .str e.kind, .bl e.amount, .bl e.group]) → H' o = some (.lst (e.origins.map V.str)) → e.name = nm → okEvent B e → Q (.ref p) H'
theorem ok_evD (T : Txt mg) (g_law_take : Has P w K mg base 1 "_law_take" ["_law_box_here", "_law_many"] spTake) (g_law_pick : Has P w K mg base 2 "_law_pick" ["_law_box_here", "_law_items"] spPick) (g_law_mixed : Has P w K mg base 2 "_law_mixed" ["_law_box_here", "_law_items"] spMixed)
    (F : DefAt K mg "_law_event" s_law_event ["_law_box_here", "_law_book_here", "_law_name", "_law_is_first"]) : Has P w K mg base 3 "_law_event" ["_law_box_here", "_law_book_here", "_law_name", "_law_is_first"] spEvD := by
  refine F.has sc_law_event (fun vs H Q E h => ?_) (fun f cdv A outer s H vs Q E hr h => ?_)
  · obtain ⟨b, d, nm, isf, B, kvs, rfl, _⟩ := h
    rfl
  · have hu := hr.units
    have hu1 := Nat.lt_of_le_of_lt (Nat.add_le_add_left (by decide : 1 ≤ 64) _) hu
    obtain ⟨b, d, nm, isf, B, kvs, rfl, hb, bk, ok, onm, k⟩ := h
    refine ⟨_, (pss_cons (ps_set (i := 4) sc_law_event.nd rfl (Or.inl rfl) (pe_op op_cat (pe_dget hu1 (pv 1) pe_str (fun _ _ => rfl)) (pe_dget hu1 (pv 1) pe_str (fun _ _ => rfl))))
      (pss_cons (ps_if (PW.pt (pw_or (pt_val (pv 3)) (pw_or1 (pt_cmpR op_eq (pe_callHas g_law_take (hr.mono (by decide)) rfl (pa_cons (pv 0) (pa_cons pe_int pa_nil))) pe_int (nomark _))))) (pss_one (ps_ret (pe_tup (pa_cons (pv 2) (pa_cons (pe_lst (pa_cons pe_str pa_nil)) (pa_cons (pe_callHas g_law_pick (hr.mono (by decide)) rfl (pa_cons (pv 0) (pa_cons (pv 4) pa_nil))) (pa_cons pe_bl (pa_cons pe_bl pa_nil)))))))) pss_nil)
      (pss_cons (ps_set (i := 5) sc_law_event.nd rfl (Or.inl rfl) (pe_slice sl_list (pe_callHas g_law_mixed (hr.mono (by decide)) rfl (pa_cons (pv 0) (pa_cons (pv 4) pa_nil))) po_none (po_some (pe_op op_add pe_int (pe_callHas g_law_take (hr.mono (by decide)) rfl (pa_cons (pv 0) (pa_cons (pe_callB call_len (by rfl) T.z_len (by decide +kernel) (pa_cons (pv 4) pa_nil)) pa_nil)))))))
      (pss_cons (ps_if (pt_cmpR op_eq (pe_callHas g_law_take (hr.mono (by decide)) rfl (pa_cons (pv 0) (pa_cons pe_int pa_nil))) pe_int (nomark _)) (pss_one (ps_ret (pe_tup (pa_cons (pv 2) (pa_cons (pv 5) (pa_cons pe_str (pa_cons pe_bl (pa_cons pe_bl pa_nil)))))))) pss_nil)
      (pss_one (ps_ret (pe_tup (pa_cons (pv 2) (pa_cons (pv 5) (pa_cons (pe_callHas g_law_pick (hr.mono (by decide)) rfl (pa_cons (pv 0) (pa_cons (pv 4) pa_nil))) (pa_cons (pe_cmpR op_eq (pe_callHas g_law_take (hr.mono (by decide)) rfl (pa_cons (pv 0) (pa_cons pe_int pa_nil))) pe_int (nomark _)) (pa_cons (pe_cmpR op_eq (pe_callHas g_law_take (hr.mono (by decide)) rfl (pa_cons (pv 0) (pa_cons pe_int pa_nil))) pe_int (nomark _)) pa_nil)))))))))))), ?_⟩
    have nml := ok.names
    rw [List.length_append, List.length_append] at nml
    have q1000 : (1000 : Nat) < sizeLine := by decide
    obtain ⟨r1, g1, n1, h1⟩ := bk.rests.get bk.at'
    obtain ⟨r2, g2, n2, h2⟩ := bk.passes.get bk.at'
    refine seq_asg (op_go ?_)
    refine ⟨_, rfl, d, _, rfl, g1, _, rfl, d, _, rfl, g2, r1, r2, _, _, rfl, rfl, h1, h2, by rw [List.length_map, List.length_map]; omega, fun t ht => name_go ?_⟩
    obtain ⟨s1, h1t⟩ := new_at (o := .lst (B.rests.map V.str ++ B.passes.map V.str)) ht
    rw [← List.map_append] at h1t s1 ⊢
    have b1 := hb.keep s1
    have ntb : t ≠ b := new_ne hb.ne ht
    generalize upd H t (.lst ((B.rests ++ B.passes).map V.str)) = H1 at *
    try dsimp only
    have kl0 : 0 < (B.rests ++ B.passes).length := by rw [List.length_append]; have := List.length_pos_iff.mpr ok.rests0; omega
    have kl1 : (B.rests ++ B.passes).length ≤ 100 := by rw [List.length_append]; omega
    cases isf with
    | true =>
      refine seq_go ⟨_, rfl, _, rfl, iteSe rfl (iteSe rfl ?_)⟩
      exact ev_first rfl rfl rfl (Same.but s1) b1 ntb h1t kl0 (by omega) onm k
    | false =>
      refine seq_go ⟨_, rfl, _, rfl, iteSf rfl ⟨_, rfl, b, 6, rfl, b1, by decide, by decide, fun e x y z e0 e1 => ?_⟩⟩
      have u2 : But b H (upd H1 b (.lst [.int x, .int y, .int z])) := (Same.but s1).trans But.upd'
      have b2 : Box (upd H1 b (.lst [.int x, .int y, .int z])) b := Box.upd'
      have t2 : upd H1 b (.lst [.int x, .int y, .int z]) t = some (.lst ((B.rests ++ B.passes).map V.str)) := (upd_ne ntb).trans h1t
      generalize upd H1 b (.lst [.int x, .int y, .int z]) = H2 at *
      refine ⟨rfl, _, rfl, ite2 (fun _ => ?_) (fun _ => next_go ?_)⟩
      · exact ev_first rfl rfl rfl u2 b2 ntb t2 kl0 (by omega) onm k
      try dsimp only
      refine seq_asg ⟨_, rfl, _, rfl, b, t, _, rfl, b2, t2, ntb, by rw [List.length_map]; omega, fun H3 q bs u3 b3 nqb hq hbs pm => ?_⟩
      obtain ⟨ms, rfl, pms⟩ := perm_strs pm
      have lms : ms.length = (B.rests ++ B.passes).length := pms.length_eq
      have t3 := u3 _ _ ntb t2
      refine ⟨_, rfl, _, rfl, _, _, rfl, .inl ⟨_, SqL.of t3, rfl⟩, b, _, rfl, b3, by rw [List.length_map]; omega, by rw [List.length_map]; omega, fun e2 x y z e20 e21 => ?_⟩
      rw [List.length_map] at e21
      have u4 : But b H (upd H3 b (.lst [.int x, .int y, .int z])) := (u2.trans u3).trans But.upd'
      have b4 : Box (upd H3 b (.lst [.int x, .int y, .int z])) b := Box.upd'
      have t4 : upd H3 b (.lst [.int x, .int y, .int z]) t = some (.lst ((B.rests ++ B.passes).map V.str)) := (upd_ne ntb).trans t3
      have q4 : upd H3 b (.lst [.int x, .int y, .int z]) q = some (.lst (ms.map V.str)) := (upd_ne nqb).trans hbs
      generalize upd H3 b (.lst [.int x, .int y, .int z]) = H4 at *
      obtain ⟨m, em⟩ : ∃ m : Nat, 1 + e2 = (m : Int) := ⟨(1 + e2).toNat, by omega⟩
      have m0 : 0 < m := by omega
      have ml : m ≤ ms.length := by omega
      refine ⟨_, _, rfl, rfl, _, rfl, q, _, rfl, SqL.of q4, fun o ho => name_go ?_⟩
      rw [em, cutN (by rw [List.length_map]; exact ml), ← List.map_take]
      obtain ⟨s5, h5⟩ := new_at (o := .lst ((ms.take m).map V.str)) ho
      have ho0 : H o = none := new_but u4 b4 ho
      have u5 : But b H (upd H4 o (.lst ((ms.take m).map V.str))) := u4.trans (Same.but s5)
      have b5 := b4.keep s5
      have t5 := s5 _ _ t4
      have nob : o ≠ b := new_ne b4.ne ho
      generalize upd H4 o (.lst ((ms.take m).map V.str)) = H5 at *
      try dsimp only
      have oo : (ms.take m) ≠ [] ∧ (ms.take m).Nodup ∧ ∀ s ∈ ms.take m, s ∈ B.rests ++ B.passes := by
        refine ⟨fun z => ?_, (pms.nodup_iff.mpr ok.kindsNd).sublist (List.take_sublist _ _), fun s hs => pms.mem_iff.mp (List.mem_of_mem_take hs)⟩
        have := congrArg List.length z
        rw [List.length_take] at this
        have : min m ms.length = 0 := this
        omega
      refine seq_go ⟨_, rfl, b, 4, rfl, b5, by decide, by decide, fun e3 x y z e30 e31 => ?_⟩
      have u6 : But b H (upd H5 b (.lst [.int x, .int y, .int z])) := u5.trans But.upd'
      have b6 : Box (upd H5 b (.lst [.int x, .int y, .int z])) b := Box.upd'
      have t6 : upd H5 b (.lst [.int x, .int y, .int z]) t = some (.lst ((B.rests ++ B.passes).map V.str)) := (upd_ne ntb).trans t5
      have o6 : upd H5 b (.lst [.int x, .int y, .int z]) o = some (.lst ((ms.take m).map V.str)) := (upd_ne nob).trans h5
      generalize upd H5 b (.lst [.int x, .int y, .int z]) = H6 at *
      refine ⟨rfl, _, rfl, ite2 (fun _ => ?_) (fun _ => next_go ?_)⟩
      · refine ret_go (tup_go (cons_go ⟨_, rfl, cons_go ⟨_, rfl, (by decide : 5 ≤ sizeLine), fun p hp => ?_⟩⟩))
        obtain ⟨s7, h7⟩ := new_at (o := .tup [V.str nm, V.ref o, V.str "none", V.bl false, V.bl false]) hp
        exact k _ p o ⟨nm, ms.take m, "none", false, false⟩ (u6.trans (Same.but s7)) (b6.keep s7) ho0 h7 (s7 _ _ o6) rfl ⟨onm, .inr ⟨oo.1, oo.2.1, oo.2.2, .inl ⟨rfl, rfl, rfl⟩⟩⟩
      try dsimp only
      refine ret_go (tup_go (cons_go ⟨_, rfl, cons_go ⟨_, rfl, cons_go ⟨_, rfl, _, rfl, ?_⟩⟩⟩))
      unfold tNil
      dsimp only
      refine pick_map b6 t6 ntb kl0 (by omega) fun H7 kd u7 b7 mk => ?_
      refine cons_go (op_go ⟨_, rfl, b, 2, rfl, b7, by decide, by decide, fun e4 x y z e40 e41 => ⟨rfl, ?_⟩⟩)
      have u8 : But b H (upd H7 b (.lst [.int x, .int y, .int z])) := (u6.trans u7).trans But.upd'
      have b8 : Box (upd H7 b (.lst [.int x, .int y, .int z])) b := Box.upd'
      have o8 : upd H7 b (.lst [.int x, .int y, .int z]) o = some (.lst ((ms.take m).map V.str)) := (upd_ne nob).trans (u7 _ _ nob o6)
      generalize upd H7 b (.lst [.int x, .int y, .int z]) = H8 at *
      refine cons_go (op_go ⟨_, rfl, b, 3, rfl, b8, by decide, by decide, fun e5 x y z e50 e51 => ⟨rfl, (by decide : 5 ≤ sizeLine), fun p hp => ?_⟩⟩)
      obtain ⟨s9, h9⟩ := new_at (o := .tup [V.str nm, V.ref o, V.str kd, V.bl (decide (V.int e4 = V.int 0)), V.bl (decide (V.int e5 = V.int 0))]) hp
      exact k _ p o ⟨nm, ms.take m, kd, _, _⟩ ((u8.trans But.upd').trans (Same.but s9)) (Box.upd'.keep s9) ho0 h9 (s9 _ _ ((upd_ne nob).trans o8)) rfl ⟨onm, .inr ⟨oo.1, oo.2.1, oo.2.2, .inr mk⟩⟩
abbrev s_law_worth : Stmt := top 46
abbrev n_law_worth : List Str := ["_law_box_here", "_law_book_here", "_law_total", "_law_kind", "_law_least", "_law_below"]
theorem sc_law_worth : FnScope n_law_worth ["_law_box_here", "_law_book_here"] (defScope s_law_worth) := ⟨rfl, rfl, rfl, by decide +kernel, rfl, by decide +kernel, by decide +kernel⟩
def spWoD : Sp := fun vs H Q _ => ∃ (b d : Addr) (B : BookD) (kvs : List (Key × V)), vs = [.ref b, .ref d] ∧ Box H b ∧ BkAt H (· = b) d B kvs ∧ BkOk B ∧ ∀ (H' : Hp) (v : V) (e : WorthD), But b H H' → Box H' b → WorthAt H' v e → okWorth B e → Q v H'
theorem ok_woD (T : Txt mg) (g_law_pick : Has P w K mg base 2 "_law_pick" ["_law_box_here", "_law_items"] spPick) (F : DefAt K mg "_law_worth" s_law_worth ["_law_box_here", "_law_book_here"]) : Has P w K mg base 3 "_law_worth" ["_law_box_here", "_law_book_here"] spWoD := by
  refine F.has sc_law_worth (fun vs H Q E h => ?_) (fun f cdv A outer s H vs Q E hr h => ?_)
  · obtain ⟨b, d, B, kvs, rfl, _⟩ := h
    rfl
  · have hu := hr.units
    have hu1 := Nat.lt_of_le_of_lt (Nat.add_le_add_left (by decide : 1 ≤ 64) _) hu
    obtain ⟨b, d, B, kvs, rfl, hb, bk, ok, k⟩ := h
    refine ⟨_, (pss_cons (ps_par (i := 2) (j := 3) (by rfl) sc_law_worth.nd rfl rfl (by decide) rfl rfl (pa_cons (pe_callHas g_law_pick (hr.mono (by decide)) rfl (pa_cons (pv 0) (pa_cons (pe_dget hu1 (pv 1) pe_str (fun _ _ => rfl)) pa_nil))) (pa_cons (pe_callHas g_law_pick (hr.mono (by decide)) rfl (pa_cons (pv 0) (pa_cons (pe_dget hu1 (pv 1) pe_str (fun _ _ => rfl)) pa_nil))) pa_nil)) (by rfl))
      (pss_cons (ps_set (i := 4) sc_law_worth.nd rfl (Or.inl rfl) (pe_callHas g_law_pick (hr.mono (by decide)) rfl (pa_cons (pv 0) (pa_cons (pe_lst (pa_cons pe_non (pa_cons pe_non (pa_cons (pe_callHas g_law_pick (hr.mono (by decide)) rfl (pa_cons (pv 0) (pa_cons (pe_dget hu1 (pv 1) pe_str (fun _ _ => rfl)) pa_nil))) pa_nil)))) pa_nil))))
      (pss_cons (ps_set (i := 5) sc_law_worth.nd rfl (Or.inl rfl) (pe_callHas g_law_pick (hr.mono (by decide)) rfl (pa_cons (pv 0) (pa_cons (pe_lst (pa_cons pe_non (pa_cons pe_non (pa_cons (pe_callHas g_law_pick (hr.mono (by decide)) rfl (pa_cons (pv 0) (pa_cons (pe_dget hu1 (pv 1) pe_str (fun _ _ => rfl)) pa_nil))) pa_nil)))) pa_nil))))
      (C8.pss_cut (ps_if (PW.pt (pw_and (pt_cmpR op_notN (pv 4) pe_non (nomark _)) (pw_and (pt_cmpR op_notN (pv 5) pe_non (nomark _)) (pw_and1 (pt_cmpR op_le (pv 5) (pv 4) (nomark _)))))) (pss_one (ps_set (i := 5) sc_law_worth.nd rfl (Or.inl rfl) pe_non)) pss_nil)
      (pss_one (ps_ret (pe_tup (pa_cons (pv 2) (pa_cons (pv 3) (pa_cons (pe_callHas g_law_pick (hr.mono (by decide)) rfl (pa_cons (pv 0) (pa_cons (pe_lst (pa_cons pe_int (pa_cons pe_int (pa_cons (pe_un un_neg pe_int) (pa_cons pe_int (pa_cons pe_int pa_nil)))))) pa_nil))) (pa_cons (pe_callHas g_law_pick (hr.mono (by decide)) rfl (pa_cons (pv 0) (pa_cons (pe_lst (pa_cons pe_str (pa_cons pe_str (pa_cons pe_str pa_nil)))) pa_nil))) (pa_cons (pv 4) (pa_cons (pv 5) pa_nil))))))))))))), ?_⟩
    have nml := ok.names
    rw [List.length_append, List.length_append, List.length_append] at nml
    have l0t := List.length_pos_iff.mpr ok.totals0
    have l0r := List.length_pos_iff.mpr ok.rests0
    have l0n := List.length_pos_iff.mpr ok.told0
    have l1n := ok.told1
    obtain ⟨r1, g1, n1, h1⟩ := bk.totals.get bk.at'
    refine seq_par (cons_go ?_)
    refine ⟨_, rfl, _, rfl, d, _, rfl, g1, ?_⟩
    refine nil_go ?_
    refine pick_map hb h1 n1 l0t (by omega) fun H1 tt u1 b1 mt => ?_
    have bk1 := bk.kp (KpE.but (ex := (· = b)) rfl u1)
    obtain ⟨r2, g2, n2, h2⟩ := bk1.rests.get bk1.at'
    refine cons_go ?_
    refine ⟨_, rfl, _, rfl, d, _, rfl, g2, ?_⟩
    refine nil_go ?_
    refine pick_map b1 h2 n2 l0r (by omega) fun H2 kd u2 b2 mk => ⟨_, _, rfl, ?_⟩
    have bound : ∀ (σ : L2.St) (H3 : Hp) (Qn : VK), σ[0]? = some (some (.ref b)) → σ[1]? = some (some (.ref d)) → But b H H3 → Box H3 b → (∀ (H4 : Hp) (o : Option Int), But b H H4 → Box H4 b → (∀ m, o = some m → m ∈ B.told) → Qn (optV o) H4) →
        tCall spPick [] E0 (tCons (tVar 0) (tCons (tLst (tCons (tC V.non) (tCons (tC V.non) (tCons (tCall spPick [] E0 (tCons (tVar 0) (tCons (tDGet (tVar 1) (tC (V.str "told"))) tNil))) tNil)))) tNil)) σ H3 Qn := by
      intro σ H3 Qn e0 e1 u3 b3 q
      have bk3 := bk.kp (KpE.but (ex := (· = b)) rfl u3)
      obtain ⟨r3, g3, n3, h3⟩ := bk3.told.get bk3.at'
      refine ⟨_, e0, cons_go (lstA_go (cons_go (c_go (cons_go (c_go (cons_go ?_))))))⟩
      refine ⟨_, e0, _, e1, d, _, rfl, g3, ?_⟩
      refine nil_go ?_
      refine pick_map b3 h3 n3 l0n (by omega) fun H4 m u4 b4 mm => ?_
      refine ⟨(by decide : 3 ≤ sizeLine), fun p hp => ?_⟩
      obtain ⟨s5, h5⟩ := new_at (o := .lst ([none, none, some m].map optV)) hp
      refine nil_go ?_
      refine pick_map (f := optV) (L := [none, none, some m]) (b4.keep s5) h5 (new_ne b4.ne hp) (by show 0 < 3; decide) (by show 3 ≤ 1000; decide) fun H6 o u6 b6 mo => ?_
      refine q H6 o (((u3.trans u4).trans (Same.but s5)).trans u6) b6 fun m' em => ?_
      subst em
      have : m' = m := by simpa using mo
      rw [this]
      exact mm
    have u2' := u1.trans u2
    refine seq_asg (bound _ _ _ rfl rfl u2' b2 fun H3 lo u3 b3 olo => name_go ?_)
    try dsimp only
    refine seq_asg (bound _ _ _ rfl rfl u3 b3 fun H4 hi u4 b4 ohi => name_go ?_)
    try dsimp only
    refine ⟨fun σ' H' => H' = H4 ∧ ∃ hi' : Option Int, σ' = [some (.ref b), some (.ref d), some (.str tt), some (.str kd), some (optV lo), some (optV hi')] ∧ (∀ m, hi' = some m → m ∈ B.told) ∧ ∀ n m, lo = some n → hi' = some m → n < m, ?_, ?_⟩
    · cases lo with
      | none => exact ⟨_, rfl, rfl, _, rfl, iteSf rfl (iteSf rfl (next_go ⟨rfl, hi, rfl, ohi, fun n m z => nomatch z⟩))⟩
      | some n1 =>
        cases hi with
        | none => exact ⟨_, rfl, rfl, _, rfl, iteSe rfl ⟨_, rfl, rfl, _, rfl, iteSf rfl (iteSf rfl (next_go ⟨rfl, none, rfl, ohi, fun n m _ z => nomatch z⟩))⟩⟩
        | some n2 =>
          refine ⟨_, rfl, rfl, _, rfl, iteSe rfl ⟨_, rfl, rfl, _, rfl, iteSe rfl ⟨_, rfl, _, rfl, _, _, rfl, rfl, _, rfl, ite2 (fun _ => ?_) (fun hn => ?_)⟩⟩⟩
          · exact asg_go (c_go (name_go ⟨rfl, none, rfl, (fun m z => nomatch z), (fun n m _ z => nomatch z)⟩))
          · refine next_go ⟨rfl, some n2, rfl, ohi, fun n m z z2 => ?_⟩
            cases z
            cases z2
            have : ¬ n2 ≤ n1 := by simpa using hn
            omega
    · rintro σ' H5 ⟨rfl, hi', rfl, ohi', lt⟩
      refine ret_go (tup_go (cons_go ⟨_, rfl, cons_go ⟨_, rfl, cons_go ?_⟩⟩))
      refine ⟨_, rfl, cons_go (lst_go (xs := wfacL.map V.int) (fun Q q => ⟨1, rfl, q⟩) (by decide) fun H6 p6 s6 hp6 h6 => ?_)⟩
      refine nil_go ?_
      refine pick_map (b4.keep s6) h6 (new_ne b4.ne hp6) (by decide) (by decide) fun H7 fc u7 b7 mf => cons_go ?_
      refine ⟨_, rfl, cons_go (lst_go (xs := wwhatL.map V.str) (fun Q q => q) (by decide) fun H8 p8 s8 hp8 h8 => ?_)⟩
      refine nil_go ?_
      refine pick_map (b7.keep s8) h8 (new_ne b7.ne hp8) (by decide) (by decide) fun H9 wh u9 b9 mw => cons_go ⟨_, rfl, cons_go ⟨_, rfl, (by decide : 6 ≤ sizeLine), fun q hq => ?_⟩⟩
      obtain ⟨sA, hA⟩ := new_at (o := .tup [V.str tt, V.str kd, V.int fc, V.str wh, optV lo, optV hi']) hq
      exact k _ _ ⟨tt, kd, fc, wh, lo, hi'⟩ ((((u4.trans (Same.but s6)).trans u7).trans (Same.but s8)).trans (u9.trans (Same.but sA))) (b9.keep sA) ⟨q, rfl, hA⟩ ⟨mt, mk, mf, mw, olo, ohi', lt⟩
end
end K14

set_option pp.maxSteps 600
namespace L2
open PySem PySem.Spec PyProof.Rows
theorem ix_listK {X : Cx} {K : PySem.W.Frag} (e : X.K = K) : IxR X (rIxL K) := by
  subst e; exact ix_list
end L2
namespace K14
open PySem L2 PySem.Spec PyProof.Rows
section
variable {P : Program} {w : World} {K : PySem.W.Frag} {mg : Str → Option Value} {base : Heap}
abbrev s_law_book : Stmt := top 47
abbrev n_law_book : List Str := ["_law_box_here", "_law_sizes", "_law_names_here", "_law_many", "_law_split", "_law_book_here", "_law_turn", "_law_some", "_law_left", "_law_name"]
theorem sc_law_book : FnScope n_law_book ["_law_box_here", "_law_sizes"] (defScope s_law_book) := ⟨rfl, rfl, rfl, by decide +kernel, rfl, by decide +kernel, by decide +kernel⟩
def spBookD : Sp := fun vs H Q _ => ∃ (b z : Addr) (ss : List V) (s0 s1 s2 s3 s4 s5 s6 s7 : Int), vs = [.ref b, .ref z] ∧ Box H b ∧ H z = some (.tup ss) ∧ SizesOk ss s0 s1 s2 s3 s4 s5 s6 s7 ∧
  ∀ (H' : Hp) (d : Addr) (B : BookD) (kvs : List (Key × V)), But b H H' → Box H' b → BookAt H' (· = b) d B kvs → BookOk B → Q (.ref d) H'
theorem InD.step {H8 H10 : Hp} {ex : Addr → Prop} {kvs : List (Key × V)} {k k' : Str} {xs : List V} {v : V} {d : Addr} (s : KpE ex H8 H10) (hd : H10 d = some (.dK kvs)) (n : k ≠ k') (h : InD H8 ex kvs k xs) : InD (upd H10 d (.dK (putK kvs (.inr k') v))) ex (putK kvs (.inr k') v) k xs := ((h.kp s).updD hd).put n
theorem InD.put' {H : Hp} {ex : Addr → Prop} {kvs : List (Key × V)} {k : Str} {xs : List V} {d r : Addr} {o : HO} (hd : H d = some (.dK kvs)) (n : ¬ ex r) (q : H r = some (.lst xs)) : InD (upd H d o) ex (putK kvs (.inr k) (.ref r)) k xs := (InD.new n q).updD hd
theorem BkAt.put {H : Hp} {ex : Addr → Prop} {d : Addr} {B : BookD} {kvs : List (Key × V)} {k : Str} {v : V} (h : BkAt H ex d B kvs) (n1 : ("rests" : Str) ≠ k) (n2 : ("passes" : Str) ≠ k) (n3 : ("told" : Str) ≠ k) (n4 : ("totals" : Str) ≠ k) (n5 : ("notes" : Str) ≠ k) : BkAt (upd H d (.dK (putK kvs (.inr k) v))) ex d B (putK kvs (.inr k) v) :=
  ⟨upd_same, h.out, (h.rests.updD h.at').put n1, (h.passes.updD h.at').put n2, (h.told.updD h.at').put n3, (h.totals.updD h.at').put n4, (h.notes.updD h.at').put n5⟩
theorem BkAt.exN {H : Hp} {ex : Addr → Prop} {d : Addr} {B : BookD} {kvs : List (Key × V)} {c : Addr} (hc : H c = none) (h : BkAt H ex d B kvs) : BkAt H (fun a => ex a ∨ a = c) d B kvs :=
  ⟨h.at', (fun z => Or.elim z h.out (fun z => by have := h.at'; rw [z, hc] at this; cases this)), h.rests.exN hc, h.passes.exN hc, h.told.exN hc, h.totals.exN hc, h.notes.exN hc⟩
theorem cutAB {xs : List V} {a c : Nat} (h1 : a ≤ xs.length) (h2 : c ≤ xs.length) : cutV xs (some (a : Int)) (some (c : Int)) = (xs.drop a).take (c - a) := by
  unfold cutV
  rw [HT.sIx_nat, HT.sIx_nat, Nat.min_eq_left h1, Nat.min_eq_left h2]
theorem ok_bookD (T : Txt mg) (g_law_take : Has P w K mg base 1 "_law_take" ["_law_box_here", "_law_many"] spTake) (g_law_mixed : Has P w K mg base 2 "_law_mixed" ["_law_box_here", "_law_items"] spMixed) (g_law_names : Has P w K mg base 3 "_law_names" ["_law_box_here", "_law_many"] spNames) (g_law_number : Has P w K mg base 2 "_law_number" ["_law_box_here", "_law_most"] spNumber)
    (g_law_rows : Has P w K mg base 11 "_law_rows" ["_law_box_here", "_law_book_here", "_law_left", "_law_deep"] (spRows 3)) (g_law_event : Has P w K mg base 3 "_law_event" ["_law_box_here", "_law_book_here", "_law_name", "_law_is_first"] spEvD) (g_law_worth : Has P w K mg base 3 "_law_worth" ["_law_box_here", "_law_book_here"] spWoD)
    (F : DefAt K mg "_law_book" s_law_book ["_law_box_here", "_law_sizes"]) : Has P w K mg base 12 "_law_book" ["_law_box_here", "_law_sizes"] spBookD := by
  refine F.has sc_law_book (fun vs H Q E h => ?_) (fun f cdv A outer s H vs Q E hr h => ?_)
  · obtain ⟨b, z, ss, s0, s1, s2, s3, s4, s5, s6, s7, rfl, _⟩ := h
    rfl
  · have hu := hr.units
    have hu1 := Nat.lt_of_le_of_lt (Nat.add_le_add_left (by decide : 1 ≤ 64) _) hu
    obtain ⟨b, z, ss, s0, s1, s2, s3, s4, s5, s6, s7, rfl, hb, hz, so, k⟩ := h
    refine ⟨_, (pss_cons (ps_set (i := 2) sc_law_book.nd rfl (Or.inl rfl) (pe_callHas g_law_names (hr.mono (by omega)) rfl (pa_cons (pv 0) (pa_cons pe_int pa_nil))))
      (pss_cons (ps_set (i := 3) sc_law_book.nd rfl (Or.inl rfl) (pe_op op_add pe_int (pe_callHas g_law_take (hr.mono (by omega)) rfl (pa_cons (pv 0) (pa_cons (pe_ix ix_tup (pv 1) pe_int (fun _ _ => rfl)) pa_nil)))))
      (pss_cons (ps_set (i := 4) sc_law_book.nd rfl (Or.inl rfl) (pe_op op_add pe_int (pe_callHas g_law_take (hr.mono (by omega)) rfl (pa_cons (pv 0) (pa_cons (pv 3) pa_nil)))))
      (pss_cons (ps_set (i := 5) sc_law_book.nd rfl (Or.inr rfl) (pe_disp (pps_cons pe_str (pe_slice sl_list (pv 2) po_none (po_some (pv 4))) (pps_cons pe_str (pe_slice sl_list (pv 2) (po_some (pv 4)) (po_some (pv 3))) (pps_cons pe_str (pe_lst pa_nil) pps_nil))) (by rfl) (by rfl) (fun z => nomatch z) (by decide)))
      (pss_cons (ps_dput hu1 (pv 5) pe_str (pe_slice sl_list (pv 2) (po_some pe_int) (po_some (pe_op op_add pe_int (pe_callHas g_law_take (hr.mono (by omega)) rfl (pa_cons (pv 0) (pa_cons (pe_ix ix_tup (pv 1) pe_int (fun _ _ => rfl)) pa_nil)))))) rfl)
      (pss_cons (ps_dput hu1 (pv 5) pe_str (pe_slice sl_list (pv 2) (po_some pe_int) (po_some (pe_op op_add pe_int (pe_callHas g_law_take (hr.mono (by omega)) rfl (pa_cons (pv 0) (pa_cons (pe_op op_add (pe_ix ix_tup (pv 1) pe_int (fun _ _ => rfl)) pe_int) pa_nil)))))) rfl)
      (pss_cons (ps_for PassesOwn.never rfl (pi_range1 rfl T.z_range (pa_cons (pe_op op_add pe_int (pe_callHas g_law_take (hr.mono (by omega)) rfl (pa_cons (pv 0) (pa_cons (pe_ix ix_tup (pv 1) pe_int (fun _ _ => rfl)) pa_nil)))) pa_nil)) (pg_name (i := 6) sc_law_book.nd rfl (Or.inl rfl)) (pss_one (ps_expr (pe_bm PySem.F.plainAttrs_list PySem.F.slot_list_append PySem.F.type_list_append mt_append (pe_dget hu1 (pv 5) pe_str (fun _ _ => rfl)) (pa_cons (pe_callHas g_law_number (hr.mono (by omega)) rfl (pa_cons (pv 0) (pa_cons pe_int pa_nil))) pa_nil)))))
      (pss_cons (ps_dput hu1 (pv 5) pe_str (pe_lc (own := [("_law_turn", 6)]) (g := gName 6) (by rfl) sc_law_book.nd (pi_range1 rfl T.z_range (pa_cons (pe_callHas g_law_take (hr.mono (by omega)) rfl (pa_cons (pv 0) (pa_cons (pe_op op_add (pe_ix ix_tup (pv 1) pe_int (fun _ _ => rfl)) pe_int) pa_nil))) pa_nil)) (blkOk_by (own := [("_law_turn", 6)]) (N := n_law_book) (sc := defScope s_law_book) (by decide +kernel)) (fun _ _ _ _ _ => (pg_name (i := 6) sc_law_book.nd rfl (Or.inl rfl))) (fun _ _ _ _ _ => pts_nil) (fun _ _ _ _ _ => (pe_callHas g_law_worth (hr.mono (by omega)) rfl (pa_cons (pv 0) (pa_cons (pv 5) pa_nil))))) rfl)
      (pss_cons (ps_asg (pe_tup (pa_cons (pe_slice sl_list (pv 2) (po_some pe_int) (po_some (pe_op op_add pe_int (pe_callHas g_law_take (hr.mono (by omega)) rfl (pa_cons (pv 0) (pa_cons (pe_ix ix_tup (pv 1) pe_int (fun _ _ => rfl)) pa_nil)))))) (pa_cons (pe_lst (pa_cons (pe_ix ix_tup (pv 1) pe_int (fun _ _ => rfl)) (pa_cons (pe_ix ix_tup (pv 1) pe_int (fun _ _ => rfl)) pa_nil))) pa_nil))) (pg_tup rfl (pgs_cons (pg_name (i := 7) sc_law_book.nd rfl (Or.inr rfl)) (pgs_cons (pg_name (i := 8) sc_law_book.nd rfl (Or.inl rfl)) pgs_nil))))
      (pss_cons (ps_dput hu1 (pv 5) pe_str (pe_lc (own := [("_law_name", 9)]) (g := gName 9) (by rfl) sc_law_book.nd (pi_list (pv 7)) (blkOk_by (own := [("_law_name", 9)]) (N := n_law_book) (sc := defScope s_law_book) (by decide +kernel)) (fun _ _ _ _ _ => (pg_name (i := 9) sc_law_book.nd rfl (Or.inl rfl))) (fun _ _ _ _ _ => pts_nil) (fun _ _ _ _ _ => (pe_callHas g_law_event (hr.mono (by omega)) rfl (pa_cons (pv 0) (pa_cons (pv 5) (pa_cons (pv 9) (pa_cons (pe_cmpR op_eq (pv 9) (pe_ix (ix_listK (K := K) rfl) (pv 7) pe_int (fun _ _ => rfl)) (nomark _)) pa_nil))))))) rfl)
      (pss_cons (ps_dput hu1 (pv 5) pe_str (pe_lst pa_nil) rfl)
      (pss_cons (ps_for PassesOwn.never rfl (pi_list (pe_callHas g_law_mixed (hr.mono (by omega)) rfl (pa_cons (pv 0) (pa_cons (pv 7) pa_nil)))) (pg_name (i := 9) sc_law_book.nd rfl (Or.inl rfl)) (pss_one (ps_if (pt_cmpR op_gt (pe_callHas g_law_take (hr.mono (by omega)) rfl (pa_cons (pv 0) (pa_cons pe_int pa_nil))) pe_int (nomark _)) (pss_one (ps_expr (pe_bm PySem.F.plainAttrs_list PySem.F.slot_list_append PySem.F.type_list_append mt_append (pe_dget hu1 (pv 5) pe_str (fun _ _ => rfl)) (pa_cons (pe_tup (pa_cons (pv 9) (pa_cons (pe_callHas g_law_rows (hr.mono (by omega)) rfl (pa_cons (pv 0) (pa_cons (pv 5) (pa_cons (pv 8) (pa_cons pe_int pa_nil))))) pa_nil))) pa_nil)))) pss_nil)))
      (pss_one (ps_ret (pv 5))))))))))))))), ?_⟩
    obtain ⟨rfl, c0, c1, c2, c3, c4, c7⟩ := so
    have q1000 : (1000 : Nat) < sizeLine := by decide
    -- the names, how many kinds, how many that rest
    refine seq_asg ⟨_, rfl, b, 14, rfl, hb, by decide, fun H1 q ns u1 b1 nqb hq0 hq ln nd okn => name_go ?_⟩
    have nzb : z ≠ b := fun e => by obtain ⟨x, y, w, e'⟩ := hb; rw [e, e'] at hz; cases hz
    have hz1 := u1 _ _ nzb hz
    refine seq_asg (op_go ?_)
    refine ⟨_, rfl, _, rfl, z, _, _, _, rfl, rfl, SqT.of hz1, rfl, b, s0, rfl, b1, by omega, by omega, fun e0 x y w e00 e01 => ⟨_, _, rfl, rfl, name_go ?_⟩⟩
    have u2 : But b H (upd H1 b (.lst [.int x, .int y, .int w])) := u1.trans But.upd'
    have b2 : Box (upd H1 b (.lst [.int x, .int y, .int w])) b := Box.upd'
    have hq2 : upd H1 b (.lst [.int x, .int y, .int w]) q = some (.lst (ns.map V.str)) := (upd_ne nqb).trans hq
    generalize upd H1 b (.lst [.int x, .int y, .int w]) = H2 at *
    obtain ⟨m, em⟩ : ∃ m : Nat, 1 + e0 = (m : Int) := ⟨(1 + e0).toNat, by omega⟩
    try dsimp only
    rw [em]
    have m1 : 1 ≤ m := by omega
    have m4 : m ≤ 4 := by omega
    try dsimp only
    refine seq_asg (op_go ?_)
    refine ⟨_, rfl, _, rfl, b, (m : Int), rfl, b2, by omega, by omega, fun e1 x y w e10 e11 => ⟨_, _, rfl, rfl, name_go ?_⟩⟩
    have u3 : But b H (upd H2 b (.lst [.int x, .int y, .int w])) := u2.trans But.upd'
    have b3 : Box (upd H2 b (.lst [.int x, .int y, .int w])) b := Box.upd'
    have hq3 : upd H2 b (.lst [.int x, .int y, .int w]) q = some (.lst (ns.map V.str)) := (upd_ne nqb).trans hq2
    generalize upd H2 b (.lst [.int x, .int y, .int w]) = H3 at *
    obtain ⟨sp, es⟩ : ∃ sp : Nat, 1 + e1 = (sp : Int) := ⟨(1 + e1).toNat, by omega⟩
    try dsimp only
    rw [es]
    have sp1 : 1 ≤ sp := by omega
    have spm : sp ≤ m := by omega
    try dsimp only
    have lns : (ns.map V.str).length = 14 := by rw [List.length_map]; exact ln
    -- the dict
    refine seq_asg ?_
    intro d hd0
    obtain ⟨s4, h4d⟩ := new_at (o := .dK []) hd0
    generalize hG4 : upd H3 d (.dK []) = G4 at *
    have hq4 := s4 _ _ hq3
    refine ⟨_, rfl, _, rfl, (sp : Int), rfl, q, _, rfl, SqL.of hq4, fun r1 hr1 => ?_⟩
    rw [cutN (by rw [lns]; omega), ← List.map_take]
    obtain ⟨s5, h51⟩ := new_at (o := .lst ((ns.take sp).map V.str)) hr1
    generalize upd G4 r1 (.lst ((ns.take sp).map V.str)) = G5 at *
    refine ⟨_, rfl, _, rfl, (sp : Int), rfl, _, rfl, (m : Int), rfl, q, _, rfl, SqL.of (s5 _ _ hq4), fun r2 hr2 => ?_⟩
    rw [cutAB (by rw [lns]; omega) (by rw [lns]; omega), ← List.map_drop, ← List.map_take]
    obtain ⟨s6, h62⟩ := new_at (o := .lst (((ns.drop sp).take (m - sp)).map V.str)) hr2
    generalize upd G5 r2 (.lst (((ns.drop sp).take (m - sp)).map V.str)) = G6 at *
    refine ⟨Nat.zero_le _, fun r3 hr3 => ?_⟩
    obtain ⟨s7, h73⟩ := new_at (o := .lst []) hr3
    generalize upd G6 r3 (.lst []) = G7 at *
    have s47 : Same G4 G7 := (s5.trans s6).trans s7
    have hd7 := s47 _ _ h4d
    refine ⟨hd7, [(.inr "rests", .ref r1), (.inr "passes", .ref r2), (.inr "told", .ref r3)], rfl, (by show 3 ≤ 15; decide), name_go ?_⟩
    have kv0 : valV (mergeK [] [((.inr "rests" : Key), V.ref r1), (.inr "passes", .ref r2), (.inr "told", .ref r3)]) (.inr "rests") = some (.ref r1) := rfl
    have kv1 : valV (mergeK [] [((.inr "rests" : Key), V.ref r1), (.inr "passes", .ref r2), (.inr "told", .ref r3)]) (.inr "passes") = some (.ref r2) := rfl
    have kv2 : valV (mergeK [] [((.inr "rests" : Key), V.ref r1), (.inr "passes", .ref r2), (.inr "told", .ref r3)]) (.inr "told") = some (.ref r3) := rfl
    have kvl : (mergeK [] [((.inr "rests" : Key), V.ref r1), (.inr "passes", .ref r2), (.inr "told", .ref r3)]).length ≤ 3 := length_mergeK _ _
    generalize mergeK [] [((.inr "rests" : Key), V.ref r1), (.inr "passes", .ref r2), (.inr "told", .ref r3)] = kvs0 at *
    have h71 := s7 _ _ (s6 _ _ h51)
    have h72 := s7 _ _ h62
    have n1d : r1 ≠ d := ne_of h71 hd7 fun z => nomatch z
    have n2d : r2 ≠ d := ne_of h72 hd7 fun z => nomatch z
    have n3d : r3 ≠ d := ne_of h73 hd7 fun z => nomatch z
    have n13 : r1 ≠ r3 := ne_of_none (s6 _ _ h51) hr3
    have n23 : r2 ≠ r3 := ne_of_none h62 hr3
    have ndb : d ≠ b := new_ne b3.ne hd0
    have n1b : r1 ≠ b := new_ne (b3.keep s4).ne hr1
    have n2b : r2 ≠ b := new_ne ((b3.keep s4).keep s5).ne hr2
    have n3b : r3 ≠ b := new_ne (((b3.keep s4).keep s5).keep s6).ne hr3
    have hd8 : upd G7 d (.dK kvs0) d = some (.dK kvs0) := upd_same
    have h81 : upd G7 d (.dK kvs0) r1 = some (.lst ((ns.take sp).map V.str)) := (upd_ne n1d).trans h71
    have h82 : upd G7 d (.dK kvs0) r2 = some (.lst (((ns.drop sp).take (m - sp)).map V.str)) := (upd_ne n2d).trans h72
    have h83 : upd G7 d (.dK kvs0) r3 = some (.lst []) := (upd_ne n3d).trans h73
    have u8 : But b H (upd G7 d (.dK kvs0)) := u3.trans fun a o _ e => (upd_ne (ne_of_none e hd0)).trans (s47 _ _ (s4 _ _ e))
    have b8 : Box (upd G7 d (.dK kvs0)) b := by
      obtain ⟨x, y, w, e⟩ := b3
      exact ⟨x, y, w, (upd_ne ndb.symm).trans (s47 _ _ (s4 _ _ e))⟩
    have hq8 : upd G7 d (.dK kvs0) q = some (.lst (ns.map V.str)) := (upd_ne (ne_of_none hq3 hd0)).trans (s47 _ _ (s4 _ _ hq3))
    have hz8 := u8 _ _ nzb hz
    have hd0' : H d = none := new_but u3 b3 hd0
    have hr30 : H3 r3 = none := back ((s4.trans s5).trans s6) hr3
    clear hG4 h71 h72 h73 hd7 s47 s7 s6 s5 s4 h51 h62
    generalize upd G7 d (.dK kvs0) = H8 at *
    try dsimp only
    -- totals
    have ex3b : ∀ {x : Addr}, x ≠ b → x ≠ r3 → ¬ (fun a => a = b ∨ a = r3) x := fun h1 h2 z => z.elim h1 h2
    have i1 : InD H8 (fun a => a = b ∨ a = r3) kvs0 "rests" ((ns.take sp).map V.str) := ⟨r1, kv0, ex3b n1b n13, h81⟩
    have i2 : InD H8 (fun a => a = b ∨ a = r3) kvs0 "passes" (((ns.drop sp).take (m - sp)).map V.str) := ⟨r2, kv1, ex3b n2b n23, h82⟩
    refine seq_go ?_
    refine ⟨_, rfl, (4 : Int), rfl, _, rfl, _, rfl, z, _, _, _, rfl, rfl, SqT.of hz8, rfl, b, s1, rfl, b8, by omega, by omega, fun e2 x y w e20 e21 => ?_⟩
    have u9 : But b H8 (upd H8 b (.lst [.int x, .int y, .int w])) := But.upd'
    have b9 : Box (upd H8 b (.lst [.int x, .int y, .int w])) b := Box.upd'
    generalize upd H8 b (.lst [.int x, .int y, .int w]) = H9 at *
    obtain ⟨t1, et1⟩ : ∃ t : Nat, 5 + e2 = (t : Int) := ⟨(5 + e2).toNat, by omega⟩
    have t15 : 5 ≤ t1 ∧ t1 ≤ 6 := by omega
    refine ⟨_, _, rfl, rfl, _, rfl, q, _, rfl, SqL.of (u9 _ _ nqb hq8), fun r4 hr4 => ?_⟩
    rw [et1, show (4 : Int) = ((4 : Nat) : Int) from rfl, cutAB (by rw [lns]; omega) (by rw [lns]; omega), ← List.map_drop, ← List.map_take]
    obtain ⟨s10, hr4'⟩ := new_at (o := .lst (((ns.drop 4).take (t1 - 4)).map V.str)) hr4
    have n43 : r4 ≠ r3 := fun z => by have := u9 _ _ n3b h83; rw [← z, hr4] at this; cases this
    have n4b : r4 ≠ b := new_ne b9.ne hr4
    have hd10 := s10 _ _ (u9 _ _ ndb hd8)
    have k10 : KpE (fun a => a = b ∨ a = r3) H8 (upd H9 r4 (.lst (((ns.drop 4).take (t1 - 4)).map V.str))) := (KpE.but (.inl rfl) u9).trans (KpE.of s10)
    have b10 := b9.keep s10
    have u10 : But b H (upd H9 r4 (.lst (((ns.drop 4).take (t1 - 4)).map V.str))) := (u8.trans u9).trans (Same.but s10)
    have h10r := s10 _ _ (u9 _ _ n3b h83)
    have hq10 := s10 _ _ (u9 _ _ nqb hq8)
    generalize upd H9 r4 (.lst (((ns.drop 4).take (t1 - 4)).map V.str)) = HA at *
    refine ⟨_, rfl, d, _, rfl, DPut.k (k := .inr "totals") hd10 (by omega), ?_⟩
    have j1 := i1.step (k' := "totals") (v := .ref r4) k10 hd10 (by decide)
    have j2 := i2.step (k' := "totals") (v := .ref r4) k10 hd10 (by decide)
    have j4 : InD (upd HA d (.dK (putK kvs0 (.inr "totals") (.ref r4)))) (fun a => a = b ∨ a = r3) _ "totals" _ := InD.put' hd10 (ex3b n4b n43) hr4'
    have jd : upd HA d (.dK (putK kvs0 (.inr "totals") (.ref r4))) d = some (.dK (putK kvs0 (.inr "totals") (.ref r4))) := upd_same
    have jt : upd HA d (.dK (putK kvs0 (.inr "totals") (.ref r4))) r3 = some (.lst []) := (upd_ne n3d).trans h10r
    have jk : valV (putK kvs0 (.inr "totals") (.ref r4)) (.inr "told") = some (.ref r3) := by rw [valV_put, if_neg (by decide)]; exact kv2
    have jl : (putK kvs0 (.inr "totals") (.ref r4)).length ≤ 4 := Nat.le_trans (length_putK _ _ _) (by omega)
    have jb : Box (upd HA d (.dK (putK kvs0 (.inr "totals") (.ref r4)))) b := b10.other ndb
    have ju : But b H (upd HA d (.dK (putK kvs0 (.inr "totals") (.ref r4)))) := fun a o na e => (upd_ne (ne_of_none e hd0')).trans (u10 _ _ na e)
    have jq : upd HA d (.dK (putK kvs0 (.inr "totals") (.ref r4))) q = some (.lst (ns.map V.str)) := (upd_ne (ne_of hq10 hd10 fun z => nomatch z)).trans hq10
    have jz := ju _ _ nzb hz
    generalize upd HA d (.dK (putK kvs0 (.inr "totals") (.ref r4))) = HB at *
    generalize putK kvs0 (.inr "totals") (.ref r4) = kvs1 at *
    try dsimp only
    -- notes
    refine seq_go ?_
    refine ⟨_, rfl, (6 : Int), rfl, _, rfl, _, rfl, z, _, _, _, rfl, rfl, SqT.of jz, rfl, _, _, rfl, rfl, b, s2 + 1, rfl, jb, by omega, by omega, fun e3 x y w e30 e31 => ?_⟩
    have u11 : But b HB (upd HB b (.lst [.int x, .int y, .int w])) := But.upd'
    have b11 : Box (upd HB b (.lst [.int x, .int y, .int w])) b := Box.upd'
    generalize upd HB b (.lst [.int x, .int y, .int w]) = HC at *
    obtain ⟨t2, et2⟩ : ∃ t : Nat, 6 + e3 = (t : Int) := ⟨(6 + e3).toNat, by omega⟩
    have t28 : 6 ≤ t2 ∧ t2 ≤ 8 := by omega
    refine ⟨_, _, rfl, rfl, _, rfl, q, _, rfl, SqL.of (u11 _ _ nqb jq), fun r5 hr5 => ?_⟩
    rw [et2, show (6 : Int) = ((6 : Nat) : Int) from rfl, cutAB (by rw [lns]; omega) (by rw [lns]; omega), ← List.map_drop, ← List.map_take]
    obtain ⟨s12, hr5'⟩ := new_at (o := .lst (((ns.drop 6).take (t2 - 6)).map V.str)) hr5
    have n53 : r5 ≠ r3 := fun z => by have := u11 _ _ n3b jt; rw [← z, hr5] at this; cases this
    have n5b : r5 ≠ b := new_ne b11.ne hr5
    have hd12 := s12 _ _ (u11 _ _ ndb jd)
    have k12 : KpE (fun a => a = b ∨ a = r3) HB (upd HC r5 (.lst (((ns.drop 6).take (t2 - 6)).map V.str))) := (KpE.but (.inl rfl) u11).trans (KpE.of s12)
    have b12 := b11.keep s12
    have u12 : But b H (upd HC r5 (.lst (((ns.drop 6).take (t2 - 6)).map V.str))) := (ju.trans u11).trans (Same.but s12)
    have h12r := s12 _ _ (u11 _ _ n3b jt)
    have hq12 := s12 _ _ (u11 _ _ nqb jq)
    generalize upd HC r5 (.lst (((ns.drop 6).take (t2 - 6)).map V.str)) = HD at *
    refine ⟨_, rfl, d, _, rfl, DPut.k (k := .inr "notes") hd12 (by omega), ?_⟩
    have m1' := j1.step (k' := "notes") (v := .ref r5) k12 hd12 (by decide)
    have m2' := j2.step (k' := "notes") (v := .ref r5) k12 hd12 (by decide)
    have m4' := j4.step (k' := "notes") (v := .ref r5) k12 hd12 (by decide)
    have m5' : InD (upd HD d (.dK (putK kvs1 (.inr "notes") (.ref r5)))) (fun a => a = b ∨ a = r3) _ "notes" _ := InD.put' hd12 (ex3b n5b n53) hr5'
    have md : upd HD d (.dK (putK kvs1 (.inr "notes") (.ref r5))) d = some (.dK (putK kvs1 (.inr "notes") (.ref r5))) := upd_same
    have mt : upd HD d (.dK (putK kvs1 (.inr "notes") (.ref r5))) r3 = some (.lst []) := (upd_ne n3d).trans h12r
    have mk : valV (putK kvs1 (.inr "notes") (.ref r5)) (.inr "told") = some (.ref r3) := by rw [valV_put, if_neg (by decide)]; exact jk
    have ml : (putK kvs1 (.inr "notes") (.ref r5)).length ≤ 5 := Nat.le_trans (length_putK _ _ _) (by omega)
    have mb : Box (upd HD d (.dK (putK kvs1 (.inr "notes") (.ref r5)))) b := b12.other ndb
    have mu : But b H (upd HD d (.dK (putK kvs1 (.inr "notes") (.ref r5)))) := fun a o na e => (upd_ne (ne_of_none e hd0')).trans (u12 _ _ na e)
    have mq : upd HD d (.dK (putK kvs1 (.inr "notes") (.ref r5))) q = some (.lst (ns.map V.str)) := (upd_ne (ne_of hq12 hd12 fun z => nomatch z)).trans hq12
    have mz := mu _ _ nzb hz
    generalize upd HD d (.dK (putK kvs1 (.inr "notes") (.ref r5))) = HE at *
    generalize putK kvs1 (.inr "notes") (.ref r5) = kvs2 at *
    try dsimp only
    clear j1 j2 j4 i1 i2 jd jt jb ju jq jz k10 k12 h12r hq12 hd12 hd10 h10r hq10 u10 u12 u9 u11 b9 b11 b10 b12 s10 s12 hr4 hr5 hr4' hr5'
    -- told numbers
    have n3q : r3 ≠ q := fun z => by rw [z, mq] at mt; have e := Option.some.inj mt; injection e with e; have := congrArg List.length e; rw [lns] at this; cases this
    refine rng_go (cons_go (op_go ?_))
    refine ⟨_, rfl, _, rfl, z, _, _, _, rfl, rfl, SqT.of mz, rfl, b, s7, rfl, mb, by omega, by omega, fun e4 x y w e40 e41 => ⟨_, _, rfl, rfl, ?_⟩⟩
    have u13 : But b HE (upd HE b (.lst [.int x, .int y, .int w])) := But.upd'
    have b13 : Box (upd HE b (.lst [.int x, .int y, .int w])) b := Box.upd'
    generalize upd HE b (.lst [.int x, .int y, .int w]) = HF at *
    obtain ⟨N, eN⟩ : ∃ t : Nat, 1 + e4 = (t : Int) := ⟨(1 + e4).toNat, by omega⟩
    have N1 : 1 ≤ N ∧ N ≤ 50 := by omega
    refine ⟨1 + e4, rfl, by omega, by omega, ?_⟩
    rw [eN]
    refine for_range (lo := 0) (n := N) (fun i σ H' => KpE (fun a => a = b ∨ a = r3) HF H' ∧ Box H' b ∧ ∃ (ts : List Int) (x6 : Option V), σ = [some (.ref b), some (.ref z), some (.ref q), some (.int (m : Int)), some (.int (sp : Int)), some (.ref d), x6, none, none, none] ∧ H' r3 = some (.lst (ts.map V.int)) ∧ ts.length = i ∧ ∀ n ∈ ts, -999999 ≤ n ∧ n ≤ 999999) ⟨KpE.refl _ _, b13, [], _, rfl, u13 _ _ n3b mt, rfl, (fun _ h => nomatch h)⟩ ?_ ?_
    · rintro i σ HG hi ⟨kG, bG, ts, x6, rfl, hG, lts, ots⟩
      have dG := kG _ _ (ex3b ndb n3d.symm) (u13 _ _ ndb md)
      have gG : DGet HG d (.str "told") (some (.ref r3)) := by rw [← mk]; exact DGet.k (k := .inr "told") dG
      refine name_go ?_
      refine ⟨_, rfl, d, _, rfl, gG, .inl ⟨rfl, _, SqL.of hG⟩, ?_⟩
      refine ⟨_, rfl, b, 999999, rfl, bG, by decide, by decide, fun HI n uI bI on => ?_⟩
      have hI := uI _ _ n3b hG
      refine ⟨r3, _, _, rfl, rfl, hI, by rw [List.length_map]; omega, ?_⟩
      refine ⟨kG.trans fun a o na e => (upd_ne fun z => na (.inr z)).trans (uI _ _ (fun z => na (.inl z)) e), bI.other n3b, ts ++ [n], _, rfl, by rw [List.map_append]; exact upd_same, by rw [List.length_append, lts]; rfl, ?_⟩
      intro n' hn'
      rcases List.mem_append.mp hn' with h | h
      · exact ots _ h
      · rw [List.mem_singleton.mp h]; omega
    · rintro σ HG ⟨kG, bG, ts, x6, rfl, hG, lts, ots⟩
      -- the book of names and numbers
      have dG := kG _ _ (ex3b ndb n3d.symm) (u13 _ _ ndb md)
      have kEF : KpE (fun a => a = b ∨ a = r3) HE HF := KpE.but (.inl rfl) u13
      have bkG : BkAt HG (· = b) d ⟨ns.take sp, (ns.drop sp).take (m - sp), ts, (ns.drop 4).take (t1 - 4), (ns.drop 6).take (t2 - 6), [], [], []⟩ kvs2 :=
        ⟨dG, ndb, ((m1'.kp kEF).kp kG).mono fun a e => .inl e, ((m2'.kp kEF).kp kG).mono fun a e => .inl e, ⟨r3, mk, n3b, hG⟩, ((m4'.kp kEF).kp kG).mono fun a e => .inl e, ((m5'.kp kEF).kp kG).mono fun a e => .inl e⟩
      have bok : BkOk ⟨ns.take sp, (ns.drop sp).take (m - sp), ts, (ns.drop 4).take (t1 - 4), (ns.drop 6).take (t2 - 6), [], [], []⟩ := by
        refine ⟨?_, ?_, ?_, ?_, ?_, ?_, ?_, ?_, ots⟩
        · simp only [List.length_append, List.length_take, List.length_drop]; omega
        · intro z; have : ts.length = 0 := by rw [show ts = [] from z]; rfl
          omega
        · show ts.length ≤ 100; omega
        · intro z; have := congrArg List.length (show ns.take sp = [] from z); rw [List.length_take] at this; have : min sp ns.length = 0 := this; omega
        · intro z; have := congrArg List.length (show (ns.drop 4).take (t1 - 4) = [] from z); rw [List.length_take, List.length_drop] at this; have : min (t1 - 4) (ns.length - 4) = 0 := this; omega
        · intro s hs
          rcases List.mem_append.mp hs with h | h
          · exact okn s (List.mem_of_mem_take h)
          · exact okn s (List.mem_of_mem_drop (List.mem_of_mem_take h))
        · intro s hs
          rcases List.mem_append.mp hs with h | h
          · exact okn s (List.mem_of_mem_drop (List.mem_of_mem_take h))
          · exact okn s (List.mem_of_mem_drop (List.mem_of_mem_take h))
        · have e : ns.take sp ++ (ns.drop sp).take (m - sp) = ns.take m := by
            rw [← List.take_add, show sp + (m - sp) = m by omega]
          show (ns.take sp ++ (ns.drop sp).take (m - sp)).Nodup
          rw [e]
          exact nd.sublist (List.take_sublist _ _)
      have uG : But b H HG := fun a o na e => by
        have n3 : a ≠ r3 := fun z => by
          have : H r3 = some o := by rw [← z]; exact e
          have h2 := u3 _ _ n3b this
          have h3 : H3 r3 = none := hr30
          rw [h3] at h2; cases h2
        exact kG _ _ (ex3b na n3) (u13 _ _ na (mu _ _ na e))
      have hqG := kG _ _ (ex3b nqb n3q.symm) (u13 _ _ nqb mq)
      have hzG := uG _ _ nzb hz
      generalize hB : (⟨ns.take sp, (ns.drop sp).take (m - sp), ts, (ns.drop 4).take (t1 - 4), (ns.drop 6).take (t2 - 6), [], [], []⟩ : BookD) = B0 at *
      clear m1' m2' m4' m5' mt md mk mu mq mz mb kEF kG u13 b13
      try dsimp only
      -- worths
      refine seq_go ?_
      refine ⟨_, rfl, _, rfl, z, _, _, _, rfl, rfl, SqT.of hzG, rfl, _, _, rfl, rfl, b, s3 + 1, rfl, bG, by omega, by omega, fun e5 x y w e50 e51 => ?_⟩
      have uH : But b HG (upd HG b (.lst [.int x, .int y, .int w])) := But.upd'
      have bH : Box (upd HG b (.lst [.int x, .int y, .int w])) b := Box.upd'
      have bkH := bkG.kp (KpE.but (ex := (· = b)) rfl uH)
      generalize upd HG b (.lst [.int x, .int y, .int w]) = HH at *
      obtain ⟨N2, eN2⟩ : ∃ t : Nat, e5 = (t : Int) := ⟨e5.toNat, by omega⟩
      have N2b : N2 ≤ 50 := by omega
      refine ⟨e5, rfl, by omega, by omega, ?_⟩
      rw [eN2]
      refine fun D hD => lc_range (lo := 0) (n := N2) (fun j H' => KpE (· = b) HH H' ∧ Box H' b ∧ ∃ ws es, H' D = some (.lst ws) ∧ Paired (WorthAt H') ws es ∧ es.length = j ∧ ∀ e ∈ es, okWorth B0 e) ⟨KpE.of (new_at hD).1, bH.keep (new_at hD).1, [], [], upd_same, .nil, rfl, (fun _ h => nomatch h)⟩ ?_ ?_
      · rintro jj HI hjj ⟨kI, bI, ws, es, hDI, pw, le, oe⟩
        have nDb : D ≠ b := fun z => by obtain ⟨x, y, w, e⟩ := bH; rw [← z, hD] at e; cases e
        refine name_go ⟨rfl, ?_⟩
        unfold tYes
        refine iteSe rfl ?_
        refine ⟨_, rfl, _, rfl, b, d, B0, kvs2, rfl, bI, bkH.kp kI, bok, fun HJ v e uJ bJ we oke => ?_⟩
        have hDJ := uJ _ _ nDb hDI
        have tJ := tup_but bI uJ
        refine ⟨ws, hDJ, by rw [pw.len]; omega, ?_⟩
        have tA : TupKp HJ (upd HJ D (.lst (ws ++ [v]))) := TupKp.upd' hDJ fun xs z => nomatch z
        refine ⟨fun a o na e => (upd_ne (ne_of_none e hD)).trans (uJ _ _ na (kI _ _ na e)), bJ.other nDb, ws ++ [v], es ++ [e], upd_same, ?_, by rw [List.length_append, le]; rfl, ?_⟩
        · exact Paired.app (pw.mapP' fun _ _ z => (z.kp tJ).kp tA) (.cons (we.kp tA) .nil)
        · intro e' he'
          rcases List.mem_append.mp he' with h | h
          · exact oe _ h
          · rw [List.mem_singleton.mp h]; exact oke
      · rintro HI ⟨kI, bI, ws, wes, hDI, pw, lwe, owe⟩
        have nDb : D ≠ b := fun z => by obtain ⟨x, y, w, e⟩ := bH; rw [← z, hD] at e; cases e
        have bkI := bkH.kp kI
        have nDd : D ≠ d := ne_of hDI bkI.at' fun z => nomatch z
        refine ⟨_, rfl, d, _, rfl, DPut.k (k := .inr "worths") bkI.at' (by omega), ?_⟩
        have bkJ := bkI.put (k := "worths") (v := .ref D) (by decide) (by decide) (by decide) (by decide) (by decide)
        have wJ : InD (upd HI d (.dK (putK kvs2 (.inr "worths") (.ref D)))) (· = b) _ "worths" ws := InD.put' bkI.at' nDb hDI
        have tJ : TupKp HI (upd HI d (.dK (putK kvs2 (.inr "worths") (.ref D)))) := TupKp.upd' bkI.at' fun xs z => nomatch z
        have pJ := pw.mapP' fun _ _ z => z.kp tJ
        have bJ : Box (upd HI d (.dK (putK kvs2 (.inr "worths") (.ref D)))) b := bI.other ndb
        have uJ : But b H (upd HI d (.dK (putK kvs2 (.inr "worths") (.ref D)))) := fun a o na e => (upd_ne (ne_of_none e hd0')).trans (kI _ _ na (uH _ _ na (uG _ _ na e)))
        have hqI := kI _ _ nqb (uH _ _ nqb hqG)
        have qJ : upd HI d (.dK (putK kvs2 (.inr "worths") (.ref D))) q = some (.lst (ns.map V.str)) := (upd_ne (ne_of hqI bkI.at' fun z => nomatch z)).trans hqI
        have lJ : (putK kvs2 (.inr "worths") (.ref D)).length ≤ 6 := Nat.le_trans (length_putK _ _ _) (by omega)
        have zJ := uJ _ _ nzb hz
        generalize upd HI d (.dK (putK kvs2 (.inr "worths") (.ref D))) = HJ at *
        generalize putK kvs2 (.inr "worths") (.ref D) = kvs3 at *
        try dsimp only
        -- the events' names, how many rows may be
        refine seq_asg ?_
        refine ⟨_, rfl, (8 : Int), rfl, _, rfl, _, rfl, z, _, _, _, rfl, rfl, SqT.of zJ, rfl, b, s4, rfl, bJ, by omega, by omega, fun e6 x y w e60 e61 => ?_⟩
        have uK : But b HJ (upd HJ b (.lst [.int x, .int y, .int w])) := But.upd'
        have bK : Box (upd HJ b (.lst [.int x, .int y, .int w])) b := Box.upd'
        have tK := tup_but bJ uK
        generalize upd HJ b (.lst [.int x, .int y, .int w]) = HK at *
        obtain ⟨t3, et3⟩ : ∃ t : Nat, 9 + e6 = (t : Int) := ⟨(9 + e6).toNat, by omega⟩
        have t39 : 9 ≤ t3 ∧ t3 ≤ 14 := by omega
        refine ⟨_, _, rfl, rfl, _, rfl, q, _, rfl, SqL.of (uK _ _ nqb qJ), fun r6 hr6 => ?_⟩
        rw [et3, show (8 : Int) = ((8 : Nat) : Int) from rfl, cutAB (by rw [lns]; omega) (by rw [lns]; omega), ← List.map_drop, ← List.map_take]
        obtain ⟨s14, h6⟩ := new_at (o := .lst (((ns.drop 8).take (t3 - 8)).map V.str)) hr6
        have n6b : r6 ≠ b := new_ne bK.ne hr6
        have uL : But b HJ (upd HK r6 (.lst (((ns.drop 8).take (t3 - 8)).map V.str))) := uK.trans (Same.but s14)
        have bL := bK.keep s14
        have tL := tK.trans (TupKp.of s14)
        generalize upd HK r6 (.lst (((ns.drop 8).take (t3 - 8)).map V.str)) = HL at *
        have zL := uL _ _ nzb zJ
        refine ⟨_, rfl, z, _, _, _, rfl, rfl, SqT.of zL, rfl, _, rfl, z, _, _, _, rfl, rfl, SqT.of zL, rfl, (by decide : 2 ≤ sizeLine), fun l hl0 => ⟨(by decide : 2 ≤ sizeLine), fun tp htp => ?_⟩⟩
        obtain ⟨s15, hl⟩ := new_at (o := .lst [V.int s5, V.int s6]) hl0
        have nlb : l ≠ b := new_ne bL.ne hl0
        have bkL : BkAt HL (ExBL b l) d B0 kvs3 := (bkJ.kp (KpE.but (ex := (· = b)) rfl uL)).exN hl0
        have wL : InD HL (ExBL b l) kvs3 "worths" ws := (wJ.kp (KpE.but (ex := (· = b)) rfl uL)).exN hl0
        have n6l : r6 ≠ l := ne_of_none h6 hl0
        have hl00 : H l = none := new_but (uJ.trans uL) bL hl0
        have uM : But b HJ (upd HL l (.lst [V.int s5, V.int s6])) := uL.trans (Same.but s15)
        have bM := bL.keep s15
        have tM := tL.trans (TupKp.of s15)
        have h6M := s15 _ _ h6
        change upd HL l (.lst [V.int s5, V.int s6]) tp = none at htp
        change gTup _ _ _ _ _ (upd (upd HL l (.lst [V.int s5, V.int s6])) tp _) _
        generalize upd HL l (.lst [V.int s5, V.int s6]) = HM at *
        obtain ⟨s16, htp'⟩ := new_at (o := .tup [V.ref r6, V.ref l]) htp
        have uN : But b HJ (upd HM tp (.tup [V.ref r6, V.ref l])) := uM.trans (Same.but s16)
        have bN := bM.keep s16
        have tN := tM.trans (TupKp.of s16)
        have h6N := s16 _ _ h6M
        have hlN := s16 _ _ hl
        change gTup _ _ _ _ _ (upd HM tp (.tup [V.ref r6, V.ref l])) _
        generalize upd HM tp (.tup [V.ref r6, V.ref l]) = HN at *
        refine ⟨tp, _, rfl, SqT.of htp', rfl, _, _, rfl, _, _, rfl, rfl, ?_⟩
        try dsimp only
        have bkN : BkAt HN (ExBL b l) d B0 kvs3 := bkL.kp (KpE.of (s15.trans s16))
        have wN : InD HN (ExBL b l) kvs3 "worths" ws := wL.kp (KpE.of (s15.trans s16))
        have pN := pJ.mapP' fun _ _ z => z.kp tN
        have uHN : But b H HN := uJ.trans uN
        clear bkL wL bkJ wJ pJ uJ bJ tJ qJ zJ uK bK tK s14 h6 uL bL tL zL s15 hl uM bM tM h6M s16 htp htp' uN hl0 hr6
        refine seq_go ?_
        obtain ⟨evn, eevn⟩ : ∃ evn, (ns.drop 8).take (t3 - 8) = evn := ⟨_, rfl⟩
        rw [eevn] at h6N
        have levn : evn.length = t3 - 8 := by rw [← eevn, List.length_take, List.length_drop]; omega
        obtain ⟨ev0, evr, ecv⟩ : ∃ x r, evn = x :: r := by cases evn with
          | nil => simp at levn; omega
          | cons x r => exact ⟨x, r, rfl⟩
        have okevn : ∀ s ∈ evn, nameB s = true := fun s hs => by rw [← eevn] at hs; exact okn s (List.mem_of_mem_drop (List.mem_of_mem_take hs))
        refine ⟨_, rfl, r6, rfl, ⟨_, SqL.of h6N⟩, fun D2 hD2 => lc_it (walk_list (xs := evn.map V.str)) (fun i H' => KpE (· = b) HN H' ∧ Box H' b ∧ ∃ es fs, H' D2 = some (.lst es) ∧ Paired (EventE H' (fun a => ExBL b l a ∨ a = D2)) es fs ∧ fs.map (·.name) = evn.take i ∧ ∀ e ∈ fs, okEvent B0 e) ⟨KpE.of (new_at hD2).1, bN.keep (new_at hD2).1, [], [], upd_same, .nil, rfl, (fun _ h => nomatch h)⟩ (fun i H' _ z => SqL.of (z.1 _ _ n6b h6N)) ?_ ?_⟩
        · rintro ii y HO' HO hii ⟨kO, bO, es, fs, hDO, pe, ne, oe⟩ ⟨rfl, ey⟩
          have nDb : D2 ≠ b := fun z => by obtain ⟨x, y, w, e⟩ := bN; rw [← z, hD2] at e; cases e
          have hii' : ii < evn.length := by rw [List.length_map] at hii; exact hii
          rw [List.getElem?_map, List.getElem?_eq_getElem hii'] at ey
          obtain rfl : V.str evn[ii] = y := Option.some.inj ey
          refine name_go ⟨rfl, ?_⟩
          unfold tYes
          refine iteSe rfl ?_
          have h6O := kO _ _ n6b h6N
          refine ⟨_, rfl, _, rfl, _, rfl, _, rfl, _, rfl, r6, _, _, _, rfl, rfl, SqL.of h6O, (by rw [ecv]; exact atI_nat (j := 0) rfl : atI (evn.map V.str) 0 = some (.str ev0)), rfl, ?_⟩
          refine ⟨b, d, evn[ii], _, B0, kvs3, rfl, bO, (bkN.mono (ex' := (· = b)) fun a e => .inl e).kp kO, bok, okevn _ (List.getElem_mem hii'), fun HP p o e uP bP ho0 hp ho en oke => ?_⟩
          have hDP := uP _ _ nDb hDO
          have tP := tup_but bO uP
          have nob : o ≠ b := fun z => by obtain ⟨x, y, w, e'⟩ := bO; rw [z, e'] at ho0; cases ho0
          have nol : o ≠ l := fun z => by have := kO _ _ nlb hlN; rw [← z, ho0] at this; cases this
          have noD : o ≠ D2 := fun z => by rw [z, hDO] at ho0; cases ho0
          refine ⟨es, hDP, ?_, ?_⟩
          · have := congrArg List.length ne
            rw [List.length_map, List.length_take] at this
            rw [pe.len]; omega
          have tA : TupKp HP (upd HP D2 (.lst (es ++ [V.ref p]))) := TupKp.upd' hDP fun xs z => nomatch z
          have kA : KpE (fun a => ExBL b l a ∨ a = D2) HP (upd HP D2 (.lst (es ++ [V.ref p]))) := fun a u na e => (upd_ne fun z => na (.inr z)).trans e
          refine ⟨fun a u na e => (upd_ne (ne_of_none e hD2)).trans (uP _ _ na (kO _ _ na e)), bP.other nDb, es ++ [V.ref p], fs ++ [e], upd_same, ?_, ?_, ?_⟩
          · refine Paired.app (pe.mapP' fun _ _ z => (z.kp tP (KpE.but (.inl (.inl rfl)) uP)).kp tA kA) (.cons ?_ .nil)
            exact ⟨p, o, rfl, tA _ _ hp, (fun z => Or.elim z (fun z => Or.elim z nob nol) noD), (upd_ne noD).trans ho⟩
          · rw [List.map_append, ne, List.map_cons, List.map_nil, en]
            exact List.take_append_getElem hii'
          · intro e' he'
            rcases List.mem_append.mp he' with h | h
            · exact oe _ h
            · rw [List.mem_singleton.mp h]; exact oke
        · rintro HO ⟨kO, bO, es, fs, hDO, pe, ne, oe⟩
          have nDb : D2 ≠ b := fun z => by obtain ⟨x, y, w, e⟩ := bN; rw [← z, hD2] at e; cases e
          have nDl : D2 ≠ l := fun z => by rw [z, hlN] at hD2; cases hD2
          rw [List.length_map, List.take_length] at ne
          have kOE : KpE (ExBL b l) HN HO := KpE.mono (fun a e => .inl e) kO
          have bkO := bkN.kp kOE
          have wO := wN.kp kOE
          have tO : TupKp HN HO := fun a xs e => kO _ _ (fun z => by obtain ⟨x, y, w, q⟩ := bN; rw [z, q] at e; cases e) e
          have pO := pN.mapP' fun _ _ z => z.kp tO
          have nDd : D2 ≠ d := ne_of hDO bkO.at' fun z => nomatch z
          refine ⟨_, rfl, d, _, rfl, DPut.k (k := .inr "events") bkO.at' (by omega), ?_⟩
          have bkP := bkO.put (k := "events") (v := .ref D2) (by decide) (by decide) (by decide) (by decide) (by decide)
          have tP : TupKp HO (upd HO d (.dK (putK kvs3 (.inr "events") (.ref D2)))) := TupKp.upd' bkO.at' fun xs z => nomatch z
          have wP : InD (upd HO d (.dK (putK kvs3 (.inr "events") (.ref D2)))) (ExBL b l) _ "worths" ws := (wO.updD bkO.at').put (k' := "events") (v := .ref D2) (by decide)
          have eP : InD (upd HO d (.dK (putK kvs3 (.inr "events") (.ref D2)))) (ExBL b l) _ "events" es := InD.put' bkO.at' (fun z => Or.elim z nDb nDl) hDO
          have pwP := pO.mapP' fun _ _ z => z.kp tP
          have peP : Paired (EventE (upd HO d (.dK (putK kvs3 (.inr "events") (.ref D2)))) (ExBL b l)) es fs := pe.mapP' fun _ _ z => (z.mono fun a e => .inl e).updD bkO.at'
          have bP : Box (upd HO d (.dK (putK kvs3 (.inr "events") (.ref D2)))) b := bO.other ndb
          have ldl : d ≠ l := fun z => bkO.out (.inr z)
          have lP : upd HO d (.dK (putK kvs3 (.inr "events") (.ref D2))) l = some (.lst [.int s5, .int s6]) := (upd_ne ldl.symm).trans (kO _ _ nlb hlN)
          have h6P : upd HO d (.dK (putK kvs3 (.inr "events") (.ref D2))) r6 = some (.lst (evn.map V.str)) := (upd_ne (ne_of (kO _ _ n6b h6N) bkO.at' fun z => nomatch z)).trans (kO _ _ n6b h6N)
          have uP : But b H (upd HO d (.dK (putK kvs3 (.inr "events") (.ref D2)))) := fun a o na e => (upd_ne (ne_of_none e hd0')).trans (kO _ _ na (uHN _ _ na e))
          have lkP : (putK kvs3 (.inr "events") (.ref D2)).length ≤ 7 := Nat.le_trans (length_putK _ _ _) (by omega)
          clear pN wN bkN pO wO bkO kOE tO tP pe hDO kO bO bN tN h6N hlN
          generalize upd HO d (.dK (putK kvs3 (.inr "events") (.ref D2))) = HP at *
          generalize putK kvs3 (.inr "events") (.ref D2) = kvs4 at *
          try dsimp only
          -- handlers
          refine seq_go ?_
          refine ⟨Nat.zero_le _, fun r8 hr8 => ⟨_, rfl, d, _, rfl, DPut.k (k := .inr "handlers") ((new_at hr8).1 _ _ bkP.at') (by omega), ?_⟩⟩
          obtain ⟨s17, h8⟩ := new_at (o := .lst []) hr8
          have n8b : r8 ≠ b := new_ne bP.ne hr8
          have n8l : r8 ≠ l := fun z => by rw [z, lP] at hr8; cases hr8
          have bkQ := (bkP.exN hr8).kp (KpE.of s17)
          have wQ := (wP.exN hr8).kp (KpE.of s17)
          have eQ := (eP.exN hr8).kp (KpE.of s17)
          have pwQ := pwP.mapP' fun _ _ z => z.kp (TupKp.of s17)
          have peQ := peP.mapP' fun _ _ z => (z.exN hr8).kp (TupKp.of s17) (KpE.of s17)
          have bQ := bP.keep s17
          have lQ := s17 _ _ lP
          have h6Q := s17 _ _ h6P
          have uQ := uP.trans (Same.but s17)
          have n86 : r6 ≠ r8 := ne_of_none h6P hr8
          generalize upd HP r8 (.lst []) = HQ at *
          have hr80 : H r8 = none := new_but uP bP hr8
          have n8d : r8 ≠ d := ne_of h8 bkQ.at' fun z => nomatch z
          have bkR := bkQ.put (k := "handlers") (v := .ref r8) (by decide) (by decide) (by decide) (by decide) (by decide)
          have tR : TupKp HQ (upd HQ d (.dK (putK kvs4 (.inr "handlers") (.ref r8)))) := TupKp.upd' bkQ.at' fun xs z => nomatch z
          have wR : InD (upd HQ d (.dK (putK kvs4 (.inr "handlers") (.ref r8)))) (fun a => ExBL b l a ∨ a = r8) _ "worths" ws := (wQ.updD bkQ.at').put (k' := "handlers") (v := .ref r8) (by decide)
          have eR : InD (upd HQ d (.dK (putK kvs4 (.inr "handlers") (.ref r8)))) (fun a => ExBL b l a ∨ a = r8) _ "events" es := (eQ.updD bkQ.at').put (k' := "handlers") (v := .ref r8) (by decide)
          have hvR : valV (putK kvs4 (.inr "handlers") (.ref r8)) (.inr "handlers") = some (.ref r8) := by rw [valV_put, if_pos rfl]
          have pwR := pwQ.mapP' fun _ _ z => z.kp tR
          have peR : Paired (EventE (upd HQ d (.dK (putK kvs4 (.inr "handlers") (.ref r8)))) (fun a => ExBL b l a ∨ a = r8)) es fs := peQ.mapP' fun _ _ z => z.updD bkQ.at'
          have bR : Box (upd HQ d (.dK (putK kvs4 (.inr "handlers") (.ref r8)))) b := bQ.other ndb
          have lR : upd HQ d (.dK (putK kvs4 (.inr "handlers") (.ref r8))) l = some (.lst [.int s5, .int s6]) := (upd_ne ldl.symm).trans lQ
          have h8R : upd HQ d (.dK (putK kvs4 (.inr "handlers") (.ref r8))) r8 = some (.lst []) := (upd_ne n8d).trans h8
          have h6R : upd HQ d (.dK (putK kvs4 (.inr "handlers") (.ref r8))) r6 = some (.lst (evn.map V.str)) := (upd_ne (ne_of h6Q bkQ.at' fun z => nomatch z)).trans h6Q
          have uR : But b H (upd HQ d (.dK (putK kvs4 (.inr "handlers") (.ref r8)))) := fun a o na e => (upd_ne (ne_of_none e hd0')).trans (uQ _ _ na e)
          clear bkP wP eP pwP peP bP lP h6P uP s17 hr8 bkQ wQ eQ pwQ peQ bQ lQ h6Q uQ tR h8
          generalize upd HQ d (.dK (putK kvs4 (.inr "handlers") (.ref r8))) = HR at *
          generalize putK kvs4 (.inr "handlers") (.ref r8) = kvs5 at *
          try dsimp only
          refine seq_go ?_
          refine ⟨_, rfl, _, rfl, b, r6, _, rfl, bR, h6R, n6b, by rw [List.length_map]; omega, fun HS mx mxs uS bS nmb hm0 hmx pmx => ?_⟩
          obtain ⟨mm, rfl, pmm⟩ := perm_strs pmx
          have nml : mx ≠ l := fun z => by rw [z, lR] at hm0; cases hm0
          have nm8 : mx ≠ r8 := fun z => by rw [z, h8R] at hm0; cases hm0
          have kRS : KpE (fun a => ExBL b l a ∨ a = r8) HR HS := KpE.but (.inl (.inl rfl)) uS
          have tRS := tup_but bR uS
          have bkS := bkR.kp kRS
          have wS := wR.kp kRS
          have eS := eR.kp kRS
          have pwS := pwR.mapP' fun _ _ z => z.kp tRS
          have peS := peR.mapP' fun _ _ z => z.kp tRS kRS
          have lS : LeftAt HS l := ⟨_, _, uS _ _ nlb lR⟩
          have h8S := uS _ _ n8b h8R
          have uS0 : But b H HS := uR.trans uS
          have ndm : mm.Nodup := pmm.nodup_iff.mpr (by rw [← eevn]; exact nd.sublist ((List.take_sublist _ _).trans (List.drop_sublist _ _)))
          clear bkR wR eR pwR peR bR lR h8R uR kRS tRS h6R
          refine ⟨mx, rfl, ⟨_, SqL.of hmx⟩, for_it (walk_list (xs := mm.map V.str)) (fun i σ H' => KpE (fun a => ExBL b l a ∨ a = r8) HS H' ∧ TupKp HS H' ∧ Box H' b ∧ LeftAt H' l ∧ ∃ (hs : List V) (hds : List (Str × List RowD)) (x9 : Option V), σ = [some (.ref b), some (.ref z), some (.ref q), some (.int (m : Int)), some (.int (sp : Int)), some (.ref d), x6, some (.ref r6), some (.ref l), x9] ∧ H' r8 = some (.lst hs) ∧ Paired (HandlerAt H') hs hds ∧ (∀ e ∈ hds, e.1 ∈ mm.take i ∧ okRowL B0 e.2 3 ∧ e.2.length ≤ 3) ∧ (hds.map (·.1)).Nodup ∧ hds.length ≤ i)
            ⟨KpE.refl _ _, TupKp.refl _, bS, lS, [], [], _, rfl, h8S, .nil, (fun _ h => nomatch h), List.nodup_nil, Nat.le_refl _⟩ (fun i σ H' _ y => SqL.of (y.1 _ _ (fun z => Or.elim z (fun z => Or.elim z nmb nml) nm8) hmx)) ?_ ?_⟩
          · rintro ii y σ HT' HT hii ⟨kT, tT, bT, lT, hs, hds, x9, rfl, h8T, ph, oh, nh, lh⟩ ⟨rfl, ey⟩
            have hii' : ii < mm.length := by rw [List.length_map] at hii; exact hii
            rw [List.getElem?_map, List.getElem?_eq_getElem hii'] at ey
            obtain rfl : V.str mm[ii] = y := Option.some.inj ey
            refine name_go ?_
            try dsimp only
            refine ⟨_, rfl, b, 6, rfl, bT, by decide, by decide, fun e7 x y w e70 e71 => ?_⟩
            have uU : But b HT (upd HT b (.lst [.int x, .int y, .int w])) := But.upd'
            have bU : Box (upd HT b (.lst [.int x, .int y, .int w])) b := Box.upd'
            have tU := tup_but bT uU
            have lU := lT.keep' fun o e => uU _ _ nlb e
            have h8U := uU _ _ n8b h8T
            generalize upd HT b (.lst [.int x, .int y, .int w]) = HU at *
            have kU : KpE (fun a => ExBL b l a ∨ a = r8) HS HU := kT.trans (KpE.but (.inl (.inl rfl)) uU)
            have tSU := tT.trans tU
            have phU := ph.mapP' fun _ _ z => z.kp tU
            refine ⟨_, _, rfl, rfl, _, rfl, ite2 (fun _ => ?_) (fun _ => next_go ?_)⟩
            · have bkU := bkS.kp kU
              have gU : DGet HU d (.str "handlers") (some (.ref r8)) := by rw [← hvR]; exact DGet.k (k := .inr "handlers") bkU.at'
              refine ⟨_, rfl, d, _, rfl, gU, .inl ⟨rfl, _, SqL.of h8U⟩, ?_⟩
              refine cons_go (tup_go (cons_go ⟨_, rfl, cons_go ?_⟩))
              refine ⟨_, rfl, _, rfl, _, rfl, b, d, l, 3, B0, kvs5, rfl, rfl, bU, lU, nlb, bkU.mono (fun a e => .inl e), bok, fun HV qq xs rs kV bV lV hqq rl orl lr => ⟨(by decide : 2 ≤ sizeLine), fun p hp => ?_⟩⟩
              have tV : TupKp HU HV := tupE bU lU kV
              have h8V := kV _ _ (fun z => Or.elim z n8b n8l) h8U
              obtain ⟨s18, hp'⟩ := new_at (o := .tup [V.str mm[ii], V.ref qq]) hp
              have h8W := s18 _ _ h8V
              have bW := bV.keep s18
              have lW := lV.keep' fun o e => s18 _ _ e
              have tW := tV.trans (TupKp.of s18)
              have hqW := s18 _ _ hqq
              have rlW := rl.kp (TupKp.of s18)
              have kW : KpE (fun a => ExBL b l a ∨ a = r8) HS (upd HV p (.tup [V.str mm[ii], V.ref qq])) := (kU.trans (KpE.mono (fun a e => .inl e) kV)).trans (KpE.of s18)
              generalize upd HV p (.tup [V.str mm[ii], V.ref qq]) = HW at *
              have tX : TupKp HW (upd HW r8 (.lst (hs ++ [V.ref p]))) := TupKp.upd' h8W fun xs z => nomatch z
              refine ⟨r8, hs, V.ref p, rfl, rfl, h8W, ?_, ?_⟩
              · have h1 := ph.len
                have h3 := pmm.length_eq
                omega
              refine ⟨kW.trans fun a o na e => (upd_ne fun z => na (.inr z)).trans e, (tSU.trans tW).trans tX, bW.other n8b, lW.keep' fun o e => (upd_ne n8l.symm).trans e, hs ++ [V.ref p], hds ++ [(mm[ii], rs)], _, rfl, upd_same, ?_, ?_, ?_, by rw [List.length_append]; show _ + 1 ≤ _; omega⟩
              · exact Paired.app (phU.mapP' fun _ _ z => (z.kp tW).kp tX) (.cons ⟨p, qq, xs, rfl, tX _ _ hp', tX _ _ hqW, rlW.kp tX⟩ .nil)
              · intro e he
                rcases List.mem_append.mp he with h | h
                · obtain ⟨h1, h2⟩ := oh e h
                  exact ⟨by rw [← List.take_append_getElem hii']; exact List.mem_append_left _ h1, h2⟩
                · cases List.mem_singleton.mp h
                  exact ⟨by rw [← List.take_append_getElem hii']; exact List.mem_append_right _ (List.mem_singleton_self _), orl, lr⟩
              · rw [List.map_append, List.nodup_append]
                refine ⟨nh, by simp, fun x hx y hy e => ?_⟩
                rw [List.map_cons, List.map_nil, List.mem_singleton] at hy
                subst hy
                subst e
                obtain ⟨e', he', ex'⟩ := List.mem_map.mp hx
                have h1 := (oh e' he').1
                rw [ex'] at h1
                have ndm' := ndm
                rw [← List.take_append_drop ii mm, List.nodup_append] at ndm'
                refine ndm'.2.2 _ h1 _ ?_ rfl
                rw [List.drop_eq_getElem_cons hii']
                exact List.mem_cons_self
            · refine ⟨kU, tSU, bU, lU, hs, hds, _, rfl, h8U, phU, (fun e he => ?_), nh, by omega⟩
              obtain ⟨h1, h2⟩ := oh e he
              exact ⟨by rw [← List.take_append_getElem hii']; exact List.mem_append_left _ h1, h2⟩
          · rintro σ HT ⟨kT, tT, bT, lT, hs, hds, x9, rfl, h8T, ph, oh, nh, lh⟩
            refine ⟨_, rfl, ?_⟩
            have bkT := bkS.kp kT
            subst hB
            refine k HT d ⟨ns.take sp, (ns.drop sp).take (m - sp), ts, (ns.drop 4).take (t1 - 4), (ns.drop 6).take (t2 - 6), wes, fs, hds⟩ kvs5 ?_ bT ?_ ?_
            · exact fun a o na e => kT _ _ (fun z => Or.elim z (fun z => Or.elim z na (ne_of_none e hl00)) (ne_of_none e hr80)) (uS0 _ _ na e)
            · have bkM := bkT.mono (ex' := (· = b)) fun a e => .inl (.inl e)
              refine ⟨⟨bkM.at', bkM.out, bkM.rests, bkM.passes, bkM.told, bkM.totals, bkM.notes⟩, ⟨ws, (wS.kp kT).mono fun a e => .inl (.inl e), pwS.mapP' fun _ _ z => z.kp tT⟩, ⟨es, (eS.kp kT).mono fun a e => .inl (.inl e), peS.mapP' fun _ _ z => (z.kp tT kT).mono fun a e => .inl (.inl e)⟩, ⟨hs, ⟨r8, hvR, n8b, h8T⟩, ph⟩⟩
            · have lns' : ns.length = 14 := ln
              have efs : fs.map (·.name) = evn := ne
              refine ⟨⟨bok.names, bok.told0, bok.told1, bok.rests0, bok.totals0, bok.kinds, bok.toks, bok.kindsNd, bok.nums⟩, ?_, ⟨owe, by show wes.length ≤ 100; omega⟩, ⟨oe, fun z => ?_, ?_⟩, ⟨fun e he => ?_, nh⟩⟩
              · show ((ns.take sp ++ (ns.drop sp).take (m - sp)) ++ ((ns.drop 4).take (t1 - 4) ++ ((ns.drop 6).take (t2 - 6) ++ fs.map (·.name)))).Nodup
                rw [efs, ← eevn]
                have e1 : ns.take sp ++ (ns.drop sp).take (m - sp) = (ns.take 4).take m := by
                  rw [List.take_take, Nat.min_eq_left m4, ← List.take_add, show sp + (m - sp) = m by omega]
                have e2 : (ns.drop 4).take (t1 - 4) = ((ns.drop 4).take 2).take (t1 - 4) := by rw [List.take_take, Nat.min_eq_left (by omega)]
                have e3 : (ns.drop 6).take (t2 - 6) = ((ns.drop 6).take 2).take (t2 - 6) := by rw [List.take_take, Nat.min_eq_left (by omega)]
                have all : ns = ns.take 4 ++ ((ns.drop 4).take 2 ++ ((ns.drop 6).take 2 ++ ns.drop 8)) := by
                  have a1 : (ns.drop 6).take 2 ++ ns.drop 8 = ns.drop 6 := by
                    have := List.take_append_drop 2 (ns.drop 6)
                    rw [List.drop_drop] at this
                    exact this
                  have a2 : (ns.drop 4).take 2 ++ ns.drop 6 = ns.drop 4 := by
                    have := List.take_append_drop 2 (ns.drop 4)
                    rw [List.drop_drop] at this
                    exact this
                  rw [a1, a2, List.take_append_drop]
                rw [e1, e2, e3]
                have nd' := nd
                rw [all] at nd'
                exact nd'.sublist ((List.take_sublist _ _).append ((List.take_sublist _ _).append ((List.take_sublist _ _).append (List.take_sublist _ _))))
              · have : fs.map (·.name) = [] := by rw [show fs = [] from z]; rfl
                rw [efs, ecv] at this
                cases this
              · have := congrArg List.length efs
                rw [List.length_map] at this
                show fs.length ≤ 6
                omega
              · obtain ⟨h1, h2, h3⟩ := oh e he
                refine ⟨?_, okRowL.cong ?_ h2, h3⟩
                · show e.1 ∈ fs.map (·.name)
                  rw [efs]
                  exact pmm.mem_iff.mp (List.mem_of_mem_take h1)
                · exact ⟨rfl, rfl, rfl, rfl, rfl⟩
end
end K14

namespace K14
open PySem L2 PySem.Spec PyProof.Rows
/-! ## the package's tests and rows as instances -/
/-- the classes: Was, OldBelow, NewBelow, Moved, Noted, Not, Add, Put, Mark, If -/
structure Pkg where
  CW : Addr
  CO : Addr
  CB : Addr
  CM : Addr
  CT : Addr
  CN : Addr
  CA : Addr
  CP : Addr
  CK : Addr
  CI : Addr
def Pkg.tests (p : Pkg) : List Addr := [p.CW, p.CO, p.CB, p.CM, p.CT, p.CN]
def Pkg.rows (p : Pkg) : List Addr := [p.CA, p.CP, p.CK, p.CI]
structure PkgK (K : PySem.W.Frag) (p : Pkg) (TS RW : Addr) : Prop where
  tests : ∀ C ∈ p.tests, ObjK K C ∧ PySem.W.kitOne K (.ref C) (.ref TS) = some true
  rows : ∀ C ∈ p.rows, ObjK K C ∧ PySem.W.kitOne K (.ref C) (.ref RW) = some true
/-- tuples and instances stay -/
def ObKp (H H' : Hp) : Prop := (∀ a xs, H a = some (.tup xs) → H' a = some (.tup xs)) ∧ ∀ a C dx fs, H a = some (.ins C dx fs) → H' a = some (.ins C dx fs)
theorem ObKp.refl (H : Hp) : ObKp H H := ⟨fun _ _ h => h, fun _ _ _ _ h => h⟩
theorem ObKp.trans {H H1 H2 : Hp} (s : ObKp H H1) (t : ObKp H1 H2) : ObKp H H2 := ⟨fun a xs h => t.1 a xs (s.1 a xs h), fun a C dx fs h => t.2 a C dx fs (s.2 a C dx fs h)⟩
theorem ObKp.of {H H' : Hp} (s : Same H H') : ObKp H H' := ⟨fun _ _ h => s _ _ h, fun _ _ _ _ h => s _ _ h⟩
theorem ObKp.tup {H H' : Hp} (s : ObKp H H') : TupKp H H' := s.1
theorem ObKp.lst {H : Hp} {a : Addr} {xs : List V} {o : HO} (h : H a = some (.lst xs)) : ObKp H (upd H a o) :=
  ⟨fun b ys e => by rw [upd_ne (ne_of e h fun z => nomatch z)]; exact e, fun b C dx fs e => by rw [upd_ne (ne_of e h fun z => nomatch z)]; exact e⟩
theorem ObKp.but {b : Addr} {H H' : Hp} (hb : Box H b) (u : But b H H') : ObKp H H' := by
  obtain ⟨x, y, z, q⟩ := hb
  exact ⟨fun a ys e => u _ _ (ne_of e q fun z => nomatch z) e, fun a C dx fs e => u _ _ (ne_of e q fun z => nomatch z) e⟩
def TestOb (p : Pkg) (H : Hp) : V → TestD → Prop
  | v, .was k => ∃ a dx, v = .ref a ∧ H a = some (.ins p.CW dx [("kind", .str k)])
  | v, .cut o n => ∃ a dx, v = .ref a ∧ H a = some (.ins (if o then p.CO else p.CB) dx [("number", .int n)])
  | v, .moved => ∃ a dx, v = .ref a ∧ H a = some (.ins p.CM dx [])
  | v, .noted => ∃ a dx, v = .ref a ∧ H a = some (.ins p.CT dx [])
  | v, .not t => ∃ a dx u, v = .ref a ∧ H a = some (.ins p.CN dx [("test", u)]) ∧ TestOb p H u t
theorem TestOb.kp {p : Pkg} {H H' : Hp} (s : ObKp H H') : ∀ {t : TestD} {v : V}, TestOb p H v t → TestOb p H' v t
  | .was _, _, ⟨a, dx, e, h⟩ => ⟨a, dx, e, s.2 _ _ _ _ h⟩
  | .cut _ _, _, ⟨a, dx, e, h⟩ => ⟨a, dx, e, s.2 _ _ _ _ h⟩
  | .moved, _, ⟨a, dx, e, h⟩ => ⟨a, dx, e, s.2 _ _ _ _ h⟩
  | .noted, _, ⟨a, dx, e, h⟩ => ⟨a, dx, e, s.2 _ _ _ _ h⟩
  | .not t, _, ⟨a, dx, u, e, h, r⟩ => ⟨a, dx, u, e, s.2 _ _ _ _ h, TestOb.kp s r⟩
theorem TestOb.cls {p : Pkg} {H : Hp} {t : TestD} {v : V} (h : TestOb p H v t) : ∃ a C dx fs, v = .ref a ∧ H a = some (.ins C dx fs) ∧ C ∈ p.tests := by
  cases t with
  | was k => obtain ⟨a, dx, e, h⟩ := h; exact ⟨a, _, dx, _, e, h, by simp [Pkg.tests]⟩
  | cut o n => obtain ⟨a, dx, e, h⟩ := h; exact ⟨a, _, dx, _, e, h, by cases o <;> simp [Pkg.tests]⟩
  | moved => obtain ⟨a, dx, e, h⟩ := h; exact ⟨a, _, dx, _, e, h, by simp [Pkg.tests]⟩
  | noted => obtain ⟨a, dx, e, h⟩ := h; exact ⟨a, _, dx, _, e, h, by simp [Pkg.tests]⟩
  | not t => obtain ⟨a, dx, u, e, h, _⟩ := h; exact ⟨a, _, dx, _, e, h, by simp [Pkg.tests]⟩
/-- the empty tuple of the text at t -/
structure NoRows (K : PySem.W.Frag) (t : Addr) : Prop where
  ex : ∃ (o : Obj) (n : Nat), K.lookup t = some o ∧ o.cls = .type "tuple" ∧ o.data = .seq #[] n
theorem NoRows.sq {K : PySem.W.Frag} {t : Addr} (h : NoRows K t) (H : Hp) : SqT K H t [] := by
  obtain ⟨o, n, l, c, d⟩ := h.ex
  exact .inr ⟨o, _, n, l, c, d, Nat.zero_le _, .nil⟩
/-- a tuple of the run, or the text's empty one -/
def Tp (K : PySem.W.Frag) (H : Hp) (a : Addr) (xs : List V) : Prop := H a = some (.tup xs) ∨ (xs = [] ∧ NoRows K a)
theorem Tp.kp {K : PySem.W.Frag} {H H' : Hp} {a : Addr} {xs : List V} (s : ObKp H H') (h : Tp K H a xs) : Tp K H' a xs := h.elim (fun h => .inl (s.1 _ _ h)) .inr
theorem Tp.sq {K : PySem.W.Frag} {H : Hp} {a : Addr} {xs : List V} (h : Tp K H a xs) : SqT K H a xs := by
  rcases h with h | ⟨rfl, h⟩
  · exact SqT.of h
  · exact h.sq H
mutual
def RowOb (K : PySem.W.Frag) (p : Pkg) (H : Hp) : RowD → V → Prop
  | .ife t a b, v => ∃ x dx u r o xs ys, v = .ref x ∧ H x = some (.ins p.CI dx [("test", u), ("rows", .ref r), ("others", .ref o)]) ∧ TestOb p H u t ∧ Tp K H r xs ∧ RowObL K p H a xs ∧ Tp K H o ys ∧ RowObL K p H b ys
  | .add f w t pl, v => ∃ x dx, v = .ref x ∧ H x = some (.ins p.CA dx [("factor", .int f), ("what", .str w), ("total", .str t), ("place", .str pl)])
  | .put n w, v => ∃ x dx, v = .ref x ∧ H x = some (.ins p.CP dx [("note", .str n), ("what", .str w)])
  | .mark pl, v => ∃ x dx, v = .ref x ∧ H x = some (.ins p.CK dx [("place", .str pl)])
def RowObL (K : PySem.W.Frag) (p : Pkg) (H : Hp) : List RowD → List V → Prop
  | [], xs => xs = []
  | r :: rs, xs => ∃ v vs, xs = v :: vs ∧ RowOb K p H r v ∧ RowObL K p H rs vs
end
mutual
theorem RowOb.kp {K : PySem.W.Frag} {p : Pkg} {H H' : Hp} (s : ObKp H H') : ∀ {r : RowD} {v : V}, RowOb K p H r v → RowOb K p H' r v
  | .ife _ _ _, _, h => by
    unfold RowOb at h ⊢
    obtain ⟨x, dx, u, r, o, xs, ys, e, h1, t, h2, r2, h3, r3⟩ := h
    exact ⟨x, dx, u, r, o, xs, ys, e, s.2 _ _ _ _ h1, t.kp s, h2.kp s, RowObL.kp s r2, h3.kp s, RowObL.kp s r3⟩
  | .add _ _ _ _, _, h => by unfold RowOb at h ⊢; obtain ⟨x, dx, e, h⟩ := h; exact ⟨x, dx, e, s.2 _ _ _ _ h⟩
  | .put _ _, _, h => by unfold RowOb at h ⊢; obtain ⟨x, dx, e, h⟩ := h; exact ⟨x, dx, e, s.2 _ _ _ _ h⟩
  | .mark _, _, h => by unfold RowOb at h ⊢; obtain ⟨x, dx, e, h⟩ := h; exact ⟨x, dx, e, s.2 _ _ _ _ h⟩
theorem RowObL.kp {K : PySem.W.Frag} {p : Pkg} {H H' : Hp} (s : ObKp H H') : ∀ {rs : List RowD} {xs : List V}, RowObL K p H rs xs → RowObL K p H' rs xs
  | [], _, h => by unfold RowObL at h ⊢; exact h
  | _ :: _, _, h => by
    unfold RowObL at h ⊢
    obtain ⟨v, vs, e, h1, h2⟩ := h
    exact ⟨v, vs, e, RowOb.kp s h1, RowObL.kp s h2⟩
end
theorem RowOb.cls {K : PySem.W.Frag} {p : Pkg} {H : Hp} {r : RowD} {v : V} (h : RowOb K p H r v) : ∃ a C dx fs, v = .ref a ∧ H a = some (.ins C dx fs) ∧ C ∈ p.rows := by
  cases r with
  | ife t a b => unfold RowOb at h; obtain ⟨x, dx, u, r, o, xs, ys, e, h, _⟩ := h; exact ⟨x, _, dx, _, e, h, by simp [Pkg.rows]⟩
  | add f w t pl => unfold RowOb at h; obtain ⟨x, dx, e, h⟩ := h; exact ⟨x, _, dx, _, e, h, by simp [Pkg.rows]⟩
  | put n w => unfold RowOb at h; obtain ⟨x, dx, e, h⟩ := h; exact ⟨x, _, dx, _, e, h, by simp [Pkg.rows]⟩
  | mark pl => unfold RowOb at h; obtain ⟨x, dx, e, h⟩ := h; exact ⟨x, _, dx, _, e, h, by simp [Pkg.rows]⟩
theorem RowObL.len {K : PySem.W.Frag} {p : Pkg} {H : Hp} : ∀ {rs : List RowD} {xs : List V}, RowObL K p H rs xs → xs.length = rs.length
  | [], _, h => by unfold RowObL at h; subst h; rfl
  | _ :: _, _, h => by
    unfold RowObL at h
    obtain ⟨v, vs, rfl, _, h2⟩ := h
    rw [List.length_cons, List.length_cons, RowObL.len h2]
theorem RowObL.app {K : PySem.W.Frag} {p : Pkg} {H : Hp} : ∀ {rs : List RowD} {xs : List V} {r : RowD} {v : V}, RowObL K p H rs xs → RowOb K p H r v → RowObL K p H (rs ++ [r]) (xs ++ [v])
  | [], xs, r, v, h, g => by
    unfold RowObL at h
    subst h
    show RowObL K p H [r] [v]
    unfold RowObL
    exact ⟨v, [], rfl, g, by unfold RowObL; rfl⟩
  | r0 :: rs, xs, r, v, h, g => by
    unfold RowObL at h
    obtain ⟨v0, vs, rfl, h1, h2⟩ := h
    show RowObL K p H (r0 :: (rs ++ [r])) (v0 :: (vs ++ [v]))
    unfold RowObL
    exact ⟨v0, _, rfl, h1, RowObL.app h2 g⟩
theorem RowObL.at' {K : PySem.W.Frag} {p : Pkg} {H : Hp} : ∀ {rs : List RowD} {xs : List V} {i : Nat} {v : V}, RowObL K p H rs xs → xs[i]? = some v → ∃ r, rs[i]? = some r ∧ RowOb K p H r v
  | [], _, i, v, h, e => by unfold RowObL at h; subst h; simp at e
  | r0 :: rs, _, i, v, h, e => by
    unfold RowObL at h
    obtain ⟨v0, vs, rfl, h1, h2⟩ := h
    cases i with
    | zero => rw [List.getElem?_cons_zero] at e; cases e; exact ⟨r0, rfl, h1⟩
    | succ i => rw [List.getElem?_cons_succ] at e ⊢; exact RowObL.at' h2 e
theorem RowL.at' {H : Hp} : ∀ {rs : List RowD} {xs : List V} {i : Nat} {v : V}, RowL H rs xs → xs[i]? = some v → ∃ r, rs[i]? = some r ∧ RowAt H r v
  | [], _, i, v, h, e => by unfold RowL at h; subst h; simp at e
  | r0 :: rs, _, i, v, h, e => by
    unfold RowL at h
    obtain ⟨v0, vs, rfl, h1, h2⟩ := h
    cases i with
    | zero => rw [List.getElem?_cons_zero] at e; cases e; exact ⟨r0, rfl, h1⟩
    | succ i => rw [List.getElem?_cons_succ] at e ⊢; exact RowL.at' h2 e
end K14

set_option pp.maxSteps 600
namespace L2
open PySem PySem.Spec PyProof.Rows
theorem call_isi_in {X : Cx} {K : PySem.W.Frag} (e : X.K = K) : CallR X (.builtin "isinstance") (rIsi K) := by
  subst e; exact call_isi
end L2
namespace K14
open PySem L2 PySem.Spec PyProof.Rows
structure ClsA (K : PySem.W.Frag) (mg : Str → Option Value) (nm : Str) (C : Addr) (as : List Str) : Prop where
  cl : Cls K C
  n : ∀ a ∈ as, NoAttr K C a
  m : mg nm = some (.ref C)
def okKind (k : Str) : Prop := k = "none" ∨ nameB k = true
theorem okKind.len {k : Str} (h : okKind k) : k.length ≤ 4 := by
  rcases h with rfl | h
  · decide +kernel
  · unfold nameB at h
    exact of_decide_eq_true (Bool.and_eq_true_iff.mp h).1
theorem nameB_len {k : Str} (h : nameB k = true) : k.length ≤ 4 := okKind.len (.inr h)
def okW (w : Str) : Prop := w ∈ amtL ∨ nameB w = true
section
variable {P : Program} {w : World} {K : PySem.W.Frag} {mg : Str → Option Value} {base : Heap}
abbrev s_check : Stmt := top 12
abbrev n_check : List Str := ["holds", "part"]
theorem sc_check : FnScope n_check ["holds", "part"] (defScope s_check) := ⟨rfl, rfl, rfl, by decide +kernel, rfl, by decide +kernel, by decide +kernel⟩
def spCheckT : Sp := fun vs H Q _ => ∃ p : V, vs = [.bl true, p] ∧ Q .non H
theorem ok_checkT (F : DefAt K mg "check" s_check ["holds", "part"]) : Has P w K mg base 1 "check" ["holds", "part"] spCheckT := by
  refine F.has sc_check (fun vs H Q E h => ?_) (fun f cdv A outer s H vs Q E hr h => ?_)
  · obtain ⟨p, rfl, _⟩ := h
    rfl
  · obtain ⟨p, rfl, k⟩ := h
    exact ⟨_, (pss_one (ps_if (pt_not (pt_val (pv 0))) (pss_one ps_never) pss_nil)), ⟨_, rfl, _, rfl, iteSf rfl k⟩⟩
abbrev s_is_kind : Stmt := top 14
abbrev n_is_kind : List Str := ["value"]
theorem sc_is_kind : FnScope n_is_kind ["value"] (defScope s_is_kind) := ⟨rfl, rfl, rfl, by decide +kernel, rfl, by decide +kernel, by decide +kernel⟩
def spKindT : Sp := fun vs H Q _ => ∃ k : Str, vs = [.str k] ∧ okKind k ∧ Q (.bl true) H
theorem ok_kindT {Z : Nat → Addr} (T : Txt mg) (g_is_name : Has P w K mg base 1 "is_name" ["value"] (spName Z)) (F : DefAt K mg "is_kind" s_is_kind ["value"]) : Has P w K mg base 2 "is_kind" ["value"] spKindT := by
  refine F.has sc_is_kind (fun vs H Q E h => ?_) (fun f cdv A outer s H vs Q E hr h => ?_)
  · obtain ⟨x, rfl, _⟩ := h
    rfl
  · obtain ⟨x, rfl, o, k⟩ := h
    refine ⟨_, (pss_one (ps_ret (pe_or (pe_cmpR op_eq (pv 0) pe_str (nomark _)) (pe_one (pe_callHas g_is_name (hr.mono (by decide)) rfl (pa_cons (pv 0) pa_nil)))))), ?_⟩
    refine ⟨_, rfl, rfl, _, rfl, ?_⟩
    by_cases hx : x = "none"
    · subst hx
      exact iteSe (decide_eq_true rfl) k
    · have hn : nameB x = true := o.resolve_left hx
      refine iteSf (decide_eq_false fun z => hx (by injection z)) ⟨_, rfl, 0, _, .a (.str x), rfl, rfl, (fun s e => by cases e; have := okKind.len o; omega), ?_⟩
      show Q (.bl (nameB x)) H
      rw [hn]
      exact k
abbrev s_is_what : Stmt := top 13
abbrev n_is_what : List Str := ["value"]
theorem sc_is_what : FnScope n_is_what ["value"] (defScope s_is_what) := ⟨rfl, rfl, rfl, by decide +kernel, rfl, by decide +kernel, by decide +kernel⟩
def spWhatT : Sp := fun vs H Q _ => ∃ k : Str, vs = [.str k] ∧ okW k ∧ Q (.bl true) H
theorem ok_whatT {Z : Nat → Addr} {AM : Addr} (T : Txt mg) (mAM : mg "AMOUNTS" = some (.ref AM)) (tAM : ∀ H, SqT K H AM (amtL.map V.str)) (g_is_name : Has P w K mg base 1 "is_name" ["value"] (spName Z)) (F : DefAt K mg "is_what" s_is_what ["value"]) : Has P w K mg base 2 "is_what" ["value"] spWhatT := by
  refine F.has sc_is_what (fun vs H Q E h => ?_) (fun f cdv A outer s H vs Q E hr h => ?_)
  · obtain ⟨x, rfl, _⟩ := h
    rfl
  · obtain ⟨x, rfl, o, k⟩ := h
    refine ⟨_, (pss_one (ps_ret (pe_or (pe_cmpR op_in_seq (pv 0) (pe_glob (v := .ref AM) rfl mAM rfl) (by rfl)) (pe_one (pe_callHas g_is_name (hr.mono (by decide)) rfl (pa_cons (pv 0) pa_nil)))))), ?_⟩
    refine ⟨_, rfl, AM, _, rfl, .inr (tAM _), rfl, flat_strs _, ?_⟩
    rw [if_neg (by decide), inV_strs]
    refine ⟨_, rfl, ?_⟩
    by_cases hx : x ∈ amtL
    · exact iteSe (decide_eq_true hx) k
    · have hn : nameB x = true := o.resolve_left hx
      refine iteSf (decide_eq_false hx) ⟨_, rfl, 0, _, .a (.str x), rfl, rfl, (fun s e => by cases e; have := nameB_len hn; omega), ?_⟩
      show Q (.bl (nameB x)) H
      rw [hn]
      exact k
/-- a list or a tuple of the run, or the text's empty tuple -/
def Sq (K : PySem.W.Frag) (H : Hp) (a : Addr) (xs : List V) : Prop := H a = some (.lst xs) ∨ Tp K H a xs
def spSeqT (K : PySem.W.Frag) : Sp := fun vs H Q _ => ∃ (a : Addr) (xs : List V), vs = [.ref a] ∧ Sq K H a xs ∧ ∀ H', Same H H' → Q (.bl true) H'
theorem ok_seqT (T : Txt mg) (F : DefAt K mg "is_sequence" s_is_sequence ["value"]) : Has P w K mg base 1 "is_sequence" ["value"] (spSeqT K) := by
  refine F.has sc_is_sequence (fun vs H Q E h => ?_) (fun f cdv A outer s H vs Q E hr h => ?_)
  · obtain ⟨a, xs, rfl, _⟩ := h
    rfl
  · obtain ⟨a, xs, rfl, sq, k⟩ := h
    refine ⟨_, (pss_one (ps_ret (pe_callB call_isiT (by rfl) T.z_isinstance (by decide +kernel) (pa_cons (pv 0) (pa_cons (pe_tup (pa_cons (pe_bltn (v := .ty "list") (by rfl) T.z_list (by decide +kernel) rfl) (pa_cons (pe_bltn (v := .ty "tuple") (by rfl) T.z_tuple (by decide +kernel) rfl) pa_nil))) pa_nil))))), ?_⟩
    refine ⟨_, rfl, (by decide : 2 ≤ sizeLine), fun t ht => ?_⟩
    obtain ⟨s1, h1⟩ := new_at (o := .tup [.ty "list", .ty "tuple"]) ht
    have nol : PySem.W.kitAny K (.type "list") [.type "list", .type "tuple"] = some true := kitAny_cons (b := true) (kit_ty (by decide +kernel)) (fun z => nomatch z) (fun _ => rfl)
    have not' : PySem.W.kitAny K (.type "tuple") [.type "list", .type "tuple"] = some true := kitAny_cons (b := false) (kit_ty (by decide +kernel)) (fun _ => kitAny_cons (b := true) (kit_ty (by decide +kernel)) (fun z => nomatch z) (fun _ => rfl)) (fun z => nomatch z)
    rcases sq with h | h | ⟨rfl, N⟩
    · exact ⟨_, t, _, _, _, _, rfl, h1, .cons (.ty _) (.cons (.ty _) .nil), .base (.lst (s1 _ _ h)), nol, k _ s1⟩
    · exact ⟨_, t, _, _, _, _, rfl, h1, .cons (.ty _) (.cons (.ty _) .nil), .base (.tup (s1 _ _ h)), not', k _ s1⟩
    · obtain ⟨o, n, l, c, d⟩ := N.ex
      exact ⟨_, t, _, _, _, _, rfl, h1, .cons (.ty _) (.cons (.ty _) .nil), .kTuple l c, not', k _ s1⟩
abbrev s_are_rows : Stmt := top 15
abbrev n_are_rows : List Str := ["value", "part"]
theorem sc_are_rows : FnScope n_are_rows ["value"] (defScope s_are_rows) := ⟨rfl, rfl, rfl, by decide +kernel, rfl, by decide +kernel, by decide +kernel⟩
def spRowsT (K : PySem.W.Frag) (p : Pkg) : Sp := fun vs H Q _ => ∃ (a : Addr) (xs : List V) (rs : List RowD), vs = [.ref a] ∧ Sq K H a xs ∧ RowObL K p H rs xs ∧ rs.length ≤ 1000 ∧ ∀ H', Same H H' → Q (.bl true) H'
theorem ok_rowsT {p : Pkg} {TS RW : Addr} (T : Txt mg) (PK : PkgK K p TS RW) (mRow : mg "Row" = some (.ref RW)) (g_is_sequence : Has P w K mg base 1 "is_sequence" ["value"] (spSeqT K)) (F : DefAt K mg "are_rows" s_are_rows ["value"]) : Has P w K mg base 2 "are_rows" ["value"] (spRowsT K p) := by
  refine F.has sc_are_rows (fun vs H Q E h => ?_) (fun f cdv A outer s H vs Q E hr h => ?_)
  · obtain ⟨a, xs, rs, rfl, _⟩ := h
    rfl
  · obtain ⟨a, xs, rs, rfl, sq, rl, l, k⟩ := h
    refine ⟨_, (pss_one (ps_ret (pe_and (pe_callHas g_is_sequence (hr.mono (by decide)) rfl (pa_cons (pv 0) pa_nil)) (pe_one (pe_callB (cr_all rfl) (by rfl) T.z_all (by decide +kernel) (pa_cons (pe_lc (own := [("part", 1)]) (g := gName 1) (by rfl) sc_are_rows.nd (pi_seq (pv 0)) (blkOk_by (own := [("part", 1)]) (N := n_are_rows) (sc := defScope s_are_rows) (by decide +kernel)) (fun _ _ _ _ _ => (pg_name (i := 1) sc_are_rows.nd rfl (Or.inl rfl))) (fun _ _ _ _ _ => pts_nil) (fun _ _ _ _ _ => (pe_callB (call_isi_in (K := K) rfl) (by rfl) T.z_isinstance (by decide +kernel) (pa_cons (pv 1) (pa_cons (pe_glob (v := .ref RW) rfl mRow rfl) pa_nil))))) pa_nil)))))), ?_⟩
    refine ⟨_, rfl, a, xs, rfl, sq, fun H1 s1 => ⟨_, rfl, iteSe rfl ?_⟩⟩
    have lx := rl.len
    have st : ∀ (D : Addr) (i : Nat) (y : V) (H' : Hp), H1 D = none → Same H1 H' → H' D = some (.lst (List.replicate i (V.bl true))) → xs[i]? = some y → ∃ t0, TyX K H' y t0 ∧ ∃ c, PySem.W.kitOne K t0 (.ref RW) = some c ∧ ∃ acc, H' D = some (.lst acc) ∧ acc.length < sizeLine ∧ Same H1 (upd H' D (.lst (acc ++ [V.bl c]))) ∧ upd H' D (.lst (acc ++ [V.bl c])) D = some (.lst (List.replicate (i + 1) (V.bl true))) := fun D i y H' hD sm hD' e1 => by
      obtain ⟨r, er, ro⟩ := rl.at' e1
      obtain ⟨q, C, dx, fs, rfl, hq, mC⟩ := (ro.kp (ObKp.of (s1.trans sm))).cls
      obtain ⟨o, kt⟩ := PK.rows C mC
      have li := (List.getElem?_eq_some_iff.mp e1).1
      have q1000 : (1000 : Nat) < sizeLine := by decide
      refine ⟨_, .base (.ins hq o.cl o.ha o.hn o.htk o.hm), true, kt, _, hD', by rw [List.length_replicate]; omega, fun y o w => by rw [upd_ne (ne_of_none w hD)]; exact sm _ _ w, ?_⟩
      rw [upd_same, List.replicate_succ']
    have fin : ∀ (D : Addr) (H' : Hp), Same H1 H' → H' D = some (.lst (List.replicate xs.length (V.bl true))) → SqL K H' D ((List.replicate xs.length true).map V.bl) ∧ Q (.bl ((List.replicate xs.length true).all id)) H' := fun D H' sm hD' => by
      refine ⟨by rw [List.map_replicate]; exact SqL.of hD', ?_⟩
      rw [List.all_replicate]
      have := k _ (s1.trans sm)
      simpa using this
    rcases sq with h | h
    · have ha1 := s1 _ _ h
      refine .inl ⟨_, rfl, a, rfl, ⟨_, SqL.of ha1⟩, fun D hD => lc_it (walk_list (xs := xs)) (fun i H' => Same H1 H' ∧ H' D = some (.lst (List.replicate i (V.bl true)))) ⟨(new_at hD).1, upd_same⟩ (fun i H' _ z => SqL.of (z.1 _ _ ha1)) ?_ ?_⟩
      · rintro i y H' H'' hi ⟨sm, hD'⟩ ⟨rfl, e1⟩
        obtain ⟨t0, h0, c, k0, q⟩ := st D i y _ hD sm hD' e1
        exact ⟨rfl, _, rfl, _, _, t0, _, c, rfl, .own _, h0, k0, q⟩
      · rintro H' ⟨sm, hD'⟩
        obtain ⟨f1, f2⟩ := fin D H' sm hD'
        exact ⟨D, _, rfl, f1, f2⟩
    · have ha1 := h.kp (ObKp.of s1)
      refine .inr ⟨_, rfl, a, rfl, ⟨_, ha1.sq⟩, fun D hD => lc_it (walk_tup (xs := xs)) (fun i H' => Same H1 H' ∧ H' D = some (.lst (List.replicate i (V.bl true)))) ⟨(new_at hD).1, upd_same⟩ (fun i H' _ z => (ha1.kp (ObKp.of z.1)).sq) ?_ ?_⟩
      · rintro i y H' H'' hi ⟨sm, hD'⟩ ⟨rfl, e1⟩
        obtain ⟨t0, h0, c, k0, q⟩ := st D i y _ hD sm hD' e1
        exact ⟨rfl, _, rfl, _, _, t0, _, c, rfl, .own _, h0, k0, q⟩
      · rintro H' ⟨sm, hD'⟩
        obtain ⟨f1, f2⟩ := fin D H' sm hD'
        exact ⟨D, _, rfl, f1, f2⟩
end
end K14

set_option pp.maxSteps 600
namespace K14
open PySem L2 PySem.Spec PyProof.Rows
theorem Sq.same {K : PySem.W.Frag} {H H' : Hp} {a : Addr} {xs : List V} (h : Sq K H a xs) (s : Same H H') : Sq K H' a xs := h.elim (fun h => .inl (s _ _ h)) fun h => .inr (h.kp (ObKp.of s))
theorem Sq.other {K : PySem.W.Frag} {H : Hp} {a x C dx : Addr} {fs : List (Str × V)} {xs : List V} {u : HO} (h : Sq K H a xs) (hx : H x = some (.ins C dx fs)) : Sq K (upd H x u) a xs := by
  rcases h with h | h | h
  · exact .inl (by rw [upd_ne (ne_of h hx fun z => nomatch z)]; exact h)
  · exact .inr (.inl (by rw [upd_ne (ne_of h hx fun z => nomatch z)]; exact h))
  · exact .inr (.inr h)
theorem Tp.other {K : PySem.W.Frag} {H : Hp} {a x C dx : Addr} {fs : List (Str × V)} {xs : List V} {u : HO} (h : Tp K H a xs) (hx : H x = some (.ins C dx fs)) : Tp K (upd H x u) a xs := by
  rcases h with h | h
  · exact .inl (by rw [upd_ne (ne_of h hx fun z => nomatch z)]; exact h)
  · exact .inr h
theorem tup_of {K : PySem.W.Frag} {H : Hp} {a : Addr} {xs : List V} {Q : VK} (h : Sq K H a xs) (q : ∀ H' a', Same H H' → Tp K H' a' xs → Q (.ref a') H') : (SqL K H a xs ∧ ∀ l, H l = none → Q (.ref l) (upd H l (.tup xs))) ∨ SqT K H a xs ∧ Q (.ref a) H := by
  rcases h with h | h
  · exact .inl ⟨SqL.of h, fun l hl => q _ l (new_at hl).1 (.inl (new_at hl).2)⟩
  · exact .inr ⟨h.sq, q H a (Same.refl H) h⟩
theorem tupcall_go {K : PySem.W.Frag} {i : Nat} {a : Addr} {xs : List V} {σ : L2.St} {H : Hp} {Q : VK} (e : σ[i]? = some (some (.ref a))) (h : Sq K H a xs) (q : ∀ H' a', Same H H' → Tp K H' a' xs → Q (.ref a') H') : tCB (fun vs H1 Q => ∃ p ys, vs = [V.ref p] ∧ ((SqL K H1 p ys ∧ ∀ l, H1 l = none → Q (V.ref l) (upd H1 l (.tup ys))) ∨ SqT K H1 p ys ∧ Q (V.ref p) H1)) (tCons (tVar i) tNil) σ H Q := ⟨_, e, a, xs, rfl, tup_of h q⟩
section
variable {P : Program} {w : World} {K : PySem.W.Frag} {mg : Str → Option Value} {base : Heap}
abbrev s_Was_init : Stmt := inClass (top 17) 0
abbrev n_Was_init : List Str := ["self", "kind"]
theorem sc_Was_init : FnScope n_Was_init ["self", "kind"] (defScope s_Was_init) := ⟨rfl, rfl, rfl, by decide +kernel, rfl, by decide +kernel, by decide +kernel⟩
def spWasI (C : Addr) : Sp := fun vs H Q _ => ∃ (x dx : Addr) (k : Str), vs = [.ref x, .str k] ∧ H x = some (.ins C dx []) ∧ okKind k ∧ Q .non (upd H x (.ins C dx [("kind", .str k)]))
theorem ok_wasI {C fI : Addr} {fd : FuncData} (T : Txt mg) (CE : ClsA K mg "Was" C ["kind"]) (g_check : Has P w K mg base 1 "check" ["holds", "part"] spCheckT) (g_is_kind : Has P w K mg base 2 "is_kind" ["value"] spKindT)
    (F : FunD K "__init__" "Was.__init__" (defArgs s_Was_init) (defBody s_Was_init) (defScope s_Was_init) [] [] fI fd) : FnOk P w K mg base CX0 3 fI fd ["self", "kind"] (spWasI C) := by
  refine F.ok sc_Was_init (fun vs H Q E h => ?_) (fun cdv A outer s H vs Q E hr h => ?_)
  · obtain ⟨x, dx, k, rfl, _⟩ := h
    rfl
  · obtain ⟨x, dx, kd, rfl, hx, o, k⟩ := h
    refine ⟨_, (pss_cons (ps_expr (pe_callHas g_check (hr.mono (by decide)) rfl (pa_cons (pe_callHas g_is_kind (hr.mono (by decide)) rfl (pa_cons (pv 1) pa_nil)) (pa_cons pe_str pa_nil))))
      (pss_one (ps_fld (pv 0) (pv 1) rfl))), ?_⟩
    refine ⟨_, rfl, kd, rfl, o, _, rfl, ?_⟩
    exact ⟨_, rfl, _, rfl, x, C, dx, _, rfl, hx, CE.cl, CE.n _ (by simp), (by show 0 < 1000; decide), k⟩
def spNumI (C : Addr) : Sp := fun vs H Q _ => ∃ (x dx : Addr) (n : Int), vs = [.ref x, .int n] ∧ H x = some (.ins C dx []) ∧ Q .non (upd H x (.ins C dx [("number", .int n)]))
abbrev s_OldBelow_init : Stmt := inClass (top 18) 0
abbrev n_OldBelow_init : List Str := ["self", "number"]
theorem sc_OldBelow_init : FnScope n_OldBelow_init ["self", "number"] (defScope s_OldBelow_init) := ⟨rfl, rfl, rfl, by decide +kernel, rfl, by decide +kernel, by decide +kernel⟩
theorem ok_oldI {Z : Nat → Addr} {C fI : Addr} {fd : FuncData} (T : Txt mg) (CE : ClsA K mg "OldBelow" C ["number"]) (g_check : Has P w K mg base 1 "check" ["holds", "part"] spCheckT) (g_is_integer : Has P w K mg base 1 "is_integer" ["value"] (spInt Z))
    (F : FunD K "__init__" "OldBelow.__init__" (defArgs s_OldBelow_init) (defBody s_OldBelow_init) (defScope s_OldBelow_init) [] [] fI fd) : FnOk P w K mg base CX0 3 fI fd ["self", "number"] (spNumI C) := by
  refine F.ok sc_OldBelow_init (fun vs H Q E h => ?_) (fun cdv A outer s H vs Q E hr h => ?_)
  · obtain ⟨x, dx, k, rfl, _⟩ := h
    rfl
  · obtain ⟨x, dx, n, rfl, hx, k⟩ := h
    refine ⟨_, (pss_cons (ps_expr (pe_callHas g_check (hr.mono (by decide)) rfl (pa_cons (pe_callHas g_is_integer (hr.mono (by decide)) rfl (pa_cons (pv 1) pa_nil)) (pa_cons pe_str pa_nil))))
      (pss_one (ps_fld (pv 0) (pv 1) rfl))), ?_⟩
    refine ⟨_, rfl, 0, _, .a (.int n), rfl, rfl, _, rfl, ?_⟩
    exact ⟨_, rfl, _, rfl, x, C, dx, _, rfl, hx, CE.cl, CE.n _ (by simp), (by show 0 < 1000; decide), k⟩
abbrev s_NewBelow_init : Stmt := inClass (top 19) 0
abbrev n_NewBelow_init : List Str := ["self", "number"]
theorem sc_NewBelow_init : FnScope n_NewBelow_init ["self", "number"] (defScope s_NewBelow_init) := ⟨rfl, rfl, rfl, by decide +kernel, rfl, by decide +kernel, by decide +kernel⟩
theorem ok_newI {Z : Nat → Addr} {C fI : Addr} {fd : FuncData} (T : Txt mg) (CE : ClsA K mg "NewBelow" C ["number"]) (g_check : Has P w K mg base 1 "check" ["holds", "part"] spCheckT) (g_is_integer : Has P w K mg base 1 "is_integer" ["value"] (spInt Z))
    (F : FunD K "__init__" "NewBelow.__init__" (defArgs s_NewBelow_init) (defBody s_NewBelow_init) (defScope s_NewBelow_init) [] [] fI fd) : FnOk P w K mg base CX0 3 fI fd ["self", "number"] (spNumI C) := by
  refine F.ok sc_NewBelow_init (fun vs H Q E h => ?_) (fun cdv A outer s H vs Q E hr h => ?_)
  · obtain ⟨x, dx, k, rfl, _⟩ := h
    rfl
  · obtain ⟨x, dx, n, rfl, hx, k⟩ := h
    refine ⟨_, (pss_cons (ps_expr (pe_callHas g_check (hr.mono (by decide)) rfl (pa_cons (pe_callHas g_is_integer (hr.mono (by decide)) rfl (pa_cons (pv 1) pa_nil)) (pa_cons pe_str pa_nil))))
      (pss_one (ps_fld (pv 0) (pv 1) rfl))), ?_⟩
    refine ⟨_, rfl, 0, _, .a (.int n), rfl, rfl, _, rfl, ?_⟩
    exact ⟨_, rfl, _, rfl, x, C, dx, _, rfl, hx, CE.cl, CE.n _ (by simp), (by show 0 < 1000; decide), k⟩
abbrev s_Not_init : Stmt := inClass (top 22) 0
abbrev n_Not_init : List Str := ["self", "test"]
theorem sc_Not_init : FnScope n_Not_init ["self", "test"] (defScope s_Not_init) := ⟨rfl, rfl, rfl, by decide +kernel, rfl, by decide +kernel, by decide +kernel⟩
def spNotI (p : Pkg) : Sp := fun vs H Q _ => ∃ (x dx : Addr) (u : V) (t : TestD), vs = [.ref x, u] ∧ H x = some (.ins p.CN dx []) ∧ TestOb p H u t ∧ Q .non (upd H x (.ins p.CN dx [("test", u)]))
theorem ok_notI {p : Pkg} {TS RW fI : Addr} {fd : FuncData} (T : Txt mg) (PK : PkgK K p TS RW) (mTest : mg "Test" = some (.ref TS)) (CE : ClsA K mg "Not" p.CN ["test"]) (g_check : Has P w K mg base 1 "check" ["holds", "part"] spCheckT)
    (F : FunD K "__init__" "Not.__init__" (defArgs s_Not_init) (defBody s_Not_init) (defScope s_Not_init) [] [] fI fd) : FnOk P w K mg base CX0 3 fI fd ["self", "test"] (spNotI p) := by
  refine F.ok sc_Not_init (fun vs H Q E h => ?_) (fun cdv A outer s H vs Q E hr h => ?_)
  · obtain ⟨x, dx, u, t, rfl, _⟩ := h
    rfl
  · obtain ⟨x, dx, u, t, rfl, hx, to, k⟩ := h
    refine ⟨_, (pss_cons (ps_expr (pe_callHas g_check (hr.mono (by decide)) rfl (pa_cons (pe_callB (call_isi_in (K := K) rfl) (by rfl) T.z_isinstance (by decide +kernel) (pa_cons (pv 1) (pa_cons (pe_glob (v := .ref TS) rfl mTest rfl) pa_nil))) (pa_cons pe_str pa_nil))))
      (pss_one (ps_fld (pv 0) (pv 1) rfl))), ?_⟩
    obtain ⟨a, C, dx2, fs, rfl, ha, mC⟩ := to.cls
    obtain ⟨o, kt⟩ := PK.tests C mC
    refine ⟨_, rfl, _, _, _, _, _, rfl, .own _, .base (.ins ha o.cl o.ha o.hn o.htk o.hm), kt, _, rfl, ?_⟩
    exact ⟨_, rfl, _, rfl, x, p.CN, dx, _, rfl, hx, CE.cl, CE.n _ (by simp), (by show 0 < 1000; decide), k⟩
abbrev s_Put_init : Stmt := inClass (top 25) 0
abbrev n_Put_init : List Str := ["self", "note", "what"]
theorem sc_Put_init : FnScope n_Put_init ["self", "note", "what"] (defScope s_Put_init) := ⟨rfl, rfl, rfl, by decide +kernel, rfl, by decide +kernel, by decide +kernel⟩
def spPutI (C : Addr) : Sp := fun vs H Q _ => ∃ (x dx : Addr) (n wh : Str), vs = [.ref x, .str n, .str wh] ∧ H x = some (.ins C dx []) ∧ nameB n = true ∧ okW wh ∧ Q .non (upd H x (.ins C dx [("note", .str n), ("what", .str wh)]))
theorem ok_putI {Z : Nat → Addr} {C fI : Addr} {fd : FuncData} (T : Txt mg) (CE : ClsA K mg "Put" C ["note", "what"]) (g_check : Has P w K mg base 1 "check" ["holds", "part"] spCheckT) (g_is_name : Has P w K mg base 1 "is_name" ["value"] (spName Z)) (g_is_what : Has P w K mg base 2 "is_what" ["value"] spWhatT)
    (F : FunD K "__init__" "Put.__init__" (defArgs s_Put_init) (defBody s_Put_init) (defScope s_Put_init) [] [] fI fd) : FnOk P w K mg base CX0 3 fI fd ["self", "note", "what"] (spPutI C) := by
  refine F.ok sc_Put_init (fun vs H Q E h => ?_) (fun cdv A outer s H vs Q E hr h => ?_)
  · obtain ⟨x, dx, n, wh, rfl, _⟩ := h
    rfl
  · obtain ⟨x, dx, n, wh, rfl, hx, on, ow, k⟩ := h
    refine ⟨_, (pss_cons (ps_expr (pe_callHas g_check (hr.mono (by decide)) rfl (pa_cons (pe_callHas g_is_name (hr.mono (by decide)) rfl (pa_cons (pv 1) pa_nil)) (pa_cons pe_str pa_nil))))
      (pss_cons (ps_expr (pe_callHas g_check (hr.mono (by decide)) rfl (pa_cons (pe_callHas g_is_what (hr.mono (by decide)) rfl (pa_cons (pv 2) pa_nil)) (pa_cons pe_str pa_nil))))
      (pss_cons (ps_fld (pv 0) (pv 1) rfl)
      (pss_one (ps_fld (pv 0) (pv 2) rfl))))), ?_⟩
    refine ⟨_, rfl, 0, _, .a (.str n), rfl, rfl, (fun s e => by cases e; have := nameB_len on; omega), .str "note", (by rw [show at2 name0 (.a (.str n)) = nameB n from rfl, on]; rfl), ?_⟩
    refine ⟨_, rfl, wh, rfl, ow, _, rfl, ?_⟩
    refine ⟨_, rfl, _, rfl, x, C, dx, _, rfl, hx, CE.cl, CE.n _ (by simp), (by show 0 < 1000; decide), ?_⟩
    refine ⟨_, rfl, _, rfl, x, C, dx, _, rfl, upd_same, CE.cl, CE.n _ (by simp), (by show 1 < 1000; decide), ?_⟩
    rw [upd_upd]
    exact k
abbrev s_Mark_init : Stmt := inClass (top 26) 0
abbrev n_Mark_init : List Str := ["self", "place"]
theorem sc_Mark_init : FnScope n_Mark_init ["self", "place"] (defScope s_Mark_init) := ⟨rfl, rfl, rfl, by decide +kernel, rfl, by decide +kernel, by decide +kernel⟩
def spMarkI (C : Addr) : Sp := fun vs H Q _ => ∃ (x dx : Addr) (pl : Str), vs = [.ref x, .str pl] ∧ H x = some (.ins C dx []) ∧ pl ∈ mrkL ∧ ∀ H1, Same H H1 → Q .non (upd H1 x (.ins C dx [("place", .str pl)]))
theorem ok_markI {C fI : Addr} {fd : FuncData} (T : Txt mg) (CE : ClsA K mg "Mark" C ["place"]) (g_check : Has P w K mg base 1 "check" ["holds", "part"] spCheckT)
    (F : FunD K "__init__" "Mark.__init__" (defArgs s_Mark_init) (defBody s_Mark_init) (defScope s_Mark_init) [] [] fI fd) : FnOk P w K mg base CX0 3 fI fd ["self", "place"] (spMarkI C) := by
  refine F.ok sc_Mark_init (fun vs H Q E h => ?_) (fun cdv A outer s H vs Q E hr h => ?_)
  · obtain ⟨x, dx, pl, rfl, _⟩ := h
    rfl
  · obtain ⟨x, dx, pl, rfl, hx, o, k⟩ := h
    refine ⟨_, (pss_cons (ps_expr (pe_callHas g_check (hr.mono (by decide)) rfl (pa_cons (pe_cmpR op_in_seq (pv 1) (pe_tup (pa_cons pe_str (pa_cons pe_str (pa_cons pe_str pa_nil)))) (by rfl)) (pa_cons pe_str pa_nil))))
      (pss_one (ps_fld (pv 0) (pv 1) rfl))), ?_⟩
    refine ⟨_, rfl, (by decide : 3 ≤ sizeLine), fun t ht => ?_⟩
    obtain ⟨s1, h1⟩ := new_at (o := .tup (mrkL.map V.str)) ht
    refine ⟨t, mrkL.map V.str, rfl, .inr (SqT.of h1), rfl, flat_strs _, ?_⟩
    rw [if_neg (by decide), inV_strs, decide_eq_true o]
    refine ⟨_, rfl, ?_⟩
    exact ⟨_, rfl, _, rfl, x, C, dx, _, rfl, s1 _ _ hx, CE.cl, CE.n _ (by simp), (by show 0 < 1000; decide), k _ s1⟩
abbrev s_Add_init : Stmt := inClass (top 24) 0
abbrev n_Add_init : List Str := ["self", "factor", "what", "total", "place"]
theorem sc_Add_init : FnScope n_Add_init ["self", "factor", "what", "total", "place"] (defScope s_Add_init) := ⟨rfl, rfl, rfl, by decide +kernel, rfl, by decide +kernel, by decide +kernel⟩
def spAddI (C : Addr) : Sp := fun vs H Q _ => ∃ (x dx : Addr) (f : Int) (wh t pl : Str), vs = [.ref x, .int f, .str wh, .str t, .str pl] ∧ H x = some (.ins C dx []) ∧ okW wh ∧ nameB t = true ∧ pl ∈ plcL ∧ ∀ H1, Same H H1 → Q .non (upd H1 x (.ins C dx [("factor", .int f), ("what", .str wh), ("total", .str t), ("place", .str pl)]))
theorem ok_addI {Z : Nat → Addr} {C fI : Addr} {fd : FuncData} (T : Txt mg) (CE : ClsA K mg "Add" C ["factor", "what", "total", "place"]) (g_check : Has P w K mg base 1 "check" ["holds", "part"] spCheckT) (g_is_integer : Has P w K mg base 1 "is_integer" ["value"] (spInt Z)) (g_is_name : Has P w K mg base 1 "is_name" ["value"] (spName Z)) (g_is_what : Has P w K mg base 2 "is_what" ["value"] spWhatT)
    (F : FunD K "__init__" "Add.__init__" (defArgs s_Add_init) (defBody s_Add_init) (defScope s_Add_init) [] [] fI fd) : FnOk P w K mg base CX0 3 fI fd ["self", "factor", "what", "total", "place"] (spAddI C) := by
  refine F.ok sc_Add_init (fun vs H Q E h => ?_) (fun cdv A outer s H vs Q E hr h => ?_)
  · obtain ⟨x, dx, f, wh, t, pl, rfl, _⟩ := h
    rfl
  · obtain ⟨x, dx, f, wh, t, pl, rfl, hx, ow, ot, op, k⟩ := h
    refine ⟨_, (pss_cons (ps_expr (pe_callHas g_check (hr.mono (by decide)) rfl (pa_cons (pe_callHas g_is_integer (hr.mono (by decide)) rfl (pa_cons (pv 1) pa_nil)) (pa_cons pe_str pa_nil))))
      (pss_cons (ps_expr (pe_callHas g_check (hr.mono (by decide)) rfl (pa_cons (pe_callHas g_is_what (hr.mono (by decide)) rfl (pa_cons (pv 2) pa_nil)) (pa_cons pe_str pa_nil))))
      (pss_cons (ps_expr (pe_callHas g_check (hr.mono (by decide)) rfl (pa_cons (pe_callHas g_is_name (hr.mono (by decide)) rfl (pa_cons (pv 3) pa_nil)) (pa_cons pe_str pa_nil))))
      (pss_cons (ps_expr (pe_callHas g_check (hr.mono (by decide)) rfl (pa_cons (pe_cmpR op_in_seq (pv 4) (pe_tup (pa_cons pe_str (pa_cons pe_str (pa_cons pe_str pa_nil)))) (by rfl)) (pa_cons pe_str pa_nil))))
      (pss_cons (ps_fld (pv 0) (pv 1) rfl)
      (pss_cons (ps_fld (pv 0) (pv 2) rfl)
      (pss_cons (ps_fld (pv 0) (pv 3) rfl)
      (pss_one (ps_fld (pv 0) (pv 4) rfl))))))))), ?_⟩
    refine ⟨_, rfl, 0, _, .a (.int f), rfl, rfl, _, rfl, ?_⟩
    refine ⟨_, rfl, wh, rfl, ow, _, rfl, ?_⟩
    refine ⟨_, rfl, 0, _, .a (.str t), rfl, rfl, (fun s e => by cases e; have := nameB_len ot; omega), .str "total", (by rw [show at2 name0 (.a (.str t)) = nameB t from rfl, ot]; rfl), ?_⟩
    refine ⟨_, rfl, (by decide : 3 ≤ sizeLine), fun q hq => ?_⟩
    obtain ⟨s1, h1⟩ := new_at (o := .tup (plcL.map V.str)) hq
    refine ⟨q, plcL.map V.str, rfl, .inr (SqT.of h1), rfl, flat_strs _, ?_⟩
    rw [if_neg (by decide), inV_strs, decide_eq_true op]
    refine ⟨_, rfl, ?_⟩
    refine ⟨_, rfl, _, rfl, x, C, dx, _, rfl, s1 _ _ hx, CE.cl, CE.n _ (by simp), (by show 0 < 1000; decide), ?_⟩
    refine ⟨_, rfl, _, rfl, x, C, dx, _, rfl, upd_same, CE.cl, CE.n _ (by simp), (by show 1 < 1000; decide), ?_⟩
    refine ⟨_, rfl, _, rfl, x, C, dx, _, rfl, upd_same, CE.cl, CE.n _ (by simp), (by show 2 < 1000; decide), ?_⟩
    refine ⟨_, rfl, _, rfl, x, C, dx, _, rfl, upd_same, CE.cl, CE.n _ (by simp), (by show 3 < 1000; decide), ?_⟩
    rw [upd_upd, upd_upd, upd_upd]
    exact k _ s1
abbrev s_If_init : Stmt := inClass (top 27) 0
abbrev n_If_init : List Str := ["self", "test", "rows", "others"]
theorem sc_If_init : FnScope n_If_init ["self", "test", "rows", "others"] (defScope s_If_init) := ⟨rfl, rfl, rfl, by decide +kernel, rfl, by decide +kernel, by decide +kernel⟩
def spIfI (K : PySem.W.Frag) (p : Pkg) : Sp := fun vs H Q _ => ∃ (x dx : Addr) (u : V) (t : TestD) (r o : Addr) (xs ys : List V) (rs os : List RowD), vs = [.ref x, u, .ref r, .ref o] ∧ H x = some (.ins p.CI dx []) ∧ TestOb p H u t ∧ Sq K H r xs ∧ RowObL K p H rs xs ∧ Sq K H o ys ∧ RowObL K p H os ys ∧ rs.length ≤ 1000 ∧ os.length ≤ 1000 ∧
  ∀ (H' : Hp) (r' o' : Addr), (∀ y u, y ≠ x → H y = some u → H' y = some u) → Tp K H' r' xs → Tp K H' o' ys → H' x = some (.ins p.CI dx [("test", u), ("rows", .ref r'), ("others", .ref o')]) → Q .non H'
theorem ok_ifI {p : Pkg} {TS RW fI : Addr} {fd : FuncData} {d1 : V} (T : Txt mg) (PK : PkgK K p TS RW) (mTest : mg "Test" = some (.ref TS)) (CE : ClsA K mg "If" p.CI ["test", "rows", "others"]) (g_check : Has P w K mg base 1 "check" ["holds", "part"] spCheckT) (g_are_rows : Has P w K mg base 2 "are_rows" ["value"] (spRowsT K p))
    (F : FunD K "__init__" "If.__init__" (defArgs s_If_init) (defBody s_If_init) (defScope s_If_init) [d1] [] fI fd) : FnOk P w K mg base CX0 3 fI fd ["self", "test", "rows", "others"] (spIfI K p) := by
  refine F.ok sc_If_init (fun vs H Q E h => ?_) (fun cdv A outer s H vs Q E hr h => ?_)
  · obtain ⟨x, dx, u, t, r, o, xs, ys, rs, os, rfl, _⟩ := h
    rfl
  · obtain ⟨x, dx, u, t, r, o, xs, ys, rs, os, rfl, hx, to, sr, rr, so, ro, lr, lo, k⟩ := h
    refine ⟨_, (pss_cons (ps_expr (pe_callHas g_check (hr.mono (by decide)) rfl (pa_cons (pe_callB (call_isi_in (K := K) rfl) (by rfl) T.z_isinstance (by decide +kernel) (pa_cons (pv 1) (pa_cons (pe_glob (v := .ref TS) rfl mTest rfl) pa_nil))) (pa_cons pe_str pa_nil))))
      (pss_cons (ps_expr (pe_callHas g_check (hr.mono (by decide)) rfl (pa_cons (pe_callHas g_are_rows (hr.mono (by decide)) rfl (pa_cons (pv 2) pa_nil)) (pa_cons pe_str pa_nil))))
      (pss_cons (ps_expr (pe_callHas g_check (hr.mono (by decide)) rfl (pa_cons (pe_callHas g_are_rows (hr.mono (by decide)) rfl (pa_cons (pv 3) pa_nil)) (pa_cons pe_str pa_nil))))
      (pss_cons (ps_fld (pv 0) (pv 1) rfl)
      (pss_cons (ps_fld (pv 0) (pe_callTy call_tuple_of (by rfl) T.z_tuple (by decide +kernel) (pa_cons (pv 2) pa_nil)) rfl)
      (pss_one (ps_fld (pv 0) (pe_callTy call_tuple_of (by rfl) T.z_tuple (by decide +kernel) (pa_cons (pv 3) pa_nil)) rfl))))))), ?_⟩
    obtain ⟨a, C, dx2, fs, rfl, ha, mC⟩ := to.cls
    obtain ⟨oC, kt⟩ := PK.tests C mC
    refine ⟨_, rfl, _, _, _, _, _, rfl, .own _, .base (.ins ha oC.cl oC.ha oC.hn oC.htk oC.hm), kt, _, rfl, ?_⟩
    refine ⟨_, rfl, r, xs, rs, rfl, sr, rr, lr, fun H1 s1 => ⟨_, rfl, ?_⟩⟩
    refine ⟨_, rfl, o, ys, os, rfl, so.same s1, ro.kp (ObKp.of s1), lo, fun H2 s2 => ⟨_, rfl, ?_⟩⟩
    have s12 := s1.trans s2
    have hx2 := s12 _ _ hx
    refine ⟨_, rfl, _, rfl, x, p.CI, dx, _, rfl, hx2, CE.cl, CE.n _ (by simp), (by show 0 < 1000; decide), ?_⟩
    have sr3 := (sr.same s12).other (u := .ins p.CI dx (putF "test" (.ref a) [])) hx2
    have so3 := (so.same s12).other (u := .ins p.CI dx (putF "test" (.ref a) [])) hx2
    try dsimp only
    refine seq_go ?_
    unfold sFld
    try dsimp only
    refine tupcall_go (by rfl) sr3 fun H4 r' s4 tr => ?_
    have hx4 : H4 x = some (.ins p.CI dx (putF "test" (.ref a) [])) := s4 _ _ upd_same
    refine ⟨_, rfl, x, p.CI, dx, _, rfl, hx4, CE.cl, CE.n _ (by simp), (by show 1 < 1000; decide), ?_⟩
    have so5 := (so3.same s4).other (u := .ins p.CI dx (putF "rows" (.ref r') (putF "test" (.ref a) []))) hx4
    have tr5 := tr.other (u := .ins p.CI dx (putF "rows" (.ref r') (putF "test" (.ref a) []))) hx4
    try dsimp only
    refine tupcall_go (by rfl) so5 fun H6 o' s6 tq => ?_
    have hx6 : H6 x = some (.ins p.CI dx (putF "rows" (.ref r') (putF "test" (.ref a) []))) := s6 _ _ upd_same
    refine ⟨_, rfl, x, p.CI, dx, _, rfl, hx6, CE.cl, CE.n _ (by simp), (by show 2 < 1000; decide), ?_⟩
    exact k _ r' o' (fun y u n h => (upd_ne n).trans (s6 _ _ ((upd_ne n).trans (s4 _ _ ((upd_ne n).trans (s12 _ _ h)))))) ((tr5.kp (ObKp.of s6)).other hx6) (tq.other hx6) upd_same
end
end K14

namespace L2
open PySem PySem.Spec PySem.Calls PyProof.Rows
/-- an instance of a class that has no __init__ but object's -/
def tMake00 (C : Addr) : TE := fun _ H Q => ∀ x dx, H x = none → H dx = none → dx ≠ x → Q (.ref x) (upd (upd H dx (.own x)) x (.ins C dx []))
structure Mk00 (K : PySem.W.Frag) (C : Addr) : Prop where
  makes : PySem.W.makesIn K C = true
  init : PySem.W.findIn K (.ref C) "__init__" = some (some (.builtin "object.__init__"))
  kp : PySem.W.keepIn K (.ref C) = true
theorem pe_make00 {X : Cx} {C : Addr} {x : Str} {p pos : Pos} (M : Mk00 X.K C) (hg : Gl X x) (hm : X.mg x = some (.ref C)) (hdb : (x == ("__debug__" : Str)) = false := by decide) : PE X (.Call (.Name x p) [] [] pos) (tMake00 C) := by
  refine ⟨fun pins s σ H Q I h => ?_⟩
  refine wpAny_Call_Name_kw (ld_glob I hg hm ?_ hdb)
  refine PySem.W.callWith_K0 I.kIn M.kp ?_
  have hq := h (s.heap.objs.size + 1) s.heap.objs.size (I.hok.fresh (Nat.le_succ _)) (I.hok.fresh (Nat.le_refl _)) (Nat.ne_of_lt (Nat.lt_succ_self _))
  have I2 := Inv.made (C := C) I
  have Y := PySem.W.makes_of (M := model X.prog X.w) I.kIn M.makes
  refine wpAny_call (make_map0 I.kIn M.makes M.init (fun self => PySem.W.Looks.of_pure (PySem.W.oi_bind self)) ?_)
  have hx : ((s.heap.push PySem.W.emptyDict).push (PySem.W.instObj C s.heap.objs.size)).get? (s.heap.objs.size + 1) = some (PySem.W.instObj C s.heap.objs.size) := by
    rw [show s.heap.objs.size + 1 = (s.heap.push PySem.W.emptyDict).objs.size from (Heap.size_push ..).symm]
    first | exact Heap.get?_push_size .. | exact Heap.get?_push_self .. | heap_get
  have t1 : PySem.W.Looks (model X.prog X.w) ((s.heap.push PySem.W.emptyDict).push (PySem.W.instObj C s.heap.objs.size)) (typeOf (.ref (s.heap.objs.size + 1))) (.ref C) := (PySem.W.Looks.ld hx).andThen .now
  have t2 : PySem.W.Looks (model X.prog X.w) ((s.heap.push PySem.W.emptyDict).push (PySem.W.instObj C s.heap.objs.size)) (isInstance (.ref (s.heap.objs.size + 1)) (.type "object")) true := t1.andThen (Y.top.keeps fun b o e => Heap.get?_push_of_some _ (Heap.get?_push_of_some _ e))
  refine codeAny_call_builtin PySem.W.oi_plain PySem.W.entry_oi (@PySem.W.check_slot (model X.prog X.w) _ _ { s with heap := (s.heap.push PySem.W.emptyDict).push (PySem.W.instObj C s.heap.objs.size) } "object.__init__" "object" "__init__" (.ref (s.heap.objs.size + 1)) [] [] _ PySem.W.oi_kind PySem.W.oi_split t2 (PySem.W.oi_args (.ref (s.heap.objs.size + 1))) ?_)
  rw [PySem.W.oi_run]
  exact wpAny_pure (And.intro rfl ⟨V.ref (s.heap.objs.size + 1), _, I2, rfl, hq⟩)
end L2

set_option pp.maxSteps 600
namespace K14
open PySem L2 PySem.Spec PyProof.Rows
theorem laid {H : Hp} {x dx C : Addr} (hx : H x = none) (hdx : H dx = none) (nd : dx ≠ x) : Same H (upd (upd H dx (.own x)) x (.ins C dx [])) := by
  have hx1 : upd H dx (.own x) x = none := by rw [upd_ne (fun z => nd z.symm)]; exact hx
  exact (new_at hdx).1.trans (new_at hx1).1
theorem laid2 {H : Hp} {x dx C : Addr} {u : HO} (hx : H x = none) (hdx : H dx = none) (nd : dx ≠ x) : Same H (upd (upd (upd H dx (.own x)) x (.ins C dx [])) x u) := fun a o e => by
  rw [upd_ne (ne_of_none e hx)]
  exact laid (C := C) hx hdx nd a o e
theorem okKind_of {B : BookD} {k : Str} (h : okTest B (.was k)) (ok : BkOk B) : okKind k := by
  have h : k ∈ B.rests ++ B.passes ++ [("none" : Str)] := h
  rcases List.mem_append.mp h with h | h
  · exact .inr (ok.kinds k h)
  · exact .inl (List.mem_singleton.mp h)
def spTestOf (p : Pkg) (k : Nat) : Sp := fun vs H Q _ => ∃ (v : V) (t : TestD) (B : BookD), vs = [v] ∧ TestAt H v t ∧ okTest B t ∧ BkOk B ∧ tdep t ≤ k ∧ ∀ H' u, Same H H' → TestOb p H' u t → Q u H'
def spTestOfK (p : Pkg) : Nat → Sp
  | 0 => fun _ _ _ _ => False
  | k + 1 => spTestOf p k
section
variable {P : Program} {w : World} {K : PySem.W.Frag} {mg : Str → Option Value} {base : Heap}
abbrev s_law_test_of : Stmt := top 52
abbrev n_law_test_of : List Str := ["_law_test_here", "_law_word"]
theorem sc_law_test_of : FnScope n_law_test_of ["_law_test_here"] (defScope s_law_test_of) := ⟨rfl, rfl, rfl, by decide +kernel, rfl, by decide +kernel, by decide +kernel⟩
theorem ok_testOfD {p : Pkg} {k n : Nat} {fW fO fB fN : Addr} {fdW fdO fdB fdN : FuncData} (hn : 6 ≤ n) (T : Txt mg)
    (CW : ClsA K mg "Was" p.CW ["kind"]) (MW : Mk K p.CW fW) (g_W : FnOk P w K mg base CX0 3 fW fdW ["self", "kind"] (spWasI p.CW)) (bW : Binds K fdW ["self", "kind"] [])
    (CO : ClsA K mg "OldBelow" p.CO ["number"]) (MO : Mk K p.CO fO) (g_O : FnOk P w K mg base CX0 3 fO fdO ["self", "number"] (spNumI p.CO)) (bO : Binds K fdO ["self", "number"] [])
    (CB : ClsA K mg "NewBelow" p.CB ["number"]) (MB : Mk K p.CB fB) (g_B : FnOk P w K mg base CX0 3 fB fdB ["self", "number"] (spNumI p.CB)) (bB : Binds K fdB ["self", "number"] [])
    (CN : ClsA K mg "Not" p.CN ["test"]) (MN : Mk K p.CN fN) (g_N : FnOk P w K mg base CX0 3 fN fdN ["self", "test"] (spNotI p)) (bN : Binds K fdN ["self", "test"] [])
    (MMoved : Mk00 K p.CM) (mMoved : mg "Moved" = some (.ref p.CM)) (MNoted : Mk00 K p.CT) (mNoted : mg "Noted" = some (.ref p.CT))
    (g_law_test_of : Has P w K mg base n "_law_test_of" ["_law_test_here"] (spTestOfK p k)) (F : DefAt K mg "_law_test_of" s_law_test_of ["_law_test_here"]) : Has P w K mg base (n + 1) "_law_test_of" ["_law_test_here"] (spTestOf p k) := by
  refine F.has sc_law_test_of (fun vs H Q E h => ?_) (fun f cdv A outer s H vs Q E hr h => ?_)
  · obtain ⟨v, t, B, rfl, _⟩ := h
    rfl
  · obtain ⟨v, t, B, rfl, at', ok, bok, dk, ret⟩ := h
    refine ⟨_, (pss_cons (ps_set (i := 1) sc_law_test_of.nd rfl (Or.inl rfl) (pe_ix ix_tup (pv 0) pe_int (fun _ _ => rfl)))
      (pss_cons (ps_if (pt_cmpR op_eq (pv 1) pe_str (nomark _)) (pss_one (ps_ret (pe_make MN g_N (hr.mono (by omega)) rfl CN.m bN .nil pass0 (pa_cons (pe_callHas g_law_test_of (hr.mono (by omega)) rfl (pa_cons (pe_ix ix_tup (pv 0) pe_int (fun _ _ => rfl)) pa_nil)) pa_nil)))) pss_nil)
      (pss_cons (ps_if (pt_cmpR op_eq (pv 1) pe_str (nomark _)) (pss_one (ps_ret (pe_make MW g_W (hr.mono (by omega)) rfl CW.m bW .nil pass0 (pa_cons (pe_ix ix_tup (pv 0) pe_int (fun _ _ => rfl)) pa_nil)))) pss_nil)
      (pss_cons (ps_if (pt_cmpR op_eq (pv 1) pe_str (nomark _)) (pss_one (ps_ret (pe_make MO g_O (hr.mono (by omega)) rfl CO.m bO .nil pass0 (pa_cons (pe_ix ix_tup (pv 0) pe_int (fun _ _ => rfl)) pa_nil)))) pss_nil)
      (pss_cons (ps_if (pt_cmpR op_eq (pv 1) pe_str (nomark _)) (pss_one (ps_ret (pe_make MB g_B (hr.mono (by omega)) rfl CB.m bB .nil pass0 (pa_cons (pe_ix ix_tup (pv 0) pe_int (fun _ _ => rfl)) pa_nil)))) pss_nil)
      (pss_one (ps_ret (pe_ifExp (pt_cmpR op_eq (pv 1) pe_str (nomark _)) (pe_make00 MMoved rfl mMoved) (pe_make00 MNoted rfl mNoted))))))))), ?_⟩
    cases t with
    | was kd =>
      obtain ⟨q, rfl, hq⟩ := at'
      refine seq_asg (op_go ?_)
      refine ⟨_, rfl, q, _, _, _, rfl, rfl, SqT.of hq, rfl, name_go ?_⟩
      try dsimp only
      refine seq_go ⟨_, rfl, rfl, _, rfl, iteSf (by decide +kernel) (next_go ?_)⟩
      try dsimp only
      refine seq_go ⟨_, rfl, rfl, _, rfl, iteSe (by decide +kernel) ?_⟩
      refine ret_go ?_
      refine ⟨_, rfl, q, _, _, _, rfl, rfl, SqT.of hq, rfl, ?_⟩
      intro x dx hx hdx nd
      exact ⟨x, dx, kd, rfl, upd_same, okKind_of ok bok, rfl, ret _ _ (laid2 hx hdx nd) ⟨x, dx, rfl, upd_same⟩⟩
    | cut o m =>
      obtain ⟨q, rfl, hq⟩ := at'
      cases o with
      | true =>
        refine seq_asg (op_go ?_)
        refine ⟨_, rfl, q, _, _, _, rfl, rfl, SqT.of hq, rfl, name_go ?_⟩
        try dsimp only
        refine seq_go ⟨_, rfl, rfl, _, rfl, iteSf (by decide +kernel) (next_go ?_)⟩
        try dsimp only
        refine seq_go ⟨_, rfl, rfl, _, rfl, iteSf (by decide +kernel) (next_go ?_)⟩
        try dsimp only
        refine seq_go ⟨_, rfl, rfl, _, rfl, iteSe (by decide +kernel) ?_⟩
        refine ret_go ?_
        refine ⟨_, rfl, q, _, _, _, rfl, rfl, SqT.of hq, rfl, ?_⟩
        intro x dx hx hdx nd
        exact ⟨x, dx, m, rfl, upd_same, rfl, ret _ _ (laid2 hx hdx nd) ⟨x, dx, rfl, upd_same⟩⟩
      | false =>
        refine seq_asg (op_go ?_)
        refine ⟨_, rfl, q, _, _, _, rfl, rfl, SqT.of hq, rfl, name_go ?_⟩
        try dsimp only
        refine seq_go ⟨_, rfl, rfl, _, rfl, iteSf (by decide +kernel) (next_go ?_)⟩
        try dsimp only
        refine seq_go ⟨_, rfl, rfl, _, rfl, iteSf (by decide +kernel) (next_go ?_)⟩
        try dsimp only
        refine seq_go ⟨_, rfl, rfl, _, rfl, iteSf (by decide +kernel) (next_go ?_)⟩
        try dsimp only
        refine seq_go ⟨_, rfl, rfl, _, rfl, iteSe (by decide +kernel) ?_⟩
        refine ret_go ?_
        refine ⟨_, rfl, q, _, _, _, rfl, rfl, SqT.of hq, rfl, ?_⟩
        intro x dx hx hdx nd
        exact ⟨x, dx, m, rfl, upd_same, rfl, ret _ _ (laid2 hx hdx nd) ⟨x, dx, rfl, upd_same⟩⟩
    | moved =>
      obtain ⟨q, rfl, hq⟩ := at'
      refine seq_asg (op_go ?_)
      refine ⟨_, rfl, q, _, _, _, rfl, rfl, SqT.of hq, rfl, name_go ?_⟩
      try dsimp only
      refine seq_go ⟨_, rfl, rfl, _, rfl, iteSf (by decide +kernel) (next_go ?_)⟩
      try dsimp only
      refine seq_go ⟨_, rfl, rfl, _, rfl, iteSf (by decide +kernel) (next_go ?_)⟩
      try dsimp only
      refine seq_go ⟨_, rfl, rfl, _, rfl, iteSf (by decide +kernel) (next_go ?_)⟩
      try dsimp only
      refine seq_go ⟨_, rfl, rfl, _, rfl, iteSf (by decide +kernel) (next_go ?_)⟩
      try dsimp only
      refine ret_go ⟨_, rfl, rfl, _, rfl, iteSe (by decide +kernel) ?_⟩
      intro x dx hx hdx nd
      exact ret _ _ (laid hx hdx nd) ⟨x, dx, rfl, upd_same⟩
    | noted =>
      obtain ⟨q, rfl, hq⟩ := at'
      refine seq_asg (op_go ?_)
      refine ⟨_, rfl, q, _, _, _, rfl, rfl, SqT.of hq, rfl, name_go ?_⟩
      try dsimp only
      refine seq_go ⟨_, rfl, rfl, _, rfl, iteSf (by decide +kernel) (next_go ?_)⟩
      try dsimp only
      refine seq_go ⟨_, rfl, rfl, _, rfl, iteSf (by decide +kernel) (next_go ?_)⟩
      try dsimp only
      refine seq_go ⟨_, rfl, rfl, _, rfl, iteSf (by decide +kernel) (next_go ?_)⟩
      try dsimp only
      refine seq_go ⟨_, rfl, rfl, _, rfl, iteSf (by decide +kernel) (next_go ?_)⟩
      try dsimp only
      refine ret_go ⟨_, rfl, rfl, _, rfl, iteSf (by decide +kernel) ?_⟩
      intro x dx hx hdx nd
      exact ret _ _ (laid hx hdx nd) ⟨x, dx, rfl, upd_same⟩
    | not t =>
      obtain ⟨q, u, rfl, hq, rt⟩ := at'
      cases k with
      | zero => exact absurd dk (Nat.not_succ_le_zero _)
      | succ k =>
        refine seq_asg (op_go ?_)
        refine ⟨_, rfl, q, _, _, _, rfl, rfl, SqT.of hq, rfl, name_go ?_⟩
        try dsimp only
        refine seq_go ⟨_, rfl, rfl, _, rfl, iteSe (by decide +kernel) ?_⟩
        refine ret_go ?_
        refine ⟨_, rfl, q, _, _, _, rfl, rfl, SqT.of hq, rfl, ?_⟩
        refine ⟨u, t, B, rfl, rt, ok, bok, Nat.le_of_succ_le_succ dk, fun H1 u1 s1 ob => ?_⟩
        intro x dx hx hdx nd
        exact ⟨x, dx, u1, t, rfl, upd_same, ob.kp (ObKp.of (laid hx hdx nd)), rfl, ret _ _ (s1.trans (laid2 hx hdx nd)) ⟨x, dx, u1, rfl, upd_same, ob.kp (ObKp.of (laid2 hx hdx nd))⟩⟩
end
end K14

set_option pp.maxSteps 600
namespace K14
open PySem L2 PySem.Spec PyProof.Rows
def spRowOf (K : PySem.W.Frag) (p : Pkg) (k : Nat) : Sp := fun vs H Q _ => ∃ (v : V) (r : RowD) (B : BookD), vs = [v] ∧ RowAt H r v ∧ okRow B r k ∧ BkOk B ∧ ∀ H' u, Same H H' → RowOb K p H' r u → Q u H'
def spRowsOf (K : PySem.W.Frag) (p : Pkg) (k : Nat) : Sp := fun vs H Q _ => ∃ (a : Addr) (xs : List V) (rs : List RowD) (B : BookD), vs = [.ref a] ∧ H a = some (.tup xs) ∧ RowL H rs xs ∧ okRowL B rs k ∧ BkOk B ∧ rs.length ≤ 1000 ∧ ∀ H' a' ys, Same H H' → H a' = none → H' a' = some (.lst ys) → RowObL K p H' rs ys → Q (.ref a') H'
def spRowsOfK (K : PySem.W.Frag) (p : Pkg) : Nat → Sp
  | 0 => fun _ _ _ _ => False
  | k + 1 => spRowsOf K p k
theorem okW_of {B : BookD} {s : Str} (h : okWhat B s) (ok : BkOk B) : okW s := h.elim .inl fun h => .inr (ok.toks s (List.mem_append_right _ h))
theorem okRowL.get {B : BookD} {k : Nat} : ∀ {rs : List RowD} {i : Nat} {r : RowD}, okRowL B rs k → rs[i]? = some r → okRow B r k
  | [], i, r, _, e => by simp at e
  | r0 :: rs, i, r, h, e => by
    unfold okRowL at h
    cases i with
    | zero => rw [List.getElem?_cons_zero] at e; cases e; exact h.1
    | succ i => rw [List.getElem?_cons_succ] at e; exact okRowL.get h.2 e
section
variable {P : Program} {w : World} {K : PySem.W.Frag} {mg : Str → Option Value} {base : Heap}
abbrev s_law_rows_of : Stmt := top 54
abbrev n_law_rows_of : List Str := ["_law_rows_here", "_law_row_here"]
theorem sc_law_rows_of : FnScope n_law_rows_of ["_law_rows_here"] (defScope s_law_rows_of) := ⟨rfl, rfl, rfl, by decide +kernel, rfl, by decide +kernel, by decide +kernel⟩
theorem ok_rowsOfD {p : Pkg} {k n : Nat} (hn : 1 ≤ n) (T : Txt mg) (g_law_row_of : Has P w K mg base n "_law_row_of" ["_law_row_here"] (spRowOf K p k)) (F : DefAt K mg "_law_rows_of" s_law_rows_of ["_law_rows_here"]) : Has P w K mg base (n + 1) "_law_rows_of" ["_law_rows_here"] (spRowsOf K p k) := by
  refine F.has sc_law_rows_of (fun vs H Q E h => ?_) (fun f cdv A outer s H vs Q E hr h => ?_)
  · obtain ⟨a, xs, rs, B, rfl, _⟩ := h
    rfl
  · obtain ⟨a, xs, rs, B, rfl, ha, rl, ok, bok, l, ret⟩ := h
    refine ⟨_, (pss_one (ps_ret (pe_lc (own := [("_law_row_here", 1)]) (g := gName 1) (by rfl) sc_law_rows_of.nd (pi_tup (pv 0)) (blkOk_by (own := [("_law_row_here", 1)]) (N := n_law_rows_of) (sc := defScope s_law_rows_of) (by decide +kernel)) (fun _ _ _ _ _ => (pg_name (i := 1) sc_law_rows_of.nd rfl (Or.inl rfl))) (fun _ _ _ _ _ => pts_nil) (fun _ _ _ _ _ => (pe_callHas g_law_row_of (hr.mono (by omega)) rfl (pa_cons (pv 1) pa_nil)))))), ?_⟩
    have q1000 : (1000 : Nat) < sizeLine := by decide
    have lx := rl.len
    refine ret_go ⟨_, rfl, a, rfl, ⟨_, SqT.of ha⟩, fun D hD => lc_it (walk_tup (xs := xs)) (fun i H' => Same H H' ∧ ∃ ys, H' D = some (.lst ys) ∧ RowObL K p H' (rs.take i) ys) ⟨(new_at hD).1, [], upd_same, by rw [List.take_zero]; unfold RowObL; rfl⟩ (fun i H' _ z => SqT.of (z.1 _ _ ha)) ?_ ?_⟩
    · rintro i y H1' H1 hi ⟨s1, ys, hD1, ro⟩ ⟨rfl, ey⟩
      obtain ⟨r, er, ra⟩ := rl.at' ey
      refine name_go ⟨rfl, ?_⟩
      unfold tYes
      refine iteSe rfl ?_
      refine ⟨_, rfl, y, r, B, rfl, ra.kp (TupKp.of s1), ok.get er, bok, fun H2 u s2 ob => ?_⟩
      have hD2 := s2 _ _ hD1
      have hir := (List.getElem?_eq_some_iff.mp er).1
      have ly := ro.len
      rw [List.length_take] at ly
      refine ⟨ys, hD2, by omega, fun b o e => (upd_ne (ne_of_none e hD)).trans (s2 _ _ (s1 _ _ e)), ys ++ [u], upd_same, ?_⟩
      have oA : ObKp H2 (upd H2 D (.lst (ys ++ [u]))) := ObKp.lst hD2
      have e1 : rs.take (i + 1) = rs.take i ++ [r] := by
        rw [← List.take_append_getElem hir]
        rw [List.getElem?_eq_getElem hir] at er
        rw [Option.some.inj er]
      rw [e1]
      exact RowObL.app ((ro.kp (ObKp.of s2)).kp oA) (ob.kp oA)
    · rintro H1 ⟨s1, ys, hD1, ro⟩
      rw [lx, List.take_length] at ro
      exact ret H1 D ys s1 hD hD1 ro
abbrev s_law_row_of : Stmt := top 53
abbrev n_law_row_of : List Str := ["_law_row_here", "_law_word"]
theorem sc_law_row_of : FnScope n_law_row_of ["_law_row_here"] (defScope s_law_row_of) := ⟨rfl, rfl, rfl, by decide +kernel, rfl, by decide +kernel, by decide +kernel⟩
theorem ok_rowOfD {p : Pkg} {k n : Nat} {fI fA fP fK : Addr} {fdI fdA fdP fdK : FuncData} (hn : 9 ≤ n) (T : Txt mg)
    (CI : ClsA K mg "If" p.CI ["test", "rows", "others"]) (MI : Mk K p.CI fI) (g_I : FnOk P w K mg base CX0 3 fI fdI ["self", "test", "rows", "others"] (spIfI K p)) (bI : Binds K fdI ["self", "test", "rows", "others"] [])
    (CA : ClsA K mg "Add" p.CA ["factor", "what", "total", "place"]) (MA : Mk K p.CA fA) (g_A : FnOk P w K mg base CX0 3 fA fdA ["self", "factor", "what", "total", "place"] (spAddI p.CA)) (bA : Binds K fdA ["self", "factor", "what", "total", "place"] [])
    (CP : ClsA K mg "Put" p.CP ["note", "what"]) (MP : Mk K p.CP fP) (g_P : FnOk P w K mg base CX0 3 fP fdP ["self", "note", "what"] (spPutI p.CP)) (bP : Binds K fdP ["self", "note", "what"] [])
    (CK : ClsA K mg "Mark" p.CK ["place"]) (MK : Mk K p.CK fK) (g_K : FnOk P w K mg base CX0 3 fK fdK ["self", "place"] (spMarkI p.CK)) (bK : Binds K fdK ["self", "place"] [])
    (g_law_test_of : Has P w K mg base 9 "_law_test_of" ["_law_test_here"] (spTestOf p 2)) (g_law_rows_of : Has P w K mg base n "_law_rows_of" ["_law_rows_here"] (spRowsOfK K p k)) (F : DefAt K mg "_law_row_of" s_law_row_of ["_law_row_here"]) : Has P w K mg base (n + 1) "_law_row_of" ["_law_row_here"] (spRowOf K p k) := by
  refine F.has sc_law_row_of (fun vs H Q E h => ?_) (fun f cdv A outer s H vs Q E hr h => ?_)
  · obtain ⟨v, r, B, rfl, _⟩ := h
    rfl
  · obtain ⟨v, r, B, rfl, at', ok, bok, ret⟩ := h
    refine ⟨_, (pss_cons (ps_set (i := 1) sc_law_row_of.nd rfl (Or.inl rfl) (pe_ix ix_tup (pv 0) pe_int (fun _ _ => rfl)))
      (pss_cons (ps_if (pt_cmpR op_eq (pv 1) pe_str (nomark _)) (pss_one (ps_ret (pe_make MI g_I (hr.mono (by omega)) rfl CI.m bI .nil pass0 (pa_cons (pe_callHas g_law_test_of (hr.mono (by omega)) rfl (pa_cons (pe_ix ix_tup (pv 0) pe_int (fun _ _ => rfl)) pa_nil)) (pa_cons (pe_callHas g_law_rows_of (hr.mono (by omega)) rfl (pa_cons (pe_ix ix_tup (pv 0) pe_int (fun _ _ => rfl)) pa_nil)) (pa_cons (pe_callTy call_tuple_of (by rfl) T.z_tuple (by decide +kernel) (pa_cons (pe_callHas g_law_rows_of (hr.mono (by omega)) rfl (pa_cons (pe_ix ix_tup (pv 0) pe_int (fun _ _ => rfl)) pa_nil)) pa_nil)) pa_nil)))))) pss_nil)
      (pss_cons (ps_if (pt_cmpR op_eq (pv 1) pe_str (nomark _)) (pss_one (ps_ret (pe_make MA g_A (hr.mono (by omega)) rfl CA.m bA .nil pass0 (pa_cons (pe_ix ix_tup (pv 0) pe_int (fun _ _ => rfl)) (pa_cons (pe_ix ix_tup (pv 0) pe_int (fun _ _ => rfl)) (pa_cons (pe_ix ix_tup (pv 0) pe_int (fun _ _ => rfl)) (pa_cons (pe_ix ix_tup (pv 0) pe_int (fun _ _ => rfl)) pa_nil))))))) pss_nil)
      (pss_one (ps_ret (pe_ifExp (pt_cmpR op_eq (pv 1) pe_str (nomark _)) (pe_make MP g_P (hr.mono (by omega)) rfl CP.m bP .nil pass0 (pa_cons (pe_ix ix_tup (pv 0) pe_int (fun _ _ => rfl)) (pa_cons (pe_ix ix_tup (pv 0) pe_int (fun _ _ => rfl)) pa_nil))) (pe_make MK g_K (hr.mono (by omega)) rfl CK.m bK .nil pass0 (pa_cons (pe_ix ix_tup (pv 0) pe_int (fun _ _ => rfl)) pa_nil)))))))), ?_⟩
    have q1000 : (1000 : Nat) < sizeLine := by decide
    cases r with
    | ife t a b =>
      unfold RowAt at at'
      obtain ⟨q, u, x, y, xs, ys, rfl, hq, rt, hx0, rl, hy0, rl2⟩ := at'
      unfold okRow at ok
      obtain ⟨k', rfl, ot, dt, la, lb, oa, ob⟩ := ok
      refine seq_asg (op_go ?_)
      refine ⟨_, rfl, q, _, _, _, rfl, rfl, SqT.of hq, rfl, name_go ?_⟩
      try dsimp only
      refine seq_go ⟨_, rfl, rfl, _, rfl, iteSe (by decide +kernel) ?_⟩
      refine ret_go ?_
      refine ⟨_, rfl, q, _, _, _, rfl, rfl, SqT.of hq, rfl, ?_⟩
      refine ⟨u, t, B, rfl, rt, ot, bok, dt, fun H1 u1 s1 ob1 => ?_⟩
      refine ⟨_, rfl, q, _, _, _, rfl, rfl, SqT.of (s1 _ _ hq), rfl, ?_⟩
      refine ⟨x, xs, a, B, rfl, s1 _ _ hx0, rl.kp (TupKp.of s1), oa, bok, by omega, fun H2 a2 ys2 s2 hn2 h2 ro2 => ?_⟩
      have s12 := s1.trans s2
      refine ⟨_, rfl, q, _, _, _, rfl, rfl, SqT.of (s12 _ _ hq), rfl, ?_⟩
      refine ⟨y, ys, b, B, rfl, s12 _ _ hy0, rl2.kp (TupKp.of s12), ob, bok, by omega, fun H3 a3 ys3 s3 hn3 h3 ro3 => ?_⟩
      refine ⟨a3, ys3, rfl, .inl ⟨SqL.of h3, fun tt htt => ?_⟩⟩
      obtain ⟨s4, h4⟩ := new_at (o := .tup ys3) htt
      have s14 := (s12.trans s3).trans s4
      have o1 := ob1.kp (ObKp.of ((s2.trans s3).trans s4))
      have h2' := s4 _ _ (s3 _ _ h2)
      have ro2' := ro2.kp (ObKp.of (s3.trans s4))
      have ro3' := ro3.kp (ObKp.of s4)
      intro xx dx hx hdx nd
      have sl := laid (C := p.CI) hx hdx nd
      refine ⟨xx, dx, u1, t, a2, tt, ys2, ys3, a, b, rfl, upd_same, o1.kp (ObKp.of sl), .inl (sl _ _ h2'), ro2'.kp (ObKp.of sl), .inr (.inl (sl _ _ h4)), ro3'.kp (ObKp.of sl), by omega, by omega, fun H' r' o' kp tr tq hxx => ⟨rfl, ?_⟩⟩
      have sf : Same (upd H3 tt (.tup ys3)) H' := fun z o e => kp z o (ne_of_none e hx) (sl _ _ e)
      refine ret H' _ (s14.trans sf) ?_
      unfold RowOb
      exact ⟨xx, dx, u1, r', o', ys2, ys3, rfl, hxx, o1.kp (ObKp.of sf), tr, ro2'.kp (ObKp.of sf), tq, ro3'.kp (ObKp.of sf)⟩
    | add fc wh tt pl =>
      unfold RowAt at at'
      obtain ⟨q, rfl, hq⟩ := at'
      unfold okRow at ok
      obtain ⟨_, _, ow, ot, op⟩ := ok
      refine seq_asg (op_go ?_)
      refine ⟨_, rfl, q, _, _, _, rfl, rfl, SqT.of hq, rfl, name_go ?_⟩
      try dsimp only
      refine seq_go ⟨_, rfl, rfl, _, rfl, iteSf (by decide +kernel) (next_go ?_)⟩
      try dsimp only
      refine seq_go ⟨_, rfl, rfl, _, rfl, iteSe (by decide +kernel) ?_⟩
      refine ret_go ?_
      refine ⟨_, rfl, q, _, _, _, rfl, rfl, SqT.of hq, rfl, ?_⟩
      refine ⟨_, rfl, q, _, _, _, rfl, rfl, SqT.of hq, rfl, ?_⟩
      refine ⟨_, rfl, q, _, _, _, rfl, rfl, SqT.of hq, rfl, ?_⟩
      refine ⟨_, rfl, q, _, _, _, rfl, rfl, SqT.of hq, rfl, ?_⟩
      intro x dx hx hdx nd
      have sl := laid (C := p.CA) hx hdx nd
      refine ⟨x, dx, fc, wh, tt, pl, rfl, upd_same, okW_of ow bok, bok.toks tt (List.mem_append_left _ ot), op, fun H1 s1 => ⟨rfl, ret _ _ (fun z o e => (upd_ne (ne_of_none e hx)).trans (s1 _ _ (sl _ _ e))) ?_⟩⟩
      unfold RowOb
      exact ⟨x, dx, rfl, upd_same⟩
    | put nt wh =>
      unfold RowAt at at'
      obtain ⟨q, rfl, hq⟩ := at'
      unfold okRow at ok
      obtain ⟨on, ow⟩ := ok
      refine seq_asg (op_go ?_)
      refine ⟨_, rfl, q, _, _, _, rfl, rfl, SqT.of hq, rfl, name_go ?_⟩
      try dsimp only
      refine seq_go ⟨_, rfl, rfl, _, rfl, iteSf (by decide +kernel) (next_go ?_)⟩
      try dsimp only
      refine seq_go ⟨_, rfl, rfl, _, rfl, iteSf (by decide +kernel) (next_go ?_)⟩
      try dsimp only
      refine ret_go ⟨_, rfl, rfl, _, rfl, iteSe (by decide +kernel) ?_⟩
      refine ⟨_, rfl, q, _, _, _, rfl, rfl, SqT.of hq, rfl, ?_⟩
      refine ⟨_, rfl, q, _, _, _, rfl, rfl, SqT.of hq, rfl, ?_⟩
      intro x dx hx hdx nd
      refine ⟨x, dx, nt, wh, rfl, upd_same, bok.toks nt (List.mem_append_right _ on), okW_of ow bok, rfl, ret _ _ (laid2 hx hdx nd) ?_⟩
      unfold RowOb
      exact ⟨x, dx, rfl, upd_same⟩
    | mark pl =>
      unfold RowAt at at'
      obtain ⟨q, rfl, hq⟩ := at'
      unfold okRow at ok
      refine seq_asg (op_go ?_)
      refine ⟨_, rfl, q, _, _, _, rfl, rfl, SqT.of hq, rfl, name_go ?_⟩
      try dsimp only
      refine seq_go ⟨_, rfl, rfl, _, rfl, iteSf (by decide +kernel) (next_go ?_)⟩
      try dsimp only
      refine seq_go ⟨_, rfl, rfl, _, rfl, iteSf (by decide +kernel) (next_go ?_)⟩
      try dsimp only
      refine ret_go ⟨_, rfl, rfl, _, rfl, iteSf (by decide +kernel) ?_⟩
      refine ⟨_, rfl, q, _, _, _, rfl, rfl, SqT.of hq, rfl, ?_⟩
      intro x dx hx hdx nd
      have sl := laid (C := p.CK) hx hdx nd
      refine ⟨x, dx, pl, rfl, upd_same, ok, fun H1 s1 => ⟨rfl, ret _ _ (fun z o e => (upd_ne (ne_of_none e hx)).trans (s1 _ _ (sl _ _ e))) ?_⟩⟩
      unfold RowOb
      exact ⟨x, dx, rfl, upd_same⟩
end
end K14

namespace K14
open PySem L2 PySem.Spec PyProof.Rows
/-! ## the texts of tests and rows -/
theorem jn (sep : Str) (l : List Str) : Txt.join sep l = PySem.Str.join sep l := PySem.StrLaws.glued_eq_join sep l
theorem join_one (sep a : Str) : Txt.join sep [a] = a := by rw [jn]; rfl
theorem join_cons (sep a b : Str) (r : List Str) : Txt.join sep (a :: b :: r) = a ++ sep ++ Txt.join sep (b :: r) := by rw [jn, jn]; rfl
theorem sapp_assoc (a b c : Str) : a ++ b ++ c = a ++ (b ++ c) := by
  cases a; cases b; cases c
  show Str.mk _ = Str.mk _
  congr 1
  exact Array.append_assoc
theorem slen_app (a b : Str) : (a ++ b).length = a.length + b.length := Array.size_append
theorem join_app (sep : Str) : ∀ (l m : List Str), l ≠ [] → m ≠ [] → Txt.join sep (l ++ m) = Txt.join sep l ++ sep ++ Txt.join sep m
  | [], _, h, _ => absurd rfl h
  | [a], m, _, hm => by
    cases m with
    | nil => exact absurd rfl hm
    | cons b r => rw [join_one]; exact join_cons sep a b r
  | a :: b :: l, m, _, hm => by
    have ih := join_app sep (b :: l) m (fun z => nomatch z) hm
    show Txt.join sep (a :: b :: (l ++ m)) = _
    rw [join_cons sep a b l, join_cons sep a b (l ++ m), show b :: (l ++ m) = (b :: l) ++ m from rfl, ih]
    simp only [sapp_assoc]
/-- texts of texts one behind the other -/
theorem join_flat (sep : Str) : ∀ (ls : List (List Str)), (∀ l ∈ ls, l ≠ []) → Txt.join sep (ls.map (Txt.join sep)) = Txt.join sep ls.flatten
  | [], _ => rfl
  | [l], h => by
    rw [List.map_cons, List.map_nil, join_one]
    simp
  | l :: m :: ls, h => by
    have ih := join_flat sep (m :: ls) fun x hx => h x (List.mem_cons_of_mem _ hx)
    rw [List.map_cons, List.map_cons, join_cons, ← List.map_cons, ih, List.flatten_cons]
    refine (join_app sep l (m :: ls).flatten (h l List.mem_cons_self) fun z => ?_).symm
    have hm := h m (List.mem_cons_of_mem _ List.mem_cons_self)
    rw [List.flatten_cons] at z
    exact hm (List.append_eq_nil_iff.mp z).1
def testW : TestD → List Str
  | .was k => ["was", k]
  | .cut o n => [belowS o, "below", iS n]
  | .moved => ["moved"]
  | .noted => ["noted"]
  | .not t => "not" :: testW t
def testS (t : TestD) : Str := Txt.join " " (testW t)
theorem testW_ne : ∀ t : TestD, testW t ≠ [] := fun t => by cases t <;> exact fun z => nomatch z
theorem testS_not (t : TestD) : testS (.not t) = "not " ++ testS t := by
  unfold testS
  cases e : testW t with
  | nil => exact absurd e (testW_ne t)
  | cons a r =>
    show Txt.join " " ("not" :: testW t) = _
    rw [e, join_cons]
    rfl
theorem testS_was (k : Str) : testS (.was k) = "was " ++ k := by
  show Txt.join " " ["was", k] = _
  rw [join_cons, join_one]
  rfl
theorem testS_cut (o : Bool) (n : Int) : testS (.cut o n) = belowS o ++ " below " ++ iS n := by
  show Txt.join " " [belowS o, "below", iS n] = _
  rw [join_cons, join_cons, join_one]
  have e : (" " : Str) ++ "below" ++ " " = " below " := by decide +kernel
  rw [← e]
  simp only [sapp_assoc]
mutual
def rowLines : RowD → List Str
  | .ife t a b => Txt.join " " ("if" :: testW t) :: (rowsLines a ++ ((if b.isEmpty then [] else ("else" : Str) :: rowsLines b) ++ [("end" : Str)]))
  | .add f w t p => [Txt.join " " ["add", iS f, w, t, p]]
  | .put n w => [Txt.join " " ["put", n, w]]
  | .mark p => [Txt.join " " ["mark", p]]
def rowsLines : List RowD → List Str
  | [] => []
  | r :: rs => rowLines r ++ rowsLines rs
end
def rowS (r : RowD) : Str := Txt.join "\n" (rowLines r)
theorem rowLines_ne (r : RowD) : rowLines r ≠ [] := by cases r <;> (unfold rowLines; exact fun z => nomatch z)
theorem rowsLines_eq : ∀ rs : List RowD, rowsLines rs = (rs.map rowLines).flatten
  | [] => by unfold rowsLines; rfl
  | r :: rs => by unfold rowsLines; rw [rowsLines_eq rs]; rfl
theorem ifLine (t : TestD) : Txt.join " " ("if" :: testW t) = "if " ++ testS t := by
  unfold testS
  cases e : testW t with
  | nil => exact absurd e (testW_ne t)
  | cons a r => rw [join_cons]; rfl
/-! sizes -/
def numOk (n : Int) : Prop := n.natAbs.log2 < 1920
theorem numOk_of {n : Int} (h : -999999 ≤ n ∧ n ≤ 999999) : numOk n := by
  unfold numOk
  have : n.natAbs < 2 ^ 1000 := Nat.lt_of_le_of_lt (m := 999999) (by omega) (by decide +kernel)
  rcases Nat.eq_zero_or_pos n.natAbs with e | e
  · rw [e]; decide
  · have := (Nat.log2_lt (by omega)).mpr this
    omega
def okT : TestD → Prop
  | .was k => okKind k
  | .cut _ n => numOk n
  | .not t => okT t
  | _ => True
theorem okT_of {B : BookD} (ok : BkOk B) : ∀ {t : TestD}, okTest B t → okT t
  | .was k, h => okKind_of h ok
  | .cut _ n, h => numOk_of (ok.nums n h)
  | .moved, _ => trivial
  | .noted, _ => trivial
  | .not t, h => okT_of ok (t := t) h
theorem testS_len : ∀ {t : TestD}, okT t → (testS t).length ≤ 1950 + 4 * tdep t
  | .was k, h => by
    have := okKind.len (show okKind k from h)
    rw [testS_was, slen_app]
    show 4 + k.length ≤ 1950 + 4 * 0
    omega
  | .cut o n, h => by
    have := iS_len (show n.natAbs.log2 < 1920 from h)
    have hb : (belowS o).length ≤ 3 := by cases o <;> decide
    rw [testS_cut, slen_app, slen_app]
    show (belowS o).length + 7 + (iS n).length ≤ 1950 + 4 * 0
    omega
  | .moved, _ => by decide +kernel
  | .noted, _ => by decide +kernel
  | .not t, h => by
    have := testS_len (t := t) h
    rw [testS_not, slen_app]
    show 4 + (testS t).length ≤ 1950 + 4 * (tdep t + 1)
    omega
end K14

set_option pp.maxSteps 600
namespace K14
open PySem L2 PySem.Spec PyProof.Rows
theorem empty_app (s : Str) : Str.empty ++ s = s := by
  cases s
  show Str.mk _ = Str.mk _
  congr 1
  exact Array.empty_append
/-- the classes are unlike -/
structure Unlike (p : Pkg) : Prop where
  nd : (p.tests ++ p.rows).Nodup
def TestSh (p : Pkg) (k : Nat) (H : Hp) (a : Addr) (z : Str) : Prop := ∃ t, TestOb p H (.ref a) t ∧ okT t ∧ tdep t ≤ k ∧ z = testS t
/-- the sort of a test by its class -/
def clsT (p : Pkg) : TestD → Addr
  | .was _ => p.CW
  | .cut o _ => if o then p.CO else p.CB
  | .moved => p.CM
  | .noted => p.CT
  | .not _ => p.CN
theorem TestOb.at' {p : Pkg} {H : Hp} {a C dx : Addr} {fs : List (Str × V)} {t : TestD} (h : TestOb p H (.ref a) t) (ha : H a = some (.ins C dx fs)) : clsT p t = C := by
  cases t with
  | was k => obtain ⟨b, dx, e, h⟩ := h; cases e; rw [h] at ha; cases ha; rfl
  | cut o n => obtain ⟨b, dx, e, h⟩ := h; cases e; rw [h] at ha; cases ha; rfl
  | moved => obtain ⟨b, dx, e, h⟩ := h; cases e; rw [h] at ha; cases ha; rfl
  | noted => obtain ⟨b, dx, e, h⟩ := h; cases e; rw [h] at ha; cases ha; rfl
  | not t => obtain ⟨b, dx, u, e, h, _⟩ := h; cases e; rw [h] at ha; cases ha; rfl
theorem Unlike.tests {p : Pkg} (U : Unlike p) : p.tests.Nodup := U.nd.sublist (List.sublist_append_left _ _)
section
variable {p : Pkg} (U : Unlike p) {t : TestD}
include U
theorem is_was (h : clsT p t = p.CW) : ∃ k, t = .was k := by
  have := U.tests
  simp only [Pkg.tests, List.nodup_cons, List.mem_cons, List.not_mem_nil, or_false, not_or] at this
  cases t with
  | was k => exact ⟨k, rfl⟩
  | cut o n => cases o <;> simp_all [clsT]
  | _ => simp_all [clsT]
theorem is_old (h : clsT p t = p.CO) : ∃ n, t = .cut true n := by
  have := U.tests
  simp only [Pkg.tests, List.nodup_cons, List.mem_cons, List.not_mem_nil, or_false, not_or] at this
  cases t with
  | cut o n =>
    cases o with
    | true => exact ⟨n, rfl⟩
    | false => simp_all [clsT]
  | _ => simp_all [clsT]
theorem is_new (h : clsT p t = p.CB) : ∃ n, t = .cut false n := by
  have := U.tests
  simp only [Pkg.tests, List.nodup_cons, List.mem_cons, List.not_mem_nil, or_false, not_or] at this
  cases t with
  | cut o n =>
    cases o with
    | false => exact ⟨n, rfl⟩
    | true => simp_all [clsT]
  | _ => simp_all [clsT]
theorem is_moved (h : clsT p t = p.CM) : t = .moved := by
  have := U.tests
  simp only [Pkg.tests, List.nodup_cons, List.mem_cons, List.not_mem_nil, or_false, not_or] at this
  cases t with
  | moved => rfl
  | cut o n => cases o <;> simp_all [clsT]
  | _ => simp_all [clsT]
theorem is_noted (h : clsT p t = p.CT) : t = .noted := by
  have := U.tests
  simp only [Pkg.tests, List.nodup_cons, List.mem_cons, List.not_mem_nil, or_false, not_or] at this
  cases t with
  | noted => rfl
  | cut o n => cases o <;> simp_all [clsT]
  | _ => simp_all [clsT]
theorem is_not (h : clsT p t = p.CN) : ∃ t', t = .not t' := by
  have := U.tests
  simp only [Pkg.tests, List.nodup_cons, List.mem_cons, List.not_mem_nil, or_false, not_or] at this
  cases t with
  | not t => exact ⟨t, rfl⟩
  | cut o n => cases o <;> simp_all [clsT]
  | _ => simp_all [clsT]
end
section
variable {P : Program} {w : World} {K : PySem.W.Frag} {mg : Str → Option Value} {base : Heap}
abbrev s_Was_str : Stmt := inClass (top 17) 2
abbrev n_Was_str : List Str := ["self"]
theorem sc_Was_str : FnScope n_Was_str ["self"] (defScope s_Was_str) := ⟨rfl, rfl, rfl, by decide +kernel, rfl, by decide +kernel, by decide +kernel⟩
theorem ok_wasS {p : Pkg} {k fI : Nat} {fd : FuncData} (U : Unlike p) (CE : ClsA K mg "Was" p.CW ["kind"]) (F : Fun K "__str__" "Was.__str__" s_Was_str fI fd) : FnOk P w K mg base CX0 1 fI fd ["self"] (spStrC p.CW (TestSh p k)) := by
  refine F.ok sc_Was_str (fun vs H Q E h => ?_) (fun cdv A outer s H vs Q E hr h => ?_)
  · obtain ⟨a, dx, fs, z, rfl, _⟩ := h
    rfl
  · obtain ⟨a, dx, fs, z, rfl, ha, ⟨t, ob, ot, dt, rfl⟩, k⟩ := h
    refine ⟨_, (pss_one (ps_ret (pe_joined (PJ.cons pe_str (PJ.cons (pe_fmt (pe_fld (pv 0) rfl)) PJ.nil))))), ?_⟩
    obtain ⟨kd, rfl⟩ := is_was U (ob.at' ha)
    obtain ⟨_, dx', e, h⟩ := ob
    cases e
    have lk := okKind.len (show okKind kd from ot)
    have q1000 : (1000 : Nat) < sizeLine := by decide
    refine ⟨_, rfl, by decide, ?_⟩
    refine ⟨_, rfl, a, p.CW, dx', _, .str kd, rfl, h, CE.cl, CE.n _ (by simp), rfl, .inl ⟨kd, rfl, by omega, ?_⟩⟩
    refine ⟨_, rfl, by rw [slen_app, slen_app]; show 0 + 4 + kd.length ≤ sizeLine; omega, ?_⟩
    have := k H fun _ _ h => h
    rw [testS_was] at this
    rw [empty_app]
    exact this
abbrev s_OldBelow_str : Stmt := inClass (top 18) 2
abbrev n_OldBelow_str : List Str := ["self"]
theorem sc_OldBelow_str : FnScope n_OldBelow_str ["self"] (defScope s_OldBelow_str) := ⟨rfl, rfl, rfl, by decide +kernel, rfl, by decide +kernel, by decide +kernel⟩
theorem ok_oldS {p : Pkg} {k fI : Nat} {fd : FuncData} (U : Unlike p) (CE : ClsA K mg "OldBelow" p.CO ["number"]) (F : Fun K "__str__" "OldBelow.__str__" s_OldBelow_str fI fd) : FnOk P w K mg base CX0 1 fI fd ["self"] (spStrC p.CO (TestSh p k)) := by
  refine F.ok sc_OldBelow_str (fun vs H Q E h => ?_) (fun cdv A outer s H vs Q E hr h => ?_)
  · obtain ⟨a, dx, fs, z, rfl, _⟩ := h
    rfl
  · obtain ⟨a, dx, fs, z, rfl, ha, ⟨t, ob, ot, dt, rfl⟩, k⟩ := h
    refine ⟨_, (pss_one (ps_ret (pe_joined (PJ.cons pe_str (PJ.cons (pe_fmt (pe_fld (pv 0) rfl)) PJ.nil))))), ?_⟩
    obtain ⟨n, rfl⟩ := is_old U (ob.at' ha)
    obtain ⟨_, dx', e, h⟩ := ob
    cases e
    have ln := iS_len (show n.natAbs.log2 < 1920 from ot)
    have q1000 : (10000 : Nat) < sizeLine := by decide
    refine ⟨_, rfl, by decide, ?_⟩
    refine ⟨_, rfl, a, p.CO, dx', _, .int n, rfl, h, CE.cl, CE.n _ (by simp), rfl, .inr ⟨n, rfl, ot, ?_⟩⟩
    refine ⟨_, rfl, by rw [slen_app, slen_app]; show 0 + 10 + (iS n).length ≤ sizeLine; omega, ?_⟩
    have := k H fun _ _ h => h
    rw [testS_cut] at this
    rw [empty_app]
    exact this
abbrev s_NewBelow_str : Stmt := inClass (top 19) 2
abbrev n_NewBelow_str : List Str := ["self"]
theorem sc_NewBelow_str : FnScope n_NewBelow_str ["self"] (defScope s_NewBelow_str) := ⟨rfl, rfl, rfl, by decide +kernel, rfl, by decide +kernel, by decide +kernel⟩
theorem ok_newS {p : Pkg} {k fI : Nat} {fd : FuncData} (U : Unlike p) (CE : ClsA K mg "NewBelow" p.CB ["number"]) (F : Fun K "__str__" "NewBelow.__str__" s_NewBelow_str fI fd) : FnOk P w K mg base CX0 1 fI fd ["self"] (spStrC p.CB (TestSh p k)) := by
  refine F.ok sc_NewBelow_str (fun vs H Q E h => ?_) (fun cdv A outer s H vs Q E hr h => ?_)
  · obtain ⟨a, dx, fs, z, rfl, _⟩ := h
    rfl
  · obtain ⟨a, dx, fs, z, rfl, ha, ⟨t, ob, ot, dt, rfl⟩, k⟩ := h
    refine ⟨_, (pss_one (ps_ret (pe_joined (PJ.cons pe_str (PJ.cons (pe_fmt (pe_fld (pv 0) rfl)) PJ.nil))))), ?_⟩
    obtain ⟨n, rfl⟩ := is_new U (ob.at' ha)
    obtain ⟨_, dx', e, h⟩ := ob
    cases e
    have ln := iS_len (show n.natAbs.log2 < 1920 from ot)
    have q1000 : (10000 : Nat) < sizeLine := by decide
    refine ⟨_, rfl, by decide, ?_⟩
    refine ⟨_, rfl, a, p.CB, dx', _, .int n, rfl, h, CE.cl, CE.n _ (by simp), rfl, .inr ⟨n, rfl, ot, ?_⟩⟩
    refine ⟨_, rfl, by rw [slen_app, slen_app]; show 0 + 10 + (iS n).length ≤ sizeLine; omega, ?_⟩
    have := k H fun _ _ h => h
    rw [testS_cut] at this
    rw [empty_app]
    exact this
abbrev s_Moved_str : Stmt := inClass (top 20) 1
abbrev n_Moved_str : List Str := ["self"]
theorem sc_Moved_str : FnScope n_Moved_str ["self"] (defScope s_Moved_str) := ⟨rfl, rfl, rfl, by decide +kernel, rfl, by decide +kernel, by decide +kernel⟩
theorem ok_movedS {p : Pkg} {k fI : Nat} {fd : FuncData} (U : Unlike p) (F : Fun K "__str__" "Moved.__str__" s_Moved_str fI fd) : FnOk P w K mg base CX0 1 fI fd ["self"] (spStrC p.CM (TestSh p k)) := by
  refine F.ok sc_Moved_str (fun vs H Q E h => ?_) (fun cdv A outer s H vs Q E hr h => ?_)
  · obtain ⟨a, dx, fs, z, rfl, _⟩ := h
    rfl
  · obtain ⟨a, dx, fs, z, rfl, ha, ⟨t, ob, ot, dt, rfl⟩, k⟩ := h
    obtain rfl := is_moved U (ob.at' ha)
    exact ⟨_, (pss_one (ps_ret pe_str)), k H fun _ _ h => h⟩
abbrev s_Noted_str : Stmt := inClass (top 21) 1
abbrev n_Noted_str : List Str := ["self"]
theorem sc_Noted_str : FnScope n_Noted_str ["self"] (defScope s_Noted_str) := ⟨rfl, rfl, rfl, by decide +kernel, rfl, by decide +kernel, by decide +kernel⟩
theorem ok_notedS {p : Pkg} {k fI : Nat} {fd : FuncData} (U : Unlike p) (F : Fun K "__str__" "Noted.__str__" s_Noted_str fI fd) : FnOk P w K mg base CX0 1 fI fd ["self"] (spStrC p.CT (TestSh p k)) := by
  refine F.ok sc_Noted_str (fun vs H Q E h => ?_) (fun cdv A outer s H vs Q E hr h => ?_)
  · obtain ⟨a, dx, fs, z, rfl, _⟩ := h
    rfl
  · obtain ⟨a, dx, fs, z, rfl, ha, ⟨t, ob, ot, dt, rfl⟩, k⟩ := h
    obtain rfl := is_noted U (ob.at' ha)
    exact ⟨_, (pss_one (ps_ret pe_str)), k H fun _ _ h => h⟩
abbrev s_Not_str : Stmt := inClass (top 22) 2
abbrev n_Not_str : List Str := ["self"]
theorem sc_Not_str : FnScope n_Not_str ["self"] (defScope s_Not_str) := ⟨rfl, rfl, rfl, by decide +kernel, rfl, by decide +kernel, by decide +kernel⟩
theorem ok_notS {p : Pkg} {k n fI : Nat} {fd : FuncData} (U : Unlike p) (CE : ClsA K mg "Not" p.CN ["test"]) (ShT : Shows P w K mg base n p.tests (TestSh p k)) (lk : k ≤ 10) (F : Fun K "__str__" "Not.__str__" s_Not_str fI fd) : FnOk P w K mg base CX0 (n + 3) fI fd ["self"] (spStrC p.CN (TestSh p (k + 1))) := by
  refine F.ok sc_Not_str (fun vs H Q E h => ?_) (fun cdv A outer s H vs Q E hr h => ?_)
  · obtain ⟨a, dx, fs, z, rfl, _⟩ := h
    rfl
  · obtain ⟨a, dx, fs, z, rfl, ha, ⟨t, ob, ot, dt, rfl⟩, ret⟩ := h
    refine ⟨_, (pss_one (ps_ret (pe_joined (PJ.cons pe_str (PJ.cons (pe_fmtC ShT (hr.mono (by omega)) (pe_fld (pv 0) rfl)) PJ.nil))))), ?_⟩
    obtain ⟨t, rfl⟩ := is_not U (ob.at' ha)
    obtain ⟨_, dx', u, e, h, ob2⟩ := ob
    cases e
    have q1000 : (10000 : Nat) < sizeLine := by decide
    obtain ⟨b, C, dx2, fs2, rfl, hb, mC⟩ := ob2.cls
    have dt' : tdep t + 1 ≤ k + 1 := dt
    have ln := testS_len (show okT t from ot)
    refine ⟨_, rfl, by decide, ?_⟩
    refine ⟨_, rfl, a, p.CN, dx', _, .ref b, rfl, h, CE.cl, CE.n _ (by simp), rfl, b, C, dx2, fs2, testS t, rfl, hb, mC, ⟨t, ob2, ot, by omega, rfl⟩, fun H' s' => ?_⟩
    refine ⟨_, rfl, by rw [slen_app, slen_app]; show 0 + 4 + (testS t).length ≤ sizeLine; omega, ?_⟩
    have := ret H' s'
    rw [testS_not] at this
    rw [empty_app]
    exact this
end
end K14

set_option pp.maxSteps 600
namespace L2
open PySem PySem.Spec PyProof.Rows
theorem call_strCK {X : Cx} {P : Program} {w : World} {K : PySem.W.Frag} {mg : Str → Option Value} {base : Heap} {k : Nat} {cls : List Addr} {S : Hp → Addr → Str → Prop} (e1 : X.prog = P) (e2 : X.w = w) (e3 : X.K = K) (e4 : X.mg = mg) (e5 : X.base = base) (Sh : Shows P w K mg base k cls S) (hr : Room (k + 2) X.A) : CallR X (.type "str") (fun xs H Q => ∃ x, xs = [x] ∧ rStrC cls S x H Q) := by
  subst e1 e2 e3 e4 e5; exact call_strC Sh hr
end L2
namespace K14
open PySem L2 PySem.Spec PyProof.Rows
mutual
def okR : RowD → Nat → Prop
  | .ife t a b, k => ∃ k', k = k' + 1 ∧ okT t ∧ tdep t ≤ 2 ∧ a.length ≤ 3 ∧ b.length ≤ 3 ∧ okRL a k' ∧ okRL b k'
  | .add f w t p, _ => numOk f ∧ w.length ≤ 6 ∧ t.length ≤ 6 ∧ p.length ≤ 6
  | .put n w, _ => n.length ≤ 6 ∧ w.length ≤ 6
  | .mark p, _ => p.length ≤ 6
def okRL : List RowD → Nat → Prop
  | [], _ => True
  | r :: rs, k => okR r k ∧ okRL rs k
end
theorem mem_len {L : List Str} {n : Nat} {s : Str} (h : s ∈ L) (c : L.all (fun s => decide (s.length ≤ n)) = true) : s.length ≤ n := of_decide_eq_true (List.all_eq_true.mp c s h)
theorem okWhat_len {B : BookD} {s : Str} (h : okWhat B s) (ok : BkOk B) : s.length ≤ 6 := by
  rcases h with h | h
  · exact mem_len h (by decide +kernel)
  · have := nameB_len (ok.toks s (List.mem_append_right _ h)); omega
mutual
theorem okR_of {B : BookD} (ok : BkOk B) : ∀ {r : RowD} {k : Nat}, okRow B r k → okR r k
  | .ife t a b, k, h => by
    unfold okRow at h; unfold okR
    obtain ⟨k', e, h1, h2, h3, h4, h5, h6⟩ := h
    exact ⟨k', e, okT_of ok h1, h2, h3, h4, okRL_of ok h5, okRL_of ok h6⟩
  | .add f w t p, k, h => by
    unfold okRow at h; unfold okR
    have h1 := nameB_len (ok.toks t (List.mem_append_left _ h.2.2.2.1))
    exact ⟨numOk_of ⟨by omega, by omega⟩, okWhat_len h.2.2.1 ok, by omega, mem_len h.2.2.2.2 (by decide +kernel)⟩
  | .put n w, k, h => by
    unfold okRow at h; unfold okR
    have h1 := nameB_len (ok.toks n (List.mem_append_right _ h.1))
    exact ⟨by omega, okWhat_len h.2 ok⟩
  | .mark p, k, h => by
    unfold okRow at h; unfold okR
    exact mem_len h (by decide +kernel)
theorem okRL_of {B : BookD} (ok : BkOk B) : ∀ {rs : List RowD} {k : Nat}, okRowL B rs k → okRL rs k
  | [], _, _ => by unfold okRL; trivial
  | r :: rs, k, h => by unfold okRowL at h; unfold okRL; exact ⟨okR_of ok h.1, okRL_of ok h.2⟩
end
theorem okRL.get {k : Nat} : ∀ {rs : List RowD} {i : Nat} {r : RowD}, okRL rs k → rs[i]? = some r → okR r k
  | [], i, r, _, e => by simp at e
  | r0 :: rs, i, r, h, e => by
    unfold okRL at h
    cases i with
    | zero => rw [List.getElem?_cons_zero] at e; cases e; exact h.1
    | succ i => rw [List.getElem?_cons_succ] at e; exact okRL.get h.2 e
def ifTexts (t : TestD) (a b : List RowD) : List Str := ("if " ++ testS t) :: (a.map rowS ++ ((if b.isEmpty then [] else ("else" : Str) :: b.map rowS) ++ [("end" : Str)]))
theorem rowS_ife (t : TestD) (a b : List RowD) : rowS (.ife t a b) = Txt.join "\n" (ifTexts t a b) := by
  have e : rowLines (.ife t a b) = ([("if " ++ testS t)] :: (a.map rowLines ++ ((if b.isEmpty then [] else [("else" : Str)] :: b.map rowLines) ++ [[("end" : Str)]]))).flatten := by
    unfold rowLines
    rw [ifLine, rowsLines_eq, rowsLines_eq, List.flatten_cons, List.flatten_append, List.flatten_append]
    cases b with
    | nil => rfl
    | cons r b => rfl
  unfold rowS
  rw [e, ← join_flat]
  · unfold ifTexts
    congr 1
    rw [List.map_cons, join_one, List.map_append, List.map_append, List.map_map]
    cases b with
    | nil => rfl
    | cons r b =>
      show _ :: (_ ++ ((([("else" : Str)] :: (r :: b).map rowLines).map (Txt.join "\n")) ++ _)) = _
      rw [List.map_cons, join_one, List.map_map]
      rfl
  · intro l hl
    rcases List.mem_cons.mp hl with rfl | hl
    · exact fun z => nomatch z
    rcases List.mem_append.mp hl with hl | hl
    · obtain ⟨r, _, rfl⟩ := List.mem_map.mp hl; exact rowLines_ne r
    rcases List.mem_append.mp hl with hl | hl
    · cases b with
      | nil => cases hl
      | cons r b =>
        rcases List.mem_cons.mp hl with rfl | hl
        · exact fun z => nomatch z
        · obtain ⟨r, _, rfl⟩ := List.mem_map.mp hl; exact rowLines_ne r
    · rw [List.mem_singleton.mp hl]; exact fun z => nomatch z
/-- how long a row's text may be, by how deep it is -/
def Rb : Nat → Nat
  | 0 => 2000
  | k + 1 => 2100 + 6 * (Rb k + 1)
theorem sum_le {B : Nat} : ∀ {l : List Str}, (∀ s ∈ l, s.length ≤ B) → (l.map (·.length)).sum ≤ l.length * B
  | [], _ => Nat.zero_le _
  | s :: l, h => by
    have h1 := h s List.mem_cons_self
    have h2 := sum_le (l := l) fun x hx => h x (List.mem_cons_of_mem _ hx)
    simp only [List.map_cons, List.sum_cons, List.length_cons, Nat.succ_mul]
    omega
theorem ifTexts_sum {t : TestD} {a b : List RowD} {B : Nat} (ht : (testS t).length ≤ 1960) (la : a.length ≤ 3) (lb : b.length ≤ 3) (ha : ∀ r ∈ a, (rowS r).length ≤ B) (hb : ∀ r ∈ b, (rowS r).length ≤ B) : ((ifTexts t a b).map (·.length)).sum + (ifTexts t a b).length * ("\n" : Str).length ≤ 2100 + 6 * (B + 1) := by
  have sa := sum_le (l := a.map rowS) (B := B) fun s hs => by obtain ⟨r, hr, rfl⟩ := List.mem_map.mp hs; exact ha r hr
  have sb := sum_le (l := b.map rowS) (B := B) fun s hs => by obtain ⟨r, hr, rfl⟩ := List.mem_map.mp hs; exact hb r hr
  rw [List.length_map] at sa sb
  have m1 : a.length * B ≤ 3 * B := Nat.mul_le_mul_right _ la
  have m2 : b.length * B ≤ 3 * B := Nat.mul_le_mul_right _ lb
  have ln : ("\n" : Str).length = 1 := rfl
  have li : (("if " : Str) ++ testS t).length = 3 + (testS t).length := by rw [slen_app]; rfl
  unfold ifTexts
  cases b with
  | nil =>
    simp only [List.isEmpty_nil, if_true, List.nil_append, List.map_cons, List.sum_cons, List.map_append, List.sum_append, List.length_cons, List.length_append, List.length_map, List.map_nil, List.sum_nil, List.length_nil, ln, li]
    have le : (("end" : Str)).length = 3 := rfl
    rw [le]
    omega
  | cons r b =>
    simp only [List.length_cons] at lb m2
    simp only [List.isEmpty_cons, List.map_cons, List.sum_cons, List.map_append, List.sum_append, List.length_cons, List.length_append, List.length_map, List.map_nil, List.sum_nil, List.length_nil, ln, li] at sb ⊢
    have le : (("end" : Str)).length = 3 := rfl
    have le2 : (("else" : Str)).length = 4 := rfl
    rw [if_neg (by decide)]
    simp only [List.map_cons, List.sum_cons, List.length_cons, List.length_map, le, le2]
    omega
mutual
theorem rowS_len : ∀ {r : RowD} {k : Nat}, okR r k → (rowS r).length ≤ Rb k
  | .ife t a b, k, h => by
    unfold okR at h
    obtain ⟨k', rfl, h1, h2, h3, h4, h5, h6⟩ := h
    rw [rowS_ife]
    refine Nat.le_trans (join_len _ _) ?_
    have := testS_len h1
    exact ifTexts_sum (by omega) h3 h4 (rowsS_len h5) (rowsS_len h6)
  | .add f w t p, k, h => by
    unfold okR at h
    have q : 2000 ≤ Rb k := by cases k with
      | zero => exact Nat.le_refl _
      | succ k => show 2000 ≤ 2100 + _; omega
    have lf := iS_len h.1
    refine Nat.le_trans ?_ q
    unfold rowS rowLines
    rw [join_one]
    refine Nat.le_trans (join_len _ _) ?_
    show 3 + ((iS f).length + (w.length + (t.length + (p.length + 0)))) + 5 * 1 ≤ 2000
    omega
  | .put n w, k, h => by
    unfold okR at h
    have q : 2000 ≤ Rb k := by cases k with
      | zero => exact Nat.le_refl _
      | succ k => show 2000 ≤ 2100 + _; omega
    refine Nat.le_trans ?_ q
    unfold rowS rowLines
    rw [join_one]
    refine Nat.le_trans (join_len _ _) ?_
    show 3 + (n.length + (w.length + 0)) + 3 * 1 ≤ 2000
    omega
  | .mark p, k, h => by
    unfold okR at h
    have q : 2000 ≤ Rb k := by cases k with
      | zero => exact Nat.le_refl _
      | succ k => show 2000 ≤ 2100 + _; omega
    refine Nat.le_trans ?_ q
    unfold rowS rowLines
    rw [join_one]
    refine Nat.le_trans (join_len _ _) ?_
    show 4 + (p.length + 0) + 2 * 1 ≤ 2000
    omega
theorem rowsS_len : ∀ {rs : List RowD} {k : Nat}, okRL rs k → ∀ r ∈ rs, (rowS r).length ≤ Rb k
  | [], _, _, r, hr => nomatch hr
  | r0 :: rs, k, h, r, hr => by
    unfold okRL at h
    rcases List.mem_cons.mp hr with e | hr
    · rw [e]; exact rowS_len h.1
    · exact rowsS_len h.2 r hr
end
end K14

set_option pp.maxSteps 600
namespace K14
open PySem L2 PySem.Spec PyProof.Rows
def RowSh (K : PySem.W.Frag) (p : Pkg) (k : Nat) (H : Hp) (a : Addr) (z : Str) : Prop := ∃ r, RowOb K p H r (.ref a) ∧ okR r k ∧ z = rowS r
def clsR (p : Pkg) : RowD → Addr
  | .ife _ _ _ => p.CI
  | .add _ _ _ _ => p.CA
  | .put _ _ => p.CP
  | .mark _ => p.CK
theorem RowOb.at' {K : PySem.W.Frag} {p : Pkg} {H : Hp} {a C dx : Addr} {fs : List (Str × V)} {r : RowD} (h : RowOb K p H r (.ref a)) (ha : H a = some (.ins C dx fs)) : clsR p r = C := by
  cases r with
  | ife t x y => unfold RowOb at h; obtain ⟨b, dx, _, _, _, _, _, e, h, _⟩ := h; cases e; rw [h] at ha; cases ha; rfl
  | add f w t pl => unfold RowOb at h; obtain ⟨b, dx, e, h⟩ := h; cases e; rw [h] at ha; cases ha; rfl
  | put n w => unfold RowOb at h; obtain ⟨b, dx, e, h⟩ := h; cases e; rw [h] at ha; cases ha; rfl
  | mark pl => unfold RowOb at h; obtain ⟨b, dx, e, h⟩ := h; cases e; rw [h] at ha; cases ha; rfl
theorem Unlike.rows {p : Pkg} (U : Unlike p) : p.rows.Nodup := U.nd.sublist (List.sublist_append_right _ _)
section
variable {p : Pkg} (U : Unlike p) {r : RowD}
include U
theorem is_add (h : clsR p r = p.CA) : ∃ f w t pl, r = .add f w t pl := by
  have := U.rows
  simp only [Pkg.rows, List.nodup_cons, List.mem_cons, List.not_mem_nil, or_false, not_or] at this
  cases r with
  | add f w t pl => exact ⟨f, w, t, pl, rfl⟩
  | _ => simp_all [clsR]
theorem is_put (h : clsR p r = p.CP) : ∃ n w, r = .put n w := by
  have := U.rows
  simp only [Pkg.rows, List.nodup_cons, List.mem_cons, List.not_mem_nil, or_false, not_or] at this
  cases r with
  | put n w => exact ⟨n, w, rfl⟩
  | _ => simp_all [clsR]
theorem is_mark (h : clsR p r = p.CK) : ∃ pl, r = .mark pl := by
  have := U.rows
  simp only [Pkg.rows, List.nodup_cons, List.mem_cons, List.not_mem_nil, or_false, not_or] at this
  cases r with
  | mark pl => exact ⟨pl, rfl⟩
  | _ => simp_all [clsR]
theorem is_if (h : clsR p r = p.CI) : ∃ t a b, r = .ife t a b := by
  have := U.rows
  simp only [Pkg.rows, List.nodup_cons, List.mem_cons, List.not_mem_nil, or_false, not_or] at this
  cases r with
  | ife t a b => exact ⟨t, a, b, rfl⟩
  | _ => simp_all [clsR]
end
theorem rowS_add (f : Int) (w t pl : Str) : rowS (.add f w t pl) = "add " ++ iS f ++ " " ++ w ++ " " ++ t ++ " " ++ pl := by
  unfold rowS rowLines
  rw [join_one, join_cons, join_cons, join_cons, join_cons, join_one]
  have e : ("add" : Str) ++ " " = "add " := by decide +kernel
  rw [← e]
  simp only [sapp_assoc]
theorem rowS_put (n w : Str) : rowS (.put n w) = "put " ++ n ++ " " ++ w := by
  unfold rowS rowLines
  rw [join_one, join_cons, join_cons, join_one]
  have e : ("put" : Str) ++ " " = "put " := by decide +kernel
  rw [← e]
  simp only [sapp_assoc]
theorem rowS_mark (pl : Str) : rowS (.mark pl) = "mark " ++ pl := by
  unfold rowS rowLines
  rw [join_one, join_cons, join_one]
  have e : ("mark" : Str) ++ " " = "mark " := by decide +kernel
  rw [← e]
section
variable {P : Program} {w : World} {K : PySem.W.Frag} {mg : Str → Option Value} {base : Heap}
abbrev s_Add_str : Stmt := inClass (top 24) 2
abbrev n_Add_str : List Str := ["self"]
theorem sc_Add_str : FnScope n_Add_str ["self"] (defScope s_Add_str) := ⟨rfl, rfl, rfl, by decide +kernel, rfl, by decide +kernel, by decide +kernel⟩
theorem ok_addS {p : Pkg} {k fI : Nat} {fd : FuncData} (U : Unlike p) (CE : ClsA K mg "Add" p.CA ["factor", "what", "total", "place"]) (F : Fun K "__str__" "Add.__str__" s_Add_str fI fd) : FnOk P w K mg base CX0 1 fI fd ["self"] (spStrC p.CA (RowSh K p k)) := by
  refine F.ok sc_Add_str (fun vs H Q E h => ?_) (fun cdv A outer s H vs Q E hr h => ?_)
  · obtain ⟨a, dx, fs, z, rfl, _⟩ := h
    rfl
  · obtain ⟨a, dx, fs, z, rfl, ha, ⟨r, ob, ot, rfl⟩, ret⟩ := h
    refine ⟨_, (pss_one (ps_ret (pe_joined (PJ.cons pe_str (PJ.cons (pe_fmt (pe_fld (pv 0) rfl)) (PJ.cons pe_str (PJ.cons (pe_fmt (pe_fld (pv 0) rfl)) (PJ.cons pe_str (PJ.cons (pe_fmt (pe_fld (pv 0) rfl)) (PJ.cons pe_str (PJ.cons (pe_fmt (pe_fld (pv 0) rfl)) PJ.nil))))))))))), ?_⟩
    obtain ⟨f, wh, t, pl, rfl⟩ := is_add U (ob.at' ha)
    unfold RowOb at ob
    obtain ⟨_, dx', e, h⟩ := ob
    cases e
    unfold okR at ot
    obtain ⟨of, l1, l2, l3⟩ := ot
    have ln := iS_len of
    have q1000 : (10000 : Nat) < sizeLine := by decide
    refine ⟨_, rfl, by decide, ?_⟩
    refine ⟨_, rfl, a, p.CA, dx', _, .int f, rfl, h, CE.cl, CE.n _ (by simp), rfl, .inr ⟨f, rfl, of, ?_⟩⟩
    refine ⟨_, rfl, by rw [slen_app, slen_app]; show 0 + 4 + (iS f).length ≤ sizeLine; omega, ?_⟩
    refine ⟨_, rfl, by rw [slen_app, slen_app, slen_app]; show 0 + 4 + (iS f).length + 1 ≤ sizeLine; omega, ?_⟩
    refine ⟨_, rfl, a, p.CA, dx', _, .str wh, rfl, h, CE.cl, CE.n _ (by simp), rfl, .inl ⟨wh, rfl, by omega, ?_⟩⟩
    refine ⟨_, rfl, by rw [slen_app, slen_app, slen_app, slen_app]; show 0 + 4 + (iS f).length + 1 + wh.length ≤ sizeLine; omega, ?_⟩
    refine ⟨_, rfl, by rw [slen_app, slen_app, slen_app, slen_app, slen_app]; show 0 + 4 + (iS f).length + 1 + wh.length + 1 ≤ sizeLine; omega, ?_⟩
    refine ⟨_, rfl, a, p.CA, dx', _, .str t, rfl, h, CE.cl, CE.n _ (by simp), rfl, .inl ⟨t, rfl, by omega, ?_⟩⟩
    refine ⟨_, rfl, by rw [slen_app, slen_app, slen_app, slen_app, slen_app, slen_app]; show 0 + 4 + (iS f).length + 1 + wh.length + 1 + t.length ≤ sizeLine; omega, ?_⟩
    refine ⟨_, rfl, by rw [slen_app, slen_app, slen_app, slen_app, slen_app, slen_app, slen_app]; show 0 + 4 + (iS f).length + 1 + wh.length + 1 + t.length + 1 ≤ sizeLine; omega, ?_⟩
    refine ⟨_, rfl, a, p.CA, dx', _, .str pl, rfl, h, CE.cl, CE.n _ (by simp), rfl, .inl ⟨pl, rfl, by omega, ?_⟩⟩
    refine ⟨_, rfl, by rw [slen_app, slen_app, slen_app, slen_app, slen_app, slen_app, slen_app, slen_app]; show 0 + 4 + (iS f).length + 1 + wh.length + 1 + t.length + 1 + pl.length ≤ sizeLine; omega, ?_⟩
    have := ret H fun _ _ h => h
    rw [rowS_add] at this
    rw [empty_app]
    exact this
abbrev s_Put_str : Stmt := inClass (top 25) 2
abbrev n_Put_str : List Str := ["self"]
theorem sc_Put_str : FnScope n_Put_str ["self"] (defScope s_Put_str) := ⟨rfl, rfl, rfl, by decide +kernel, rfl, by decide +kernel, by decide +kernel⟩
theorem ok_putS {p : Pkg} {k fI : Nat} {fd : FuncData} (U : Unlike p) (CE : ClsA K mg "Put" p.CP ["note", "what"]) (F : Fun K "__str__" "Put.__str__" s_Put_str fI fd) : FnOk P w K mg base CX0 1 fI fd ["self"] (spStrC p.CP (RowSh K p k)) := by
  refine F.ok sc_Put_str (fun vs H Q E h => ?_) (fun cdv A outer s H vs Q E hr h => ?_)
  · obtain ⟨a, dx, fs, z, rfl, _⟩ := h
    rfl
  · obtain ⟨a, dx, fs, z, rfl, ha, ⟨r, ob, ot, rfl⟩, ret⟩ := h
    refine ⟨_, (pss_one (ps_ret (pe_joined (PJ.cons pe_str (PJ.cons (pe_fmt (pe_fld (pv 0) rfl)) (PJ.cons pe_str (PJ.cons (pe_fmt (pe_fld (pv 0) rfl)) PJ.nil))))))), ?_⟩
    obtain ⟨n, wh, rfl⟩ := is_put U (ob.at' ha)
    unfold RowOb at ob
    obtain ⟨_, dx', e, h⟩ := ob
    cases e
    unfold okR at ot
    obtain ⟨l1, l2⟩ := ot
    have q1000 : (10000 : Nat) < sizeLine := by decide
    refine ⟨_, rfl, by decide, ?_⟩
    refine ⟨_, rfl, a, p.CP, dx', _, .str n, rfl, h, CE.cl, CE.n _ (by simp), rfl, .inl ⟨n, rfl, by omega, ?_⟩⟩
    refine ⟨_, rfl, by rw [slen_app, slen_app]; show 0 + 4 + n.length ≤ sizeLine; omega, ?_⟩
    refine ⟨_, rfl, by rw [slen_app, slen_app, slen_app]; show 0 + 4 + n.length + 1 ≤ sizeLine; omega, ?_⟩
    refine ⟨_, rfl, a, p.CP, dx', _, .str wh, rfl, h, CE.cl, CE.n _ (by simp), rfl, .inl ⟨wh, rfl, by omega, ?_⟩⟩
    refine ⟨_, rfl, by rw [slen_app, slen_app, slen_app, slen_app]; show 0 + 4 + n.length + 1 + wh.length ≤ sizeLine; omega, ?_⟩
    have := ret H fun _ _ h => h
    rw [rowS_put] at this
    rw [empty_app]
    exact this
abbrev s_Mark_str : Stmt := inClass (top 26) 2
abbrev n_Mark_str : List Str := ["self"]
theorem sc_Mark_str : FnScope n_Mark_str ["self"] (defScope s_Mark_str) := ⟨rfl, rfl, rfl, by decide +kernel, rfl, by decide +kernel, by decide +kernel⟩
theorem ok_markS {p : Pkg} {k fI : Nat} {fd : FuncData} (U : Unlike p) (CE : ClsA K mg "Mark" p.CK ["place"]) (F : Fun K "__str__" "Mark.__str__" s_Mark_str fI fd) : FnOk P w K mg base CX0 1 fI fd ["self"] (spStrC p.CK (RowSh K p k)) := by
  refine F.ok sc_Mark_str (fun vs H Q E h => ?_) (fun cdv A outer s H vs Q E hr h => ?_)
  · obtain ⟨a, dx, fs, z, rfl, _⟩ := h
    rfl
  · obtain ⟨a, dx, fs, z, rfl, ha, ⟨r, ob, ot, rfl⟩, ret⟩ := h
    refine ⟨_, (pss_one (ps_ret (pe_joined (PJ.cons pe_str (PJ.cons (pe_fmt (pe_fld (pv 0) rfl)) PJ.nil))))), ?_⟩
    obtain ⟨pl, rfl⟩ := is_mark U (ob.at' ha)
    unfold RowOb at ob
    obtain ⟨_, dx', e, h⟩ := ob
    cases e
    unfold okR at ot
    have q1000 : (10000 : Nat) < sizeLine := by decide
    refine ⟨_, rfl, by decide, ?_⟩
    refine ⟨_, rfl, a, p.CK, dx', _, .str pl, rfl, h, CE.cl, CE.n _ (by simp), rfl, .inl ⟨pl, rfl, by omega, ?_⟩⟩
    refine ⟨_, rfl, by rw [slen_app, slen_app]; show 0 + 5 + pl.length ≤ sizeLine; omega, ?_⟩
    have := ret H fun _ _ h => h
    rw [rowS_mark] at this
    rw [empty_app]
    exact this
theorem js_nil {acc : Str} {σ : L2.St} {H : Hp} {Q : Str → Hp → Prop} (h : Q acc H) : tJs [] acc σ H Q := h
theorem star_go {te : TE} {t : TA} {σ : L2.St} {H : Hp} {Q : List V → Hp → Prop} (h : te σ H fun x H1 => ∃ p xs, x = V.ref p ∧ (SqT K H1 p xs ∨ SqL K H1 p xs) ∧ t σ H1 fun ys H2 => Q (xs ++ ys) H2) : StX.tStar K te t σ H Q := h
/-- [str(row) for row in x.f] -/
theorem comp_go {p : Pkg} {k : Nat} {a C dx r : Addr} {fs : List (Str × V)} {f : Str} {x1 : Option V} {xs : List V} {rs : List RowD} {H : Hp} {Q : VK} (ha : H a = some (.ins C dx fs)) (cl : Cls K C) (na : NoAttr K C f) (lk : fs.lookup f = some (.ref r)) (tr : Tp K H r xs) (ro : RowObL K p H rs xs) (ok : okRL rs k) (l : rs.length ≤ 1000)
    (q : ∀ H' D, Same H H' → H' D = some (.lst ((rs.map rowS).map V.str)) → Q (.ref D) H') : tLc (iTup K (tFld K (tVar 0) f)) (gName 2) tYes (tCB (fun xs H Q => ∃ x, xs = [x] ∧ rStrC p.rows (RowSh K p k) x H Q) (tCons (tVar 2) tNil)) [2] [some (.ref a), x1, none] H Q := by
  have lx := ro.len
  have q1000 : (1000 : Nat) < sizeLine := by decide
  refine ⟨_, rfl, a, C, dx, fs, .ref r, rfl, ha, cl, na, lk, r, rfl, ⟨_, tr.sq⟩, fun D hD => lc_it (walk_tup (xs := xs)) (fun i H' => Same H H' ∧ H' D = some (.lst (((rs.take i).map rowS).map V.str))) ⟨(new_at hD).1, upd_same⟩ (fun i H' _ z => (tr.kp (ObKp.of z.1)).sq) ?_ ?_⟩
  · rintro i y H1' H1 hi ⟨s1, hD1⟩ ⟨rfl, ey⟩
    obtain ⟨r1, er, ro1⟩ := ro.at' ey
    have ro2 := ro1.kp (ObKp.of s1)
    obtain ⟨b, C2, dx2, fs2, rfl, hb, mC⟩ := ro2.cls
    have hir := (List.getElem?_eq_some_iff.mp er).1
    refine name_go ⟨rfl, ?_⟩
    unfold tYes
    refine iteSe rfl ?_
    refine ⟨_, rfl, _, rfl, b, C2, dx2, fs2, rowS r1, rfl, hb, mC, ⟨r1, ro2, ok.get er, rfl⟩, fun H2 s2 => ?_⟩
    have s2' : Same H1 H2 := s2
    refine ⟨_, s2' _ _ hD1, by rw [List.length_map, List.length_map, List.length_take]; omega, fun c o e => (upd_ne (ne_of_none e hD)).trans (s2' _ _ (s1 _ _ e)), ?_⟩
    have e1 : rs.take (i + 1) = rs.take i ++ [r1] := by
      rw [← List.take_append_getElem hir]
      rw [List.getElem?_eq_getElem hir] at er
      rw [Option.some.inj er]
    rw [e1, List.map_append, List.map_append]
    exact upd_same
  · rintro H1 ⟨s1, hD1⟩
    rw [lx, List.take_length] at hD1
    exact q H1 D s1 hD1
abbrev s_block_lines : Stmt := top 28
abbrev n_block_lines : List Str := ["block", "lines", "row"]
theorem sc_block_lines : FnScope n_block_lines ["block"] (defScope s_block_lines) := ⟨rfl, rfl, rfl, by decide +kernel, rfl, by decide +kernel, by decide +kernel⟩
def spBlock (K : PySem.W.Frag) (p : Pkg) (k : Nat) : Sp := fun vs H Q _ => ∃ (a : Addr) (t : TestD) (x y : List RowD), vs = [.ref a] ∧ RowOb K p H (.ife t x y) (.ref a) ∧ okR (.ife t x y) (k + 1) ∧ ∀ H' l, Same H H' → H' l = some (.lst ((ifTexts t x y).map V.str)) → Q (.ref l) H'
theorem ok_block {p : Pkg} {k n : Nat} (hk : k ≤ 3) (T : Txt mg) (CE : ClsA K mg "If" p.CI ["test", "rows", "others"]) (ShT : Shows P w K mg base 9 p.tests (TestSh p 2)) (ShR : Shows P w K mg base n p.rows (RowSh K p k)) (hn : 9 ≤ n) (F : DefAt K mg "block_lines" s_block_lines ["block"]) : Has P w K mg base (n + 4) "block_lines" ["block"] (spBlock K p k) := by
  refine F.has sc_block_lines (fun vs H Q E h => ?_) (fun f cdv A outer s H vs Q E hr h => ?_)
  · obtain ⟨a, t, x, y, rfl, _⟩ := h
    rfl
  · obtain ⟨a, t, x, y, rfl, ob, ok, ret⟩ := h
    refine ⟨_, (pss_cons (ps_set (i := 1) sc_block_lines.nd rfl (Or.inl rfl) (pe_lst (pa_cons (pe_joined (PJ.cons pe_str (PJ.cons (pe_fmtC ShT (hr.mono (by omega)) (pe_fld (pv 0) rfl)) PJ.nil))) (StX.pa_star (pe_lc (own := [("row", 2)]) (g := gName 2) (by rfl) sc_block_lines.nd (pi_tup (pe_fld (pv 0) rfl)) (blkOk_by (own := [("row", 2)]) (N := n_block_lines) (sc := defScope s_block_lines) (by decide +kernel)) (fun _ _ _ _ _ => (pg_name (i := 2) sc_block_lines.nd rfl (Or.inl rfl))) (fun _ _ _ _ _ => pts_nil) (fun _ _ _ _ _ => (pe_callTy (call_strCK rfl rfl rfl rfl rfl ShR (hr.mono (by omega))) (by rfl) T.z_str (by decide +kernel) (pa_cons (pv 2) pa_nil)))) pa_nil))))
      (pss_cons (ps_if (pt_truth (pe_fld (pv 0) rfl) (fun _ => rfl)) (pss_one (ps_set (i := 1) sc_block_lines.nd rfl (Or.inl rfl) (pe_lst (StX.pa_star (pv 1) (pa_cons pe_str (StX.pa_star (pe_lc (own := [("row", 2)]) (g := gName 2) (by rfl) sc_block_lines.nd (pi_tup (pe_fld (pv 0) rfl)) (blkOk_by (own := [("row", 2)]) (N := n_block_lines) (sc := defScope s_block_lines) (by decide +kernel)) (fun _ _ _ _ _ => (pg_name (i := 2) sc_block_lines.nd rfl (Or.inl rfl))) (fun _ _ _ _ _ => pts_nil) (fun _ _ _ _ _ => (pe_callTy (call_strCK rfl rfl rfl rfl rfl ShR (hr.mono (by omega))) (by rfl) T.z_str (by decide +kernel) (pa_cons (pv 2) pa_nil)))) pa_nil)))))) pss_nil)
      (pss_one (ps_ret (pe_lst (StX.pa_star (pv 1) (pa_cons pe_str pa_nil))))))), ?_⟩
    unfold RowOb at ob
    obtain ⟨_, dx, u, r, o, xs, ys, e, h, tob, tr, ro1, tq, ro2⟩ := ob
    cases e
    obtain ⟨b, C, dx2, fs2, rfl, hb, mC⟩ := tob.cls
    have q1000 : (10000 : Nat) < sizeLine := by decide
    unfold okR at ok
    obtain ⟨k', ek, ot, dt, la, lb, oa, ob⟩ := ok
    obtain rfl : k' = k := by omega
    have ln := testS_len ot
    have fin : ∀ (H5 : Hp) (zs : List Str), Same H H5 → zs ++ [("end" : Str)] = ifTexts t x y → ∀ l, H5 l = none → Q (.ref l) (upd H5 l (.lst (zs.map V.str ++ [V.str "end"]))) := fun H5 zs s5 ez l hl => by
      obtain ⟨s6, h6⟩ := new_at (o := .lst (zs.map V.str ++ [V.str "end"])) hl
      refine ret _ l (s5.trans s6) ?_
      rw [← ez, List.map_append]
      exact h6
    refine seq_asg (lstA_go (cons_go ?_))
    refine ⟨_, rfl, by decide, ?_⟩
    refine ⟨_, rfl, a, p.CI, dx, _, .ref b, rfl, h, CE.cl, CE.n _ (by simp), rfl, b, C, dx2, fs2, testS t, rfl, hb, mC, ⟨t, tob, ot, dt, rfl⟩, fun H1 s1 => ?_⟩
    have s1 : Same H H1 := s1
    refine ⟨_, rfl, by rw [slen_app, slen_app]; show 0 + 3 + (testS t).length ≤ sizeLine; omega, ?_⟩
    rw [empty_app]
    refine js_nil ?_
    try dsimp only
    refine star_go (comp_go (f := "rows") (rs := x) (s1 _ _ h) CE.cl (CE.n _ (by simp)) rfl (tr.kp (ObKp.of s1)) (ro1.kp (ObKp.of s1)) oa (by omega) fun H2 D s2 hD => ⟨D, _, rfl, .inr (SqL.of hD), ?_⟩)
    refine nil_go ⟨?_, fun L hL => name_go ?_⟩
    · rw [List.append_nil, List.length_cons, List.length_map, List.length_map]; omega
    rw [List.append_nil]
    obtain ⟨s3, h3⟩ := new_at (o := .lst (V.str ("if " ++ testS t) :: (x.map rowS).map V.str)) hL
    have s13 : Same H _ := s1.trans (s2.trans s3)
    generalize upd H2 L (.lst (V.str ("if " ++ testS t) :: (x.map rowS).map V.str)) = H3 at *
    try dsimp only
    have h4 := s13 _ _ h
    have ly := ro2.len
    refine seq_go ⟨_, rfl, a, p.CI, dx, _, .ref o, rfl, h4, CE.cl, CE.n _ (by simp), rfl, !ys.isEmpty, .inr (.inl ⟨ys, (tq.kp (ObKp.of s13)).sq, rfl⟩), ?_⟩
    cases y with
    | nil =>
      have : ys = [] := List.length_eq_zero_iff.mp ly
      subst this
      refine iteSf rfl (next_go ?_)
      try dsimp only
      refine ret_go (lstA_go (star_go ⟨_, rfl, L, _, rfl, .inr (SqL.of h3), cons_go (c_go (nil_go ⟨?_, fun l hl => ?_⟩))⟩))
      · rw [List.length_append, List.length_cons, List.length_map, List.length_map]; show _ + 1 + 1 ≤ sizeLine; omega
      · exact fin _ (("if " ++ testS t) :: x.map rowS) s13 (by unfold ifTexts; rfl) l hl
    | cons y0 y1 =>
      obtain ⟨v0, vs0, rfl⟩ : ∃ v vs, ys = v :: vs := by
        cases ys with
        | nil => simp at ly
        | cons v vs => exact ⟨v, vs, rfl⟩
      refine iteSe rfl ?_
      refine asg_go (lstA_go (star_go ⟨_, rfl, L, _, rfl, .inr (SqL.of h3), cons_go (c_go (star_go (comp_go (f := "others") (rs := y0 :: y1) h4 CE.cl (CE.n _ (by simp)) rfl (tq.kp (ObKp.of s13)) (ro2.kp (ObKp.of s13)) ob (by omega) fun H5 D5 s5 hD5 => ⟨D5, _, rfl, .inr (SqL.of hD5), nil_go ⟨?_, fun L2 hL2 => name_go ?_⟩⟩)))⟩))
      · rw [List.append_nil, List.length_append, List.length_cons, List.length_cons, List.length_map, List.length_map, List.length_map, List.length_map]; omega
      rw [List.append_nil]
      obtain ⟨s6, h6⟩ := new_at (o := .lst ((V.str ("if " ++ testS t) :: (x.map rowS).map V.str) ++ V.str "else" :: ((y0 :: y1).map rowS).map V.str)) hL2
      have s16 : Same H _ := s13.trans (s5.trans s6)
      generalize upd H5 L2 (.lst ((V.str ("if " ++ testS t) :: (x.map rowS).map V.str) ++ V.str "else" :: ((y0 :: y1).map rowS).map V.str)) = H6 at *
      try dsimp only
      refine ret_go (lstA_go (star_go ⟨_, rfl, L2, _, rfl, .inr (SqL.of h6), cons_go (c_go (nil_go ⟨?_, fun l hl => ?_⟩))⟩))
      · simp only [List.length_append, List.length_cons, List.length_map, List.length_nil] at lb ⊢; omega
      · have := fin _ ((("if " ++ testS t) :: x.map rowS) ++ (("else" : Str) :: (y0 :: y1).map rowS)) s16 (by unfold ifTexts; rw [List.append_assoc]; rfl) l hl
        rw [List.map_append] at this
        exact this
abbrev s_If_str : Stmt := inClass (top 27) 2
abbrev n_If_str : List Str := ["self"]
theorem sc_If_str : FnScope n_If_str ["self"] (defScope s_If_str) := ⟨rfl, rfl, rfl, by decide +kernel, rfl, by decide +kernel, by decide +kernel⟩
theorem ok_ifS {p : Pkg} {k n fI : Nat} {fd : FuncData} (U : Unlike p) (hk : k ≤ 3) (T : Txt mg) (g_block_lines : Has P w K mg base (n + 4) "block_lines" ["block"] (spBlock K p k)) (F : Fun K "__str__" "If.__str__" s_If_str fI fd) : FnOk P w K mg base CX0 (n + 6) fI fd ["self"] (spStrC p.CI (RowSh K p (k + 1))) := by
  refine F.ok sc_If_str (fun vs H Q E h => ?_) (fun cdv A outer s H vs Q E hr h => ?_)
  · obtain ⟨a, dx, fs, z, rfl, _⟩ := h
    rfl
  · obtain ⟨a, dx, fs, z, rfl, ha, ⟨r, ob, ot, rfl⟩, ret⟩ := h
    refine ⟨_, (pss_one (ps_ret (pe_join pe_str (pe_callHas g_block_lines (hr.mono (by omega)) rfl (pa_cons (pv 0) pa_nil))))), ?_⟩
    obtain ⟨t, x, y, rfl⟩ := is_if U (ob.at' ha)
    have ot' := ot
    unfold okR at ot'
    obtain ⟨k', ek, o1, dt, la, lb, oa, ob'⟩ := ot'
    obtain rfl : k' = k := by omega
    refine ⟨⟨_, rfl⟩, _, rfl, a, t, x, y, rfl, ob, ot, fun H' l s' hl => ⟨"\n", l, ifTexts t x y, rfl, rfl, .inl (SqL.of hl), ?_, ?_⟩⟩
    · have ln := testS_len o1
      refine Nat.le_trans (ifTexts_sum (by omega) la lb (rowsS_len oa) (rowsS_len ob')) ?_
      have : ∀ j, j ≤ 3 → 2100 + 6 * (Rb j + 1) ≤ 16777216 := by decide
      exact this _ hk
    · have := ret H' s'
      rw [rowS_ife] at this
      exact this
end
end K14

set_option pp.maxSteps 600
namespace K14
open PySem L2 PySem.Spec PyProof.Rows
/-- what str and format ask of a class -/
structure StrCls (K : PySem.W.Frag) (C f : Addr) (fd : FuncData) : Prop where
  hs : PySem.W.findIn K (.ref C) "__str__" = some (some (.ref f))
  fn : PySem.W.isFn K (.ref f) = true
  fm : PySem.W.findIn K (.ref C) "__format__" = some (some (.builtin "object.__format__"))
  mro : PySem.W.mroIn K C (.type "object") = some true
  b : Binds K fd ["self"] []
section
variable {P : Program} {w : World} {K : PySem.W.Frag} {mg : Str → Option Value} {base : Heap} {p : Pkg}
theorem shows_tests {fW fO fB fM fT fN : Addr} {dW dO dB dM dT dN : FuncData} (U : Unlike p)
    (CW : ClsA K mg "Was" p.CW ["kind"]) (CO : ClsA K mg "OldBelow" p.CO ["number"]) (CB : ClsA K mg "NewBelow" p.CB ["number"]) (CN : ClsA K mg "Not" p.CN ["test"])
    (SW : StrCls K p.CW fW dW) (SO : StrCls K p.CO fO dO) (SB : StrCls K p.CB fB dB) (SM : StrCls K p.CM fM dM) (ST : StrCls K p.CT fT dT) (SN : StrCls K p.CN fN dN)
    (FW : Fun K "__str__" "Was.__str__" s_Was_str fW dW) (FO : Fun K "__str__" "OldBelow.__str__" s_OldBelow_str fO dO) (FB : Fun K "__str__" "NewBelow.__str__" s_NewBelow_str fB dB) (FM : Fun K "__str__" "Moved.__str__" s_Moved_str fM dM) (FT : Fun K "__str__" "Noted.__str__" s_Noted_str fT dT) (FN : Fun K "__str__" "Not.__str__" s_Not_str fN dN) :
    ∀ k : Nat, k ≤ 9 → Shows P w K mg base (3 + 3 * k) p.tests (TestSh p k) := by
  have fmt : ∀ C ∈ p.tests, PySem.W.findIn K (.ref C) "__format__" = some (some (.builtin "object.__format__")) ∧ PySem.W.mroIn K C (.type "object") = some true := fun C hC => by
    simp only [Pkg.tests, List.mem_cons, List.not_mem_nil, or_false] at hC
    rcases hC with rfl | rfl | rfl | rfl | rfl | rfl
    · exact ⟨SW.fm, SW.mro⟩
    · exact ⟨SO.fm, SO.mro⟩
    · exact ⟨SB.fm, SB.mro⟩
    · exact ⟨SM.fm, SM.mro⟩
    · exact ⟨ST.fm, ST.mro⟩
    · exact ⟨SN.fm, SN.mro⟩
  intro k
  induction k with
  | zero =>
    intro _
    refine ⟨fun C hC => ?_, fmt⟩
    simp only [Pkg.tests, List.mem_cons, List.not_mem_nil, or_false] at hC
    rcases hC with rfl | rfl | rfl | rfl | rfl | rfl
    · exact ⟨fW, dW, SW.hs, SW.fn, SW.b, (ok_wasS U CW FW).mono (by omega)⟩
    · exact ⟨fO, dO, SO.hs, SO.fn, SO.b, (ok_oldS U CO FO).mono (by omega)⟩
    · exact ⟨fB, dB, SB.hs, SB.fn, SB.b, (ok_newS U CB FB).mono (by omega)⟩
    · exact ⟨fM, dM, SM.hs, SM.fn, SM.b, (ok_movedS U FM).mono (by omega)⟩
    · exact ⟨fT, dT, ST.hs, ST.fn, ST.b, (ok_notedS U FT).mono (by omega)⟩
    · refine ⟨fN, dN, SN.hs, SN.fn, SN.b, FnOk.mono (j := 1) ?_ (by omega)⟩
      refine FN.ok sc_Not_str (fun vs H Q E h => ?_) (fun cdv A outer s H vs Q E hr h => ?_)
      · obtain ⟨a, dx, fs, z, rfl, _⟩ := h
        rfl
      · obtain ⟨a, dx, fs, z, rfl, ha, ⟨t, ob, ot, dt, rfl⟩, ret⟩ := h
        obtain ⟨t, rfl⟩ := is_not U (ob.at' ha)
        exact absurd dt (Nat.not_succ_le_zero _)
  | succ k ih =>
    intro hk
    refine ⟨fun C hC => ?_, fmt⟩
    simp only [Pkg.tests, List.mem_cons, List.not_mem_nil, or_false] at hC
    rcases hC with rfl | rfl | rfl | rfl | rfl | rfl
    · exact ⟨fW, dW, SW.hs, SW.fn, SW.b, (ok_wasS U CW FW).mono (by omega)⟩
    · exact ⟨fO, dO, SO.hs, SO.fn, SO.b, (ok_oldS U CO FO).mono (by omega)⟩
    · exact ⟨fB, dB, SB.hs, SB.fn, SB.b, (ok_newS U CB FB).mono (by omega)⟩
    · exact ⟨fM, dM, SM.hs, SM.fn, SM.b, (ok_movedS U FM).mono (by omega)⟩
    · exact ⟨fT, dT, ST.hs, ST.fn, ST.b, (ok_notedS U FT).mono (by omega)⟩
    · exact ⟨fN, dN, SN.hs, SN.fn, SN.b, (ok_notS U CN (ih (by omega)) (by omega) FN).mono (by omega)⟩
theorem shows_rows {fA fP fK fI : Addr} {dA dP dK dI : FuncData} (U : Unlike p) (T : Txt mg)
    (CA : ClsA K mg "Add" p.CA ["factor", "what", "total", "place"]) (CP : ClsA K mg "Put" p.CP ["note", "what"]) (CK : ClsA K mg "Mark" p.CK ["place"]) (CI : ClsA K mg "If" p.CI ["test", "rows", "others"])
    (SA : StrCls K p.CA fA dA) (SP : StrCls K p.CP fP dP) (SK : StrCls K p.CK fK dK) (SI : StrCls K p.CI fI dI)
    (FA : Fun K "__str__" "Add.__str__" s_Add_str fA dA) (FP : Fun K "__str__" "Put.__str__" s_Put_str fP dP) (FK : Fun K "__str__" "Mark.__str__" s_Mark_str fK dK) (FI : Fun K "__str__" "If.__str__" s_If_str fI dI)
    (ShT : Shows P w K mg base 9 p.tests (TestSh p 2)) (FBL : DefAt K mg "block_lines" s_block_lines ["block"]) :
    ∀ k : Nat, k ≤ 4 → Shows P w K mg base (9 + 6 * k) p.rows (RowSh K p k) := by
  have fmt : ∀ C ∈ p.rows, PySem.W.findIn K (.ref C) "__format__" = some (some (.builtin "object.__format__")) ∧ PySem.W.mroIn K C (.type "object") = some true := fun C hC => by
    simp only [Pkg.rows, List.mem_cons, List.not_mem_nil, or_false] at hC
    rcases hC with rfl | rfl | rfl | rfl
    · exact ⟨SA.fm, SA.mro⟩
    · exact ⟨SP.fm, SP.mro⟩
    · exact ⟨SK.fm, SK.mro⟩
    · exact ⟨SI.fm, SI.mro⟩
  intro k
  induction k with
  | zero =>
    intro _
    refine ⟨fun C hC => ?_, fmt⟩
    simp only [Pkg.rows, List.mem_cons, List.not_mem_nil, or_false] at hC
    rcases hC with rfl | rfl | rfl | rfl
    · exact ⟨fA, dA, SA.hs, SA.fn, SA.b, (ok_addS U CA FA).mono (by omega)⟩
    · exact ⟨fP, dP, SP.hs, SP.fn, SP.b, (ok_putS U CP FP).mono (by omega)⟩
    · exact ⟨fK, dK, SK.hs, SK.fn, SK.b, (ok_markS U CK FK).mono (by omega)⟩
    · refine ⟨fI, dI, SI.hs, SI.fn, SI.b, FnOk.mono (j := 1) ?_ (by omega)⟩
      refine FI.ok sc_If_str (fun vs H Q E h => ?_) (fun cdv A outer s H vs Q E hr h => ?_)
      · obtain ⟨a, dx, fs, z, rfl, _⟩ := h
        rfl
      · obtain ⟨a, dx, fs, z, rfl, ha, ⟨r, ob, ot, rfl⟩, ret⟩ := h
        obtain ⟨t, x, y, rfl⟩ := is_if U (ob.at' ha)
        unfold okR at ot
        obtain ⟨k', e, _⟩ := ot
        cases e
  | succ k ih =>
    intro hk
    refine ⟨fun C hC => ?_, fmt⟩
    simp only [Pkg.rows, List.mem_cons, List.not_mem_nil, or_false] at hC
    rcases hC with rfl | rfl | rfl | rfl
    · exact ⟨fA, dA, SA.hs, SA.fn, SA.b, (ok_addS U CA FA).mono (by omega)⟩
    · exact ⟨fP, dP, SP.hs, SP.fn, SP.b, (ok_putS U CP FP).mono (by omega)⟩
    · exact ⟨fK, dK, SK.hs, SK.fn, SK.b, (ok_markS U CK FK).mono (by omega)⟩
    · exact ⟨fI, dI, SI.hs, SI.fn, SI.b, (ok_ifS U (by omega) T (ok_block (by omega) T CI ShT (ih (by omega)) (by omega) FBL) FI).mono (by omega)⟩
end
end K14

namespace K14
open PySem L2 PySem.Spec PyProof.Rows
/-! ## tests and rows as data, to be compared -/
def testP : TestD → PyData
  | .was k => .tuple [.str "was", .str k]
  | .cut o n => .tuple [.str (belowS o), .int n]
  | .moved => .tuple [.str "moved"]
  | .noted => .tuple [.str "noted"]
  | .not t => .tuple [.str "not", testP t]
mutual
def rowP : RowD → PyData
  | .ife t a b => .tuple [.str "if", testP t, .tuple (rowsP a), .tuple (rowsP b)]
  | .add f w t p => .tuple [.str "add", .int f, .str w, .str t, .str p]
  | .put n w => .tuple [.str "put", .str n, .str w]
  | .mark p => .tuple [.str "mark", .str p]
def rowsP : List RowD → List PyData
  | [] => []
  | r :: rs => rowP r :: rowsP rs
end
section
variable {K : PySem.W.Frag} {H : Hp}
theorem TestAt.dp : ∀ {t : TestD} {v : V}, TestAt H v t → Dp K H v (testP t)
  | .was _, _, ⟨p, e, h⟩ => by subst e; exact .tup (SqT.of h) (.cons (.str _) (.cons (.str _) .nil))
  | .cut _ _, _, ⟨p, e, h⟩ => by subst e; exact .tup (SqT.of h) (.cons (.str _) (.cons (.int _) .nil))
  | .moved, _, ⟨p, e, h⟩ => by subst e; exact .tup (SqT.of h) (.cons (.str _) .nil)
  | .noted, _, ⟨p, e, h⟩ => by subst e; exact .tup (SqT.of h) (.cons (.str _) .nil)
  | .not t, _, ⟨p, u, e, h, r⟩ => by subst e; exact .tup (SqT.of h) (.cons (.str _) (.cons (TestAt.dp r) .nil))
mutual
theorem RowAt.dp : ∀ {r : RowD} {v : V}, RowAt H r v → Dp K H v (rowP r)
  | .ife t a b, v, h => by
    unfold RowAt at h; unfold rowP
    obtain ⟨p, u, x, y, xs, ys, rfl, h1, t, h2, r2, h3, r3⟩ := h
    exact .tup (SqT.of h1) (.cons (.str _) (.cons t.dp (.cons (.tup (SqT.of h2) (RowL.dp r2)) (.cons (.tup (SqT.of h3) (RowL.dp r3)) .nil))))
  | .add _ _ _ _, _, h => by
    unfold RowAt at h; unfold rowP; obtain ⟨p, rfl, h⟩ := h
    exact .tup (SqT.of h) (.cons (.str _) (.cons (.int _) (.cons (.str _) (.cons (.str _) (.cons (.str _) .nil)))))
  | .put _ _, _, h => by
    unfold RowAt at h; unfold rowP; obtain ⟨p, rfl, h⟩ := h
    exact .tup (SqT.of h) (.cons (.str _) (.cons (.str _) (.cons (.str _) .nil)))
  | .mark _, _, h => by
    unfold RowAt at h; unfold rowP; obtain ⟨p, rfl, h⟩ := h
    exact .tup (SqT.of h) (.cons (.str _) (.cons (.str _) .nil))
theorem RowL.dp : ∀ {rs : List RowD} {xs : List V}, RowL H rs xs → DpAll K H xs (rowsP rs)
  | [], _, h => by unfold RowL at h; unfold rowsP; subst h; exact .nil
  | _ :: _, _, h => by
    unfold RowL at h; unfold rowsP
    obtain ⟨v, vs, rfl, h1, h2⟩ := h
    exact .cons (RowAt.dp h1) (RowL.dp h2)
end
end
theorem strOk_kind {k : Str} (h : okKind k) : PyData.strOk k = true := by
  rcases h with rfl | h
  · decide +kernel
  · exact strOk_name h
theorem strOk_all {L : List Str} {s : Str} (h : s ∈ L) (c : L.all (fun s => PyData.strOk s) = true) : PyData.strOk s = true := List.all_eq_true.mp c s h
theorem strOk_what {B : BookD} {s : Str} (h : okWhat B s) (ok : BkOk B) : PyData.strOk s = true := by
  rcases h with h | h
  · exact strOk_all h (by decide +kernel)
  · exact strOk_name (ok.toks s (List.mem_append_right _ h))
theorem test_lay {B : BookD} (ok : BkOk B) : ∀ {t : TestD}, okTest B t → (testP t).canLay0 = true ∧ (testP t).depth ≤ tdep t + 1
  | .was k, h => by
    have := strOk_kind (okKind_of h ok)
    have w : PyData.strOk "was" = true := by decide +kernel
    exact ⟨by simp only [testP, PyData.canLay0, PyData.canLayAll0, this, w, Bool.and_self], by simp only [testP, PyData.depth, PyData.depthAll]; show max 0 (max 0 0) + 1 ≤ _; omega⟩
  | .cut o n, h => by
    have w : PyData.strOk (belowS o) = true := by cases o <;> decide +kernel
    exact ⟨by simp only [testP, PyData.canLay0, PyData.canLayAll0, w, Bool.and_self], by simp only [testP, PyData.depth, PyData.depthAll]; show max 0 (max 0 0) + 1 ≤ _; omega⟩
  | .moved, h => by decide +kernel
  | .noted, h => by decide +kernel
  | .not t, h => by
    obtain ⟨h1, h2⟩ := test_lay ok (t := t) h
    have w : PyData.strOk "not" = true := by decide +kernel
    exact ⟨by simp only [testP, PyData.canLay0, PyData.canLayAll0, h1, w, Bool.and_self], by simp only [testP, PyData.depth, PyData.depthAll]; show max 0 (max (testP t).depth 0) + 1 ≤ tdep t + 1 + 1; omega⟩
mutual
theorem row_lay {B : BookD} (ok : BkOk B) : ∀ {r : RowD} {k : Nat}, okRow B r k → (rowP r).canLay0 = true ∧ (rowP r).depth ≤ 2 * k + 4
  | .ife t a b, k, h => by
    unfold okRow at h
    obtain ⟨k', e, h1, h2, h3, h4, h5, h6⟩ := h
    obtain ⟨a1, a2⟩ := test_lay ok h1
    obtain ⟨b1, b2⟩ := rows_lay ok h5
    obtain ⟨c1, c2⟩ := rows_lay ok h6
    have w : PyData.strOk "if" = true := by decide +kernel
    refine ⟨by simp only [rowP, PyData.canLay0, PyData.canLayAll0, a1, b1, c1, w, Bool.and_self], ?_⟩
    simp only [rowP, PyData.depth, PyData.depthAll]
    show max 0 (max (testP t).depth (max (PyData.depthAll (rowsP a) + 1) (max (PyData.depthAll (rowsP b) + 1) 0))) + 1 ≤ _
    omega
  | .add f w t p, k, h => by
    unfold okRow at h
    have h1 := strOk_name (ok.toks t (List.mem_append_left _ h.2.2.2.1))
    have h2 := strOk_what h.2.2.1 ok
    have h3 := strOk_all h.2.2.2.2 (by decide +kernel)
    have w' : PyData.strOk "add" = true := by decide +kernel
    refine ⟨by simp only [rowP, PyData.canLay0, PyData.canLayAll0, h1, h2, h3, w', Bool.and_self], ?_⟩
    simp only [rowP, PyData.depth, PyData.depthAll]
    show max 0 (max 0 (max 0 (max 0 (max 0 0)))) + 1 ≤ _
    omega
  | .put n w, k, h => by
    unfold okRow at h
    have h1 := strOk_name (ok.toks n (List.mem_append_right _ h.1))
    have h2 := strOk_what h.2 ok
    have w' : PyData.strOk "put" = true := by decide +kernel
    refine ⟨by simp only [rowP, PyData.canLay0, PyData.canLayAll0, h1, h2, w', Bool.and_self], ?_⟩
    simp only [rowP, PyData.depth, PyData.depthAll]
    show max 0 (max 0 (max 0 0)) + 1 ≤ _
    omega
  | .mark p, k, h => by
    unfold okRow at h
    have h3 := strOk_all h (by decide +kernel)
    have w' : PyData.strOk "mark" = true := by decide +kernel
    refine ⟨by simp only [rowP, PyData.canLay0, PyData.canLayAll0, h3, w', Bool.and_self], ?_⟩
    simp only [rowP, PyData.depth, PyData.depthAll]
    show max 0 (max 0 0) + 1 ≤ _
    omega
theorem rows_lay {B : BookD} (ok : BkOk B) : ∀ {rs : List RowD} {k : Nat}, okRowL B rs k → PyData.canLayAll0 (rowsP rs) = true ∧ PyData.depthAll (rowsP rs) ≤ 2 * k + 4
  | [], k, _ => by unfold rowsP; exact ⟨rfl, Nat.zero_le _⟩
  | r :: rs, k, h => by
    unfold okRowL at h; unfold rowsP
    obtain ⟨a1, a2⟩ := row_lay ok h.1
    obtain ⟨b1, b2⟩ := rows_lay ok h.2
    refine ⟨by simp only [PyData.canLayAll0, a1, b1, Bool.and_self], ?_⟩
    simp only [PyData.depthAll]
    omega
end
theorem rows_shaped {B : BookD} (ok : BkOk B) {rs : List RowD} {k : Nat} (h : okRowL B rs k) (hk : k ≤ 20) : SeqAt.shaped (.tuple (rowsP rs)) = true := by
  obtain ⟨a, b⟩ := rows_lay ok h
  show (PyData.canLay0 (.tuple (rowsP rs)) && decide (PyData.depth (.tuple (rowsP rs)) ≤ 64)) = true
  rw [Bool.and_eq_true]
  exact ⟨by simp only [PyData.canLay0]; exact a, decide_eq_true (by simp only [PyData.depth]; omega)⟩
theorem rows_ne (rs : List RowD) : (!PyData.eqv (.tuple (rowsP rs)) (.tuple [])) = !rs.isEmpty := by
  cases rs with
  | nil => unfold rowsP; decide +kernel
  | cons r rs => unfold rowsP; simp [PyData.eqv, PyData.eqvAll]
end K14

set_option pp.maxSteps 600
namespace L2
open PySem PySem.Spec PyProof.Rows
/-- str(x) of a text or an int -/
theorem call_str_part {X : Cx} : CallR X (.type "str") (fun xs H Q => (∃ a, xs = [.str a] ∧ Q (.str a) H) ∨ (∃ i : Int, xs = [.int i] ∧ i.natAbs.log2 < 1920 ∧ Q (.str (toString i)) H)) := by
  intro pins s σ H xs us Q I r h
  rcases h with h | h
  · exact SkE.call_str_str pins s σ H xs us Q I r h
  · exact call_str_int pins s σ H xs us Q I r h
end L2
namespace K14
open PySem L2 PySem.Spec PyProof.Rows
def spTestText (k : Nat) : Sp := fun vs H Q _ => ∃ (v : V) (t : TestD) (B : BookD), vs = [v] ∧ TestAt H v t ∧ okTest B t ∧ BkOk B ∧ tdep t ≤ k ∧ ∀ H', Same H H' → Q (.str (testS t)) H'
def spTestTextK : Nat → Sp
  | 0 => fun _ _ _ _ => False
  | k + 1 => spTestText k
section
variable {P : Program} {w : World} {K : PySem.W.Frag} {mg : Str → Option Value} {base : Heap}
abbrev s_law_test_text : Stmt := top 48
abbrev n_law_test_text : List Str := ["_law_test_here"]
theorem sc_law_test_text : FnScope n_law_test_text ["_law_test_here"] (defScope s_law_test_text) := ⟨rfl, rfl, rfl, by decide +kernel, rfl, by decide +kernel, by decide +kernel⟩
theorem ok_testText {k n : Nat} (hn : 1 ≤ n) (hk : k ≤ 9) (T : Txt mg) (g_law_test_text : Has P w K mg base n "_law_test_text" ["_law_test_here"] (spTestTextK k)) (F : DefAt K mg "_law_test_text" s_law_test_text ["_law_test_here"]) : Has P w K mg base (n + 1) "_law_test_text" ["_law_test_here"] (spTestText k) := by
  refine F.has sc_law_test_text (fun vs H Q E h => ?_) (fun f cdv A outer s H vs Q E hr h => ?_)
  · obtain ⟨v, t, B, rfl, _⟩ := h
    rfl
  · obtain ⟨v, t, B, rfl, at', ok, bok, dk, ret⟩ := h
    refine ⟨_, (pss_cons (ps_if (pt_cmpR op_eq (pe_ix ix_tup (pv 0) pe_int (fun _ _ => rfl)) pe_str (nomark _)) (pss_one (ps_ret (pe_op op_add_str pe_str (pe_callHas g_law_test_text (hr.mono (by omega)) rfl (pa_cons (pe_ix ix_tup (pv 0) pe_int (fun _ _ => rfl)) pa_nil))))) pss_nil)
      (pss_cons (ps_if (pt_cmpR op_in_seq (pe_ix ix_tup (pv 0) pe_int (fun _ _ => rfl)) (pe_tup (pa_cons pe_str (pa_cons pe_str pa_nil))) (by rfl)) (pss_one (ps_ret (pe_op op_add_str (pe_op op_add_str (pe_ix ix_tup (pv 0) pe_int (fun _ _ => rfl)) pe_str) (pe_callTy call_str_int (by rfl) T.z_str (by decide +kernel) (pa_cons (pe_ix ix_tup (pv 0) pe_int (fun _ _ => rfl)) pa_nil))))) pss_nil)
      (pss_one (ps_ret (pe_join pe_str (pv 0)))))), ?_⟩
    have q1000 : (10000 : Nat) < sizeLine := by decide
    have ln := testS_len (okT_of bok ok)
    cases t with
    | not t =>
      obtain ⟨q, u, rfl, hq, rt⟩ := at'
      cases k with
      | zero => exact absurd dk (Nat.not_succ_le_zero _)
      | succ k =>
        refine seq_go ⟨_, rfl, q, _, _, _, rfl, rfl, SqT.of hq, rfl, rfl, _, rfl, iteSe (by decide +kernel) ?_⟩
        refine ret_go ?_
        refine ⟨_, rfl, q, _, _, _, rfl, rfl, SqT.of hq, rfl, ?_⟩
        refine ⟨u, t, B, rfl, rt, ok, bok, Nat.le_of_succ_le_succ dk, fun H1 s1 => ?_⟩
        have l2 := testS_len (okT_of bok (t := t) ok)
        have dk2 : tdep t + 1 ≤ k + 1 := dk
        refine ⟨_, _, rfl, rfl, ?_, ?_⟩
        · show 4 + (testS t).length ≤ sizeLine
          omega
        · have := ret H1 s1
          rw [testS_not] at this
          exact this
    | was kd =>
      obtain ⟨q, rfl, hq⟩ := at'
      refine seq_go ⟨_, rfl, q, _, _, _, rfl, rfl, SqT.of hq, rfl, rfl, _, rfl, iteSf (by decide +kernel) (next_go ?_)⟩
      refine seq_go ⟨_, rfl, q, _, _, _, rfl, rfl, SqT.of hq, rfl, tupc_go (xs := [.str "old", .str "new"]) (fun Q q => q) (by decide) fun H1 u s1 hu h1 => ⟨u, _, rfl, .inr (SqT.of h1), rfl, rfl, _, rfl, iteSf (by decide +kernel) (next_go ?_)⟩⟩
      try dsimp only
      refine ret_go ?_
      refine ⟨⟨_, rfl⟩, _, rfl, _, q, [("was" : Str), kd], rfl, rfl, .inr (SqT.of (s1 _ _ hq)), ?_, ?_⟩
      · have := okKind.len (okKind_of ok bok)
        show 3 + (kd.length + 0) + 2 * 1 ≤ _
        omega
      · exact ret H1 s1
    | moved =>
      obtain ⟨q, rfl, hq⟩ := at'
      refine seq_go ⟨_, rfl, q, _, _, _, rfl, rfl, SqT.of hq, rfl, rfl, _, rfl, iteSf (by decide +kernel) (next_go ?_)⟩
      refine seq_go ⟨_, rfl, q, _, _, _, rfl, rfl, SqT.of hq, rfl, tupc_go (xs := [.str "old", .str "new"]) (fun Q q => q) (by decide) fun H1 u s1 hu h1 => ⟨u, _, rfl, .inr (SqT.of h1), rfl, rfl, _, rfl, iteSf (by decide +kernel) (next_go ?_)⟩⟩
      try dsimp only
      refine ret_go ?_
      exact ⟨⟨_, rfl⟩, _, rfl, _, q, [("moved" : Str)], rfl, rfl, .inr (SqT.of (s1 _ _ hq)), by decide, ret H1 s1⟩
    | noted =>
      obtain ⟨q, rfl, hq⟩ := at'
      refine seq_go ⟨_, rfl, q, _, _, _, rfl, rfl, SqT.of hq, rfl, rfl, _, rfl, iteSf (by decide +kernel) (next_go ?_)⟩
      refine seq_go ⟨_, rfl, q, _, _, _, rfl, rfl, SqT.of hq, rfl, tupc_go (xs := [.str "old", .str "new"]) (fun Q q => q) (by decide) fun H1 u s1 hu h1 => ⟨u, _, rfl, .inr (SqT.of h1), rfl, rfl, _, rfl, iteSf (by decide +kernel) (next_go ?_)⟩⟩
      try dsimp only
      refine ret_go ?_
      exact ⟨⟨_, rfl⟩, _, rfl, _, q, [("noted" : Str)], rfl, rfl, .inr (SqT.of (s1 _ _ hq)), by decide, ret H1 s1⟩
    | cut o m =>
      obtain ⟨q, rfl, hq⟩ := at'
      have hb : (belowS o).length ≤ 3 := by cases o <;> decide
      have lm := iS_len (show m.natAbs.log2 < 1920 from okT_of bok ok)
      refine seq_go ⟨_, rfl, q, _, _, _, rfl, rfl, SqT.of hq, rfl, rfl, _, rfl, iteSf (by cases o <;> decide +kernel) (next_go ?_)⟩
      refine seq_go ⟨_, rfl, q, _, _, _, rfl, rfl, SqT.of hq, rfl, tupc_go (xs := [.str "old", .str "new"]) (fun Q q => q) (by decide) fun H1 u s1 hu h1 => ⟨u, _, rfl, .inr (SqT.of h1), by cases o <;> rfl, rfl, _, rfl, iteSe (by cases o <;> decide +kernel) ?_⟩⟩
      refine ret_go ⟨_, rfl, q, _, _, _, rfl, rfl, SqT.of (s1 _ _ hq), rfl, _, _, rfl, rfl, ?_, ?_⟩
      · show (belowS o).length + 7 ≤ sizeLine
        omega
      refine ⟨_, rfl, q, _, _, _, rfl, rfl, SqT.of (s1 _ _ hq), rfl, m, rfl, okT_of bok ok, _, _, rfl, rfl, ?_, ?_⟩
      · rw [slen_app]
        show (belowS o).length + 7 + (iS m).length ≤ sizeLine
        omega
      · have := ret H1 s1
        rw [testS_cut] at this
        exact this
theorem ok_testTextAll (T : Txt mg) (F : DefAt K mg "_law_test_text" s_law_test_text ["_law_test_here"]) : ∀ k : Nat, k ≤ 9 → Has P w K mg base (3 + k) "_law_test_text" ["_law_test_here"] (spTestText k)
  | 0, _ => by
    have g0 : Has P w K mg base 2 "_law_test_text" ["_law_test_here"] (spTestTextK 0) := F.has sc_law_test_text (fun vs H Q E h => h.elim) (fun f cdv A outer s H vs Q E hr h => h.elim)
    exact ok_testText (by omega) (by omega) T g0 F
  | k + 1, h => ok_testText (n := 3 + k) (by omega) h T (ok_testTextAll T F k (by omega)) F
end
/-! the lines of rows -/
def NL : Nat → Nat
  | 0 => 1
  | k + 1 => 8 + 6 * NL k
mutual
theorem rowLines_len : ∀ {r : RowD} {k : Nat}, okR r k → (rowLines r).length ≤ NL k + 1
  | .ife t a b, k, h => by
    unfold okR at h; unfold rowLines
    obtain ⟨k', rfl, _, _, h3, h4, h5, h6⟩ := h
    have a1 := rowsLines_len h5
    have b1 := rowsLines_len h6
    have m1 : a.length * (NL k' + 1) ≤ 3 * (NL k' + 1) := Nat.mul_le_mul_right _ h3
    have m2 : b.length * (NL k' + 1) ≤ 3 * (NL k' + 1) := Nat.mul_le_mul_right _ h4
    have e : NL (k' + 1) = 8 + 6 * NL k' := rfl
    rw [e]
    cases b with
    | nil =>
      simp only [List.isEmpty_nil, if_true, List.nil_append, List.length_cons, List.length_append, List.length_nil]
      omega
    | cons r b =>
      generalize (r :: b) = bb at b1 m2 ⊢
      have : (if bb.isEmpty = true then ([] : List Str) else ("else" : Str) :: rowsLines bb).length ≤ 1 + (rowsLines bb).length := by
        cases bb.isEmpty
        · rw [if_neg (by decide)]; show (rowsLines bb).length + 1 ≤ _; omega
        · exact Nat.zero_le _
      simp only [List.length_cons, List.length_append, List.length_nil]
      omega
  | .add f w t p, k, h => by unfold rowLines; show 1 ≤ _; omega
  | .put n w, k, h => by unfold rowLines; show 1 ≤ _; omega
  | .mark p, k, h => by unfold rowLines; show 1 ≤ _; omega
theorem rowsLines_len : ∀ {rs : List RowD} {k : Nat}, okRL rs k → (rowsLines rs).length ≤ rs.length * (NL k + 1)
  | [], k, _ => by unfold rowsLines; exact Nat.zero_le _
  | r :: rs, k, h => by
    unfold okRL at h; unfold rowsLines
    have h1 := rowLines_len h.1
    have h2 := rowsLines_len h.2
    rw [List.length_append, List.length_cons, Nat.add_mul]
    omega
end
theorem rowsLines_app (a b : List RowD) : rowsLines (a ++ b) = rowsLines a ++ rowsLines b := by
  rw [rowsLines_eq, rowsLines_eq, rowsLines_eq, List.map_append, List.flatten_append]
theorem rowsLines_one (r : RowD) : rowsLines [r] = rowLines r := by
  rw [rowsLines_eq]
  simp
/-- a for over a list or tuple that stays -/
theorem for_sq {K : PySem.W.Frag} {j : Nat} {a : Addr} {xs : List V} {g : TG} {tb : TS} {D : Ends} {σ : L2.St} {H0 H : Hp} (e : σ[j]? = some (some (.ref a))) (h : Sq K H0 a xs) (Pv : Nat → L2.St → Hp → Prop) (h0 : Pv 0 σ H) (hG : ∀ i σ' H', Pv i σ' H' → Same H0 H')
    (hs : ∀ i x σ' H', i < xs.length → Pv i σ' H' → xs[i]? = some x → g x σ' H' fun σ2 H2 => tb { D with nx := Pv (i + 1), ct := Pv (i + 1), bk := D.nx } σ2 H2) (hd : ∀ σ' H', Pv xs.length σ' H' → D.nx σ' H') : tFor (iSeq K (tVar j)) g tb D σ H := by
  rcases h with h | h
  · exact .inl ⟨_, e, a, rfl, ⟨_, SqL.of (hG _ _ _ h0 _ _ h)⟩, for_it (walk_list (xs := xs)) Pv h0 (fun i σ' H' _ z => SqL.of (hG i _ _ z _ _ h)) (fun i x σ' H' H'' hi z y => by obtain ⟨rfl, y⟩ := y; exact hs i x σ' _ hi z y) hd⟩
  · exact .inr ⟨_, e, a, rfl, ⟨_, (h.kp (ObKp.of (hG _ _ _ h0))).sq⟩, for_it (walk_tup (xs := xs)) Pv h0 (fun i σ' H' _ z => (h.kp (ObKp.of (hG i _ _ z))).sq) (fun i x σ' H' H'' hi z y => by obtain ⟨rfl, y⟩ := y; exact hs i x σ' _ hi z y) hd⟩
def Part (v : V) (s : Str) : Prop := v = .str s ∨ ∃ i : Int, v = .int i ∧ numOk i ∧ s = iS i
/-- [str(part) for part in row] -/
theorem parts_go {K : PySem.W.Frag} {p : Addr} {x0 x1 x3 : Option V} {xs : List V} {ss : List Str} {H : Hp} {Q : VK} (hp : H p = some (.tup xs)) (pr : Paired Part xs ss) (l : xs.length ≤ 100) (q : ∀ H' D, Same H H' → H' D = some (.lst (ss.map V.str)) → Q (.ref D) H') :
    tLc (iTup K (tVar 2)) (gName 3) tYes (tCB (fun xs H Q => (∃ a, xs = [.str a] ∧ Q (.str a) H) ∨ (∃ i : Int, xs = [.int i] ∧ i.natAbs.log2 < 1920 ∧ Q (.str (toString i)) H)) (tCons (tVar 3) tNil)) [3] [x0, x1, some (.ref p), x3] H Q := by
  have q1000 : (1000 : Nat) < sizeLine := by decide
  have lx := pr.len
  refine ⟨_, rfl, p, rfl, ⟨_, SqT.of hp⟩, fun D hD => lc_it (walk_tup (xs := xs)) (fun i H' => Same H H' ∧ H' D = some (.lst ((ss.take i).map V.str))) ⟨(new_at hD).1, upd_same⟩ (fun i H' _ z => SqT.of (z.1 _ _ hp)) ?_ ?_⟩
  · rintro i y H1' H1 hi ⟨s1, hD1⟩ ⟨rfl, ey⟩
    obtain ⟨s, es, ps⟩ := pr.at' ey
    have hir := (List.getElem?_eq_some_iff.mp es).1
    have e1 : ss.take (i + 1) = ss.take i ++ [s] := by
      rw [← List.take_append_getElem hir]
      rw [List.getElem?_eq_getElem hir] at es
      rw [Option.some.inj es]
    have go : ∃ acc, H1 D = some (.lst acc) ∧ acc.length < sizeLine ∧ Same H (upd H1 D (.lst (acc ++ [V.str s]))) ∧ upd H1 D (.lst (acc ++ [V.str s])) D = some (.lst ((ss.take (i + 1)).map V.str)) := by
      refine ⟨_, hD1, by rw [List.length_map, List.length_take]; omega, fun c o e => (upd_ne (ne_of_none e hD)).trans (s1 _ _ e), ?_⟩
      rw [e1, List.map_append]
      exact upd_same
    refine name_go ⟨rfl, ?_⟩
    unfold tYes
    refine iteSe rfl ?_
    rcases ps with rfl | ⟨m, rfl, om, rfl⟩
    · exact ⟨_, rfl, .inl ⟨s, rfl, go⟩⟩
    · exact ⟨_, rfl, .inr ⟨m, rfl, om, go⟩⟩
  · rintro H1 ⟨s1, hD1⟩
    rw [lx, List.take_length] at hD1
    exact q H1 D s1 hD1
theorem _root_.K14.okRowL.take {B : BookD} {k : Nat} : ∀ {rs : List RowD} (i : Nat), okRowL B rs k → okRowL B (rs.take i) k
  | [], i, _ => by rw [List.take_nil]; unfold okRowL; trivial
  | r :: rs, 0, _ => by rw [List.take_zero]; unfold okRowL; trivial
  | r :: rs, i + 1, h => by
    unfold okRowL at h
    rw [List.take_succ_cons]
    unfold okRowL
    exact ⟨h.1, okRowL.take i h.2⟩
def spRowLines (K : PySem.W.Frag) (k : Nat) : Sp := fun vs H Q _ => ∃ (a : Addr) (xs : List V) (rs : List RowD) (B : BookD), vs = [.ref a] ∧ Sq K H a xs ∧ RowL H rs xs ∧ okRowL B rs k ∧ BkOk B ∧ rs.length ≤ 20 ∧ ∀ H' l, Same H H' → H l = none → H' l = some (.lst ((rowsLines rs).map V.str)) → Q (.ref l) H'
def spRowLinesK (K : PySem.W.Frag) : Nat → Sp
  | 0 => fun _ _ _ _ => False
  | k + 1 => spRowLines K k
section
variable {P : Program} {w : World} {K : PySem.W.Frag} {mg : Str → Option Value} {base : Heap}
abbrev s_law_row_lines : Stmt := top 49
abbrev n_law_row_lines : List Str := ["_law_rows_here", "_law_found", "_law_row_here", "_law_part"]
theorem sc_law_row_lines : FnScope n_law_row_lines ["_law_rows_here"] (defScope s_law_row_lines) := ⟨rfl, rfl, rfl, by decide +kernel, rfl, by decide +kernel, by decide +kernel⟩
theorem ok_rowLines {k n : Nat} (hn : 5 ≤ n) (hk : k ≤ 3) (T : Txt mg) (g_law_test_text : Has P w K mg base 5 "_law_test_text" ["_law_test_here"] (spTestText 2)) (g_law_row_lines : Has P w K mg base n "_law_row_lines" ["_law_rows_here"] (spRowLinesK K k)) (F : DefAt K mg "_law_row_lines" s_law_row_lines ["_law_rows_here"]) : Has P w K mg base (n + 1) "_law_row_lines" ["_law_rows_here"] (spRowLines K k) := by
  refine F.has sc_law_row_lines (fun vs H Q E h => ?_) (fun f cdv A outer s H vs Q E hr h => ?_)
  · obtain ⟨a, xs, rs, B, rfl, _⟩ := h
    rfl
  · have hu := hr.units
    obtain ⟨a, xs, rs, B, rfl, sq, rl, ok, bok, l, ret⟩ := h
    refine ⟨_, (pss_cons (ps_set (i := 1) sc_law_row_lines.nd rfl (Or.inl rfl) (pe_lst pa_nil))
      (pss_cons (ps_for PassesOwn.never rfl (pi_seq (pv 0)) (pg_name (i := 2) sc_law_row_lines.nd rfl (Or.inl rfl)) (pss_one (ps_if (pt_cmpR op_eq (pe_ix ix_tup (pv 2) pe_int (fun _ _ => rfl)) pe_str (nomark _)) (pss_cons (ps_expr (pe_bm PySem.F.plainAttrs_list PySem.F.slot_list_append PySem.F.type_list_append mt_append (pv 1) (pa_cons (pe_op op_add_str pe_str (pe_callHas g_law_test_text (hr.mono (by omega)) rfl (pa_cons (pe_ix ix_tup (pv 2) pe_int (fun _ _ => rfl)) pa_nil))) pa_nil)))
      (pss_cons (ps_expr (pe_bm PySem.F.plainAttrs_list PySem.F.slot_list_extend PySem.F.type_list_extend mt_extend (pv 1) (pa_cons (pe_callHas g_law_row_lines (hr.mono (by omega)) rfl (pa_cons (pe_ix ix_tup (pv 2) pe_int (fun _ _ => rfl)) pa_nil)) pa_nil)))
      (pss_cons (ps_if (pt_cmpR (op_neD hu) (pe_ix ix_tup (pv 2) pe_int (fun _ _ => rfl)) (pe_tup pa_nil) (nomark _)) (pss_one (ps_expr (pe_bm PySem.F.plainAttrs_list PySem.F.slot_list_extend PySem.F.type_list_extend mt_extend (pv 1) (pa_cons (pe_op op_cat (pe_lst (pa_cons pe_str pa_nil)) (pe_callHas g_law_row_lines (hr.mono (by omega)) rfl (pa_cons (pe_ix ix_tup (pv 2) pe_int (fun _ _ => rfl)) pa_nil))) pa_nil)))) pss_nil)
      (pss_one (ps_expr (pe_bm PySem.F.plainAttrs_list PySem.F.slot_list_append PySem.F.type_list_append mt_append (pv 1) (pa_cons pe_str pa_nil))))))) (pss_one (ps_expr (pe_bm PySem.F.plainAttrs_list PySem.F.slot_list_append PySem.F.type_list_append mt_append (pv 1) (pa_cons (pe_join pe_str (pe_lc (own := [("_law_part", 3)]) (g := gName 3) (by rfl) sc_law_row_lines.nd (pi_tup (pv 2)) (blkOk_by (own := [("_law_part", 3)]) (N := n_law_row_lines) (sc := defScope s_law_row_lines) (by decide +kernel)) (fun _ _ _ _ _ => (pg_name (i := 3) sc_law_row_lines.nd rfl (Or.inl rfl))) (fun _ _ _ _ _ => pts_nil) (fun _ _ _ _ _ => (pe_callTy call_str_part (by rfl) T.z_str (by decide +kernel) (pa_cons (pv 3) pa_nil))))) pa_nil)))))))
      (pss_one (ps_ret (pv 1))))), ?_⟩
    have q1000 : (100000 : Nat) < sizeLine := by decide
    have lx := rl.len
    refine seq_asg (lst_go (xs := []) (fun Q q => q) (by decide) fun H1 q s1 hq h1 => name_go ?_)
    try dsimp only
    refine seq_go ?_
    have grow : ∀ {H' : Hp} {o : HO}, Same H H' → Same H (upd H' q o) := fun s c o e => (upd_ne (ne_of_none e hq)).trans (s c o e)
    have lall : ∀ i, (rowsLines (rs.take i)).length ≤ 20 * (NL k + 1) := fun i => by
      refine Nat.le_trans (rowsLines_len (okRL_of bok (ok.take i))) (Nat.mul_le_mul_right _ ?_)
      rw [List.length_take]
      omega
    have nl3 : NL k ≤ 560 := by
      have : ∀ j, j ≤ 3 → NL j ≤ 560 := by decide
      exact this k hk
    refine for_sq (xs := xs) (H0 := H) rfl sq (fun i σ H' => Same H H' ∧ (∃ x2, σ = [some (.ref a), some (.ref q), x2, none]) ∧ H' q = some (.lst ((rowsLines (rs.take i)).map V.str))) ⟨s1, ⟨_, rfl⟩, by rw [List.take_zero]; unfold rowsLines; exact h1⟩ (fun i σ' H' z => z.1) ?_ ?_
    · rintro i y σ H2 hi ⟨s2, ⟨x2, rfl⟩, q2⟩ ey
      obtain ⟨r, er, ra⟩ := rl.at' ey
      have okr := ok.get er
      have ra := ra.kp (TupKp.of s2)
      have e1 : rs.take (i + 1) = rs.take i ++ [r] := by
        have hir := (List.getElem?_eq_some_iff.mp er).1
        rw [← List.take_append_getElem hir]
        rw [List.getElem?_eq_getElem hir] at er
        rw [Option.some.inj er]
      have lr := lall i
      have lr2 := lall (i + 1)
      rw [e1, rowsLines_app, rowsLines_one] at lr2 ⊢
      rw [List.length_append] at lr2
      generalize rowsLines (rs.take i) = L at *
      refine name_go ?_
      try dsimp only
      cases r with
      | ife t x z =>
        unfold RowAt at ra
        obtain ⟨p, u, xa, za, xv, zv, rfl, hp, tA, hx, rlx, hz, rlz⟩ := ra
        unfold okRow at okr
        obtain ⟨k', rfl, ot, dt, lx3, lz3, okx, okz⟩ := okr
        have lt := testS_len (okT_of bok ot)
        refine ⟨_, rfl, p, _, _, _, rfl, rfl, SqT.of hp, rfl, rfl, _, rfl, iteSe (by decide +kernel) ?_⟩
        refine seq_go ⟨_, rfl, .inl ⟨rfl, _, SqL.of q2⟩, ?_⟩
        refine cons_go (op_go (c_go ?_))
        refine ⟨_, rfl, p, _, _, _, rfl, rfl, SqT.of hp, rfl, ?_⟩
        refine ⟨u, t, B, rfl, tA, ot, bok, dt, fun H3 s3 => ?_⟩
        refine ⟨"if ", testS t, rfl, rfl, by show 3 + (testS t).length ≤ sizeLine; omega, ?_⟩
        refine ⟨q, _, _, rfl, rfl, s3 _ _ q2, by rw [List.length_map]; omega, ?_⟩
        have q3 : upd H3 q (.lst (L.map V.str ++ [V.str ("if " ++ testS t)])) q = some (.lst ((L ++ ["if " ++ testS t]).map V.str)) := by rw [List.map_append]; exact upd_same
        have s3 : Same H2 H3 := s3
        have s4 : Same H (upd H3 q (.lst (L.map V.str ++ [V.str ("if " ++ testS t)]))) := grow (s2.trans s3)
        have hp' := s3 _ _ hp
        have ts4 : TupKp H2 (upd H3 q (.lst (L.map V.str ++ [V.str ("if " ++ testS t)]))) := (TupKp.of s3).trans (TupKp.upd' (s3 _ _ q2) fun xs z => nomatch z)
        generalize upd H3 q (.lst (L.map V.str ++ [V.str ("if " ++ testS t)])) = H4 at *
        try dsimp only
        refine seq_go ⟨_, rfl, .inl ⟨rfl, _, SqL.of q3⟩, ?_⟩
        refine cons_go ?_
        refine ⟨_, rfl, p, _, _, _, rfl, rfl, SqT.of (ts4 _ _ hp), rfl, ?_⟩
        refine ⟨xa, xv, x, B, rfl, .inr (.inl (ts4 _ _ hx)), rlx.kp ts4, okx, bok, by omega, fun H5 l5 s5 hn5 h5 => ?_⟩
        have s5 : Same H4 H5 := s5
        refine ⟨q, l5, _, _, rfl, rfl, s5 _ _ q3, h5, by rw [List.length_map, List.length_map, List.length_append]; show L.length + 1 + _ ≤ _; have := rowsLines_len (okRL_of bok okx); have : x.length * (NL k' + 1) ≤ 3 * (NL k' + 1) := Nat.mul_le_mul_right _ lx3; have : NL (k' + 1) = 8 + 6 * NL k' := rfl; omega, ?_⟩
        have q6 : upd H5 q (.lst ((L ++ ["if " ++ testS t]).map V.str ++ (rowsLines x).map V.str)) q = some (.lst ((L ++ ["if " ++ testS t] ++ rowsLines x).map V.str)) := by rw [List.map_append (l₁ := L ++ _)]; exact upd_same
        have s6 : Same H (upd H5 q (.lst ((L ++ ["if " ++ testS t]).map V.str ++ (rowsLines x).map V.str))) := grow (s4.trans s5)
        have ts6 : TupKp H2 (upd H5 q (.lst ((L ++ ["if " ++ testS t]).map V.str ++ (rowsLines x).map V.str))) := (ts4.trans (TupKp.of s5)).trans (TupKp.upd' (s5 _ _ q3) fun xs z => nomatch z)
        generalize upd H5 q (.lst ((L ++ ["if " ++ testS t]).map V.str ++ (rowsLines x).map V.str)) = H6 at *
        try dsimp only
        have rlz6 := rlz.kp ts6
        refine seq_go ?_
        try dsimp only
        refine ⟨_, rfl, p, _, _, _, rfl, rfl, SqT.of (ts6 _ _ hp), rfl, tupc_go (xs := []) (fun Q q => q) (by decide) fun H7 e s7 he h7 => ⟨.tuple (rowsP z), .tuple [], .tup (SqT.of (s7 _ _ (ts6 _ _ hz))) (rlz6.kp (TupKp.of s7)).dp, .tup (SqT.of h7) .nil, rows_shaped bok okz (by omega), by decide +kernel, _, rfl, ?_⟩⟩
        rw [rows_ne]
        cases z with
        | nil =>
          refine iteSf rfl (next_go ?_)
          try dsimp only
          have q7 := s7 _ _ q6
          have sH7 : Same H H7 := s6.trans s7
          have eL : rowLines (.ife t x []) = ["if " ++ testS t] ++ rowsLines x ++ [("end" : Str)] := by
            unfold rowLines
            rw [ifLine]
            simp
          rw [eL, List.length_append, List.length_append] at lr2
          refine ⟨_, rfl, .inl ⟨rfl, _, SqL.of q7⟩, q, _, _, rfl, rfl, q7, ?_, grow sH7, ⟨_, rfl⟩, ?_⟩
          · rw [List.length_map, List.length_append, List.length_append]
            have : [("end" : Str)].length = 1 := rfl
            omega
          · rw [upd_same, eL, ← List.append_assoc, ← List.append_assoc, List.map_append (l₁ := L ++ _ ++ _)]
            rfl
        | cons z0 z1 =>
          refine iteSe rfl ?_
          have q7 := s7 _ _ q6
          have sH7 : Same H H7 := s6.trans s7
          have ts7 := ts6.trans (TupKp.of s7)
          have eL : rowLines (.ife t x (z0 :: z1)) = ["if " ++ testS t] ++ rowsLines x ++ ((("else" : Str) :: rowsLines (z0 :: z1)) ++ [("end" : Str)]) := by
            rw [rowLines, ifLine]
            rfl
          have el : (rowLines (.ife t x (z0 :: z1))).length = 1 + (rowsLines x).length + (1 + (rowsLines (z0 :: z1)).length + 1) := by
            rw [eL]
            simp only [List.length_append, List.length_cons, List.length_nil]
            omega
          rw [el] at lr2
          refine ⟨_, rfl, .inl ⟨rfl, _, SqL.of q7⟩, ?_⟩
          refine cons_go (op_go (lst_go (xs := [.str "else"]) (fun Q q => q) (by decide) fun H8 e8 s8 he8 h8 => ?_))
          refine ⟨_, rfl, p, _, _, _, rfl, rfl, SqT.of (s8 _ _ (ts7 _ _ hp)), rfl, ?_⟩
          refine ⟨za, zv, z0 :: z1, B, rfl, .inr (.inl (s8 _ _ (ts7 _ _ hz))), (rlz.kp ts7).kp (TupKp.of s8), okz, bok, by omega, fun H9 l9 s9 hn9 h9 => ?_⟩
          have s9 : Same H8 H9 := s9
          have o1 : [("end" : Str)].length = 1 := rfl
          refine ⟨e8, l9, _, _, rfl, rfl, s9 _ _ h8, h9, by rw [List.length_map]; show 1 + _ ≤ _; omega, fun pp hpp => nil_go ?_⟩
          obtain ⟨s10, h10⟩ := new_at (o := .lst ([V.str "else"] ++ (rowsLines (z0 :: z1)).map V.str)) hpp
          have s710 := (s8.trans s9).trans s10
          have q10 := s710 _ _ q7
          have sH10 : Same H _ := sH7.trans s710
          generalize upd H9 pp (.lst ([V.str "else"] ++ (rowsLines (z0 :: z1)).map V.str)) = H10 at *
          refine ⟨q, pp, _, _, rfl, rfl, q10, h10, ?_, ?_⟩
          · simp only [List.length_map, List.length_append, List.length_cons, List.length_nil]
            omega
          try dsimp only
          refine ⟨_, rfl, .inl ⟨rfl, _, SqL.of upd_same⟩, q, _, _, rfl, rfl, upd_same, ?_, grow (grow sH10), ⟨_, rfl⟩, ?_⟩
          · simp only [List.length_map, List.length_append, List.length_cons, List.length_nil]
            omega
          · rw [upd_same, eL]
            simp only [List.map_append, List.map_cons, List.map_nil, List.append_assoc, List.cons_append, List.nil_append]
      | add fc wh tt pl =>
        unfold RowAt at ra
        obtain ⟨p, rfl, hp⟩ := ra
        unfold okRow at okr
        have l1 := okWhat_len okr.2.2.1 bok
        have l2 := nameB_len (bok.toks tt (List.mem_append_left _ okr.2.2.2.1))
        have l3 : pl.length ≤ 6 := mem_len okr.2.2.2.2 (by decide +kernel)
        have on : numOk fc := numOk_of ⟨by omega, by omega⟩
        have l4 := iS_len on
        refine ⟨_, rfl, p, _, _, _, rfl, rfl, SqT.of hp, rfl, rfl, _, rfl, iteSf (by decide +kernel) ?_⟩
        refine ⟨_, rfl, .inl ⟨rfl, _, SqL.of q2⟩, ?_⟩
        refine cons_go ⟨⟨_, rfl⟩, parts_go (ss := ["add", iS fc, wh, tt, pl]) hp (.cons (.inl rfl) (.cons (.inr ⟨fc, rfl, on, rfl⟩) (.cons (.inl rfl) (.cons (.inl rfl) (.cons (.inl rfl) .nil))))) (show 5 ≤ 100 by decide) fun H3 D s3 hD => ?_⟩
        refine ⟨_, D, _, rfl, rfl, .inl (SqL.of hD), ?_, ?_⟩
        · show 3 + ((iS fc).length + (wh.length + (tt.length + (pl.length + 0)))) + 5 * 1 ≤ _
          omega
        have s3 : Same H2 H3 := s3
        refine ⟨q, _, _, rfl, rfl, s3 _ _ q2, by rw [List.length_map]; omega, grow (s2.trans s3), ⟨_, rfl⟩, ?_⟩
        rw [upd_same, rowLines, List.map_append]
        rfl
      | put nt wh =>
        unfold RowAt at ra
        obtain ⟨p, rfl, hp⟩ := ra
        unfold okRow at okr
        have l1 := okWhat_len okr.2 bok
        have l2 := nameB_len (bok.toks nt (List.mem_append_right _ okr.1))
        refine ⟨_, rfl, p, _, _, _, rfl, rfl, SqT.of hp, rfl, rfl, _, rfl, iteSf (by decide +kernel) ?_⟩
        refine ⟨_, rfl, .inl ⟨rfl, _, SqL.of q2⟩, ?_⟩
        refine cons_go ⟨⟨_, rfl⟩, parts_go (ss := ["put", nt, wh]) hp (.cons (.inl rfl) (.cons (.inl rfl) (.cons (.inl rfl) .nil))) (show 3 ≤ 100 by decide) fun H3 D s3 hD => ?_⟩
        refine ⟨_, D, _, rfl, rfl, .inl (SqL.of hD), ?_, ?_⟩
        · show 3 + (nt.length + (wh.length + 0)) + 3 * 1 ≤ _
          omega
        have s3 : Same H2 H3 := s3
        refine ⟨q, _, _, rfl, rfl, s3 _ _ q2, by rw [List.length_map]; omega, grow (s2.trans s3), ⟨_, rfl⟩, ?_⟩
        rw [upd_same, rowLines, List.map_append]
        rfl
      | mark pl =>
        unfold RowAt at ra
        obtain ⟨p, rfl, hp⟩ := ra
        unfold okRow at okr
        have l3 : pl.length ≤ 6 := mem_len okr (by decide +kernel)
        refine ⟨_, rfl, p, _, _, _, rfl, rfl, SqT.of hp, rfl, rfl, _, rfl, iteSf (by decide +kernel) ?_⟩
        refine ⟨_, rfl, .inl ⟨rfl, _, SqL.of q2⟩, ?_⟩
        refine cons_go ⟨⟨_, rfl⟩, parts_go (ss := ["mark", pl]) hp (.cons (.inl rfl) (.cons (.inl rfl) .nil)) (show 2 ≤ 100 by decide) fun H3 D s3 hD => ?_⟩
        refine ⟨_, D, _, rfl, rfl, .inl (SqL.of hD), ?_, ?_⟩
        · show 4 + (pl.length + 0) + 2 * 1 ≤ _
          omega
        have s3 : Same H2 H3 := s3
        refine ⟨q, _, _, rfl, rfl, s3 _ _ q2, by rw [List.length_map]; omega, grow (s2.trans s3), ⟨_, rfl⟩, ?_⟩
        rw [upd_same, rowLines, List.map_append]
        rfl
    · rintro σ H2 ⟨s2, ⟨x2, rfl⟩, q2⟩
      rw [lx, List.take_length] at q2
      try dsimp only
      refine ret_go ?_
      exact ⟨_, rfl, ret H2 q s2 hq q2⟩
theorem ok_rowLinesAll (T : Txt mg) (g_law_test_text : Has P w K mg base 5 "_law_test_text" ["_law_test_here"] (spTestText 2)) (F : DefAt K mg "_law_row_lines" s_law_row_lines ["_law_rows_here"]) : ∀ k : Nat, k ≤ 3 → Has P w K mg base (6 + k) "_law_row_lines" ["_law_rows_here"] (spRowLines K k)
  | 0, _ => by
    have g0 : Has P w K mg base 5 "_law_row_lines" ["_law_rows_here"] (spRowLinesK K 0) := F.has sc_law_row_lines (fun vs H Q E h => h.elim) (fun f cdv A outer s H vs Q E hr h => h.elim)
    exact ok_rowLines (by omega) (by omega) T g_law_test_text g0 F
  | k + 1, h => ok_rowLines (n := 6 + k) (by omega) h T g_law_test_text (ok_rowLinesAll T g_law_test_text F k (by omega)) F
end
end K14

/-! set(xs), xs a list or tuple of some texts, and how many unlike ones there are -/
namespace SX
open PySem PySem.Spec PyProof.Rows
/-- c of the first i texts are unlike -/
structure Cnt (xs : List Str) (i c : Nat) : Prop where
  le : c ≤ i
  iff : c = i ↔ (xs.take i).Nodup
theorem Cnt.zero (xs : List Str) : Cnt xs 0 0 := ⟨Nat.le_refl _, by simp⟩
theorem Cnt.next {xs : List Str} {i c : Nat} {x : Str} (h : Cnt xs i c) (e : xs[i]? = some x) : Cnt xs (i + 1) (if decide (x ∈ xs.take i) = true then c else c + 1) := by
  have t : xs.take (i + 1) = xs.take i ++ [x] := by rw [List.take_add_one, e]; rfl
  have l := h.le
  by_cases m : x ∈ xs.take i
  · rw [if_pos (decide_eq_true m)]
    refine ⟨by omega, ⟨fun z => by omega, fun z => ?_⟩⟩
    rw [t, List.nodup_append] at z
    exact absurd rfl (z.2.2 x m x (List.mem_singleton.mpr rfl))
  · rw [if_neg (by rw [decide_eq_false m]; decide)]
    refine ⟨by omega, ?_⟩
    rw [t, List.nodup_append]
    refine ⟨fun z => ⟨h.iff.mp (by omega), by simp, fun a ha b hb => ?_⟩, fun z => by have := h.iff.mpr z.1; omega⟩
    rw [List.mem_singleton.mp hb]
    exact fun e => m (e ▸ ha)
/-- the texts of the first i -/
def upTo (xs : List Str) (i : Nat) : Str → Bool := fun k => decide (k ∈ xs.take i)
theorem upTo_next {xs : List Str} {i : Nat} {x : Str} (e : xs[i]? = some x) (k : Str) : (upTo xs i k || decide (k = x)) = upTo xs (i + 1) k := by
  unfold upTo
  rw [List.take_add_one, e]
  simp [Bool.decide_or]
section
variable {prog : Program} {w : World} {A : Around} {R : Result → Shared → Prop} {I D : Addr} {fp wr : List Addr} {G : Array GenState → Array GenState → Prop} {P : Nat → Value → Prop} {St : Nat → Shared → Prop}
theorem set_still {s s' : Shared} {S : Str → Bool} {c : Nat} (m : Moved wr G s s') (n : D ∉ wr) (h : s.heap.SetOf (PySem.strKind prog w) D S c) : s'.heap.SetOf (PySem.strKind prog w) D S c :=
  let ⟨o, es, ep, t, ho, r⟩ := h
  ⟨o, es, ep, t, m.heap D o n ho, r⟩
theorem texts_in {xs : List Str} (W : WalksS prog w A.in1 I fp wr G xs.length P St) (nD : D ∉ fp) (hv : ∀ i v, P i v → ∃ x t, xs[i]? = some x ∧ v = .str x t) (hb : xs.length < 4000) :
    ∀ (k i c : Nat) (s : Shared), xs.length - i = k → i ≤ xs.length → Cnt xs i c → St i s → s.heap.SetOf (PySem.strKind prog w) D (upTo xs i) c →
      (∀ s' c', Moved (D :: wr) G s s' → Cnt xs xs.length c' → s'.heap.SetOf (PySem.strKind prog w) D (upTo xs xs.length) c' → R (.ok (.ret .none)) s') →
      codeAny (model prog w) A (.builtin "set.update.loop" ⟨[.ref D, .ref I], []⟩) R s := by
  have nw : D ∉ wr := fun h => nD (W.sub _ h)
  have sb : ∀ b ∈ wr, b ∈ D :: wr := fun b h => List.mem_cons_of_mem _ h
  intro k
  induction k with
  | zero =>
    intro i c s hk hi hc st hS out
    obtain rfl : i = xs.length := by omega
    refine codeAny_builtin F.entry_set_update_loop ?_
    rw [Around.under_plainId F.plain_set_update_loop _]
    unfold Builtin.«set.update.loop»
    refine wpAny_bind (W.done s _ _ st fun s1 m => ?_)
    first
      | exact wpAny_pure (out s1 c (m.mono sb) hc (set_still m nw hS))
      | exact wpAny_bind (wpAny_pure (wpAny_pure (out s1 c (m.mono sb) hc (set_still m nw hS))))
  | succ k ih =>
    intro i c s hk hi hc st hS out
    have hlt : i < xs.length := by omega
    refine codeAny_builtin F.entry_set_update_loop ?_
    rw [Around.under_plainId F.plain_set_update_loop _]
    unfold Builtin.«set.update.loop»
    refine wpAny_bind (W.item i s _ _ hlt st fun v s1 p st1 m => ?_)
    obtain ⟨x, t, ex, rfl⟩ := hv i v p
    have l := hc.le
    have hS1 := set_still m nw hS
    show wpAny _ A.in1 (holding [Value.str x t] (setAdd D (.str x t)) >>= _) _ _ s1
    unfold setAdd
    refine wpAny_bind (wpAny_holding (wpAny_holding (wpAny_bind ((PySem.strKind prog w).pyHash (k := x) (strKind_is _ _ _ _) ?_))))
    refine wpAny_setAddHashed_of (knd := PySem.strKind prog w) (s := { s1 with toks := s1.toks + 1 }) (strKind_is _ _ _ _) rfl hS1 (by unfold scanBound; omega) fun h2 b2 hS2 => ?_
    refine wpAny_pure ⟨plainId_quiet F.plain_set_update_loop _, ih (i + 1) _ _ (by omega) hlt (hc.next ex) (W.frame _ s1 _ _ st1 (Nat.le_succ _) fun b hb o e => ?_) (SetOf_congr hS2 (upTo_next ex) rfl) fun s3 c3 m3 hc3 hS3 => ?_⟩
    · exact (b2.2 b fun z => nD (z ▸ hb)).trans e
    · refine out s3 c3 (Moved.trans W.gtrans ((m.mono sb).then_heap (Nat.le_succ _) fun b o hb e => ?_) m3) hc3 hS3
      exact (b2.2 b fun z => hb (z ▸ List.mem_cons_self)).trans e
end
section
variable {prog : Program} {w : World} {A : Around} {E : Value → Shared → Prop} {s : Shared}
def fresh (led : Bool) : Obj := { cls := .type "set", dict := none, data := .set #[] 0 (.fresh 0 0 led) }
/-- the class set called: a fresh set, then its __init__ -/
theorem set_made {v : Value} {Q : Value → Shared → Prop} (hh : A.handled = none)
    (h : ∀ (led : Bool) (B : Around), B.handled = none → codeAny (model prog w) B (.call (.builtin "set.__init__") ⟨[.ref s.heap.objs.size, v], []⟩) (wants (fun r s₂ => r = .none ∧ Q (.ref s.heap.objs.size) s₂) E) { s with heap := s.heap.push (fresh led) }) :
    wpAny (model prog w) A (call (.type "set") [v]) Q E s := by
  obtain ⟨c, tl, o1⟩ := F.called_set.mro
  have o2 := F.called_set.made
  have o3 := F.called_set.sub
  have o4 := F.called_set.notType
  have o5 := F.called_set.canCreate
  have o6 := F.typeCall_set_1 v
  refine wpAny_call (codeAny_of_tree ?_)
  show wpAny _ _ (callAny (.type "set") _) _ _ _
  refine wpAny_pure ⟨Code.quiet_builtin _ (by decide +kernel), codeAny_builtin F.entry_type_call ?_⟩
  rw [Around.under_plain (weight_type_call_type "set" [v] []) rfl]
  repeat (any_goals (first | assumption | wp_step))
  refine codeAny_mono (code_set_new_1 v (E := E) (Q₁ := fun o s₁ => ∃ led : Bool, o = .ref s.heap.objs.size ∧ s₁ = { s with heap := s.heap.push (fresh led) }) fun led => ⟨led, rfl, rfl⟩) fun r s1 hr => ?_
  match r, hr with
  | .error e, hr => exact hr
  | .ok (.ret o), hr =>
    obtain ⟨led, rfl, rfl⟩ := hr
    have hT : Shared.TypeIs { s with heap := s.heap.push (fresh led) } (.ref s.heap.objs.size) "set" := ⟨_, Heap.get?_push_size _ rfl, rfl⟩
    have o7 := F.called_set.init.lookup
    have o8 := F.called_set.init.bind (.ref s.heap.objs.size)
    repeat (any_goals (first | assumption | wp_step))
    refine codeAny_mono (h led _ (by simp [hh])) fun r2 s2 hr2 => ?_
    match r2, hr2 with
    | .error e, hr2 => exact hr2
    | .ok (.ret u), hr2 =>
      obtain ⟨rfl, q⟩ := hr2
      repeat (any_goals (first | assumption | wp_step))
    | .ok .next, hr2 => exact hr2.elim
    | .ok .brk, hr2 => exact hr2.elim
    | .ok .cont, hr2 => exact hr2.elim
  | .ok .next, hr => exact hr.elim
  | .ok .brk, hr => exact hr.elim
  | .ok .cont, hr => exact hr.elim
/-- __init__ of a fresh set with a list of texts -/
theorem init_list {h0 : Heap} {g : Array GenState} {d : Drawn} {t0 : Nat} {os : OsState} {led : Bool} {B : Around} {l : Addr} {items : Array Value} {xs : List Str} {Q : Shared → Prop} (hB : B.handled = none) (hl : h0.IsList l items) (hx : StrsAre items.toList xs) (hb : xs.length < 4000)
    (q : ∀ (h' : Heap) (tk c : Nat), Cnt xs xs.length c → h'.SetOf (PySem.strKind prog w) h0.objs.size (upTo xs xs.length) c → (∀ b o, b < h0.objs.size → h0.get? b = some o → h'.get? b = some o) → Q ⟨h', g, d, tk, os⟩) :
    codeAny (model prog w) B (.call (.builtin "set.__init__") ⟨[.ref h0.objs.size, .ref l], []⟩) (wants (fun r s₂ => r = .none ∧ Q s₂) E) ⟨h0.push (fresh led), g, d, t0, os⟩ := by
  have hD : (h0.push (fresh led)).get? h0.objs.size = some (fresh led) := Heap.get?_push_size _ rfl
  obtain ⟨ol, o1, o2, nl, o3⟩ := id hl
  have hlD : l < h0.objs.size := Heap.lt_size o1
  obtain ⟨oc, od, dt, sl⟩ := ol
  simp only at o2 o3
  subst o2 o3
  have o4 := Heap.get?_push_of_some (fresh led) o1
  have o5 : (h0.push (fresh led)).IsList l items := ⟨_, o4, rfl, nl, rfl⟩
  have o6 := F.sub_list_set
  have o7 := F.sub_list_frozenset
  have o8 : (Value.type "list" == Value.type "dict") = false := by decide
  have sz : (h0.push (fresh led)).objs.size = h0.objs.size + 1 := Heap.size_push ..
  have ln : items.size = xs.length := by rw [← StrsAre.len_eq hx, Array.length_toList]
  refine codeAny_call_builtin F.called_set.init.plain F.entry_set_init (check_set_init_1 ⟨_, hD, rfl⟩ ?_)
  unfold Builtin.«set.__init__» noKeywords Builtin.Frozenset.updateFrom
  generalize gI : pyIter = PI
  wp_walk
  subst gI
  refine wpAny_pyIter_list o5 (wpAny_bind (wpAny_runValue ?_))
  have n1 : l ≠ (h0.push (fresh led)).objs.size := by rw [sz]; exact Nat.ne_of_lt (Nat.lt_succ_of_lt hlD)
  have n2 : h0.objs.size ∉ [(h0.push (fresh led)).objs.size, l] := by
    rw [sz]
    simp only [List.mem_cons, List.not_mem_nil, or_false, not_or]
    exact ⟨Nat.ne_of_lt (Nat.lt_succ_self _), (Nat.ne_of_lt hlD).symm⟩
  refine texts_in (xs := xs) (ln ▸ (Walks.list (by simp [hB]) _ l n1 items).toS) n2 (fun i v hv => ?_) hb (xs.length - 0) 0 0 _ rfl (Nat.zero_le _) (Cnt.zero xs) ⟨⟨_, Heap.get?_push_size _ rfl, rfl, rfl⟩, o5.push _⟩ ?_ fun s' c m hc hS => ?_
  · have e : items.toList[i]? = some v := by rw [Array.getElem?_toList]; exact hv
    obtain ⟨t, e2⟩ := SS.strs_at hx i v e
    have il : i < xs.length := by
      have := (List.getElem?_eq_some_iff.mp e).1
      rw [Array.length_toList, ln] at this
      exact this
    refine ⟨xs[i], t, List.getElem?_eq_getElem il, ?_⟩
    rw [e2, List.getD_eq_getElem?_getD, List.getElem?_eq_getElem il]; rfl
  · exact SetOf_congr ((setObjOf_fresh (knd := PySem.strKind prog w) led).setOf (Heap.get?_push_of_some _ hD) (by decide)) (fun _ => by simp [upTo]) rfl
  · obtain ⟨h', g2, d2, tk, os2⟩ := s'
    obtain rfl : g2 = g := m.gens
    obtain rfl : d2 = d := m.drawn
    obtain rfl : os2 = os := m.os
    refine wpAny_pure ?_
    show wpAny _ _ (ret Value.none) _ _ _
    refine wpAny_pure ⟨rfl, q h' tk c hc hS fun b o hb e => m.heap b o ?_ (Heap.get?_push_of_some _ (Heap.get?_push_of_some _ e))⟩
    rw [sz]
    simp only [List.mem_cons, List.not_mem_nil, or_false, not_or]
    exact ⟨Nat.ne_of_lt hb, Nat.ne_of_lt (Nat.lt_succ_of_lt hb)⟩
/-- __init__ of a fresh set with a tuple of texts -/
theorem init_tuple {h0 : Heap} {g : Array GenState} {d : Drawn} {t0 : Nat} {os : OsState} {led : Bool} {B : Around} {l : Addr} {items : Array Value} {xs : List Str} {Q : Shared → Prop} (hB : B.handled = none) (hl : h0.IsTuple l items) (hx : StrsAre items.toList xs) (hb : xs.length < 4000)
    (q : ∀ (h' : Heap) (tk c : Nat), Cnt xs xs.length c → h'.SetOf (PySem.strKind prog w) h0.objs.size (upTo xs xs.length) c → (∀ b o, b < h0.objs.size → h0.get? b = some o → h'.get? b = some o) → Q ⟨h', g, d, tk, os⟩) :
    codeAny (model prog w) B (.call (.builtin "set.__init__") ⟨[.ref h0.objs.size, .ref l], []⟩) (wants (fun r s₂ => r = .none ∧ Q s₂) E) ⟨h0.push (fresh led), g, d, t0, os⟩ := by
  have hD : (h0.push (fresh led)).get? h0.objs.size = some (fresh led) := Heap.get?_push_size _ rfl
  obtain ⟨ol, o1, o2, nl, o3⟩ := id hl
  have hlD : l < h0.objs.size := Heap.lt_size o1
  obtain ⟨oc, od, dt, sl⟩ := ol
  simp only at o2 o3
  subst o2 o3
  have o4 := Heap.get?_push_of_some (fresh led) o1
  have o5 : (h0.push (fresh led)).IsTuple l items := ⟨_, o4, rfl, nl, rfl⟩
  have o6 := F.sub_tuple_set
  have o7 := F.sub_tuple_frozenset
  have o8 : (Value.type "tuple" == Value.type "dict") = false := by decide
  have sz : (h0.push (fresh led)).objs.size = h0.objs.size + 1 := Heap.size_push ..
  have ln : items.size = xs.length := by rw [← StrsAre.len_eq hx, Array.length_toList]
  refine codeAny_call_builtin F.called_set.init.plain F.entry_set_init (check_set_init_1 ⟨_, hD, rfl⟩ ?_)
  unfold Builtin.«set.__init__» noKeywords Builtin.Frozenset.updateFrom
  generalize gI : pyIter = PI
  wp_walk
  subst gI
  refine wpAny_pyIter_tuple o5 (wpAny_bind (wpAny_runValue ?_))
  have n1 : l ≠ (h0.push (fresh led)).objs.size := by rw [sz]; exact Nat.ne_of_lt (Nat.lt_succ_of_lt hlD)
  have n2 : h0.objs.size ∉ [(h0.push (fresh led)).objs.size, l] := by
    rw [sz]
    simp only [List.mem_cons, List.not_mem_nil, or_false, not_or]
    exact ⟨Nat.ne_of_lt (Nat.lt_succ_self _), (Nat.ne_of_lt hlD).symm⟩
  refine texts_in (xs := xs) (ln ▸ (Walks.tuple (by simp [hB]) _ l n1 items).toS) n2 (fun i v hv => ?_) hb (xs.length - 0) 0 0 _ rfl (Nat.zero_le _) (Cnt.zero xs) ⟨⟨_, Heap.get?_push_size _ rfl, rfl, rfl⟩, o5.push _⟩ ?_ fun s' c m hc hS => ?_
  · have e : items.toList[i]? = some v := by rw [Array.getElem?_toList]; exact hv
    obtain ⟨t, e2⟩ := SS.strs_at hx i v e
    have il : i < xs.length := by
      have := (List.getElem?_eq_some_iff.mp e).1
      rw [Array.length_toList, ln] at this
      exact this
    refine ⟨xs[i], t, List.getElem?_eq_getElem il, ?_⟩
    rw [e2, List.getD_eq_getElem?_getD, List.getElem?_eq_getElem il]; rfl
  · exact SetOf_congr ((setObjOf_fresh (knd := PySem.strKind prog w) led).setOf (Heap.get?_push_of_some _ hD) (by decide)) (fun _ => by simp [upTo]) rfl
  · obtain ⟨h', g2, d2, tk, os2⟩ := s'
    obtain rfl : g2 = g := m.gens
    obtain rfl : d2 = d := m.drawn
    obtain rfl : os2 = os := m.os
    refine wpAny_pure ?_
    show wpAny _ _ (ret Value.none) _ _ _
    refine wpAny_pure ⟨rfl, q h' tk c hc hS fun b o hb e => m.heap b o ?_ (Heap.get?_push_of_some _ (Heap.get?_push_of_some _ e))⟩
    rw [sz]
    simp only [List.mem_cons, List.not_mem_nil, or_false, not_or]
    exact ⟨Nat.ne_of_lt hb, Nat.ne_of_lt (Nat.lt_succ_of_lt hb)⟩
end
end SX
namespace L2
open PySem PySem.Spec PyProof.Rows
/-- len(set(xs)): how many unlike texts stand in a list or tuple of texts -/
def tLenTexts (K : PySem.W.Frag) (ta : TE) : TE := fun σ H Q => ta σ H fun x H1 => ∃ (l : Addr) (xs : List Str), x = .ref l ∧ (SqL K H1 l (xs.map V.str) ∨ SqT K H1 l (xs.map V.str)) ∧ xs.length < 4000 ∧ ∀ c, SX.Cnt xs xs.length c → Q (.int (c : Nat)) H1
theorem pe_lenTexts {X : Cx} {K : PySem.W.Frag} {a : Expr} {ta : TE} {p p2 q pos : Pos} (eK : X.K = K) (hc : X.calm = true) (hg : Gl X "len") (hm : X.mg "len" = none) (hg2 : Gl X "set") (hm2 : X.mg "set" = none) (ha : PE X a ta)
    (na : starEach [a] X.env = (false, eval a X.env) :: starEach [] X.env := by rfl) : PE X (.Call (.Name "len" p) [.Call (.Name "set" p2) [a] [] q] [] pos) (tLenTexts K ta) := by
  subst eK
  refine ⟨fun pins s σ H Q I h => Call_ (ld_blt I hg hm boot_len (callWith_builtin1 (args_cons (Call_ (ld_blt I hg2 hm2 boot_set ?_)) rfl) rfl rfl))⟩
  refine callWith_type1 (args_cons (thn (ha.run pins s σ H _ I h) fun v s1 ⟨x, H1, I1, r1, q1⟩ => args_nil ?_) na) na rfl
  obtain ⟨l, xs, rfl, sq, lx, q1⟩ := q1
  cases r1
  obtain ⟨h1, g1, d1, t1, os1⟩ := s1
  have go : ∀ (h' : Heap) (tk c : Nat), SX.Cnt xs xs.length c → h'.SetOf (PySem.strKind X.prog X.w) h1.objs.size (SX.upTo xs xs.length) c → (∀ b o, b < h1.objs.size → h1.get? b = some o → h'.get? b = some o) →
      wpAny (model X.prog X.w) X.A (spliced (backTo pos (starEach [] X.env))) (fun vs s₂ => wpAny (model X.prog X.w) X.A (call (.builtin "len") (Value.ref h1.objs.size :: vs)) (EP X pins σ Q) X.xe s₂) X.xe ⟨h', g1, d1, tk, os1⟩ := fun h' tk c hC hS k => by
    have J : Inv X pins σ H1 ⟨h', g1, d1, tk, os1⟩ := I1.kept fun b o e => k b o (Heap.lt_size e) e
    obtain ⟨o, es, ep, t, ho, hex, hd, _, _, _, hf, hn⟩ := hS
    have := hC.le
    exact args_nil (call_len_set ho hex hd hf (by rw [hn]; omega) ⟨.int (c : Nat), H1, J.tok _, ⟨_, by rw [hn]⟩, q1 c hC⟩)
  refine SX.set_made (I1.ok.hd hc) fun led B hB => ?_
  rcases sq with sq | sq
  · obtain ⟨its, r, pl, _⟩ := I1.list sq
    exact SX.init_list (Q := fun s₂ => wpAny (model X.prog X.w) X.A (spliced (backTo pos (starEach [] X.env))) (fun vs s₂ => wpAny (model X.prog X.w) X.A (call (.builtin "len") (Value.ref h1.objs.size :: vs)) (EP X pins σ Q) X.xe s₂) X.xe s₂) hB pl.isList (by simpa using strsAre_of r) lx go
  · obtain ⟨its, r, pl, _⟩ := I1.tuple sq
    exact SX.init_tuple (Q := fun s₂ => wpAny (model X.prog X.w) X.A (spliced (backTo pos (starEach [] X.env))) (fun vs s₂ => wpAny (model X.prog X.w) X.A (call (.builtin "len") (Value.ref h1.objs.size :: vs)) (EP X pins σ Q) X.xe s₂) X.xe s₂) hB pl (by simpa using strsAre_of r) lx go
end L2

set_option pp.maxSteps 600
namespace K14
open PySem L2 PySem.Spec PyProof.Rows
/-- a comprehension over a list or tuple that stays -/
theorem lc_sq {K : PySem.W.Frag} {j : Nat} {a : Addr} {xs : List V} {g : TG} {tt : TT} {te : TE} {vs : List Nat} {σ : L2.St} {H : Hp} {Q : VK} (e : σ[j]? = some (some (.ref a))) (h : Sq K H a xs) (Pv : Addr → Nat → Hp → Prop) (h0 : ∀ D, H D = none → Pv D 0 (upd H D (.lst []))) (hG : ∀ D i H', H D = none → Pv D i H' → Same H H')
    (hs : ∀ D i x H', H D = none → i < xs.length → Pv D i H' → xs[i]? = some x → g x (wipe σ vs) H' fun σ2 H2 => wipe σ2 vs = wipe σ vs ∧ tt σ2 H2 fun b H3 =>
      if b = true then te σ2 H3 fun y H4 => ∃ acc, H4 D = some (.lst acc) ∧ acc.length < sizeLine ∧ Pv D (i + 1) (upd H4 D (.lst (acc ++ [y]))) else Pv D (i + 1) H3)
    (hd : ∀ D H', H D = none → Pv D xs.length H' → Q (.ref D) H') : tLc (iSeq K (tVar j)) g tt te vs σ H Q := by
  rcases h with h | h
  · refine .inl ⟨_, e, a, rfl, ⟨_, SqL.of h⟩, fun D hD => lc_it (walk_list (xs := xs)) (Pv D) (h0 D hD) (fun i H' _ z => SqL.of (hG D i _ hD z _ _ h)) ?_ (fun H' z => hd D H' hD z)⟩
    rintro i y H1' H1 hi z ⟨rfl, ey⟩
    exact hs D i y _ hD hi z ey
  · refine .inr ⟨_, e, a, rfl, ⟨_, h.sq⟩, fun D hD => lc_it (walk_tup (xs := xs)) (Pv D) (h0 D hD) (fun i H' _ z => (h.kp (ObKp.of (hG D i _ hD z))).sq) ?_ (fun H' z => hd D H' hD z)⟩
    rintro i y H1' H1 hi z ⟨rfl, ey⟩
    exact hs D i y _ hD hi z ey
theorem cnt_eq {xs : List Str} {c : Nat} (h : SX.Cnt xs xs.length c) : decide (V.int (c : Nat) = V.int ((xs.map V.str).length : Nat)) = decide xs.Nodup := by
  rw [List.length_map]
  have e := h.iff
  rw [List.take_length] at e
  refine decide_eq_decide.mpr ⟨fun z => e.mp ?_, fun z => by rw [e.mpr z]⟩
  injection z with z
  exact Int.ofNat.inj z
theorem andV_go {ta tb : TE} {σ : L2.St} {H : Hp} {Q : VK} (h : ta σ H fun x H1 => ∃ c, x = .bl c ∧ if c = true then tb σ H1 Q else Q (.bl false) H1) : tAndV ta tb σ H Q := h
theorem cb_go {r : List V → Hp → VK → Prop} {ta : TA} {σ : L2.St} {H : Hp} {Q : VK} (h : ta σ H fun vs H1 => r vs H1 Q) : tCB r ta σ H Q := h
theorem orV_go {ta tb : TE} {σ : L2.St} {H : Hp} {Q : VK} (h : ta σ H fun x H1 => ∃ c, x = .bl c ∧ if c = true then Q (.bl true) H1 else tb σ H1 Q) : tOrV ta tb σ H Q := h
theorem strs_shapedT {l : List Str} (h : ∀ x ∈ l, PyData.strOk x = true) : SeqAt.shaped (.tuple (l.map PyData.str)) = true := by
  have := strs_shaped h
  have a := SeqAt.canLay_of_shaped this
  have b := SeqAt.depth_of_shaped this
  simp only [PyData.canLay0, PyData.depth] at a b
  show (PyData.canLay0 _ && decide (PyData.depth _ ≤ 64)) = true
  rw [Bool.and_eq_true]
  exact ⟨by simp only [PyData.canLay0]; exact a, decide_eq_true (by simp only [PyData.depth]; exact b)⟩
theorem none_eqvS (os : List Str) : PyData.eqv (.tuple (os.map PyData.str)) (.tuple [.str "none"]) = decide (os = [("none" : Str)]) := by
  match os with
  | [] => rfl
  | [x] =>
    by_cases h : x = ("none" : Str)
    · subst h; simp [PyData.eqv, PyData.eqvAll]
    · simp [PyData.eqv, PyData.eqvAll, h]
  | x :: y :: zs => simp [PyData.eqv, PyData.eqvAll]
structure NamesL (os : List Str) : Prop where
  each : ∀ s ∈ os, nameB s = true
  nd : os.Nodup
  l : os.length ≤ 100
def OrigL (os : List Str) : Prop := os = [("none" : Str)] ∨ (os ≠ [] ∧ NamesL os)
theorem OrigL.strOk {os : List Str} (h : OrigL os) : ∀ x ∈ os, PyData.strOk x = true := by
  rcases h with rfl | h
  · intro x hx
    rw [List.mem_singleton.mp hx]
    decide +kernel
  · exact fun x hx => strOk_name (h.2.each x hx)
theorem OrigL.len {os : List Str} (h : OrigL os) : os.length ≤ 100 := by
  rcases h with rfl | h
  · show 1 ≤ 100; omega
  · exact h.2.l
theorem Tp.same {K : PySem.W.Frag} {H H' : Hp} {a : Addr} {xs : List V} (h : Tp K H a xs) (s : Same H H') : Tp K H' a xs := h.kp (ObKp.of s)
section
variable {P : Program} {w : World} {K : PySem.W.Frag} {mg : Str → Option Value} {base : Heap}
abbrev s_are_names : Stmt := top 6
abbrev n_are_names : List Str := ["value", "part"]
theorem sc_are_names : FnScope n_are_names ["value"] (defScope s_are_names) := ⟨rfl, rfl, rfl, by decide +kernel, rfl, by decide +kernel, by decide +kernel⟩
def spNamesT (K : PySem.W.Frag) : Sp := fun vs H Q _ => ∃ (a : Addr) (os : List Str), vs = [.ref a] ∧ Sq K H a (os.map V.str) ∧ NamesL os ∧ ∀ H', Same H H' → Q (.bl true) H'
theorem ok_namesT {Z : Nat → Addr} (T : Txt mg) (g_is_sequence : Has P w K mg base 1 "is_sequence" ["value"] (spSeqT K)) (g_is_name : Has P w K mg base 1 "is_name" ["value"] (spName Z)) (F : DefAt K mg "are_names" s_are_names ["value"]) : Has P w K mg base 3 "are_names" ["value"] (spNamesT K) := by
  refine F.has sc_are_names (fun vs H Q E h => ?_) (fun f cdv A outer s H vs Q E hr h => ?_)
  · obtain ⟨a, os, rfl, _⟩ := h
    rfl
  · obtain ⟨a, os, rfl, sq, N, k⟩ := h
    refine ⟨_, (pss_one (ps_ret (pe_and (pe_callHas g_is_sequence (hr.mono (by decide)) rfl (pa_cons (pv 0) pa_nil)) (pe_and (pe_callB (cr_all rfl) (by rfl) T.z_all (by decide +kernel) (pa_cons (pe_lc (own := [("part", 1)]) (g := gName 1) (by rfl) sc_are_names.nd (pi_seq (pv 0)) (blkOk_by (own := [("part", 1)]) (N := n_are_names) (sc := defScope s_are_names) (by decide +kernel)) (fun _ _ _ _ _ => (pg_name (i := 1) sc_are_names.nd rfl (Or.inl rfl))) (fun _ _ _ _ _ => pts_nil) (fun _ _ _ _ _ => (pe_callHas g_is_name (hr.mono (by decide)) rfl (pa_cons (pv 1) pa_nil)))) pa_nil)) (pe_one (pe_cmpR op_eq (pe_lenTexts (K := K) rfl rfl (by rfl) T.z_len (by rfl) T.z_set (pv 0)) (pe_callB call_len (by rfl) T.z_len (by decide +kernel) (pa_cons (pv 0) pa_nil)) (nomark _))))))), ?_⟩
    have q1000 : (1000 : Nat) < sizeLine := by decide
    have l1 := N.l
    refine ⟨_, rfl, a, _, rfl, sq, fun H1 s1 => ⟨_, rfl, iteSe rfl ?_⟩⟩
    refine andV_go (cb_go (cons_go (lc_sq (K := K) rfl (sq.same s1) (fun D i H' => Same H1 H' ∧ H' D = some (.lst ((List.replicate i true).map V.bl))) (fun D hD => ⟨(new_at hD).1, upd_same⟩) (fun D i H' hD z => z.1) ?_ ?_)))
    · rintro D i y H' hD hi ⟨sm, hD'⟩ ey
      obtain ⟨s, e, rfl⟩ : ∃ s, os[i]? = some s ∧ y = V.str s := by
        rw [List.getElem?_map] at ey
        cases e : os[i]? with
        | none => rw [e] at ey; cases ey
        | some s => rw [e] at ey; exact ⟨s, rfl, (Option.some.inj ey).symm⟩
      have ns := N.each s (List.mem_of_getElem? e)
      rw [List.length_map] at hi
      refine ⟨rfl, _, rfl, 0, _, .a (.str s), rfl, rfl, (fun s' e => by cases e; have := nameB_len ns; omega), _, hD', by rw [List.length_map, List.length_replicate]; omega, fun c o e => (upd_ne (ne_of_none e hD)).trans (sm _ _ e), ?_⟩
      rw [upd_same, show at2 name0 (.a (.str s)) = nameB s from rfl, ns, List.replicate_succ', List.map_append]
      rfl
    · rintro D H' hD ⟨sm, hD'⟩
      refine ⟨_, _, rfl, SqL.of hD', _, rfl, iteSe (by rw [List.all_eq_true]; intro x hx; exact (List.mem_replicate.mp hx).2) ?_⟩
      have sq' := (sq.same s1).same sm
      rcases sq' with h | h
      · refine ⟨_, rfl, a, os, rfl, .inl (SqL.of h), by omega, fun c hC => ?_⟩
        refine ⟨_, rfl, _, _, rfl, .inl ⟨_, SqL.of h, rfl⟩, rfl, ?_⟩
        rw [cnt_eq hC, decide_eq_true N.nd]
        exact k _ (s1.trans sm)
      · refine ⟨_, rfl, a, os, rfl, .inr h.sq, by omega, fun c hC => ?_⟩
        refine ⟨_, rfl, _, _, rfl, .inr ⟨_, h.sq, rfl⟩, rfl, ?_⟩
        rw [cnt_eq hC, decide_eq_true N.nd]
        exact k _ (s1.trans sm)
abbrev s_are_origins : Stmt := top 30
abbrev n_are_origins : List Str := ["value"]
theorem sc_are_origins : FnScope n_are_origins ["value"] (defScope s_are_origins) := ⟨rfl, rfl, rfl, by decide +kernel, rfl, by decide +kernel, by decide +kernel⟩
def spOrigT (K : PySem.W.Frag) : Sp := fun vs H Q _ => ∃ (a : Addr) (os : List Str), vs = [.ref a] ∧ Sq K H a (os.map V.str) ∧ OrigL os ∧ ∀ H', Same H H' → Q (.bl true) H'
theorem ok_origT (T : Txt mg) (g_is_sequence : Has P w K mg base 1 "is_sequence" ["value"] (spSeqT K)) (g_are_names : Has P w K mg base 3 "are_names" ["value"] (spNamesT K)) (F : DefAt K mg "are_origins" s_are_origins ["value"]) : Has P w K mg base 4 "are_origins" ["value"] (spOrigT K) := by
  refine F.has sc_are_origins (fun vs H Q E h => ?_) (fun f cdv A outer s H vs Q E hr h => ?_)
  · obtain ⟨a, os, rfl, _⟩ := h
    rfl
  · have hu := hr.units
    obtain ⟨a, os, rfl, sq, N, k⟩ := h
    refine ⟨_, (pss_one (ps_ret (pe_and (pe_callHas g_is_sequence (hr.mono (by decide)) rfl (pa_cons (pv 0) pa_nil)) (pe_one (pe_or (pe_cmpR (op_eqD hu) (pe_callTy call_tuple_of (by rfl) T.z_tuple (by decide +kernel) (pa_cons (pv 0) pa_nil)) (pe_tup (pa_cons pe_str pa_nil)) (nomark _)) (pe_one (pe_and (pe_cmpR op_gt (pe_callB call_len (by rfl) T.z_len (by decide +kernel) (pa_cons (pv 0) pa_nil)) pe_int (nomark _)) (pe_one (pe_callHas g_are_names (hr.mono (by decide)) rfl (pa_cons (pv 0) pa_nil)))))))))), ?_⟩
    refine ⟨_, rfl, a, _, rfl, sq, fun H1 s1 => ⟨_, rfl, iteSe rfl ?_⟩⟩
    refine orV_go (op_go (tupcall_go (xs := os.map V.str) (by rfl) (sq.same s1) fun H2 a2 s2 t2 => tupc_go (xs := [.str "none"]) (fun Q q => q) (by decide) fun H3 q s3 hq h3 => ?_))
    refine ⟨.tuple (os.map PyData.str), .tuple [.str "none"], .tup (t2.same s3).sq (strs_dp os), .tup (SqT.of h3) (.cons (.str _) .nil), strs_shapedT N.strOk, by decide +kernel, _, rfl, ?_⟩
    rw [none_eqvS]
    have s03 := (s1.trans s2).trans s3
    by_cases h0 : os = [("none" : Str)]
    · exact iteSe (decide_eq_true h0) (k _ s03)
    · refine iteSf (decide_eq_false h0) ?_
      obtain ⟨ne, N⟩ := N.resolve_left h0
      have lp : 0 < os.length := List.length_pos_iff.mpr ne
      have sq3 := sq.same s03
      have lv : LenV K (.ref a) H3 (os.map V.str).length := sq3.elim (fun h => .inl ⟨_, SqL.of h, rfl⟩) fun h => .inr ⟨_, h.sq, rfl⟩
      refine andV_go ⟨_, rfl, _, _, rfl, lv, _, _, rfl, rfl, _, rfl, iteSe (decide_eq_true (by rw [List.length_map]; omega)) ?_⟩
      exact ⟨_, rfl, a, os, rfl, sq3, N, fun H' s' => k H' (s03.trans s')⟩
abbrev s_may_bring : Stmt := top 31
abbrev n_may_bring : List Str := ["value", "comes", "goes"]
theorem sc_may_bring : FnScope n_may_bring ["value", "comes", "goes"] (defScope s_may_bring) := ⟨rfl, rfl, rfl, by decide +kernel, rfl, by decide +kernel, by decide +kernel⟩
def spMayT : Sp := fun vs H Q _ => ∃ v c g : Bool, vs = [.bl v, .bl c, .bl g] ∧ (v = true ∨ c = false) ∧ (v = false ∨ g = false) ∧ Q (.bl true) H
theorem ok_mayT (T : Txt mg) (F : DefAt K mg "may_bring" s_may_bring ["value", "comes", "goes"]) : Has P w K mg base 1 "may_bring" ["value", "comes", "goes"] spMayT := by
  refine F.has sc_may_bring (fun vs H Q E h => ?_) (fun f cdv A outer s H vs Q E hr h => ?_)
  · obtain ⟨v, c, g, rfl, _⟩ := h
    rfl
  · obtain ⟨v, c, g, rfl, h1, h2, k⟩ := h
    refine ⟨_, (pss_one (ps_ret (pe_and (pe_callB call_isi (by rfl) T.z_isinstance (by decide +kernel) (pa_cons (pv 0) (pa_cons (pe_bltn (v := .ty "bool") (by rfl) T.z_bool (by decide +kernel) rfl) pa_nil))) (pe_and (pe_or (pv 0) (pe_one (pe_not (pv 1)))) (pe_one (pe_not (pe_and (pv 0) (pe_one (pv 2))))))))), ?_⟩
    refine ⟨_, rfl, _, _, .type "bool", _, true, rfl, .ty _, .base (.bl v), rfl, _, rfl, iteSe rfl ?_⟩
    cases v with
    | true =>
      obtain rfl : g = false := h2.resolve_left (fun z => nomatch z)
      exact ⟨_, rfl, _, rfl, iteSe rfl ⟨_, rfl, iteSe rfl ⟨_, rfl, _, rfl, iteSe rfl ⟨_, rfl, _, rfl, k⟩⟩⟩⟩
    | false =>
      obtain rfl : c = false := h1.resolve_left (fun z => nomatch z)
      refine ⟨_, rfl, _, rfl, iteSf rfl ⟨_, rfl, _, rfl, _, rfl, ?_⟩⟩
      exact iteSe rfl ⟨_, rfl, _, rfl, iteSf rfl ⟨_, rfl, k⟩⟩
end
end K14

set_option pp.maxSteps 600
namespace K14
open PySem L2 PySem.Spec PyProof.Rows
/-- what an event that is made may have -/
structure EvOk (e : EventD) : Prop where
  name : nameB e.name = true
  origins : OrigL e.origins
  kind : okKind e.kind
  one : e.origins = [("none" : Str)] → e.kind ≠ "none"
  comes : e.origins = [("none" : Str)] → e.amount = true ∧ e.group = true
  goes : e.kind = "none" → e.amount = false ∧ e.group = false
/-- an event of the package -/
def EvOb (K : PySem.W.Frag) (EV : Addr) (H : Hp) (v : V) (e : EventD) : Prop := ∃ x dx o, v = .ref x ∧ H x = some (.ins EV dx [("name", .str e.name), ("origins", .ref o), ("kind", .str e.kind), ("amount", .bl e.amount), ("group", .bl e.group)]) ∧ Tp K H o (e.origins.map V.str)
theorem notand_go {i j : Nat} {c g : Bool} {σ : L2.St} {H : Hp} {Q : VK} (e1 : σ[i]? = some (some (.bl c))) (e2 : σ[j]? = some (some (.bl g))) (h : Q (.bl (!(c && g))) H) : tNotV (tAndV (tVar i) (tVar j)) σ H Q := by
  refine ⟨_, e1, c, rfl, ?_⟩
  cases c
  · exact iteSf rfl ⟨_, rfl, h⟩
  · exact iteSe rfl ⟨_, e2, g, rfl, h⟩
theorem eqv_noneS (k : Str) : PyData.eqv (.str k) (.str "none") = decide (k = ("none" : Str)) := by
  by_cases h : k = ("none" : Str)
  · subst h; simp [PyData.eqv]
  · simp [PyData.eqv, h]
theorem str_shaped {k : Str} (h : PyData.strOk k = true) : SeqAt.shaped (.str k) = true := by
  show (PyData.canLay0 _ && decide (PyData.depth _ ≤ 64)) = true
  rw [Bool.and_eq_true]
  exact ⟨by simp only [PyData.canLay0]; exact h, decide_eq_true (by simp only [PyData.depth]; omega)⟩
section
variable {P : Program} {w : World} {K : PySem.W.Frag} {mg : Str → Option Value} {base : Heap}
abbrev s_Event_init : Stmt := inClass (top 32) 0
abbrev n_Event_init : List Str := ["self", "name", "origins", "kind", "amount", "group", "comes", "goes"]
theorem sc_Event_init : FnScope n_Event_init ["self", "name", "origins", "kind", "amount", "group"] (defScope s_Event_init) := ⟨rfl, rfl, rfl, by decide +kernel, rfl, by decide +kernel, by decide +kernel⟩
def spEventI (K : PySem.W.Frag) (EV : Addr) : Sp := fun vs H Q _ => ∃ (x dx : Addr) (a : Addr) (e : EventD), vs = [.ref x, .str e.name, .ref a, .str e.kind, .bl e.amount, .bl e.group] ∧ H x = some (.ins EV dx []) ∧ Sq K H a (e.origins.map V.str) ∧ EvOk e ∧
  ∀ (H' : Hp) (o : Addr), (∀ y u, y ≠ x → H y = some u → H' y = some u) → Tp K H' o (e.origins.map V.str) → H' x = some (.ins EV dx [("name", .str e.name), ("origins", .ref o), ("kind", .str e.kind), ("amount", .bl e.amount), ("group", .bl e.group)]) → Q .non H'
theorem ok_eventI {Z : Nat → Addr} {EV fI : Addr} {fd : FuncData} {d1 d2 : V} (T : Txt mg) (CE : ClsA K mg "Event" EV ["name", "origins", "kind", "amount", "group"]) (g_check : Has P w K mg base 1 "check" ["holds", "part"] spCheckT) (g_is_name : Has P w K mg base 1 "is_name" ["value"] (spName Z)) (g_are_origins : Has P w K mg base 4 "are_origins" ["value"] (spOrigT K)) (g_is_kind : Has P w K mg base 2 "is_kind" ["value"] spKindT) (g_may_bring : Has P w K mg base 1 "may_bring" ["value", "comes", "goes"] spMayT)
    (F : FunD K "__init__" "Event.__init__" (defArgs s_Event_init) (defBody s_Event_init) (defScope s_Event_init) [d1, d2] [] fI fd) : FnOk P w K mg base CX0 6 fI fd ["self", "name", "origins", "kind", "amount", "group"] (spEventI K EV) := by
  refine F.ok sc_Event_init (fun vs H Q E h => ?_) (fun cdv A outer s H vs Q E hr h => ?_)
  · obtain ⟨x, dx, a, e, rfl, _⟩ := h
    rfl
  · have hu := hr.units
    obtain ⟨x, dx, a, e, rfl, hx, sq, ok, k⟩ := h
    refine ⟨_, (pss_cons (ps_expr (pe_callHas g_check (hr.mono (by decide)) rfl (pa_cons (pe_callHas g_is_name (hr.mono (by decide)) rfl (pa_cons (pv 1) pa_nil)) (pa_cons pe_str pa_nil))))
      (pss_cons (ps_expr (pe_callHas g_check (hr.mono (by decide)) rfl (pa_cons (pe_callHas g_are_origins (hr.mono (by decide)) rfl (pa_cons (pv 2) pa_nil)) (pa_cons pe_str pa_nil))))
      (pss_cons (ps_set (i := 6) sc_Event_init.nd rfl (Or.inl rfl) (pe_cmpR (op_eqD hu) (pe_callTy call_tuple_of (by rfl) T.z_tuple (by decide +kernel) (pa_cons (pv 2) pa_nil)) (pe_tup (pa_cons pe_str pa_nil)) (nomark _)))
      (pss_cons (ps_set (i := 7) sc_Event_init.nd rfl (Or.inl rfl) (pe_cmpR (op_eqD hu) (pv 3) pe_str (nomark _)))
      (pss_cons (ps_expr (pe_callHas g_check (hr.mono (by decide)) rfl (pa_cons (pe_and (pe_callHas g_is_kind (hr.mono (by decide)) rfl (pa_cons (pv 3) pa_nil)) (pe_one (pe_not (pe_and (pv 6) (pe_one (pv 7)))))) (pa_cons pe_str pa_nil))))
      (pss_cons (ps_expr (pe_callHas g_check (hr.mono (by decide)) rfl (pa_cons (pe_callHas g_may_bring (hr.mono (by decide)) rfl (pa_cons (pv 4) (pa_cons (pv 6) (pa_cons (pv 7) pa_nil)))) (pa_cons pe_str pa_nil))))
      (pss_cons (ps_expr (pe_callHas g_check (hr.mono (by decide)) rfl (pa_cons (pe_callHas g_may_bring (hr.mono (by decide)) rfl (pa_cons (pv 5) (pa_cons (pv 6) (pa_cons (pv 7) pa_nil)))) (pa_cons pe_str pa_nil))))
      (pss_cons (ps_fld (pv 0) (pv 1) rfl)
      (pss_cons (ps_fld (pv 0) (pe_callTy call_tuple_of (by rfl) T.z_tuple (by decide +kernel) (pa_cons (pv 2) pa_nil)) rfl)
      (pss_cons (ps_fld (pv 0) (pv 3) rfl)
      (pss_cons (ps_fld (pv 0) (pv 4) rfl)
      (pss_one (ps_fld (pv 0) (pv 5) rfl))))))))))))), ?_⟩
    refine ⟨_, rfl, 0, _, .a (.str e.name), rfl, rfl, (fun s q => by cases q; have := nameB_len ok.name; omega), .str "name", (by rw [show at2 name0 (.a (.str e.name)) = nameB e.name from rfl, ok.name]; rfl), ?_⟩
    refine ⟨_, rfl, a, e.origins, rfl, sq, ok.origins, fun H1 s1 => ⟨_, rfl, ?_⟩⟩
    try dsimp only
    refine seq_asg (op_go (tupcall_go (xs := e.origins.map V.str) (by rfl) (sq.same s1) fun H2 a2 s2 t2 => tupc_go (xs := [.str "none"]) (fun Q q => q) (by decide) fun H3 q s3 hq h3 => ?_))
    refine ⟨.tuple (e.origins.map PyData.str), .tuple [.str "none"], .tup (t2.same s3).sq (strs_dp _), .tup (SqT.of h3) (.cons (.str _) .nil), strs_shapedT ok.origins.strOk, by decide +kernel, name_go ?_⟩
    rw [none_eqvS]
    try dsimp only
    refine seq_asg (op_go ?_)
    refine ⟨_, rfl, .str e.kind, .str "none", .str _, .str _, str_shaped (strOk_kind ok.kind), by decide +kernel, name_go ?_⟩
    rw [eqv_noneS]
    have c1 : (decide (e.origins = [("none" : Str)]) && decide (e.kind = ("none" : Str))) = false := by
      by_cases h : e.origins = [("none" : Str)]
      · rw [decide_eq_false (ok.one h), Bool.and_false]
      · rw [decide_eq_false h, Bool.false_and]
    have c2 : ∀ v : Bool, (e.origins = [("none" : Str)] → v = true) → v = true ∨ decide (e.origins = [("none" : Str)]) = false := fun v f => by
      by_cases h : e.origins = [("none" : Str)]
      · exact .inl (f h)
      · exact .inr (decide_eq_false h)
    have c3 : ∀ v : Bool, (e.kind = ("none" : Str) → v = false) → v = false ∨ decide (e.kind = ("none" : Str)) = false := fun v f => by
      by_cases h : e.kind = ("none" : Str)
      · exact .inl (f h)
      · exact .inr (decide_eq_false h)
    have a1 := c2 _ fun h => (ok.comes h).1
    have a2' := c2 _ fun h => (ok.comes h).2
    have a3 := c3 _ fun h => (ok.goes h).1
    have a4 := c3 _ fun h => (ok.goes h).2
    generalize decide (e.origins = [("none" : Str)]) = cc at *
    generalize decide (e.kind = ("none" : Str)) = gg at *
    have s03 := (s1.trans s2).trans s3
    try dsimp only
    refine seq_go ?_
    refine ⟨_, rfl, e.kind, rfl, ok.kind, _, rfl, iteSe rfl ?_⟩
    refine notand_go (c := cc) (g := gg) rfl rfl ?_
    rw [c1]
    refine ⟨_, rfl, ?_⟩
    try dsimp only
    refine seq_go ⟨_, rfl, _, rfl, _, rfl, _, cc, gg, rfl, a1, a3, _, rfl, ?_⟩
    try dsimp only
    refine seq_go ⟨_, rfl, _, rfl, _, rfl, _, cc, gg, rfl, a2', a4, _, rfl, ?_⟩
    have hx3 := s03 _ _ hx
    try dsimp only
    refine seq_go ⟨_, rfl, _, rfl, x, EV, dx, _, rfl, hx3, CE.cl, CE.n _ (by simp), (by show 0 < 1000; decide), ?_⟩
    have sq4 := (sq.same s03).other (u := .ins EV dx (putF "name" (.str e.name) [])) hx3
    try dsimp only
    refine seq_go ?_
    unfold sFld
    try dsimp only
    refine tupcall_go (by rfl) sq4 fun H5 o s5 tr => ?_
    have hx5 : H5 x = some (.ins EV dx (putF "name" (.str e.name) [])) := s5 _ _ upd_same
    have ip := 0
    refine ⟨_, rfl, x, EV, dx, _, rfl, hx5, CE.cl, CE.n _ (by simp), (by show 1 < 1000; decide), ?_⟩
    refine ⟨_, rfl, _, rfl, x, EV, dx, _, rfl, upd_same, CE.cl, CE.n _ (by simp), (by show 2 < 1000; decide), ?_⟩
    refine ⟨_, rfl, _, rfl, x, EV, dx, _, rfl, upd_same, CE.cl, CE.n _ (by simp), (by show 3 < 1000; decide), ?_⟩
    refine ⟨_, rfl, _, rfl, x, EV, dx, _, rfl, upd_same, CE.cl, CE.n _ (by simp), (by show 4 < 1000; decide), ?_⟩
    rw [upd_upd, upd_upd, upd_upd]
    exact k _ o (fun y u n h => (upd_ne n).trans (s5 _ _ ((upd_ne n).trans (s03 _ _ h)))) (tr.other hx5) upd_same
end
end K14

set_option pp.maxSteps 600
namespace K14
open PySem L2 PySem.Spec PyProof.Rows
/-- what a worth that is made may have -/
structure WoOk (e : WorthD) : Prop where
  total : nameB e.total = true
  kind : nameB e.kind = true
  what : e.what ∈ [("amount" : Str), "one"]
  lt : ∀ n m, e.least = some n → e.below = some m → n < m
def woFs (e : WorthD) : List (Str × V) := [("total", .str e.total), ("kind", .str e.kind), ("factor", .int e.factor), ("what", .str e.what), ("least", optV e.least), ("below", optV e.below)]
/-- a worth of the package -/
def WoOb (WO : Addr) (H : Hp) (v : V) (e : WorthD) : Prop := ∃ x dx, v = .ref x ∧ H x = some (.ins WO dx (woFs e))
def tNone (i : Nat) : TE := tOp (fun x y H Q => y = V.non ∧ Q (V.bl (decide (x = V.non))) H) (tVar i) (tC V.non)
theorem optT_go {Z : Nat → Addr} {i : Nat} {o : Option Int} {σ : L2.St} {H : Hp} {Q : VK} (e : σ[i]? = some (some (optV o))) (h : Q (.bl true) H) : tOrV (tNone i) (tCall (spInt Z) [] E0 (tCons (tVar i) tNil)) σ H Q := by
  cases o with
  | none => exact ⟨_, e, rfl, _, rfl, iteSe (by decide) h⟩
  | some n => exact ⟨_, e, rfl, _, rfl, iteSf (by simp [optV]) ⟨_, e, 0, _, .a (.int n), rfl, rfl, h⟩⟩
theorem ltT_go {i j : Nat} {o u : Option Int} {σ : L2.St} {H : Hp} {Q : VK} (e : σ[i]? = some (some (optV o))) (e2 : σ[j]? = some (some (optV u))) (lt : ∀ n m, o = some n → u = some m → n < m) (h : Q (.bl true) H) : tOrV (tNone i) (tOrV (tNone j) (tOp (rI0 fun i j => V.bl (decide (i < j))) (tVar i) (tVar j))) σ H Q := by
  cases o with
  | none => exact ⟨_, e, rfl, _, rfl, iteSe (by decide) h⟩
  | some n =>
    refine ⟨_, e, rfl, _, rfl, iteSf (by simp [optV]) ?_⟩
    cases u with
    | none => exact ⟨_, e2, rfl, _, rfl, iteSe (by decide) h⟩
    | some m =>
      refine ⟨_, e2, rfl, _, rfl, iteSf (by simp [optV]) ⟨_, e, _, e2, _, _, rfl, rfl, ?_⟩⟩
      show Q (.bl (decide (n < m))) H
      rw [decide_eq_true (lt n m rfl rfl)]
      exact h
section
variable {P : Program} {w : World} {K : PySem.W.Frag} {mg : Str → Option Value} {base : Heap}
abbrev s_Worth_init : Stmt := inClass (top 33) 0
abbrev n_Worth_init : List Str := ["self", "total", "kind", "factor", "what", "least", "below"]
theorem sc_Worth_init : FnScope n_Worth_init ["self", "total", "kind", "factor", "what", "least", "below"] (defScope s_Worth_init) := ⟨rfl, rfl, rfl, by decide +kernel, rfl, by decide +kernel, by decide +kernel⟩
def spWorthI (WO : Addr) : Sp := fun vs H Q _ => ∃ (x dx : Addr) (e : WorthD), vs = [.ref x, .str e.total, .str e.kind, .int e.factor, .str e.what, optV e.least, optV e.below] ∧ H x = some (.ins WO dx []) ∧ WoOk e ∧
  ∀ H1, Same H H1 → Q .non (upd H1 x (.ins WO dx (woFs e)))
theorem ok_worthI {Z : Nat → Addr} {WO fI : Addr} {fd : FuncData} {d1 d2 : V} (T : Txt mg) (CE : ClsA K mg "Worth" WO ["total", "kind", "factor", "what", "least", "below"]) (g_check : Has P w K mg base 1 "check" ["holds", "part"] spCheckT) (g_is_name : Has P w K mg base 1 "is_name" ["value"] (spName Z)) (g_is_integer : Has P w K mg base 1 "is_integer" ["value"] (spInt Z))
    (F : FunD K "__init__" "Worth.__init__" (defArgs s_Worth_init) (defBody s_Worth_init) (defScope s_Worth_init) [d1, d2] [] fI fd) : FnOk P w K mg base CX0 3 fI fd ["self", "total", "kind", "factor", "what", "least", "below"] (spWorthI WO) := by
  refine F.ok sc_Worth_init (fun vs H Q E h => ?_) (fun cdv A outer s H vs Q E hr h => ?_)
  · obtain ⟨x, dx, e, rfl, _⟩ := h
    rfl
  · obtain ⟨x, dx, e, rfl, hx, ok, k⟩ := h
    refine ⟨_, (pss_cons (ps_expr (pe_callHas g_check (hr.mono (by decide)) rfl (pa_cons (pe_callHas g_is_name (hr.mono (by decide)) rfl (pa_cons (pv 1) pa_nil)) (pa_cons pe_str pa_nil))))
      (pss_cons (ps_expr (pe_callHas g_check (hr.mono (by decide)) rfl (pa_cons (pe_callHas g_is_name (hr.mono (by decide)) rfl (pa_cons (pv 2) pa_nil)) (pa_cons pe_str pa_nil))))
      (pss_cons (ps_expr (pe_callHas g_check (hr.mono (by decide)) rfl (pa_cons (pe_callHas g_is_integer (hr.mono (by decide)) rfl (pa_cons (pv 3) pa_nil)) (pa_cons pe_str pa_nil))))
      (pss_cons (ps_expr (pe_callHas g_check (hr.mono (by decide)) rfl (pa_cons (pe_cmpR op_in_seq (pv 4) (pe_tup (pa_cons pe_str (pa_cons pe_str pa_nil))) (by rfl)) (pa_cons pe_str pa_nil))))
      (pss_cons (ps_expr (pe_callHas g_check (hr.mono (by decide)) rfl (pa_cons (pe_or (pe_cmpR op_isN (pv 5) pe_non (nomark _)) (pe_one (pe_callHas g_is_integer (hr.mono (by decide)) rfl (pa_cons (pv 5) pa_nil)))) (pa_cons pe_str pa_nil))))
      (pss_cons (ps_expr (pe_callHas g_check (hr.mono (by decide)) rfl (pa_cons (pe_or (pe_cmpR op_isN (pv 6) pe_non (nomark _)) (pe_one (pe_callHas g_is_integer (hr.mono (by decide)) rfl (pa_cons (pv 6) pa_nil)))) (pa_cons pe_str pa_nil))))
      (pss_cons (ps_expr (pe_callHas g_check (hr.mono (by decide)) rfl (pa_cons (pe_or (pe_cmpR op_isN (pv 5) pe_non (nomark _)) (pe_or (pe_cmpR op_isN (pv 6) pe_non (nomark _)) (pe_one (pe_cmpR op_lt (pv 5) (pv 6) (nomark _))))) (pa_cons pe_str pa_nil))))
      (pss_cons (ps_fld (pv 0) (pv 1) rfl)
      (pss_cons (ps_fld (pv 0) (pv 2) rfl)
      (pss_cons (ps_fld (pv 0) (pv 3) rfl)
      (pss_cons (ps_fld (pv 0) (pv 4) rfl)
      (pss_cons (ps_fld (pv 0) (pv 5) rfl)
      (pss_one (ps_fld (pv 0) (pv 6) rfl)))))))))))))), ?_⟩
    refine ⟨_, rfl, 0, _, .a (.str e.total), rfl, rfl, (fun s q => by cases q; have := nameB_len ok.total; omega), .str "total", (by rw [show at2 name0 (.a (.str e.total)) = nameB e.total from rfl, ok.total]; rfl), ?_⟩
    refine ⟨_, rfl, 0, _, .a (.str e.kind), rfl, rfl, (fun s q => by cases q; have := nameB_len ok.kind; omega), .str "kind", (by rw [show at2 name0 (.a (.str e.kind)) = nameB e.kind from rfl, ok.kind]; rfl), ?_⟩
    refine ⟨_, rfl, 0, _, .a (.int e.factor), rfl, rfl, _, rfl, ?_⟩
    refine ⟨_, rfl, (by decide : 2 ≤ sizeLine), fun t ht => ?_⟩
    obtain ⟨s1, h1⟩ := new_at (o := .tup ([("amount" : Str), "one"].map V.str)) ht
    refine ⟨t, [("amount" : Str), "one"].map V.str, rfl, .inr (SqT.of h1), rfl, flat_strs _, ?_⟩
    rw [if_neg (by decide), inV_strs, decide_eq_true ok.what]
    refine ⟨_, rfl, ?_⟩
    have hx1 := s1 _ _ hx
    have k1 := k _ s1
    try dsimp only
    refine seq_go ?_
    refine optT_go (i := 5) (o := e.least) rfl ⟨_, rfl, ?_⟩
    try dsimp only
    refine seq_go ?_
    refine optT_go (i := 6) (o := e.below) rfl ⟨_, rfl, ?_⟩
    try dsimp only
    refine seq_go ?_
    refine ltT_go (i := 5) (j := 6) (o := e.least) (u := e.below) rfl rfl ok.lt ⟨_, rfl, ?_⟩
    refine ⟨_, rfl, _, rfl, x, WO, dx, _, rfl, hx1, CE.cl, CE.n _ (by simp), (by show 0 < 1000; decide), ?_⟩
    refine ⟨_, rfl, _, rfl, x, WO, dx, _, rfl, upd_same, CE.cl, CE.n _ (by simp), (by show 1 < 1000; decide), ?_⟩
    refine ⟨_, rfl, _, rfl, x, WO, dx, _, rfl, upd_same, CE.cl, CE.n _ (by simp), (by show 2 < 1000; decide), ?_⟩
    refine ⟨_, rfl, _, rfl, x, WO, dx, _, rfl, upd_same, CE.cl, CE.n _ (by simp), (by show 3 < 1000; decide), ?_⟩
    refine ⟨_, rfl, _, rfl, x, WO, dx, _, rfl, upd_same, CE.cl, CE.n _ (by simp), (by show 4 < 1000; decide), ?_⟩
    refine ⟨_, rfl, _, rfl, x, WO, dx, _, rfl, upd_same, CE.cl, CE.n _ (by simp), (by show 5 < 1000; decide), ?_⟩
    rw [upd_upd, upd_upd, upd_upd, upd_upd, upd_upd]
    exact k1
abbrev s_Handler_init : Stmt := inClass (top 34) 0
abbrev n_Handler_init : List Str := ["self", "event", "rows"]
theorem sc_Handler_init : FnScope n_Handler_init ["self", "event", "rows"] (defScope s_Handler_init) := ⟨rfl, rfl, rfl, by decide +kernel, rfl, by decide +kernel, by decide +kernel⟩
/-- a handler of the package -/
def HaOb (K : PySem.W.Frag) (p : Pkg) (HA : Addr) (H : Hp) (v : V) (nm : Str) (rs : List RowD) : Prop := ∃ x dx r xs, v = .ref x ∧ H x = some (.ins HA dx [("event", .str nm), ("rows", .ref r)]) ∧ Tp K H r xs ∧ RowObL K p H rs xs
def spHandlerI (K : PySem.W.Frag) (p : Pkg) (HA : Addr) : Sp := fun vs H Q _ => ∃ (x dx r : Addr) (nm : Str) (xs : List V) (rs : List RowD), vs = [.ref x, .str nm, .ref r] ∧ H x = some (.ins HA dx []) ∧ nameB nm = true ∧ Sq K H r xs ∧ RowObL K p H rs xs ∧ rs.length ≤ 1000 ∧
  ∀ (H' : Hp) (r' : Addr), (∀ y u, y ≠ x → H y = some u → H' y = some u) → Tp K H' r' xs → H' x = some (.ins HA dx [("event", .str nm), ("rows", .ref r')]) → Q .non H'
theorem ok_handlerI {Z : Nat → Addr} {p : Pkg} {HA fI : Addr} {fd : FuncData} {d1 : V} (T : Txt mg) (CE : ClsA K mg "Handler" HA ["event", "rows"]) (g_check : Has P w K mg base 1 "check" ["holds", "part"] spCheckT) (g_is_name : Has P w K mg base 1 "is_name" ["value"] (spName Z)) (g_are_rows : Has P w K mg base 2 "are_rows" ["value"] (spRowsT K p))
    (F : FunD K "__init__" "Handler.__init__" (defArgs s_Handler_init) (defBody s_Handler_init) (defScope s_Handler_init) [d1] [] fI fd) : FnOk P w K mg base CX0 3 fI fd ["self", "event", "rows"] (spHandlerI K p HA) := by
  refine F.ok sc_Handler_init (fun vs H Q E h => ?_) (fun cdv A outer s H vs Q E hr h => ?_)
  · obtain ⟨x, dx, r, nm, xs, rs, rfl, _⟩ := h
    rfl
  · obtain ⟨x, dx, r, nm, xs, rs, rfl, hx, on, sr, rr, lr, k⟩ := h
    refine ⟨_, (pss_cons (ps_expr (pe_callHas g_check (hr.mono (by decide)) rfl (pa_cons (pe_callHas g_is_name (hr.mono (by decide)) rfl (pa_cons (pv 1) pa_nil)) (pa_cons pe_str pa_nil))))
      (pss_cons (ps_expr (pe_callHas g_check (hr.mono (by decide)) rfl (pa_cons (pe_callHas g_are_rows (hr.mono (by decide)) rfl (pa_cons (pv 2) pa_nil)) (pa_cons pe_str pa_nil))))
      (pss_cons (ps_fld (pv 0) (pv 1) rfl)
      (pss_one (ps_fld (pv 0) (pe_callTy call_tuple_of (by rfl) T.z_tuple (by decide +kernel) (pa_cons (pv 2) pa_nil)) rfl))))), ?_⟩
    refine ⟨_, rfl, 0, _, .a (.str nm), rfl, rfl, (fun s q => by cases q; have := nameB_len on; omega), .str "event", (by rw [show at2 name0 (.a (.str nm)) = nameB nm from rfl, on]; rfl), ?_⟩
    refine ⟨_, rfl, r, xs, rs, rfl, sr, rr, lr, fun H1 s1 => ⟨_, rfl, ?_⟩⟩
    have hx1 := s1 _ _ hx
    try dsimp only
    refine seq_go ⟨_, rfl, _, rfl, x, HA, dx, _, rfl, hx1, CE.cl, CE.n _ (by simp), (by show 0 < 1000; decide), ?_⟩
    have sr3 := (sr.same s1).other (u := .ins HA dx (putF "event" (.str nm) [])) hx1
    unfold sFld
    try dsimp only
    refine tupcall_go (by rfl) sr3 fun H4 r' s4 tr => ?_
    have hx4 : H4 x = some (.ins HA dx (putF "event" (.str nm) [])) := s4 _ _ upd_same
    refine ⟨_, rfl, x, HA, dx, _, rfl, hx4, CE.cl, CE.n _ (by simp), (by show 1 < 1000; decide), ?_⟩
    exact k _ r' (fun y u n h => (upd_ne n).trans (s4 _ _ ((upd_ne n).trans (s1 _ _ h)))) (tr.other hx4) upd_same
end
end K14

set_option pp.maxSteps 600
namespace K14
open PySem L2 PySem.Spec PyProof.Rows
theorem nodup_len {α : Type} [DecidableEq α] : ∀ {l m : List α}, l.Nodup → (∀ x ∈ l, x ∈ m) → l.length ≤ m.length
  | [], m, _, _ => Nat.zero_le _
  | x :: l, m, nd, h => by
    obtain ⟨n1, n2⟩ := List.nodup_cons.mp nd
    have hx := h x List.mem_cons_self
    have ih := nodup_len (m := m.erase x) n2 fun y hy => (List.mem_erase_of_ne (fun z => n1 (by rw [← z]; exact hy))).mpr (h y (List.mem_cons_of_mem _ hy))
    rw [List.length_erase_of_mem hx] at ih
    have := List.length_pos_of_mem hx
    rw [List.length_cons]
    omega
theorem EvOk.of {B : BookD} (bok : BkOk B) {e : EventD} (h : okEvent B e) : EvOk e := by
  obtain ⟨hn, h⟩ := h
  have kno : ∀ s ∈ B.rests ++ B.passes, s ≠ ("none" : Str) := fun s hs z => by
    have := bok.kinds s hs
    rw [z] at this
    exact absurd this (by decide +kernel)
  rcases h with ⟨ho, hk, ha, hg⟩ | ⟨ne, nd, mem, h⟩
  · exact ⟨hn, .inl ho, .inr (bok.kinds _ hk), fun _ => kno _ hk, fun _ => ⟨ha, hg⟩, fun z => absurd z (kno _ hk)⟩
  · have n1 : e.origins ≠ [("none" : Str)] := fun z => kno _ (mem "none" (by rw [z]; exact List.mem_singleton.mpr rfl)) rfl
    refine ⟨hn, .inr ⟨ne, ⟨fun s hs => bok.kinds s (mem s hs), nd, ?_⟩⟩, ?_, fun z => absurd z n1, fun z => absurd z n1, fun z => ?_⟩
    · have l := nodup_len nd fun s hs => mem s hs
      have := bok.names
      rw [List.length_append] at this
      omega
    · rcases h with ⟨hk, _, _⟩ | hk
      · exact .inl hk
      · exact .inr (bok.kinds _ hk)
    · rcases h with ⟨_, ha, hg⟩ | hk
      · exact ⟨ha, hg⟩
      · exact absurd z (kno _ hk)
theorem WoOk.of {B : BookD} (bok : BkOk B) {e : WorthD} (h : okWorth B e) : WoOk e := by
  obtain ⟨h1, h2, h3, h4, h5, h6, h7⟩ := h
  refine ⟨bok.toks _ (List.mem_append_left _ h1), bok.kinds _ (List.mem_append_left _ h2), ?_, h7⟩
  have all : wwhatL.all (fun s => decide (s ∈ [("amount" : Str), "one"])) = true := by decide +kernel
  exact of_decide_eq_true (List.all_eq_true.mp all _ h4)
section
variable {P : Program} {w : World} {K : PySem.W.Frag} {mg : Str → Option Value} {base : Heap}
abbrev s_law_event_of : Stmt := top 55
abbrev n_law_event_of : List Str := ["_law_event_here"]
theorem sc_law_event_of : FnScope n_law_event_of ["_law_event_here"] (defScope s_law_event_of) := ⟨rfl, rfl, rfl, by decide +kernel, rfl, by decide +kernel, by decide +kernel⟩
def spEventOf (K : PySem.W.Frag) (EV : Addr) : Sp := fun vs H Q _ => ∃ (v : V) (e : EventD), vs = [v] ∧ EventAt H v e ∧ EvOk e ∧ ∀ H' u, Same H H' → EvOb K EV H' u e → Q u H'
theorem ok_eventOf {EV fE : Addr} {fdE : FuncData} (CE : ClsA K mg "Event" EV ["name", "origins", "kind", "amount", "group"]) (ME : Mk K EV fE) (g_E : FnOk P w K mg base CX0 6 fE fdE ["self", "name", "origins", "kind", "amount", "group"] (spEventI K EV)) (bE : Binds K fdE ["self", "name", "origins", "kind", "amount", "group"] [])
    (F : DefAt K mg "_law_event_of" s_law_event_of ["_law_event_here"]) : Has P w K mg base 8 "_law_event_of" ["_law_event_here"] (spEventOf K EV) := by
  refine F.has sc_law_event_of (fun vs H Q E h => ?_) (fun f cdv A outer s H vs Q E hr h => ?_)
  · obtain ⟨v, e, rfl, _⟩ := h
    rfl
  · obtain ⟨v, e, rfl, ⟨p, o, rfl, hp, ho⟩, ok, ret⟩ := h
    refine ⟨_, (pss_one (ps_ret (pe_make ME g_E (hr.mono (by omega)) rfl CE.m bE .nil pass0 (pa_cons (pe_ix ix_tup (pv 0) pe_int (fun _ _ => rfl)) (pa_cons (pe_ix ix_tup (pv 0) pe_int (fun _ _ => rfl)) (pa_cons (pe_ix ix_tup (pv 0) pe_int (fun _ _ => rfl)) (pa_cons (pe_ix ix_tup (pv 0) pe_int (fun _ _ => rfl)) (pa_cons (pe_ix ix_tup (pv 0) pe_int (fun _ _ => rfl)) pa_nil)))))))), ?_⟩
    refine ret_go ?_
    refine ⟨_, rfl, p, _, _, _, rfl, rfl, SqT.of hp, rfl, ?_⟩
    refine ⟨_, rfl, p, _, _, _, rfl, rfl, SqT.of hp, rfl, ?_⟩
    refine ⟨_, rfl, p, _, _, _, rfl, rfl, SqT.of hp, rfl, ?_⟩
    refine ⟨_, rfl, p, _, _, _, rfl, rfl, SqT.of hp, rfl, ?_⟩
    refine ⟨_, rfl, p, _, _, _, rfl, rfl, SqT.of hp, rfl, ?_⟩
    intro x dx hx hdx nd
    have sl := laid (C := EV) hx hdx nd
    refine ⟨x, dx, o, e, rfl, upd_same, .inl (sl _ _ ho), ok, fun H' o' kp t h => ⟨rfl, ret H' _ (fun z u q => kp z u (ne_of_none q hx) (sl _ _ q)) ⟨x, dx, o', rfl, h, t⟩⟩⟩
abbrev s_law_worth_of : Stmt := top 56
abbrev n_law_worth_of : List Str := ["_law_worth_here"]
theorem sc_law_worth_of : FnScope n_law_worth_of ["_law_worth_here"] (defScope s_law_worth_of) := ⟨rfl, rfl, rfl, by decide +kernel, rfl, by decide +kernel, by decide +kernel⟩
def spWorthOf (WO : Addr) : Sp := fun vs H Q _ => ∃ (v : V) (e : WorthD), vs = [v] ∧ WorthAt H v e ∧ WoOk e ∧ ∀ H' u, Same H H' → WoOb WO H' u e → Q u H'
theorem ok_worthOf {WO fV : Addr} {fdV : FuncData} (CV : ClsA K mg "Worth" WO ["total", "kind", "factor", "what", "least", "below"]) (MV : Mk K WO fV) (g_V : FnOk P w K mg base CX0 3 fV fdV ["self", "total", "kind", "factor", "what", "least", "below"] (spWorthI WO)) (bV : Binds K fdV ["self", "total", "kind", "factor", "what", "least", "below"] [])
    (F : DefAt K mg "_law_worth_of" s_law_worth_of ["_law_worth_here"]) : Has P w K mg base 8 "_law_worth_of" ["_law_worth_here"] (spWorthOf WO) := by
  refine F.has sc_law_worth_of (fun vs H Q E h => ?_) (fun f cdv A outer s H vs Q E hr h => ?_)
  · obtain ⟨v, e, rfl, _⟩ := h
    rfl
  · obtain ⟨v, e, rfl, ⟨p, rfl, hp⟩, ok, ret⟩ := h
    refine ⟨_, (pss_one (ps_ret (pe_make MV g_V (hr.mono (by omega)) rfl CV.m bV .nil pass0 (pa_cons (pe_ix ix_tup (pv 0) pe_int (fun _ _ => rfl)) (pa_cons (pe_ix ix_tup (pv 0) pe_int (fun _ _ => rfl)) (pa_cons (pe_ix ix_tup (pv 0) pe_int (fun _ _ => rfl)) (pa_cons (pe_ix ix_tup (pv 0) pe_int (fun _ _ => rfl)) (pa_cons (pe_ix ix_tup (pv 0) pe_int (fun _ _ => rfl)) (pa_cons (pe_ix ix_tup (pv 0) pe_int (fun _ _ => rfl)) pa_nil))))))))), ?_⟩
    refine ret_go ?_
    refine ⟨_, rfl, p, _, _, _, rfl, rfl, SqT.of hp, rfl, ?_⟩
    refine ⟨_, rfl, p, _, _, _, rfl, rfl, SqT.of hp, rfl, ?_⟩
    refine ⟨_, rfl, p, _, _, _, rfl, rfl, SqT.of hp, rfl, ?_⟩
    refine ⟨_, rfl, p, _, _, _, rfl, rfl, SqT.of hp, rfl, ?_⟩
    refine ⟨_, rfl, p, _, _, _, rfl, rfl, SqT.of hp, rfl, ?_⟩
    refine ⟨_, rfl, p, _, _, _, rfl, rfl, SqT.of hp, rfl, ?_⟩
    intro x dx hx hdx nd
    have sl := laid (C := WO) hx hdx nd
    exact ⟨x, dx, e, rfl, upd_same, ok, fun H1 s1 => ⟨rfl, ret _ _ (fun z u q => (upd_ne (ne_of_none q hx)).trans (s1 _ _ (sl _ _ q))) ⟨x, dx, rfl, upd_same⟩⟩⟩
abbrev s_law_event_told : Stmt := top 57
abbrev n_law_event_told : List Str := ["_law_event_here"]
theorem sc_law_event_told : FnScope n_law_event_told ["_law_event_here"] (defScope s_law_event_told) := ⟨rfl, rfl, rfl, by decide +kernel, rfl, by decide +kernel, by decide +kernel⟩
def spEventTold (K : PySem.W.Frag) (EV : Addr) : Sp := fun vs H Q _ => ∃ (v : V) (e : EventD), vs = [v] ∧ EvOb K EV H v e ∧ ∀ H' t o, Same H H' → Tp K H o (e.origins.map V.str) → H' t = some (.tup [.str e.name, .ref o, .str e.kind, .bl e.amount, .bl e.group]) → Q (.ref t) H'
theorem ok_eventTold {EV : Addr} (CE : ClsA K mg "Event" EV ["name", "origins", "kind", "amount", "group"]) (F : DefAt K mg "_law_event_told" s_law_event_told ["_law_event_here"]) : Has P w K mg base 1 "_law_event_told" ["_law_event_here"] (spEventTold K EV) := by
  refine F.has sc_law_event_told (fun vs H Q E h => ?_) (fun f cdv A outer s H vs Q E hr h => ?_)
  · obtain ⟨v, e, rfl, _⟩ := h
    rfl
  · obtain ⟨v, e, rfl, ⟨x, dx, o, rfl, hx, tp⟩, ret⟩ := h
    refine ⟨_, (pss_one (ps_ret (pe_tup (pa_cons (pe_fld (pv 0) rfl) (pa_cons (pe_fld (pv 0) rfl) (pa_cons (pe_fld (pv 0) rfl) (pa_cons (pe_fld (pv 0) rfl) (pa_cons (pe_fld (pv 0) rfl) pa_nil)))))))), ?_⟩
    have fl : ∀ {f : Str} {v : V}, NoAttr K EV f → ([("name", V.str e.name), ("origins", .ref o), ("kind", .str e.kind), ("amount", .bl e.amount), ("group", .bl e.group)] : List (Str × V)).lookup f = some v → ∀ {Q : VK}, Q v H → tFld K (tVar 0) f (L2.start n_law_event_told [V.ref x]) H Q := fun na lk Q q => ⟨_, rfl, x, EV, dx, _, _, rfl, hx, CE.cl, na, lk, q⟩
    refine ret_go (tupc_go (xs := [.str e.name, .ref o, .str e.kind, .bl e.amount, .bl e.group]) (fun Q q => ?_) (by show 5 ≤ 1000; omega) fun H1 t s1 _ h1 => ret H1 t o s1 tp h1)
    exact cons_go (fl (CE.n _ (by simp)) rfl (cons_go (fl (CE.n _ (by simp)) rfl (cons_go (fl (CE.n _ (by simp)) rfl (cons_go (fl (CE.n _ (by simp)) rfl (cons_go (fl (CE.n _ (by simp)) rfl (nil_go q))))))))))
abbrev s_law_worth_told : Stmt := top 58
abbrev n_law_worth_told : List Str := ["_law_worth_here"]
theorem sc_law_worth_told : FnScope n_law_worth_told ["_law_worth_here"] (defScope s_law_worth_told) := ⟨rfl, rfl, rfl, by decide +kernel, rfl, by decide +kernel, by decide +kernel⟩
def spWorthTold (WO : Addr) : Sp := fun vs H Q _ => ∃ (v : V) (e : WorthD), vs = [v] ∧ WoOb WO H v e ∧ ∀ H' u, Same H H' → WorthAt H' u e → Q u H'
theorem ok_worthTold {WO : Addr} (CV : ClsA K mg "Worth" WO ["total", "kind", "factor", "what", "least", "below"]) (F : DefAt K mg "_law_worth_told" s_law_worth_told ["_law_worth_here"]) : Has P w K mg base 1 "_law_worth_told" ["_law_worth_here"] (spWorthTold WO) := by
  refine F.has sc_law_worth_told (fun vs H Q E h => ?_) (fun f cdv A outer s H vs Q E hr h => ?_)
  · obtain ⟨v, e, rfl, _⟩ := h
    rfl
  · obtain ⟨v, e, rfl, ⟨x, dx, rfl, hx⟩, ret⟩ := h
    refine ⟨_, (pss_one (ps_ret (pe_tup (pa_cons (pe_fld (pv 0) rfl) (pa_cons (pe_fld (pv 0) rfl) (pa_cons (pe_fld (pv 0) rfl) (pa_cons (pe_fld (pv 0) rfl) (pa_cons (pe_fld (pv 0) rfl) (pa_cons (pe_fld (pv 0) rfl) pa_nil))))))))), ?_⟩
    have fl : ∀ {f : Str} {v : V}, NoAttr K WO f → (woFs e).lookup f = some v → ∀ {Q : VK}, Q v H → tFld K (tVar 0) f (L2.start n_law_worth_told [V.ref x]) H Q := fun na lk Q q => ⟨_, rfl, x, WO, dx, _, _, rfl, hx, CV.cl, na, lk, q⟩
    refine ret_go (tupc_go (xs := [.str e.total, .str e.kind, .int e.factor, .str e.what, optV e.least, optV e.below]) (fun Q q => ?_) (by show 6 ≤ 1000; omega) fun H1 t s1 _ h1 => ret H1 _ s1 ⟨t, rfl, h1⟩)
    exact cons_go (fl (CV.n _ (by simp)) rfl (cons_go (fl (CV.n _ (by simp)) rfl (cons_go (fl (CV.n _ (by simp)) rfl (cons_go (fl (CV.n _ (by simp)) rfl (cons_go (fl (CV.n _ (by simp)) rfl (cons_go (fl (CV.n _ (by simp)) rfl (nil_go q))))))))))))
end
end K14

set_option pp.maxSteps 600
namespace K14
open PySem L2 PySem.Spec PyProof.Rows
/-! texts of events and worths -/
def ifW (b : Bool) (s : Str) : List Str := if b then [s] else []
def evW (e : EventD) : List Str := [("event" : Str), e.name] ++ e.origins ++ [("to" : Str), e.kind] ++ ifW e.amount "amount" ++ ifW e.group "group"
def evS (e : EventD) : Str := Txt.join " " (evW e)
def bndW (o : Option Int) (s : Str) : List Str := match o with
  | some n => [s, iS n]
  | none => []
def woW (e : WorthD) : List Str := [("worth" : Str), e.total, e.kind, iS e.factor, e.what] ++ bndW e.least "from" ++ bndW e.below "below"
structure WoNum (e : WorthD) : Prop where
  f : numOk e.factor
  least : ∀ n, e.least = some n → numOk n
  below : ∀ n, e.below = some n → numOk n
def woS (e : WorthD) : Str := Txt.join " " (woW e)
theorem sum_le' {l : List Nat} {B : Nat} (h : ∀ x ∈ l, x ≤ B) : l.sum ≤ l.length * B := by
  induction l with
  | nil => exact Nat.zero_le _
  | cons a l ih =>
    have h1 := h a List.mem_cons_self
    have h2 := ih fun x hx => h x (List.mem_cons_of_mem _ hx)
    rw [List.sum_cons, List.length_cons, Nat.add_mul, Nat.one_mul]
    omega
theorem OrigL.lens {os : List Str} (h : OrigL os) : ∀ x ∈ os, x.length ≤ 4 := by
  rcases h with rfl | h
  · intro x hx
    rw [List.mem_singleton.mp hx]
    decide +kernel
  · exact fun x hx => nameB_len (h.2.each x hx)
theorem ifW_len (b : Bool) (s : Str) : (ifW b s).length ≤ 1 := by
  cases b
  · exact Nat.zero_le _
  · exact Nat.le_refl _
theorem evW_len {e : EventD} (ok : EvOk e) : (evW e).length ≤ 106 := by
  have l1 := ok.origins.len
  have l2 := ifW_len e.amount "amount"
  have l3 := ifW_len e.group "group"
  unfold evW
  simp only [List.length_append, List.length_cons, List.length_nil]
  omega
theorem evW_each {e : EventD} (ok : EvOk e) : ∀ s ∈ evW e, s.length ≤ 6 := by
  intro s hs
  unfold evW at hs
  simp only [List.mem_append, List.mem_cons, List.not_mem_nil, or_false] at hs
  have h1 := nameB_len ok.name
  have h2 := okKind.len ok.kind
  rcases hs with (((h | h) | h) | h) | h
  · rcases h with rfl | rfl
    · decide +kernel
    · omega
  · have := ok.origins.lens s h
    omega
  · rcases h with rfl | rfl
    · decide +kernel
    · omega
  · have : s = "amount" := by
      revert h
      cases e.amount
      · exact fun h => by cases h
      · exact fun h => List.mem_singleton.mp h
    rw [this]
    decide +kernel
  · have : s = "group" := by
      revert h
      cases e.group
      · exact fun h => by cases h
      · exact fun h => List.mem_singleton.mp h
    rw [this]
    decide +kernel
theorem bndW_len (o : Option Int) (s : Str) : (bndW o s).length ≤ 2 := by
  cases o
  · exact Nat.zero_le _
  · exact Nat.le_refl _
theorem bndW_each {o : Option Int} {s : Str} (h : s.length ≤ 2000) (on : ∀ n, o = some n → numOk n) : ∀ x ∈ bndW o s, x.length ≤ 2000 := by
  intro x hx
  cases o with
  | none => cases hx
  | some n =>
    have hx : x = s ∨ x = iS n := by simpa [bndW] using hx
    rcases hx with rfl | rfl
    · exact h
    · exact Nat.le_trans (iS_len (on n rfl)) (by omega)
theorem woW_each {e : WorthD} (ok : WoOk e) (nm : WoNum e) : ∀ s ∈ woW e, s.length ≤ 2000 := by
  intro s hs
  unfold woW at hs
  have h1 := nameB_len ok.total
  have h2 := nameB_len ok.kind
  have h3 := iS_len nm.f
  have h4 : e.what.length ≤ 6 := mem_len ok.what (by decide +kernel)
  rcases List.mem_append.mp hs with hs | hs
  · rcases List.mem_append.mp hs with hs | hs
    · simp only [List.mem_cons, List.not_mem_nil, or_false] at hs
      rcases hs with rfl | rfl | rfl | rfl | rfl
      · decide +kernel
      all_goals omega
    · exact bndW_each (by decide +kernel) nm.least s hs
  · exact bndW_each (by decide +kernel) nm.below s hs
/-- an expression that gives a list of its own, or one that nobody writes -/
def Gives (te : TE) (σ : L2.St) (H : Hp) (xs : List V) : Prop := ∀ Q : VK, (∀ H1 a, Same H H1 → H1 a = some (.lst xs) → Q (.ref a) H1) → te σ H Q
section
variable {ta tb : TE} {σ : L2.St} {H : Hp} {xs ys : List V}
theorem Gives.cat (h : Gives ta σ H xs) (k : ∀ H1, Same H H1 → Gives tb σ H1 ys) (l : xs.length + ys.length ≤ 10000) : Gives (tOp rCat ta tb) σ H (xs ++ ys) := fun Q q => op_go (h _ fun H1 a s1 h1 => k H1 s1 _ fun H2 b s2 h2 => ⟨a, b, xs, ys, rfl, rfl, s2 _ _ h1, h2, Nat.le_trans l (by decide), fun c hc => q _ c ((s1.trans s2).trans (new_at hc).1) (new_at hc).2⟩)
theorem Gives.catN (h : Gives ta σ H xs) (k : ∀ H1, Same H H1 → Gives tb σ H1 ys) (l : xs.length + ys.length ≤ 10000) {Q : VK} (q : ∀ H1 a, Same H H1 → H a = none → H1 a = some (.lst (xs ++ ys)) → Q (.ref a) H1) : tOp rCat ta tb σ H Q := op_go (h _ fun H1 a s1 h1 => k H1 s1 _ fun H2 b s2 h2 => ⟨a, b, xs, ys, rfl, rfl, s2 _ _ h1, h2, Nat.le_trans l (by decide), fun c hc => q _ c ((s1.trans s2).trans (new_at hc).1) (back (s1.trans s2) hc) (new_at hc).2⟩)
theorem Gives.disp {t : TA} (e : ∀ Q : List V → Hp → Prop, Q xs H → t σ H Q) (l : xs.length ≤ 1000) : Gives (tLst t) σ H xs := fun Q q => lst_go e l fun H1 a s1 _ h1 => q H1 a s1 h1
theorem Gives.var {i : Nat} {a : Addr} (e : σ[i]? = some (some (.ref a))) (h : H a = some (.lst xs)) : Gives (tVar i) σ H xs := fun Q q => ⟨_, e, q H a (Same.refl H) h⟩
theorem Gives.rep {tk : TE} {k : Int} (h : Gives ta σ H xs) (e : ∀ H1, Same H H1 → ∀ Q : VK, Q (.int k) H1 → tk σ H1 Q) (k0 : 0 ≤ k) (k1 : k ≤ 1) (l : xs.length ≤ 10) : Gives (tOp rRep ta tk) σ H (List.replicate k.toNat xs).flatten := fun Q q => op_go (h _ fun H1 a s1 h1 => e H1 s1 _ ⟨a, k, xs, rfl, rfl, h1, by omega, by omega, by
  have : k.toNat ≤ 1 := by omega
  have := Nat.mul_le_mul_left xs.length this
  have q1000 : (1000 : Nat) < sizeLine := by decide
  omega, fun c hc => q _ c (s1.trans (new_at hc).1) (new_at hc).2⟩)
end
/-- [str(part) for part in ..], the tuple a new one -/
theorem parts2_go {K : PySem.W.Frag} {te : TE} {x0 x1 x2 : Option V} {xs : List V} {ss : List Str} {H : Hp} {Q : VK} (e : ∀ Q : VK, (∀ H1 p, Same H H1 → H1 p = some (.tup xs) → Q (.ref p) H1) → te [x0, x1, x2] H Q) (pr : Paired Part xs ss) (l : xs.length ≤ 100) (q : ∀ H' D, Same H H' → H' D = some (.lst (ss.map V.str)) → Q (.ref D) H') :
    tLc (iTup K te) (gName 2) tYes (tCB (fun xs H Q => (∃ a, xs = [.str a] ∧ Q (.str a) H) ∨ (∃ i : Int, xs = [.int i] ∧ i.natAbs.log2 < 1920 ∧ Q (.str (toString i)) H)) (tCons (tVar 2) tNil)) [2] [x0, x1, x2] H Q := by
  have q1000 : (1000 : Nat) < sizeLine := by decide
  have lx := pr.len
  refine e _ fun H0 p s0 hp => ⟨p, rfl, ⟨_, SqT.of hp⟩, fun D hD => lc_it (walk_tup (xs := xs)) (fun i H' => Same H0 H' ∧ H' D = some (.lst ((ss.take i).map V.str))) ⟨(new_at hD).1, upd_same⟩ (fun i H' _ z => SqT.of (z.1 _ _ hp)) ?_ ?_⟩
  · rintro i y H1' H1 hi ⟨s1, hD1⟩ ⟨rfl, ey⟩
    obtain ⟨s, es, ps⟩ := pr.at' ey
    have hir := (List.getElem?_eq_some_iff.mp es).1
    have e1 : ss.take (i + 1) = ss.take i ++ [s] := by
      rw [← List.take_append_getElem hir]
      rw [List.getElem?_eq_getElem hir] at es
      rw [Option.some.inj es]
    have go : ∃ acc, H1 D = some (.lst acc) ∧ acc.length < sizeLine ∧ Same H0 (upd H1 D (.lst (acc ++ [V.str s]))) ∧ upd H1 D (.lst (acc ++ [V.str s])) D = some (.lst ((ss.take (i + 1)).map V.str)) := by
      refine ⟨_, hD1, by rw [List.length_map, List.length_take]; omega, fun c o e => (upd_ne (ne_of_none e hD)).trans (s1 _ _ e), ?_⟩
      rw [e1, List.map_append]
      exact upd_same
    refine name_go ⟨rfl, ?_⟩
    unfold tYes
    refine iteSe rfl ?_
    rcases ps with rfl | ⟨m, rfl, om, rfl⟩
    · exact ⟨_, rfl, .inl ⟨s, rfl, go⟩⟩
    · exact ⟨_, rfl, .inr ⟨m, rfl, om, go⟩⟩
  · rintro H1 ⟨s1, hD1⟩
    rw [lx, List.take_length] at hD1
    exact q H1 D (s0.trans s1) hD1
theorem bnd_go {K : PySem.W.Frag} {p a : Addr} {xs : List V} {i : Int} {o : Option Int} {s : Str} {L : List Str} {x2 : Option V} {D : Ends} {H : Hp} (hp : H p = some (.tup xs)) (ei : atI xs i = some (optV o)) (on : ∀ n, o = some n → numOk n) (ha : H a = some (.lst (L.map V.str))) (l : L.length ≤ 100)
    (q : ∀ H', (∀ c u, c ≠ a → H c = some u → H' c = some u) → H' a = some (.lst ((L ++ bndW o s).map V.str)) → D.nx [some (.ref p), some (.ref a), x2] H') :
    tIfS (tTest (tOp (fun x y H Q => y = V.non ∧ Q (V.bl !decide (x = V.non)) H) (tOp (rIxT K) (tVar 0) (tC (V.int i))) (tC V.non))) (tDrop (tBM K "list" rExtend (tVar 1) (tCons (tLst (tCons (tC (V.str s)) (tCons (tCB (fun xs H Q => ∃ i : Int, xs = [V.int i] ∧ i.natAbs.log2 < 1920 ∧ Q (V.str (toString i)) H) (tCons (tOp (rIxT K) (tVar 0) (tC (V.int i))) tNil)) tNil))) tNil))) tNext D [some (.ref p), some (.ref a), x2] H := by
  have q1000 : (1000 : Nat) < sizeLine := by decide
  refine ⟨_, rfl, p, _, _, _, rfl, rfl, SqT.of hp, ei, rfl, _, rfl, ?_⟩
  cases o with
  | none =>
    refine iteSf (by decide) (next_go (q H (fun _ _ _ h => h) ?_))
    rw [ha]
    simp [bndW]
  | some n =>
    refine iteSe (by simp [optV]) ?_
    refine ⟨_, rfl, .inl ⟨rfl, _, SqL.of ha⟩, cons_go (lst_go (xs := [V.str s, V.str (iS n)]) (fun Q q => ?_) (by show 2 ≤ 1000; omega) fun H1 t s1 ht h1 => nil_go ⟨a, t, _, _, rfl, rfl, s1 _ _ ha, h1, ?_, ?_⟩)⟩
    · exact cons_go (c_go (cons_go ⟨_, rfl, p, _, _, _, rfl, rfl, SqT.of hp, ei, n, rfl, on n rfl, nil_go q⟩))
    · rw [List.length_map]
      show _ + 2 ≤ _
      omega
    · refine q _ (fun c u nc h => (upd_ne nc).trans (s1 _ _ h)) ?_
      rw [upd_same, List.map_append]
      rfl
section
variable {P : Program} {w : World} {K : PySem.W.Frag} {mg : Str → Option Value} {base : Heap}
abbrev s_law_event_text : Stmt := top 50
abbrev n_law_event_text : List Str := ["_law_event_here", "_law_words"]
theorem sc_law_event_text : FnScope n_law_event_text ["_law_event_here"] (defScope s_law_event_text) := ⟨rfl, rfl, rfl, by decide +kernel, rfl, by decide +kernel, by decide +kernel⟩
def spEventText : Sp := fun vs H Q _ => ∃ (v : V) (e : EventD), vs = [v] ∧ EventAt H v e ∧ EvOk e ∧ ∀ H', Same H H' → Q (.str (evS e)) H'
theorem ok_eventText (T : Txt mg) (F : DefAt K mg "_law_event_text" s_law_event_text ["_law_event_here"]) : Has P w K mg base 1 "_law_event_text" ["_law_event_here"] spEventText := by
  refine F.has sc_law_event_text (fun vs H Q E h => ?_) (fun f cdv A outer s H vs Q E hr h => ?_)
  · obtain ⟨v, e, rfl, _⟩ := h
    rfl
  · obtain ⟨v, e, rfl, ⟨p, o, rfl, hp, ho⟩, ok, ret⟩ := h
    refine ⟨_, (pss_cons (ps_set (i := 1) sc_law_event_text.nd rfl (Or.inl rfl) (pe_op op_cat (pe_op op_cat (pe_lst (pa_cons pe_str (pa_cons (pe_ix ix_tup (pv 0) pe_int (fun _ _ => rfl)) pa_nil))) (pe_callTy call_list_of (by rfl) T.z_list (by decide +kernel) (pa_cons (pe_ix ix_tup (pv 0) pe_int (fun _ _ => rfl)) pa_nil))) (pe_lst (pa_cons pe_str (pa_cons (pe_ix ix_tup (pv 0) pe_int (fun _ _ => rfl)) pa_nil)))))
      (pss_one (ps_ret (pe_join pe_str (pe_op op_cat (pe_op op_cat (pv 1) (pe_op op_rep (pe_lst (pa_cons pe_str pa_nil)) (pe_callTy call_int1 (by rfl) T.z_int (by decide +kernel) (pa_cons (pe_ix ix_tup (pv 0) pe_int (fun _ _ => rfl)) pa_nil)))) (pe_op op_rep (pe_lst (pa_cons pe_str pa_nil)) (pe_callTy call_int1 (by rfl) T.z_int (by decide +kernel) (pa_cons (pe_ix ix_tup (pv 0) pe_int (fun _ _ => rfl)) pa_nil)))))))), ?_⟩
    have l1 := ok.origins.len
    have ix : ∀ {K' : PySem.W.Frag} {i : Int} {v : V} {σ : L2.St} {H1 : Hp}, σ[0]? = some (some (.ref p)) → Same H H1 → atI [.str e.name, .ref o, .str e.kind, .bl e.amount, .bl e.group] i = some v → ∀ Q : VK, Q v H1 → tOp (rIxT K') (tVar 0) (tC (.int i)) σ H1 Q := fun e0 s1 ea Q q => ⟨_, e0, p, _, _, _, rfl, rfl, SqT.of (s1 _ _ hp), ea, q⟩
    refine seq_asg (Gives.cat (xs := [V.str "event", V.str e.name] ++ e.origins.map V.str) (ys := [V.str "to", V.str e.kind]) (Gives.cat (xs := [V.str "event", V.str e.name]) (ys := e.origins.map V.str) ?_ ?_ ?_) ?_ ?_ _ fun H1 a s1 h1 => name_go ?_)
    · exact Gives.disp (fun Q q => cons_go (c_go (cons_go (ix rfl (Same.refl H) rfl _ (nil_go q))))) (by show 2 ≤ 1000; omega)
    · intro H1 s1 Q q
      exact cb_go (cons_go (ix rfl s1 rfl _ (nil_go ⟨o, _, rfl, .inl (SqL.of (s1 _ _ ho)), fun l hl => q _ l (new_at hl).1 (new_at hl).2⟩)))
    · rw [List.length_map]
      show 2 + _ ≤ _
      omega
    · exact fun H1 s1 => Gives.disp (fun Q q => cons_go (c_go (cons_go (ix rfl s1 rfl _ (nil_go q))))) (by show 2 ≤ 1000; omega)
    · rw [List.length_append, List.length_map]
      show 2 + _ + 2 ≤ _
      omega
    try dsimp only
    refine ret_go ?_
    have bo : ∀ {K' : PySem.W.Frag} {i : Int} {v : Bool} {σ : L2.St} {H1 : Hp}, σ[0]? = some (some (.ref p)) → Same H H1 → atI [V.str e.name, V.ref o, V.str e.kind, V.bl e.amount, V.bl e.group] i = some (V.bl v) → ∀ Q : VK, Q (V.int (if v = true then 1 else 0)) H1 → tCB (fun xs H Q => (∃ i, xs = [V.int i] ∧ Q (V.int i) H) ∨ ∃ k, xs = [V.bl k] ∧ Q (V.int (if k = true then 1 else 0)) H) (tCons (tOp (rIxT K') (tVar 0) (tC (V.int i))) tNil) σ H1 Q := fun e0 s1 ea Q q => cb_go (cons_go (ix e0 s1 ea _ (nil_go (.inr ⟨_, rfl, q⟩))))
    have k0 : ∀ b : Bool, (0 : Int) ≤ (if b = true then 1 else 0) ∧ (if b = true then 1 else 0 : Int) ≤ 1 ∧ (if b = true then 1 else 0 : Int).toNat ≤ 1 := fun b => by cases b <;> decide
    have rl : ∀ (b : Bool) (v : V), ((List.replicate (if b = true then 1 else 0 : Int).toNat [v]).flatten).length ≤ 1 := fun b v => by
      cases b
      · exact Nat.zero_le _
      · exact Nat.le_refl _
    have a1 := rl e.amount (V.str "amount")
    have a2 := rl e.group (V.str "group")
    refine ⟨⟨_, rfl⟩, Gives.cat (xs := ([V.str "event", V.str e.name] ++ e.origins.map V.str ++ [V.str "to", V.str e.kind]) ++ (List.replicate (if e.amount = true then 1 else 0 : Int).toNat [V.str "amount"]).flatten) (ys := (List.replicate (if e.group = true then 1 else 0 : Int).toNat [V.str "group"]).flatten) (Gives.cat (xs := [V.str "event", V.str e.name] ++ e.origins.map V.str ++ [V.str "to", V.str e.kind]) (ys := (List.replicate (if e.amount = true then 1 else 0 : Int).toNat [V.str "amount"]).flatten) ?_ ?_ ?_) ?_ ?_ _ fun H5 a5 s5 h5 => ?_⟩
    · exact Gives.var rfl h1
    · exact fun H2 s2 => Gives.rep (Gives.disp (fun Q q => cons_go (c_go (nil_go q))) (by show 1 ≤ 1000; omega)) (fun H3 s3 Q q => bo rfl (s1.trans (s2.trans s3)) rfl Q q) (k0 _).1 (k0 _).2.1 (by show 1 ≤ 10; omega)
    · simp only [List.length_append, List.length_map, List.length_cons, List.length_nil]
      omega
    · exact fun H2 s2 => Gives.rep (Gives.disp (fun Q q => cons_go (c_go (nil_go q))) (by show 1 ≤ 1000; omega)) (fun H3 s3 Q q => bo rfl (s1.trans (s2.trans s3)) rfl Q q) (k0 _).1 (k0 _).2.1 (by show 1 ≤ 10; omega)
    · rw [List.length_append]
      simp only [List.length_append, List.length_map, List.length_cons, List.length_nil]
      omega
    have el : ([V.str "event", V.str e.name] ++ e.origins.map V.str ++ [V.str "to", V.str e.kind]) ++ (List.replicate (if e.amount = true then 1 else 0 : Int).toNat [V.str "amount"]).flatten ++ (List.replicate (if e.group = true then 1 else 0 : Int).toNat [V.str "group"]).flatten = (evW e).map V.str := by
      unfold evW ifW
      cases e.amount <;> cases e.group <;> simp
    rw [el] at h5
    refine ⟨_, a5, evW e, rfl, rfl, .inl (SqL.of h5), ?_, ret H5 (s1.trans s5)⟩
    have e1 := sum_le' (l := (evW e).map (·.length)) (B := 6) fun x hx => by
      obtain ⟨z, hz, rfl⟩ := List.mem_map.mp hx
      exact evW_each ok z hz
    have e2 := evW_len ok
    rw [List.length_map] at e1
    have e3 : (" " : Str).length = 1 := rfl
    rw [e3]
    omega
abbrev s_law_worth_text : Stmt := top 51
abbrev n_law_worth_text : List Str := ["_law_worth_here", "_law_words", "_law_part"]
theorem sc_law_worth_text : FnScope n_law_worth_text ["_law_worth_here"] (defScope s_law_worth_text) := ⟨rfl, rfl, rfl, by decide +kernel, rfl, by decide +kernel, by decide +kernel⟩
def spWorthText : Sp := fun vs H Q _ => ∃ (v : V) (e : WorthD), vs = [v] ∧ WorthAt H v e ∧ WoOk e ∧ WoNum e ∧ ∀ H', Same H H' → Q (.str (woS e)) H'
theorem ok_worthText (T : Txt mg) (F : DefAt K mg "_law_worth_text" s_law_worth_text ["_law_worth_here"]) : Has P w K mg base 1 "_law_worth_text" ["_law_worth_here"] spWorthText := by
  refine F.has sc_law_worth_text (fun vs H Q E h => ?_) (fun f cdv A outer s H vs Q E hr h => ?_)
  · obtain ⟨v, e, rfl, _⟩ := h
    rfl
  · obtain ⟨v, e, rfl, ⟨p, rfl, hp⟩, ok, nm, ret⟩ := h
    refine ⟨_, (pss_cons (ps_set (i := 1) sc_law_worth_text.nd rfl (Or.inl rfl) (pe_op op_cat (pe_lst (pa_cons pe_str pa_nil)) (pe_lc (own := [("_law_part", 2)]) (g := gName 2) (by rfl) sc_law_worth_text.nd (pi_tup (pe_slice sl_tup (pv 0) po_none (po_some pe_int))) (blkOk_by (own := [("_law_part", 2)]) (N := n_law_worth_text) (sc := defScope s_law_worth_text) (by decide +kernel)) (fun _ _ _ _ _ => (pg_name (i := 2) sc_law_worth_text.nd rfl (Or.inl rfl))) (fun _ _ _ _ _ => pts_nil) (fun _ _ _ _ _ => (pe_callTy call_str_part (by rfl) T.z_str (by decide +kernel) (pa_cons (pv 2) pa_nil))))))
      (pss_cons (ps_if (pt_cmpR op_notN (pe_ix ix_tup (pv 0) pe_int (fun _ _ => rfl)) pe_non (nomark _)) (pss_one (ps_expr (pe_bm PySem.F.plainAttrs_list PySem.F.slot_list_extend PySem.F.type_list_extend mt_extend (pv 1) (pa_cons (pe_lst (pa_cons pe_str (pa_cons (pe_callTy call_str_int (by rfl) T.z_str (by decide +kernel) (pa_cons (pe_ix ix_tup (pv 0) pe_int (fun _ _ => rfl)) pa_nil)) pa_nil))) pa_nil)))) pss_nil)
      (pss_cons (ps_if (pt_cmpR op_notN (pe_ix ix_tup (pv 0) pe_int (fun _ _ => rfl)) pe_non (nomark _)) (pss_one (ps_expr (pe_bm PySem.F.plainAttrs_list PySem.F.slot_list_extend PySem.F.type_list_extend mt_extend (pv 1) (pa_cons (pe_lst (pa_cons pe_str (pa_cons (pe_callTy call_str_int (by rfl) T.z_str (by decide +kernel) (pa_cons (pe_ix ix_tup (pv 0) pe_int (fun _ _ => rfl)) pa_nil)) pa_nil))) pa_nil)))) pss_nil)
      (pss_one (ps_ret (pe_join pe_str (pv 1))))))), ?_⟩
    refine seq_asg (Gives.catN (xs := [V.str "worth"]) (ys := [e.total, e.kind, iS e.factor, e.what].map V.str) ?_ ?_ ?_ fun H1 a s1 an h1 => name_go ?_)
    · exact Gives.disp (fun Q q => cons_go (c_go (nil_go q))) (by show 1 ≤ 1000; omega)
    · intro H1 s1 Q q
      refine parts2_go (xs := [.str e.total, .str e.kind, .int e.factor, .str e.what]) (fun Q q => ?_) (.cons (.inl rfl) (.cons (.inl rfl) (.cons (.inr ⟨_, rfl, nm.f, rfl⟩) (.cons (.inl rfl) .nil)))) (by show 4 ≤ 100; omega) q
      have hp1 := s1 _ _ hp
      refine ⟨_, rfl, 4, rfl, p, _, rfl, SqT.of hp1, ?_, fun t ht => ?_⟩
      · rintro ⟨_, z⟩
        revert z
        show ¬ HT.sIx 6 6 (some ((4 : Nat) : Int)) = 6
        rw [HT.sIx_nat]
        decide
      · refine q _ t (new_at ht).1 ?_
        rw [upd_same, show (some (4 : Int)) = some ((4 : Nat) : Int) from rfl, cutN (by show 4 ≤ 6; omega)]
        rfl
    · show 1 + 4 ≤ 10000
      omega
    try dsimp only
    have na : ∀ {H' : Hp} {c : Addr} {ys : List V}, H' a = some (.lst ys) → H' c = some (.tup [.str e.total, .str e.kind, .int e.factor, .str e.what, optV e.least, optV e.below]) → c ≠ a := fun h h' z => by rw [z, h] at h'; cases h'
    have hp1 := s1 _ _ hp
    refine seq_go ?_
    refine bnd_go (K := K) (o := e.least) (L := [("worth" : Str), e.total, e.kind, iS e.factor, e.what]) hp1 rfl nm.least h1 (by show 5 ≤ 100; omega) fun H2 k2 h2 => ?_
    have hp2 := k2 _ _ (na h1 hp1) hp1
    try dsimp only
    refine seq_go ?_
    refine bnd_go (K := K) (o := e.below) (L := [("worth" : Str), e.total, e.kind, iS e.factor, e.what] ++ bndW e.least "from") hp2 rfl nm.below h2 ?_ fun H3 k3 h3 => ?_
    · have : (bndW e.least "from").length ≤ 2 := bndW_len _ _
      rw [List.length_append]
      show 5 + _ ≤ _
      omega
    try dsimp only
    refine ret_go ?_
    have l1 : (bndW e.least "from").length ≤ 2 := bndW_len _ _
    have l2 : (bndW e.below "below").length ≤ 2 := bndW_len _ _
    have e2 : (woW e).length ≤ 9 := by
      unfold woW
      simp only [List.length_append, List.length_cons, List.length_nil]
      omega
    have e1 := sum_le' (l := (woW e).map (·.length)) (B := 2000) fun x hx => by
      obtain ⟨z, hz, rfl⟩ := List.mem_map.mp hx
      exact woW_each ok nm z hz
    have e3 : (" " : Str).length = 1 := rfl
    rw [List.length_map] at e1
    refine ⟨⟨_, rfl⟩, _, rfl, _, a, woW e, rfl, rfl, .inl (SqL.of h3), ?_, ret H3 fun c u h => ?_⟩
    · rw [e3]
      omega
    · have nc : c ≠ a := ne_of_none h an
      exact k3 _ _ nc (k2 _ _ nc (s1 _ _ h))
end
end K14

set_option pp.maxSteps 600
namespace K14
open PySem L2 PySem.Spec PyProof.Rows
def EvSh (K : PySem.W.Frag) (EV : Addr) (H : Hp) (a : Addr) (z : Str) : Prop := ∃ e, EvOb K EV H (.ref a) e ∧ EvOk e ∧ z = evS e
def WoSh (WO : Addr) (H : Hp) (a : Addr) (z : Str) : Prop := ∃ e, WoOb WO H (.ref a) e ∧ WoOk e ∧ WoNum e ∧ z = woS e
def haS (nm : Str) (rs : List RowD) : Str := Txt.join "\n" (("on " ++ nm) :: rowsLines rs)
def HaSh (K : PySem.W.Frag) (p : Pkg) (HA : Addr) (k : Nat) (H : Hp) (a : Addr) (z : Str) : Prop := ∃ nm rs, HaOb K p HA H (.ref a) nm rs ∧ nameB nm = true ∧ okRL rs k ∧ rs.length ≤ 20 ∧ z = haS nm rs
/-- [.. for word, value in ((s1, v1), (s2, v2)) if ..] -/
theorem pairs2_go {K : PySem.W.Frag} {te el : TE} {tt : TT} {x0 x1 x2 x3 : Option V} {s1 s2 w1 w2 : Str} {v1 v2 : V} {c1 c2 : Bool} {H : Hp} {Q : VK}
    (e : ∀ Q : VK, (∀ H1 q t1 t2, Same H H1 → H1 q = some (.tup [.ref t1, .ref t2]) → H1 t1 = some (.tup [.str s1, v1]) → H1 t2 = some (.tup [.str s2, v2]) → Q (.ref q) H1) → te [x0, x1, x2, x3] H Q)
    (f1 : ∀ H1 (Q : Bool → Hp → Prop), Q c1 H1 → tt [x0, x1, some (.str s1), some v1] H1 Q) (f2 : ∀ H1 (Q : Bool → Hp → Prop), Q c2 H1 → tt [x0, x1, some (.str s2), some v2] H1 Q)
    (g1 : ∀ H1 (Q : VK), c1 = true → Q (.str w1) H1 → el [x0, x1, some (.str s1), some v1] H1 Q) (g2 : ∀ H1 (Q : VK), c2 = true → Q (.str w2) H1 → el [x0, x1, some (.str s2), some v2] H1 Q)
    (q : ∀ H' D, Same H H' → H D = none → H' D = some (.lst ((ifW c1 w1 ++ ifW c2 w2).map V.str)) → Q (.ref D) H') :
    tLc (iTup K te) (gTup K 2 (gCons (gName 2) (gCons (gName 3) gNil))) tt el [2, 3] [x0, x1, x2, x3] H Q := by
  have q1000 : (1000 : Nat) < sizeLine := by decide
  have lw : ∀ (b : Bool) (s : Str), (ifW b s).length ≤ 1 := ifW_len
  refine e _ fun H0 q0 t1 t2 s0 hq ht1 ht2 => ⟨q0, rfl, ⟨_, SqT.of hq⟩, fun D hD => lc_it (walk_tup (xs := [.ref t1, .ref t2])) (fun i H' => Same H0 H' ∧ H' D = some (.lst (((if i = 0 then [] else if i = 1 then ifW c1 w1 else ifW c1 w1 ++ ifW c2 w2) : List Str).map V.str))) ⟨(new_at hD).1, upd_same⟩ (fun i H' _ z => SqT.of (z.1 _ _ hq)) ?_ ?_⟩
  · rintro i y H1' H1 hi ⟨sm, hD1⟩ ⟨rfl, ey⟩
    have grow : ∀ {o : HO}, Same H0 (upd H1 D o) := fun c o e => (upd_ne (ne_of_none e hD)).trans (sm _ _ e)
    match i, hi with
    | 0, _ =>
      cases ey
      refine ⟨t1, _, rfl, SqT.of (sm _ _ ht1), rfl, _, _, rfl, name_go ⟨_, _, rfl, name_go ⟨rfl, rfl, ?_⟩⟩⟩
      refine f1 _ _ ?_
      cases c1 with
      | false => exact iteSf (by decide) ⟨sm, hD1⟩
      | true =>
        refine iteSe rfl (g1 _ _ rfl ⟨_, hD1, by show 0 < sizeLine; omega, grow, upd_same⟩)
    | 1, _ =>
      cases ey
      refine ⟨t2, _, rfl, SqT.of (sm _ _ ht2), rfl, _, _, rfl, name_go ⟨_, _, rfl, name_go ⟨rfl, rfl, ?_⟩⟩⟩
      refine f2 _ _ ?_
      cases c2 with
      | false =>
        refine iteSf (by decide) ⟨sm, ?_⟩
        rw [hD1]
        simp [ifW]
      | true =>
        refine iteSe rfl (g2 _ _ rfl ⟨_, hD1, ?_, grow, ?_⟩)
        · have := lw c1 w1
          rw [List.length_map]
          show (ifW c1 w1).length < sizeLine
          omega
        · rw [upd_same]
          simp [ifW]
  · rintro H1 ⟨sm, hD1⟩
    exact q H1 D (s0.trans sm) (back s0 hD) hD1
def bnd1 (o : Option Int) (s : Str) : Str := match o with
  | some n => s ++ " " ++ iS n
  | none => ""
theorem fmt2_go {x0 x1 : Option V} {s : Str} {n : Int} {H : Hp} {Q : Str → Hp → Prop} (ls : s.length ≤ 10) (on : numOk n) (q : Q (s ++ " " ++ iS n) H) : tJs [tFmt (tVar 2), tC (V.str " "), tFmt (tVar 3)] Str.empty [x0, x1, some (.str s), some (.int n)] H Q := by
  have q1000 : (10000 : Nat) < sizeLine := by decide
  have ln := iS_len on
  refine ⟨_, rfl, .inl ⟨s, rfl, by omega, ?_⟩⟩
  refine ⟨_, rfl, by rw [slen_app]; show 0 + s.length ≤ sizeLine; omega, ?_⟩
  refine ⟨_, rfl, by rw [slen_app, slen_app]; show 0 + s.length + 1 ≤ sizeLine; omega, ?_⟩
  refine ⟨_, rfl, .inr ⟨n, rfl, on, ?_⟩⟩
  refine ⟨_, rfl, by rw [slen_app, slen_app, slen_app]; show 0 + s.length + 1 + (iS n).length ≤ sizeLine; omega, ?_⟩
  rw [empty_app]
  exact q
def woA (e : WorthD) : List Str := [("worth" : Str), e.total, e.kind, iS e.factor, e.what]
def woT (e : WorthD) : List Str := ifW e.least.isSome (bnd1 e.least "from") ++ ifW e.below.isSome (bnd1 e.below "below")
theorem woT_join (e : WorthD) : Txt.join " " (woA e ++ woT e) = woS e := by
  have ne : woA e ≠ [] := fun z => nomatch z
  have two : ∀ s t : Str, Txt.join " " [s, t] = s ++ " " ++ t := fun s t => by rw [join_cons, join_one]
  have j : ∀ (x : Str) (y : List Str), Txt.join " " (woA e ++ (x :: y)) = Txt.join " " (woA e) ++ " " ++ Txt.join " " (x :: y) := fun x y => join_app _ _ _ ne (fun z => nomatch z)
  have h : woW e = woA e ++ bndW e.least "from" ++ bndW e.below "below" := rfl
  unfold woS
  rw [h]
  unfold woT
  cases e.least with
  | none =>
    cases e.below with
    | none => simp [ifW, bndW]
    | some m =>
      show Txt.join " " (woA e ++ [("below" : Str) ++ " " ++ iS m]) = Txt.join " " (woA e ++ [] ++ [("below" : Str), iS m])
      rw [List.append_nil, j, j, join_one, two]
  | some n =>
    have ne2 : woA e ++ [("from" : Str), iS n] ≠ [] := fun z => by simp at z
    cases e.below with
    | none =>
      show Txt.join " " (woA e ++ [("from" : Str) ++ " " ++ iS n]) = Txt.join " " (woA e ++ [("from" : Str), iS n] ++ [])
      rw [List.append_nil, j, j, join_one, two]
    | some m =>
      show Txt.join " " (woA e ++ [("from" : Str) ++ " " ++ iS n, ("below" : Str) ++ " " ++ iS m]) = Txt.join " " (woA e ++ [("from" : Str), iS n] ++ [("below" : Str), iS m])
      have j2 : ∀ (x : Str) (y : List Str), Txt.join " " (woA e ++ [("from" : Str), iS n] ++ (x :: y)) = Txt.join " " (woA e ++ [("from" : Str), iS n]) ++ " " ++ Txt.join " " (x :: y) := fun x y => join_app _ _ _ ne2 (fun z => nomatch z)
      rw [j2, j, j, two, two, two]
      simp only [sapp_assoc]
theorem woT_each {e : WorthD} (ok : WoOk e) (nm : WoNum e) : ∀ s ∈ woA e ++ woT e, s.length ≤ 2010 := by
  intro s hs
  have b : ∀ (o : Option Int) (k : Str), k.length ≤ 6 → (∀ n, o = some n → numOk n) → ∀ x ∈ ifW o.isSome (bnd1 o k), x.length ≤ 2010 := fun o k lk on x hx => by
    cases o with
    | none => cases hx
    | some n =>
      have hx : x = k ++ " " ++ iS n := List.mem_singleton.mp hx
      have := iS_len (on n rfl)
      rw [hx, slen_app, slen_app]
      show k.length + 1 + _ ≤ _
      omega
  rcases List.mem_append.mp hs with hs | hs
  · have := woW_each ok nm s (by unfold woW; exact List.mem_append_left _ (List.mem_append_left _ hs))
    omega
  · rcases List.mem_append.mp hs with hs | hs
    · exact b _ _ (by decide +kernel) nm.least s hs
    · exact b _ _ (by decide +kernel) nm.below s hs
section
variable {P : Program} {w : World} {K : PySem.W.Frag} {mg : Str → Option Value} {base : Heap}
abbrev s_Event_str : Stmt := inClass (top 32) 2
abbrev n_Event_str : List Str := ["self", "brought", "word", "brings"]
theorem sc_Event_str : FnScope n_Event_str ["self"] (defScope s_Event_str) := ⟨rfl, rfl, rfl, by decide +kernel, rfl, by decide +kernel, by decide +kernel⟩
theorem ok_eventS {EV fI : Addr} {fd : FuncData} (CE : ClsA K mg "Event" EV ["name", "origins", "kind", "amount", "group"]) (F : Fun K "__str__" "Event.__str__" s_Event_str fI fd) : FnOk P w K mg base CX0 1 fI fd ["self"] (spStrC EV (EvSh K EV)) := by
  refine F.ok sc_Event_str (fun vs H Q E h => ?_) (fun cdv A outer s H vs Q E hr h => ?_)
  · obtain ⟨a, dx, fs, z, rfl, _⟩ := h
    rfl
  · obtain ⟨a, dx, fs, z, rfl, ha, ⟨e, ⟨x, dx', o, e1, hx, tp⟩, ok, rfl⟩, ret⟩ := h
    cases e1
    refine ⟨_, (pss_cons (ps_setLc (i := 1) (own := [("word", 2), ("brings", 3)]) (g := gTup K 2 (gCons (gName 2) (gCons (gName 3) gNil))) (by rfl) sc_Event_str.nd rfl rfl (sw_true rfl rfl rfl (by decide +kernel)) (pi_tup (pe_tup (pa_cons (pe_tup (pa_cons pe_str (pa_cons (pe_fld (pv 0) rfl) pa_nil))) (pa_cons (pe_tup (pa_cons pe_str (pa_cons (pe_fld (pv 0) rfl) pa_nil))) pa_nil)))) (blkOk_by (own := [("word", 2), ("brings", 3)]) (N := n_Event_str) (sc := defScope s_Event_str) (by decide +kernel)) (fun _ _ _ _ _ => (pg_tup rfl (pgs_cons (pg_name (i := 2) sc_Event_str.nd rfl (Or.inl rfl)) (pgs_cons (pg_name (i := 3) sc_Event_str.nd rfl (Or.inl rfl)) pgs_nil)))) (fun _ _ _ _ _ => (pts_one (pt_val (pv 3)))) (fun _ _ _ _ _ => (pv 2)))
      (pss_one (ps_ret (pe_join pe_str (pe_lst (pa_cons pe_str (pa_cons (pe_fld (pv 0) rfl) (StX.pa_star (pe_fld (pv 0) rfl) (pa_cons pe_str (pa_cons (pe_fld (pv 0) rfl) (StX.pa_star (pv 1) pa_nil))))))))))), ?_⟩
    have fl : ∀ {K' : PySem.W.Frag} {f : Str} {v : V} {σ : L2.St} {H1 : Hp}, K' = K → σ[0]? = some (some (.ref a)) → Same H H1 → NoAttr K EV f → ([("name", V.str e.name), ("origins", .ref o), ("kind", .str e.kind), ("amount", .bl e.amount), ("group", .bl e.group)] : List (Str × V)).lookup f = some v → ∀ {Q : VK}, Q v H1 → tFld K' (tVar 0) f σ H1 Q := fun eK e0 s1 na lk Q q => by
      subst eK
      exact ⟨_, e0, a, EV, dx', _, _, rfl, s1 _ _ hx, CE.cl, na, lk, q⟩
    refine seq_asg (pairs2_go (s1 := "amount") (s2 := "group") (v1 := .bl e.amount) (v2 := .bl e.group) (c1 := e.amount) (c2 := e.group) (w1 := "amount") (w2 := "group") (fun Q q => ?_) (fun H1 Q q => ⟨_, rfl, _, rfl, q⟩) (fun H1 Q q => ⟨_, rfl, _, rfl, q⟩) (fun H1 Q _ q => ⟨_, rfl, q⟩) (fun H1 Q _ q => ⟨_, rfl, q⟩) fun H1 D s1 _ hD => name_go ?_)
    · refine tup_go (cons_go (tup_go (cons_go (c_go (cons_go (fl rfl rfl (Same.refl H) (CE.n _ (by simp)) rfl (nil_go ⟨by show 2 ≤ sizeLine; decide, fun t1 ht1 => ?_⟩)))))))
      obtain ⟨s1, h1⟩ := new_at (o := .tup [V.str "amount", .bl e.amount]) ht1
      refine cons_go (tup_go (cons_go (c_go (cons_go (fl rfl rfl s1 (CE.n _ (by simp)) rfl (nil_go ⟨by show 2 ≤ sizeLine; decide, fun t2 ht2 => nil_go ?_⟩))))))
      obtain ⟨s2, h2⟩ := new_at (o := .tup [V.str "group", .bl e.group]) ht2
      refine ⟨by show 2 ≤ sizeLine; decide, fun q0 hq0 => ?_⟩
      obtain ⟨s3, h3⟩ := new_at (o := .tup [V.ref t1, .ref t2]) hq0
      exact q _ q0 t1 t2 ((s1.trans s2).trans s3) h3 (s3 _ _ (s2 _ _ h1)) (s3 _ _ h2)
    try dsimp only
    refine ret_go ?_
    have l2 := evW_len ok
    have ed : [V.str "event", V.str e.name] ++ (e.origins.map V.str ++ ([V.str "to", V.str e.kind] ++ (ifW e.amount "amount" ++ ifW e.group "group").map V.str)) = (evW e).map V.str := by
      unfold evW
      simp
    refine ⟨⟨_, rfl⟩, lst_go (xs := (evW e).map V.str) (fun Q q => ?_) ?_ fun H2 t s2 _ h2 => ?_⟩
    · rw [← ed] at q
      refine cons_go (c_go (cons_go (fl rfl rfl s1 (CE.n _ (by simp)) rfl (star_go (fl rfl rfl s1 (CE.n _ (by simp)) rfl ⟨o, _, rfl, .inl (tp.same s1).sq, cons_go (c_go (cons_go (fl rfl rfl s1 (CE.n _ (by simp)) rfl (star_go ⟨_, rfl, D, _, rfl, .inr (SqL.of hD), nil_go ?_⟩))))⟩)))))
      rw [List.append_nil]
      exact q
    · rw [List.length_map]
      omega
    · refine ⟨_, t, evW e, rfl, rfl, .inl (SqL.of h2), ?_, ret H2 (s1.trans s2)⟩
      have e1 := sum_le' (l := (evW e).map (·.length)) (B := 6) fun x hx => by
        obtain ⟨z, hz, rfl⟩ := List.mem_map.mp hx
        exact evW_each ok z hz
      rw [List.length_map] at e1
      have e3 : (" " : Str).length = 1 := rfl
      rw [e3]
      omega
abbrev s_Worth_str : Stmt := inClass (top 33) 2
abbrev n_Worth_str : List Str := ["self", "told", "word", "bound"]
theorem sc_Worth_str : FnScope n_Worth_str ["self"] (defScope s_Worth_str) := ⟨rfl, rfl, rfl, by decide +kernel, rfl, by decide +kernel, by decide +kernel⟩
theorem ok_worthS {WO fI : Addr} {fd : FuncData} (CV : ClsA K mg "Worth" WO ["total", "kind", "factor", "what", "least", "below"]) (T : Txt mg) (F : Fun K "__str__" "Worth.__str__" s_Worth_str fI fd) : FnOk P w K mg base CX0 1 fI fd ["self"] (spStrC WO (WoSh WO)) := by
  refine F.ok sc_Worth_str (fun vs H Q E h => ?_) (fun cdv A outer s H vs Q E hr h => ?_)
  · obtain ⟨a, dx, fs, z, rfl, _⟩ := h
    rfl
  · obtain ⟨a, dx, fs, z, rfl, ha, ⟨e, ⟨x, dx', e1, hx⟩, ok, nm, rfl⟩, ret⟩ := h
    cases e1
    refine ⟨_, (pss_cons (ps_setLc (i := 1) (own := [("word", 2), ("bound", 3)]) (g := gTup K 2 (gCons (gName 2) (gCons (gName 3) gNil))) (by rfl) sc_Worth_str.nd rfl rfl (sw_true rfl rfl rfl (by decide +kernel)) (pi_tup (pe_tup (pa_cons (pe_tup (pa_cons pe_str (pa_cons (pe_fld (pv 0) rfl) pa_nil))) (pa_cons (pe_tup (pa_cons pe_str (pa_cons (pe_fld (pv 0) rfl) pa_nil))) pa_nil)))) (blkOk_by (own := [("word", 2), ("bound", 3)]) (N := n_Worth_str) (sc := defScope s_Worth_str) (by decide +kernel)) (fun _ _ _ _ _ => (pg_tup rfl (pgs_cons (pg_name (i := 2) sc_Worth_str.nd rfl (Or.inl rfl)) (pgs_cons (pg_name (i := 3) sc_Worth_str.nd rfl (Or.inl rfl)) pgs_nil)))) (fun _ _ _ _ _ => (pts_one (pt_cmpR op_notN (pv 3) pe_non (nomark _)))) (fun _ _ _ _ _ => (pe_joined (PJ.cons (pe_fmt (pv 2)) (PJ.cons pe_str (PJ.cons (pe_fmt (pv 3)) PJ.nil))))))
      (pss_one (ps_ret (pe_join pe_str (pe_lst (pa_cons pe_str (pa_cons (pe_fld (pv 0) rfl) (pa_cons (pe_fld (pv 0) rfl) (pa_cons (pe_callTy call_str_int (by rfl) T.z_str (by decide +kernel) (pa_cons (pe_fld (pv 0) rfl) pa_nil)) (pa_cons (pe_fld (pv 0) rfl) (StX.pa_star (pv 1) pa_nil))))))))))), ?_⟩
    have fl : ∀ {K' : PySem.W.Frag} {f : Str} {v : V} {σ : L2.St} {H1 : Hp}, K' = K → σ[0]? = some (some (.ref a)) → Same H H1 → NoAttr K WO f → (woFs e).lookup f = some v → ∀ {Q : VK}, Q v H1 → tFld K' (tVar 0) f σ H1 Q := fun eK e0 s1 na lk Q q => by
      subst eK
      exact ⟨_, e0, a, WO, dx', _, _, rfl, s1 _ _ hx, CV.cl, na, lk, q⟩
    have tt : ∀ (o : Option Int) (x0 x1 x2 : Option V) (H1 : Hp) (Q : Bool → Hp → Prop), Q o.isSome H1 → tTest (tOp (fun x y H Q => y = V.non ∧ Q (V.bl !decide (x = V.non)) H) (tVar 3) (tC V.non)) [x0, x1, x2, some (optV o)] H1 Q := fun o x0 x1 x2 H1 Q q => by
      refine ⟨_, rfl, rfl, _, rfl, ?_⟩
      cases o with
      | none => exact q
      | some n => exact q
    refine seq_asg (pairs2_go (s1 := "from") (s2 := "below") (v1 := optV e.least) (v2 := optV e.below) (c1 := e.least.isSome) (c2 := e.below.isSome) (w1 := bnd1 e.least "from") (w2 := bnd1 e.below "below") (fun Q q => ?_) (fun H1 Q q => tt _ _ _ _ H1 Q q) (fun H1 Q q => tt _ _ _ _ H1 Q q) (fun H1 Q _ q => ?_) (fun H1 Q _ q => ?_) fun H1 D s1 _ hD => name_go ?_)
    · refine tup_go (cons_go (tup_go (cons_go (c_go (cons_go (fl rfl rfl (Same.refl H) (CV.n _ (by simp)) rfl (nil_go ⟨by show 2 ≤ sizeLine; decide, fun t1 ht1 => ?_⟩)))))))
      obtain ⟨s1, h1⟩ := new_at (o := .tup [V.str "from", optV e.least]) ht1
      refine cons_go (tup_go (cons_go (c_go (cons_go (fl rfl rfl s1 (CV.n _ (by simp)) rfl (nil_go ⟨by show 2 ≤ sizeLine; decide, fun t2 ht2 => nil_go ?_⟩))))))
      obtain ⟨s2, h2⟩ := new_at (o := .tup [V.str "below", optV e.below]) ht2
      refine ⟨by show 2 ≤ sizeLine; decide, fun q0 hq0 => ?_⟩
      obtain ⟨s3, h3⟩ := new_at (o := .tup [V.ref t1, .ref t2]) hq0
      exact q _ q0 t1 t2 ((s1.trans s2).trans s3) h3 (s3 _ _ (s2 _ _ h1)) (s3 _ _ h2)
    · rename_i c
      obtain ⟨n, en⟩ := Option.isSome_iff_exists.mp c
      rw [en] at q ⊢
      exact fmt2_go (by decide) (nm.least n en) q
    · rename_i c
      obtain ⟨n, en⟩ := Option.isSome_iff_exists.mp c
      rw [en] at q ⊢
      exact fmt2_go (by decide) (nm.below n en) q
    try dsimp only
    refine ret_go ?_
    have hD' : H1 D = some (.lst ((woT e).map V.str)) := hD
    have l2 : (woT e).length ≤ 2 := by
      unfold woT
      have a1 := ifW_len e.least.isSome (bnd1 e.least "from")
      have a2 := ifW_len e.below.isSome (bnd1 e.below "below")
      rw [List.length_append]
      omega
    have ed : [V.str "worth", V.str e.total, V.str e.kind, V.str (iS e.factor), V.str e.what] ++ (woT e).map V.str = (woA e ++ woT e).map V.str := by
      rw [List.map_append]
      rfl
    refine ⟨⟨_, rfl⟩, lst_go (xs := (woA e ++ woT e).map V.str) (fun Q q => ?_) ?_ fun H2 t s2 _ h2 => ?_⟩
    · rw [← ed] at q
      refine cons_go (c_go (cons_go (fl rfl rfl s1 (CV.n _ (by simp)) rfl (cons_go (fl rfl rfl s1 (CV.n _ (by simp)) rfl (cons_go (cb_go (cons_go (fl rfl rfl s1 (CV.n _ (by simp)) rfl (nil_go ⟨_, rfl, nm.f, ?_⟩))))))))))
      refine cons_go (fl rfl rfl s1 (CV.n _ (by simp)) rfl (star_go ⟨_, rfl, D, _, rfl, .inr (SqL.of hD'), nil_go ?_⟩))
      rw [List.append_nil]
      exact q
    · rw [List.length_map, List.length_append]
      show 5 + _ ≤ _
      omega
    · have fin := ret H2 (s1.trans s2)
      rw [← woT_join] at fin
      refine ⟨_, t, woA e ++ woT e, rfl, rfl, .inl (SqL.of h2), ?_, fin⟩
      have e1 := sum_le' (l := (woA e ++ woT e).map (·.length)) (B := 2010) fun x hx => by
        obtain ⟨z, hz, rfl⟩ := List.mem_map.mp hx
        exact woT_each ok nm z hz
      have e2 : (woA e ++ woT e).length ≤ 7 := by
        rw [List.length_append]
        show 5 + _ ≤ _
        omega
      rw [List.length_map] at e1
      have e3 : (" " : Str).length = 1 := rfl
      rw [e3]
      omega
/-- [str(row) for row in x.f], the row in the second slot -/
theorem comp1_go {p : Pkg} {k : Nat} {a C dx r : Addr} {fs : List (Str × V)} {f : Str} {xs : List V} {rs : List RowD} {H : Hp} {Q : VK} (ha : H a = some (.ins C dx fs)) (cl : Cls K C) (na : NoAttr K C f) (lk : fs.lookup f = some (.ref r)) (tr : Tp K H r xs) (ro : RowObL K p H rs xs) (ok : okRL rs k) (l : rs.length ≤ 1000)
    (q : ∀ H' D, Same H H' → H' D = some (.lst ((rs.map rowS).map V.str)) → Q (.ref D) H') : tLc (iTup K (tFld K (tVar 0) f)) (gName 1) tYes (tCB (fun xs H Q => ∃ x, xs = [x] ∧ rStrC p.rows (RowSh K p k) x H Q) (tCons (tVar 1) tNil)) [1] [some (.ref a), none] H Q := by
  have lx := ro.len
  have q1000 : (1000 : Nat) < sizeLine := by decide
  refine ⟨_, rfl, a, C, dx, fs, .ref r, rfl, ha, cl, na, lk, r, rfl, ⟨_, tr.sq⟩, fun D hD => lc_it (walk_tup (xs := xs)) (fun i H' => Same H H' ∧ H' D = some (.lst (((rs.take i).map rowS).map V.str))) ⟨(new_at hD).1, upd_same⟩ (fun i H' _ z => (tr.kp (ObKp.of z.1)).sq) ?_ ?_⟩
  · rintro i y H1' H1 hi ⟨s1, hD1⟩ ⟨rfl, ey⟩
    obtain ⟨r1, er, ro1⟩ := ro.at' ey
    have ro2 := ro1.kp (ObKp.of s1)
    obtain ⟨b, C2, dx2, fs2, rfl, hb, mC⟩ := ro2.cls
    have hir := (List.getElem?_eq_some_iff.mp er).1
    refine name_go ⟨rfl, ?_⟩
    unfold tYes
    refine iteSe rfl ?_
    refine ⟨_, rfl, _, rfl, b, C2, dx2, fs2, rowS r1, rfl, hb, mC, ⟨r1, ro2, ok.get er, rfl⟩, fun H2 s2 => ?_⟩
    have s2' : Same H1 H2 := s2
    refine ⟨_, s2' _ _ hD1, by rw [List.length_map, List.length_map, List.length_take]; omega, fun c o e => (upd_ne (ne_of_none e hD)).trans (s2' _ _ (s1 _ _ e)), ?_⟩
    have e1 : rs.take (i + 1) = rs.take i ++ [r1] := by
      rw [← List.take_append_getElem hir]
      rw [List.getElem?_eq_getElem hir] at er
      rw [Option.some.inj er]
    rw [e1, List.map_append, List.map_append]
    exact upd_same
  · rintro H1 ⟨s1, hD1⟩
    rw [lx, List.take_length] at hD1
    exact q H1 D s1 hD1
theorem haS_eq (nm : Str) (rs : List RowD) : Txt.join "\n" (("on " ++ nm) :: rs.map rowS) = haS nm rs := by
  have h := join_flat "\n" ([("on " ++ nm)] :: rs.map rowLines) fun l hl => by
    rcases List.mem_cons.mp hl with rfl | hl
    · exact fun z => nomatch z
    · obtain ⟨r, _, rfl⟩ := List.mem_map.mp hl
      exact rowLines_ne r
  rw [List.map_cons, join_one, List.map_map, List.flatten_cons, ← rowsLines_eq] at h
  exact h
abbrev s_Handler_str : Stmt := inClass (top 34) 2
abbrev n_Handler_str : List Str := ["self", "row"]
theorem sc_Handler_str : FnScope n_Handler_str ["self"] (defScope s_Handler_str) := ⟨rfl, rfl, rfl, by decide +kernel, rfl, by decide +kernel, by decide +kernel⟩
theorem ok_handlerS {p : Pkg} {k n : Nat} {HA fI : Addr} {fd : FuncData} (hn : 1 ≤ n) (hk : k ≤ 3) (CH : ClsA K mg "Handler" HA ["event", "rows"]) (T : Txt mg) (ShR : Shows P w K mg base n p.rows (RowSh K p k)) (F : Fun K "__str__" "Handler.__str__" s_Handler_str fI fd) : FnOk P w K mg base CX0 (n + 3) fI fd ["self"] (spStrC HA (HaSh K p HA k)) := by
  refine F.ok sc_Handler_str (fun vs H Q E h => ?_) (fun cdv A outer s H vs Q E hr h => ?_)
  · obtain ⟨a, dx, fs, z, rfl, _⟩ := h
    rfl
  · obtain ⟨a, dx, fs, z, rfl, ha, ⟨nm, rs, ⟨x, dx', r, xs, e1, hx, tr, ro⟩, on, ok, l, rfl⟩, ret⟩ := h
    cases e1
    refine ⟨_, (pss_one (ps_ret (pe_join pe_str (pe_lst (pa_cons (pe_joined (PJ.cons pe_str (PJ.cons (pe_fmt (pe_fld (pv 0) rfl)) PJ.nil))) (StX.pa_star (pe_lc (own := [("row", 1)]) (g := gName 1) (by rfl) sc_Handler_str.nd (pi_tup (pe_fld (pv 0) rfl)) (blkOk_by (own := [("row", 1)]) (N := n_Handler_str) (sc := defScope s_Handler_str) (by decide +kernel)) (fun _ _ _ _ _ => (pg_name (i := 1) sc_Handler_str.nd rfl (Or.inl rfl))) (fun _ _ _ _ _ => pts_nil) (fun _ _ _ _ _ => (pe_callTy (call_strCK rfl rfl rfl rfl rfl ShR (hr.mono (by omega))) (by rfl) T.z_str (by decide +kernel) (pa_cons (pv 1) pa_nil)))) pa_nil)))))), ?_⟩
    have q1000 : (10000 : Nat) < sizeLine := by decide
    have ln := nameB_len on
    refine ret_go ?_
    refine ⟨⟨_, rfl⟩, lstA_go (cons_go ?_)⟩
    refine ⟨_, rfl, by decide, ?_⟩
    refine ⟨_, rfl, a, HA, dx', _, .str nm, rfl, hx, CH.cl, CH.n _ (by simp), rfl, .inl ⟨nm, rfl, by omega, ?_⟩⟩
    refine ⟨_, rfl, by rw [slen_app, slen_app]; show 0 + 3 + nm.length ≤ sizeLine; omega, ?_⟩
    rw [empty_app]
    refine js_nil ?_
    try dsimp only
    refine star_go (comp1_go (f := "rows") (rs := rs) hx CH.cl (CH.n _ (by simp)) rfl tr ro ok (by omega) fun H2 D s2 hD => ⟨D, _, rfl, .inr (SqL.of hD), ?_⟩)
    refine nil_go ⟨?_, fun L hL => ?_⟩
    · rw [List.append_nil, List.length_cons, List.length_map, List.length_map]; omega
    rw [List.append_nil]
    obtain ⟨s3, h3⟩ := new_at (o := .lst (V.str ("on " ++ nm) :: (rs.map rowS).map V.str)) hL
    have fin := ret _ (s2.trans s3)
    rw [← haS_eq] at fin
    refine ⟨"\n", L, ("on " ++ nm) :: rs.map rowS, rfl, rfl, .inl (SqL.of h3), ?_, fin⟩
    have e1 := sum_le (l := rs.map rowS) (B := Rb k) fun x hx => by
      obtain ⟨r, hr, rfl⟩ := List.mem_map.mp hx
      exact rowsS_len ok r hr
    have e2 : Rb k ≤ 522558 := by
      have : ∀ j, j ≤ 3 → Rb j ≤ 522558 := by decide
      exact this k hk
    have e3 : ("\n" : Str).length = 1 := rfl
    have e4 : (("on " : Str) ++ nm).length = 3 + nm.length := by rw [slen_app]; rfl
    rw [List.length_map] at e1
    have e5 : rs.length * Rb k ≤ 20 * 522558 := Nat.mul_le_mul l e2
    rw [List.map_cons, List.sum_cons, List.length_cons, List.length_map, e3, e4]
    omega
end
end K14

/-! == and != of instances of several own classes, each with its own __eq__ (the model's defaults for !=), with instances, texts and tuples -/
namespace L2
open PySem PySem.Spec PyProof.Rows
/-- what may stand on the right: nothing that is asked ahead of the left -/
inductive RightOf (K : PySem.W.Frag) (H : Hp) (C : Addr) : V → Prop
  | ins {b D dy : Addr} {gs : List (Str × V)} (h : H b = some (.ins D dy gs)) (n : PySem.W.notFirst K C (.ref D) = true) : RightOf K H C (.ref b)
  | str (x : Str) (n : PySem.W.notFirst K C (.type "str") = true) : RightOf K H C (.str x)
  | tup {b : Addr} {xs : List V} (h : H b = some (.tup xs)) (n : PySem.W.notFirst K C (.type "tuple") = true) : RightOf K H C (.ref b)
structure EqCls (P : Program) (w : World) (K : PySem.W.Frag) (mg : Str → Option Value) (base : Heap) (k : Nat) (cls : List Addr) (sp : Addr → Sp) : Prop where
  has : ∀ C ∈ cls, ∃ (g : Addr) (fd : FuncData), PySem.W.findIn K (.ref C) "__eq__" = some (some (.ref g)) ∧ PySem.W.isFn K (.ref g) = true ∧ Binds K fd ["self", "other"] [] ∧ FnOk P w K mg base CX0 k g fd ["self", "other"] (sp C)
  two : ∀ C ∈ cls, Two K C
def rEqC (K : PySem.W.Frag) (cls : List Addr) (sp : Addr → Sp) (n : Bool) : R2 := fun x y H Q => ∃ (a C dx : Addr) (fs : List (Str × V)), x = .ref a ∧ H a = some (.ins C dx fs) ∧ C ∈ cls ∧ RightOf K H C y ∧ sp C [x, y] H (fun r H' => ∃ c, r = .bl c ∧ Q (.bl (n != c)) H') E0
section
variable {X : Cx} {k : Nat} {cls : List Addr} {sp : Addr → Sp}
theorem right_looks {pins : List (Addr × Obj)} {σ : St} {H : Hp} {s : Shared} {C : Addr} {y : V} {u : Value} (I : Inv X pins σ H s) (ry : RelV y u) (h : RightOf X.K H C y) : ∃ tb, PySem.W.Looks (model X.prog X.w) s.heap (typeOf u) tb ∧ PySem.W.notFirst X.K C tb = true := by
  cases h with
  | ins h n =>
    cases ry
    obtain ⟨mA, J, _⟩ := ins_get I.hok h
    obtain ⟨od, J, _⟩ := J.look
    exact ⟨_, J.type, n⟩
  | str x n =>
    obtain ⟨t, rfl⟩ := ry
    exact ⟨_, PySem.W.Looks.of_pure rfl, n⟩
  | tup h n =>
    cases ry
    obtain ⟨its, r, ⟨o, e, c, _⟩, _⟩ := I.tuple (SqT.of h)
    exact ⟨_, fun A Q E s k q => wpAny_typeOf_ref (k _ _ e) (by rw [c]; exact q), n⟩
theorem op_eqC (Eq : EqCls X.prog X.w X.K X.mg X.base k cls sp) (hr : Room k X.A) : OpR X (compareOp .Eq) (rEqC X.K cls sp false) := by
  intro pins s σ H x y v u Q I rx ry h
  obtain ⟨a, C, dx, fs, rfl, ha, mC, hy, q⟩ := h
  obtain ⟨tb, lk, nf⟩ := right_looks I ry hy
  cases rx
  obtain ⟨g, fd, hs, hf, hb, F⟩ := Eq.has C mC
  obtain ⟨mA, J, _⟩ := ins_get I.hok ha
  obtain ⟨od, J, _⟩ := J.look
  obtain ⟨m, hF⟩ := I.fr
  show wpAny _ _ (richCompare .Eq _ _) _ _ _
  refine PySem.W.cmp_K (op := .Eq) hr.units0 hF I.ok.mod.kin J lk nf hs hf ?_
  refine run_own F hr hb pass0 I (show Vals [V.ref a, y] [Value.ref a, u] from .cons rfl (.cons ry .nil)) q fun w z s' H' I' rz qz => ?_
  obtain ⟨c, rfl, qc⟩ := qz
  cases rz
  refine ⟨.bl c, H', I', rfl, ?_⟩
  cases c <;> exact qc
theorem op_neC (Eq : EqCls X.prog X.w X.K X.mg X.base k cls sp) (hr : Room (k + 1) X.A) : OpR X (compareOp .NotEq) (rEqC X.K cls sp true) := by
  intro pins s σ H x y v u Q I rx ry h
  obtain ⟨a, C, dx, fs, rfl, ha, mC, hy, q⟩ := h
  obtain ⟨tb, lk, nf⟩ := right_looks I ry hy
  cases rx
  obtain ⟨g, fd, hs, hf, hb, F⟩ := Eq.has C mC
  have t := Eq.two C mC
  obtain ⟨mA, J, _⟩ := ins_get I.hok ha
  obtain ⟨od, J, _⟩ := J.look
  obtain ⟨m, hF⟩ := I.fr
  refine PySem.W.ne_own (show X.A.units + 2 < cLine from Nat.lt_of_le_of_lt (Nat.add_le_add_left (by decide : 2 ≤ 64) _) hr.units) hF I.ok.mod.kin J lk nf t.obj t.ne hs hf ?_
  refine run_own1 F hr.in1 rfl hb pass0 I (show Vals [V.ref a, y] [Value.ref a, u] from .cons rfl (.cons ry .nil)) q fun w z s' H' I' rz qz => ?_
  obtain ⟨c, rfl, qc⟩ := qz
  cases rz
  refine ⟨c, rfl, .bl (!c), H', I', rfl, ?_⟩
  cases c <;> exact qc
end
end L2

set_option pp.maxSteps 600
namespace K14
open PySem L2 PySem.Spec PyProof.Rows
/-- == of an instance of C that shows as S tells: with another of C by the texts, with anything else False -/
def spEqC (K : PySem.W.Frag) (cls : List Addr) (S : Hp → Addr → Str → Prop) (C : Addr) : Sp := fun vs H Q _ => ∃ (a dx : Addr) (fs : List (Str × V)) (z : Str) (y t : V) (ty : Value), vs = [.ref a, y] ∧ H a = some (.ins C dx fs) ∧ C ∈ cls ∧ S H a z ∧ TyX K H y ty ∧
  ((PySem.W.kitOne K ty (.ref C) = some false ∧ Q (.bl false) H) ∨ (PySem.W.kitOne K ty (.ref C) = some true ∧ ∃ b dy gs z', y = .ref b ∧ H b = some (.ins C dy gs) ∧ (∀ H', Same H H' → S H' b z') ∧ ∀ H', Same H H' → Q (.bl (decide (z = z'))) H'))
theorem eq_body {K : PySem.W.Frag} {cls : List Addr} {S : Hp → Addr → Str → Prop} {C : Addr} {x y : V} {H : Hp} {Q : VK} {D : Ends} {E : XK} (h : spEqC K cls S C [x, y] H Q E) (e : D.rt = Q) :
    tRet (tAndV (tCB (rIsi K) (tCons (tVar 1) (tCons (tC (.ref C)) tNil))) (tOp rEq (tCB (fun xs H Q => ∃ x, xs = [x] ∧ rStrC cls S x H Q) (tCons (tVar 0) tNil)) (tCB (fun xs H Q => ∃ x, xs = [x] ∧ rStrC cls S x H Q) (tCons (tVar 1) tNil)))) D [some x, some y] H := by
  subst e
  obtain ⟨a, dx, fs, z, y, t, ty, e, ha, mC, hz, hy, h⟩ := h
  cases e
  refine ret_go (andV_go ?_)
  rcases h with ⟨k, q⟩ | ⟨k, b, dy, gs, z', rfl, hb, hz', q⟩
  · exact ⟨_, rfl, _, _, ty, _, false, rfl, .own _, hy, k, _, rfl, iteSf (by decide) q⟩
  · refine ⟨_, rfl, _, _, ty, _, true, rfl, .own _, hy, k, _, rfl, iteSe rfl ?_⟩
    refine ⟨_, rfl, _, rfl, a, C, dx, fs, z, rfl, ha, mC, hz, fun H1 s1 => ?_⟩
    refine ⟨_, rfl, _, rfl, b, C, dy, gs, z', rfl, s1 _ _ hb, mC, hz' H1 s1, fun H2 s2 => ⟨rfl, ?_⟩⟩
    have := q H2 (Same.trans s1 s2)
    have e : decide (V.str z = V.str z') = decide (z = z') := decide_eq_decide.mpr ⟨fun w => by injection w, fun w => by rw [w]⟩
    rw [← e] at this
    exact this
section
variable {P : Program} {w : World} {K : PySem.W.Frag} {mg : Str → Option Value} {base : Heap}
abbrev s_Event_eq : Stmt := inClass (top 32) 1
abbrev n_Event_eq : List Str := ["self", "other"]
theorem sc_Event_eq : FnScope n_Event_eq ["self", "other"] (defScope s_Event_eq) := ⟨rfl, rfl, rfl, by decide +kernel, rfl, by decide +kernel, by decide +kernel⟩
theorem ok_eventQ {cls : List Addr} {S : Hp → Addr → Str → Prop} {C n : Nat} {as : List Str} {fI : Addr} {fd : FuncData} (T : Txt mg) (CQ : ClsA K mg "Event" C as) (Sh : Shows P w K mg base n cls S) (F : Fun K "__eq__" "Event.__eq__" s_Event_eq fI fd) : FnOk P w K mg base CX0 (n + 3) fI fd ["self", "other"] (spEqC K cls S C) := by
  refine F.ok sc_Event_eq (fun vs H Q E h => ?_) (fun cdv A outer s H vs Q E hr h => ?_)
  · obtain ⟨a, dx, fs, z, y, t, ty, rfl, _⟩ := h
    rfl
  · obtain ⟨x, y, rfl⟩ : ∃ x y, vs = [x, y] := by
      obtain ⟨a, dx, fs, z, y, t, ty, rfl, _⟩ := h
      exact ⟨_, _, rfl⟩
    refine ⟨_, (pss_one (ps_ret (pe_and (pe_callB (call_isi_in (K := K) rfl) (by rfl) T.z_isinstance (by decide +kernel) (pa_cons (pv 1) (pa_cons (pe_glob (v := .ref C) rfl CQ.m rfl) pa_nil))) (pe_one (pe_cmpR op_eq (pe_callTy (call_strCK rfl rfl rfl rfl rfl Sh (hr.mono (by omega))) (by rfl) T.z_str (by decide +kernel) (pa_cons (pv 0) pa_nil)) (pe_callTy (call_strCK rfl rfl rfl rfl rfl Sh (hr.mono (by omega))) (by rfl) T.z_str (by decide +kernel) (pa_cons (pv 1) pa_nil)) (nomark _)))))), ?_⟩
    exact eq_body h rfl
abbrev s_Worth_eq : Stmt := inClass (top 33) 1
abbrev n_Worth_eq : List Str := ["self", "other"]
theorem sc_Worth_eq : FnScope n_Worth_eq ["self", "other"] (defScope s_Worth_eq) := ⟨rfl, rfl, rfl, by decide +kernel, rfl, by decide +kernel, by decide +kernel⟩
theorem ok_worthQ {cls : List Addr} {S : Hp → Addr → Str → Prop} {C n : Nat} {as : List Str} {fI : Addr} {fd : FuncData} (T : Txt mg) (CQ : ClsA K mg "Worth" C as) (Sh : Shows P w K mg base n cls S) (F : Fun K "__eq__" "Worth.__eq__" s_Worth_eq fI fd) : FnOk P w K mg base CX0 (n + 3) fI fd ["self", "other"] (spEqC K cls S C) := by
  refine F.ok sc_Worth_eq (fun vs H Q E h => ?_) (fun cdv A outer s H vs Q E hr h => ?_)
  · obtain ⟨a, dx, fs, z, y, t, ty, rfl, _⟩ := h
    rfl
  · obtain ⟨x, y, rfl⟩ : ∃ x y, vs = [x, y] := by
      obtain ⟨a, dx, fs, z, y, t, ty, rfl, _⟩ := h
      exact ⟨_, _, rfl⟩
    refine ⟨_, (pss_one (ps_ret (pe_and (pe_callB (call_isi_in (K := K) rfl) (by rfl) T.z_isinstance (by decide +kernel) (pa_cons (pv 1) (pa_cons (pe_glob (v := .ref C) rfl CQ.m rfl) pa_nil))) (pe_one (pe_cmpR op_eq (pe_callTy (call_strCK rfl rfl rfl rfl rfl Sh (hr.mono (by omega))) (by rfl) T.z_str (by decide +kernel) (pa_cons (pv 0) pa_nil)) (pe_callTy (call_strCK rfl rfl rfl rfl rfl Sh (hr.mono (by omega))) (by rfl) T.z_str (by decide +kernel) (pa_cons (pv 1) pa_nil)) (nomark _)))))), ?_⟩
    exact eq_body h rfl
abbrev s_Handler_eq : Stmt := inClass (top 34) 1
abbrev n_Handler_eq : List Str := ["self", "other"]
theorem sc_Handler_eq : FnScope n_Handler_eq ["self", "other"] (defScope s_Handler_eq) := ⟨rfl, rfl, rfl, by decide +kernel, rfl, by decide +kernel, by decide +kernel⟩
theorem ok_handlerQ {cls : List Addr} {S : Hp → Addr → Str → Prop} {C n : Nat} {as : List Str} {fI : Addr} {fd : FuncData} (T : Txt mg) (CQ : ClsA K mg "Handler" C as) (Sh : Shows P w K mg base n cls S) (F : Fun K "__eq__" "Handler.__eq__" s_Handler_eq fI fd) : FnOk P w K mg base CX0 (n + 3) fI fd ["self", "other"] (spEqC K cls S C) := by
  refine F.ok sc_Handler_eq (fun vs H Q E h => ?_) (fun cdv A outer s H vs Q E hr h => ?_)
  · obtain ⟨a, dx, fs, z, y, t, ty, rfl, _⟩ := h
    rfl
  · obtain ⟨x, y, rfl⟩ : ∃ x y, vs = [x, y] := by
      obtain ⟨a, dx, fs, z, y, t, ty, rfl, _⟩ := h
      exact ⟨_, _, rfl⟩
    refine ⟨_, (pss_one (ps_ret (pe_and (pe_callB (call_isi_in (K := K) rfl) (by rfl) T.z_isinstance (by decide +kernel) (pa_cons (pv 1) (pa_cons (pe_glob (v := .ref C) rfl CQ.m rfl) pa_nil))) (pe_one (pe_cmpR op_eq (pe_callTy (call_strCK rfl rfl rfl rfl rfl Sh (hr.mono (by omega))) (by rfl) T.z_str (by decide +kernel) (pa_cons (pv 0) pa_nil)) (pe_callTy (call_strCK rfl rfl rfl rfl rfl Sh (hr.mono (by omega))) (by rfl) T.z_str (by decide +kernel) (pa_cons (pv 1) pa_nil)) (nomark _)))))), ?_⟩
    exact eq_body h rfl
end
end K14

namespace L2
open PySem PySem.Spec PyProof.Rows
namespace RD
open TL
theorem tl_nat (n : Nat) : tl (iS ((n : Nat) : Int)) = numL n := tl_num n
theorem tl_neg (n : Nat) : tl (iS (Int.negSucc n)) = 45 :: numL (n + 1) := by
  have e : (toString (Int.negSucc n) : String) = "-" ++ toString (((n + 1 : Nat)) : Int) := rfl
  have h : tl (iS (Int.negSucc n)) = (toString (Int.negSucc n) : String).toList.map Char.toNat := tl_ofString _
  rw [h, e, String.toList_append, List.map_append]
  have h2 : (toString (((n + 1 : Nat)) : Int) : String).toList.map Char.toNat = numL (n + 1) := by rw [← tl_ofString]; exact tl_num _
  rw [h2]; rfl
theorem numL_head : ∀ n : Nat, 0 < n → ∃ c r, numL n = c :: r ∧ 49 ≤ c ∧ c ≤ 57 := by
  intro n
  induction n using Nat.strongRecOn with
  | _ n ih =>
    intro hn
    by_cases h : n < 10
    · exact ⟨48 + n, [], numL_lt h, by omega, by omega⟩
    · obtain ⟨c, r, e, h1, h2⟩ := ih (n / 10) (by omega) (by omega)
      exact ⟨c, r ++ [48 + n % 10], by rw [numL_step (by omega), e]; rfl, h1, h2⟩
theorem starts_one (x y : Str) (c : Nat) (hy : tl y = [c]) : Txt.startswith x y = ((tl x).head? == some c) := by
  have ly : y.length = 1 := by rw [len_tl, hy]; rfl
  show (decide (0 + y.length ≤ x.length) && Builtin.Str.subAt x y 0) = _
  rw [PySem.StrLaws.subAt_eq, ly, show y.cps.toList = [c] from hy, List.drop_zero, len_tl, show x.cps.toList = tl x from rfl]
  generalize tl x = l
  cases l with
  | nil => rfl
  | cons a r =>
    show (decide (0 + 1 ≤ (a :: r).length) && ((a :: r).take 1 == [c])) = (some a == some c)
    rw [decide_eq_true (show 0 + 1 ≤ (a :: r).length by rw [List.length_cons]; omega), Bool.true_and]
    rw [Bool.eq_iff_iff, beq_iff_eq, beq_iff_eq]
    constructor
    · intro e; cases e; rfl
    · intro e; cases e; rfl
theorem cut_one (x y : Str) (c : Nat) (hx : tl x = c :: tl y) : cutS x (some 1) none = y := by
  apply ext_tl
  show ((x.cps.toList.drop (HT.sIx x.length 0 (some 1))).take (HT.sIx x.length x.length none - HT.sIx x.length 0 (some 1))) = _
  have lx : x.length = (tl y).length + 1 := by rw [len_tl, hx]; rfl
  have e1 : HT.sIx x.length 0 (some 1) = 1 := by
    rw [lx]
    show (min (1 : Int).toNat ((tl y).length + 1) : Nat) = 1
    show min 1 ((tl y).length + 1) = 1
    omega
  have e2 : HT.sIx x.length x.length none = x.length := rfl
  rw [e1, e2, show x.cps.toList = c :: tl y from hx, lx]
  show (tl y).take _ = _
  exact List.take_of_length_le (by omega)
theorem ascii_all {x : Str} (h : ∀ c ∈ tl x, c < 128) : Txt.isascii x = true := by
  show x.cps.all (fun c => decide (c < 128)) = true
  rw [← Array.all_toList, List.all_eq_true]
  exact fun c hc => decide_eq_true (h c hc)
theorem digit_all {x : Str} (hne : tl x ≠ []) (h : NumText.AllDigits (tl x)) : Txt.isdigit x = true := by
  show (decide (x.length > 0) && x.cps.all Unicode.isDigit) = true
  rw [decide_eq_true (by rw [len_tl]; exact List.length_pos_iff.mpr hne), Bool.true_and, ← Array.all_toList, List.all_eq_true]
  intro c hc
  have hd : ∀ c, c < 128 → 48 ≤ c → c ≤ 57 → Unicode.isDigit c = true := by decide +kernel
  obtain ⟨h1, h2⟩ := h c hc
  exact hd c (by omega) h1 h2
theorem free32 (i : Int) : 32 ∉ tl (iS i) := PyProof.Rows.int_text_free' 32 ⟨by decide, by decide⟩ i
theorem ne_plus (i : Int) : iS i ≠ "+" := fun e => by
  have := PyProof.Rows.int_text_free' 43 ⟨by decide, by decide⟩ i
  refine this ?_
  show 43 ∈ tl (iS i)
  rw [e]; decide +kernel
/-- the figures of a number -/
def figs (i : Int) : Str := iS ((i.natAbs : Nat) : Int)
theorem tl_figs (i : Int) : tl (figs i) = numL i.natAbs := tl_nat _
theorem figs_pos (n : Nat) : figs ((n : Nat) : Int) = iS ((n : Nat) : Int) := rfl
theorem minus (i : Int) : Txt.startswith (iS i) "-" = decide (i < 0) := by
  rw [starts_one _ _ 45 (by decide +kernel)]
  cases i with
  | ofNat n =>
    rw [show tl (iS (Int.ofNat n)) = numL n from tl_nat n, decide_eq_false (show ¬ Int.ofNat n < 0 from by simp)]
    have hd := numL_digits n
    cases h : numL n with
    | nil => exact absurd h (numL_ne n)
    | cons c r =>
      rw [h] at hd
      have := hd.head
      show (some c == some 45) = false
      exact beq_eq_false_iff_ne.mpr fun e => by injection e with e; omega
  | negSucc n =>
    rw [tl_neg, decide_eq_true (Int.negSucc_lt_zero n)]
    rfl
theorem cut_neg {i : Int} (h : i < 0) : cutS (iS i) (some 1) none = figs i := by
  cases i with
  | ofNat n => exact absurd h (by simp)
  | negSucc n => exact cut_one _ _ 45 (by rw [tl_neg, tl_figs]; rfl)
theorem figs_ascii (i : Int) : Txt.isascii (figs i) = true := ascii_all fun c hc => by
  rw [tl_figs] at hc
  have := numL_digits _ c hc
  omega
theorem figs_digit (i : Int) : Txt.isdigit (figs i) = true := digit_all (by rw [tl_figs]; exact numL_ne _) (by rw [tl_figs]; exact numL_digits _)
theorem figs_zero (i : Int) : Txt.startswith (figs i) "0" = decide (i = 0) := by
  rw [starts_one _ _ 48 (by decide +kernel), tl_figs]
  by_cases h : i = 0
  · subst h
    rw [show (0 : Int).natAbs = 0 from rfl, numL_lt (by decide), decide_eq_true rfl]; rfl
  · obtain ⟨c, r, e, h1, h2⟩ := numL_head i.natAbs (by omega)
    rw [e, decide_eq_false h]
    exact beq_eq_false_iff_ne.mpr fun e => by injection e with e; omega
theorem zero_text : iS 0 = "0" := by decide +kernel
theorem figs_le (i : Int) : (figs i).length ≤ (iS i).length := by
  rw [len_tl, len_tl, tl_figs]
  cases i with
  | ofNat n => rw [show tl (iS (Int.ofNat n)) = numL n from tl_nat n]; exact Nat.le_refl _
  | negSucc n => rw [tl_neg, List.length_cons]; exact Nat.le_succ _
theorem back (i : Int) (h : (iS i).length ≤ 4300) : intText? (iS i) = some i := by
  cases i with
  | ofNat n =>
    have : (numL n).length ≤ 4300 := by rw [len_tl, show tl (iS (Int.ofNat n)) = numL n from tl_nat n] at h; exact h
    exact int_num this
  | negSucc n =>
    have e := intText_neg (x := iS (Int.negSucc n)) (tl_neg n) (numL_digits _) (numL_ne _) h
    rw [e, numL_val]; rfl
theorem plus_minus : Txt.startswith "+" "-" = false := by decide +kernel
theorem plus_ascii : Txt.isascii "+" = true := by decide +kernel
theorem plus_digit : Txt.isdigit "+" = false := by decide +kernel
end RD
end L2

set_option pp.maxSteps 600
namespace K14
open PySem L2 PySem.Spec PyProof.Rows
open TL
/-! ## the texts of two worths, of two events: alike exactly where the data are -/
theorem name_free {s : Str} (h : nameB s = true) : 32 ∉ tl s := by
  unfold nameB at h
  have h3 : Txt.isalpha s = true := by
    have := (Bool.and_eq_true_iff.mp h).2
    have := (Bool.and_eq_true_iff.mp this).2
    exact (Bool.and_eq_true_iff.mp this).1
  unfold Txt.isalpha at h3
  have h4 : s.cps.all Unicode.isAlpha = true := (Bool.and_eq_true_iff.mp h3).2
  rw [← Array.all_toList, List.all_eq_true] at h4
  intro hc
  have := h4 32 hc
  revert this
  decide +kernel
theorem kind_free {s : Str} (h : okKind s) : 32 ∉ tl s := by
  rcases h with rfl | h
  · decide +kernel
  · exact name_free h
theorem join_inj {a b : List Str} (ha : a ≠ []) (hb : b ≠ []) (fa : ∀ p ∈ a, 32 ∉ tl p) (fb : ∀ p ∈ b, 32 ∉ tl p) (h : Txt.join " " a = Txt.join " " b) : a = b := by
  have e1 := split_join (y := " ") (s := 32) (S := []) (by decide +kernel) (by decide +kernel) ha fa
  have e2 := split_join (y := " ") (s := 32) (S := []) (by decide +kernel) (by decide +kernel) hb fb
  rw [h, e2] at e1
  exact e1.symm
theorem iS_inj {i j : Int} (hi : numOk i) (hj : numOk j) (h : iS i = iS j) : i = j := by
  have l1 := iS_len hi
  have l2 := iS_len hj
  have a := L2.RD.back i (by omega)
  have b := L2.RD.back j (by omega)
  rw [h, b] at a
  exact (Option.some.inj a).symm
theorem bnd_free {o : Option Int} {s : Str} (h : 32 ∉ tl s) : ∀ x ∈ bndW o s, 32 ∉ tl x := by
  intro x hx
  cases o with
  | none => cases hx
  | some n =>
    have hx : x = s ∨ x = iS n := by simpa [bndW] using hx
    rcases hx with rfl | rfl
    · exact h
    · exact L2.RD.free32 n
theorem woW_free {e : WorthD} (ok : WoOk e) : ∀ s ∈ woW e, 32 ∉ tl s := by
  intro s hs
  unfold woW at hs
  have h4 : 32 ∉ tl e.what := by
    have h := ok.what
    simp only [List.mem_cons, List.not_mem_nil, or_false] at h
    rcases h with h | h <;> rw [h] <;> decide +kernel
  rcases List.mem_append.mp hs with hs | hs
  · rcases List.mem_append.mp hs with hs | hs
    · simp only [List.mem_cons, List.not_mem_nil, or_false] at hs
      rcases hs with rfl | rfl | rfl | rfl | rfl
      · decide +kernel
      · exact name_free ok.total
      · exact name_free ok.kind
      · exact L2.RD.free32 _
      · exact h4
    · exact bnd_free (by decide +kernel) s hs
  · exact bnd_free (by decide +kernel) s hs
theorem bnd_inj {o o' u u' : Option Int} (ho : ∀ n, o = some n → numOk n) (ho' : ∀ n, o' = some n → numOk n) (hu : ∀ n, u = some n → numOk n) (hu' : ∀ n, u' = some n → numOk n) (h : bndW o "from" ++ bndW u "below" = bndW o' "from" ++ bndW u' "below") : o = o' ∧ u = u' := by
  have ne : ("from" : Str) ≠ "below" := by decide +kernel
  cases o with
  | none =>
    cases o' with
    | none =>
      refine ⟨rfl, ?_⟩
      cases u with
      | none =>
        cases u' with
        | none => rfl
        | some m => cases h
      | some n =>
        cases u' with
        | none => cases h
        | some m =>
          have h : [("below" : Str), iS n] = [("below" : Str), iS m] := h
          injection h with _ h
          injection h with h _
          rw [iS_inj (hu n rfl) (hu' m rfl) h]
    | some m =>
      cases u with
      | none => cases h
      | some n =>
        have h : ("below" : Str) :: _ = ("from" : Str) :: _ := h
        injection h with h _
        exact absurd h.symm ne
  | some n =>
    cases o' with
    | none =>
      cases u' with
      | none => cases h
      | some m =>
        have h : ("from" : Str) :: _ = ("below" : Str) :: _ := h
        injection h with h _
        exact absurd h ne
    | some m =>
      have h : ("from" : Str) :: iS n :: bndW u "below" = ("from" : Str) :: iS m :: bndW u' "below" := h
      injection h with _ h
      injection h with h h2
      refine ⟨by rw [iS_inj (ho n rfl) (ho' m rfl) h], ?_⟩
      cases u with
      | none =>
        cases u' with
        | none => rfl
        | some m => cases h2
      | some n =>
        cases u' with
        | none => cases h2
        | some m =>
          have h : [("below" : Str), iS n] = [("below" : Str), iS m] := h2
          injection h with _ h
          injection h with h _
          rw [iS_inj (hu n rfl) (hu' m rfl) h]
theorem woW_ne (e : WorthD) : woW e ≠ [] := by unfold woW; exact fun z => nomatch z
theorem woS_inj {e e' : WorthD} (ok : WoOk e) (nm : WoNum e) (ok' : WoOk e') (nm' : WoNum e') (h : woS e = woS e') : e = e' := by
  have h := join_inj (woW_ne e) (woW_ne e') (woW_free ok) (woW_free ok') h
  unfold woW at h
  rw [List.append_assoc, List.append_assoc] at h
  injection h with _ h
  injection h with h1 h
  injection h with h2 h
  injection h with h3 h
  injection h with h4 h
  obtain ⟨h5, h6⟩ := bnd_inj nm.least nm'.least nm.below nm'.below h
  have h3' := iS_inj nm.f nm'.f h3
  clear h3
  cases e
  cases e'
  simp only at h1 h2 h3' h4 h5 h6
  subst h1 h2 h3' h4 h5 h6
  rfl
theorem evW_ne (e : EventD) : evW e ≠ [] := by unfold evW; exact fun z => nomatch z
theorem orig_free {os : List Str} (h : OrigL os) : ∀ s ∈ os, 32 ∉ tl s := by
  rcases h with rfl | h
  · intro s hs
    rw [List.mem_singleton.mp hs]
    decide +kernel
  · exact fun s hs => name_free (h.2.each s hs)
theorem ifW_free {b : Bool} {w : Str} (h : 32 ∉ tl w) : ∀ s ∈ ifW b w, 32 ∉ tl s := by
  intro s hs
  cases b with
  | false => cases hs
  | true => rw [List.mem_singleton.mp hs]; exact h
theorem evW_free {e : EventD} (ok : EvOk e) : ∀ s ∈ evW e, 32 ∉ tl s := by
  intro s hs
  unfold evW at hs
  rcases List.mem_append.mp hs with hs | hs
  · rcases List.mem_append.mp hs with hs | hs
    · rcases List.mem_append.mp hs with hs | hs
      · rcases List.mem_append.mp hs with hs | hs
        · simp only [List.mem_cons, List.not_mem_nil, or_false] at hs
          rcases hs with rfl | rfl
          · decide +kernel
          · exact name_free ok.name
        · exact orig_free ok.origins s hs
      · simp only [List.mem_cons, List.not_mem_nil, or_false] at hs
        rcases hs with rfl | rfl
        · decide +kernel
        · exact kind_free ok.kind
    · exact ifW_free (by decide +kernel) s hs
  · exact ifW_free (by decide +kernel) s hs
/-- events of one text have one name -/
theorem evS_name {e e' : EventD} (ok : EvOk e) (ok' : EvOk e') (h : evS e = evS e') : e.name = e'.name := by
  have h := join_inj (evW_ne e) (evW_ne e') (evW_free ok) (evW_free ok') h
  have c : ∀ e : EventD, evW e = ("event" : Str) :: e.name :: (e.origins ++ ([("to" : Str), e.kind] ++ (ifW e.amount "amount" ++ ifW e.group "group"))) := fun e => by
    unfold evW
    simp only [List.append_assoc, List.cons_append, List.nil_append]
  rw [c, c] at h
  injection h with _ h
  injection h
/-! the data compared -/
def optP : Option Int → PyData
  | some n => .int n
  | none => .none
def woP (e : WorthD) : PyData := .tuple [.str e.total, .str e.kind, .int e.factor, .str e.what, optP e.least, optP e.below]
theorem opt_eqv (o u : Option Int) : PyData.eqv (optP o) (optP u) = decide (o = u) := by
  cases o <;> cases u <;> simp [optP, PyData.eqv]
  exact Bool.beq_eq_decide_eq _ _
theorem woP_eqv {e e' : WorthD} (ok : WoOk e) (nm : WoNum e) (ok' : WoOk e') (nm' : WoNum e') : PyData.eqv (woP e) (woP e') = decide (woS e = woS e') := by
  have l : PyData.eqv (woP e) (woP e') = ((e.total == e'.total) && ((e.kind == e'.kind) && ((e.factor == e'.factor) && ((e.what == e'.what) && (decide (e.least = e'.least) && (decide (e.below = e'.below) && true)))))) := by
    unfold woP
    simp only [PyData.eqv, PyData.eqvAll, opt_eqv]
  rw [l]
  by_cases h : woS e = woS e'
  · rw [decide_eq_true h, woS_inj ok nm ok' nm' h]
    simp
  · rw [decide_eq_false h]
    cases hb : ((e.total == e'.total) && ((e.kind == e'.kind) && ((e.factor == e'.factor) && ((e.what == e'.what) && (decide (e.least = e'.least) && (decide (e.below = e'.below) && true)))))) with
    | false => rfl
    | true =>
      simp only [Bool.and_eq_true, beq_iff_eq, decide_eq_true_eq, and_true] at hb
      obtain ⟨h1, h2, h3, h4, h5, h6⟩ := hb
      refine absurd ?_ h
      unfold woS woW
      rw [h1, h2, h3, h4, h5, h6]
end K14

/-! repr of texts, and of lists and tuples of data (where nothing else is being shown) -/
namespace L2
open PySem PySem.Spec PyProof.Rows
section
variable {X : Cx}
theorem reprText_fits {a : Str} (h : PyData.strOk a = true) : (reprText a).length ≤ 10 * a.length + 2 := by
  refine PySem.StrLaws.reprText_len a fun c hc => ?_
  have h : a.cps.all (fun c => decide (c < 0x110000)) = true := h
  rw [← Array.all_toList, List.all_eq_true] at h
  have h1 : c < 0x110000 := of_decide_eq_true (h c hc)
  exact Nat.lt_trans h1 (by decide)
theorem call_reprT : CallR X (.builtin "repr") (fun xs H Q => ∃ a : Str, xs = [.str a] ∧ PyData.strOk a = true ∧ a.length ≤ 1600000 ∧ Q (.str (reprText a)) H) := by
  intro pins s σ H xs us Q I r h
  obtain ⟨a, rfl, ok, l, q⟩ := h
  obtain ⟨u, rfl, t, rfl⟩ := vals1 r
  have q1 : (16000002 : Nat) ≤ sizeLine := by decide
  exact PySem.P.repr_of_str ⟨.str _, H, I.tok _, ⟨_, rfl⟩, q⟩ (by have := reprText_fits ok; omega)
/-- repr(x), x a list or tuple of data, where nothing else is being shown -/
def rRepr (K : PySem.W.Frag) : List V → Hp → VK → Prop := fun xs H Q => ∃ (a : Addr) (d : PyData), xs = [.ref a] ∧ Dp K H (.ref a) d ∧ d.showable = true ∧ d.hasDict = false ∧ d.depth ≤ 60 ∧ d.shown.length ≤ sizeLine ∧ Q (.str d.shown) H
theorem call_reprD (hg : X.A.guards = some []) (hu : X.A.units + 64 < cLine) : CallR X (.builtin "repr") (rRepr X.K) := by
  intro pins s σ H xs us Q I r h
  obtain ⟨a, d, rfl, hd, h1, h2, h3, h4, q⟩ := h
  match us, r with
  | [u], .cons r1 .nil =>
    obtain ⟨as, R⟩ := Dp.reads I d _ u hd r1
    obtain rfl : u = Value.ref a := r1
    refine repr_of_reads' R h1 (fun z => ?_) hg (by omega) (fun b o z => z) (fun h' u tk k => ?_) h4
    · rw [h2] at z; cases z
    · exact ⟨.str d.shown, H, I.kept (t' := tk) k, ⟨_, rfl⟩, q⟩
end
end L2

set_option pp.maxSteps 600
namespace K14
open PySem L2 PySem.Spec PyProof.Rows
/-! ## data that may be compared and shown: n deep at most, b big at most -/
structure Sm (n b : Nat) (d : PyData) : Prop where
  show' : d.showable = true
  dict : d.hasDict = false
  deep : d.depth ≤ n
  short : d.leavesShort 2000 = true
  bulk : d.bulk ≤ b
  lay : d.canLay0 = true
theorem Sm.str {x : Str} (h : PyData.strOk x = true) (l : x.length ≤ 10) : Sm 0 10 (.str x) := by
  have h' : x.cps.all (fun c => decide (c < 0x110000)) = true := h
  rw [← Array.all_toList, List.all_eq_true] at h'
  refine ⟨rfl, rfl, Nat.le_refl _, ?_, l, by simp only [PyData.canLay0]; exact h⟩
  simp only [PyData.leavesShort, List.all_eq_true, decide_eq_true_eq]
  intro c hc
  have h1 : c < 0x110000 := of_decide_eq_true (h' c hc)
  exact Nat.lt_trans h1 (by decide)
theorem Sm.int {i : Int} (h : numOk i) : Sm 0 10 (.int i) := by
  refine ⟨by simp only [PyData.showable]; exact decide_eq_true h, rfl, Nat.le_refl _, ?_, Nat.zero_le _, rfl⟩
  simp only [PyData.leavesShort, decide_eq_true_eq]
  have := iS_len h
  have e : (PyData.shown (.int i)) = iS i := rfl
  first
    | (rw [e]; omega)
    | (show (iS i).length ≤ 2000; omega)
theorem Sm.bool (c : Bool) : Sm 0 10 (.bool c) := ⟨rfl, rfl, Nat.le_refl _, rfl, Nat.zero_le _, rfl⟩
theorem Sm.none : Sm 0 10 .none := ⟨rfl, rfl, Nat.le_refl _, rfl, Nat.zero_le _, rfl⟩
theorem Sm.mono {n m b c : Nat} {d : PyData} (h : Sm n b d) (hn : n ≤ m) (hb : b ≤ c) : Sm m c d := ⟨h.show', h.dict, Nat.le_trans h.deep hn, h.short, Nat.le_trans h.bulk hb, h.lay⟩
theorem sm_all {n b : Nat} : ∀ {ds : List PyData}, (∀ d ∈ ds, Sm n b d) → PyData.showableAll ds = true ∧ PyData.hasDictAll ds = false ∧ PyData.depthAll ds ≤ n ∧ PyData.leavesShortAll 2000 ds = true ∧ PyData.bulkAll ds ≤ (b + 1) * ds.length ∧ PyData.canLayAll0 ds = true
  | [], _ => ⟨rfl, rfl, Nat.zero_le _, rfl, Nat.zero_le _, rfl⟩
  | d :: ds, h => by
    have a := h d List.mem_cons_self
    obtain ⟨r1, r2, r3, r4, r5, r6⟩ := sm_all (ds := ds) fun x hx => h x (List.mem_cons_of_mem _ hx)
    refine ⟨by simp only [PyData.showableAll, a.show', r1, Bool.and_self], by simp only [PyData.hasDictAll, a.dict, r2, Bool.or_self], ?_, by simp only [PyData.leavesShortAll, a.short, r4, Bool.and_self], ?_, by simp only [PyData.canLayAll0, a.lay, r6, Bool.and_self]⟩
    · simp only [PyData.depthAll]
      have := a.deep
      omega
    · simp only [PyData.bulkAll, List.length_cons]
      have := a.bulk
      rw [Nat.mul_add]
      omega
theorem Sm.tup {n b : Nat} {ds : List PyData} (h : ∀ d ∈ ds, Sm n b d) : Sm (n + 1) ((b + 1) * ds.length) (.tuple ds) := by
  obtain ⟨r1, r2, r3, r4, r5, r6⟩ := sm_all h
  exact ⟨by simp only [PyData.showable]; exact r1, by simp only [PyData.hasDict]; exact r2, by simp only [PyData.depth]; omega, by simp only [PyData.leavesShort]; exact r4, by simp only [PyData.bulk]; exact r5, by simp only [PyData.canLay0]; exact r6⟩
theorem Sm.shaped {n b : Nat} {d : PyData} (h : Sm n b d) (hn : n ≤ 60) : SeqAt.shaped d = true := by
  show (d.canLay0 && decide (d.depth ≤ 64)) = true
  rw [h.lay, Bool.true_and]
  have := h.deep
  exact decide_eq_true (by omega)
theorem Sm.len {n b : Nat} {d : PyData} (h : Sm n b d) (hb : b ≤ 8000) : d.shown.length ≤ sizeLine := by
  have := PyData.shown_le_bulk 2000 (by decide) d h.short
  have hm : (2000 + 2) * d.bulk ≤ (2000 + 2) * 8000 := Nat.mul_le_mul_left _ (Nat.le_trans h.bulk hb)
  have q : (16018000 : Nat) ≤ sizeLine := by decide
  omega
/-- repr of such data -/
theorem Sm.repr {K : PySem.W.Frag} {n b : Nat} {d : PyData} {a : Addr} {H : Hp} {Q : VK} (h : Sm n b d) (hn : n ≤ 60) (hb : b ≤ 8000) (dp : Dp K H (.ref a) d) (q : Q (.str d.shown) H) : rRepr K [.ref a] H Q :=
  ⟨a, d, rfl, dp, h.show', h.dict, Nat.le_trans h.deep hn, h.len hb, q⟩
def evP (e : EventD) : PyData := .tuple [.str e.name, .tuple (e.origins.map PyData.str), .str e.kind, .bool e.amount, .bool e.group]
theorem woP_sm {e : WorthD} (ok : WoOk e) (nm : WoNum e) : Sm 1 66 (woP e) := by
  have o : ∀ o : Option Int, (∀ n, o = some n → numOk n) → Sm 0 10 (optP o) := fun o h => by
    cases o with
    | none => exact Sm.none
    | some n => exact Sm.int (h n rfl)
  have wl : e.what.length ≤ 10 := by have := mem_len (n := 6) ok.what (by decide +kernel); omega
  have ws : PyData.strOk e.what = true := strOk_all ok.what (by decide +kernel)
  have a1 := nameB_len ok.total
  have a2 := nameB_len ok.kind
  refine Sm.mono (Sm.tup (n := 0) (b := 10) fun d hd => ?_) (Nat.le_refl _) (by show 11 * 6 ≤ 66; omega)
  simp only [List.mem_cons, List.not_mem_nil, or_false] at hd
  rcases hd with rfl | rfl | rfl | rfl | rfl | rfl
  · exact Sm.str (strOk_name ok.total) (by omega)
  · exact Sm.str (strOk_name ok.kind) (by omega)
  · exact Sm.int nm.f
  · exact Sm.str ws wl
  · exact o _ nm.least
  · exact o _ nm.below
theorem evP_sm {e : EventD} (ok : EvOk e) : Sm 2 5505 (evP e) := by
  have a1 := nameB_len ok.name
  have a2 := okKind.len ok.kind
  have os : Sm 1 1100 (.tuple (e.origins.map PyData.str)) := by
    refine Sm.mono (Sm.tup (n := 0) (b := 10) fun d hd => ?_) (Nat.le_refl _) ?_
    · obtain ⟨x, hx, rfl⟩ := List.mem_map.mp hd
      exact Sm.str (ok.origins.strOk x hx) (by have := ok.origins.lens x hx; omega)
    · rw [List.length_map]
      have := Nat.mul_le_mul_left 11 ok.origins.len
      omega
  refine Sm.mono (Sm.tup (n := 1) (b := 1100) fun d hd => ?_) (Nat.le_refl _) (by show 1101 * 5 ≤ 5505; omega)
  simp only [List.mem_cons, List.not_mem_nil, or_false] at hd
  rcases hd with rfl | rfl | rfl | rfl | rfl
  · exact (Sm.str (strOk_name ok.name) (by omega)).mono (by omega) (by omega)
  · exact os
  · exact (Sm.str (strOk_kind ok.kind) (by omega)).mono (by omega) (by omega)
  · exact (Sm.bool _).mono (by omega) (by omega)
  · exact (Sm.bool _).mono (by omega) (by omega)
theorem optV_dp {K : PySem.W.Frag} {H : Hp} (o : Option Int) : Dp K H (optV o) (optP o) := by
  cases o
  · exact .non
  · exact .int _
theorem WorthAt.dp {K : PySem.W.Frag} {H : Hp} {v : V} {e : WorthD} (h : WorthAt H v e) : Dp K H v (woP e) := by
  obtain ⟨p, rfl, hp⟩ := h
  exact .tup (SqT.of hp) (.cons (.str _) (.cons (.str _) (.cons (.int _) (.cons (.str _) (.cons (optV_dp _) (.cons (optV_dp _) .nil))))))
end K14

namespace L2
open PySem PySem.Spec PyProof.Rows PySem.W
/-! ### defs that are called where nothing is being shown around the call -/
structure FnG (P : Program) (w : World) (K : PySem.W.Frag) (mg : Str → Option Value) (base : Heap) (k : Nat) (f : Addr) (fd : FuncData) (ps : List Str) (sp : Sp) : Prop where
  num : ∀ vs H Q E, sp vs H Q E → vs.length = ps.length
  go : ∀ (A : Around) (outer : List Env) (s : Shared) (H : Hp) (args : Args) (us : List Value) (vs : List V) (Q : VK), A.guards = some [] → Room k A → Env0 P w K mg base A outer s H → BindsTo s fd args (ps.zip us) → Vals vs us → sp vs H Q E0 →
    codeAny (model P w) A (.call (.ref f) args) (CR CX0 outer P w H s Q E0) s
theorem FnG.of {P : Program} {w : World} {K : PySem.W.Frag} {mg : Str → Option Value} {base : Heap} {k : Nat} {f : Addr} {nm qual : Str} {st : Stmt} {fd : FuncData} {N ps : List Str} {sp : Sp} (F : Fun K nm qual st f fd) (S : FnScope N ps (defScope st)) (num : ∀ vs H Q E, sp vs H Q E → vs.length = ps.length)
    (body : ∀ (cdv : Value) (A : Around) (outer : List Env) (s : Shared) (H : Hp) (vs : List V) (Q : VK), (A.deeper (envOfC qual (defScope st) s.heap.objs.size f cdv)).guards = some [] → Room k (A.deeper (envOfC qual (defScope st) s.heap.objs.size f cdv)) → sp vs H Q E0 →
      ∃ t, PSs (cxOf CX0 P w K mg base N qual (defScope st) f cdv A outer s H E0).nox (defBody st) t ∧ t { nx := fun _ H' => Q .non H', rt := Q } (start N vs) H) : FnG P w K mg base (k + 1) f fd ps sp := by
  obtain ⟨oc, od, kV, doc, pm, an, cdv, ct, osl, e, lk, hcd⟩ := F.ex
  subst e
  refine ⟨num, fun A outer s H args us vs Q hg0 hr z0 hb r q => ?_⟩
  have hg : (A.deeper (envOfC qual (defScope st) s.heap.objs.size f cdv)).guards = some [] := by
    first | exact hg0 | (simp [Around.deeper, hg0]) | (unfold Around.deeper; exact hg0)
  have KI : K.In s.heap := z0.mod.kin.keeps fun b o y => (z0.bs b o y).1
  have zl : s.heap.NoLimit := z0.mod.nolimit.keeps fun b o y => (z0.bs b o y).1
  have kinds : ∀ y ∈ ps.zip us, (defScope st).names.lookup y.1 = some .local ∨ ((defScope st).names.lookup y.1 = some .cell ∧ ((cellsFrom (s.heap.objs.size + 1) (defScope st).names []).lookup y.1).isSome = true) := by
    rintro ⟨n, v'⟩ hy
    exact (S.par n (List.of_mem_zip hy).1).imp (fun y => y) fun y => ⟨y, PySem.W.cellsFrom_some _ _ _ (.inl y)⟩
  refine codeAny_call_function hr.depth (KI _ _ lk) rfl S.co S.gen rfl (PySem.W.codeRec_of KI hcd) (hb _ _ _ _ (wpAny_newFunctionEnv_cells S.kind kinds fun env he s1 y => ?_))
  subst he
  obtain ⟨t, ht, hq⟩ := body cdv A outer s H vs Q hg (hr.deeper _) q
  have I := inv_start (CX := CX0) (E := E0) S hr.hd z0 (num _ _ _ _ q) r y
  refine ⟨zl.keeps y.toInCall.keep, codeAny_func (wpAny_mono (ht.nox.run [] s1 (start N vs) H _ I hq) (fun fl s' hs => ?_) fun _ _ hs => hs)⟩
  match fl, hs with
  | .ret u, ⟨v, σ', H', J, rv, q⟩ => exact ⟨v, H', J.os, J.bare, J.base, J.hok, rv, q⟩
  | .next, ⟨σ', H', J, q⟩ => exact ⟨V.non, H', J.os, J.bare, J.base, J.hok, rfl, q⟩
  | .brk, ⟨_, _, _, q⟩ => exact q.elim
  | .cont, ⟨_, _, _, q⟩ => exact q.elim
def HasG (P : Program) (w : World) (K : PySem.W.Frag) (mg : Str → Option Value) (base : Heap) (k : Nat) (nm : Str) (ps : List Str) (sp : Sp) : Prop :=
  ∃ (f : Addr) (fd : FuncData), FnG P w K mg base k f fd ps sp ∧ mg nm = some (.ref f) ∧ PySem.W.keepIn K (.ref f) = true ∧ Binds K fd ps []
theorem pe_callG {X : Cx} {k : Nat} {x : Str} {ps : List Str} {sp : Sp} {p pos : Pos} {e : Expr} {es : List Expr} {t : TA} (G : HasG X.prog X.w X.K X.mg X.base k x ps sp) (g0 : X.A.guards = some []) (hr : Room k X.A) (hg : Gl X x) (ha : PA X (e :: es) t)
    (hdb : (x == ("__debug__" : Str)) = false := by decide) (he : starEach (e :: es) X.env = (false, eval e X.env) :: starEach es X.env := by rfl) (hpl : (backTo pos (starEach es X.env)).any (·.1) = false := by rfl) :
    PE X (.Call (.Name x p) (e :: es) [] pos) (tCall sp [] E0 t) := by
  obtain ⟨f, fd, F, m, kp, b⟩ := G
  refine ⟨fun pins s σ H Q I h => wpAny_Call_Name_kw (ld_glob I hg m ?_ hdb)⟩
  refine PySem.W.callWith_K (h₀ := X.base) I.ok.mod.kin kp (thn (ha.run pos pins s σ H _ I h) fun us s1 q => ?_) he hpl
  obtain ⟨vs, H1, I1, r, q⟩ := q
  refine ⟨I1.kIn, ?_⟩
  rw [List.append_nil] at q
  have hl : us.length = ps.length := by rw [← r.length]; exact F.num _ _ _ _ q
  have bd := b s1 us I1.kIn (by rw [List.append_nil]; exact hl)
  rw [List.append_nil] at bd
  refine wpAny_call (codeAny_mono (F.go X.A X.stack s1 H1 ⟨us, []⟩ us vs Q g0 hr I1.env0 bd r q) fun z s2 hz => ?_)
  match z, hz with
  | .ok (.ret u), hz => exact I1.after hz
  | .ok .next, hz => exact hz.elim
  | .ok .brk, hz => exact hz.elim
  | .ok .cont, hz => exact hz.elim
  | .error e, hz => exact hz.elim
theorem DefAt.hasG {P : Program} {w : World} {K : PySem.W.Frag} {mg : Str → Option Value} {base : Heap} {k : Nat} {nm : Str} {st : Stmt} {N ps : List Str} {sp : Sp} (F : DefAt K mg nm st ps) (S : FnScope N ps (defScope st)) (num : ∀ vs H Q E, sp vs H Q E → vs.length = ps.length)
    (body : ∀ (f : Addr) (cdv : Value) (A : Around) (outer : List Env) (s : Shared) (H : Hp) (vs : List V) (Q : VK), (A.deeper (envOfC nm (defScope st) s.heap.objs.size f cdv)).guards = some [] → Room k (A.deeper (envOfC nm (defScope st) s.heap.objs.size f cdv)) → sp vs H Q E0 →
      ∃ t, PSs (cxOf CX0 P w K mg base N nm (defScope st) f cdv A outer s H E0).nox (defBody st) t ∧ t { nx := fun _ H' => Q .non H', rt := Q } (start N vs) H) : HasG P w K mg base (k + 1) nm ps sp := by
  obtain ⟨f, fd, F, m, b⟩ := F
  exact ⟨f, fd, FnG.of F S num (body f), m, F.kp, b⟩
end L2

set_option pp.maxSteps 600
namespace L2
open PySem PySem.Spec PyProof.Rows
section
variable {X : Cx} {P : Program} {w : World} {K : PySem.W.Frag} {mg : Str → Option Value} {base : Heap} {k : Nat} {cls : List Addr} {sp : Addr → Sp}
theorem op_eqCK (e1 : X.prog = P) (e2 : X.w = w) (e3 : X.K = K) (e4 : X.mg = mg) (e5 : X.base = base) (Eq : EqCls P w K mg base k cls sp) (hr : Room k X.A) : OpR X (compareOp .Eq) (rEqC K cls sp false) := by
  subst e1 e2 e3 e4 e5; exact op_eqC Eq hr
theorem op_neCK (e1 : X.prog = P) (e2 : X.w = w) (e3 : X.K = K) (e4 : X.mg = mg) (e5 : X.base = base) (Eq : EqCls P w K mg base k cls sp) (hr : Room (k + 1) X.A) : OpR X (compareOp .NotEq) (rEqC K cls sp true) := by
  subst e1 e2 e3 e4 e5; exact op_neC Eq hr
theorem op_eqDK (e : X.K = K) (hr : Room 1 X.A) : OpR X (compareOp .Eq) (rEqD K) := by
  subst e; exact op_eqD hr.units
end
end L2
namespace K14
open PySem L2 PySem.Spec PyProof.Rows
theorem words_ok {ws : List Str} (h : ∀ w ∈ ws, PyData.strOk w = true) : PyData.strOk (Txt.join " " ws) = true := strOk_join (by decide +kernel) h
theorem bnd_ok {o : Option Int} {s : Str} (h : PyData.strOk s = true) : ∀ x ∈ bndW o s, PyData.strOk x = true := by
  intro x hx
  cases o with
  | none => cases hx
  | some n =>
    have hx : x = s ∨ x = iS n := by simpa [bndW] using hx
    rcases hx with rfl | rfl
    · exact h
    · exact strOk_string _
theorem woS_ok {e : WorthD} (ok : WoOk e) : PyData.strOk (woS e) = true := words_ok fun s hs => by
  unfold woW at hs
  rcases List.mem_append.mp hs with hs | hs
  · rcases List.mem_append.mp hs with hs | hs
    · simp only [List.mem_cons, List.not_mem_nil, or_false] at hs
      rcases hs with rfl | rfl | rfl | rfl | rfl
      · decide +kernel
      · exact strOk_name ok.total
      · exact strOk_name ok.kind
      · exact strOk_string _
      · exact strOk_all ok.what (by decide +kernel)
    · exact bnd_ok (by decide +kernel) s hs
  · exact bnd_ok (by decide +kernel) s hs
theorem ifW_ok {b : Bool} {w : Str} (h : PyData.strOk w = true) : ∀ s ∈ ifW b w, PyData.strOk s = true := by
  intro s hs
  cases b with
  | false => cases hs
  | true => rw [List.mem_singleton.mp hs]; exact h
theorem evS_ok {e : EventD} (ok : EvOk e) : PyData.strOk (evS e) = true := words_ok fun s hs => by
  unfold evW at hs
  rcases List.mem_append.mp hs with hs | hs
  · rcases List.mem_append.mp hs with hs | hs
    · rcases List.mem_append.mp hs with hs | hs
      · rcases List.mem_append.mp hs with hs | hs
        · simp only [List.mem_cons, List.not_mem_nil, or_false] at hs
          rcases hs with rfl | rfl
          · decide +kernel
          · exact strOk_name ok.name
        · exact ok.origins.strOk s hs
      · simp only [List.mem_cons, List.not_mem_nil, or_false] at hs
        rcases hs with rfl | rfl
        · decide +kernel
        · exact strOk_kind ok.kind
    · exact ifW_ok (by decide +kernel) s hs
  · exact ifW_ok (by decide +kernel) s hs
theorem woS_len {e : WorthD} (ok : WoOk e) (nm : WoNum e) : (woS e).length ≤ 20000 := by
  refine Nat.le_trans (join_len _ _) ?_
  have l1 : (bndW e.least "from").length ≤ 2 := bndW_len _ _
  have l2 : (bndW e.below "below").length ≤ 2 := bndW_len _ _
  have e2 : (woW e).length ≤ 9 := by
    unfold woW
    simp only [List.length_append, List.length_cons, List.length_nil]
    omega
  have e1 := sum_le (l := woW e) (B := 2000) fun z hz => woW_each ok nm z hz
  have e3 : (" " : Str).length = 1 := rfl
  rw [e3]
  omega
theorem evS_len {e : EventD} (ok : EvOk e) : (evS e).length ≤ 20000 := by
  refine Nat.le_trans (join_len _ _) ?_
  have e2 := evW_len ok
  have e1 := sum_le (l := evW e) (B := 6) fun z hz => evW_each ok z hz
  have e3 : (" " : Str).length = 1 := rfl
  rw [e3]
  omega
end K14

set_option pp.maxSteps 600
namespace K14
open PySem L2 PySem.Spec PyProof.Rows
/-- what == asks of a class of its own -/
structure SelfK (K : PySem.W.Frag) (C : Addr) : Prop where
  obj : ObjK K C
  nfT : PySem.W.notFirst K C (.type "tuple") = true
  nfS : PySem.W.notFirst K C (.type "str") = true
  kT : PySem.W.kitOne K (.type "tuple") (.ref C) = some false
  kS : PySem.W.kitOne K (.type "str") (.ref C) = some false
  kC : PySem.W.kitOne K (.ref C) (.ref C) = some true
section
variable {K : PySem.W.Frag} {cls : List Addr} {S : Hp → Addr → Str → Prop} {C a b dx dy : Addr} {fs gs : List (Str × V)} {z z' : Str} {H : Hp} {Q : VK}
theorem eq_own {n : Bool} (SK : SelfK K C) (ha : H a = some (.ins C dx fs)) (hb : H b = some (.ins C dy gs)) (mC : C ∈ cls) (hz : S H a z) (hz' : ∀ H', Same H H' → S H' b z') (q : ∀ H', Same H H' → Q (.bl (n != decide (z = z'))) H') : rEqC K cls (spEqC K cls S) n (.ref a) (.ref b) H Q :=
  ⟨a, C, dx, fs, rfl, ha, mC, .ins hb (by simp [PySem.W.notFirst]), ⟨a, dx, fs, z, .ref b, .non, .ref C, rfl, ha, mC, hz, .base (.ins hb SK.obj.cl SK.obj.ha SK.obj.hn SK.obj.htk SK.obj.hm), .inr ⟨SK.kC, b, dy, gs, z', rfl, hb, hz', fun H' s => ⟨_, rfl, q H' s⟩⟩⟩⟩
theorem eq_tup {n : Bool} {xs : List V} (SK : SelfK K C) (ha : H a = some (.ins C dx fs)) (hb : H b = some (.tup xs)) (mC : C ∈ cls) (hz : S H a z) (q : Q (.bl (n != false)) H) : rEqC K cls (spEqC K cls S) n (.ref a) (.ref b) H Q :=
  ⟨a, C, dx, fs, rfl, ha, mC, .tup hb SK.nfT, ⟨a, dx, fs, z, .ref b, .non, .type "tuple", rfl, ha, mC, hz, .base (.tup hb), .inl ⟨SK.kT, _, rfl, q⟩⟩⟩
theorem eq_str {n : Bool} {y : Str} (SK : SelfK K C) (ha : H a = some (.ins C dx fs)) (mC : C ∈ cls) (hz : S H a z) (q : Q (.bl (n != false)) H) : rEqC K cls (spEqC K cls S) n (.ref a) (.str y) H Q :=
  ⟨a, C, dx, fs, rfl, ha, mC, .str y SK.nfS, ⟨a, dx, fs, z, .str y, .non, .type "str", rfl, ha, mC, hz, .base (.str y), .inl ⟨SK.kS, _, rfl, q⟩⟩⟩
end
theorem WoOb.kp {WO : Addr} {H H' : Hp} {v : V} {e : WorthD} (s : Same H H') (h : WoOb WO H v e) : WoOb WO H' v e := by
  obtain ⟨x, dx, rfl, h⟩ := h
  exact ⟨x, dx, rfl, s _ _ h⟩
theorem EvOb.kp {K : PySem.W.Frag} {EV : Addr} {H H' : Hp} {v : V} {e : EventD} (s : Same H H') (h : EvOb K EV H v e) : EvOb K EV H' v e := by
  obtain ⟨x, dx, o, rfl, h, t⟩ := h
  exact ⟨x, dx, o, rfl, s _ _ h, t.same s⟩
theorem rowOf_take {α β : Type} {R : α → β → Prop} {as : List α} {bs : List β} {i : Nat} {a : α} {b : β} (h : Paired R as (bs.take i)) (e : bs[i]? = some b) (r : R a b) : Paired R (as ++ [a]) (bs.take (i + 1)) := by
  have hir := (List.getElem?_eq_some_iff.mp e).1
  have e1 : bs.take (i + 1) = bs.take i ++ [b] := by
    rw [← List.take_append_getElem hir]
    rw [List.getElem?_eq_getElem hir] at e
    rw [Option.some.inj e]
  rw [e1]
  exact h.app (.cons r .nil)
end K14

set_option pp.maxSteps 600
namespace K14
open PySem L2 PySem.Spec PyProof.Rows
/-- [.. for y in xs], each a bool that is known -/
theorem bools_go {K : PySem.W.Frag} {tl el : TE} {σ : L2.St} {i : Nat} {r : Addr} {xs : List V} {bs : List Bool} {H : Hp} {Q : VK}
    (hw : ∀ x, wipe ((wipe σ [i]).set i (some x)) [i] = wipe σ [i]) (e : ∀ Q : VK, Q (.ref r) H → tl σ H Q) (hr : H r = some (.lst xs)) (lb : bs.length = xs.length) (ln : xs.length ≤ 1000)
    (f : ∀ (k : Nat) (y : V) (c : Bool) (H1 : Hp) (Q : VK), Same H H1 → xs[k]? = some y → bs[k]? = some c → (∀ H2, Same H1 H2 → Q (.bl c) H2) → el ((wipe σ [i]).set i (some y)) H1 Q)
    (q : ∀ H' D, Same H H' → H D = none → H' D = some (.lst (bs.map V.bl)) → Q (.ref D) H') :
    tLc (iList K tl) (gName i) tYes el [i] σ H Q := by
  have q1000 : (1000 : Nat) < sizeLine := by decide
  refine e _ ⟨r, rfl, ⟨_, SqL.of hr⟩, fun D hD => lc_it (walk_list (xs := xs)) (fun k H' => Same H H' ∧ H' D = some (.lst ((bs.take k).map V.bl))) ⟨(new_at hD).1, upd_same⟩ (fun k H' _ z => SqL.of (z.1 _ _ hr)) ?_ ?_⟩
  · rintro k y H1' H1 hk ⟨s1, hD1⟩ ⟨rfl, ey⟩
    have hkb : k < bs.length := by omega
    refine name_go ⟨hw _, ?_⟩
    unfold tYes
    refine iteSe rfl (f k y bs[k] _ _ s1 ey (List.getElem?_eq_getElem hkb) fun H2 s2 => ⟨_, s2 _ _ hD1, ?_, fun c o z => (upd_ne (ne_of_none z hD)).trans (s2 _ _ (s1 _ _ z)), ?_⟩)
    · rw [List.length_map, List.length_take]
      omega
    · rw [upd_same, ← List.take_append_getElem hkb, List.map_append]
      rfl
  · rintro H1 ⟨s1, hD1⟩
    rw [← lb, List.take_length] at hD1
    exact q H1 D s1 hD hD1
theorem bools_dp {K : PySem.W.Frag} {H : Hp} : ∀ bs : List Bool, DpAll K H (bs.map V.bl) (bs.map PyData.bool)
  | [] => .nil
  | b :: bs => .cons (.bl b) (bools_dp bs)
theorem bools_all : ∀ bs : List Bool, PyData.canLayAll0 (bs.map PyData.bool) = true ∧ PyData.depthAll (bs.map PyData.bool) = 0
  | [] => ⟨rfl, rfl⟩
  | b :: bs => by
    obtain ⟨h1, h2⟩ := bools_all bs
    refine ⟨?_, ?_⟩
    · simp only [List.map_cons, PyData.canLayAll0, PyData.canLay0, h1, Bool.and_self]
    · simp only [List.map_cons, PyData.depthAll, PyData.depth, h2, Nat.max_self]
theorem bools_lay (bs : List Bool) : PyData.canLay0 (.list (bs.map PyData.bool)) = true := by
  simp only [PyData.canLay0]
  exact (bools_all bs).1
theorem bools_shaped (bs : List Bool) : SeqAt.shaped (.list (bs.map PyData.bool)) = true := by
  show (PyData.canLay0 _ && decide (PyData.depth _ ≤ 64)) = true
  rw [Bool.and_eq_true]
  refine ⟨bools_lay bs, decide_eq_true ?_⟩
  simp only [PyData.depth, (bools_all bs).2]
  omega
/-- two lists of the same bools are not unlike -/
theorem bools_same {K : PySem.W.Frag} {bs : List Bool} {a b : Addr} {H : Hp} {Q : VK} (ha : H a = some (.lst (bs.map V.bl))) (hb : H b = some (.lst (bs.map V.bl))) (q : Q (.bl false) H) : rNeD K (.ref a) (.ref b) H Q := by
  refine ⟨.list (bs.map PyData.bool), .list (bs.map PyData.bool), .lst (SqL.of ha) (bools_dp bs), .lst (SqL.of hb) (bools_dp bs), bools_shaped bs, bools_shaped bs, ?_⟩
  rw [SeqAt.eqv_refl _ (bools_lay bs)]
  exact q
theorem op_notIn_seqK {X : Cx} {K : PySem.W.Frag} (e : X.K = K) : OpR X (compareOp .NotIn) (rIn K true) := by
  subst e; exact op_notIn_seq
/-- != of one text with itself -/
theorem ne_same {z : Str} {H : Hp} {Q : VK} (q : Q (.bl false) H) : rNe (.str z) (.str z) H Q := by
  refine ⟨rfl, ?_⟩
  have : (!decide (V.str z = V.str z)) = false := by simp
  rw [this]
  exact q
/-- what an or's first test is, where it does not hold -/
theorem neS_go {z : Str} {A B : Hp → Prop} {H : Hp} (h : B H) : rNe (.str z) (.str z) H fun v H => ∃ c, v = .bl c ∧ if c = true then A H else B H := ne_same ⟨_, rfl, iteSf rfl h⟩
end K14

set_option pp.maxSteps 600
namespace K14
open PySem L2 PySem.Spec PyProof.Rows
theorem WoOb.okp {WO : Addr} {H H' : Hp} {v : V} {e : WorthD} (s : ObKp H H') (h : WoOb WO H v e) : WoOb WO H' v e := by
  obtain ⟨x, dx, rfl, h⟩ := h
  exact ⟨x, dx, rfl, s.2 _ _ _ _ h⟩
section
variable {P : Program} {w : World} {K : PySem.W.Frag} {mg : Str → Option Value} {base : Heap}
abbrev s_law_worths_right : Stmt := top 60
abbrev n_law_worths_right : List Str := ["_law_worths", "_law_worth_here", "_law_made", "_law_one", "_law_two", "_law_its"]
theorem sc_law_worths_right : FnScope n_law_worths_right ["_law_worths"] (defScope s_law_worths_right) := ⟨rfl, rfl, rfl, by decide +kernel, rfl, by decide +kernel, by decide +kernel⟩
def spWorthsRight : Sp := fun vs H Q _ => ∃ (r : Addr) (ws : List V) (es : List WorthD), vs = [.ref r] ∧ H r = some (.lst ws) ∧ Paired (WorthAt H) ws es ∧ (∀ e ∈ es, WoOk e ∧ WoNum e) ∧ es.length ≤ 100 ∧ ∀ H', Same H H' → Q (.bl true) H'
theorem ok_worthsRight {WO : Addr} (T : Txt mg) (SK : SelfK K WO) (Sh : Shows P w K mg base 4 [WO] (WoSh WO)) (Eq : EqCls P w K mg base 7 [WO] (spEqC K [WO] (WoSh WO))) (g_law_worth_of : Has P w K mg base 8 "_law_worth_of" ["_law_worth_here"] (spWorthOf WO)) (g_law_worth_told : Has P w K mg base 1 "_law_worth_told" ["_law_worth_here"] (spWorthTold WO)) (g_law_worth_text : Has P w K mg base 1 "_law_worth_text" ["_law_worth_here"] spWorthText)
    (F : DefAt K mg "_law_worths_right" s_law_worths_right ["_law_worths"]) : HasG P w K mg base 10 "_law_worths_right" ["_law_worths"] spWorthsRight := by
  refine F.hasG sc_law_worths_right (fun vs H Q E h => ?_) (fun f cdv A outer s H vs Q hg hr h => ?_)
  · obtain ⟨r, ws, es, rfl, _⟩ := h
    rfl
  · have hu := hr.units
    obtain ⟨r, ws, es, rfl, hr0, pw, ok, l, ret⟩ := h
    refine ⟨_, (pss_cons (ps_setLc (i := 2) (own := [("_law_worth_here", 1)]) (g := gName 1) (by rfl) sc_law_worths_right.nd rfl rfl (sw_true rfl rfl rfl (by decide +kernel)) (pi_list (pv 0)) (blkOk_by (own := [("_law_worth_here", 1)]) (N := n_law_worths_right) (sc := defScope s_law_worths_right) (by decide +kernel)) (fun _ _ _ _ _ => (pg_name (i := 1) sc_law_worths_right.nd rfl (Or.inl rfl))) (fun _ _ _ _ _ => pts_nil) (fun _ _ _ _ _ => (pe_callHas g_law_worth_of (hr.mono (by omega)) rfl (pa_cons (pv 1) pa_nil))))
      (pss_cons (ps_for PassesOwn.never rfl (pi_zip (by rfl) T.z_zip (pa_cons (pv 2) (pa_cons (pv 0) pa_nil))) (pg_tup rfl (pgs_cons (pg_name (i := 3) sc_law_worths_right.nd rfl (Or.inr rfl)) (pgs_cons (pg_name (i := 1) sc_law_worths_right.nd rfl (Or.inr rfl)) pgs_nil))) (pss_cons (ps_if (PW.pt (pw_or (pt_cmpR op_ne (pe_callB (call_reprD hg hu) (by rfl) T.z_repr (by decide +kernel) (pa_cons (pe_callHas g_law_worth_told (hr.mono (by omega)) rfl (pa_cons (pv 3) pa_nil)) pa_nil)) (pe_callB (call_reprD hg hu) (by rfl) T.z_repr (by decide +kernel) (pa_cons (pv 1) pa_nil)) (nomark _)) (pw_or (pt_cmpR op_ne (pe_callB call_reprT (by rfl) T.z_repr (by decide +kernel) (pa_cons (pe_callTy (call_strCK rfl rfl rfl rfl rfl Sh (hr.mono (by omega))) (by rfl) T.z_str (by decide +kernel) (pa_cons (pv 3) pa_nil)) pa_nil)) (pe_callB call_reprT (by rfl) T.z_repr (by decide +kernel) (pa_cons (pe_callHas g_law_worth_text (hr.mono (by omega)) rfl (pa_cons (pv 1) pa_nil)) pa_nil)) (nomark _)) (pw_or1 (pt_cmpR (op_eqCK rfl rfl rfl rfl rfl Eq (hr.mono (by omega))) (pv 3) (pv 1) (nomark _)))))) (pss_one (ps_ret pe_bl)) pss_nil)
      (pss_one (ps_if (pt_cmpR (op_neD hu) (pe_lc (own := [("_law_two", 4)]) (g := gName 4) (by rfl) sc_law_worths_right.nd (pi_list (pv 2)) (blkOk_by (own := [("_law_two", 4)]) (N := n_law_worths_right) (sc := defScope s_law_worths_right) (by decide +kernel)) (fun _ _ _ _ _ => (pg_name (i := 4) sc_law_worths_right.nd rfl (Or.inl rfl))) (fun _ _ _ _ _ => pts_nil) (fun _ _ _ _ _ => (pe_cmpR (op_eqCK rfl rfl rfl rfl rfl Eq (hr.mono (by omega))) (pv 3) (pv 4) (nomark _)))) (pe_lc (own := [("_law_its", 5)]) (g := gName 5) (by rfl) sc_law_worths_right.nd (pi_list (pv 0)) (blkOk_by (own := [("_law_its", 5)]) (N := n_law_worths_right) (sc := defScope s_law_worths_right) (by decide +kernel)) (fun _ _ _ _ _ => (pg_name (i := 5) sc_law_worths_right.nd rfl (Or.inl rfl))) (fun _ _ _ _ _ => pts_nil) (fun _ _ _ _ _ => (pe_cmpR (op_eqDK rfl (hr.mono (by omega))) (pv 1) (pv 5) (nomark _)))) (nomark _)) (pss_one (ps_ret pe_bl)) pss_nil))))
      (pss_one (ps_ret pe_bl)))), ?_⟩
    have q1000 : (1000 : Nat) < sizeLine := by decide
    have lw := pw.len
    refine seq_asg ?_
    refine ⟨_, rfl, r, rfl, ⟨_, SqL.of hr0⟩, fun D hD => lc_it (walk_list (xs := ws)) (fun i H' => Same H H' ∧ ∃ os, H' D = some (.lst os) ∧ Paired (WoOb WO H') os (es.take i)) ⟨(new_at hD).1, [], upd_same, by rw [List.take_zero]; exact .nil⟩ (fun i H' _ z => SqL.of (z.1 _ _ hr0)) ?_ ?_⟩
    · rintro i y H1' H1 hi ⟨s1, os, hD1, po⟩ ⟨rfl, ey⟩
      obtain ⟨e, ee, wa⟩ := pw.at' ey
      refine name_go ⟨rfl, ?_⟩
      unfold tYes
      refine iteSe rfl ?_
      refine ⟨_, rfl, y, e, rfl, wa.kp (TupKp.of s1), (ok e (List.mem_of_getElem? ee)).1, fun H2 u s2 ob => ?_⟩
      have s2 : Same H1 H2 := s2
      have hD2 := s2 _ _ hD1
      have oA : ObKp H2 (upd H2 D (.lst (os ++ [u]))) := ObKp.lst hD2
      have lo := po.len
      rw [List.length_take] at lo
      exact ⟨os, hD2, by omega, fun c o q => (upd_ne (ne_of_none q hD)).trans (s2 _ _ (s1 _ _ q)), os ++ [u], upd_same, rowOf_take (po.mapP' fun _ _ z => (z.kp s2).okp oA) ee (ob.okp oA)⟩
    · rintro H1 ⟨s1, os, hD1, po⟩
      rw [lw, List.take_length] at po
      refine name_go ?_
      try dsimp only
      refine seq_go ?_
      have lo := po.len
      have hr1 := s1 _ _ hr0
      have pw1 : Paired (WorthAt H1) ws es := pw.mapP' fun _ _ z => z.kp (TupKp.of s1)
      refine ⟨_, rfl, _, rfl, D, r, _, _, rfl, SqL.of hD1, SqL.of hr1, for_it (walk_zip (xs := os) (ys := ws) (n := es.length) (by rw [lo, lw, Nat.min_self])) (fun i σ H' => Same H1 H' ∧ ∃ x1 x3, σ = [some (.ref r), x1, some (.ref D), x3, none, none]) ⟨Same.refl _, _, _, rfl⟩ (fun i σ H' _ z => ⟨SqL.of (z.1 _ _ hD1), SqL.of (z.1 _ _ hr1)⟩) ?_ ?_⟩
      · rintro i x σ H2' H2 hi ⟨sm, x1, x3, rfl⟩ ⟨T', x0, y0, rfl, hT, rfl, ex, ey⟩
        obtain ⟨e, ee, ob⟩ := po.at' ex
        obtain ⟨e', ee', wa⟩ := pw1.at' ey
        rw [ee] at ee'
        cases ee'
        obtain ⟨oke, nme⟩ := ok e (List.mem_of_getElem? ee)
        obtain ⟨sT, hT'⟩ := new_at (o := .tup [x0, y0]) hT
        have s3 := sm.trans sT
        obtain ⟨a, dx, rfl, ha⟩ := ob.kp s3
        obtain ⟨py, rfl, hy⟩ := wa.kp (TupKp.of s3)
        refine ⟨T', _, rfl, SqT.of hT', rfl, _, _, rfl, _, _, rfl, rfl, ?_⟩
        generalize upd H2' T' (.tup [V.ref a, V.ref py]) = H3 at *
        refine seq_go ?_
        refine ⟨_, rfl, .ref a, e, rfl, ⟨a, dx, rfl, ha⟩, fun H4 u4 s4 w4 => ?_⟩
        have s4 : Same H3 H4 := s4
        obtain ⟨p4, rfl, h4⟩ := w4
        try dsimp only
        refine nil_go ?_
        try dsimp only
        refine Sm.repr (woP_sm oke nme) (by omega) (by omega) (WorthAt.dp ⟨p4, rfl, h4⟩) ?_
        refine ⟨_, rfl, ?_⟩
        try dsimp only
        refine nil_go ?_
        try dsimp only
        refine Sm.repr (woP_sm oke nme) (by omega) (by omega) (WorthAt.dp ⟨py, rfl, s4 _ _ hy⟩) ?_
        refine neS_go ?_
        refine ⟨_, rfl, _, rfl, a, WO, dx, _, woS e, rfl, s4 _ _ ha, List.mem_singleton.mpr rfl, ⟨e, ⟨a, dx, rfl, s4 _ _ ha⟩, oke, nme, rfl⟩, fun H5 s5 => ?_⟩
        have s5 : Same H4 H5 := s5
        refine ⟨woS e, rfl, woS_ok oke, Nat.le_trans (woS_len oke nme) (by omega), ?_⟩
        refine ⟨_, rfl, .ref py, e, rfl, ⟨py, rfl, s5 _ _ (s4 _ _ hy)⟩, oke, nme, fun H6 s6 => ?_⟩
        have s36 : Same H3 H6 := (s4.trans s5).trans s6
        refine ⟨woS e, rfl, woS_ok oke, Nat.le_trans (woS_len oke nme) (by omega), ?_⟩
        refine neS_go ?_
        have ha6 := s36 _ _ ha
        have hy6 := s36 _ _ hy
        refine ⟨_, rfl, _, rfl, eq_tup SK ha6 hy6 (List.mem_singleton.mpr rfl) ⟨e, ⟨a, dx, rfl, ha6⟩, oke, nme, rfl⟩ ⟨_, rfl, ?_⟩⟩
        refine iteSf rfl (next_go ?_)
        try dsimp only
        have hD6 := s36 _ _ (s3 _ _ hD1)
        have hr6 := s36 _ _ (s3 _ _ hr1)
        have s16 := s3.trans s36
        have lb : (es.map fun e' => decide (woS e = woS e')).length = os.length := by rw [List.length_map, lo]
        have lo' : os.length ≤ 1000 := by omega
        refine op_go (bools_go (xs := os) (bs := es.map fun e' => decide (woS e = woS e')) (fun _ => rfl) (fun Q q => ⟨_, rfl, q⟩) hD6 lb lo' (fun k y c H7 Q s7 ey ec q => ?_) fun H7 D1 s7 _ h7 => ?_)
        · obtain ⟨e2, ee2, ob2⟩ := po.at' ey
          rw [List.getElem?_map, ee2] at ec
          cases ec
          obtain ⟨b, dy, rfl, hb⟩ := ob2.kp (s16.trans s7)
          obtain ⟨ok2, nm2⟩ := ok e2 (List.mem_of_getElem? ee2)
          have ha7 := s7 _ _ ha6
          refine ⟨_, rfl, _, rfl, eq_own (n := false) SK ha7 hb (List.mem_singleton.mpr rfl) ⟨e, ⟨a, dx, rfl, ha7⟩, oke, nme, rfl⟩ (fun H8 s8 => ⟨e2, ⟨b, dy, rfl, s8 _ _ hb⟩, ok2, nm2, rfl⟩) fun H8 s8 => ?_⟩
          have := q H8 s8
          simpa using this
        · refine bools_go (xs := ws) (bs := es.map fun e' => decide (woS e = woS e')) (fun _ => rfl) (fun Q q => ⟨_, rfl, q⟩) (s7 _ _ hr6) (by rw [List.length_map, lw]) (by omega) (fun k y c H8 Q s8 ey ec q => ?_) fun H8 D2 s8 _ h8 => ?_
          · obtain ⟨e2, ee2, wa2⟩ := pw.at' ey
            rw [List.getElem?_map, ee2] at ec
            cases ec
            obtain ⟨ok2, nm2⟩ := ok e2 (List.mem_of_getElem? ee2)
            have k7 := s7.trans s8
            refine ⟨_, rfl, _, rfl, woP e, woP e2, WorthAt.dp ⟨py, rfl, k7 _ _ hy6⟩, WorthAt.dp (wa2.kp (TupKp.of ((s1.trans s16).trans k7))), (woP_sm oke nme).shaped (by omega), (woP_sm ok2 nm2).shaped (by omega), ?_⟩
            rw [woP_eqv oke nme ok2 nm2]
            exact q H8 (Same.refl _)
          · refine bools_same (s8 _ _ h7) h8 ⟨_, rfl, iteSf rfl (next_go ?_)⟩
            exact ⟨(s16.trans s7).trans s8, _, _, rfl⟩
      · rintro σ H2 ⟨sm, x1, x3, rfl⟩
        try dsimp only
        refine ret_go ?_
        exact ret H2 (s1.trans sm)
end
end K14

set_option pp.maxSteps 600
namespace K14
open PySem L2 PySem.Spec PyProof.Rows
/-- an event as the law keeps it: the origins a list -/
def evPL (e : EventD) : PyData := .tuple [.str e.name, .list (e.origins.map PyData.str), .str e.kind, .bool e.amount, .bool e.group]
theorem evPL_shaped {e : EventD} (ok : EvOk e) : PyData.canLay0 (evPL e) = true ∧ SeqAt.shaped (evPL e) = true := by
  have s := evP_sm ok
  have a := s.lay
  have b := s.deep
  unfold evP at a b
  simp only [PyData.canLay0, PyData.canLayAll0, PyData.depth, PyData.depthAll] at a b
  have a' : PyData.canLay0 (evPL e) = true := by
    unfold evPL
    simp only [PyData.canLay0, PyData.canLayAll0]
    exact a
  refine ⟨a', ?_⟩
  show (PyData.canLay0 _ && decide (PyData.depth _ ≤ 64)) = true
  rw [a', Bool.true_and]
  unfold evPL
  simp only [PyData.depth, PyData.depthAll]
  exact decide_eq_true (by omega)
theorem strs_all_eqv : ∀ l m : List Str, PyData.eqvAll (l.map PyData.str) (m.map PyData.str) = true → l = m
  | [], [], _ => rfl
  | [], y :: m, h => by simp [PyData.eqvAll] at h
  | x :: l, [], h => by simp [PyData.eqvAll] at h
  | x :: l, y :: m, h => by
    simp only [List.map_cons, PyData.eqvAll, PyData.eqv, Bool.and_eq_true, beq_iff_eq] at h
    rw [h.1, strs_all_eqv l m h.2]
theorem evPL_inj {e e' : EventD} (h : PyData.eqv (evPL e) (evPL e') = true) : e = e' := by
  unfold evPL at h
  simp only [PyData.eqv, PyData.eqvAll, Bool.and_eq_true, beq_iff_eq, and_true] at h
  obtain ⟨h1, h2', h3, h4, h5⟩ := h
  have h2 := strs_all_eqv _ _ h2'
  clear h2'
  cases e
  cases e'
  simp only at h1 h2 h3 h4 h5
  subst h1 h2 h3 h4 h5
  rfl
theorem nodup_inj {α β : Type} {f : α → β} : ∀ {l : List α}, (l.map f).Nodup → ∀ {x y : α}, x ∈ l → y ∈ l → f x = f y → x = y
  | [], _, _, _, hx, _, _ => by cases hx
  | a :: l, nd, x, y, hx, hy, e => by
    rw [List.map_cons] at nd
    obtain ⟨n1, n2⟩ := List.nodup_cons.mp nd
    rcases List.mem_cons.mp hx with hx' | hx'
    · rcases List.mem_cons.mp hy with hy' | hy'
      · rw [hx', hy']
      · exact absurd (List.mem_map.mpr ⟨y, hy', by rw [← e, hx']⟩) n1
    · rcases List.mem_cons.mp hy with hy' | hy'
      · exact absurd (List.mem_map.mpr ⟨x, hx', by rw [e, hy']⟩) n1
      · exact nodup_inj n2 hx' hy' e
theorem evPL_eqv {es : List EventD} (nd : (es.map (·.name)).Nodup) (ok : ∀ e ∈ es, EvOk e) {e e' : EventD} (h : e ∈ es) (h' : e' ∈ es) : PyData.eqv (evPL e) (evPL e') = decide (evS e = evS e') := by
  by_cases q : evS e = evS e'
  · have := nodup_inj nd h h' (evS_name (ok e h) (ok e' h') q)
    subst this
    rw [SeqAt.eqv_refl _ (evPL_shaped (ok e h)).1, decide_eq_true rfl]
  · rw [decide_eq_false q]
    cases hb : PyData.eqv (evPL e) (evPL e') with
    | false => rfl
    | true => exact absurd (by rw [evPL_inj hb]) q
theorem make_go {C : Addr} {sp : Sp} {dvs : List V} {E : XK} {t : TA} {σ : L2.St} {H : Hp} {Q : VK} (h : t σ H fun vs H1 => ∀ x dx, H1 x = none → H1 dx = none → dx ≠ x → sp (.ref x :: (vs ++ dvs)) (upd (upd H1 dx (.own x)) x (.ins C dx [])) (fun v H2 => v = .non ∧ Q (.ref x) H2) E) : tMake C sp dvs E t σ H Q := h
theorem EventAt.same {H H' : Hp} {v : V} {e : EventD} (s : Same H H') (h : EventAt H v e) : EventAt H' v e := by
  obtain ⟨p, o, e1, h1, h2⟩ := h
  exact ⟨p, o, e1, s _ _ h1, s _ _ h2⟩
theorem EventAt.dp {K : PySem.W.Frag} {H : Hp} {v : V} {e : EventD} (h : EventAt H v e) : Dp K H v (evPL e) := by
  obtain ⟨p, o, rfl, hp, ho⟩ := h
  exact .tup (SqT.of hp) (.cons (.str _) (.cons (.lst (SqL.of ho) (strs_dp _)) (.cons (.str _) (.cons (.bl _) (.cons (.bl _) .nil)))))
theorem ev_dp {K : PySem.W.Frag} {H : Hp} {t o : Addr} {e : EventD} (tp : Tp K H o (e.origins.map V.str)) (h : H t = some (.tup [.str e.name, .ref o, .str e.kind, .bl e.amount, .bl e.group])) : Dp K H (.ref t) (evP e) :=
  .tup (SqT.of h) (.cons (.str _) (.cons (.tup tp.sq (strs_dp _)) (.cons (.str _) (.cons (.bl _) (.cons (.bl _) .nil)))))
theorem EvOb.okp {K : PySem.W.Frag} {EV : Addr} {H H' : Hp} {v : V} {e : EventD} (s : ObKp H H') (h : EvOb K EV H v e) : EvOb K EV H' v e := by
  obtain ⟨x, dx, o, rfl, h, t⟩ := h
  exact ⟨x, dx, o, rfl, s.2 _ _ _ _ h, t.kp s⟩
section
variable {P : Program} {w : World} {K : PySem.W.Frag} {mg : Str → Option Value} {base : Heap}
abbrev s_law_events_right : Stmt := top 59
abbrev n_law_events_right : List Str := ["_law_events", "_law_event_here", "_law_made", "_law_one", "_law_due", "_law_given", "_law_other_here", "_law_two", "_law_its"]
theorem sc_law_events_right : FnScope n_law_events_right ["_law_events"] (defScope s_law_events_right) := ⟨rfl, rfl, rfl, by decide +kernel, rfl, by decide +kernel, by decide +kernel⟩
def spEventsRight : Sp := fun vs H Q _ => ∃ (r : Addr) (ws : List V) (es : List EventD), vs = [.ref r] ∧ H r = some (.lst ws) ∧ Paired (EventAt H) ws es ∧ (∀ e ∈ es, EvOk e) ∧ (es.map (·.name)).Nodup ∧ es.length ≤ 100 ∧ ∀ H', Same H H' → Q (.bl true) H'
theorem ok_eventsRight {EV fE : Addr} {fdE : FuncData} (T : Txt mg) (CE : ClsA K mg "Event" EV ["name", "origins", "kind", "amount", "group"]) (ME : Mk K EV fE) (g_E : FnOk P w K mg base CX0 6 fE fdE ["self", "name", "origins", "kind", "amount", "group"] (spEventI K EV)) (bE : Binds K fdE ["self", "name", "origins", "kind", "amount", "group"] [])
    (SK : SelfK K EV) (Sh : Shows P w K mg base 4 [EV] (EvSh K EV)) (Eq : EqCls P w K mg base 7 [EV] (spEqC K [EV] (EvSh K EV))) (g_law_event_of : Has P w K mg base 8 "_law_event_of" ["_law_event_here"] (spEventOf K EV)) (g_law_event_told : Has P w K mg base 1 "_law_event_told" ["_law_event_here"] (spEventTold K EV)) (g_law_event_text : Has P w K mg base 1 "_law_event_text" ["_law_event_here"] spEventText)
    (F : DefAt K mg "_law_events_right" s_law_events_right ["_law_events"]) : HasG P w K mg base 10 "_law_events_right" ["_law_events"] spEventsRight := by
  refine F.hasG sc_law_events_right (fun vs H Q E h => ?_) (fun f cdv A outer s H vs Q hg hr h => ?_)
  · obtain ⟨r, ws, es, rfl, _⟩ := h
    rfl
  · have hu := hr.units
    obtain ⟨r, ws, es, rfl, hr0, pw, ok, nd, l, ret⟩ := h
    refine ⟨_, (pss_cons (ps_setLc (i := 2) (own := [("_law_event_here", 1)]) (g := gName 1) (by rfl) sc_law_events_right.nd rfl rfl (sw_true rfl rfl rfl (by decide +kernel)) (pi_list (pv 0)) (blkOk_by (own := [("_law_event_here", 1)]) (N := n_law_events_right) (sc := defScope s_law_events_right) (by decide +kernel)) (fun _ _ _ _ _ => (pg_name (i := 1) sc_law_events_right.nd rfl (Or.inl rfl))) (fun _ _ _ _ _ => pts_nil) (fun _ _ _ _ _ => (pe_callHas g_law_event_of (hr.mono (by omega)) rfl (pa_cons (pv 1) pa_nil))))
      (pss_cons (ps_for PassesOwn.never rfl (pi_zip (by rfl) T.z_zip (pa_cons (pv 2) (pa_cons (pv 0) pa_nil))) (pg_tup rfl (pgs_cons (pg_name (i := 3) sc_law_events_right.nd rfl (Or.inr rfl)) (pgs_cons (pg_name (i := 1) sc_law_events_right.nd rfl (Or.inr rfl)) pgs_nil))) (pss_cons (ps_set (i := 4) sc_law_events_right.nd rfl (Or.inl rfl) (pe_op op_catT (pe_tup (pa_cons (pe_ix ix_tup (pv 1) pe_int (fun _ _ => rfl)) (pa_cons (pe_callTy call_tuple_of (by rfl) T.z_tuple (by decide +kernel) (pa_cons (pe_ix ix_tup (pv 1) pe_int (fun _ _ => rfl)) pa_nil)) pa_nil))) (pe_slice sl_tup (pv 1) (po_some pe_int) po_none)))
      (pss_cons (ps_if (PW.pt (pw_or (pt_cmpR op_ne (pe_callB (call_reprD hg hu) (by rfl) T.z_repr (by decide +kernel) (pa_cons (pe_callHas g_law_event_told (hr.mono (by omega)) rfl (pa_cons (pv 3) pa_nil)) pa_nil)) (pe_callB (call_reprD hg hu) (by rfl) T.z_repr (by decide +kernel) (pa_cons (pv 4) pa_nil)) (nomark _)) (pw_or (pt_cmpR op_ne (pe_callB call_reprT (by rfl) T.z_repr (by decide +kernel) (pa_cons (pe_callTy (call_strCK rfl rfl rfl rfl rfl Sh (hr.mono (by omega))) (by rfl) T.z_str (by decide +kernel) (pa_cons (pv 3) pa_nil)) pa_nil)) (pe_callB call_reprT (by rfl) T.z_repr (by decide +kernel) (pa_cons (pe_callHas g_law_event_text (hr.mono (by omega)) rfl (pa_cons (pv 1) pa_nil)) pa_nil)) (nomark _)) (pw_or1 (pt_cmpR (op_eqCK rfl rfl rfl rfl rfl Eq (hr.mono (by omega))) (pv 3) (pe_callTy (call_strCK rfl rfl rfl rfl rfl Sh (hr.mono (by omega))) (by rfl) T.z_str (by decide +kernel) (pa_cons (pv 3) pa_nil)) (nomark _)))))) (pss_one (ps_ret pe_bl)) pss_nil)
      (pss_cons (ps_set (i := 5) sc_law_events_right.nd rfl (Or.inl rfl) (pe_callTy call_list_of (by rfl) T.z_list (by decide +kernel) (pa_cons (pe_ix ix_tup (pv 1) pe_int (fun _ _ => rfl)) pa_nil)))
      (pss_cons (ps_set (i := 6) sc_law_events_right.nd rfl (Or.inl rfl) (pe_make ME g_E (hr.mono (by omega)) rfl CE.m bE .nil pass0 (pa_cons (pe_ix ix_tup (pv 1) pe_int (fun _ _ => rfl)) (pa_cons (pv 5) (pa_cons (pe_ix ix_tup (pv 1) pe_int (fun _ _ => rfl)) (pa_cons (pe_ix ix_tup (pv 1) pe_int (fun _ _ => rfl)) (pa_cons (pe_ix ix_tup (pv 1) pe_int (fun _ _ => rfl)) pa_nil)))))))
      (pss_cons (ps_expr (pe_bm PySem.F.plainAttrs_list PySem.F.slot_list_append PySem.F.type_list_append mt_append (pv 5) (pa_cons pe_str pa_nil)))
      (pss_cons (ps_if (pt_cmpR (op_neCK rfl rfl rfl rfl rfl Eq (hr.mono (by omega))) (pv 3) (pv 6) (nomark _)) (pss_one (ps_ret pe_bl)) pss_nil)
      (pss_one (ps_if (pt_cmpR (op_neD hu) (pe_lc (own := [("_law_two", 7)]) (g := gName 7) (by rfl) sc_law_events_right.nd (pi_list (pv 2)) (blkOk_by (own := [("_law_two", 7)]) (N := n_law_events_right) (sc := defScope s_law_events_right) (by decide +kernel)) (fun _ _ _ _ _ => (pg_name (i := 7) sc_law_events_right.nd rfl (Or.inl rfl))) (fun _ _ _ _ _ => pts_nil) (fun _ _ _ _ _ => (pe_cmpR (op_eqCK rfl rfl rfl rfl rfl Eq (hr.mono (by omega))) (pv 3) (pv 7) (nomark _)))) (pe_lc (own := [("_law_its", 8)]) (g := gName 8) (by rfl) sc_law_events_right.nd (pi_list (pv 0)) (blkOk_by (own := [("_law_its", 8)]) (N := n_law_events_right) (sc := defScope s_law_events_right) (by decide +kernel)) (fun _ _ _ _ _ => (pg_name (i := 8) sc_law_events_right.nd rfl (Or.inl rfl))) (fun _ _ _ _ _ => pts_nil) (fun _ _ _ _ _ => (pe_cmpR (op_eqDK rfl (hr.mono (by omega))) (pv 1) (pv 8) (nomark _)))) (nomark _)) (pss_one (ps_ret pe_bl)) pss_nil)))))))))
      (pss_one (ps_ret pe_bl)))), ?_⟩
    have q1000 : (1000 : Nat) < sizeLine := by decide
    have lw := pw.len
    refine seq_asg ?_
    refine ⟨_, rfl, r, rfl, ⟨_, SqL.of hr0⟩, fun D hD => lc_it (walk_list (xs := ws)) (fun i H' => Same H H' ∧ ∃ os, H' D = some (.lst os) ∧ Paired (EvOb K EV H') os (es.take i)) ⟨(new_at hD).1, [], upd_same, by rw [List.take_zero]; exact .nil⟩ (fun i H' _ z => SqL.of (z.1 _ _ hr0)) ?_ ?_⟩
    · rintro i y H1' H1 hi ⟨s1, os, hD1, po⟩ ⟨rfl, ey⟩
      obtain ⟨e, ee, wa⟩ := pw.at' ey
      refine name_go ⟨rfl, ?_⟩
      unfold tYes
      refine iteSe rfl ?_
      refine ⟨_, rfl, y, e, rfl, wa.same s1, ok e (List.mem_of_getElem? ee), fun H2 u s2 ob => ?_⟩
      have s2 : Same H1 H2 := s2
      have hD2 := s2 _ _ hD1
      have oA : ObKp H2 (upd H2 D (.lst (os ++ [u]))) := ObKp.lst hD2
      have lo := po.len
      rw [List.length_take] at lo
      exact ⟨os, hD2, by omega, fun c o q => (upd_ne (ne_of_none q hD)).trans (s2 _ _ (s1 _ _ q)), os ++ [u], upd_same, rowOf_take (po.mapP' fun _ _ z => (z.kp s2).okp oA) ee (ob.okp oA)⟩
    · rintro H1 ⟨s1, os, hD1, po⟩
      rw [lw, List.take_length] at po
      refine name_go ?_
      try dsimp only
      refine seq_go ?_
      have lo := po.len
      have hr1 := s1 _ _ hr0
      have pw1 : Paired (EventAt H1) ws es := pw.mapP' fun _ _ z => z.same s1
      refine ⟨_, rfl, _, rfl, D, r, _, _, rfl, SqL.of hD1, SqL.of hr1, for_it (walk_zip (xs := os) (ys := ws) (n := es.length) (by rw [lo, lw, Nat.min_self])) (fun i σ H' => Same H1 H' ∧ ∃ x1 x3 x4 x5 x6, σ = [some (.ref r), x1, some (.ref D), x3, x4, x5, x6, none, none]) ⟨Same.refl _, _, _, _, _, _, rfl⟩ (fun i σ H' _ z => ⟨SqL.of (z.1 _ _ hD1), SqL.of (z.1 _ _ hr1)⟩) ?_ ?_⟩
      · rintro i x σ H2' H2 hi ⟨sm, x1, x3, x4, x5, x6, rfl⟩ ⟨T', x0, y0, rfl, hT, rfl, ex, ey⟩
        obtain ⟨e, ee, ob⟩ := po.at' ex
        obtain ⟨e', ee', wa⟩ := pw1.at' ey
        rw [ee] at ee'
        cases ee'
        have me := List.mem_of_getElem? ee
        have oke := ok e me
        obtain ⟨sT, hT'⟩ := new_at (o := .tup [x0, y0]) hT
        have s3 := sm.trans sT
        obtain ⟨a, dx, o, rfl, ha, tp⟩ := ob.kp s3
        obtain ⟨py, oy, rfl, hy, hoy⟩ := wa.same s3
        refine ⟨T', _, rfl, SqT.of hT', rfl, _, _, rfl, _, _, rfl, rfl, ?_⟩
        generalize upd H2' T' (.tup [V.ref a, V.ref py]) = H3 at *
        refine seq_asg (op_go ?_)
        have ix : ∀ {K' : PySem.W.Frag} {i : Int} {v : V} {σ : L2.St} {H1 : Hp}, σ[1]? = some (some (.ref py)) → Same H3 H1 → atI [.str e.name, .ref oy, .str e.kind, .bl e.amount, .bl e.group] i = some v → ∀ Q : VK, Q v H1 → tOp (rIxT K') (tVar 1) (tC (.int i)) σ H1 Q := fun e0 s1 ea Q q => ⟨_, e0, py, _, _, _, rfl, rfl, SqT.of (s1 _ _ hy), ea, q⟩
        refine tup_go (cons_go (ix rfl (Same.refl _) rfl _ (cons_go (cb_go (cons_go (ix rfl (Same.refl _) rfl _ (nil_go ⟨oy, _, rfl, .inl ⟨SqL.of hoy, fun o4 ho4 => nil_go ⟨(show 2 ≤ sizeLine by decide), fun t4 ht4 => ?_⟩⟩⟩)))))))
        obtain ⟨sA, hA⟩ := new_at (o := .tup (e.origins.map V.str)) ho4
        obtain ⟨sB, hB⟩ := new_at (o := .tup [V.str e.name, V.ref o4]) ht4
        have s34 := sA.trans sB
        have hA := sB _ _ hA
        generalize upd (upd H3 o4 (.tup (e.origins.map V.str))) t4 (.tup [V.str e.name, V.ref o4]) = H4 at *
        have hy4 := s34 _ _ hy
        refine ⟨_, rfl, 2, rfl, py, _, rfl, SqT.of hy4, ?_, fun t5 ht5 => ?_⟩
        · rintro ⟨z, _⟩
          revert z
          show ¬ HT.sIx 5 0 (some ((2 : Nat) : Int)) = 0
          rw [HT.sIx_nat]
          decide
        have cut : cutV [V.str e.name, .ref oy, .str e.kind, .bl e.amount, .bl e.group] (some 2) none = [.str e.kind, .bl e.amount, .bl e.group] := by
          unfold cutV
          rw [show HT.sIx ([V.str e.name, .ref oy, .str e.kind, .bl e.amount, .bl e.group] : List V).length 0 (some 2) = 2 from by show HT.sIx 5 0 (some ((2 : Nat) : Int)) = 2; rw [HT.sIx_nat]; decide]
          rfl
        rw [cut]
        obtain ⟨sC, hC⟩ := new_at (o := .tup [V.str e.kind, V.bl e.amount, V.bl e.group]) ht5
        have s35 := s34.trans sC
        have hA5 := sC _ _ hA
        have hB5 := sC _ _ hB
        generalize upd H4 t5 (.tup [V.str e.kind, V.bl e.amount, V.bl e.group]) = H5 at *
        refine ⟨t4, t5, [V.str e.name, V.ref o4], [V.str e.kind, V.bl e.amount, V.bl e.group], rfl, rfl, SqT.of hB5, SqT.of hC, (fun z => nomatch z), (show 2 + 3 ≤ sizeLine by decide), (fun z => nomatch z), fun _ t6 ht6 => name_go ?_⟩
        obtain ⟨sD, hD6⟩ := new_at (o := .tup [V.str e.name, V.ref o4, V.str e.kind, V.bl e.amount, V.bl e.group]) ht6
        have s36 := s35.trans sD
        have hA6 := sD _ _ hA5
        show tSeq _ _ _ _ (upd H5 t6 (.tup [V.str e.name, V.ref o4, V.str e.kind, V.bl e.amount, V.bl e.group]))
        generalize upd H5 t6 (.tup [V.str e.name, V.ref o4, V.str e.kind, V.bl e.amount, V.bl e.group]) = H6 at *
        have ha6 := s36 _ _ ha
        have tp6 := tp.kp (ObKp.of s36)
        try dsimp only
        refine seq_go ?_
        refine ⟨_, rfl, .ref a, e, rfl, ⟨a, dx, o, rfl, ha6, tp6⟩, fun H7 t7 o7 s7 tp7 h7 => ?_⟩
        have s7 : Same H6 H7 := s7
        try dsimp only
        refine nil_go ?_
        try dsimp only
        refine Sm.repr (evP_sm oke) (by omega) (by omega) (ev_dp (tp7.kp (ObKp.of s7)) h7) ?_
        refine ⟨_, rfl, ?_⟩
        try dsimp only
        refine nil_go ?_
        try dsimp only
        refine Sm.repr (evP_sm oke) (by omega) (by omega) (ev_dp (.inl (s7 _ _ hA6)) (s7 _ _ hD6)) ?_
        refine neS_go ?_
        have ha7 := s7 _ _ ha6
        have tp7' := tp6.kp (ObKp.of s7)
        refine ⟨_, rfl, _, rfl, a, EV, dx, _, evS e, rfl, ha7, List.mem_singleton.mpr rfl, ⟨e, ⟨a, dx, o, rfl, ha7, tp7'⟩, oke, rfl⟩, fun H8 s8 => ?_⟩
        have s8 : Same H7 H8 := s8
        refine ⟨evS e, rfl, evS_ok oke, Nat.le_trans (evS_len oke) (by omega), ?_⟩
        have s38 := (s36.trans s7).trans s8
        refine ⟨_, rfl, .ref py, e, rfl, ⟨py, oy, rfl, s38 _ _ hy, s38 _ _ hoy⟩, oke, fun H9 s9 => ?_⟩
        have s9 : Same H8 H9 := s9
        have s39 := s38.trans s9
        refine ⟨evS e, rfl, evS_ok oke, Nat.le_trans (evS_len oke) (by omega), ?_⟩
        refine neS_go ?_
        have ha9 := s39 _ _ ha
        have tp9 := tp.kp (ObKp.of s39)
        refine ⟨_, rfl, _, rfl, _, rfl, a, EV, dx, _, evS e, rfl, ha9, List.mem_singleton.mpr rfl, ⟨e, ⟨a, dx, o, rfl, ha9, tp9⟩, oke, rfl⟩, fun H10 s10 => ?_⟩
        have s10 : Same H9 H10 := s10
        have s310 := s39.trans s10
        have ha10 := s310 _ _ ha
        have tp10 := tp.kp (ObKp.of s310)
        refine eq_str SK ha10 (List.mem_singleton.mpr rfl) ⟨e, ⟨a, dx, o, rfl, ha10, tp10⟩, oke, rfl⟩ ⟨_, rfl, iteSf rfl (next_go ?_)⟩
        try dsimp only
        have hy10 := s310 _ _ hy
        have hoy10 := s310 _ _ hoy
        have ix : ∀ {K' : PySem.W.Frag} {i : Int} {v : V} {σ : L2.St} {H1 : Hp}, σ[1]? = some (some (.ref py)) → Same H10 H1 → atI [.str e.name, .ref oy, .str e.kind, .bl e.amount, .bl e.group] i = some v → ∀ Q : VK, Q v H1 → tOp (rIxT K') (tVar 1) (tC (.int i)) σ H1 Q := fun e0 s1 ea Q q => ⟨_, e0, py, _, _, _, rfl, rfl, SqT.of (s1 _ _ hy10), ea, q⟩
        refine seq_asg (cb_go (cons_go (ix rfl (Same.refl _) rfl _ (nil_go ⟨oy, _, rfl, .inl (SqL.of hoy10), fun g hg' => name_go ?_⟩))))
        obtain ⟨sG, hG⟩ := new_at (o := .lst (e.origins.map V.str)) hg'
        show tSeq _ _ _ _ (upd H10 g (.lst (e.origins.map V.str)))
        generalize upd H10 g (.lst (e.origins.map V.str)) = H11 at *
        try dsimp only
        refine seq_asg ?_
        refine make_go (cons_go (ix rfl sG rfl _ (cons_go ⟨_, rfl, cons_go (ix rfl sG rfl _ (cons_go (ix rfl sG rfl _ (cons_go (ix rfl sG rfl _ (nil_go ?_))))))⟩)))
        intro x dx2 hx hdx nd2
        have sl := laid (C := EV) hx hdx nd2
        refine ⟨x, dx2, g, e, rfl, upd_same, .inl (sl _ _ hG), oke, fun H12 o2 kp12 tp12 hx12 => ⟨rfl, name_go ?_⟩⟩
        try dsimp only
        have s12 : Same H11 H12 := fun z u q => kp12 z u (ne_of_none q hx) (sl _ _ q)
        have hG12 := s12 _ _ hG
        have ngx : x ≠ g := fun z => by rw [z, hG12] at hx12; cases hx12
        refine seq_go ⟨_, rfl, .inl ⟨rfl, _, SqL.of hG12⟩, g, _, _, rfl, rfl, hG12, ?_, ?_⟩
        · rw [List.length_map]
          have := oke.origins.len
          omega
        have s13 : Same H10 (upd H12 g (.lst (e.origins.map V.str ++ [V.str "zzx"]))) := fun z u q => (upd_ne (ne_of_none q hg')).trans (s12 _ _ (sG _ _ q))
        have hx13 : upd H12 g (.lst (e.origins.map V.str ++ [V.str "zzx"])) x = _ := (upd_ne ngx).trans hx12
        have tp13 : Tp K (upd H12 g (.lst (e.origins.map V.str ++ [V.str "zzx"]))) o2 (e.origins.map V.str) := tp12.kp (ObKp.lst hG12)
        try dsimp only
        generalize upd H12 g (.lst (e.origins.map V.str ++ [V.str "zzx"])) = H13 at *
        refine seq_go ?_
        have s33 := s310.trans s13
        have ha13 := s33 _ _ ha
        have tpa13 := tp.kp (ObKp.of s33)
        refine ⟨_, rfl, _, rfl, eq_own (n := true) SK ha13 hx13 (List.mem_singleton.mpr rfl) ⟨e, ⟨a, dx, o, rfl, ha13, tpa13⟩, oke, rfl⟩ (fun H' s' => ⟨e, ⟨x, dx2, o2, rfl, s' _ _ hx13, tp13.kp (ObKp.of s')⟩, oke, rfl⟩) fun H14 s14 => ⟨_, rfl, iteSf (by simp) (next_go ?_)⟩⟩
        have s34' := s33.trans s14
        have s114 := s3.trans s34'
        have hD14 := s114 _ _ hD1
        have hr14 := s114 _ _ hr1
        have ha14 := s34' _ _ ha
        have tpa14 := tp.kp (ObKp.of s34')
        have hy14 := s34' _ _ hy
        have hoy14 := s34' _ _ hoy
        have lb : (es.map fun e' => decide (evS e = evS e')).length = os.length := by rw [List.length_map, lo]
        have lo' : os.length ≤ 1000 := by omega
        try dsimp only
        refine op_go (bools_go (xs := os) (bs := es.map fun e' => decide (evS e = evS e')) (fun _ => rfl) (fun Q q => ⟨_, rfl, q⟩) hD14 lb lo' (fun k y c H7 Q s7 ey ec q => ?_) fun H15 D1 s15 _ h15 => ?_)
        · obtain ⟨e2, ee2, ob2⟩ := po.at' ey
          rw [List.getElem?_map, ee2] at ec
          cases ec
          obtain ⟨b, dy, o3, rfl, hb, tb⟩ := ob2.kp (s114.trans s7)
          have ok2 := ok e2 (List.mem_of_getElem? ee2)
          have ha7 := s7 _ _ ha14
          refine ⟨_, rfl, _, rfl, eq_own (n := false) SK ha7 hb (List.mem_singleton.mpr rfl) ⟨e, ⟨a, dx, o, rfl, ha7, tpa14.kp (ObKp.of s7)⟩, oke, rfl⟩ (fun H8 s8 => ⟨e2, ⟨b, dy, o3, rfl, s8 _ _ hb, tb.kp (ObKp.of s8)⟩, ok2, rfl⟩) fun H8 s8 => ?_⟩
          have := q H8 s8
          simpa using this
        · refine bools_go (xs := ws) (bs := es.map fun e' => decide (evS e = evS e')) (fun _ => rfl) (fun Q q => ⟨_, rfl, q⟩) (s15 _ _ hr14) (by rw [List.length_map, lw]) (by omega) (fun k y c H8 Q s8 ey ec q => ?_) fun H8 D2 s8 _ h8 => ?_
          · obtain ⟨e2, ee2, wa2⟩ := pw.at' ey
            rw [List.getElem?_map, ee2] at ec
            cases ec
            have m2 := List.mem_of_getElem? ee2
            have k7 := s15.trans s8
            refine ⟨_, rfl, _, rfl, evPL e, evPL e2, EventAt.dp ⟨py, oy, rfl, k7 _ _ hy14, k7 _ _ hoy14⟩, EventAt.dp (wa2.same ((s1.trans s114).trans k7)), (evPL_shaped oke).2, (evPL_shaped (ok e2 m2)).2, ?_⟩
            rw [evPL_eqv nd ok me m2]
            exact q H8 (Same.refl _)
          · refine bools_same (s8 _ _ h15) h8 ⟨_, rfl, iteSf rfl (next_go ?_)⟩
            exact ⟨(s114.trans s15).trans s8, _, _, _, _, _, rfl⟩
      · rintro σ H2 ⟨sm, x1, x3, x4, x5, x6, rfl⟩
        try dsimp only
        refine ret_go ?_
        exact ret H2 (s1.trans sm)
end
end K14

set_option pp.maxSteps 600
namespace K14
open PySem L2 PySem.Spec PyProof.Rows
def abcS : Str := "abcdefghijklmnopqrstuvwxyz"
def otherL : List Str := abcS.cps.toList.map fun c => ("z" : Str) ++ ⟨#[c]⟩ ++ ("x" : Str)
theorem otherL_ok : otherL.all (fun s => nameB s) = true := by decide +kernel
theorem otherL_nd : otherL.Nodup := by decide +kernel
theorem otherL_len : otherL.length = 26 := by decide +kernel
theorem other_at {i c : Nat} (e : abcS.cps[i]? = some c) : otherL[i]? = some (("z" : Str) ++ ⟨#[c]⟩ ++ ("x" : Str)) := by
  unfold otherL
  rw [List.getElem?_map, Array.getElem?_toList, e]
  rfl
theorem other_some {xs : List Str} (l : xs.length ≤ 25) : ∃ s ss, otherL.filter (fun s => !decide (s ∈ xs)) = s :: ss ∧ s ∈ otherL ∧ s ∉ xs := by
  cases h : otherL.filter (fun s => !decide (s ∈ xs)) with
  | nil =>
    have : ∀ s ∈ otherL, s ∈ xs := fun s hs => by
      have := List.filter_eq_nil_iff.mp h s hs
      simpa using this
    have := nodup_len otherL_nd this
    rw [otherL_len] at this
    omega
  | cons s ss =>
    have hm : s ∈ otherL.filter (fun s => !decide (s ∈ xs)) := by rw [h]; exact List.mem_cons_self
    obtain ⟨h1, h2⟩ := List.mem_filter.mp hm
    exact ⟨s, ss, rfl, h1, by simpa using h2⟩
section
variable {P : Program} {w : World} {K : PySem.W.Frag} {mg : Str → Option Value} {base : Heap}
abbrev s_law_other : Stmt := top 61
abbrev n_law_other : List Str := ["_law_names_here", "_law_some", "_law_letter", "_law_word"]
theorem sc_law_other : FnScope n_law_other ["_law_names_here"] (defScope s_law_other) := ⟨rfl, rfl, rfl, by decide +kernel, rfl, by decide +kernel, by decide +kernel⟩
def spOther (K : PySem.W.Frag) : Sp := fun vs H Q _ => ∃ (a : Addr) (xs : List Str), vs = [.ref a] ∧ SqL K H a (xs.map V.str) ∧ xs.length ≤ 25 ∧ ∀ H' s, Same H H' → nameB s = true → s ∉ xs → Q (.str s) H'
theorem ok_other (T : Txt mg) (F : DefAt K mg "_law_other" s_law_other ["_law_names_here"]) : Has P w K mg base 1 "_law_other" ["_law_names_here"] (spOther K) := by
  refine F.has sc_law_other (fun vs H Q E h => ?_) (fun f cdv A outer s H vs Q E hr h => ?_)
  · obtain ⟨a, xs, rfl, _⟩ := h
    rfl
  · obtain ⟨a, xs, rfl, ha, l, ret⟩ := h
    refine ⟨_, (pss_cons (ps_setLc (i := 1) (own := [("_law_letter", 2)]) (g := gName 2) (by rfl) sc_law_other.nd rfl rfl (sw_true rfl rfl rfl (by decide +kernel)) (pi_str pe_str) (blkOk_by (own := [("_law_letter", 2)]) (N := n_law_other) (sc := defScope s_law_other) (by decide +kernel)) (fun _ _ _ _ _ => (pg_name (i := 2) sc_law_other.nd rfl (Or.inl rfl))) (fun _ _ _ _ _ => pts_nil) (fun _ _ _ _ _ => (pe_op op_add_str (pe_op op_add_str pe_str (pv 2)) pe_str)))
      (pss_one (ps_ret (pe_ix ix_list (pe_lc (own := [("_law_word", 3)]) (g := gName 3) (by rfl) sc_law_other.nd (pi_list (pv 1)) (blkOk_by (own := [("_law_word", 3)]) (N := n_law_other) (sc := defScope s_law_other) (by decide +kernel)) (fun _ _ _ _ _ => (pg_name (i := 3) sc_law_other.nd rfl (Or.inl rfl))) (fun _ _ _ _ _ => (pts_one (pt_cmpR (op_notIn_seqK (K := K) rfl) (pv 3) (pv 0) (by rfl)))) (fun _ _ _ _ _ => (pv 3))) pe_int (fun _ _ => rfl))))), ?_⟩
    have q1000 : (1000 : Nat) < sizeLine := by decide
    refine seq_asg ?_
    have l26 : (otherL.map V.str).length = 26 := by rw [List.length_map, otherL_len]
    refine ⟨abcS, rfl, fun D hD => lc_it (walk_str (z := abcS)) (fun i H' => Same H H' ∧ H' D = some (.lst ((otherL.take i).map V.str))) ⟨(new_at hD).1, upd_same⟩ (fun _ _ _ _ => trivial) ?_ ?_⟩
    · rintro i y H1' H1 hi ⟨s1, hD1⟩ ⟨rfl, c, ec, rfl⟩
      have eo := other_at ec
      have hio := (List.getElem?_eq_some_iff.mp eo).1
      have e1 : otherL.take (i + 1) = otherL.take i ++ [("z" : Str) ++ ⟨#[c]⟩ ++ ("x" : Str)] := by
        rw [← List.take_append_getElem hio]
        rw [List.getElem?_eq_getElem hio] at eo
        rw [Option.some.inj eo]
      refine name_go ⟨rfl, ?_⟩
      unfold tYes
      refine iteSe rfl ⟨_, rfl, _, _, rfl, rfl, ?_, _, _, rfl, rfl, ?_, _, hD1, ?_, fun a o e => (upd_ne (ne_of_none e hD)).trans (s1 _ _ e), ?_⟩
      · show 1 + 1 ≤ sizeLine
        omega
      · rw [slen_app]
        show 1 + 1 + 1 ≤ sizeLine
        omega
      · rw [List.length_map, List.length_take, otherL_len]
        omega
      · rw [upd_same, e1, List.map_append]
        rfl
    · rintro H1 ⟨s1, hD1⟩
      rw [show abcS.cps.size = 26 from by decide +kernel, show otherL.take 26 = otherL from List.take_of_length_le (by rw [otherL_len]; omega)] at hD1
      refine name_go ?_
      try dsimp only
      refine ret_go (op_go ?_)
      refine ⟨_, rfl, D, rfl, ⟨_, SqL.of hD1⟩, fun D2 hD2 => lc_it (walk_list (xs := otherL.map V.str)) (fun i H' => Same H1 H' ∧ H' D2 = some (.lst (((otherL.take i).filter (fun s => !decide (s ∈ xs))).map V.str))) ⟨(new_at hD2).1, upd_same⟩ (fun i H' _ z => SqL.of (z.1 _ _ hD1)) ?_ ?_⟩
      · rintro i y H2' H2 hi ⟨s2, hE⟩ ⟨rfl, ey⟩
        rw [List.getElem?_map] at ey
        cases eo : otherL[i]? with
        | none => rw [eo] at ey; cases ey
        | some z =>
          rw [eo] at ey
          cases ey
          have hio := (List.getElem?_eq_some_iff.mp eo).1
          have e1 : otherL.take (i + 1) = otherL.take i ++ [z] := by
            rw [← List.take_append_getElem hio]
            rw [List.getElem?_eq_getElem hio] at eo
            rw [Option.some.inj eo]
          refine name_go ⟨rfl, ?_⟩
          refine ⟨_, rfl, _, rfl, a, _, rfl, .inl (ha.ext (s1.trans s2)), rfl, flat_strs _, ?_⟩
          rw [if_pos rfl, inV_strs]
          refine ⟨_, rfl, ?_⟩
          by_cases hz : z ∈ xs
          · refine iteSf (by simp [hz]) ⟨s2, ?_⟩
            rw [hE, e1, List.filter_append]
            simp [hz]
          · refine iteSe (by simp [hz]) ⟨_, rfl, _, hE, ?_, fun a o e => (upd_ne (ne_of_none e hD2)).trans (s2 _ _ e), ?_⟩
            · rw [List.length_map]
              have := List.length_filter_le (fun s => !decide (s ∈ xs)) (otherL.take i)
              rw [List.length_take, otherL_len] at this
              omega
            · rw [upd_same, e1, List.filter_append]
              simp [hz]
      · rintro H2 ⟨s2, hE⟩
        rw [show (otherL.map V.str).length = 26 from l26, show otherL.take 26 = otherL from List.take_of_length_le (by rw [otherL_len]; omega)] at hE
        obtain ⟨z, zs, e, h1, h2⟩ := other_some l
        rw [e] at hE
        refine ⟨D2, _, _, _, rfl, rfl, SqL.of hE, (by simp only [List.map_cons]; exact atI_nat (j := 0) rfl), ret H2 z (s1.trans s2) (List.all_eq_true.mp otherL_ok z h1) h2⟩
end
end K14

/-! == and != of lists of instances of several own classes, each with its own __eq__, where all are equal -/
namespace GQN
open PySem PySem.SeqAt GQ
open AutoSeq1 (wpAny_loadPart')
open MeetsSeq MeetsSeq2 MeetsSeq3 SeqRoads2
section
variable {prog : Program} {w : World} {A : Around} {R : Result → Shared → Prop}
theorem turns (a b : Addr) (N : Nat) (I : Nat → Shared → Prop) (hI : ListI prog w A (fun e s' => R (.error e) s') a b N I) (fin : ∀ s, I N s → R (.ok (.ret (.bool false))) s) :
    ∀ k i : Nat, i + k = N → ∀ s, I i s → wpAny (model prog w) A.in1 (Builtin.«list.__eq__.loop» ⟨[.ref a, .ref b, rawInt i, rawInt 3], []⟩) (FinOf prog w A R) (fun e s' => R (.error e) s') s
  | 0, i, e, s, h => by
    obtain ⟨us, vs, n, m, ha, hb, lu, lv, _⟩ := hI _ _ h
    have q : R (.ok (.ret (.bool false))) s := fin s ((show i = N by omega) ▸ h)
    obtain ⟨hp, g, d, tk, os⟩ := s
    wp_walk using wpAny_loadPart' ha, wpAny_loadPart' hb
    rw [show us[((i : Nat) : Int).toNat]? = none by simp; omega, show vs[((i : Nat) : Int).toNat]? = none by simp; omega]
    wp_walk using wpAny_loadPart' ha, wpAny_loadPart' hb
    show R (.ok (.ret (.bool (us.size != vs.size)))) _
    rw [lu, lv]
    simpa using q
  | k + 1, i, e, s, h => by
    obtain ⟨us, vs, n, m, ha, hb, lu, lv, one⟩ := hI _ _ h
    have iu : i < us.size := by omega
    have iv : i < vs.size := by omega
    have o := one iu iv
    obtain ⟨hp, g, d, tk, os⟩ := s
    wp_walk using wpAny_loadPart' ha, wpAny_loadPart' hb
    rw [show us[((i : Nat) : Int).toNat]? = some us[i] by simp [iu], show vs[((i : Nat) : Int).toNat]? = some vs[i] by simp [iv]]
    refine wpAny_bind (wpAny_mono o (fun r s2 ⟨hr, h2⟩ => ?_) fun _ _ x => x)
    subst hr
    have next := turns a b N I hI fin k (i + 1) (by omega) s2 h2
    obtain ⟨hp2, g2, d2, tk2, os2⟩ := s2
    wp_walk
    rw [show ((i : Int) + 1) = ((i + 1 : Nat) : Int) by omega]
    exact ⟨plainId_quiet plain_eq_loop _, codeAny_builtin entry_eq_loop (by rw [Around.under_plainId plain_eq_loop _]; exact next)⟩
theorem whole (a b : Addr) (N : Nat) (I : Nat → Shared → Prop) (hI : ListI prog w A (fun e s' => R (.error e) s') a b N I) (fin : ∀ s, I N s → R (.ok (.ret (.bool false))) s) {s : Shared} (h : I 0 s) :
    wpAny (model prog w) A.in1 (Builtin.«list.__ne__» ⟨[.ref a, .ref b], []⟩) (FinOf prog w A R) (fun e s' => R (.error e) s') s := by
  obtain ⟨us, vs, n, m, ha, hb, lu, lv, _⟩ := hI _ _ h
  have next := turns (A := A) (R := R) a b N I hI fin N 0 (by omega) s h
  obtain ⟨hp, g, d, tk, os⟩ := s
  have f3 := AutoSeq1.sub_list_list
  have same : ¬ (us.size != vs.size) = true := by simp [lu, lv]
  wp_walk using wpAny_loadPart' ha, wpAny_loadPart' hb
  exact ⟨plainId_quiet plain_eq_loop _, codeAny_builtin entry_eq_loop (by rw [Around.under_plainId plain_eq_loop _]; exact next)⟩
end
theorem unlike {prog : Program} {w : World} {A : Around} {E : Value → Shared → Prop} {s : Shared} {a b : Addr} {N : Nat} {Q : Value → Shared → Prop} (hu : A.units < cLine) (I : Nat → Shared → Prop) (hI : ListI prog w A E a b N I) (fin : ∀ s, I N s → Q (.bool false) s) (h : I 0 s) :
    wpAny (model prog w) A (richCompare .NotEq (.ref a) (.ref b)) Q E s := by
  obtain ⟨us, vs, n, m, ha, hb, _⟩ := hI _ _ h
  refine wpAny_richCompare_same_room (op := .NotEq) ⟨_, ha, rfl⟩ ⟨_, hb, rfl⟩ F.slot_list_ne (call_here F.slot_list_ne ⟨_, ha, rfl⟩ F.entry_list_ne (F.args_list_ne_2 _ _) ?_) hu
  exact whole (R := wants (fun v s' => v ≠ .notImplemented ∧ Q v s') E) a b N I hI (fun s' q => ⟨(fun x => nomatch x), fin s' q⟩) h
end GQN
namespace L2
open PySem PySem.Spec PyProof.Rows
/-- != of two lists whose items are equal, one by one -/
def rNeG (D : Eqv) : R2 := fun x y H Q => DList D x y H ∧ ∀ H', Ext H H' → Q (.bl false) H'
theorem op_neG {X : Cx} {n : Nat} {D : Eqv} (hD : Mon D) (h : EqG X n D) (hr : Room (n + 1) X.A) : OpR X (compareOp .NotEq) (rNeG D) := by
  intro pins s σ H x y v u Q I rx ry hq
  obtain ⟨⟨a, b, xs, ys, rfl, rfl, ha, hb, p⟩, q⟩ := hq
  cases rx
  cases ry
  show wpAny (model X.prog X.w) X.A (richCompare .NotEq (.ref a) (.ref b)) (EP X pins σ Q) X.xe s
  refine GQN.unlike (N := xs.length) hr.units0 (fun _ s' => LoopI X pins σ H s') (fun i s' l => ?_) (fun s' l => ?_) ⟨H, I, Ext.rfl'⟩
  · obtain ⟨H1, I1, e1⟩ := id l
    obtain ⟨_, its, k, r, e⟩ := I1.hok a _ (e1 _ _ ha)
    obtain ⟨_, its2, k2, r2, e2⟩ := I1.hok b _ (e1 _ _ hb)
    exact ⟨its.toArray, its2.toArray, k, k2, e, e2, by rw [List.size_toArray, ← r.length], by rw [List.size_toArray, ← r2.length, ← p.1], fun h1 h2 => turnG hD h ⟨hr, rfl⟩ p r r2 i h1 h2 s' l⟩
  · obtain ⟨H1, I1, e1⟩ := l
    exact ⟨.bl false, H1, I1, rfl, q H1 e1⟩
/-- two instances of one of the classes whose own == says True -/
def DCls (cls : List Addr) (sp : Addr → Sp) : Eqv := fun x y H => ∃ a b C dx dy fs gs, x = .ref a ∧ y = .ref b ∧ C ∈ cls ∧ H a = some (.ins C dx fs) ∧ H b = some (.ins C dy gs) ∧ ∀ H', Ext H H' → sp C [.ref a, .ref b] H' (fun r H2 => r = .bl true ∧ Ext H' H2) E0
theorem mon_cls {cls : List Addr} {sp : Addr → Sp} : Mon (DCls cls sp) := fun x y H H' e d => by
  obtain ⟨a, b, C, dx, dy, fs, gs, hx, hy, mC, h1, h2, q⟩ := d
  exact ⟨a, b, C, dx, dy, fs, gs, hx, hy, mC, e _ _ h1, e _ _ h2, fun H2 e2 => q H2 (e.trans e2)⟩
theorem rcG_cls {X : Cx} {k : Nat} {cls : List Addr} {sp : Addr → Sp} (Eq : EqCls X.prog X.w X.K X.mg X.base k cls sp) : RcG X k (DCls cls sp) := by
  intro A pins s σ H x y u v sb I rx ry d
  obtain ⟨a, b, C, dx, dy, fs, gs, rfl, rfl, mC, ha, hb', q⟩ := d
  cases rx
  cases ry
  obtain ⟨g, fd, hs, hf, hb, F⟩ := Eq.has C mC
  obtain ⟨_, JA, _⟩ := ins_get I.hok ha
  obtain ⟨_, JB, _⟩ := ins_get I.hok hb'
  obtain ⟨_, JA, _⟩ := JA.look
  obtain ⟨_, JB, _⟩ := JB.look
  obtain ⟨_, hF⟩ := I.fr
  refine PySem.W.cmp_K (op := .Eq) (tb := .ref C) sb.room.units0 hF I.ok.mod.kin JA JB.type (by simp [PySem.W.notFirst]) hs hf ?_
  have due := q H Ext.rfl'
  have en : Env0 X.prog X.w X.K X.mg X.base A X.stack s H := by
    have z := I.env0
    exact ⟨by rw [sb.fr]; exact z.frames, z.mod, z.bs, z.bsz, z.funs, z.frf, z.hok, z.bare⟩
  have two : Vals [V.ref a, V.ref b] [Value.ref a, Value.ref b] := .cons rfl (.cons rfl .nil)
  refine wpAny_call (codeAny_mono (F.run A X.stack s H ⟨[.ref a, .ref b], []⟩ [.ref a, .ref b] [.ref a, .ref b] _ E0 sb.room en (by simpa using hb s [.ref a, .ref b] I.kIn rfl) two due) fun r s' hq => ?_)
  match r, hq with
  | .error e, hq => exact pass0 pins σ H s e s' I hq
  | .ok (.ret w), hq =>
    obtain ⟨z, H', I', rz, ez, ex⟩ := I.after hq
    subst ez
    cases rz
    exact ⟨rfl, H', I', ex⟩
  | .ok .next, hq => exact False.elim hq
  | .ok .brk, hq => exact False.elim hq
  | .ok .cont, hq => exact False.elim hq
theorem eqG_cls {X : Cx} {k : Nat} {cls : List Addr} {sp : Addr → Sp} (Eq : EqCls X.prog X.w X.K X.mg X.base k cls sp) : EqG X k (DCls cls sp) := (rcG_cls Eq).eqG fun _ _ _ d => let ⟨a, b, _, _, _, _, _, hx, hy, _⟩ := d; ⟨a, b, hx, hy⟩
theorem op_neCls {X : Cx} {k : Nat} {cls : List Addr} {sp : Addr → Sp} (Eq : EqCls X.prog X.w X.K X.mg X.base k cls sp) (hr : Room (k + 1) X.A) : OpR X (compareOp .NotEq) (rNeG (DCls cls sp)) := op_neG mon_cls (eqG_cls Eq) hr
end L2

set_option pp.maxSteps 600
namespace K14
open PySem L2 PySem.Spec PyProof.Rows
open TL
theorem haS_more (nm : Str) (rs : List RowD) (r : RowD) : haS nm rs ≠ haS nm (rs ++ [r]) := by
  have e : rowsLines (rs ++ [r]) = rowsLines rs ++ rowLines r := by
    rw [rowsLines_eq, rowsLines_eq, List.map_append, List.flatten_append]
    simp
  unfold haS
  have h0 := join_app "\n" (("on " ++ nm) :: rowsLines rs) (rowLines r) (fun z => nomatch z) (rowLines_ne r)
  rw [List.cons_append] at h0
  rw [e, h0]
  intro h
  have h := congrArg Str.length h
  rw [slen_app, slen_app, show ("\n" : Str).length = 1 from rfl] at h
  omega
theorem name_free10 {s : Str} (h : nameB s = true) : 10 ∉ tl s := by
  unfold nameB at h
  have h3 : Txt.isalpha s = true := by
    have := (Bool.and_eq_true_iff.mp h).2
    have := (Bool.and_eq_true_iff.mp this).2
    exact (Bool.and_eq_true_iff.mp this).1
  unfold Txt.isalpha at h3
  have h4 : s.cps.all Unicode.isAlpha = true := (Bool.and_eq_true_iff.mp h3).2
  rw [← Array.all_toList, List.all_eq_true] at h4
  intro hc
  have := h4 10 hc
  revert this
  decide +kernel
theorem haS_tl (nm : Str) (rs : List RowD) : ∃ r : List Nat, tl (haS nm rs) = tl "on " ++ (tl nm ++ r) ∧ (r = [] ∨ ∃ q, r = 10 :: q) := by
  unfold haS
  cases h : rowsLines rs with
  | nil => exact ⟨[], by rw [join_one, tl_append, List.append_nil], .inl rfl⟩
  | cons a l =>
    refine ⟨10 :: tl (Txt.join "\n" (a :: l)), ?_, .inr ⟨_, rfl⟩⟩
    rw [join_cons, tl_append, tl_append, tl_append, List.append_assoc, List.append_assoc]
    rfl
theorem upto {a r : List Nat} (h : 10 ∉ a) (hr : r = [] ∨ ∃ q, r = 10 :: q) : (a ++ r).takeWhile (fun c => decide (c ≠ 10)) = a := by
  induction a with
  | nil =>
    rcases hr with rfl | ⟨q, rfl⟩
    · rfl
    · rfl
  | cons c a ih =>
    have hc : c ≠ 10 := fun z => h (by rw [z]; exact List.mem_cons_self)
    rw [List.cons_append, List.takeWhile_cons, if_pos (decide_eq_true hc), ih fun z => h (List.mem_cons_of_mem _ z)]
theorem haS_name {nm nm' : Str} {rs rs' : List RowD} (h : nameB nm = true) (h' : nameB nm' = true) (n : nm ≠ nm') : haS nm rs ≠ haS nm' rs' := by
  intro e
  obtain ⟨r, e1, q1⟩ := haS_tl nm rs
  obtain ⟨r', e2, q2⟩ := haS_tl nm' rs'
  rw [e, e2] at e1
  have e3 := List.append_cancel_left e1
  have a := upto (name_free10 h) q1
  have b := upto (name_free10 h') q2
  rw [← e3, b] at a
  exact n (ext_tl a.symm)
/-- rows of the same data are equal, one by one -/
theorem row_eq {K : PySem.W.Frag} {p : Pkg} {k : Nat} (SK : ∀ C ∈ p.rows, SelfK K C) {H : Hp} {r : RowD} {x y : V} (ok : okR r k) (hx : RowOb K p H r x) (hy : RowOb K p H r y) : DCls p.rows (spEqC K p.rows (RowSh K p k)) x y H := by
  obtain ⟨a, C, dx, fs, rfl, ha, mC⟩ := hx.cls
  obtain ⟨b, C', dy, gs, rfl, hb, mC'⟩ := hy.cls
  have e1 := hx.at' ha
  have e2 := hy.at' hb
  rw [e1] at e2
  subst e2
  have S := SK C mC
  refine ⟨a, b, C, dx, dy, fs, gs, rfl, rfl, mC, ha, hb, fun H' s => ?_⟩
  have ha' := s _ _ ha
  have hb' := s _ _ hb
  exact ⟨a, dx, fs, rowS r, .ref b, .non, .ref C, rfl, ha', mC, ⟨r, hx.kp (ObKp.of s), ok, rfl⟩, .base (.ins hb' S.obj.cl S.obj.ha S.obj.hn S.obj.htk S.obj.hm), .inr ⟨S.kC, b, dy, gs, rowS r, rfl, hb', fun H2 s2 => ⟨r, hy.kp (ObKp.of (s.trans s2)), ok, rfl⟩, fun H2 s2 => ⟨by rw [decide_eq_true rfl], s2⟩⟩⟩
theorem rows_eq {K : PySem.W.Frag} {p : Pkg} {k : Nat} (SK : ∀ C ∈ p.rows, SelfK K C) {H : Hp} : ∀ {rs : List RowD} {xs ys : List V}, okRL rs k → RowObL K p H rs xs → RowObL K p H rs ys → Prs (DCls p.rows (spEqC K p.rows (RowSh K p k))) xs ys H
  | [], _, _, _, hx, hy => by
    unfold RowObL at hx hy
    subst hx hy
    exact Prs.nil
  | r :: rs, _, _, ok, hx, hy => by
    unfold RowObL at hx hy
    unfold okRL at ok
    obtain ⟨v, vs, rfl, h1, h2⟩ := hx
    obtain ⟨u, us, rfl, g1, g2⟩ := hy
    exact Prs.cons (row_eq SK ok.1 h1 g1) (rows_eq SK ok.2 h2 g2)
section
variable {P : Program} {w : World} {K : PySem.W.Frag} {mg : Str → Option Value} {base : Heap}
abbrev s_Add_eq : Stmt := inClass (top 24) 1
abbrev n_Add_eq : List Str := ["self", "other"]
theorem sc_Add_eq : FnScope n_Add_eq ["self", "other"] (defScope s_Add_eq) := ⟨rfl, rfl, rfl, by decide +kernel, rfl, by decide +kernel, by decide +kernel⟩
theorem ok_addQ {cls : List Addr} {S : Hp → Addr → Str → Prop} {C n : Nat} {as : List Str} {fI : Addr} {fd : FuncData} (T : Txt mg) (CQ : ClsA K mg "Add" C as) (Sh : Shows P w K mg base n cls S) (F : Fun K "__eq__" "Add.__eq__" s_Add_eq fI fd) : FnOk P w K mg base CX0 (n + 3) fI fd ["self", "other"] (spEqC K cls S C) := by
  refine F.ok sc_Add_eq (fun vs H Q E h => ?_) (fun cdv A outer s H vs Q E hr h => ?_)
  · obtain ⟨a, dx, fs, z, y, t, ty, rfl, _⟩ := h
    rfl
  · obtain ⟨x, y, rfl⟩ : ∃ x y, vs = [x, y] := by
      obtain ⟨a, dx, fs, z, y, t, ty, rfl, _⟩ := h
      exact ⟨_, _, rfl⟩
    refine ⟨_, (pss_one (ps_ret (pe_and (pe_callB (call_isi_in (K := K) rfl) (by rfl) T.z_isinstance (by decide +kernel) (pa_cons (pv 1) (pa_cons (pe_glob (v := .ref C) rfl CQ.m rfl) pa_nil))) (pe_one (pe_cmpR op_eq (pe_callTy (call_strCK rfl rfl rfl rfl rfl Sh (hr.mono (by omega))) (by rfl) T.z_str (by decide +kernel) (pa_cons (pv 0) pa_nil)) (pe_callTy (call_strCK rfl rfl rfl rfl rfl Sh (hr.mono (by omega))) (by rfl) T.z_str (by decide +kernel) (pa_cons (pv 1) pa_nil)) (nomark _)))))), ?_⟩
    exact eq_body h rfl
abbrev s_Put_eq : Stmt := inClass (top 25) 1
abbrev n_Put_eq : List Str := ["self", "other"]
theorem sc_Put_eq : FnScope n_Put_eq ["self", "other"] (defScope s_Put_eq) := ⟨rfl, rfl, rfl, by decide +kernel, rfl, by decide +kernel, by decide +kernel⟩
theorem ok_putQ {cls : List Addr} {S : Hp → Addr → Str → Prop} {C n : Nat} {as : List Str} {fI : Addr} {fd : FuncData} (T : Txt mg) (CQ : ClsA K mg "Put" C as) (Sh : Shows P w K mg base n cls S) (F : Fun K "__eq__" "Put.__eq__" s_Put_eq fI fd) : FnOk P w K mg base CX0 (n + 3) fI fd ["self", "other"] (spEqC K cls S C) := by
  refine F.ok sc_Put_eq (fun vs H Q E h => ?_) (fun cdv A outer s H vs Q E hr h => ?_)
  · obtain ⟨a, dx, fs, z, y, t, ty, rfl, _⟩ := h
    rfl
  · obtain ⟨x, y, rfl⟩ : ∃ x y, vs = [x, y] := by
      obtain ⟨a, dx, fs, z, y, t, ty, rfl, _⟩ := h
      exact ⟨_, _, rfl⟩
    refine ⟨_, (pss_one (ps_ret (pe_and (pe_callB (call_isi_in (K := K) rfl) (by rfl) T.z_isinstance (by decide +kernel) (pa_cons (pv 1) (pa_cons (pe_glob (v := .ref C) rfl CQ.m rfl) pa_nil))) (pe_one (pe_cmpR op_eq (pe_callTy (call_strCK rfl rfl rfl rfl rfl Sh (hr.mono (by omega))) (by rfl) T.z_str (by decide +kernel) (pa_cons (pv 0) pa_nil)) (pe_callTy (call_strCK rfl rfl rfl rfl rfl Sh (hr.mono (by omega))) (by rfl) T.z_str (by decide +kernel) (pa_cons (pv 1) pa_nil)) (nomark _)))))), ?_⟩
    exact eq_body h rfl
abbrev s_Mark_eq : Stmt := inClass (top 26) 1
abbrev n_Mark_eq : List Str := ["self", "other"]
theorem sc_Mark_eq : FnScope n_Mark_eq ["self", "other"] (defScope s_Mark_eq) := ⟨rfl, rfl, rfl, by decide +kernel, rfl, by decide +kernel, by decide +kernel⟩
theorem ok_markQ {cls : List Addr} {S : Hp → Addr → Str → Prop} {C n : Nat} {as : List Str} {fI : Addr} {fd : FuncData} (T : Txt mg) (CQ : ClsA K mg "Mark" C as) (Sh : Shows P w K mg base n cls S) (F : Fun K "__eq__" "Mark.__eq__" s_Mark_eq fI fd) : FnOk P w K mg base CX0 (n + 3) fI fd ["self", "other"] (spEqC K cls S C) := by
  refine F.ok sc_Mark_eq (fun vs H Q E h => ?_) (fun cdv A outer s H vs Q E hr h => ?_)
  · obtain ⟨a, dx, fs, z, y, t, ty, rfl, _⟩ := h
    rfl
  · obtain ⟨x, y, rfl⟩ : ∃ x y, vs = [x, y] := by
      obtain ⟨a, dx, fs, z, y, t, ty, rfl, _⟩ := h
      exact ⟨_, _, rfl⟩
    refine ⟨_, (pss_one (ps_ret (pe_and (pe_callB (call_isi_in (K := K) rfl) (by rfl) T.z_isinstance (by decide +kernel) (pa_cons (pv 1) (pa_cons (pe_glob (v := .ref C) rfl CQ.m rfl) pa_nil))) (pe_one (pe_cmpR op_eq (pe_callTy (call_strCK rfl rfl rfl rfl rfl Sh (hr.mono (by omega))) (by rfl) T.z_str (by decide +kernel) (pa_cons (pv 0) pa_nil)) (pe_callTy (call_strCK rfl rfl rfl rfl rfl Sh (hr.mono (by omega))) (by rfl) T.z_str (by decide +kernel) (pa_cons (pv 1) pa_nil)) (nomark _)))))), ?_⟩
    exact eq_body h rfl
abbrev s_If_eq : Stmt := inClass (top 27) 1
abbrev n_If_eq : List Str := ["self", "other"]
theorem sc_If_eq : FnScope n_If_eq ["self", "other"] (defScope s_If_eq) := ⟨rfl, rfl, rfl, by decide +kernel, rfl, by decide +kernel, by decide +kernel⟩
theorem ok_ifQ {cls : List Addr} {S : Hp → Addr → Str → Prop} {C n : Nat} {as : List Str} {fI : Addr} {fd : FuncData} (T : Txt mg) (CQ : ClsA K mg "If" C as) (Sh : Shows P w K mg base n cls S) (F : Fun K "__eq__" "If.__eq__" s_If_eq fI fd) : FnOk P w K mg base CX0 (n + 3) fI fd ["self", "other"] (spEqC K cls S C) := by
  refine F.ok sc_If_eq (fun vs H Q E h => ?_) (fun cdv A outer s H vs Q E hr h => ?_)
  · obtain ⟨a, dx, fs, z, y, t, ty, rfl, _⟩ := h
    rfl
  · obtain ⟨x, y, rfl⟩ : ∃ x y, vs = [x, y] := by
      obtain ⟨a, dx, fs, z, y, t, ty, rfl, _⟩ := h
      exact ⟨_, _, rfl⟩
    refine ⟨_, (pss_one (ps_ret (pe_and (pe_callB (call_isi_in (K := K) rfl) (by rfl) T.z_isinstance (by decide +kernel) (pa_cons (pv 1) (pa_cons (pe_glob (v := .ref C) rfl CQ.m rfl) pa_nil))) (pe_one (pe_cmpR op_eq (pe_callTy (call_strCK rfl rfl rfl rfl rfl Sh (hr.mono (by omega))) (by rfl) T.z_str (by decide +kernel) (pa_cons (pv 0) pa_nil)) (pe_callTy (call_strCK rfl rfl rfl rfl rfl Sh (hr.mono (by omega))) (by rfl) T.z_str (by decide +kernel) (pa_cons (pv 1) pa_nil)) (nomark _)))))), ?_⟩
    exact eq_body h rfl
end
end K14

set_option pp.maxSteps 600
namespace K14
open PySem L2 PySem.Spec PyProof.Rows
theorem cons_okS {a : Str} {l : List Str} (h : PyData.strOk a = true) (g : ∀ s ∈ l, PyData.strOk s = true) : ∀ s ∈ a :: l, PyData.strOk s = true := fun s hs => by
  rcases List.mem_cons.mp hs with rfl | hs
  · exact h
  · exact g s hs
theorem nil_okS : ∀ s ∈ ([] : List Str), PyData.strOk s = true := fun _ h => nomatch h
theorem app_okS {a b : List Str} (h : ∀ s ∈ a, PyData.strOk s = true) (g : ∀ s ∈ b, PyData.strOk s = true) : ∀ s ∈ a ++ b, PyData.strOk s = true := fun s hs => by
  rcases List.mem_append.mp hs with hs | hs
  · exact h s hs
  · exact g s hs
theorem testW_okS {B : BookD} (ok : BkOk B) : ∀ {t : TestD}, okTest B t → ∀ s ∈ testW t, PyData.strOk s = true
  | .was k, h => cons_okS (by decide +kernel) (cons_okS (strOk_kind (okKind_of h ok)) nil_okS)
  | .cut o n, h => cons_okS (by cases o <;> decide +kernel) (cons_okS (by decide +kernel) (cons_okS (strOk_string _) nil_okS))
  | .moved, h => cons_okS (by decide +kernel) nil_okS
  | .noted, h => cons_okS (by decide +kernel) nil_okS
  | .not t, h => cons_okS (by decide +kernel) (testW_okS ok (t := t) h)
theorem line_okS {l : List Str} (h : ∀ s ∈ l, PyData.strOk s = true) : PyData.strOk (Txt.join " " l) = true := strOk_join (by decide +kernel) h
mutual
theorem rowLines_okS {B : BookD} (ok : BkOk B) : ∀ {r : RowD} {k : Nat}, okRow B r k → ∀ s ∈ rowLines r, PyData.strOk s = true
  | .ife t a b, k, h => by
    unfold okRow at h
    obtain ⟨k', _, h1, _, _, _, h5, h6⟩ := h
    unfold rowLines
    refine cons_okS (line_okS (cons_okS (by decide +kernel) (testW_okS ok h1))) (app_okS (rowsLines_okS ok h5) (app_okS ?_ (cons_okS (by decide +kernel) nil_okS)))
    cases b.isEmpty with
    | true => exact nil_okS
    | false => exact cons_okS (by decide +kernel) (rowsLines_okS ok h6)
  | .add f w t p, k, h => by
    unfold okRow at h
    unfold rowLines
    exact cons_okS (line_okS (cons_okS (by decide +kernel) (cons_okS (strOk_string _) (cons_okS (strOk_what h.2.2.1 ok) (cons_okS (strOk_name (ok.toks t (List.mem_append_left _ h.2.2.2.1))) (cons_okS (strOk_all h.2.2.2.2 (by decide +kernel)) nil_okS)))))) nil_okS
  | .put n w, k, h => by
    unfold okRow at h
    unfold rowLines
    exact cons_okS (line_okS (cons_okS (by decide +kernel) (cons_okS (strOk_name (ok.toks n (List.mem_append_right _ h.1))) (cons_okS (strOk_what h.2 ok) nil_okS)))) nil_okS
  | .mark p, k, h => by
    unfold okRow at h
    unfold rowLines
    exact cons_okS (line_okS (cons_okS (by decide +kernel) (cons_okS (strOk_all h (by decide +kernel)) nil_okS))) nil_okS
theorem rowsLines_okS {B : BookD} (ok : BkOk B) : ∀ {rs : List RowD} {k : Nat}, okRowL B rs k → ∀ s ∈ rowsLines rs, PyData.strOk s = true
  | [], k, h => by unfold rowsLines; exact nil_okS
  | r :: rs, k, h => by
    unfold okRowL at h
    unfold rowsLines
    exact app_okS (rowLines_okS ok h.1) (rowsLines_okS ok h.2)
end
theorem on_okS {nm : Str} (h : nameB nm = true) : PyData.strOk (("on " : Str) ++ nm) = true := by
  have a : PyData.strOk "on " = true := by decide +kernel
  have b := strOk_name h
  unfold PyData.strOk at a b ⊢
  rw [← Array.all_toList] at a b ⊢
  rw [Str.cps_append, Array.toList_append, List.all_append, a, b]
  rfl
theorem haS_okS {B : BookD} (ok : BkOk B) {nm : Str} {rs : List RowD} {k : Nat} (h : nameB nm = true) (o : okRowL B rs k) : PyData.strOk (haS nm rs) = true := strOk_join (by decide +kernel) (cons_okS (on_okS h) (rowsLines_okS ok o))
theorem sum_le_join (sep : Str) : ∀ l : List Str, (l.map (·.length)).sum ≤ (Txt.join sep l).length
  | [] => Nat.zero_le _
  | [a] => by rw [join_one]; simp
  | a :: b :: r => by
    have := sum_le_join sep (b :: r)
    rw [join_cons, slen_app, slen_app, List.map_cons, List.sum_cons]
    omega
theorem haS_len {nm : Str} {rs : List RowD} (h : nameB nm = true) (o : okRL rs 3) (l : rs.length ≤ 3) : (haS nm rs).length ≤ 1600000 := by
  rw [← haS_eq]
  refine Nat.le_trans (join_len _ _) ?_
  have ln := nameB_len h
  have e1 := sum_le (l := rs.map rowS) (B := Rb 3) fun x hx => by
    obtain ⟨r, hr, rfl⟩ := List.mem_map.mp hx
    exact rowsS_len o r hr
  have e2 : Rb 3 ≤ 522558 := by decide
  have e3 : ("\n" : Str).length = 1 := rfl
  have e4 : (("on " : Str) ++ nm).length = 3 + nm.length := by rw [slen_app]; rfl
  rw [List.length_map] at e1
  have e5 : rs.length * Rb 3 ≤ 3 * 522558 := Nat.mul_le_mul l e2
  rw [List.map_cons, List.sum_cons, List.length_cons, List.length_map, e3, e4]
  omega
theorem haS_sum {nm : Str} {rs : List RowD} (h : nameB nm = true) (o : okRL rs 3) (l : rs.length ≤ 3) : (("on " ++ nm) :: rowsLines rs).length ≤ 6000 ∧ ((("on " ++ nm) :: rowsLines rs).map (·.length)).sum + (("on " ++ nm) :: rowsLines rs).length * ("\n" : Str).length ≤ 16777216 := by
  have a := rowsLines_len o
  have c : NL 3 + 1 ≤ 1999 := by decide
  have d : rs.length * (NL 3 + 1) ≤ 3 * 1999 := Nat.mul_le_mul l c
  have b := sum_le_join "\n" (("on " ++ nm) :: rowsLines rs)
  have e := haS_len h o l
  unfold haS at e
  have e3 : ("\n" : Str).length = 1 := rfl
  rw [e3, List.length_cons] at *
  omega
end K14

namespace L2
open PySem PySem.Spec PyProof.Rows PySem.W
/-- a law's def keeps its promise where nothing is being shown around the call -/
structure LawOk (P : Program) (w : World) (K : PySem.W.Frag) (mg : Str → Option Value) (base : Heap) (k : Nat) (f : Addr) (sp : Sp) : Prop where
  run : ∀ (A : Around) (s : Shared) (H : Hp) (u : Value) (v : V) (Q : VK), A.guards = some [] → Room k A → Env0 P w K mg base A [] s H → RelV v u → sp [v] H Q E0 → codeAny (model P w) A (.call (.ref f) ⟨[u], []⟩) (CR CX0 [] P w H s Q E0) s
theorem LawOk.of {P : Program} {w : World} {K : PySem.W.Frag} {mg : Str → Option Value} {base : Heap} {k : Nat} {f : Addr} {nm qual x : Str} {st : Stmt} {fd : FuncData} {N : List Str} {sp : Sp} (F : Fun K nm qual st f fd) (S : FnScope N [x] (defScope st))
    (hb : ∀ (s : Shared) (u : Value), K.In s.heap → BindsTo s fd ⟨[u], []⟩ [(x, u)])
    (body : ∀ (cdv : Value) (A : Around) (s : Shared) (H : Hp) (v : V) (Q : VK), A.guards = some [] → Room k (A.deeper (envOfC qual (defScope st) s.heap.objs.size f cdv)) → sp [v] H Q E0 →
      ∃ t, PSs (cxOf CX0 P w K mg base N qual (defScope st) f cdv A [] s H E0).nox (defBody st) t ∧ t { nx := fun _ H' => Q .non H', rt := Q } (start N [v]) H) : LawOk P w K mg base (k + 1) f sp := by
  obtain ⟨oc, od, kV, doc, pm, an, cdv, ct, osl, e, lk, hcd⟩ := F.ex
  subst e
  refine ⟨fun A s H u v Q hg hr z0 r q => ?_⟩
  have KI : K.In s.heap := z0.mod.kin.keeps fun b o y => (z0.bs b o y).1
  have zl : s.heap.NoLimit := z0.mod.nolimit.keeps fun b o y => (z0.bs b o y).1
  have kinds : ∀ y ∈ [x].zip [u], (defScope st).names.lookup y.1 = some .local ∨ ((defScope st).names.lookup y.1 = some .cell ∧ ((cellsFrom (s.heap.objs.size + 1) (defScope st).names []).lookup y.1).isSome = true) := by
    rintro ⟨n, v'⟩ hy
    exact (S.par n (List.of_mem_zip hy).1).imp (fun y => y) fun y => ⟨y, PySem.W.cellsFrom_some _ _ _ (.inl y)⟩
  refine codeAny_call_function hr.depth (KI _ _ lk) rfl S.co S.gen rfl (PySem.W.codeRec_of KI hcd) (hb s u KI _ _ _ _ (wpAny_newFunctionEnv_cells S.kind kinds fun env he s1 y => ?_))
  subst he
  obtain ⟨t, ht, hq⟩ := body cdv A s H v Q hg (hr.deeper _) q
  have I := inv_start (CX := CX0) (E := E0) S hr.hd z0 rfl (.cons r .nil) y
  refine ⟨zl.keeps y.toInCall.keep, codeAny_func (wpAny_mono (ht.nox.run [] s1 (start N [v]) H _ I hq) (fun fl s' hs => ?_) fun _ _ hs => hs)⟩
  match fl, hs with
  | .ret u, ⟨v, σ', H', J, rv, q⟩ => exact ⟨v, H', J.os, J.bare, J.base, J.hok, rv, q⟩
  | .next, ⟨σ', H', J, q⟩ => exact ⟨V.non, H', J.os, J.bare, J.base, J.hok, rfl, q⟩
  | .brk, ⟨_, _, _, q⟩ => exact q.elim
  | .cont, ⟨_, _, _, q⟩ => exact q.elim

/-- what the caller of the law sees: nothing stood there but the script, locked -/
theorem LawOk.called {P : Program} {w : World} {K : PySem.W.Frag} {mg mb : Str → Option Value} {k : Nat} {fa a : Addr} {sp : Sp} {z : Shared} {vs : List Value} {ns : List Int} (KI : K.In z.heap) (g1 : z.heap.Ns mainGlobals mg) (g2 : z.heap.Ns builtinsNs mb)
    (g3 : ∀ x : Str, x ≠ "__name__" → mb x = bootBuiltins x) (g4 : z.heap.NoLimit) (g5 : z.gens = #[]) (ha : z.heap.get? a = some { cls := .type "list", data := .seq vs.toArray }) (hi : IntsAre vs ns) (hl : ns.length ≤ sizeLine) (hr : Room k callerA)
    (F : ∀ base : Heap, K.In base → base.Ns mainGlobals mg → LawOk P w K mg base k fa sp) (hsp : ∀ H : Hp, SqL K H a (ns.map V.int) → sp [.ref a] H (fun v _ => v = .bl true) E0) :
    codeAny (model P w) callerA (.call (.ref fa) ⟨[.ref a], []⟩) (fun r s' => r = .ok (.ret (.bool true)) ∧ OldK z.heap s'.heap ∧ s'.os = z.os ∧ AllBare s'.gens) z := by
  have rv := vals_ints hi
  have lv := hi.length
  have main : ∀ H : Hp, (∀ b u, H b = some u → b = a ∧ K.lookup a = none ∧ ∃ ys, u = .frz { cls := .type "list", data := .seq vs.toArray } ys) → SqL K H a (ns.map V.int) → HOk P w H z.heap →
      codeAny (model P w) callerA (.call (.ref fa) ⟨[.ref a], []⟩) (fun r s' => r = .ok (.ret (.bool true)) ∧ OldK z.heap s'.heap ∧ s'.os = z.os ∧ AllBare s'.gens) z := by
    intro H hA hS hok
    have no : ∀ {b : Addr} {o : Obj}, z.heap.get? b = some o → (b = a → K.lookup a ≠ none ∨ ∃ es ep, o.data = .dict es ep) → H b = none := fun {b o} e d => by
      cases q : H b with
      | none => rfl
      | some u =>
        obtain ⟨e1, e2, _⟩ := hA b u q
        rcases d e1 with d1 | ⟨es, ep, d1⟩
        · exact absurd e2 d1
        · rw [e1] at e
          cases ha.symm.trans e
          cases d1
    have kb : K.In (hidT z.heap H) := fun b o e => hidT_get (KI b o e) (no (KI b o e) fun _ => .inl (by rw [← (by assumption : b = a), e]; simp))
    have nb : ∀ {b : Addr} {m : Str → Option Value}, z.heap.Ns b m → (hidT z.heap H).Ns b m := fun {b m} q => by
      obtain ⟨o, es, ep, e, d, r⟩ := q
      exact ⟨o, es, ep, hidT_get e (no e fun _ => .inr ⟨es, ep, d⟩), d, r⟩
    have z0 : Env0 P w K mg (hidT z.heap H) callerA [] z H := by
      refine ⟨rfl, ⟨kb, nb g1, ⟨mb, nb g2, g3⟩, ?_⟩, fun b o e => of_hidT e, Nat.le_of_eq (hidT_size _ _), trivial, fun b hb => absurd (show b ∈ ([] : List Addr) from hb) (by simp), hok, .of_eq g5⟩
      obtain ⟨mc, q1, q2⟩ := g4
      exact ⟨mc, nb q1, q2⟩
    refine codeAny_mono ((F _ kb (nb g1)).run callerA z H (.ref a) (.ref a) (fun v _ => v = .bl true) rfl hr z0 rfl (hsp H hS)) fun r s' h => ?_
    match r, h with
    | .error e, h => exact h.elim
    | .ok .next, h => exact h.elim
    | .ok .brk, h => exact h.elim
    | .ok .cont, h => exact h.elim
    | .ok (.ret u), ⟨v, H', os, bare, un, hok', r', q⟩ =>
      subst q
      obtain rfl : u = Value.bool true := r'
      refine ⟨rfl, OldK.of_keep fun b o e => ?_, os, bare⟩
      cases q : H b with
      | none => exact un.keep b o e q (fun y => absurd (show b ∈ ([] : List Addr) from y) (by simp)) (by simp)
      | some u =>
        obtain ⟨e1, _, ys, e2⟩ := hA b u q
        subst e2
        obtain ⟨y1, _⟩ := hok b _ q
        obtain ⟨y2, _⟩ := hok' b _ (un.frzs b _ ys q)
        cases e.symm.trans y1
        exact y2
  cases hk : K.lookup a with
  | some o =>
    cases (KI a o hk).symm.trans ha
    exact main (fun _ => none) (fun b u y => nomatch y) (.inr ⟨_, vs.toArray, _, hk, rfl, rfl, rfl, by rw [List.size_toArray, lv]; exact hl, by simpa using rv⟩) fun b u y => nomatch y
  | none =>
    have key : ∀ b u, (if b = a then some (HO.frz { cls := .type "list", data := .seq vs.toArray } (.lst (ns.map V.int))) else none) = some u → b = a ∧ u = .frz { cls := .type "list", data := .seq vs.toArray } (.lst (ns.map V.int)) := fun b u y => by
      by_cases hb : b = a
      · rw [if_pos hb] at y
        exact ⟨hb, (Option.some.inj y).symm⟩
      · rw [if_neg hb] at y
        cases y
    refine main (fun b => if b = a then some (.frz { cls := .type "list", data := .seq vs.toArray } (.lst (ns.map V.int))) else none) (fun b u y => ?_) (.inl (.inr ⟨_, if_pos rfl⟩)) fun b u y => ?_
    · obtain ⟨y1, y2⟩ := key b u y
      exact ⟨y1, hk, _, y2⟩
    · obtain ⟨y1, y2⟩ := key b u y
      subst y1 y2
      exact ⟨ha, by rw [List.length_map]; exact hl, vs, _, rv, ha⟩
theorem walk_law {l : PySem.W.OpenLaw} {n k : Nat} {q : Program} {loose : List Str} {XP : (Str → Option Value) → Heap → Prop} {YP : World → Heap → Prop} {d : DefRec} {K : Params → PySem.W.Frag} {sp : PySem.W.Frag → Sp} (hn : l.most = some n) (hn2 : n ≤ sizeLine)
    (hdf : d.params.defaults = []) (hr : Room k callerA) (hY : ∀ (w : World) (h : Heap), YP w h → (K w.params).In h)
    (F : ∀ (w : World) (mg : Str → Option Value) (fa : Addr) (h : Heap), (K w.params).In h → h.Ns mainGlobals mg → mg d.name = some (.ref fa) → ∀ base : Heap, (K w.params).In base → base.Ns mainGlobals mg → LawOk l.prog w (K w.params) mg base k fa (sp (K w.params)))
    (hsp : ∀ (K : PySem.W.Frag) (H : Hp) (a : Addr) (ns : List Int), ns.length ≤ n → SqL K H a (ns.map V.int) → sp K [.ref a] H (fun v _ => v = .bl true) E0) : PySem.W.WalkO q loose XP YP l.row.toRowW d [] (fun f vs => PySem.call f vs) := by
  refine Att.attach_call hn hdf fun w s₀ s₁ mg mb fa o pm cd doc a vs ns G Y ho hd hcd hmg hobj hints hlen hg => ?_
  exact LawOk.called (hY w _ Y) G.T.g G.T.b G.T.builtins G.T.nolimit hg hobj hints (Nat.le_trans hlen hn2) hr (F w mg fa _ (hY w _ Y) G.T.g hmg) fun H hS => hsp _ H a ns hlen hS
end L2

set_option pp.maxSteps 600
namespace K14
open PySem L2 PySem.Spec PyProof.Rows
/-- what == asks of two unlike classes -/
structure OtherK (K : PySem.W.Frag) (C D : Addr) : Prop where
  nf : PySem.W.notFirst K C (.ref D) = true
  k : PySem.W.kitOne K (.ref D) (.ref C) = some false
theorem WoNum.of {B : BookD} (bok : BkOk B) {e : WorthD} (h : okWorth B e) : WoNum e := by
  obtain ⟨_, _, h3, _, h5, h6, _⟩ := h
  refine ⟨numOk_of ?_, fun n e => numOk_of (bok.nums n (h5 n e)), fun n e => numOk_of (bok.nums n (h6 n e))⟩
  have all : wfacL.all (fun s => decide (-999999 ≤ s ∧ s ≤ 999999)) = true := by decide
  exact of_decide_eq_true (List.all_eq_true.mp all _ h3)
theorem evs_nodup {B : BookD} (ok : BookOk B) : (B.events.map (·.name)).Nodup := by
  have h := ok.names
  have h := (List.nodup_append.mp h).2.1
  have h := (List.nodup_append.mp h).2.1
  exact (List.nodup_append.mp h).2.1
theorem nots_go {c : Bool} {te : TE} {σ : L2.St} {H : Hp} {Q : Bool → Hp → Prop} (h : te σ H fun v H' => ∃ c, v = .bl c ∧ Q (!c) H') : tNot (tB te) σ H Q := h
theorem hand_made {K : PySem.W.Frag} {p : Pkg} {HA x dx r : Addr} {H : Hp} {nm : Str} {xs : List V} {rs : List RowD} {R : Hp → Prop} {E : XK} (hx : H x = none) (hdx : H dx = none) (nd : dx ≠ x) (on : nameB nm = true) (sq : Sq K H r xs) (ro : RowObL K p H rs xs) (l : rs.length ≤ 1000)
    (q : ∀ H' o, Same H H' → Tp K H' o xs → H' x = some (.ins HA dx [("event", .str nm), ("rows", .ref o)]) → R H') : spHandlerI K p HA [.ref x, .str nm, .ref r] (upd (upd H dx (.own x)) x (.ins HA dx [])) (fun v H2 => v = .non ∧ R H2) E := by
  have sl := laid (C := HA) hx hdx nd
  exact ⟨x, dx, r, nm, xs, rs, rfl, upd_same, on, sq.same sl, ro.kp (ObKp.of sl), l, fun H' o kp tp h => ⟨rfl, q H' o (fun z u e => kp z u (ne_of_none e hx) (sl _ _ e)) tp h⟩⟩
theorem event_made {K : PySem.W.Frag} {EV x dx a : Addr} {H : Hp} {e : EventD} {R : Hp → Prop} {E : XK} (hx : H x = none) (hdx : H dx = none) (nd : dx ≠ x) (sq : Sq K H a (e.origins.map V.str)) (ok : EvOk e)
    (q : ∀ H', Same H H' → EvOb K EV H' (.ref x) e → R H') : spEventI K EV [.ref x, .str e.name, .ref a, .str e.kind, .bl e.amount, .bl e.group] (upd (upd H dx (.own x)) x (.ins EV dx [])) (fun v H2 => v = .non ∧ R H2) E := by
  have sl := laid (C := EV) hx hdx nd
  exact ⟨x, dx, a, e, rfl, upd_same, sq.same sl, ok, fun H' o kp tp h => ⟨rfl, q H' (fun z u e => kp z u (ne_of_none e hx) (sl _ _ e)) ⟨x, dx, o, rfl, h, tp⟩⟩⟩
theorem worth_made {WO x dx : Addr} {H : Hp} {e : WorthD} {R : Hp → Prop} {E : XK} (hx : H x = none) (hdx : H dx = none) (nd : dx ≠ x) (ok : WoOk e)
    (q : ∀ H', Same H H' → WoOb WO H' (.ref x) e → R H') : spWorthI WO [.ref x, .str e.total, .str e.kind, .int e.factor, .str e.what, optV e.least, optV e.below] (upd (upd H dx (.own x)) x (.ins WO dx [])) (fun v H2 => v = .non ∧ R H2) E := by
  have sl := laid (C := WO) hx hdx nd
  exact ⟨x, dx, e, rfl, upd_same, ok, fun H1 s1 => ⟨rfl, q _ (fun z u e => (upd_ne (ne_of_none e hx)).trans (s1 _ _ (sl _ _ e))) ⟨x, dx, rfl, upd_same⟩⟩⟩
theorem neD_same {K : PySem.W.Frag} {d : PyData} {x y : V} {H : Hp} {Q : VK} {n b : Nat} (dx : Dp K H x d) (dy : Dp K H y d) (sm : Sm n b d) (hn : n ≤ 60) (q : Q (.bl false) H) : rNeD K x y H Q := by
  refine ⟨d, d, dx, dy, sm.shaped hn, sm.shaped hn, ?_⟩
  rw [SeqAt.eqv_refl _ sm.lay]
  exact q
def ev1 : EventD := ⟨"a", ["up"], "b", false, false⟩
def ev2 : EventD := ⟨"a", ["up"], "none", false, false⟩
def wo1 : WorthD := ⟨"sum", "up", 2, "one", none, none⟩
theorem up_ok : OrigL [("up" : Str)] := .inr ⟨(fun z => nomatch z), ⟨fun s hs => by rw [List.mem_singleton.mp hs]; decide +kernel, by decide +kernel, by show 1 ≤ 100; omega⟩⟩
theorem up_ne : [("up" : Str)] ≠ [("none" : Str)] := by decide +kernel
theorem ev1_ok : EvOk ev1 := ⟨by decide +kernel, up_ok, .inr (by decide +kernel), fun z => absurd z up_ne, fun z => absurd z up_ne, fun _ => ⟨rfl, rfl⟩⟩
theorem ev2_ok : EvOk ev2 := ⟨by decide +kernel, up_ok, .inl rfl, fun z => absurd z up_ne, fun z => absurd z up_ne, fun _ => ⟨rfl, rfl⟩⟩
theorem wo1_ok : WoOk wo1 := ⟨by decide +kernel, by decide +kernel, by decide +kernel, fun _ _ h => nomatch h⟩
theorem wo1_nm : WoNum wo1 := ⟨numOk_of (by decide), (fun _ h => nomatch h), (fun _ h => nomatch h)⟩
theorem eq_other {K : PySem.W.Frag} {cls : List Addr} {S : Hp → Addr → Str → Prop} {C D a b dx dy : Addr} {fs gs : List (Str × V)} {z : Str} {H : Hp} {Q : VK} {n : Bool} (OK : OtherK K C D) (OD : ObjK K D) (ha : H a = some (.ins C dx fs)) (hb : H b = some (.ins D dy gs)) (mC : C ∈ cls) (hz : S H a z) (q : Q (.bl (n != false)) H) : rEqC K cls (spEqC K cls S) n (.ref a) (.ref b) H Q :=
  ⟨a, C, dx, fs, rfl, ha, mC, .ins hb OK.nf, ⟨a, dx, fs, z, .ref b, .non, .ref D, rfl, ha, mC, hz, .base (.ins hb OD.cl OD.ha OD.hn OD.htk OD.hm), .inl ⟨OK.k, _, rfl, q⟩⟩⟩
section
variable {P : Program} {w : World} {K : PySem.W.Frag} {mg : Str → Option Value} {base : Heap}
abbrev s_law : Stmt := top 62
abbrev n_law : List Str := ["_law_script", "_law_k", "_law_box_here", "_law_book_here", "_law_name", "_law_rows_here", "_law_given", "_law_handler", "_law_line", "_law_event_here", "_law_worth_here"]
theorem sc_law : FnScope n_law ["_law_script"] (defScope s_law) := ⟨rfl, rfl, rfl, by decide +kernel, rfl, by decide +kernel, by decide +kernel⟩
def spLaw15 (K : PySem.W.Frag) : Sp := fun vs H Q _ => ∃ (a : Addr) (ns : List Int), vs = [.ref a] ∧ SqL K H a (ns.map V.int) ∧ ns.length ≤ 63 ∧ ∀ H', Q (.bl true) H'
theorem ok_law {p : Pkg} {EV WO HA f fE fV fH fK : Addr} {fdE fdV fdH fdK fd : FuncData} {dsE dsV dsH : List Value} {t0 : Addr} (T : Txt mg)
    (CE : ClsA K mg "Event" EV ["name", "origins", "kind", "amount", "group"]) (ME : Mk K EV fE) (g_E : FnOk P w K mg base CX0 6 fE fdE ["self", "name", "origins", "kind", "amount", "group"] (spEventI K EV)) (bE1 : Binds K fdE ["self", "name", "origins", "kind", "amount", "group"] dsE) (vE1 : Vals [.bl false, .bl false] dsE)
    (CV : ClsA K mg "Worth" WO ["total", "kind", "factor", "what", "least", "below"]) (MV : Mk K WO fV) (g_V : FnOk P w K mg base CX0 3 fV fdV ["self", "total", "kind", "factor", "what", "least", "below"] (spWorthI WO)) (bV1 : Binds K fdV ["self", "total", "kind", "factor", "what", "least", "below"] dsV) (vV1 : Vals [.non, .non] dsV)
    (CH : ClsA K mg "Handler" HA ["event", "rows"]) (MH : Mk K HA fH) (g_H : FnOk P w K mg base CX0 3 fH fdH ["self", "event", "rows"] (spHandlerI K p HA)) (bH : Binds K fdH ["self", "event", "rows"] []) (bH1 : Binds K fdH ["self", "event", "rows"] dsH) (vH1 : Vals [.ref t0] dsH) (N0 : NoRows K t0)
    (CK : ClsA K mg "Mark" p.CK ["place"]) (MK : Mk K p.CK fK) (g_K : FnOk P w K mg base CX0 3 fK fdK ["self", "place"] (spMarkI p.CK)) (bK : Binds K fdK ["self", "place"] [])
    (SKr : ∀ C ∈ p.rows, SelfK K C) (SKe : SelfK K EV) (SKh : SelfK K HA) (OEW : OtherK K EV WO) (OW : ObjK K WO)
    (ShE : Shows P w K mg base 4 [EV] (EvSh K EV)) (EqE : EqCls P w K mg base 7 [EV] (spEqC K [EV] (EvSh K EV)))
    (EqR : EqCls P w K mg base 30 p.rows (spEqC K p.rows (RowSh K p 3)))
    (ShH : Shows P w K mg base 30 [HA] (HaSh K p HA 3)) (EqH : EqCls P w K mg base 33 [HA] (spEqC K [HA] (HaSh K p HA 3)))
    (F : Fun K "law" "law" s_law f fd) (hb : ∀ (s : Shared) (u : Value), K.In s.heap → BindsTo s fd ⟨[u], []⟩ [("_law_script", u)])
    (g_law_box : Has P w K mg base 1 "_law_box" ["_law_script", "_law_k", "_law_own"] (spBox K)) (g_law_book : Has P w K mg base 12 "_law_book" ["_law_box_here", "_law_sizes"] spBookD)
    (g_law_events_right : HasG P w K mg base 10 "_law_events_right" ["_law_events"] spEventsRight) (g_law_worths_right : HasG P w K mg base 10 "_law_worths_right" ["_law_worths"] spWorthsRight)
    (g_law_rows_of : Has P w K mg base 17 "_law_rows_of" ["_law_rows_here"] (spRowsOf K p 3)) (g_law_row_lines : Has P w K mg base 9 "_law_row_lines" ["_law_rows_here"] (spRowLines K 3))
    (g_law_other : Has P w K mg base 1 "_law_other" ["_law_names_here"] (spOther K)) (g_law_event_told : Has P w K mg base 1 "_law_event_told" ["_law_event_here"] (spEventTold K EV)) (g_law_worth_told : Has P w K mg base 1 "_law_worth_told" ["_law_worth_here"] (spWorthTold WO)) :
    LawOk P w K mg base 36 f (spLaw15 K) := by
  refine LawOk.of F sc_law hb fun cdv A s H v Q hg0 hr h => ?_
  have hg : (A.deeper (PyProof.Rows.envOfC "law" (defScope s_law) s.heap.objs.size f cdv)).guards = some [] := by
    first | exact hg0 | (simp [Around.deeper, hg0]) | (unfold Around.deeper; exact hg0)
  have hu : (A.deeper (PyProof.Rows.envOfC "law" (defScope s_law) s.heap.objs.size f cdv)).units + 64 < cLine := hr.units
  have hu1 := Nat.lt_of_le_of_lt (Nat.add_le_add_left (by decide : 1 ≤ 64) _) hu
  obtain ⟨a, ns, ev, hS, hlen, k⟩ := h
  cases ev
  refine ⟨_, (pss_cons (ps_for PassesOwn.never rfl (pi_range1 rfl T.z_range (pa_cons (pe_callB (call_max2 rfl) (by rfl) T.z_max (by decide +kernel) (pa_cons pe_int (pa_cons (pe_callB (call_min2 rfl) (by rfl) T.z_min (by decide +kernel) (pa_cons pe_int (pa_cons (pe_callB call_len (by rfl) T.z_len (by decide +kernel) (pa_cons (pv 0) pa_nil)) pa_nil))) pa_nil))) pa_nil)) (pg_name (i := 1) sc_law.nd rfl (Or.inl rfl)) (pss_cons (ps_set (i := 2) sc_law.nd rfl (Or.inl rfl) (pe_callHas g_law_box (hr.mono (by decide)) rfl (pa_cons (pv 0) (pa_cons (pv 1) (pa_cons pe_int pa_nil)))))
      (pss_cons (ps_set (i := 3) sc_law.nd rfl (Or.inl rfl) (pe_callHas g_law_book (hr.mono (by decide)) rfl (pa_cons (pv 2) (pa_cons (pe_tup (pa_cons pe_int (pa_cons pe_int (pa_cons pe_int (pa_cons pe_int (pa_cons pe_int (pa_cons pe_int (pa_cons pe_int (pa_cons pe_int pa_nil))))))))) pa_nil))))
      (pss_cons (ps_if (PW.pt (pw_or (pt_not (pt_val (pe_callG g_law_events_right hg (hr.mono (by decide)) rfl (pa_cons (pe_dget hu1 (pv 3) pe_str (fun _ _ => rfl)) pa_nil)))) (pw_or1 (pt_not (pt_val (pe_callG g_law_worths_right hg (hr.mono (by decide)) rfl (pa_cons (pe_dget hu1 (pv 3) pe_str (fun _ _ => rfl)) pa_nil))))))) (pss_one (ps_ret pe_bl)) pss_nil)
      (pss_one (ps_for PassesOwn.never rfl (pi_list (pe_dget hu1 (pv 3) pe_str (fun _ _ => rfl))) (pg_tup rfl (pgs_cons (pg_name (i := 4) sc_law.nd rfl (Or.inl rfl)) (pgs_cons (pg_name (i := 5) sc_law.nd rfl (Or.inl rfl)) pgs_nil))) (pss_cons (ps_set (i := 6) sc_law.nd rfl (Or.inl rfl) (pe_callHas g_law_rows_of (hr.mono (by decide)) rfl (pa_cons (pv 5) pa_nil)))
      (pss_cons (ps_par (i := 7) (j := 8) (by rfl) sc_law.nd rfl rfl (by decide) rfl rfl (pa_cons (pe_make MH g_H (hr.mono (by decide)) rfl CH.m bH .nil pass0 (pa_cons (pv 4) (pa_cons (pv 6) pa_nil))) (pa_cons (pe_join pe_str (pe_op op_cat (pe_lst (pa_cons (pe_op op_add_str pe_str (pv 4)) pa_nil)) (pe_callHas g_law_row_lines (hr.mono (by decide)) rfl (pa_cons (pv 5) pa_nil)))) pa_nil)) (by rfl))
      (pss_cons (ps_expr (pe_bm PySem.F.plainAttrs_list PySem.F.slot_list_append PySem.F.type_list_append mt_append (pv 6) (pa_cons (pe_make MK g_K (hr.mono (by decide)) rfl CK.m bK .nil pass0 (pa_cons pe_str pa_nil)) pa_nil)))
      (pss_cons (ps_if (PW.pt (pw_or (pt_cmpR op_ne (pe_fld (pv 7) rfl) (pv 4) (nomark _)) (pw_or (pt_not (pt_val (pe_callB call_isi (by rfl) T.z_isinstance (by decide +kernel) (pa_cons (pe_fld (pv 7) rfl) (pa_cons (pe_bltn (v := .ty "tuple") (by rfl) T.z_tuple (by decide +kernel) rfl) pa_nil))))) (pw_or1 (pt_cmpR (op_neCls EqR (hr.mono (by decide))) (pe_callTy call_list_of (by rfl) T.z_list (by decide +kernel) (pa_cons (pe_fld (pv 7) rfl) pa_nil)) (pe_callHas g_law_rows_of (hr.mono (by decide)) rfl (pa_cons (pv 5) pa_nil)) (nomark _)))))) (pss_one (ps_ret pe_bl)) pss_nil)
      (pss_cons (ps_if (PW.pt (pw_or (pt_cmpR op_ne (pe_callB call_reprT (by rfl) T.z_repr (by decide +kernel) (pa_cons (pe_callTy (call_strCK rfl rfl rfl rfl rfl ShH (hr.mono (by decide))) (by rfl) T.z_str (by decide +kernel) (pa_cons (pv 7) pa_nil)) pa_nil)) (pe_callB call_reprT (by rfl) T.z_repr (by decide +kernel) (pa_cons (pv 8) pa_nil)) (nomark _)) (pw_or1 (pt_cmpR (op_eqCK rfl rfl rfl rfl rfl EqH (hr.mono (by decide))) (pv 7) (pv 8) (nomark _))))) (pss_one (ps_ret pe_bl)) pss_nil)
      (pss_cons (ps_if (PW.pt (pw_or (pt_cmpR (op_neCK rfl rfl rfl rfl rfl EqH (hr.mono (by decide))) (pv 7) (pe_make MH g_H (hr.mono (by decide)) rfl CH.m bH .nil pass0 (pa_cons (pv 4) (pa_cons (pe_callTy call_tuple_of (by rfl) T.z_tuple (by decide +kernel) (pa_cons (pe_callHas g_law_rows_of (hr.mono (by decide)) rfl (pa_cons (pv 5) pa_nil)) pa_nil)) pa_nil))) (nomark _)) (pw_or1 (pt_cmpR (op_eqCK rfl rfl rfl rfl rfl EqH (hr.mono (by decide))) (pv 7) (pe_make MH g_H (hr.mono (by decide)) rfl CH.m bH .nil pass0 (pa_cons (pv 4) (pa_cons (pv 6) pa_nil))) (nomark _))))) (pss_one (ps_ret pe_bl)) pss_nil)
      (pss_one (ps_if (pt_cmpR (op_eqCK rfl rfl rfl rfl rfl EqH (hr.mono (by decide))) (pv 7) (pe_make MH g_H (hr.mono (by decide)) rfl CH.m bH .nil pass0 (pa_cons (pe_callHas g_law_other (hr.mono (by decide)) rfl (pa_cons (pe_lst (pa_cons (pv 4) pa_nil)) pa_nil)) (pa_cons (pe_callHas g_law_rows_of (hr.mono (by decide)) rfl (pa_cons (pv 5) pa_nil)) pa_nil))) (nomark _)) (pss_one (ps_ret pe_bl)) pss_nil))))))))))))))
      (pss_cons (ps_par (i := 9) (j := 10) (by rfl) sc_law.nd rfl rfl (by decide) rfl rfl (pa_cons (pe_make ME g_E (hr.mono (by decide)) rfl CE.m bE1 vE1 pass0 (pa_cons pe_str (pa_cons (pe_tup (pa_cons pe_str pa_nil)) (pa_cons pe_str pa_nil)))) (pa_cons (pe_make MV g_V (hr.mono (by decide)) rfl CV.m bV1 vV1 pass0 (pa_cons pe_str (pa_cons pe_str (pa_cons pe_int (pa_cons pe_str pa_nil))))) pa_nil)) (by rfl))
      (pss_cons (ps_if (PW.pt (pw_or (pt_cmpR (op_neD hu) (pe_callHas g_law_event_told (hr.mono (by decide)) rfl (pa_cons (pv 9) pa_nil)) (pe_tup (pa_cons pe_str (pa_cons (pe_tup (pa_cons pe_str pa_nil)) (pa_cons pe_str (pa_cons pe_bl (pa_cons pe_bl pa_nil)))))) (nomark _)) (pw_or1 (pt_cmpR op_ne (pe_callTy (call_strCK rfl rfl rfl rfl rfl ShE (hr.mono (by decide))) (by rfl) T.z_str (by decide +kernel) (pa_cons (pv 9) pa_nil)) pe_str (nomark _))))) (pss_one (ps_ret pe_bl)) pss_nil)
      (pss_cons (ps_if (PW.pt (pw_or (pt_cmpR (op_neD hu) (pe_callHas g_law_worth_told (hr.mono (by decide)) rfl (pa_cons (pv 10) pa_nil)) (pe_tup (pa_cons pe_str (pa_cons pe_str (pa_cons pe_int (pa_cons pe_str (pa_cons pe_non (pa_cons pe_non pa_nil))))))) (nomark _)) (pw_or1 (pt_cmpR (op_eqCK rfl rfl rfl rfl rfl EqE (hr.mono (by decide))) (pv 9) (pv 10) (nomark _))))) (pss_one (ps_ret pe_bl)) pss_nil)
      (pss_cons (ps_if (pt_cmpR op_ne (pe_callTy (call_strCK rfl rfl rfl rfl rfl ShE (hr.mono (by decide))) (by rfl) T.z_str (by decide +kernel) (pa_cons (pe_make ME g_E (hr.mono (by decide)) rfl CE.m bE1 vE1 pass0 (pa_cons pe_str (pa_cons (pe_lst (pa_cons pe_str pa_nil)) (pa_cons pe_str pa_nil)))) pa_nil)) pe_str (nomark _)) (pss_one (ps_ret pe_bl)) pss_nil)
      (pss_one (ps_ret (pe_and (pe_cmpR (op_eqD hu) (pe_fld (pe_make MH g_H (hr.mono (by decide)) rfl CH.m bH1 vH1 pass0 (pa_cons pe_str pa_nil)) rfl) (pe_tup pa_nil) (nomark _)) (pe_one (pe_cmpR op_eq (pe_callTy (call_strCK rfl rfl rfl rfl rfl ShH (hr.mono (by decide))) (by rfl) T.z_str (by decide +kernel) (pa_cons (pe_make MH g_H (hr.mono (by decide)) rfl CH.m bH1 vH1 pass0 (pa_cons pe_str pa_nil)) pa_nil)) pe_str (nomark _))))))))))), ?_⟩
  have q1000 : (1000 : Nat) < sizeLine := by decide
  have hlen' : (((ns.map V.int).length : Nat) : Int) ≤ 63 := by rw [List.length_map]; omega
  refine ⟨_, rfl, _, _, rfl, .inl ⟨_, hS, rfl⟩, _, _, rfl, _, _, rfl, ?_⟩
  have hN : ∀ m : Int, 0 ≤ m → ∃ N : Int, (if (if m < 4 then m else 4) > 1 then (if m < 4 then m else 4) else 1) = N ∧ 0 ≤ N ∧ N ≤ 4 := fun m hm => ⟨_, rfl, by split <;> (try split) <;> omega, by split <;> (try split) <;> omega⟩
  obtain ⟨N, eN, N0', N3⟩ := hN (((ns.map V.int).length : Nat) : Int) (Int.natCast_nonneg _)
  refine ⟨N, by rw [← eN], by omega, by omega, for_range (lo := 0) (n := N.toNat) (fun i σ H' => Same H H' ∧ ∃ x1 x2 x3 x4 x5 x6 x7 x8 x9 x10, σ = [some (.ref a), x1, x2, x3, x4, x5, x6, x7, x8, x9, x10]) ⟨Same.refl _, _, _, _, _, _, _, _, _, _, _, rfl⟩ ?_ ?_⟩
  · rintro i σ H1 hi ⟨s1, x1, x2, x3, x4, x5, x6, x7, x8, x9, x10, rfl⟩
    refine ⟨_, rfl, _, rfl, a, ns, _, _, rfl, hS.ext s1, by omega, by omega, by decide, by decide, fun H2 b s2 hb0 hbox => ?_⟩
    refine name_go ?_
    try dsimp only
    refine seq_asg ?_
    refine ⟨_, rfl, tupc_go (xs := [.int 4, .int 2, .int 2, .int 6, .int 6, .int 20, .int 10, .int 3]) (fun Q q => q) (by show 8 ≤ 1000; decide) fun H3 z s3 hz0 hz => ?_⟩
    refine nil_go ⟨b, z, _, 4, 2, 2, 6, 6, 20, 10, 3, rfl, hbox.keep s3, hz, ⟨rfl, by omega, by omega, by omega, by omega, by omega, by omega⟩, fun H4 d B kvs u4 b4 bk bok => name_go ?_⟩
    try dsimp only
    have s14 : Same H1 H4 := fun y o q => u4 _ _ (ne_of_none q hb0) (s3 _ _ (s2 _ _ q))
    obtain ⟨wsE, inE, pE⟩ := bk.events
    obtain ⟨wsW, inW, pW⟩ := bk.worths
    obtain ⟨wsH, inH, pH⟩ := bk.handlers
    obtain ⟨rE, gE, _, hE⟩ := inE.get bk.bk.at'
    have okE : ∀ e ∈ B.events, EvOk e := fun e he => EvOk.of bok.bk (bok.events.1 e he)
    have okW' : ∀ e ∈ B.worths, WoOk e ∧ WoNum e := fun e he => ⟨WoOk.of bok.bk (bok.worths.1 e he), WoNum.of bok.bk (bok.worths.1 e he)⟩
    refine seq_go ?_
    refine ⟨_, rfl, d, _, rfl, gE, rE, wsE, B.events, rfl, hE, pE.mapP' (fun _ _ ⟨p, o, e1, h1, _, h2⟩ => ⟨p, o, e1, h1, h2⟩), okE, evs_nodup bok, by have := bok.events.2.2; omega, fun H5 s5 => ⟨_, rfl, iteSf rfl ?_⟩⟩
    have s5 : Same H4 H5 := s5
    obtain ⟨rW, gW, _, hW⟩ := (inW.kp (KpE.of s5)).get (s5 _ _ bk.bk.at')
    refine ⟨_, rfl, d, _, rfl, gW, rW, wsW, B.worths, rfl, hW, pW.mapP' (fun _ _ z => z.kp (TupKp.of s5)), okW', bok.worths.2, fun H6 s6 => ⟨_, rfl, iteSf rfl (next_go ?_)⟩⟩
    have s6 : Same H5 H6 := s6
    have s46 := s5.trans s6
    obtain ⟨rH, gH, _, hH⟩ := (inH.kp (KpE.of s46)).get (s46 _ _ bk.bk.at')
    have s16 := s14.trans s46
    try dsimp only
    refine ⟨_, rfl, d, _, rfl, gH, rH, rfl, ⟨_, SqL.of hH⟩, for_it (walk_list (xs := wsH)) (fun i' σ H' => Same H6 H' ∧ ∃ x4 x5 x6 x7 x8, σ = [some (.ref a), some (.int (0 + ((i : Nat) : Int))), some (.ref b), some (.ref d), x4, x5, x6, x7, x8, x9, x10]) ⟨Same.refl _, _, _, _, _, _, rfl⟩ (fun i' σ H' _ z => SqL.of (z.1 _ _ hH)) ?_ ?_⟩
    · rintro i' y σ H7' H7 hi' ⟨s7, x4, x5, x6, x7, x8, rfl⟩ ⟨rfl, ey⟩
      obtain ⟨⟨nm, rs⟩, ee, ha⟩ := pH.at' ey
      obtain ⟨pp, px, xs, rfl, hp, hpx, rl⟩ := ha.kp (TupKp.of (s46.trans s7))
      obtain ⟨onm, okl, lrs⟩ := bok.handlers.1 _ (List.mem_of_getElem? ee)
      have onb : nameB nm = true := by
        obtain ⟨e, he, hen⟩ := List.mem_map.mp onm
        have := (bok.events.1 e he).1
        rw [hen] at this
        exact this
      have okr : okRL rs 3 := okRL_of bok.bk okl
      refine ⟨pp, _, rfl, SqT.of hp, rfl, _, _, rfl, _, _, rfl, rfl, ?_⟩
      refine seq_asg ?_
      refine ⟨_, rfl, px, xs, rs, B, rfl, hpx, rl, okl, bok.bk, by show rs.length ≤ 1000; have : rs.length ≤ 3 := lrs; omega, fun H8 g ys s8 ng hg8 ro8 => name_go ?_⟩
      have s8 : Same H7 H8 := s8
      try dsimp only
      refine seq_par (cons_go (make_go (cons_go ⟨_, rfl, cons_go ⟨_, rfl, nil_go ?_⟩⟩)))
      intro xh dxh hxh hdxh ndh
      refine hand_made hxh hdxh ndh onb (.inl hg8) ro8 (by have : rs.length ≤ 3 := lrs; omega) fun H9 o9 s9 tp9 h9 => ?_
      have hs := haS_sum onb okr lrs
      have hl := haS_len onb okr lrs
      have hk := haS_okS bok.bk onb okl
      have s79 := s8.trans s9
      refine cons_go ⟨⟨_, rfl⟩, Gives.cat (xs := [V.str ("on " ++ nm)]) (ys := (rowsLines rs).map V.str) ?_ ?_ ?_ _ fun H10 ll s10 h10 => ⟨_, ll, ("on " ++ nm) :: rowsLines rs, rfl, rfl, .inl (SqL.of h10), hs.2, nil_go ⟨_, _, rfl, ?_⟩⟩⟩
      · exact Gives.disp (fun Q q => cons_go (op_go (c_go ⟨_, rfl, _, _, rfl, rfl, (by have := nameB_len onb; show 3 + nm.length ≤ sizeLine; omega), nil_go q⟩))) (by show 1 ≤ 1000; omega)
      · exact fun H1 s1 Q q => ⟨_, rfl, px, xs, rs, B, rfl, .inr (.inl (s1 _ _ (s79 _ _ hpx))), rl.kp (TupKp.of (s79.trans s1)), okl, bok.bk, by have : rs.length ≤ 3 := lrs; omega, fun H' l s' _ hl => q H' l s' hl⟩
      · have := hs.1
        rw [List.length_cons] at this
        rw [List.length_map]
        show 1 + _ ≤ _
        omega
      have s10 : Same H9 H10 := s10
      change tSeq _ _ _ (((((([some (V.ref a), some (V.int (0 + ↑i)), some (V.ref b), some (V.ref d), x4, x5, x6, x7, x8, x9, x10].set 4 (some (V.str nm))).set 5 (some (V.ref px))).set 6 (some (V.ref g))).set 7 (some (.ref xh))).set 8 (some (.str (haS nm rs))))) H10
      try dsimp only
      -- the list that was handed in is changed
      have hg10 := s10 _ _ (s9 _ _ hg8)
      refine seq_go ⟨_, rfl, .inl ⟨rfl, _, SqL.of hg10⟩, cons_go (make_go (cons_go (c_go (nil_go ?_))))⟩
      intro xm dxm hxm hdxm ndm
      refine ⟨xm, dxm, "none", rfl, upd_same, by decide +kernel, fun HQ sQ => ⟨rfl, nil_go ?_⟩⟩
      have slm : Same H10 (upd HQ xm (.ins p.CK dxm [("place", .str "none")])) := fun z u q => (upd_ne (ne_of_none q hxm)).trans (sQ _ _ (laid (C := p.CK) hxm hdxm ndm _ _ q))
      have hM : upd HQ xm (.ins p.CK dxm [("place", .str "none")]) xm = some (.ins p.CK dxm [("place", .str "none")]) := upd_same
      generalize upd HQ xm (.ins p.CK dxm [("place", .str "none")]) = HM at *
      have hgM := slm _ _ hg10
      have ly := ro8.len
      have lrs3 : rs.length ≤ 3 := lrs
      refine ⟨g, ys, _, rfl, rfl, hgM, by omega, ?_⟩
      have s11 : Same H7 (upd HM g (.lst (ys ++ [.ref xm]))) := fun z u q => (upd_ne (ne_of_none q ng)).trans (slm _ _ (s10 _ _ (s79 _ _ q)))
      have oM : ObKp HM (upd HM g (.lst (ys ++ [.ref xm]))) := ObKp.lst hgM
      have o911 : ObKp H9 (upd HM g (.lst (ys ++ [.ref xm]))) := (ObKp.of (s10.trans slm)).trans oM
      have h11 := o911.2 _ _ _ _ h9
      have tp11 := tp9.kp o911
      have ro11 := ro8.kp ((ObKp.of s9).trans o911)
      have hg11 : upd HM g (.lst (ys ++ [.ref xm])) g = some (.lst (ys ++ [.ref xm])) := upd_same
      have rom : RowOb K p (upd HM g (.lst (ys ++ [.ref xm]))) (.mark "none") (.ref xm) := by
        unfold RowOb
        exact ⟨xm, dxm, rfl, oM.2 _ _ _ _ hM⟩
      have ro12 := ro11.app rom
      generalize upd HM g (.lst (ys ++ [.ref xm])) = H11 at *
      have okl2 : okRowL B (rs ++ [.mark "none"]) 3 := okRowL.app okl (by unfold okRow; decide +kernel)
      have okr2 : okRL (rs ++ [.mark "none"]) 3 := okRL_of bok.bk okl2
      have l2 : (rs ++ [RowD.mark "none"]).length ≤ 4 := by rw [List.length_append]; show rs.length + 1 ≤ 4; omega
      have hsh : ∀ H', Same H11 H' → HaSh K p HA 3 H' xh (haS nm rs) := fun H' s' => ⟨nm, rs, ⟨xh, dxh, o9, ys, rfl, s' _ _ h11, tp11.kp (ObKp.of s'), ro11.kp (ObKp.of s')⟩, onb, okr, by omega, rfl⟩
      try dsimp only
      refine seq_go ?_
      refine ⟨_, rfl, xh, HA, dxh, _, _, rfl, h11, CH.cl, CH.n _ (by simp), rfl, _, rfl, neS_go ?_⟩
      refine ⟨_, rfl, xh, HA, dxh, _, _, rfl, h11, CH.cl, CH.n _ (by simp), rfl, _, _, .type "tuple", .type "tuple", true, rfl, .ty _, ?_, kit_ty (by decide +kernel), _, rfl, iteSf rfl ?_⟩
      · rcases tp11 with h | ⟨_, ⟨o, n, l, c, _⟩⟩
        · exact .base (.tup h)
        · exact .kTuple l c
      have mH : HA ∈ [HA] := List.mem_singleton.mpr rfl
      have rows_at : ∀ {H' : Hp}, Same H11 H' → H' px = some (.tup xs) ∧ RowL H' rs xs := fun s' => ⟨s' _ _ (s11 _ _ hpx), rl.kp (TupKp.of (s11.trans s'))⟩
      -- list(handler.rows) != rows_of(rows)
      refine op_go (cb_go (cons_go ⟨_, rfl, xh, HA, dxh, _, _, rfl, h11, CH.cl, CH.n _ (by simp), rfl, nil_go ⟨o9, ys, rfl, .inr tp11.sq, fun l1 hl1 => ?_⟩⟩))
      obtain ⟨s12, h12⟩ := new_at (o := .lst ys) hl1
      refine ⟨_, rfl, px, xs, rs, B, rfl, (rows_at s12).1, (rows_at s12).2, okl, bok.bk, by omega, fun H13 a13 y13 s13 n13 h13 r13 => ?_⟩
      have s13 : Same _ H13 := s13
      refine ⟨⟨l1, a13, ys, y13, rfl, rfl, s13 _ _ h12, h13, rows_eq SKr okr (ro11.kp (ObKp.of (s12.trans s13))) r13⟩, fun H14 s14' => ⟨_, rfl, iteSf rfl (next_go ?_)⟩⟩
      have s114 : Same H11 H14 := (s12.trans s13).trans s14'
      try dsimp only
      refine seq_go ?_
      -- repr(str(handler)) != repr(line) or handler == line
      refine ⟨_, rfl, _, rfl, xh, HA, dxh, _, haS nm rs, rfl, s114 _ _ h11, mH, hsh _ s114, fun H15 s15 => ?_⟩
      refine ⟨haS nm rs, rfl, hk, hl, ?_⟩
      refine ⟨_, rfl, haS nm rs, rfl, hk, hl, ?_⟩
      refine neS_go ?_
      have s115 := s114.trans s15
      refine ⟨_, rfl, _, rfl, eq_str SKh (s115 _ _ h11) mH (hsh _ s115) ⟨_, rfl, iteSf rfl (next_go ?_)⟩⟩
      try dsimp only
      refine seq_go ?_
      -- handler != Handler(name, tuple(rows)) or handler == Handler(name, given)
      refine ⟨_, rfl, make_go (cons_go ⟨_, rfl, cons_go (cb_go (cons_go ⟨_, rfl, px, xs, rs, B, rfl, (rows_at s115).1, (rows_at s115).2, okl, bok.bk, by omega, fun H16 a16 y16 s16 n16 h16 r16 => nil_go ⟨a16, y16, rfl, .inl ⟨SqL.of h16, fun t16 ht16 => nil_go ?_⟩⟩⟩))⟩)⟩
      have s16 : Same H15 H16 := s16
      obtain ⟨s17, h17⟩ := new_at (o := .tup y16) ht16
      have r17 := r16.kp (ObKp.of s17)
      have s117 := (s115.trans s16).trans s17
      generalize upd H16 t16 (.tup y16) = H17 at *
      intro x2 dx2 hx2 hdx2 nd2
      refine hand_made hx2 hdx2 nd2 onb (.inr (.inl h17)) r17 (by omega) fun H18 o18 s18 tp18 h18 => ?_
      have s118 := s117.trans s18
      refine eq_own (n := true) SKh (s118 _ _ h11) h18 mH (hsh _ s118) (fun H' s' => ⟨nm, rs, ⟨x2, dx2, o18, y16, rfl, s' _ _ h18, tp18.kp (ObKp.of s'), r17.kp (ObKp.of (s18.trans s'))⟩, onb, okr, by omega, rfl⟩) fun H19 s19 => ⟨_, rfl, iteSf (by simp) ?_⟩
      have s119 := s118.trans s19
      refine ⟨_, rfl, make_go (cons_go ⟨_, rfl, cons_go ⟨_, rfl, nil_go ?_⟩⟩)⟩
      intro x3 dx3 hx3 hdx3 nd3
      refine hand_made hx3 hdx3 nd3 onb (.inl (s119 _ _ hg11)) (ro12.kp (ObKp.of s119)) (by omega) fun H20 o20 s20 tp20 h20 => ?_
      have s120 := s119.trans s20
      refine eq_own (n := false) SKh (s120 _ _ h11) h20 mH (hsh _ s120) (fun H' s' => ⟨nm, _, ⟨x3, dx3, o20, _, rfl, s' _ _ h20, tp20.kp (ObKp.of s'), ro12.kp (ObKp.of (s120.trans s'))⟩, onb, okr2, by omega, rfl⟩) fun H21 s21 => ⟨_, rfl, iteSf (by simp [haS_more nm rs (.mark "none")]) (next_go ?_)⟩
      have s121 := s120.trans s21
      try dsimp only
      -- handler == Handler(other([name]), rows)
      refine ⟨_, rfl, make_go (cons_go ?_)⟩
      refine cons_go (lst_go (xs := [.str nm]) (fun Q q => cons_go ⟨_, rfl, nil_go q⟩) (by show 1 ≤ 1000; omega) fun H22 l22 s22 _ h22 => nil_go ⟨l22, [nm], rfl, SqL.of h22, by show 1 ≤ 25; omega, fun H23 oth s23 on2 nin => ?_⟩)
      have s23 : Same H22 H23 := s23
      have s123 := (s121.trans s22).trans s23
      refine cons_go ?_
      refine ⟨_, rfl, px, xs, rs, B, rfl, (rows_at s123).1, (rows_at s123).2, okl, bok.bk, by omega, fun H24 a24 y24 s24 n24 h24 r24 => nil_go ?_⟩
      have s24 : Same H23 H24 := s24
      intro x5' dx5 hx5 hdx5 nd5
      refine hand_made hx5 hdx5 nd5 on2 (.inl h24) r24 (by omega) fun H25 o25 s25 tp25 h25 => ?_
      have s125 := (s123.trans s24).trans s25
      have nn : nm ≠ oth := fun z => nin (by rw [z]; exact List.mem_singleton.mpr rfl)
      refine eq_own (n := false) SKh (s125 _ _ h11) h25 mH (hsh _ s125) (fun H' s' => ⟨oth, rs, ⟨x5', dx5, o25, y24, rfl, s' _ _ h25, tp25.kp (ObKp.of s'), r24.kp (ObKp.of (s25.trans s'))⟩, on2, okr, by omega, rfl⟩) fun H26 s26 => ⟨_, rfl, iteSf (by simp [haS_name (rs := rs) (rs' := rs) onb on2 nn]) (next_go ?_)⟩
      exact ⟨(s7.trans s11).trans (s125.trans s26), _, _, _, _, _, rfl⟩
    · rintro σ H7 ⟨s7, x4, x5, x6, x7, x8, rfl⟩
      exact ⟨s1.trans (s16.trans s7), _, _, _, _, _, _, _, _, _, _, rfl⟩
  · rintro σ H' ⟨s1, x1, x2, x3, x4, x5, x6, x7, x8, x9, x10, rfl⟩
    try dsimp only
    have mE : EV ∈ [EV] := List.mem_singleton.mpr rfl
    refine seq_par (cons_go (make_go (cons_go (c_go (cons_go (tupc_go (xs := [.str "up"]) (fun Q q => cons_go (c_go (nil_go q))) (by show 1 ≤ 1000; omega) fun H1 t1 s1' _ h1 => cons_go (c_go (nil_go ?_))))))))
    intro xe dxe hxe hdxe nde
    refine event_made (e := ev1) hxe hdxe nde (.inr (.inl h1)) ev1_ok fun H2 s2 ob2 => ?_
    refine cons_go (make_go (cons_go (c_go (cons_go (c_go (cons_go (c_go (cons_go (c_go (nil_go ?_)))))))))) 
    intro xw dxw hxw hdxw ndw
    refine worth_made (e := wo1) hxw hdxw ndw wo1_ok fun H3 s3 ob3 => nil_go ⟨_, _, rfl, ?_⟩
    have ob23 := ob2.kp s3
    try dsimp only
    refine seq_go ?_
    refine ⟨_, rfl, .ref xe, ev1, rfl, ob23, fun H4 t4 o4 s4 tp4 h4 => ?_⟩
    have s4 : Same H3 H4 := s4
    refine tup_go (cons_go (c_go (cons_go (tupc_go (xs := [.str "up"]) (fun Q q => cons_go (c_go (nil_go q))) (by show 1 ≤ 1000; omega) fun H5 t5 s5 _ h5 => cons_go (c_go (cons_go (c_go (cons_go (c_go (nil_go ⟨(show 5 ≤ sizeLine by decide), fun t6 ht6 => ?_⟩)))))))))) 
    obtain ⟨s6, h6⟩ := new_at (o := .tup [.str "a", .ref t5, .str "b", .bl false, .bl false]) ht6
    have s46 := s5.trans s6
    refine neD_same (d := evP ev1) (ev_dp (tp4.kp (ObKp.of (s4.trans s46))) (s46 _ _ h4)) (ev_dp (o := t5) (.inl (s6 _ _ h5)) h6) (evP_sm ev1_ok) (by omega) ⟨_, rfl, iteSf rfl ?_⟩
    have s36 := s4.trans s46
    have e1S : evS ev1 = "event a up to b" := by decide +kernel
    obtain ⟨_, dxe', oe, ee, hxe3, tpe3⟩ := ob23
    cases ee
    refine ⟨_, rfl, _, rfl, xe, EV, _, _, evS ev1, rfl, s36 _ _ hxe3, mE, ⟨ev1, ⟨xe, _, oe, rfl, s36 _ _ hxe3, tpe3.kp (ObKp.of s36)⟩, ev1_ok, rfl⟩, fun H7 s7 => ?_⟩
    rw [e1S]
    refine neS_go (next_go ?_)
    have s37 := s36.trans s7
    try dsimp only
    refine seq_go ?_
    refine ⟨_, rfl, .ref xw, wo1, rfl, ob3.kp s37, fun H8 t8 s8 w8 => ?_⟩
    have s8 : Same H7 H8 := s8
    refine tupc_go (xs := [.str "sum", .str "up", .int 2, .str "one", .non, .non]) (fun Q q => q) (by show 6 ≤ 1000; omega) fun H9 t9 s9 _ h9 => ?_
    refine neD_same (d := woP wo1) (WorthAt.dp (w8.kp (TupKp.of s9))) (WorthAt.dp (e := wo1) ⟨t9, rfl, h9⟩) (woP_sm wo1_ok wo1_nm) (by omega) ⟨_, rfl, iteSf rfl ?_⟩
    have s39 := (s37.trans s8).trans s9
    obtain ⟨_, dxw', ew, hxw3⟩ := ob3
    cases ew
    refine ⟨_, rfl, _, rfl, eq_other OEW OW (s39 _ _ hxe3) (s39 _ _ hxw3) mE ⟨ev1, ⟨xe, _, oe, rfl, s39 _ _ hxe3, tpe3.kp (ObKp.of s39)⟩, ev1_ok, rfl⟩ ⟨_, rfl, iteSf rfl (next_go ?_)⟩⟩
    try dsimp only
    refine seq_go ?_
    refine op_go (cb_go (cons_go (make_go (cons_go (c_go (cons_go (lst_go (xs := [.str "up"]) (fun Q q => cons_go (c_go (nil_go q))) (by show 1 ≤ 1000; omega) fun H10 l10 s10 _ h10 => cons_go (c_go (nil_go ?_)))))))))
    intro xf dxf hxf hdxf ndf
    refine event_made (e := ev2) hxf hdxf ndf (.inl h10) ev2_ok fun H11 s11 ob11 => nil_go ?_
    have e2S : evS ev2 = "event a up to none" := by decide +kernel
    obtain ⟨_, dxf', of', ef, hxf11, tpf11⟩ := ob11
    cases ef
    refine ⟨_, rfl, xf, EV, _, _, evS ev2, rfl, hxf11, mE, ⟨ev2, ⟨xf, _, of', rfl, hxf11, tpf11⟩, ev2_ok, rfl⟩, fun H12 s12 => ?_⟩
    rw [e2S]
    refine neS_go (next_go ?_)
    try dsimp only
    have no : ∀ H', RowObL K p H' [] [] := fun H' => by unfold RowObL; rfl
    have na : nameB "a" = true := by decide +kernel
    refine ret_go (andV_go (op_go ?_))
    refine make_go (cons_go (c_go (nil_go ?_)))
    intro xg dxg hxg hdxg ndg
    refine hand_made hxg hdxg ndg na (.inr (.inr ⟨rfl, N0⟩)) (no _) (by show 0 ≤ 1000; omega) fun H13 og s13 tp13 h13 => ?_
    refine ⟨xg, HA, dxg, _, _, rfl, h13, CH.cl, CH.n _ (by simp), rfl, ?_⟩
    refine tupc_go (xs := []) (fun Q q => q) (by show 0 ≤ 1000; omega) fun H14 t14 s14 _ h14 => ?_
    refine ⟨.tuple [], .tuple [], .tup (tp13.kp (ObKp.of s14)).sq .nil, .tup (SqT.of h14) .nil, by decide +kernel, by decide +kernel, _, rfl, iteSe (by decide +kernel) ?_⟩
    refine op_go (cb_go (cons_go (make_go (cons_go (c_go (nil_go ?_))))))
    intro xk dxk hxk hdxk ndk
    refine hand_made hxk hdxk ndk na (.inr (.inr ⟨rfl, N0⟩)) (no _) (by show 0 ≤ 1000; omega) fun H15 ok' s15 tp15 h15 => nil_go ?_
    refine ⟨_, rfl, xk, HA, dxk, _, haS "a" [], rfl, h15, List.mem_singleton.mpr rfl, ⟨"a", [], ⟨xk, dxk, ok', [], rfl, h15, tp15, no _⟩, na, by unfold okRL; trivial, by show 0 ≤ 20; omega, rfl⟩, fun H16 s16 => ?_⟩
    rw [show haS "a" [] = "on a" from by decide +kernel]
    refine ⟨rfl, ?_⟩
    rw [decide_eq_true rfl]
    exact k H16
end
end K14

set_option pp.maxSteps 600
namespace K14
open PySem L2 PySem.Spec PyProof.Rows
section
variable {P : Program} {w : World} {K : PySem.W.Frag} {mg : Str → Option Value} {base : Heap}
/-- a class that is made with all its arguments given -/
structure Mkr (P : Program) (w : World) (K : PySem.W.Frag) (mg : Str → Option Value) (base : Heap) (n : Nat) (nm : Str) (C : Addr) (as ps : List Str) (sp : Sp) : Prop where
  ex : ∃ (f : Addr) (fd : FuncData), Mk K C f ∧ FnOk P w K mg base CX0 n f fd ps sp ∧ Binds K fd ps []
  cls : ClsA K mg nm C as
structure TestsMk (P : Program) (w : World) (K : PySem.W.Frag) (mg : Str → Option Value) (base : Heap) (p : Pkg) : Prop where
  W : Mkr P w K mg base 3 "Was" p.CW ["kind"] ["self", "kind"] (spWasI p.CW)
  O : Mkr P w K mg base 3 "OldBelow" p.CO ["number"] ["self", "number"] (spNumI p.CO)
  B : Mkr P w K mg base 3 "NewBelow" p.CB ["number"] ["self", "number"] (spNumI p.CB)
  N : Mkr P w K mg base 3 "Not" p.CN ["test"] ["self", "test"] (spNotI p)
  M : Mk00 K p.CM
  mM : mg "Moved" = some (.ref p.CM)
  T : Mk00 K p.CT
  mT : mg "Noted" = some (.ref p.CT)
structure RowsMk (P : Program) (w : World) (K : PySem.W.Frag) (mg : Str → Option Value) (base : Heap) (p : Pkg) : Prop where
  mI : Mkr P w K mg base 3 "If" p.CI ["test", "rows", "others"] ["self", "test", "rows", "others"] (spIfI K p)
  mA : Mkr P w K mg base 3 "Add" p.CA ["factor", "what", "total", "place"] ["self", "factor", "what", "total", "place"] (spAddI p.CA)
  mP : Mkr P w K mg base 3 "Put" p.CP ["note", "what"] ["self", "note", "what"] (spPutI p.CP)
  mK : Mkr P w K mg base 3 "Mark" p.CK ["place"] ["self", "place"] (spMarkI p.CK)
theorem ok_testOfAll {p : Pkg} (T : Txt mg) (TM : TestsMk P w K mg base p) (F : DefAt K mg "_law_test_of" s_law_test_of ["_law_test_here"]) : ∀ k : Nat, Has P w K mg base (7 + k) "_law_test_of" ["_law_test_here"] (spTestOf p k) := by
  obtain ⟨fW, dW, m1, g1, b1⟩ := TM.W.ex
  obtain ⟨fO, dO, m2, g2, b2⟩ := TM.O.ex
  obtain ⟨fB, dB, m3, g3, b3⟩ := TM.B.ex
  obtain ⟨fN, dN, m4, g4, b4⟩ := TM.N.ex
  intro k
  induction k with
  | zero =>
    have g0 : Has P w K mg base 6 "_law_test_of" ["_law_test_here"] (spTestOfK p 0) := F.has sc_law_test_of (fun vs H Q E h => h.elim) (fun f cdv A outer s H vs Q E hr h => h.elim)
    exact ok_testOfD (k := 0) (by omega) T TM.W.cls m1 g1 b1 TM.O.cls m2 g2 b2 TM.B.cls m3 g3 b3 TM.N.cls m4 g4 b4 TM.M TM.mM TM.T TM.mT g0 F
  | succ k ih => exact ok_testOfD (k := k + 1) (n := 7 + k) (by omega) T TM.W.cls m1 g1 b1 TM.O.cls m2 g2 b2 TM.B.cls m3 g3 b3 TM.N.cls m4 g4 b4 TM.M TM.mM TM.T TM.mT ih F
theorem ok_rowsOfAll {p : Pkg} (T : Txt mg) (RM : RowsMk P w K mg base p) (g_law_test_of : Has P w K mg base 9 "_law_test_of" ["_law_test_here"] (spTestOf p 2)) (FR : DefAt K mg "_law_row_of" s_law_row_of ["_law_row_here"]) (FS : DefAt K mg "_law_rows_of" s_law_rows_of ["_law_rows_here"]) :
    ∀ k : Nat, Has P w K mg base (11 + 2 * k) "_law_rows_of" ["_law_rows_here"] (spRowsOf K p k) := by
  obtain ⟨fW, dW, m1, g1, b1⟩ := RM.mI.ex
  obtain ⟨fO, dO, m2, g2, b2⟩ := RM.mA.ex
  obtain ⟨fB, dB, m3, g3, b3⟩ := RM.mP.ex
  obtain ⟨fN, dN, m4, g4, b4⟩ := RM.mK.ex
  intro k
  induction k with
  | zero =>
    have g0 : Has P w K mg base 9 "_law_rows_of" ["_law_rows_here"] (spRowsOfK K p 0) := FS.has sc_law_rows_of (fun vs H Q E h => h.elim) (fun f cdv A outer s H vs Q E hr h => h.elim)
    exact ok_rowsOfD (k := 0) (n := 10) (by omega) T (ok_rowOfD (k := 0) (n := 9) (by omega) T RM.mI.cls m1 g1 b1 RM.mA.cls m2 g2 b2 RM.mP.cls m3 g3 b3 RM.mK.cls m4 g4 b4 g_law_test_of g0 FR) FS
  | succ k ih => exact ok_rowsOfD (k := k + 1) (n := 11 + 2 * k + 1) (by omega) T (ok_rowOfD (k := k + 1) (n := 11 + 2 * k) (by omega) T RM.mI.cls m1 g1 b1 RM.mA.cls m2 g2 b2 RM.mP.cls m3 g3 b3 RM.mK.cls m4 g4 b4 g_law_test_of ih FR) FS
end
end K14

set_option pp.maxSteps 60
namespace K14
open PySem L2 PySem.Spec PyProof.Rows
theorem facts {P : Program} {w : World} {K : PySem.W.Frag} {mg : Str → Option Value} {h : Heap} {fa : Addr} (X : K.In h) (G : h.Ns mainGlobals mg) (hfa : mg "law" = some (.ref fa))
    {NN AM XW fWi fWs XO fOi fOs XB fBi fBs XM fMs XT fTs XN fNi fNs XA fAi fAs fAq XP fPi fPs fPq XK fKi fKs fKq XI fIi TI tI fIs fIq XE fEi TE fEs fEq XV fVi TV fVs fVq XH fHi TH tH fHs fHq TS RW f_is_integer f_is_sequence f_is_name f_are_names f_are_origins f_may_bring f_check f_is_kind f_is_what f_are_rows f_block_lines f_law_box f_law_take f_law_pick f_law_mixed f_law_names f_law_number f_law_test f_law_row f_law_rows f_law_event f_law_worth f_law_book f_law_test_text f_law_row_lines f_law_event_text f_law_worth_text f_law_test_of f_law_row_of f_law_rows_of f_law_event_of f_law_worth_of f_law_event_told f_law_worth_told f_law_events_right f_law_worths_right f_law_other f_law : Addr}
    {m0 m1 m2 : Tok} {odA : Option Addr} {nA : Nat} {slA : Array (Option Value)}
    {k0 k1 k2 k3 k4 k5 : Tok} {odN : Option Addr} {nN : Nat} {slN : Array (Option Value)}
    {oc_Was_init kV_Was_init dc_Was_init pm_Was_init cd_Was_init ct_Was_init : Value} {od_Was_init an_Was_init : Option Addr} {sl_Was_init : Array (Option Value)}
    {oc_Was_str kV_Was_str dc_Was_str pm_Was_str cd_Was_str ct_Was_str : Value} {od_Was_str an_Was_str : Option Addr} {sl_Was_str : Array (Option Value)}
    {oc_OldBelow_init kV_OldBelow_init dc_OldBelow_init pm_OldBelow_init cd_OldBelow_init ct_OldBelow_init : Value} {od_OldBelow_init an_OldBelow_init : Option Addr} {sl_OldBelow_init : Array (Option Value)}
    {oc_OldBelow_str kV_OldBelow_str dc_OldBelow_str pm_OldBelow_str cd_OldBelow_str ct_OldBelow_str : Value} {od_OldBelow_str an_OldBelow_str : Option Addr} {sl_OldBelow_str : Array (Option Value)}
    {oc_NewBelow_init kV_NewBelow_init dc_NewBelow_init pm_NewBelow_init cd_NewBelow_init ct_NewBelow_init : Value} {od_NewBelow_init an_NewBelow_init : Option Addr} {sl_NewBelow_init : Array (Option Value)}
    {oc_NewBelow_str kV_NewBelow_str dc_NewBelow_str pm_NewBelow_str cd_NewBelow_str ct_NewBelow_str : Value} {od_NewBelow_str an_NewBelow_str : Option Addr} {sl_NewBelow_str : Array (Option Value)}
    {oc_Moved_str kV_Moved_str dc_Moved_str pm_Moved_str cd_Moved_str ct_Moved_str : Value} {od_Moved_str an_Moved_str : Option Addr} {sl_Moved_str : Array (Option Value)}
    {oc_Noted_str kV_Noted_str dc_Noted_str pm_Noted_str cd_Noted_str ct_Noted_str : Value} {od_Noted_str an_Noted_str : Option Addr} {sl_Noted_str : Array (Option Value)}
    {oc_Not_init kV_Not_init dc_Not_init pm_Not_init cd_Not_init ct_Not_init : Value} {od_Not_init an_Not_init : Option Addr} {sl_Not_init : Array (Option Value)}
    {oc_Not_str kV_Not_str dc_Not_str pm_Not_str cd_Not_str ct_Not_str : Value} {od_Not_str an_Not_str : Option Addr} {sl_Not_str : Array (Option Value)}
    {oc_Add_init kV_Add_init dc_Add_init pm_Add_init cd_Add_init ct_Add_init : Value} {od_Add_init an_Add_init : Option Addr} {sl_Add_init : Array (Option Value)}
    {oc_Add_str kV_Add_str dc_Add_str pm_Add_str cd_Add_str ct_Add_str : Value} {od_Add_str an_Add_str : Option Addr} {sl_Add_str : Array (Option Value)}
    {oc_Add_eq kV_Add_eq dc_Add_eq pm_Add_eq cd_Add_eq ct_Add_eq : Value} {od_Add_eq an_Add_eq : Option Addr} {sl_Add_eq : Array (Option Value)}
    {oc_Put_init kV_Put_init dc_Put_init pm_Put_init cd_Put_init ct_Put_init : Value} {od_Put_init an_Put_init : Option Addr} {sl_Put_init : Array (Option Value)}
    {oc_Put_str kV_Put_str dc_Put_str pm_Put_str cd_Put_str ct_Put_str : Value} {od_Put_str an_Put_str : Option Addr} {sl_Put_str : Array (Option Value)}
    {oc_Put_eq kV_Put_eq dc_Put_eq pm_Put_eq cd_Put_eq ct_Put_eq : Value} {od_Put_eq an_Put_eq : Option Addr} {sl_Put_eq : Array (Option Value)}
    {oc_Mark_init kV_Mark_init dc_Mark_init pm_Mark_init cd_Mark_init ct_Mark_init : Value} {od_Mark_init an_Mark_init : Option Addr} {sl_Mark_init : Array (Option Value)}
    {oc_Mark_str kV_Mark_str dc_Mark_str pm_Mark_str cd_Mark_str ct_Mark_str : Value} {od_Mark_str an_Mark_str : Option Addr} {sl_Mark_str : Array (Option Value)}
    {oc_Mark_eq kV_Mark_eq dc_Mark_eq pm_Mark_eq cd_Mark_eq ct_Mark_eq : Value} {od_Mark_eq an_Mark_eq : Option Addr} {sl_Mark_eq : Array (Option Value)}
    {oc_If_init kV_If_init dc_If_init pm_If_init cd_If_init ct_If_init : Value} {od_If_init an_If_init : Option Addr} {sl_If_init : Array (Option Value)}
    {tcI : Value} {tdI : Option Addr} {tnI : Nat} {tsI : Array (Option Value)}
    {oc_If_str kV_If_str dc_If_str pm_If_str cd_If_str ct_If_str : Value} {od_If_str an_If_str : Option Addr} {sl_If_str : Array (Option Value)}
    {oc_If_eq kV_If_eq dc_If_eq pm_If_eq cd_If_eq ct_If_eq : Value} {od_If_eq an_If_eq : Option Addr} {sl_If_eq : Array (Option Value)}
    {oc_Event_init kV_Event_init dc_Event_init pm_Event_init cd_Event_init ct_Event_init : Value} {od_Event_init an_Event_init : Option Addr} {sl_Event_init : Array (Option Value)}
    {tcE : Value} {tdE : Option Addr} {tnE : Nat} {tsE : Array (Option Value)}
    {oc_Event_str kV_Event_str dc_Event_str pm_Event_str cd_Event_str ct_Event_str : Value} {od_Event_str an_Event_str : Option Addr} {sl_Event_str : Array (Option Value)}
    {oc_Event_eq kV_Event_eq dc_Event_eq pm_Event_eq cd_Event_eq ct_Event_eq : Value} {od_Event_eq an_Event_eq : Option Addr} {sl_Event_eq : Array (Option Value)}
    {oc_Worth_init kV_Worth_init dc_Worth_init pm_Worth_init cd_Worth_init ct_Worth_init : Value} {od_Worth_init an_Worth_init : Option Addr} {sl_Worth_init : Array (Option Value)}
    {tcV : Value} {tdV : Option Addr} {tnV : Nat} {tsV : Array (Option Value)}
    {oc_Worth_str kV_Worth_str dc_Worth_str pm_Worth_str cd_Worth_str ct_Worth_str : Value} {od_Worth_str an_Worth_str : Option Addr} {sl_Worth_str : Array (Option Value)}
    {oc_Worth_eq kV_Worth_eq dc_Worth_eq pm_Worth_eq cd_Worth_eq ct_Worth_eq : Value} {od_Worth_eq an_Worth_eq : Option Addr} {sl_Worth_eq : Array (Option Value)}
    {oc_Handler_init kV_Handler_init dc_Handler_init pm_Handler_init cd_Handler_init ct_Handler_init : Value} {od_Handler_init an_Handler_init : Option Addr} {sl_Handler_init : Array (Option Value)}
    {tcH : Value} {tdH : Option Addr} {tnH : Nat} {tsH : Array (Option Value)}
    {oc_Handler_str kV_Handler_str dc_Handler_str pm_Handler_str cd_Handler_str ct_Handler_str : Value} {od_Handler_str an_Handler_str : Option Addr} {sl_Handler_str : Array (Option Value)}
    {oc_Handler_eq kV_Handler_eq dc_Handler_eq pm_Handler_eq cd_Handler_eq ct_Handler_eq : Value} {od_Handler_eq an_Handler_eq : Option Addr} {sl_Handler_eq : Array (Option Value)}
    {od_tH : Option Addr} {n_tH : Nat} {sl_tH : Array (Option Value)}
    {oc_is_integer kV_is_integer dc_is_integer pm_is_integer cd_is_integer ct_is_integer : Value} {od_is_integer an_is_integer : Option Addr} {sl_is_integer : Array (Option Value)}
    {oc_is_sequence kV_is_sequence dc_is_sequence pm_is_sequence cd_is_sequence ct_is_sequence : Value} {od_is_sequence an_is_sequence : Option Addr} {sl_is_sequence : Array (Option Value)}
    {oc_is_name kV_is_name dc_is_name pm_is_name cd_is_name ct_is_name : Value} {od_is_name an_is_name : Option Addr} {sl_is_name : Array (Option Value)}
    {oc_are_names kV_are_names dc_are_names pm_are_names cd_are_names ct_are_names : Value} {od_are_names an_are_names : Option Addr} {sl_are_names : Array (Option Value)}
    {oc_are_origins kV_are_origins dc_are_origins pm_are_origins cd_are_origins ct_are_origins : Value} {od_are_origins an_are_origins : Option Addr} {sl_are_origins : Array (Option Value)}
    {oc_may_bring kV_may_bring dc_may_bring pm_may_bring cd_may_bring ct_may_bring : Value} {od_may_bring an_may_bring : Option Addr} {sl_may_bring : Array (Option Value)}
    {oc_check kV_check dc_check pm_check cd_check ct_check : Value} {od_check an_check : Option Addr} {sl_check : Array (Option Value)}
    {oc_is_kind kV_is_kind dc_is_kind pm_is_kind cd_is_kind ct_is_kind : Value} {od_is_kind an_is_kind : Option Addr} {sl_is_kind : Array (Option Value)}
    {oc_is_what kV_is_what dc_is_what pm_is_what cd_is_what ct_is_what : Value} {od_is_what an_is_what : Option Addr} {sl_is_what : Array (Option Value)}
    {oc_are_rows kV_are_rows dc_are_rows pm_are_rows cd_are_rows ct_are_rows : Value} {od_are_rows an_are_rows : Option Addr} {sl_are_rows : Array (Option Value)}
    {oc_block_lines kV_block_lines dc_block_lines pm_block_lines cd_block_lines ct_block_lines : Value} {od_block_lines an_block_lines : Option Addr} {sl_block_lines : Array (Option Value)}
    {oc_law_box kV_law_box dc_law_box pm_law_box cd_law_box ct_law_box : Value} {od_law_box an_law_box : Option Addr} {sl_law_box : Array (Option Value)}
    {oc_law_take kV_law_take dc_law_take pm_law_take cd_law_take ct_law_take : Value} {od_law_take an_law_take : Option Addr} {sl_law_take : Array (Option Value)}
    {oc_law_pick kV_law_pick dc_law_pick pm_law_pick cd_law_pick ct_law_pick : Value} {od_law_pick an_law_pick : Option Addr} {sl_law_pick : Array (Option Value)}
    {oc_law_mixed kV_law_mixed dc_law_mixed pm_law_mixed cd_law_mixed ct_law_mixed : Value} {od_law_mixed an_law_mixed : Option Addr} {sl_law_mixed : Array (Option Value)}
    {oc_law_names kV_law_names dc_law_names pm_law_names cd_law_names ct_law_names : Value} {od_law_names an_law_names : Option Addr} {sl_law_names : Array (Option Value)}
    {oc_law_number kV_law_number dc_law_number pm_law_number cd_law_number ct_law_number : Value} {od_law_number an_law_number : Option Addr} {sl_law_number : Array (Option Value)}
    {oc_law_test kV_law_test dc_law_test pm_law_test cd_law_test ct_law_test : Value} {od_law_test an_law_test : Option Addr} {sl_law_test : Array (Option Value)}
    {oc_law_row kV_law_row dc_law_row pm_law_row cd_law_row ct_law_row : Value} {od_law_row an_law_row : Option Addr} {sl_law_row : Array (Option Value)}
    {oc_law_rows kV_law_rows dc_law_rows pm_law_rows cd_law_rows ct_law_rows : Value} {od_law_rows an_law_rows : Option Addr} {sl_law_rows : Array (Option Value)}
    {oc_law_event kV_law_event dc_law_event pm_law_event cd_law_event ct_law_event : Value} {od_law_event an_law_event : Option Addr} {sl_law_event : Array (Option Value)}
    {oc_law_worth kV_law_worth dc_law_worth pm_law_worth cd_law_worth ct_law_worth : Value} {od_law_worth an_law_worth : Option Addr} {sl_law_worth : Array (Option Value)}
    {oc_law_book kV_law_book dc_law_book pm_law_book cd_law_book ct_law_book : Value} {od_law_book an_law_book : Option Addr} {sl_law_book : Array (Option Value)}
    {oc_law_test_text kV_law_test_text dc_law_test_text pm_law_test_text cd_law_test_text ct_law_test_text : Value} {od_law_test_text an_law_test_text : Option Addr} {sl_law_test_text : Array (Option Value)}
    {oc_law_row_lines kV_law_row_lines dc_law_row_lines pm_law_row_lines cd_law_row_lines ct_law_row_lines : Value} {od_law_row_lines an_law_row_lines : Option Addr} {sl_law_row_lines : Array (Option Value)}
    {oc_law_event_text kV_law_event_text dc_law_event_text pm_law_event_text cd_law_event_text ct_law_event_text : Value} {od_law_event_text an_law_event_text : Option Addr} {sl_law_event_text : Array (Option Value)}
    {oc_law_worth_text kV_law_worth_text dc_law_worth_text pm_law_worth_text cd_law_worth_text ct_law_worth_text : Value} {od_law_worth_text an_law_worth_text : Option Addr} {sl_law_worth_text : Array (Option Value)}
    {oc_law_test_of kV_law_test_of dc_law_test_of pm_law_test_of cd_law_test_of ct_law_test_of : Value} {od_law_test_of an_law_test_of : Option Addr} {sl_law_test_of : Array (Option Value)}
    {oc_law_row_of kV_law_row_of dc_law_row_of pm_law_row_of cd_law_row_of ct_law_row_of : Value} {od_law_row_of an_law_row_of : Option Addr} {sl_law_row_of : Array (Option Value)}
    {oc_law_rows_of kV_law_rows_of dc_law_rows_of pm_law_rows_of cd_law_rows_of ct_law_rows_of : Value} {od_law_rows_of an_law_rows_of : Option Addr} {sl_law_rows_of : Array (Option Value)}
    {oc_law_event_of kV_law_event_of dc_law_event_of pm_law_event_of cd_law_event_of ct_law_event_of : Value} {od_law_event_of an_law_event_of : Option Addr} {sl_law_event_of : Array (Option Value)}
    {oc_law_worth_of kV_law_worth_of dc_law_worth_of pm_law_worth_of cd_law_worth_of ct_law_worth_of : Value} {od_law_worth_of an_law_worth_of : Option Addr} {sl_law_worth_of : Array (Option Value)}
    {oc_law_event_told kV_law_event_told dc_law_event_told pm_law_event_told cd_law_event_told ct_law_event_told : Value} {od_law_event_told an_law_event_told : Option Addr} {sl_law_event_told : Array (Option Value)}
    {oc_law_worth_told kV_law_worth_told dc_law_worth_told pm_law_worth_told cd_law_worth_told ct_law_worth_told : Value} {od_law_worth_told an_law_worth_told : Option Addr} {sl_law_worth_told : Array (Option Value)}
    {oc_law_events_right kV_law_events_right dc_law_events_right pm_law_events_right cd_law_events_right ct_law_events_right : Value} {od_law_events_right an_law_events_right : Option Addr} {sl_law_events_right : Array (Option Value)}
    {oc_law_worths_right kV_law_worths_right dc_law_worths_right pm_law_worths_right cd_law_worths_right ct_law_worths_right : Value} {od_law_worths_right an_law_worths_right : Option Addr} {sl_law_worths_right : Array (Option Value)}
    {oc_law_other kV_law_other dc_law_other pm_law_other cd_law_other ct_law_other : Value} {od_law_other an_law_other : Option Addr} {sl_law_other : Array (Option Value)}
    {oc_law kV_law dc_law pm_law cd_law ct_law : Value} {od_law an_law : Option Addr} {sl_law : Array (Option Value)}
    (aAM : PySem.W.nsIn K mainGlobals "AMOUNTS" = some (some (.ref AM)))
    (lAM : K.lookup AM = some ⟨.type "tuple", odA, .seq #[.str "old" m0, .str "new" m1, .str "one" m2] nA, slA⟩)
    (aNN : PySem.W.nsIn K mainGlobals "NO_NAMES" = some (some (.ref NN)))
    (lNN : K.lookup NN = some ⟨.type "tuple", odN, .seq #[.str "none" k0, .str "to" k1, .str "old" k2, .str "new" k3, .str "one" k4, .str "not" k5] nN, slN⟩)
    (aW : PySem.W.nsIn K mainGlobals "Was" = some (some (.ref XW)))
    (pgW : PySem.W.plainGet K XW Str.empty = true)
    (hdW : PySem.W.hasDictIn K XW = true)
    (poW : PySem.W.plainOver K XW = true)
    (saW : PySem.W.findIn K (.ref XW) "__setattr__" = some (some (.builtin "object.__setattr__")))
    (mkW : PySem.W.makesIn K XW = true)
    (kpW : PySem.W.keepIn K (.ref XW) = true)
    (cG : PySem.W.specialIn K (.builtin "object.__class__") "__get__" = some (some (.builtin "getset_descriptor.__get__")))
    (cT : PySem.W.takesIn K (.builtin "object.__class__") = some true)
    (ocW : PySem.W.findIn K (.ref XW) "__class__" = some (some (.builtin "object.__class__")))
    (omW : PySem.W.mroIn K XW (.type "object") = some true)
    (kW_str : PySem.W.kitOne K (.ref XW) (.type "str") = some false)
    (kW_int : PySem.W.kitOne K (.ref XW) (.type "int") = some false)
    (kW_bool : PySem.W.kitOne K (.ref XW) (.type "bool") = some false)
    (kW_list : PySem.W.kitOne K (.ref XW) (.type "list") = some false)
    (kW_tuple : PySem.W.kitOne K (.ref XW) (.type "tuple") = some false)
    (nW0 : PySem.W.findIn K (.ref XW) "kind" = some none)
    (iniW : PySem.W.findIn K (.ref XW) "__init__" = some (some (.ref fWi)))
    (fniW : PySem.W.isFn K (.ref fWi) = true)
    (l_Was_init : K.lookup fWi = some ⟨oc_Was_init, od_Was_init, .func (PySem.W.fnOf "__init__" "Was.__init__" (defArgs s_Was_init) (defBody s_Was_init) (defScope s_Was_init) .none kV_Was_init dc_Was_init pm_Was_init an_Was_init cd_Was_init ct_Was_init), sl_Was_init⟩)
    (c_Was_init : PySem.W.codeIn K cd_Was_init "Was.__init__" = true)
    (k_Was_init : PySem.W.keepIn K (.ref fWi) = true)
    (hsW : PySem.W.findIn K (.ref XW) "__str__" = some (some (.ref fWs)))
    (fsW : PySem.W.isFn K (.ref fWs) = true)
    (fmW : PySem.W.findIn K (.ref XW) "__format__" = some (some (.builtin "object.__format__")))
    (l_Was_str : K.lookup fWs = some ⟨oc_Was_str, od_Was_str, .func (PySem.W.fnOf "__str__" "Was.__str__" (defArgs s_Was_str) (defBody s_Was_str) (defScope s_Was_str) .none kV_Was_str dc_Was_str pm_Was_str an_Was_str cd_Was_str ct_Was_str), sl_Was_str⟩)
    (c_Was_str : PySem.W.codeIn K cd_Was_str "Was.__str__" = true)
    (k_Was_str : PySem.W.keepIn K (.ref fWs) = true)
    (aO : PySem.W.nsIn K mainGlobals "OldBelow" = some (some (.ref XO)))
    (pgO : PySem.W.plainGet K XO Str.empty = true)
    (hdO : PySem.W.hasDictIn K XO = true)
    (poO : PySem.W.plainOver K XO = true)
    (saO : PySem.W.findIn K (.ref XO) "__setattr__" = some (some (.builtin "object.__setattr__")))
    (mkO : PySem.W.makesIn K XO = true)
    (kpO : PySem.W.keepIn K (.ref XO) = true)
    (ocO : PySem.W.findIn K (.ref XO) "__class__" = some (some (.builtin "object.__class__")))
    (omO : PySem.W.mroIn K XO (.type "object") = some true)
    (kO_str : PySem.W.kitOne K (.ref XO) (.type "str") = some false)
    (kO_int : PySem.W.kitOne K (.ref XO) (.type "int") = some false)
    (kO_bool : PySem.W.kitOne K (.ref XO) (.type "bool") = some false)
    (kO_list : PySem.W.kitOne K (.ref XO) (.type "list") = some false)
    (kO_tuple : PySem.W.kitOne K (.ref XO) (.type "tuple") = some false)
    (nO0 : PySem.W.findIn K (.ref XO) "number" = some none)
    (iniO : PySem.W.findIn K (.ref XO) "__init__" = some (some (.ref fOi)))
    (fniO : PySem.W.isFn K (.ref fOi) = true)
    (l_OldBelow_init : K.lookup fOi = some ⟨oc_OldBelow_init, od_OldBelow_init, .func (PySem.W.fnOf "__init__" "OldBelow.__init__" (defArgs s_OldBelow_init) (defBody s_OldBelow_init) (defScope s_OldBelow_init) .none kV_OldBelow_init dc_OldBelow_init pm_OldBelow_init an_OldBelow_init cd_OldBelow_init ct_OldBelow_init), sl_OldBelow_init⟩)
    (c_OldBelow_init : PySem.W.codeIn K cd_OldBelow_init "OldBelow.__init__" = true)
    (k_OldBelow_init : PySem.W.keepIn K (.ref fOi) = true)
    (hsO : PySem.W.findIn K (.ref XO) "__str__" = some (some (.ref fOs)))
    (fsO : PySem.W.isFn K (.ref fOs) = true)
    (fmO : PySem.W.findIn K (.ref XO) "__format__" = some (some (.builtin "object.__format__")))
    (l_OldBelow_str : K.lookup fOs = some ⟨oc_OldBelow_str, od_OldBelow_str, .func (PySem.W.fnOf "__str__" "OldBelow.__str__" (defArgs s_OldBelow_str) (defBody s_OldBelow_str) (defScope s_OldBelow_str) .none kV_OldBelow_str dc_OldBelow_str pm_OldBelow_str an_OldBelow_str cd_OldBelow_str ct_OldBelow_str), sl_OldBelow_str⟩)
    (c_OldBelow_str : PySem.W.codeIn K cd_OldBelow_str "OldBelow.__str__" = true)
    (k_OldBelow_str : PySem.W.keepIn K (.ref fOs) = true)
    (aB : PySem.W.nsIn K mainGlobals "NewBelow" = some (some (.ref XB)))
    (pgB : PySem.W.plainGet K XB Str.empty = true)
    (hdB : PySem.W.hasDictIn K XB = true)
    (poB : PySem.W.plainOver K XB = true)
    (saB : PySem.W.findIn K (.ref XB) "__setattr__" = some (some (.builtin "object.__setattr__")))
    (mkB : PySem.W.makesIn K XB = true)
    (kpB : PySem.W.keepIn K (.ref XB) = true)
    (ocB : PySem.W.findIn K (.ref XB) "__class__" = some (some (.builtin "object.__class__")))
    (omB : PySem.W.mroIn K XB (.type "object") = some true)
    (kB_str : PySem.W.kitOne K (.ref XB) (.type "str") = some false)
    (kB_int : PySem.W.kitOne K (.ref XB) (.type "int") = some false)
    (kB_bool : PySem.W.kitOne K (.ref XB) (.type "bool") = some false)
    (kB_list : PySem.W.kitOne K (.ref XB) (.type "list") = some false)
    (kB_tuple : PySem.W.kitOne K (.ref XB) (.type "tuple") = some false)
    (nB0 : PySem.W.findIn K (.ref XB) "number" = some none)
    (iniB : PySem.W.findIn K (.ref XB) "__init__" = some (some (.ref fBi)))
    (fniB : PySem.W.isFn K (.ref fBi) = true)
    (l_NewBelow_init : K.lookup fBi = some ⟨oc_NewBelow_init, od_NewBelow_init, .func (PySem.W.fnOf "__init__" "NewBelow.__init__" (defArgs s_NewBelow_init) (defBody s_NewBelow_init) (defScope s_NewBelow_init) .none kV_NewBelow_init dc_NewBelow_init pm_NewBelow_init an_NewBelow_init cd_NewBelow_init ct_NewBelow_init), sl_NewBelow_init⟩)
    (c_NewBelow_init : PySem.W.codeIn K cd_NewBelow_init "NewBelow.__init__" = true)
    (k_NewBelow_init : PySem.W.keepIn K (.ref fBi) = true)
    (hsB : PySem.W.findIn K (.ref XB) "__str__" = some (some (.ref fBs)))
    (fsB : PySem.W.isFn K (.ref fBs) = true)
    (fmB : PySem.W.findIn K (.ref XB) "__format__" = some (some (.builtin "object.__format__")))
    (l_NewBelow_str : K.lookup fBs = some ⟨oc_NewBelow_str, od_NewBelow_str, .func (PySem.W.fnOf "__str__" "NewBelow.__str__" (defArgs s_NewBelow_str) (defBody s_NewBelow_str) (defScope s_NewBelow_str) .none kV_NewBelow_str dc_NewBelow_str pm_NewBelow_str an_NewBelow_str cd_NewBelow_str ct_NewBelow_str), sl_NewBelow_str⟩)
    (c_NewBelow_str : PySem.W.codeIn K cd_NewBelow_str "NewBelow.__str__" = true)
    (k_NewBelow_str : PySem.W.keepIn K (.ref fBs) = true)
    (aM : PySem.W.nsIn K mainGlobals "Moved" = some (some (.ref XM)))
    (pgM : PySem.W.plainGet K XM Str.empty = true)
    (hdM : PySem.W.hasDictIn K XM = true)
    (poM : PySem.W.plainOver K XM = true)
    (saM : PySem.W.findIn K (.ref XM) "__setattr__" = some (some (.builtin "object.__setattr__")))
    (mkM : PySem.W.makesIn K XM = true)
    (kpM : PySem.W.keepIn K (.ref XM) = true)
    (ocM : PySem.W.findIn K (.ref XM) "__class__" = some (some (.builtin "object.__class__")))
    (omM : PySem.W.mroIn K XM (.type "object") = some true)
    (kM_str : PySem.W.kitOne K (.ref XM) (.type "str") = some false)
    (kM_int : PySem.W.kitOne K (.ref XM) (.type "int") = some false)
    (kM_bool : PySem.W.kitOne K (.ref XM) (.type "bool") = some false)
    (kM_list : PySem.W.kitOne K (.ref XM) (.type "list") = some false)
    (kM_tuple : PySem.W.kitOne K (.ref XM) (.type "tuple") = some false)
    (iniM : PySem.W.findIn K (.ref XM) "__init__" = some (some (.builtin "object.__init__")))
    (hsM : PySem.W.findIn K (.ref XM) "__str__" = some (some (.ref fMs)))
    (fsM : PySem.W.isFn K (.ref fMs) = true)
    (fmM : PySem.W.findIn K (.ref XM) "__format__" = some (some (.builtin "object.__format__")))
    (l_Moved_str : K.lookup fMs = some ⟨oc_Moved_str, od_Moved_str, .func (PySem.W.fnOf "__str__" "Moved.__str__" (defArgs s_Moved_str) (defBody s_Moved_str) (defScope s_Moved_str) .none kV_Moved_str dc_Moved_str pm_Moved_str an_Moved_str cd_Moved_str ct_Moved_str), sl_Moved_str⟩)
    (c_Moved_str : PySem.W.codeIn K cd_Moved_str "Moved.__str__" = true)
    (k_Moved_str : PySem.W.keepIn K (.ref fMs) = true)
    (aT : PySem.W.nsIn K mainGlobals "Noted" = some (some (.ref XT)))
    (pgT : PySem.W.plainGet K XT Str.empty = true)
    (hdT : PySem.W.hasDictIn K XT = true)
    (poT : PySem.W.plainOver K XT = true)
    (saT : PySem.W.findIn K (.ref XT) "__setattr__" = some (some (.builtin "object.__setattr__")))
    (mkT : PySem.W.makesIn K XT = true)
    (kpT : PySem.W.keepIn K (.ref XT) = true)
    (ocT : PySem.W.findIn K (.ref XT) "__class__" = some (some (.builtin "object.__class__")))
    (omT : PySem.W.mroIn K XT (.type "object") = some true)
    (kT_str : PySem.W.kitOne K (.ref XT) (.type "str") = some false)
    (kT_int : PySem.W.kitOne K (.ref XT) (.type "int") = some false)
    (kT_bool : PySem.W.kitOne K (.ref XT) (.type "bool") = some false)
    (kT_list : PySem.W.kitOne K (.ref XT) (.type "list") = some false)
    (kT_tuple : PySem.W.kitOne K (.ref XT) (.type "tuple") = some false)
    (iniT : PySem.W.findIn K (.ref XT) "__init__" = some (some (.builtin "object.__init__")))
    (hsT : PySem.W.findIn K (.ref XT) "__str__" = some (some (.ref fTs)))
    (fsT : PySem.W.isFn K (.ref fTs) = true)
    (fmT : PySem.W.findIn K (.ref XT) "__format__" = some (some (.builtin "object.__format__")))
    (l_Noted_str : K.lookup fTs = some ⟨oc_Noted_str, od_Noted_str, .func (PySem.W.fnOf "__str__" "Noted.__str__" (defArgs s_Noted_str) (defBody s_Noted_str) (defScope s_Noted_str) .none kV_Noted_str dc_Noted_str pm_Noted_str an_Noted_str cd_Noted_str ct_Noted_str), sl_Noted_str⟩)
    (c_Noted_str : PySem.W.codeIn K cd_Noted_str "Noted.__str__" = true)
    (k_Noted_str : PySem.W.keepIn K (.ref fTs) = true)
    (aN : PySem.W.nsIn K mainGlobals "Not" = some (some (.ref XN)))
    (pgN : PySem.W.plainGet K XN Str.empty = true)
    (hdN : PySem.W.hasDictIn K XN = true)
    (poN : PySem.W.plainOver K XN = true)
    (saN : PySem.W.findIn K (.ref XN) "__setattr__" = some (some (.builtin "object.__setattr__")))
    (mkN : PySem.W.makesIn K XN = true)
    (kpN : PySem.W.keepIn K (.ref XN) = true)
    (ocN : PySem.W.findIn K (.ref XN) "__class__" = some (some (.builtin "object.__class__")))
    (omN : PySem.W.mroIn K XN (.type "object") = some true)
    (kN_str : PySem.W.kitOne K (.ref XN) (.type "str") = some false)
    (kN_int : PySem.W.kitOne K (.ref XN) (.type "int") = some false)
    (kN_bool : PySem.W.kitOne K (.ref XN) (.type "bool") = some false)
    (kN_list : PySem.W.kitOne K (.ref XN) (.type "list") = some false)
    (kN_tuple : PySem.W.kitOne K (.ref XN) (.type "tuple") = some false)
    (nN0 : PySem.W.findIn K (.ref XN) "test" = some none)
    (iniN : PySem.W.findIn K (.ref XN) "__init__" = some (some (.ref fNi)))
    (fniN : PySem.W.isFn K (.ref fNi) = true)
    (l_Not_init : K.lookup fNi = some ⟨oc_Not_init, od_Not_init, .func (PySem.W.fnOf "__init__" "Not.__init__" (defArgs s_Not_init) (defBody s_Not_init) (defScope s_Not_init) .none kV_Not_init dc_Not_init pm_Not_init an_Not_init cd_Not_init ct_Not_init), sl_Not_init⟩)
    (c_Not_init : PySem.W.codeIn K cd_Not_init "Not.__init__" = true)
    (k_Not_init : PySem.W.keepIn K (.ref fNi) = true)
    (hsN : PySem.W.findIn K (.ref XN) "__str__" = some (some (.ref fNs)))
    (fsN : PySem.W.isFn K (.ref fNs) = true)
    (fmN : PySem.W.findIn K (.ref XN) "__format__" = some (some (.builtin "object.__format__")))
    (l_Not_str : K.lookup fNs = some ⟨oc_Not_str, od_Not_str, .func (PySem.W.fnOf "__str__" "Not.__str__" (defArgs s_Not_str) (defBody s_Not_str) (defScope s_Not_str) .none kV_Not_str dc_Not_str pm_Not_str an_Not_str cd_Not_str ct_Not_str), sl_Not_str⟩)
    (c_Not_str : PySem.W.codeIn K cd_Not_str "Not.__str__" = true)
    (k_Not_str : PySem.W.keepIn K (.ref fNs) = true)
    (aA : PySem.W.nsIn K mainGlobals "Add" = some (some (.ref XA)))
    (pgA : PySem.W.plainGet K XA Str.empty = true)
    (hdA : PySem.W.hasDictIn K XA = true)
    (poA : PySem.W.plainOver K XA = true)
    (saA : PySem.W.findIn K (.ref XA) "__setattr__" = some (some (.builtin "object.__setattr__")))
    (mkA : PySem.W.makesIn K XA = true)
    (kpA : PySem.W.keepIn K (.ref XA) = true)
    (ocA : PySem.W.findIn K (.ref XA) "__class__" = some (some (.builtin "object.__class__")))
    (omA : PySem.W.mroIn K XA (.type "object") = some true)
    (kA_str : PySem.W.kitOne K (.ref XA) (.type "str") = some false)
    (kA_int : PySem.W.kitOne K (.ref XA) (.type "int") = some false)
    (kA_bool : PySem.W.kitOne K (.ref XA) (.type "bool") = some false)
    (kA_list : PySem.W.kitOne K (.ref XA) (.type "list") = some false)
    (kA_tuple : PySem.W.kitOne K (.ref XA) (.type "tuple") = some false)
    (nA0 : PySem.W.findIn K (.ref XA) "factor" = some none)
    (nA1 : PySem.W.findIn K (.ref XA) "what" = some none)
    (nA2 : PySem.W.findIn K (.ref XA) "total" = some none)
    (nA3 : PySem.W.findIn K (.ref XA) "place" = some none)
    (iniA : PySem.W.findIn K (.ref XA) "__init__" = some (some (.ref fAi)))
    (fniA : PySem.W.isFn K (.ref fAi) = true)
    (l_Add_init : K.lookup fAi = some ⟨oc_Add_init, od_Add_init, .func (PySem.W.fnOf "__init__" "Add.__init__" (defArgs s_Add_init) (defBody s_Add_init) (defScope s_Add_init) .none kV_Add_init dc_Add_init pm_Add_init an_Add_init cd_Add_init ct_Add_init), sl_Add_init⟩)
    (c_Add_init : PySem.W.codeIn K cd_Add_init "Add.__init__" = true)
    (k_Add_init : PySem.W.keepIn K (.ref fAi) = true)
    (hsA : PySem.W.findIn K (.ref XA) "__str__" = some (some (.ref fAs)))
    (fsA : PySem.W.isFn K (.ref fAs) = true)
    (fmA : PySem.W.findIn K (.ref XA) "__format__" = some (some (.builtin "object.__format__")))
    (l_Add_str : K.lookup fAs = some ⟨oc_Add_str, od_Add_str, .func (PySem.W.fnOf "__str__" "Add.__str__" (defArgs s_Add_str) (defBody s_Add_str) (defScope s_Add_str) .none kV_Add_str dc_Add_str pm_Add_str an_Add_str cd_Add_str ct_Add_str), sl_Add_str⟩)
    (c_Add_str : PySem.W.codeIn K cd_Add_str "Add.__str__" = true)
    (k_Add_str : PySem.W.keepIn K (.ref fAs) = true)
    (heA : PySem.W.findIn K (.ref XA) "__eq__" = some (some (.ref fAq)))
    (feA : PySem.W.isFn K (.ref fAq) = true)
    (sfA : PySem.W.selfFirst K XA = true)
    (neA : PySem.W.findIn K (.ref XA) "__ne__" = some (some (.builtin "object.__ne__")))
    (l_Add_eq : K.lookup fAq = some ⟨oc_Add_eq, od_Add_eq, .func (PySem.W.fnOf "__eq__" "Add.__eq__" (defArgs s_Add_eq) (defBody s_Add_eq) (defScope s_Add_eq) .none kV_Add_eq dc_Add_eq pm_Add_eq an_Add_eq cd_Add_eq ct_Add_eq), sl_Add_eq⟩)
    (c_Add_eq : PySem.W.codeIn K cd_Add_eq "Add.__eq__" = true)
    (k_Add_eq : PySem.W.keepIn K (.ref fAq) = true)
    (ntA : PySem.W.notFirst K XA (.type "tuple") = true)
    (nsA : PySem.W.notFirst K XA (.type "str") = true)
    (ktA : PySem.W.kitOne K (.type "tuple") (.ref XA) = some false)
    (ksA : PySem.W.kitOne K (.type "str") (.ref XA) = some false)
    (kkA : PySem.W.kitOne K (.ref XA) (.ref XA) = some true)
    (aP : PySem.W.nsIn K mainGlobals "Put" = some (some (.ref XP)))
    (pgP : PySem.W.plainGet K XP Str.empty = true)
    (hdP : PySem.W.hasDictIn K XP = true)
    (poP : PySem.W.plainOver K XP = true)
    (saP : PySem.W.findIn K (.ref XP) "__setattr__" = some (some (.builtin "object.__setattr__")))
    (mkP : PySem.W.makesIn K XP = true)
    (kpP : PySem.W.keepIn K (.ref XP) = true)
    (ocP : PySem.W.findIn K (.ref XP) "__class__" = some (some (.builtin "object.__class__")))
    (omP : PySem.W.mroIn K XP (.type "object") = some true)
    (kP_str : PySem.W.kitOne K (.ref XP) (.type "str") = some false)
    (kP_int : PySem.W.kitOne K (.ref XP) (.type "int") = some false)
    (kP_bool : PySem.W.kitOne K (.ref XP) (.type "bool") = some false)
    (kP_list : PySem.W.kitOne K (.ref XP) (.type "list") = some false)
    (kP_tuple : PySem.W.kitOne K (.ref XP) (.type "tuple") = some false)
    (nP0 : PySem.W.findIn K (.ref XP) "note" = some none)
    (nP1 : PySem.W.findIn K (.ref XP) "what" = some none)
    (iniP : PySem.W.findIn K (.ref XP) "__init__" = some (some (.ref fPi)))
    (fniP : PySem.W.isFn K (.ref fPi) = true)
    (l_Put_init : K.lookup fPi = some ⟨oc_Put_init, od_Put_init, .func (PySem.W.fnOf "__init__" "Put.__init__" (defArgs s_Put_init) (defBody s_Put_init) (defScope s_Put_init) .none kV_Put_init dc_Put_init pm_Put_init an_Put_init cd_Put_init ct_Put_init), sl_Put_init⟩)
    (c_Put_init : PySem.W.codeIn K cd_Put_init "Put.__init__" = true)
    (k_Put_init : PySem.W.keepIn K (.ref fPi) = true)
    (hsP : PySem.W.findIn K (.ref XP) "__str__" = some (some (.ref fPs)))
    (fsP : PySem.W.isFn K (.ref fPs) = true)
    (fmP : PySem.W.findIn K (.ref XP) "__format__" = some (some (.builtin "object.__format__")))
    (l_Put_str : K.lookup fPs = some ⟨oc_Put_str, od_Put_str, .func (PySem.W.fnOf "__str__" "Put.__str__" (defArgs s_Put_str) (defBody s_Put_str) (defScope s_Put_str) .none kV_Put_str dc_Put_str pm_Put_str an_Put_str cd_Put_str ct_Put_str), sl_Put_str⟩)
    (c_Put_str : PySem.W.codeIn K cd_Put_str "Put.__str__" = true)
    (k_Put_str : PySem.W.keepIn K (.ref fPs) = true)
    (heP : PySem.W.findIn K (.ref XP) "__eq__" = some (some (.ref fPq)))
    (feP : PySem.W.isFn K (.ref fPq) = true)
    (sfP : PySem.W.selfFirst K XP = true)
    (neP : PySem.W.findIn K (.ref XP) "__ne__" = some (some (.builtin "object.__ne__")))
    (l_Put_eq : K.lookup fPq = some ⟨oc_Put_eq, od_Put_eq, .func (PySem.W.fnOf "__eq__" "Put.__eq__" (defArgs s_Put_eq) (defBody s_Put_eq) (defScope s_Put_eq) .none kV_Put_eq dc_Put_eq pm_Put_eq an_Put_eq cd_Put_eq ct_Put_eq), sl_Put_eq⟩)
    (c_Put_eq : PySem.W.codeIn K cd_Put_eq "Put.__eq__" = true)
    (k_Put_eq : PySem.W.keepIn K (.ref fPq) = true)
    (ntP : PySem.W.notFirst K XP (.type "tuple") = true)
    (nsP : PySem.W.notFirst K XP (.type "str") = true)
    (ktP : PySem.W.kitOne K (.type "tuple") (.ref XP) = some false)
    (ksP : PySem.W.kitOne K (.type "str") (.ref XP) = some false)
    (kkP : PySem.W.kitOne K (.ref XP) (.ref XP) = some true)
    (aK : PySem.W.nsIn K mainGlobals "Mark" = some (some (.ref XK)))
    (pgK : PySem.W.plainGet K XK Str.empty = true)
    (hdK : PySem.W.hasDictIn K XK = true)
    (poK : PySem.W.plainOver K XK = true)
    (saK : PySem.W.findIn K (.ref XK) "__setattr__" = some (some (.builtin "object.__setattr__")))
    (mkK : PySem.W.makesIn K XK = true)
    (kpK : PySem.W.keepIn K (.ref XK) = true)
    (ocK : PySem.W.findIn K (.ref XK) "__class__" = some (some (.builtin "object.__class__")))
    (omK : PySem.W.mroIn K XK (.type "object") = some true)
    (kK_str : PySem.W.kitOne K (.ref XK) (.type "str") = some false)
    (kK_int : PySem.W.kitOne K (.ref XK) (.type "int") = some false)
    (kK_bool : PySem.W.kitOne K (.ref XK) (.type "bool") = some false)
    (kK_list : PySem.W.kitOne K (.ref XK) (.type "list") = some false)
    (kK_tuple : PySem.W.kitOne K (.ref XK) (.type "tuple") = some false)
    (nK0 : PySem.W.findIn K (.ref XK) "place" = some none)
    (iniK : PySem.W.findIn K (.ref XK) "__init__" = some (some (.ref fKi)))
    (fniK : PySem.W.isFn K (.ref fKi) = true)
    (l_Mark_init : K.lookup fKi = some ⟨oc_Mark_init, od_Mark_init, .func (PySem.W.fnOf "__init__" "Mark.__init__" (defArgs s_Mark_init) (defBody s_Mark_init) (defScope s_Mark_init) .none kV_Mark_init dc_Mark_init pm_Mark_init an_Mark_init cd_Mark_init ct_Mark_init), sl_Mark_init⟩)
    (c_Mark_init : PySem.W.codeIn K cd_Mark_init "Mark.__init__" = true)
    (k_Mark_init : PySem.W.keepIn K (.ref fKi) = true)
    (hsK : PySem.W.findIn K (.ref XK) "__str__" = some (some (.ref fKs)))
    (fsK : PySem.W.isFn K (.ref fKs) = true)
    (fmK : PySem.W.findIn K (.ref XK) "__format__" = some (some (.builtin "object.__format__")))
    (l_Mark_str : K.lookup fKs = some ⟨oc_Mark_str, od_Mark_str, .func (PySem.W.fnOf "__str__" "Mark.__str__" (defArgs s_Mark_str) (defBody s_Mark_str) (defScope s_Mark_str) .none kV_Mark_str dc_Mark_str pm_Mark_str an_Mark_str cd_Mark_str ct_Mark_str), sl_Mark_str⟩)
    (c_Mark_str : PySem.W.codeIn K cd_Mark_str "Mark.__str__" = true)
    (k_Mark_str : PySem.W.keepIn K (.ref fKs) = true)
    (heK : PySem.W.findIn K (.ref XK) "__eq__" = some (some (.ref fKq)))
    (feK : PySem.W.isFn K (.ref fKq) = true)
    (sfK : PySem.W.selfFirst K XK = true)
    (neK : PySem.W.findIn K (.ref XK) "__ne__" = some (some (.builtin "object.__ne__")))
    (l_Mark_eq : K.lookup fKq = some ⟨oc_Mark_eq, od_Mark_eq, .func (PySem.W.fnOf "__eq__" "Mark.__eq__" (defArgs s_Mark_eq) (defBody s_Mark_eq) (defScope s_Mark_eq) .none kV_Mark_eq dc_Mark_eq pm_Mark_eq an_Mark_eq cd_Mark_eq ct_Mark_eq), sl_Mark_eq⟩)
    (c_Mark_eq : PySem.W.codeIn K cd_Mark_eq "Mark.__eq__" = true)
    (k_Mark_eq : PySem.W.keepIn K (.ref fKq) = true)
    (ntK : PySem.W.notFirst K XK (.type "tuple") = true)
    (nsK : PySem.W.notFirst K XK (.type "str") = true)
    (ktK : PySem.W.kitOne K (.type "tuple") (.ref XK) = some false)
    (ksK : PySem.W.kitOne K (.type "str") (.ref XK) = some false)
    (kkK : PySem.W.kitOne K (.ref XK) (.ref XK) = some true)
    (aI : PySem.W.nsIn K mainGlobals "If" = some (some (.ref XI)))
    (pgI : PySem.W.plainGet K XI Str.empty = true)
    (hdI : PySem.W.hasDictIn K XI = true)
    (poI : PySem.W.plainOver K XI = true)
    (saI : PySem.W.findIn K (.ref XI) "__setattr__" = some (some (.builtin "object.__setattr__")))
    (mkI : PySem.W.makesIn K XI = true)
    (kpI : PySem.W.keepIn K (.ref XI) = true)
    (ocI : PySem.W.findIn K (.ref XI) "__class__" = some (some (.builtin "object.__class__")))
    (omI : PySem.W.mroIn K XI (.type "object") = some true)
    (kI_str : PySem.W.kitOne K (.ref XI) (.type "str") = some false)
    (kI_int : PySem.W.kitOne K (.ref XI) (.type "int") = some false)
    (kI_bool : PySem.W.kitOne K (.ref XI) (.type "bool") = some false)
    (kI_list : PySem.W.kitOne K (.ref XI) (.type "list") = some false)
    (kI_tuple : PySem.W.kitOne K (.ref XI) (.type "tuple") = some false)
    (nI0 : PySem.W.findIn K (.ref XI) "test" = some none)
    (nI1 : PySem.W.findIn K (.ref XI) "rows" = some none)
    (nI2 : PySem.W.findIn K (.ref XI) "others" = some none)
    (iniI : PySem.W.findIn K (.ref XI) "__init__" = some (some (.ref fIi)))
    (fniI : PySem.W.isFn K (.ref fIi) = true)
    (l_If_init : K.lookup fIi = some ⟨oc_If_init, od_If_init, .func (PySem.W.fnOf "__init__" "If.__init__" (defArgs s_If_init) (defBody s_If_init) (defScope s_If_init) (.ref TI) kV_If_init dc_If_init pm_If_init an_If_init cd_If_init ct_If_init), sl_If_init⟩)
    (c_If_init : PySem.W.codeIn K cd_If_init "If.__init__" = true)
    (k_If_init : PySem.W.keepIn K (.ref fIi) = true)
    (lTI : K.lookup TI = some ⟨tcI, tdI, .seq #[.ref tI] tnI, tsI⟩)
    (hsI : PySem.W.findIn K (.ref XI) "__str__" = some (some (.ref fIs)))
    (fsI : PySem.W.isFn K (.ref fIs) = true)
    (fmI : PySem.W.findIn K (.ref XI) "__format__" = some (some (.builtin "object.__format__")))
    (l_If_str : K.lookup fIs = some ⟨oc_If_str, od_If_str, .func (PySem.W.fnOf "__str__" "If.__str__" (defArgs s_If_str) (defBody s_If_str) (defScope s_If_str) .none kV_If_str dc_If_str pm_If_str an_If_str cd_If_str ct_If_str), sl_If_str⟩)
    (c_If_str : PySem.W.codeIn K cd_If_str "If.__str__" = true)
    (k_If_str : PySem.W.keepIn K (.ref fIs) = true)
    (heI : PySem.W.findIn K (.ref XI) "__eq__" = some (some (.ref fIq)))
    (feI : PySem.W.isFn K (.ref fIq) = true)
    (sfI : PySem.W.selfFirst K XI = true)
    (neI : PySem.W.findIn K (.ref XI) "__ne__" = some (some (.builtin "object.__ne__")))
    (l_If_eq : K.lookup fIq = some ⟨oc_If_eq, od_If_eq, .func (PySem.W.fnOf "__eq__" "If.__eq__" (defArgs s_If_eq) (defBody s_If_eq) (defScope s_If_eq) .none kV_If_eq dc_If_eq pm_If_eq an_If_eq cd_If_eq ct_If_eq), sl_If_eq⟩)
    (c_If_eq : PySem.W.codeIn K cd_If_eq "If.__eq__" = true)
    (k_If_eq : PySem.W.keepIn K (.ref fIq) = true)
    (ntI : PySem.W.notFirst K XI (.type "tuple") = true)
    (nsI : PySem.W.notFirst K XI (.type "str") = true)
    (ktI : PySem.W.kitOne K (.type "tuple") (.ref XI) = some false)
    (ksI : PySem.W.kitOne K (.type "str") (.ref XI) = some false)
    (kkI : PySem.W.kitOne K (.ref XI) (.ref XI) = some true)
    (aE : PySem.W.nsIn K mainGlobals "Event" = some (some (.ref XE)))
    (pgE : PySem.W.plainGet K XE Str.empty = true)
    (hdE : PySem.W.hasDictIn K XE = true)
    (poE : PySem.W.plainOver K XE = true)
    (saE : PySem.W.findIn K (.ref XE) "__setattr__" = some (some (.builtin "object.__setattr__")))
    (mkE : PySem.W.makesIn K XE = true)
    (kpE : PySem.W.keepIn K (.ref XE) = true)
    (ocE : PySem.W.findIn K (.ref XE) "__class__" = some (some (.builtin "object.__class__")))
    (omE : PySem.W.mroIn K XE (.type "object") = some true)
    (kE_str : PySem.W.kitOne K (.ref XE) (.type "str") = some false)
    (kE_int : PySem.W.kitOne K (.ref XE) (.type "int") = some false)
    (kE_bool : PySem.W.kitOne K (.ref XE) (.type "bool") = some false)
    (kE_list : PySem.W.kitOne K (.ref XE) (.type "list") = some false)
    (kE_tuple : PySem.W.kitOne K (.ref XE) (.type "tuple") = some false)
    (nE0 : PySem.W.findIn K (.ref XE) "name" = some none)
    (nE1 : PySem.W.findIn K (.ref XE) "origins" = some none)
    (nE2 : PySem.W.findIn K (.ref XE) "kind" = some none)
    (nE3 : PySem.W.findIn K (.ref XE) "amount" = some none)
    (nE4 : PySem.W.findIn K (.ref XE) "group" = some none)
    (iniE : PySem.W.findIn K (.ref XE) "__init__" = some (some (.ref fEi)))
    (fniE : PySem.W.isFn K (.ref fEi) = true)
    (l_Event_init : K.lookup fEi = some ⟨oc_Event_init, od_Event_init, .func (PySem.W.fnOf "__init__" "Event.__init__" (defArgs s_Event_init) (defBody s_Event_init) (defScope s_Event_init) (.ref TE) kV_Event_init dc_Event_init pm_Event_init an_Event_init cd_Event_init ct_Event_init), sl_Event_init⟩)
    (c_Event_init : PySem.W.codeIn K cd_Event_init "Event.__init__" = true)
    (k_Event_init : PySem.W.keepIn K (.ref fEi) = true)
    (lTE : K.lookup TE = some ⟨tcE, tdE, .seq #[.bool false, .bool false] tnE, tsE⟩)
    (hsE : PySem.W.findIn K (.ref XE) "__str__" = some (some (.ref fEs)))
    (fsE : PySem.W.isFn K (.ref fEs) = true)
    (fmE : PySem.W.findIn K (.ref XE) "__format__" = some (some (.builtin "object.__format__")))
    (l_Event_str : K.lookup fEs = some ⟨oc_Event_str, od_Event_str, .func (PySem.W.fnOf "__str__" "Event.__str__" (defArgs s_Event_str) (defBody s_Event_str) (defScope s_Event_str) .none kV_Event_str dc_Event_str pm_Event_str an_Event_str cd_Event_str ct_Event_str), sl_Event_str⟩)
    (c_Event_str : PySem.W.codeIn K cd_Event_str "Event.__str__" = true)
    (k_Event_str : PySem.W.keepIn K (.ref fEs) = true)
    (heE : PySem.W.findIn K (.ref XE) "__eq__" = some (some (.ref fEq)))
    (feE : PySem.W.isFn K (.ref fEq) = true)
    (sfE : PySem.W.selfFirst K XE = true)
    (neE : PySem.W.findIn K (.ref XE) "__ne__" = some (some (.builtin "object.__ne__")))
    (l_Event_eq : K.lookup fEq = some ⟨oc_Event_eq, od_Event_eq, .func (PySem.W.fnOf "__eq__" "Event.__eq__" (defArgs s_Event_eq) (defBody s_Event_eq) (defScope s_Event_eq) .none kV_Event_eq dc_Event_eq pm_Event_eq an_Event_eq cd_Event_eq ct_Event_eq), sl_Event_eq⟩)
    (c_Event_eq : PySem.W.codeIn K cd_Event_eq "Event.__eq__" = true)
    (k_Event_eq : PySem.W.keepIn K (.ref fEq) = true)
    (ntE : PySem.W.notFirst K XE (.type "tuple") = true)
    (nsE : PySem.W.notFirst K XE (.type "str") = true)
    (ktE : PySem.W.kitOne K (.type "tuple") (.ref XE) = some false)
    (ksE : PySem.W.kitOne K (.type "str") (.ref XE) = some false)
    (kkE : PySem.W.kitOne K (.ref XE) (.ref XE) = some true)
    (aV : PySem.W.nsIn K mainGlobals "Worth" = some (some (.ref XV)))
    (pgV : PySem.W.plainGet K XV Str.empty = true)
    (hdV : PySem.W.hasDictIn K XV = true)
    (poV : PySem.W.plainOver K XV = true)
    (saV : PySem.W.findIn K (.ref XV) "__setattr__" = some (some (.builtin "object.__setattr__")))
    (mkV : PySem.W.makesIn K XV = true)
    (kpV : PySem.W.keepIn K (.ref XV) = true)
    (ocV : PySem.W.findIn K (.ref XV) "__class__" = some (some (.builtin "object.__class__")))
    (omV : PySem.W.mroIn K XV (.type "object") = some true)
    (kV_str : PySem.W.kitOne K (.ref XV) (.type "str") = some false)
    (kV_int : PySem.W.kitOne K (.ref XV) (.type "int") = some false)
    (kV_bool : PySem.W.kitOne K (.ref XV) (.type "bool") = some false)
    (kV_list : PySem.W.kitOne K (.ref XV) (.type "list") = some false)
    (kV_tuple : PySem.W.kitOne K (.ref XV) (.type "tuple") = some false)
    (nV0 : PySem.W.findIn K (.ref XV) "total" = some none)
    (nV1 : PySem.W.findIn K (.ref XV) "kind" = some none)
    (nV2 : PySem.W.findIn K (.ref XV) "factor" = some none)
    (nV3 : PySem.W.findIn K (.ref XV) "what" = some none)
    (nV4 : PySem.W.findIn K (.ref XV) "least" = some none)
    (nV5 : PySem.W.findIn K (.ref XV) "below" = some none)
    (iniV : PySem.W.findIn K (.ref XV) "__init__" = some (some (.ref fVi)))
    (fniV : PySem.W.isFn K (.ref fVi) = true)
    (l_Worth_init : K.lookup fVi = some ⟨oc_Worth_init, od_Worth_init, .func (PySem.W.fnOf "__init__" "Worth.__init__" (defArgs s_Worth_init) (defBody s_Worth_init) (defScope s_Worth_init) (.ref TV) kV_Worth_init dc_Worth_init pm_Worth_init an_Worth_init cd_Worth_init ct_Worth_init), sl_Worth_init⟩)
    (c_Worth_init : PySem.W.codeIn K cd_Worth_init "Worth.__init__" = true)
    (k_Worth_init : PySem.W.keepIn K (.ref fVi) = true)
    (lTV : K.lookup TV = some ⟨tcV, tdV, .seq #[.none, .none] tnV, tsV⟩)
    (hsV : PySem.W.findIn K (.ref XV) "__str__" = some (some (.ref fVs)))
    (fsV : PySem.W.isFn K (.ref fVs) = true)
    (fmV : PySem.W.findIn K (.ref XV) "__format__" = some (some (.builtin "object.__format__")))
    (l_Worth_str : K.lookup fVs = some ⟨oc_Worth_str, od_Worth_str, .func (PySem.W.fnOf "__str__" "Worth.__str__" (defArgs s_Worth_str) (defBody s_Worth_str) (defScope s_Worth_str) .none kV_Worth_str dc_Worth_str pm_Worth_str an_Worth_str cd_Worth_str ct_Worth_str), sl_Worth_str⟩)
    (c_Worth_str : PySem.W.codeIn K cd_Worth_str "Worth.__str__" = true)
    (k_Worth_str : PySem.W.keepIn K (.ref fVs) = true)
    (heV : PySem.W.findIn K (.ref XV) "__eq__" = some (some (.ref fVq)))
    (feV : PySem.W.isFn K (.ref fVq) = true)
    (sfV : PySem.W.selfFirst K XV = true)
    (neV : PySem.W.findIn K (.ref XV) "__ne__" = some (some (.builtin "object.__ne__")))
    (l_Worth_eq : K.lookup fVq = some ⟨oc_Worth_eq, od_Worth_eq, .func (PySem.W.fnOf "__eq__" "Worth.__eq__" (defArgs s_Worth_eq) (defBody s_Worth_eq) (defScope s_Worth_eq) .none kV_Worth_eq dc_Worth_eq pm_Worth_eq an_Worth_eq cd_Worth_eq ct_Worth_eq), sl_Worth_eq⟩)
    (c_Worth_eq : PySem.W.codeIn K cd_Worth_eq "Worth.__eq__" = true)
    (k_Worth_eq : PySem.W.keepIn K (.ref fVq) = true)
    (ntV : PySem.W.notFirst K XV (.type "tuple") = true)
    (nsV : PySem.W.notFirst K XV (.type "str") = true)
    (ktV : PySem.W.kitOne K (.type "tuple") (.ref XV) = some false)
    (ksV : PySem.W.kitOne K (.type "str") (.ref XV) = some false)
    (kkV : PySem.W.kitOne K (.ref XV) (.ref XV) = some true)
    (aH : PySem.W.nsIn K mainGlobals "Handler" = some (some (.ref XH)))
    (pgH : PySem.W.plainGet K XH Str.empty = true)
    (hdH : PySem.W.hasDictIn K XH = true)
    (poH : PySem.W.plainOver K XH = true)
    (saH : PySem.W.findIn K (.ref XH) "__setattr__" = some (some (.builtin "object.__setattr__")))
    (mkH : PySem.W.makesIn K XH = true)
    (kpH : PySem.W.keepIn K (.ref XH) = true)
    (ocH : PySem.W.findIn K (.ref XH) "__class__" = some (some (.builtin "object.__class__")))
    (omH : PySem.W.mroIn K XH (.type "object") = some true)
    (kH_str : PySem.W.kitOne K (.ref XH) (.type "str") = some false)
    (kH_int : PySem.W.kitOne K (.ref XH) (.type "int") = some false)
    (kH_bool : PySem.W.kitOne K (.ref XH) (.type "bool") = some false)
    (kH_list : PySem.W.kitOne K (.ref XH) (.type "list") = some false)
    (kH_tuple : PySem.W.kitOne K (.ref XH) (.type "tuple") = some false)
    (nH0 : PySem.W.findIn K (.ref XH) "event" = some none)
    (nH1 : PySem.W.findIn K (.ref XH) "rows" = some none)
    (iniH : PySem.W.findIn K (.ref XH) "__init__" = some (some (.ref fHi)))
    (fniH : PySem.W.isFn K (.ref fHi) = true)
    (l_Handler_init : K.lookup fHi = some ⟨oc_Handler_init, od_Handler_init, .func (PySem.W.fnOf "__init__" "Handler.__init__" (defArgs s_Handler_init) (defBody s_Handler_init) (defScope s_Handler_init) (.ref TH) kV_Handler_init dc_Handler_init pm_Handler_init an_Handler_init cd_Handler_init ct_Handler_init), sl_Handler_init⟩)
    (c_Handler_init : PySem.W.codeIn K cd_Handler_init "Handler.__init__" = true)
    (k_Handler_init : PySem.W.keepIn K (.ref fHi) = true)
    (lTH : K.lookup TH = some ⟨tcH, tdH, .seq #[.ref tH] tnH, tsH⟩)
    (hsH : PySem.W.findIn K (.ref XH) "__str__" = some (some (.ref fHs)))
    (fsH : PySem.W.isFn K (.ref fHs) = true)
    (fmH : PySem.W.findIn K (.ref XH) "__format__" = some (some (.builtin "object.__format__")))
    (l_Handler_str : K.lookup fHs = some ⟨oc_Handler_str, od_Handler_str, .func (PySem.W.fnOf "__str__" "Handler.__str__" (defArgs s_Handler_str) (defBody s_Handler_str) (defScope s_Handler_str) .none kV_Handler_str dc_Handler_str pm_Handler_str an_Handler_str cd_Handler_str ct_Handler_str), sl_Handler_str⟩)
    (c_Handler_str : PySem.W.codeIn K cd_Handler_str "Handler.__str__" = true)
    (k_Handler_str : PySem.W.keepIn K (.ref fHs) = true)
    (heH : PySem.W.findIn K (.ref XH) "__eq__" = some (some (.ref fHq)))
    (feH : PySem.W.isFn K (.ref fHq) = true)
    (sfH : PySem.W.selfFirst K XH = true)
    (neH : PySem.W.findIn K (.ref XH) "__ne__" = some (some (.builtin "object.__ne__")))
    (l_Handler_eq : K.lookup fHq = some ⟨oc_Handler_eq, od_Handler_eq, .func (PySem.W.fnOf "__eq__" "Handler.__eq__" (defArgs s_Handler_eq) (defBody s_Handler_eq) (defScope s_Handler_eq) .none kV_Handler_eq dc_Handler_eq pm_Handler_eq an_Handler_eq cd_Handler_eq ct_Handler_eq), sl_Handler_eq⟩)
    (c_Handler_eq : PySem.W.codeIn K cd_Handler_eq "Handler.__eq__" = true)
    (k_Handler_eq : PySem.W.keepIn K (.ref fHq) = true)
    (ntH : PySem.W.notFirst K XH (.type "tuple") = true)
    (nsH : PySem.W.notFirst K XH (.type "str") = true)
    (ktH : PySem.W.kitOne K (.type "tuple") (.ref XH) = some false)
    (ksH : PySem.W.kitOne K (.type "str") (.ref XH) = some false)
    (kkH : PySem.W.kitOne K (.ref XH) (.ref XH) = some true)
    (aTS : PySem.W.nsIn K mainGlobals "Test" = some (some (.ref TS)))
    (bTS_W : PySem.W.kitOne K (.ref XW) (.ref TS) = some true)
    (bTS_O : PySem.W.kitOne K (.ref XO) (.ref TS) = some true)
    (bTS_B : PySem.W.kitOne K (.ref XB) (.ref TS) = some true)
    (bTS_M : PySem.W.kitOne K (.ref XM) (.ref TS) = some true)
    (bTS_T : PySem.W.kitOne K (.ref XT) (.ref TS) = some true)
    (bTS_N : PySem.W.kitOne K (.ref XN) (.ref TS) = some true)
    (aRW : PySem.W.nsIn K mainGlobals "Row" = some (some (.ref RW)))
    (bRW_A : PySem.W.kitOne K (.ref XA) (.ref RW) = some true)
    (bRW_P : PySem.W.kitOne K (.ref XP) (.ref RW) = some true)
    (bRW_K : PySem.W.kitOne K (.ref XK) (.ref RW) = some true)
    (bRW_I : PySem.W.kitOne K (.ref XI) (.ref RW) = some true)
    (hU : ([XW, XO, XB, XM, XT, XN, XA, XP, XK, XI] : List Addr).Nodup)
    (l_tH : K.lookup tH = some ⟨.type "tuple", od_tH, .seq #[] n_tH, sl_tH⟩)
    (nEV : PySem.W.notFirst K XE (.ref XV) = true)
    (kVE : PySem.W.kitOne K (.ref XV) (.ref XE) = some false)
    (a_is_integer : PySem.W.nsIn K mainGlobals "is_integer" = some (some (.ref f_is_integer)))
    (l_is_integer : K.lookup f_is_integer = some ⟨oc_is_integer, od_is_integer, .func (PySem.W.fnOf "is_integer" "is_integer" (defArgs s_is_integer) (defBody s_is_integer) (defScope s_is_integer) .none kV_is_integer dc_is_integer pm_is_integer an_is_integer cd_is_integer ct_is_integer), sl_is_integer⟩)
    (c_is_integer : PySem.W.codeIn K cd_is_integer "is_integer" = true)
    (k_is_integer : PySem.W.keepIn K (.ref f_is_integer) = true)
    (a_is_sequence : PySem.W.nsIn K mainGlobals "is_sequence" = some (some (.ref f_is_sequence)))
    (l_is_sequence : K.lookup f_is_sequence = some ⟨oc_is_sequence, od_is_sequence, .func (PySem.W.fnOf "is_sequence" "is_sequence" (defArgs s_is_sequence) (defBody s_is_sequence) (defScope s_is_sequence) .none kV_is_sequence dc_is_sequence pm_is_sequence an_is_sequence cd_is_sequence ct_is_sequence), sl_is_sequence⟩)
    (c_is_sequence : PySem.W.codeIn K cd_is_sequence "is_sequence" = true)
    (k_is_sequence : PySem.W.keepIn K (.ref f_is_sequence) = true)
    (a_is_name : PySem.W.nsIn K mainGlobals "is_name" = some (some (.ref f_is_name)))
    (l_is_name : K.lookup f_is_name = some ⟨oc_is_name, od_is_name, .func (PySem.W.fnOf "is_name" "is_name" (defArgs s_is_name) (defBody s_is_name) (defScope s_is_name) .none kV_is_name dc_is_name pm_is_name an_is_name cd_is_name ct_is_name), sl_is_name⟩)
    (c_is_name : PySem.W.codeIn K cd_is_name "is_name" = true)
    (k_is_name : PySem.W.keepIn K (.ref f_is_name) = true)
    (a_are_names : PySem.W.nsIn K mainGlobals "are_names" = some (some (.ref f_are_names)))
    (l_are_names : K.lookup f_are_names = some ⟨oc_are_names, od_are_names, .func (PySem.W.fnOf "are_names" "are_names" (defArgs s_are_names) (defBody s_are_names) (defScope s_are_names) .none kV_are_names dc_are_names pm_are_names an_are_names cd_are_names ct_are_names), sl_are_names⟩)
    (c_are_names : PySem.W.codeIn K cd_are_names "are_names" = true)
    (k_are_names : PySem.W.keepIn K (.ref f_are_names) = true)
    (a_are_origins : PySem.W.nsIn K mainGlobals "are_origins" = some (some (.ref f_are_origins)))
    (l_are_origins : K.lookup f_are_origins = some ⟨oc_are_origins, od_are_origins, .func (PySem.W.fnOf "are_origins" "are_origins" (defArgs s_are_origins) (defBody s_are_origins) (defScope s_are_origins) .none kV_are_origins dc_are_origins pm_are_origins an_are_origins cd_are_origins ct_are_origins), sl_are_origins⟩)
    (c_are_origins : PySem.W.codeIn K cd_are_origins "are_origins" = true)
    (k_are_origins : PySem.W.keepIn K (.ref f_are_origins) = true)
    (a_may_bring : PySem.W.nsIn K mainGlobals "may_bring" = some (some (.ref f_may_bring)))
    (l_may_bring : K.lookup f_may_bring = some ⟨oc_may_bring, od_may_bring, .func (PySem.W.fnOf "may_bring" "may_bring" (defArgs s_may_bring) (defBody s_may_bring) (defScope s_may_bring) .none kV_may_bring dc_may_bring pm_may_bring an_may_bring cd_may_bring ct_may_bring), sl_may_bring⟩)
    (c_may_bring : PySem.W.codeIn K cd_may_bring "may_bring" = true)
    (k_may_bring : PySem.W.keepIn K (.ref f_may_bring) = true)
    (a_check : PySem.W.nsIn K mainGlobals "check" = some (some (.ref f_check)))
    (l_check : K.lookup f_check = some ⟨oc_check, od_check, .func (PySem.W.fnOf "check" "check" (defArgs s_check) (defBody s_check) (defScope s_check) .none kV_check dc_check pm_check an_check cd_check ct_check), sl_check⟩)
    (c_check : PySem.W.codeIn K cd_check "check" = true)
    (k_check : PySem.W.keepIn K (.ref f_check) = true)
    (a_is_kind : PySem.W.nsIn K mainGlobals "is_kind" = some (some (.ref f_is_kind)))
    (l_is_kind : K.lookup f_is_kind = some ⟨oc_is_kind, od_is_kind, .func (PySem.W.fnOf "is_kind" "is_kind" (defArgs s_is_kind) (defBody s_is_kind) (defScope s_is_kind) .none kV_is_kind dc_is_kind pm_is_kind an_is_kind cd_is_kind ct_is_kind), sl_is_kind⟩)
    (c_is_kind : PySem.W.codeIn K cd_is_kind "is_kind" = true)
    (k_is_kind : PySem.W.keepIn K (.ref f_is_kind) = true)
    (a_is_what : PySem.W.nsIn K mainGlobals "is_what" = some (some (.ref f_is_what)))
    (l_is_what : K.lookup f_is_what = some ⟨oc_is_what, od_is_what, .func (PySem.W.fnOf "is_what" "is_what" (defArgs s_is_what) (defBody s_is_what) (defScope s_is_what) .none kV_is_what dc_is_what pm_is_what an_is_what cd_is_what ct_is_what), sl_is_what⟩)
    (c_is_what : PySem.W.codeIn K cd_is_what "is_what" = true)
    (k_is_what : PySem.W.keepIn K (.ref f_is_what) = true)
    (a_are_rows : PySem.W.nsIn K mainGlobals "are_rows" = some (some (.ref f_are_rows)))
    (l_are_rows : K.lookup f_are_rows = some ⟨oc_are_rows, od_are_rows, .func (PySem.W.fnOf "are_rows" "are_rows" (defArgs s_are_rows) (defBody s_are_rows) (defScope s_are_rows) .none kV_are_rows dc_are_rows pm_are_rows an_are_rows cd_are_rows ct_are_rows), sl_are_rows⟩)
    (c_are_rows : PySem.W.codeIn K cd_are_rows "are_rows" = true)
    (k_are_rows : PySem.W.keepIn K (.ref f_are_rows) = true)
    (a_block_lines : PySem.W.nsIn K mainGlobals "block_lines" = some (some (.ref f_block_lines)))
    (l_block_lines : K.lookup f_block_lines = some ⟨oc_block_lines, od_block_lines, .func (PySem.W.fnOf "block_lines" "block_lines" (defArgs s_block_lines) (defBody s_block_lines) (defScope s_block_lines) .none kV_block_lines dc_block_lines pm_block_lines an_block_lines cd_block_lines ct_block_lines), sl_block_lines⟩)
    (c_block_lines : PySem.W.codeIn K cd_block_lines "block_lines" = true)
    (k_block_lines : PySem.W.keepIn K (.ref f_block_lines) = true)
    (a_law_box : PySem.W.nsIn K mainGlobals "_law_box" = some (some (.ref f_law_box)))
    (l_law_box : K.lookup f_law_box = some ⟨oc_law_box, od_law_box, .func (PySem.W.fnOf "_law_box" "_law_box" (defArgs s_law_box) (defBody s_law_box) (defScope s_law_box) .none kV_law_box dc_law_box pm_law_box an_law_box cd_law_box ct_law_box), sl_law_box⟩)
    (c_law_box : PySem.W.codeIn K cd_law_box "_law_box" = true)
    (k_law_box : PySem.W.keepIn K (.ref f_law_box) = true)
    (a_law_take : PySem.W.nsIn K mainGlobals "_law_take" = some (some (.ref f_law_take)))
    (l_law_take : K.lookup f_law_take = some ⟨oc_law_take, od_law_take, .func (PySem.W.fnOf "_law_take" "_law_take" (defArgs s_law_take) (defBody s_law_take) (defScope s_law_take) .none kV_law_take dc_law_take pm_law_take an_law_take cd_law_take ct_law_take), sl_law_take⟩)
    (c_law_take : PySem.W.codeIn K cd_law_take "_law_take" = true)
    (k_law_take : PySem.W.keepIn K (.ref f_law_take) = true)
    (a_law_pick : PySem.W.nsIn K mainGlobals "_law_pick" = some (some (.ref f_law_pick)))
    (l_law_pick : K.lookup f_law_pick = some ⟨oc_law_pick, od_law_pick, .func (PySem.W.fnOf "_law_pick" "_law_pick" (defArgs s_law_pick) (defBody s_law_pick) (defScope s_law_pick) .none kV_law_pick dc_law_pick pm_law_pick an_law_pick cd_law_pick ct_law_pick), sl_law_pick⟩)
    (c_law_pick : PySem.W.codeIn K cd_law_pick "_law_pick" = true)
    (k_law_pick : PySem.W.keepIn K (.ref f_law_pick) = true)
    (a_law_mixed : PySem.W.nsIn K mainGlobals "_law_mixed" = some (some (.ref f_law_mixed)))
    (l_law_mixed : K.lookup f_law_mixed = some ⟨oc_law_mixed, od_law_mixed, .func (PySem.W.fnOf "_law_mixed" "_law_mixed" (defArgs s_law_mixed) (defBody s_law_mixed) (defScope s_law_mixed) .none kV_law_mixed dc_law_mixed pm_law_mixed an_law_mixed cd_law_mixed ct_law_mixed), sl_law_mixed⟩)
    (c_law_mixed : PySem.W.codeIn K cd_law_mixed "_law_mixed" = true)
    (k_law_mixed : PySem.W.keepIn K (.ref f_law_mixed) = true)
    (a_law_names : PySem.W.nsIn K mainGlobals "_law_names" = some (some (.ref f_law_names)))
    (l_law_names : K.lookup f_law_names = some ⟨oc_law_names, od_law_names, .func (PySem.W.fnOf "_law_names" "_law_names" (defArgs s_law_names) (defBody s_law_names) (defScope s_law_names) .none kV_law_names dc_law_names pm_law_names an_law_names cd_law_names ct_law_names), sl_law_names⟩)
    (c_law_names : PySem.W.codeIn K cd_law_names "_law_names" = true)
    (k_law_names : PySem.W.keepIn K (.ref f_law_names) = true)
    (a_law_number : PySem.W.nsIn K mainGlobals "_law_number" = some (some (.ref f_law_number)))
    (l_law_number : K.lookup f_law_number = some ⟨oc_law_number, od_law_number, .func (PySem.W.fnOf "_law_number" "_law_number" (defArgs s_law_number) (defBody s_law_number) (defScope s_law_number) .none kV_law_number dc_law_number pm_law_number an_law_number cd_law_number ct_law_number), sl_law_number⟩)
    (c_law_number : PySem.W.codeIn K cd_law_number "_law_number" = true)
    (k_law_number : PySem.W.keepIn K (.ref f_law_number) = true)
    (a_law_test : PySem.W.nsIn K mainGlobals "_law_test" = some (some (.ref f_law_test)))
    (l_law_test : K.lookup f_law_test = some ⟨oc_law_test, od_law_test, .func (PySem.W.fnOf "_law_test" "_law_test" (defArgs s_law_test) (defBody s_law_test) (defScope s_law_test) .none kV_law_test dc_law_test pm_law_test an_law_test cd_law_test ct_law_test), sl_law_test⟩)
    (c_law_test : PySem.W.codeIn K cd_law_test "_law_test" = true)
    (k_law_test : PySem.W.keepIn K (.ref f_law_test) = true)
    (a_law_row : PySem.W.nsIn K mainGlobals "_law_row" = some (some (.ref f_law_row)))
    (l_law_row : K.lookup f_law_row = some ⟨oc_law_row, od_law_row, .func (PySem.W.fnOf "_law_row" "_law_row" (defArgs s_law_row) (defBody s_law_row) (defScope s_law_row) .none kV_law_row dc_law_row pm_law_row an_law_row cd_law_row ct_law_row), sl_law_row⟩)
    (c_law_row : PySem.W.codeIn K cd_law_row "_law_row" = true)
    (k_law_row : PySem.W.keepIn K (.ref f_law_row) = true)
    (a_law_rows : PySem.W.nsIn K mainGlobals "_law_rows" = some (some (.ref f_law_rows)))
    (l_law_rows : K.lookup f_law_rows = some ⟨oc_law_rows, od_law_rows, .func (PySem.W.fnOf "_law_rows" "_law_rows" (defArgs s_law_rows) (defBody s_law_rows) (defScope s_law_rows) .none kV_law_rows dc_law_rows pm_law_rows an_law_rows cd_law_rows ct_law_rows), sl_law_rows⟩)
    (c_law_rows : PySem.W.codeIn K cd_law_rows "_law_rows" = true)
    (k_law_rows : PySem.W.keepIn K (.ref f_law_rows) = true)
    (a_law_event : PySem.W.nsIn K mainGlobals "_law_event" = some (some (.ref f_law_event)))
    (l_law_event : K.lookup f_law_event = some ⟨oc_law_event, od_law_event, .func (PySem.W.fnOf "_law_event" "_law_event" (defArgs s_law_event) (defBody s_law_event) (defScope s_law_event) .none kV_law_event dc_law_event pm_law_event an_law_event cd_law_event ct_law_event), sl_law_event⟩)
    (c_law_event : PySem.W.codeIn K cd_law_event "_law_event" = true)
    (k_law_event : PySem.W.keepIn K (.ref f_law_event) = true)
    (a_law_worth : PySem.W.nsIn K mainGlobals "_law_worth" = some (some (.ref f_law_worth)))
    (l_law_worth : K.lookup f_law_worth = some ⟨oc_law_worth, od_law_worth, .func (PySem.W.fnOf "_law_worth" "_law_worth" (defArgs s_law_worth) (defBody s_law_worth) (defScope s_law_worth) .none kV_law_worth dc_law_worth pm_law_worth an_law_worth cd_law_worth ct_law_worth), sl_law_worth⟩)
    (c_law_worth : PySem.W.codeIn K cd_law_worth "_law_worth" = true)
    (k_law_worth : PySem.W.keepIn K (.ref f_law_worth) = true)
    (a_law_book : PySem.W.nsIn K mainGlobals "_law_book" = some (some (.ref f_law_book)))
    (l_law_book : K.lookup f_law_book = some ⟨oc_law_book, od_law_book, .func (PySem.W.fnOf "_law_book" "_law_book" (defArgs s_law_book) (defBody s_law_book) (defScope s_law_book) .none kV_law_book dc_law_book pm_law_book an_law_book cd_law_book ct_law_book), sl_law_book⟩)
    (c_law_book : PySem.W.codeIn K cd_law_book "_law_book" = true)
    (k_law_book : PySem.W.keepIn K (.ref f_law_book) = true)
    (a_law_test_text : PySem.W.nsIn K mainGlobals "_law_test_text" = some (some (.ref f_law_test_text)))
    (l_law_test_text : K.lookup f_law_test_text = some ⟨oc_law_test_text, od_law_test_text, .func (PySem.W.fnOf "_law_test_text" "_law_test_text" (defArgs s_law_test_text) (defBody s_law_test_text) (defScope s_law_test_text) .none kV_law_test_text dc_law_test_text pm_law_test_text an_law_test_text cd_law_test_text ct_law_test_text), sl_law_test_text⟩)
    (c_law_test_text : PySem.W.codeIn K cd_law_test_text "_law_test_text" = true)
    (k_law_test_text : PySem.W.keepIn K (.ref f_law_test_text) = true)
    (a_law_row_lines : PySem.W.nsIn K mainGlobals "_law_row_lines" = some (some (.ref f_law_row_lines)))
    (l_law_row_lines : K.lookup f_law_row_lines = some ⟨oc_law_row_lines, od_law_row_lines, .func (PySem.W.fnOf "_law_row_lines" "_law_row_lines" (defArgs s_law_row_lines) (defBody s_law_row_lines) (defScope s_law_row_lines) .none kV_law_row_lines dc_law_row_lines pm_law_row_lines an_law_row_lines cd_law_row_lines ct_law_row_lines), sl_law_row_lines⟩)
    (c_law_row_lines : PySem.W.codeIn K cd_law_row_lines "_law_row_lines" = true)
    (k_law_row_lines : PySem.W.keepIn K (.ref f_law_row_lines) = true)
    (a_law_event_text : PySem.W.nsIn K mainGlobals "_law_event_text" = some (some (.ref f_law_event_text)))
    (l_law_event_text : K.lookup f_law_event_text = some ⟨oc_law_event_text, od_law_event_text, .func (PySem.W.fnOf "_law_event_text" "_law_event_text" (defArgs s_law_event_text) (defBody s_law_event_text) (defScope s_law_event_text) .none kV_law_event_text dc_law_event_text pm_law_event_text an_law_event_text cd_law_event_text ct_law_event_text), sl_law_event_text⟩)
    (c_law_event_text : PySem.W.codeIn K cd_law_event_text "_law_event_text" = true)
    (k_law_event_text : PySem.W.keepIn K (.ref f_law_event_text) = true)
    (a_law_worth_text : PySem.W.nsIn K mainGlobals "_law_worth_text" = some (some (.ref f_law_worth_text)))
    (l_law_worth_text : K.lookup f_law_worth_text = some ⟨oc_law_worth_text, od_law_worth_text, .func (PySem.W.fnOf "_law_worth_text" "_law_worth_text" (defArgs s_law_worth_text) (defBody s_law_worth_text) (defScope s_law_worth_text) .none kV_law_worth_text dc_law_worth_text pm_law_worth_text an_law_worth_text cd_law_worth_text ct_law_worth_text), sl_law_worth_text⟩)
    (c_law_worth_text : PySem.W.codeIn K cd_law_worth_text "_law_worth_text" = true)
    (k_law_worth_text : PySem.W.keepIn K (.ref f_law_worth_text) = true)
    (a_law_test_of : PySem.W.nsIn K mainGlobals "_law_test_of" = some (some (.ref f_law_test_of)))
    (l_law_test_of : K.lookup f_law_test_of = some ⟨oc_law_test_of, od_law_test_of, .func (PySem.W.fnOf "_law_test_of" "_law_test_of" (defArgs s_law_test_of) (defBody s_law_test_of) (defScope s_law_test_of) .none kV_law_test_of dc_law_test_of pm_law_test_of an_law_test_of cd_law_test_of ct_law_test_of), sl_law_test_of⟩)
    (c_law_test_of : PySem.W.codeIn K cd_law_test_of "_law_test_of" = true)
    (k_law_test_of : PySem.W.keepIn K (.ref f_law_test_of) = true)
    (a_law_row_of : PySem.W.nsIn K mainGlobals "_law_row_of" = some (some (.ref f_law_row_of)))
    (l_law_row_of : K.lookup f_law_row_of = some ⟨oc_law_row_of, od_law_row_of, .func (PySem.W.fnOf "_law_row_of" "_law_row_of" (defArgs s_law_row_of) (defBody s_law_row_of) (defScope s_law_row_of) .none kV_law_row_of dc_law_row_of pm_law_row_of an_law_row_of cd_law_row_of ct_law_row_of), sl_law_row_of⟩)
    (c_law_row_of : PySem.W.codeIn K cd_law_row_of "_law_row_of" = true)
    (k_law_row_of : PySem.W.keepIn K (.ref f_law_row_of) = true)
    (a_law_rows_of : PySem.W.nsIn K mainGlobals "_law_rows_of" = some (some (.ref f_law_rows_of)))
    (l_law_rows_of : K.lookup f_law_rows_of = some ⟨oc_law_rows_of, od_law_rows_of, .func (PySem.W.fnOf "_law_rows_of" "_law_rows_of" (defArgs s_law_rows_of) (defBody s_law_rows_of) (defScope s_law_rows_of) .none kV_law_rows_of dc_law_rows_of pm_law_rows_of an_law_rows_of cd_law_rows_of ct_law_rows_of), sl_law_rows_of⟩)
    (c_law_rows_of : PySem.W.codeIn K cd_law_rows_of "_law_rows_of" = true)
    (k_law_rows_of : PySem.W.keepIn K (.ref f_law_rows_of) = true)
    (a_law_event_of : PySem.W.nsIn K mainGlobals "_law_event_of" = some (some (.ref f_law_event_of)))
    (l_law_event_of : K.lookup f_law_event_of = some ⟨oc_law_event_of, od_law_event_of, .func (PySem.W.fnOf "_law_event_of" "_law_event_of" (defArgs s_law_event_of) (defBody s_law_event_of) (defScope s_law_event_of) .none kV_law_event_of dc_law_event_of pm_law_event_of an_law_event_of cd_law_event_of ct_law_event_of), sl_law_event_of⟩)
    (c_law_event_of : PySem.W.codeIn K cd_law_event_of "_law_event_of" = true)
    (k_law_event_of : PySem.W.keepIn K (.ref f_law_event_of) = true)
    (a_law_worth_of : PySem.W.nsIn K mainGlobals "_law_worth_of" = some (some (.ref f_law_worth_of)))
    (l_law_worth_of : K.lookup f_law_worth_of = some ⟨oc_law_worth_of, od_law_worth_of, .func (PySem.W.fnOf "_law_worth_of" "_law_worth_of" (defArgs s_law_worth_of) (defBody s_law_worth_of) (defScope s_law_worth_of) .none kV_law_worth_of dc_law_worth_of pm_law_worth_of an_law_worth_of cd_law_worth_of ct_law_worth_of), sl_law_worth_of⟩)
    (c_law_worth_of : PySem.W.codeIn K cd_law_worth_of "_law_worth_of" = true)
    (k_law_worth_of : PySem.W.keepIn K (.ref f_law_worth_of) = true)
    (a_law_event_told : PySem.W.nsIn K mainGlobals "_law_event_told" = some (some (.ref f_law_event_told)))
    (l_law_event_told : K.lookup f_law_event_told = some ⟨oc_law_event_told, od_law_event_told, .func (PySem.W.fnOf "_law_event_told" "_law_event_told" (defArgs s_law_event_told) (defBody s_law_event_told) (defScope s_law_event_told) .none kV_law_event_told dc_law_event_told pm_law_event_told an_law_event_told cd_law_event_told ct_law_event_told), sl_law_event_told⟩)
    (c_law_event_told : PySem.W.codeIn K cd_law_event_told "_law_event_told" = true)
    (k_law_event_told : PySem.W.keepIn K (.ref f_law_event_told) = true)
    (a_law_worth_told : PySem.W.nsIn K mainGlobals "_law_worth_told" = some (some (.ref f_law_worth_told)))
    (l_law_worth_told : K.lookup f_law_worth_told = some ⟨oc_law_worth_told, od_law_worth_told, .func (PySem.W.fnOf "_law_worth_told" "_law_worth_told" (defArgs s_law_worth_told) (defBody s_law_worth_told) (defScope s_law_worth_told) .none kV_law_worth_told dc_law_worth_told pm_law_worth_told an_law_worth_told cd_law_worth_told ct_law_worth_told), sl_law_worth_told⟩)
    (c_law_worth_told : PySem.W.codeIn K cd_law_worth_told "_law_worth_told" = true)
    (k_law_worth_told : PySem.W.keepIn K (.ref f_law_worth_told) = true)
    (a_law_events_right : PySem.W.nsIn K mainGlobals "_law_events_right" = some (some (.ref f_law_events_right)))
    (l_law_events_right : K.lookup f_law_events_right = some ⟨oc_law_events_right, od_law_events_right, .func (PySem.W.fnOf "_law_events_right" "_law_events_right" (defArgs s_law_events_right) (defBody s_law_events_right) (defScope s_law_events_right) .none kV_law_events_right dc_law_events_right pm_law_events_right an_law_events_right cd_law_events_right ct_law_events_right), sl_law_events_right⟩)
    (c_law_events_right : PySem.W.codeIn K cd_law_events_right "_law_events_right" = true)
    (k_law_events_right : PySem.W.keepIn K (.ref f_law_events_right) = true)
    (a_law_worths_right : PySem.W.nsIn K mainGlobals "_law_worths_right" = some (some (.ref f_law_worths_right)))
    (l_law_worths_right : K.lookup f_law_worths_right = some ⟨oc_law_worths_right, od_law_worths_right, .func (PySem.W.fnOf "_law_worths_right" "_law_worths_right" (defArgs s_law_worths_right) (defBody s_law_worths_right) (defScope s_law_worths_right) .none kV_law_worths_right dc_law_worths_right pm_law_worths_right an_law_worths_right cd_law_worths_right ct_law_worths_right), sl_law_worths_right⟩)
    (c_law_worths_right : PySem.W.codeIn K cd_law_worths_right "_law_worths_right" = true)
    (k_law_worths_right : PySem.W.keepIn K (.ref f_law_worths_right) = true)
    (a_law_other : PySem.W.nsIn K mainGlobals "_law_other" = some (some (.ref f_law_other)))
    (l_law_other : K.lookup f_law_other = some ⟨oc_law_other, od_law_other, .func (PySem.W.fnOf "_law_other" "_law_other" (defArgs s_law_other) (defBody s_law_other) (defScope s_law_other) .none kV_law_other dc_law_other pm_law_other an_law_other cd_law_other ct_law_other), sl_law_other⟩)
    (c_law_other : PySem.W.codeIn K cd_law_other "_law_other" = true)
    (k_law_other : PySem.W.keepIn K (.ref f_law_other) = true)
    (a_law : PySem.W.nsIn K mainGlobals "law" = some (some (.ref f_law)))
    (l_law : K.lookup f_law = some ⟨oc_law, od_law, .func (PySem.W.fnOf "law" "law" (defArgs s_law) (defBody s_law) (defScope s_law) .none kV_law dc_law pm_law an_law cd_law ct_law), sl_law⟩)
    (c_law : PySem.W.codeIn K cd_law "law" = true)
    (k_law : PySem.W.keepIn K (.ref f_law) = true)
    (z_len : PySem.W.nsIn K mainGlobals "len" = some none)
    (z_abs : PySem.W.nsIn K mainGlobals "abs" = some none)
    (z_int : PySem.W.nsIn K mainGlobals "int" = some none)
    (z_max : PySem.W.nsIn K mainGlobals "max" = some none)
    (z_min : PySem.W.nsIn K mainGlobals "min" = some none)
    (z_range : PySem.W.nsIn K mainGlobals "range" = some none)
    (z_enumerate : PySem.W.nsIn K mainGlobals "enumerate" = some none)
    (z_isinstance : PySem.W.nsIn K mainGlobals "isinstance" = some none)
    (z_repr : PySem.W.nsIn K mainGlobals "repr" = some none)
    (z_zip : PySem.W.nsIn K mainGlobals "zip" = some none)
    (z_sum : PySem.W.nsIn K mainGlobals "sum" = some none)
    (z_all : PySem.W.nsIn K mainGlobals "all" = some none)
    (z_tuple : PySem.W.nsIn K mainGlobals "tuple" = some none)
    (z_list : PySem.W.nsIn K mainGlobals "list" = some none)
    (z_bool : PySem.W.nsIn K mainGlobals "bool" = some none)
    (z_sorted : PySem.W.nsIn K mainGlobals "sorted" = some none)
    (z_dict : PySem.W.nsIn K mainGlobals "dict" = some none)
    (z_str : PySem.W.nsIn K mainGlobals "str" = some none)
    (z_set : PySem.W.nsIn K mainGlobals "set" = some none)
    : ∀ base : Heap, K.In base → base.Ns mainGlobals mg → LawOk P w K mg base 36 fa (spLaw15 K) := by
  intro base _ _
  cases hfa.symm.trans (PySem.W.mg_of X G a_law)
  have T : Txt mg := ⟨PySem.W.mg_none_of X G z_len, PySem.W.mg_none_of X G z_abs, PySem.W.mg_none_of X G z_int, PySem.W.mg_none_of X G z_max, PySem.W.mg_none_of X G z_min, PySem.W.mg_none_of X G z_range, PySem.W.mg_none_of X G z_enumerate, PySem.W.mg_none_of X G z_isinstance, PySem.W.mg_none_of X G z_repr, PySem.W.mg_none_of X G z_zip, PySem.W.mg_none_of X G z_sum, PySem.W.mg_none_of X G z_all, PySem.W.mg_none_of X G z_tuple, PySem.W.mg_none_of X G z_list, PySem.W.mg_none_of X G z_bool, PySem.W.mg_none_of X G z_sorted, PySem.W.mg_none_of X G z_dict, PySem.W.mg_none_of X G z_str, PySem.W.mg_none_of X G z_set⟩
  have tAM : ∀ H, SqT K H AM (amtL.map V.str) := fun H => .inr ⟨_, _, _, lAM, rfl, rfl, (by show 3 ≤ sizeLine; decide), .cons ⟨_, rfl⟩ (.cons ⟨_, rfl⟩ (.cons ⟨_, rfl⟩ .nil))⟩
  have tNN : ∀ H, SqT K H NN (noNames.map V.str) := fun H => .inr ⟨_, _, _, lNN, rfl, rfl, (by show 6 ≤ sizeLine; decide), .cons ⟨_, rfl⟩ (.cons ⟨_, rfl⟩ (.cons ⟨_, rfl⟩ (.cons ⟨_, rfl⟩ (.cons ⟨_, rfl⟩ (.cons ⟨_, rfl⟩ .nil)))))⟩
  have clsW : Cls K XW := ⟨pgW, hdW, poW, saW⟩
  have OW : ObjK K XW := ⟨clsW, ocW, cG, cT, omW, kW_str, kW_int, kW_bool, kW_list, kW_tuple⟩
  have CW : ClsA K mg "Was" XW ["kind"] := ⟨clsW, fun a ha => by
    simp only [List.mem_cons, List.not_mem_nil, or_false] at ha
    rcases ha with rfl
    · exact nW0
    , PySem.W.mg_of X G aW⟩
  have MW : Mk K XW fWi := ⟨mkW, iniW, fniW, kpW⟩
  have FW : FunD K "__init__" "Was.__init__" (defArgs s_Was_init) (defBody s_Was_init) (defScope s_Was_init) [] [] fWi _ := ⟨⟨_, _, _, _, _, _, _, _, _, _, rfl, l_Was_init, c_Was_init, .inl ⟨rfl, rfl⟩, .inl rfl⟩, k_Was_init⟩
  have bW := FW.bindsN (ps := ["self", "kind"]) (fun _ _ _ _ _ _ us hl => match us, hl with | [_, _], _ => rfl)
  have DSW := fun_mk (st := s_Was_str) l_Was_str c_Was_str k_Was_str
  have bSW := DSW.binds (ps := ["self"]) (fun _ _ _ _ _ _ us hl => match us, hl with | [_], _ => rfl)
  have SW : StrCls K XW fWs _ := ⟨hsW, fsW, fmW, omW, bSW⟩
  have clsO : Cls K XO := ⟨pgO, hdO, poO, saO⟩
  have OO : ObjK K XO := ⟨clsO, ocO, cG, cT, omO, kO_str, kO_int, kO_bool, kO_list, kO_tuple⟩
  have CO : ClsA K mg "OldBelow" XO ["number"] := ⟨clsO, fun a ha => by
    simp only [List.mem_cons, List.not_mem_nil, or_false] at ha
    rcases ha with rfl
    · exact nO0
    , PySem.W.mg_of X G aO⟩
  have MO : Mk K XO fOi := ⟨mkO, iniO, fniO, kpO⟩
  have FO : FunD K "__init__" "OldBelow.__init__" (defArgs s_OldBelow_init) (defBody s_OldBelow_init) (defScope s_OldBelow_init) [] [] fOi _ := ⟨⟨_, _, _, _, _, _, _, _, _, _, rfl, l_OldBelow_init, c_OldBelow_init, .inl ⟨rfl, rfl⟩, .inl rfl⟩, k_OldBelow_init⟩
  have bO := FO.bindsN (ps := ["self", "number"]) (fun _ _ _ _ _ _ us hl => match us, hl with | [_, _], _ => rfl)
  have DSO := fun_mk (st := s_OldBelow_str) l_OldBelow_str c_OldBelow_str k_OldBelow_str
  have bSO := DSO.binds (ps := ["self"]) (fun _ _ _ _ _ _ us hl => match us, hl with | [_], _ => rfl)
  have SO : StrCls K XO fOs _ := ⟨hsO, fsO, fmO, omO, bSO⟩
  have clsB : Cls K XB := ⟨pgB, hdB, poB, saB⟩
  have OB : ObjK K XB := ⟨clsB, ocB, cG, cT, omB, kB_str, kB_int, kB_bool, kB_list, kB_tuple⟩
  have CB : ClsA K mg "NewBelow" XB ["number"] := ⟨clsB, fun a ha => by
    simp only [List.mem_cons, List.not_mem_nil, or_false] at ha
    rcases ha with rfl
    · exact nB0
    , PySem.W.mg_of X G aB⟩
  have MB : Mk K XB fBi := ⟨mkB, iniB, fniB, kpB⟩
  have FB : FunD K "__init__" "NewBelow.__init__" (defArgs s_NewBelow_init) (defBody s_NewBelow_init) (defScope s_NewBelow_init) [] [] fBi _ := ⟨⟨_, _, _, _, _, _, _, _, _, _, rfl, l_NewBelow_init, c_NewBelow_init, .inl ⟨rfl, rfl⟩, .inl rfl⟩, k_NewBelow_init⟩
  have bB := FB.bindsN (ps := ["self", "number"]) (fun _ _ _ _ _ _ us hl => match us, hl with | [_, _], _ => rfl)
  have DSB := fun_mk (st := s_NewBelow_str) l_NewBelow_str c_NewBelow_str k_NewBelow_str
  have bSB := DSB.binds (ps := ["self"]) (fun _ _ _ _ _ _ us hl => match us, hl with | [_], _ => rfl)
  have SB : StrCls K XB fBs _ := ⟨hsB, fsB, fmB, omB, bSB⟩
  have clsM : Cls K XM := ⟨pgM, hdM, poM, saM⟩
  have OM : ObjK K XM := ⟨clsM, ocM, cG, cT, omM, kM_str, kM_int, kM_bool, kM_list, kM_tuple⟩
  have CM : ClsA K mg "Moved" XM [] := ⟨clsM, (fun a ha => by cases ha), PySem.W.mg_of X G aM⟩
  have MM : Mk00 K XM := ⟨mkM, iniM, kpM⟩
  have DSM := fun_mk (st := s_Moved_str) l_Moved_str c_Moved_str k_Moved_str
  have bSM := DSM.binds (ps := ["self"]) (fun _ _ _ _ _ _ us hl => match us, hl with | [_], _ => rfl)
  have SM : StrCls K XM fMs _ := ⟨hsM, fsM, fmM, omM, bSM⟩
  have clsT : Cls K XT := ⟨pgT, hdT, poT, saT⟩
  have OT : ObjK K XT := ⟨clsT, ocT, cG, cT, omT, kT_str, kT_int, kT_bool, kT_list, kT_tuple⟩
  have CT : ClsA K mg "Noted" XT [] := ⟨clsT, (fun a ha => by cases ha), PySem.W.mg_of X G aT⟩
  have MT : Mk00 K XT := ⟨mkT, iniT, kpT⟩
  have DST := fun_mk (st := s_Noted_str) l_Noted_str c_Noted_str k_Noted_str
  have bST := DST.binds (ps := ["self"]) (fun _ _ _ _ _ _ us hl => match us, hl with | [_], _ => rfl)
  have ST : StrCls K XT fTs _ := ⟨hsT, fsT, fmT, omT, bST⟩
  have clsN : Cls K XN := ⟨pgN, hdN, poN, saN⟩
  have ON : ObjK K XN := ⟨clsN, ocN, cG, cT, omN, kN_str, kN_int, kN_bool, kN_list, kN_tuple⟩
  have CN : ClsA K mg "Not" XN ["test"] := ⟨clsN, fun a ha => by
    simp only [List.mem_cons, List.not_mem_nil, or_false] at ha
    rcases ha with rfl
    · exact nN0
    , PySem.W.mg_of X G aN⟩
  have MN : Mk K XN fNi := ⟨mkN, iniN, fniN, kpN⟩
  have FN : FunD K "__init__" "Not.__init__" (defArgs s_Not_init) (defBody s_Not_init) (defScope s_Not_init) [] [] fNi _ := ⟨⟨_, _, _, _, _, _, _, _, _, _, rfl, l_Not_init, c_Not_init, .inl ⟨rfl, rfl⟩, .inl rfl⟩, k_Not_init⟩
  have bN := FN.bindsN (ps := ["self", "test"]) (fun _ _ _ _ _ _ us hl => match us, hl with | [_, _], _ => rfl)
  have DSN := fun_mk (st := s_Not_str) l_Not_str c_Not_str k_Not_str
  have bSN := DSN.binds (ps := ["self"]) (fun _ _ _ _ _ _ us hl => match us, hl with | [_], _ => rfl)
  have SN : StrCls K XN fNs _ := ⟨hsN, fsN, fmN, omN, bSN⟩
  have clsA : Cls K XA := ⟨pgA, hdA, poA, saA⟩
  have OA : ObjK K XA := ⟨clsA, ocA, cG, cT, omA, kA_str, kA_int, kA_bool, kA_list, kA_tuple⟩
  have CA : ClsA K mg "Add" XA ["factor", "what", "total", "place"] := ⟨clsA, fun a ha => by
    simp only [List.mem_cons, List.not_mem_nil, or_false] at ha
    rcases ha with rfl | rfl | rfl | rfl
    · exact nA0
    · exact nA1
    · exact nA2
    · exact nA3
    , PySem.W.mg_of X G aA⟩
  have MA : Mk K XA fAi := ⟨mkA, iniA, fniA, kpA⟩
  have FA : FunD K "__init__" "Add.__init__" (defArgs s_Add_init) (defBody s_Add_init) (defScope s_Add_init) [] [] fAi _ := ⟨⟨_, _, _, _, _, _, _, _, _, _, rfl, l_Add_init, c_Add_init, .inl ⟨rfl, rfl⟩, .inl rfl⟩, k_Add_init⟩
  have bA := FA.bindsN (ps := ["self", "factor", "what", "total", "place"]) (fun _ _ _ _ _ _ us hl => match us, hl with | [_, _, _, _, _], _ => rfl)
  have DSA := fun_mk (st := s_Add_str) l_Add_str c_Add_str k_Add_str
  have bSA := DSA.binds (ps := ["self"]) (fun _ _ _ _ _ _ us hl => match us, hl with | [_], _ => rfl)
  have SA : StrCls K XA fAs _ := ⟨hsA, fsA, fmA, omA, bSA⟩
  have DQA := fun_mk (st := s_Add_eq) l_Add_eq c_Add_eq k_Add_eq
  have bQA := DQA.binds (ps := ["self", "other"]) (fun _ _ _ _ _ _ us hl => match us, hl with | [_, _], _ => rfl)
  have W2A : Two K XA := ⟨sfA, omA, neA⟩
  have SKA : SelfK K XA := ⟨OA, ntA, nsA, ktA, ksA, kkA⟩
  have clsP : Cls K XP := ⟨pgP, hdP, poP, saP⟩
  have OP : ObjK K XP := ⟨clsP, ocP, cG, cT, omP, kP_str, kP_int, kP_bool, kP_list, kP_tuple⟩
  have CP : ClsA K mg "Put" XP ["note", "what"] := ⟨clsP, fun a ha => by
    simp only [List.mem_cons, List.not_mem_nil, or_false] at ha
    rcases ha with rfl | rfl
    · exact nP0
    · exact nP1
    , PySem.W.mg_of X G aP⟩
  have MP : Mk K XP fPi := ⟨mkP, iniP, fniP, kpP⟩
  have FP : FunD K "__init__" "Put.__init__" (defArgs s_Put_init) (defBody s_Put_init) (defScope s_Put_init) [] [] fPi _ := ⟨⟨_, _, _, _, _, _, _, _, _, _, rfl, l_Put_init, c_Put_init, .inl ⟨rfl, rfl⟩, .inl rfl⟩, k_Put_init⟩
  have bP := FP.bindsN (ps := ["self", "note", "what"]) (fun _ _ _ _ _ _ us hl => match us, hl with | [_, _, _], _ => rfl)
  have DSP := fun_mk (st := s_Put_str) l_Put_str c_Put_str k_Put_str
  have bSP := DSP.binds (ps := ["self"]) (fun _ _ _ _ _ _ us hl => match us, hl with | [_], _ => rfl)
  have SP : StrCls K XP fPs _ := ⟨hsP, fsP, fmP, omP, bSP⟩
  have DQP := fun_mk (st := s_Put_eq) l_Put_eq c_Put_eq k_Put_eq
  have bQP := DQP.binds (ps := ["self", "other"]) (fun _ _ _ _ _ _ us hl => match us, hl with | [_, _], _ => rfl)
  have W2P : Two K XP := ⟨sfP, omP, neP⟩
  have SKP : SelfK K XP := ⟨OP, ntP, nsP, ktP, ksP, kkP⟩
  have clsK : Cls K XK := ⟨pgK, hdK, poK, saK⟩
  have OK : ObjK K XK := ⟨clsK, ocK, cG, cT, omK, kK_str, kK_int, kK_bool, kK_list, kK_tuple⟩
  have CK : ClsA K mg "Mark" XK ["place"] := ⟨clsK, fun a ha => by
    simp only [List.mem_cons, List.not_mem_nil, or_false] at ha
    rcases ha with rfl
    · exact nK0
    , PySem.W.mg_of X G aK⟩
  have MK : Mk K XK fKi := ⟨mkK, iniK, fniK, kpK⟩
  have FK : FunD K "__init__" "Mark.__init__" (defArgs s_Mark_init) (defBody s_Mark_init) (defScope s_Mark_init) [] [] fKi _ := ⟨⟨_, _, _, _, _, _, _, _, _, _, rfl, l_Mark_init, c_Mark_init, .inl ⟨rfl, rfl⟩, .inl rfl⟩, k_Mark_init⟩
  have bK := FK.bindsN (ps := ["self", "place"]) (fun _ _ _ _ _ _ us hl => match us, hl with | [_, _], _ => rfl)
  have DSK := fun_mk (st := s_Mark_str) l_Mark_str c_Mark_str k_Mark_str
  have bSK := DSK.binds (ps := ["self"]) (fun _ _ _ _ _ _ us hl => match us, hl with | [_], _ => rfl)
  have SK : StrCls K XK fKs _ := ⟨hsK, fsK, fmK, omK, bSK⟩
  have DQK := fun_mk (st := s_Mark_eq) l_Mark_eq c_Mark_eq k_Mark_eq
  have bQK := DQK.binds (ps := ["self", "other"]) (fun _ _ _ _ _ _ us hl => match us, hl with | [_, _], _ => rfl)
  have W2K : Two K XK := ⟨sfK, omK, neK⟩
  have SKK : SelfK K XK := ⟨OK, ntK, nsK, ktK, ksK, kkK⟩
  have clsI : Cls K XI := ⟨pgI, hdI, poI, saI⟩
  have OI : ObjK K XI := ⟨clsI, ocI, cG, cT, omI, kI_str, kI_int, kI_bool, kI_list, kI_tuple⟩
  have CI : ClsA K mg "If" XI ["test", "rows", "others"] := ⟨clsI, fun a ha => by
    simp only [List.mem_cons, List.not_mem_nil, or_false] at ha
    rcases ha with rfl | rfl | rfl
    · exact nI0
    · exact nI1
    · exact nI2
    , PySem.W.mg_of X G aI⟩
  have MI : Mk K XI fIi := ⟨mkI, iniI, fniI, kpI⟩
  have FI : FunD K "__init__" "If.__init__" (defArgs s_If_init) (defBody s_If_init) (defScope s_If_init) [V.ref tI] [] fIi _ := ⟨⟨_, _, _, _, _, _, _, _, _, _, rfl, l_If_init, c_If_init, .inr ⟨(fun z => nomatch z), TI, _, [.ref tI], tnI, rfl, lTI, rfl, (.cons rfl .nil)⟩, .inl rfl⟩, k_If_init⟩
  obtain ⟨d_bI, v_bI, bI⟩ := FI.binds1 (ps := ["self", "test", "rows", "others"]) 4 1 (fun z => nomatch z) rfl (fun _ _ _ _ _ _ _ us its hu hi => match us, hu, its, hi with | [_, _, _, _], _, [_], _ => ⟨_, rfl, rfl⟩)
  cases v_bI
  have DSI := fun_mk (st := s_If_str) l_If_str c_If_str k_If_str
  have bSI := DSI.binds (ps := ["self"]) (fun _ _ _ _ _ _ us hl => match us, hl with | [_], _ => rfl)
  have SI : StrCls K XI fIs _ := ⟨hsI, fsI, fmI, omI, bSI⟩
  have DQI := fun_mk (st := s_If_eq) l_If_eq c_If_eq k_If_eq
  have bQI := DQI.binds (ps := ["self", "other"]) (fun _ _ _ _ _ _ us hl => match us, hl with | [_, _], _ => rfl)
  have W2I : Two K XI := ⟨sfI, omI, neI⟩
  have SKI : SelfK K XI := ⟨OI, ntI, nsI, ktI, ksI, kkI⟩
  have clsE : Cls K XE := ⟨pgE, hdE, poE, saE⟩
  have OE : ObjK K XE := ⟨clsE, ocE, cG, cT, omE, kE_str, kE_int, kE_bool, kE_list, kE_tuple⟩
  have CE : ClsA K mg "Event" XE ["name", "origins", "kind", "amount", "group"] := ⟨clsE, fun a ha => by
    simp only [List.mem_cons, List.not_mem_nil, or_false] at ha
    rcases ha with rfl | rfl | rfl | rfl | rfl
    · exact nE0
    · exact nE1
    · exact nE2
    · exact nE3
    · exact nE4
    , PySem.W.mg_of X G aE⟩
  have ME : Mk K XE fEi := ⟨mkE, iniE, fniE, kpE⟩
  have FE : FunD K "__init__" "Event.__init__" (defArgs s_Event_init) (defBody s_Event_init) (defScope s_Event_init) [V.bl false, V.bl false] [] fEi _ := ⟨⟨_, _, _, _, _, _, _, _, _, _, rfl, l_Event_init, c_Event_init, .inr ⟨(fun z => nomatch z), TE, _, [.bool false, .bool false], tnE, rfl, lTE, rfl, (.cons rfl (.cons rfl .nil))⟩, .inl rfl⟩, k_Event_init⟩
  obtain ⟨d_bE, v_bE, bE⟩ := FE.binds1 (ps := ["self", "name", "origins", "kind", "amount", "group"]) 6 2 (fun z => nomatch z) rfl (fun _ _ _ _ _ _ _ us its hu hi => match us, hu, its, hi with | [_, _, _, _, _, _], _, [_, _], _ => ⟨_, rfl, rfl⟩)
  cases v_bE
  have DSE := fun_mk (st := s_Event_str) l_Event_str c_Event_str k_Event_str
  have bSE := DSE.binds (ps := ["self"]) (fun _ _ _ _ _ _ us hl => match us, hl with | [_], _ => rfl)
  have SE : StrCls K XE fEs _ := ⟨hsE, fsE, fmE, omE, bSE⟩
  have DQE := fun_mk (st := s_Event_eq) l_Event_eq c_Event_eq k_Event_eq
  have bQE := DQE.binds (ps := ["self", "other"]) (fun _ _ _ _ _ _ us hl => match us, hl with | [_, _], _ => rfl)
  have W2E : Two K XE := ⟨sfE, omE, neE⟩
  have SKE : SelfK K XE := ⟨OE, ntE, nsE, ktE, ksE, kkE⟩
  have clsV : Cls K XV := ⟨pgV, hdV, poV, saV⟩
  have OV : ObjK K XV := ⟨clsV, ocV, cG, cT, omV, kV_str, kV_int, kV_bool, kV_list, kV_tuple⟩
  have CV : ClsA K mg "Worth" XV ["total", "kind", "factor", "what", "least", "below"] := ⟨clsV, fun a ha => by
    simp only [List.mem_cons, List.not_mem_nil, or_false] at ha
    rcases ha with rfl | rfl | rfl | rfl | rfl | rfl
    · exact nV0
    · exact nV1
    · exact nV2
    · exact nV3
    · exact nV4
    · exact nV5
    , PySem.W.mg_of X G aV⟩
  have MV : Mk K XV fVi := ⟨mkV, iniV, fniV, kpV⟩
  have FV : FunD K "__init__" "Worth.__init__" (defArgs s_Worth_init) (defBody s_Worth_init) (defScope s_Worth_init) [V.non, V.non] [] fVi _ := ⟨⟨_, _, _, _, _, _, _, _, _, _, rfl, l_Worth_init, c_Worth_init, .inr ⟨(fun z => nomatch z), TV, _, [.none, .none], tnV, rfl, lTV, rfl, (.cons rfl (.cons rfl .nil))⟩, .inl rfl⟩, k_Worth_init⟩
  obtain ⟨d_bV, v_bV, bV⟩ := FV.binds1 (ps := ["self", "total", "kind", "factor", "what", "least", "below"]) 7 2 (fun z => nomatch z) rfl (fun _ _ _ _ _ _ _ us its hu hi => match us, hu, its, hi with | [_, _, _, _, _, _, _], _, [_, _], _ => ⟨_, rfl, rfl⟩)
  cases v_bV
  have DSV := fun_mk (st := s_Worth_str) l_Worth_str c_Worth_str k_Worth_str
  have bSV := DSV.binds (ps := ["self"]) (fun _ _ _ _ _ _ us hl => match us, hl with | [_], _ => rfl)
  have SV : StrCls K XV fVs _ := ⟨hsV, fsV, fmV, omV, bSV⟩
  have DQV := fun_mk (st := s_Worth_eq) l_Worth_eq c_Worth_eq k_Worth_eq
  have bQV := DQV.binds (ps := ["self", "other"]) (fun _ _ _ _ _ _ us hl => match us, hl with | [_, _], _ => rfl)
  have W2V : Two K XV := ⟨sfV, omV, neV⟩
  have SKV : SelfK K XV := ⟨OV, ntV, nsV, ktV, ksV, kkV⟩
  have clsH : Cls K XH := ⟨pgH, hdH, poH, saH⟩
  have OH : ObjK K XH := ⟨clsH, ocH, cG, cT, omH, kH_str, kH_int, kH_bool, kH_list, kH_tuple⟩
  have CH : ClsA K mg "Handler" XH ["event", "rows"] := ⟨clsH, fun a ha => by
    simp only [List.mem_cons, List.not_mem_nil, or_false] at ha
    rcases ha with rfl | rfl
    · exact nH0
    · exact nH1
    , PySem.W.mg_of X G aH⟩
  have MH : Mk K XH fHi := ⟨mkH, iniH, fniH, kpH⟩
  have FH : FunD K "__init__" "Handler.__init__" (defArgs s_Handler_init) (defBody s_Handler_init) (defScope s_Handler_init) [V.ref tH] [] fHi _ := ⟨⟨_, _, _, _, _, _, _, _, _, _, rfl, l_Handler_init, c_Handler_init, .inr ⟨(fun z => nomatch z), TH, _, [.ref tH], tnH, rfl, lTH, rfl, (.cons rfl .nil)⟩, .inl rfl⟩, k_Handler_init⟩
  obtain ⟨d_bH, v_bH, bH⟩ := FH.binds1 (ps := ["self", "event", "rows"]) 3 1 (fun z => nomatch z) rfl (fun _ _ _ _ _ _ _ us its hu hi => match us, hu, its, hi with | [_, _, _], _, [_], _ => ⟨_, rfl, rfl⟩)
  cases v_bH
  have DSH := fun_mk (st := s_Handler_str) l_Handler_str c_Handler_str k_Handler_str
  have bSH := DSH.binds (ps := ["self"]) (fun _ _ _ _ _ _ us hl => match us, hl with | [_], _ => rfl)
  have SH : StrCls K XH fHs _ := ⟨hsH, fsH, fmH, omH, bSH⟩
  have DQH := fun_mk (st := s_Handler_eq) l_Handler_eq c_Handler_eq k_Handler_eq
  have bQH := DQH.binds (ps := ["self", "other"]) (fun _ _ _ _ _ _ us hl => match us, hl with | [_, _], _ => rfl)
  have W2H : Two K XH := ⟨sfH, omH, neH⟩
  have SKH : SelfK K XH := ⟨OH, ntH, nsH, ktH, ksH, kkH⟩
  let p : Pkg := ⟨XW, XO, XB, XM, XT, XN, XA, XP, XK, XI⟩
  have U : Unlike p := ⟨hU⟩
  have pk_tests : ∀ C ∈ p.tests, ObjK K C ∧ PySem.W.kitOne K (.ref C) (.ref TS) = some true := fun C hC => by
    simp only [p, Pkg.tests, List.mem_cons, List.not_mem_nil, or_false] at hC
    rcases hC with rfl | rfl | rfl | rfl | rfl | rfl
    · exact ⟨OW, bTS_W⟩
    · exact ⟨OO, bTS_O⟩
    · exact ⟨OB, bTS_B⟩
    · exact ⟨OM, bTS_M⟩
    · exact ⟨OT, bTS_T⟩
    · exact ⟨ON, bTS_N⟩
  have pk_rows : ∀ C ∈ p.rows, ObjK K C ∧ PySem.W.kitOne K (.ref C) (.ref RW) = some true := fun C hC => by
    simp only [p, Pkg.rows, List.mem_cons, List.not_mem_nil, or_false] at hC
    rcases hC with rfl | rfl | rfl | rfl
    · exact ⟨OA, bRW_A⟩
    · exact ⟨OP, bRW_P⟩
    · exact ⟨OK, bRW_K⟩
    · exact ⟨OI, bRW_I⟩
  have PK : PkgK K p TS RW := ⟨pk_tests, pk_rows⟩
  have SK_rows : ∀ C ∈ p.rows, SelfK K C := fun C hC => by
    simp only [p, Pkg.rows, List.mem_cons, List.not_mem_nil, or_false] at hC
    rcases hC with rfl | rfl | rfl | rfl
    · exact SKA
    · exact SKP
    · exact SKK
    · exact SKI
  have N_tH : NoRows K tH := ⟨_, _, l_tH, rfl, rfl⟩
  have D_is_integer := fun_mk (st := s_is_integer) l_is_integer c_is_integer k_is_integer
  have A_is_integer : DefAt K mg "is_integer" s_is_integer ["value"] := ⟨f_is_integer, _, D_is_integer, PySem.W.mg_of X G a_is_integer, D_is_integer.binds (fun _ _ _ _ _ _ us hl => match us, hl with | [_], _ => rfl)⟩
  have D_is_sequence := fun_mk (st := s_is_sequence) l_is_sequence c_is_sequence k_is_sequence
  have A_is_sequence : DefAt K mg "is_sequence" s_is_sequence ["value"] := ⟨f_is_sequence, _, D_is_sequence, PySem.W.mg_of X G a_is_sequence, D_is_sequence.binds (fun _ _ _ _ _ _ us hl => match us, hl with | [_], _ => rfl)⟩
  have D_is_name := fun_mk (st := s_is_name) l_is_name c_is_name k_is_name
  have A_is_name : DefAt K mg "is_name" s_is_name ["value"] := ⟨f_is_name, _, D_is_name, PySem.W.mg_of X G a_is_name, D_is_name.binds (fun _ _ _ _ _ _ us hl => match us, hl with | [_], _ => rfl)⟩
  have D_are_names := fun_mk (st := s_are_names) l_are_names c_are_names k_are_names
  have A_are_names : DefAt K mg "are_names" s_are_names ["value"] := ⟨f_are_names, _, D_are_names, PySem.W.mg_of X G a_are_names, D_are_names.binds (fun _ _ _ _ _ _ us hl => match us, hl with | [_], _ => rfl)⟩
  have D_are_origins := fun_mk (st := s_are_origins) l_are_origins c_are_origins k_are_origins
  have A_are_origins : DefAt K mg "are_origins" s_are_origins ["value"] := ⟨f_are_origins, _, D_are_origins, PySem.W.mg_of X G a_are_origins, D_are_origins.binds (fun _ _ _ _ _ _ us hl => match us, hl with | [_], _ => rfl)⟩
  have D_may_bring := fun_mk (st := s_may_bring) l_may_bring c_may_bring k_may_bring
  have A_may_bring : DefAt K mg "may_bring" s_may_bring ["value", "comes", "goes"] := ⟨f_may_bring, _, D_may_bring, PySem.W.mg_of X G a_may_bring, D_may_bring.binds (fun _ _ _ _ _ _ us hl => match us, hl with | [_, _, _], _ => rfl)⟩
  have D_check := fun_mk (st := s_check) l_check c_check k_check
  have A_check : DefAt K mg "check" s_check ["holds", "part"] := ⟨f_check, _, D_check, PySem.W.mg_of X G a_check, D_check.binds (fun _ _ _ _ _ _ us hl => match us, hl with | [_, _], _ => rfl)⟩
  have D_is_kind := fun_mk (st := s_is_kind) l_is_kind c_is_kind k_is_kind
  have A_is_kind : DefAt K mg "is_kind" s_is_kind ["value"] := ⟨f_is_kind, _, D_is_kind, PySem.W.mg_of X G a_is_kind, D_is_kind.binds (fun _ _ _ _ _ _ us hl => match us, hl with | [_], _ => rfl)⟩
  have D_is_what := fun_mk (st := s_is_what) l_is_what c_is_what k_is_what
  have A_is_what : DefAt K mg "is_what" s_is_what ["value"] := ⟨f_is_what, _, D_is_what, PySem.W.mg_of X G a_is_what, D_is_what.binds (fun _ _ _ _ _ _ us hl => match us, hl with | [_], _ => rfl)⟩
  have D_are_rows := fun_mk (st := s_are_rows) l_are_rows c_are_rows k_are_rows
  have A_are_rows : DefAt K mg "are_rows" s_are_rows ["value"] := ⟨f_are_rows, _, D_are_rows, PySem.W.mg_of X G a_are_rows, D_are_rows.binds (fun _ _ _ _ _ _ us hl => match us, hl with | [_], _ => rfl)⟩
  have D_block_lines := fun_mk (st := s_block_lines) l_block_lines c_block_lines k_block_lines
  have A_block_lines : DefAt K mg "block_lines" s_block_lines ["block"] := ⟨f_block_lines, _, D_block_lines, PySem.W.mg_of X G a_block_lines, D_block_lines.binds (fun _ _ _ _ _ _ us hl => match us, hl with | [_], _ => rfl)⟩
  have D_law_box := fun_mk (st := s_law_box) l_law_box c_law_box k_law_box
  have A_law_box : DefAt K mg "_law_box" s_law_box ["_law_script", "_law_k", "_law_own"] := ⟨f_law_box, _, D_law_box, PySem.W.mg_of X G a_law_box, D_law_box.binds (fun _ _ _ _ _ _ us hl => match us, hl with | [_, _, _], _ => rfl)⟩
  have D_law_take := fun_mk (st := s_law_take) l_law_take c_law_take k_law_take
  have A_law_take : DefAt K mg "_law_take" s_law_take ["_law_box_here", "_law_many"] := ⟨f_law_take, _, D_law_take, PySem.W.mg_of X G a_law_take, D_law_take.binds (fun _ _ _ _ _ _ us hl => match us, hl with | [_, _], _ => rfl)⟩
  have D_law_pick := fun_mk (st := s_law_pick) l_law_pick c_law_pick k_law_pick
  have A_law_pick : DefAt K mg "_law_pick" s_law_pick ["_law_box_here", "_law_items"] := ⟨f_law_pick, _, D_law_pick, PySem.W.mg_of X G a_law_pick, D_law_pick.binds (fun _ _ _ _ _ _ us hl => match us, hl with | [_, _], _ => rfl)⟩
  have D_law_mixed := fun_mk (st := s_law_mixed) l_law_mixed c_law_mixed k_law_mixed
  have A_law_mixed : DefAt K mg "_law_mixed" s_law_mixed ["_law_box_here", "_law_items"] := ⟨f_law_mixed, _, D_law_mixed, PySem.W.mg_of X G a_law_mixed, D_law_mixed.binds (fun _ _ _ _ _ _ us hl => match us, hl with | [_, _], _ => rfl)⟩
  have D_law_names := fun_mk (st := s_law_names) l_law_names c_law_names k_law_names
  have A_law_names : DefAt K mg "_law_names" s_law_names ["_law_box_here", "_law_many"] := ⟨f_law_names, _, D_law_names, PySem.W.mg_of X G a_law_names, D_law_names.binds (fun _ _ _ _ _ _ us hl => match us, hl with | [_, _], _ => rfl)⟩
  have D_law_number := fun_mk (st := s_law_number) l_law_number c_law_number k_law_number
  have A_law_number : DefAt K mg "_law_number" s_law_number ["_law_box_here", "_law_most"] := ⟨f_law_number, _, D_law_number, PySem.W.mg_of X G a_law_number, D_law_number.binds (fun _ _ _ _ _ _ us hl => match us, hl with | [_, _], _ => rfl)⟩
  have D_law_test := fun_mk (st := s_law_test) l_law_test c_law_test k_law_test
  have A_law_test : DefAt K mg "_law_test" s_law_test ["_law_box_here", "_law_book_here", "_law_deep"] := ⟨f_law_test, _, D_law_test, PySem.W.mg_of X G a_law_test, D_law_test.binds (fun _ _ _ _ _ _ us hl => match us, hl with | [_, _, _], _ => rfl)⟩
  have D_law_row := fun_mk (st := s_law_row) l_law_row c_law_row k_law_row
  have A_law_row : DefAt K mg "_law_row" s_law_row ["_law_box_here", "_law_book_here", "_law_left", "_law_deep"] := ⟨f_law_row, _, D_law_row, PySem.W.mg_of X G a_law_row, D_law_row.binds (fun _ _ _ _ _ _ us hl => match us, hl with | [_, _, _, _], _ => rfl)⟩
  have D_law_rows := fun_mk (st := s_law_rows) l_law_rows c_law_rows k_law_rows
  have A_law_rows : DefAt K mg "_law_rows" s_law_rows ["_law_box_here", "_law_book_here", "_law_left", "_law_deep"] := ⟨f_law_rows, _, D_law_rows, PySem.W.mg_of X G a_law_rows, D_law_rows.binds (fun _ _ _ _ _ _ us hl => match us, hl with | [_, _, _, _], _ => rfl)⟩
  have D_law_event := fun_mk (st := s_law_event) l_law_event c_law_event k_law_event
  have A_law_event : DefAt K mg "_law_event" s_law_event ["_law_box_here", "_law_book_here", "_law_name", "_law_is_first"] := ⟨f_law_event, _, D_law_event, PySem.W.mg_of X G a_law_event, D_law_event.binds (fun _ _ _ _ _ _ us hl => match us, hl with | [_, _, _, _], _ => rfl)⟩
  have D_law_worth := fun_mk (st := s_law_worth) l_law_worth c_law_worth k_law_worth
  have A_law_worth : DefAt K mg "_law_worth" s_law_worth ["_law_box_here", "_law_book_here"] := ⟨f_law_worth, _, D_law_worth, PySem.W.mg_of X G a_law_worth, D_law_worth.binds (fun _ _ _ _ _ _ us hl => match us, hl with | [_, _], _ => rfl)⟩
  have D_law_book := fun_mk (st := s_law_book) l_law_book c_law_book k_law_book
  have A_law_book : DefAt K mg "_law_book" s_law_book ["_law_box_here", "_law_sizes"] := ⟨f_law_book, _, D_law_book, PySem.W.mg_of X G a_law_book, D_law_book.binds (fun _ _ _ _ _ _ us hl => match us, hl with | [_, _], _ => rfl)⟩
  have D_law_test_text := fun_mk (st := s_law_test_text) l_law_test_text c_law_test_text k_law_test_text
  have A_law_test_text : DefAt K mg "_law_test_text" s_law_test_text ["_law_test_here"] := ⟨f_law_test_text, _, D_law_test_text, PySem.W.mg_of X G a_law_test_text, D_law_test_text.binds (fun _ _ _ _ _ _ us hl => match us, hl with | [_], _ => rfl)⟩
  have D_law_row_lines := fun_mk (st := s_law_row_lines) l_law_row_lines c_law_row_lines k_law_row_lines
  have A_law_row_lines : DefAt K mg "_law_row_lines" s_law_row_lines ["_law_rows_here"] := ⟨f_law_row_lines, _, D_law_row_lines, PySem.W.mg_of X G a_law_row_lines, D_law_row_lines.binds (fun _ _ _ _ _ _ us hl => match us, hl with | [_], _ => rfl)⟩
  have D_law_event_text := fun_mk (st := s_law_event_text) l_law_event_text c_law_event_text k_law_event_text
  have A_law_event_text : DefAt K mg "_law_event_text" s_law_event_text ["_law_event_here"] := ⟨f_law_event_text, _, D_law_event_text, PySem.W.mg_of X G a_law_event_text, D_law_event_text.binds (fun _ _ _ _ _ _ us hl => match us, hl with | [_], _ => rfl)⟩
  have D_law_worth_text := fun_mk (st := s_law_worth_text) l_law_worth_text c_law_worth_text k_law_worth_text
  have A_law_worth_text : DefAt K mg "_law_worth_text" s_law_worth_text ["_law_worth_here"] := ⟨f_law_worth_text, _, D_law_worth_text, PySem.W.mg_of X G a_law_worth_text, D_law_worth_text.binds (fun _ _ _ _ _ _ us hl => match us, hl with | [_], _ => rfl)⟩
  have D_law_test_of := fun_mk (st := s_law_test_of) l_law_test_of c_law_test_of k_law_test_of
  have A_law_test_of : DefAt K mg "_law_test_of" s_law_test_of ["_law_test_here"] := ⟨f_law_test_of, _, D_law_test_of, PySem.W.mg_of X G a_law_test_of, D_law_test_of.binds (fun _ _ _ _ _ _ us hl => match us, hl with | [_], _ => rfl)⟩
  have D_law_row_of := fun_mk (st := s_law_row_of) l_law_row_of c_law_row_of k_law_row_of
  have A_law_row_of : DefAt K mg "_law_row_of" s_law_row_of ["_law_row_here"] := ⟨f_law_row_of, _, D_law_row_of, PySem.W.mg_of X G a_law_row_of, D_law_row_of.binds (fun _ _ _ _ _ _ us hl => match us, hl with | [_], _ => rfl)⟩
  have D_law_rows_of := fun_mk (st := s_law_rows_of) l_law_rows_of c_law_rows_of k_law_rows_of
  have A_law_rows_of : DefAt K mg "_law_rows_of" s_law_rows_of ["_law_rows_here"] := ⟨f_law_rows_of, _, D_law_rows_of, PySem.W.mg_of X G a_law_rows_of, D_law_rows_of.binds (fun _ _ _ _ _ _ us hl => match us, hl with | [_], _ => rfl)⟩
  have D_law_event_of := fun_mk (st := s_law_event_of) l_law_event_of c_law_event_of k_law_event_of
  have A_law_event_of : DefAt K mg "_law_event_of" s_law_event_of ["_law_event_here"] := ⟨f_law_event_of, _, D_law_event_of, PySem.W.mg_of X G a_law_event_of, D_law_event_of.binds (fun _ _ _ _ _ _ us hl => match us, hl with | [_], _ => rfl)⟩
  have D_law_worth_of := fun_mk (st := s_law_worth_of) l_law_worth_of c_law_worth_of k_law_worth_of
  have A_law_worth_of : DefAt K mg "_law_worth_of" s_law_worth_of ["_law_worth_here"] := ⟨f_law_worth_of, _, D_law_worth_of, PySem.W.mg_of X G a_law_worth_of, D_law_worth_of.binds (fun _ _ _ _ _ _ us hl => match us, hl with | [_], _ => rfl)⟩
  have D_law_event_told := fun_mk (st := s_law_event_told) l_law_event_told c_law_event_told k_law_event_told
  have A_law_event_told : DefAt K mg "_law_event_told" s_law_event_told ["_law_event_here"] := ⟨f_law_event_told, _, D_law_event_told, PySem.W.mg_of X G a_law_event_told, D_law_event_told.binds (fun _ _ _ _ _ _ us hl => match us, hl with | [_], _ => rfl)⟩
  have D_law_worth_told := fun_mk (st := s_law_worth_told) l_law_worth_told c_law_worth_told k_law_worth_told
  have A_law_worth_told : DefAt K mg "_law_worth_told" s_law_worth_told ["_law_worth_here"] := ⟨f_law_worth_told, _, D_law_worth_told, PySem.W.mg_of X G a_law_worth_told, D_law_worth_told.binds (fun _ _ _ _ _ _ us hl => match us, hl with | [_], _ => rfl)⟩
  have D_law_events_right := fun_mk (st := s_law_events_right) l_law_events_right c_law_events_right k_law_events_right
  have A_law_events_right : DefAt K mg "_law_events_right" s_law_events_right ["_law_events"] := ⟨f_law_events_right, _, D_law_events_right, PySem.W.mg_of X G a_law_events_right, D_law_events_right.binds (fun _ _ _ _ _ _ us hl => match us, hl with | [_], _ => rfl)⟩
  have D_law_worths_right := fun_mk (st := s_law_worths_right) l_law_worths_right c_law_worths_right k_law_worths_right
  have A_law_worths_right : DefAt K mg "_law_worths_right" s_law_worths_right ["_law_worths"] := ⟨f_law_worths_right, _, D_law_worths_right, PySem.W.mg_of X G a_law_worths_right, D_law_worths_right.binds (fun _ _ _ _ _ _ us hl => match us, hl with | [_], _ => rfl)⟩
  have D_law_other := fun_mk (st := s_law_other) l_law_other c_law_other k_law_other
  have A_law_other : DefAt K mg "_law_other" s_law_other ["_law_names_here"] := ⟨f_law_other, _, D_law_other, PySem.W.mg_of X G a_law_other, D_law_other.binds (fun _ _ _ _ _ _ us hl => match us, hl with | [_], _ => rfl)⟩
  have D_law := fun_mk (st := s_law) l_law c_law k_law
  obtain ⟨d_bE1, v_bE1, bE1⟩ := FE.binds1 (ps := ["self", "name", "origins", "kind", "amount", "group"]) 4 0 (fun z => nomatch z) rfl (fun _ _ _ _ _ _ _ us its hu hi => match us, hu, its, hi with | [_, _, _, _], _, [_, _], _ => ⟨_, rfl, rfl⟩)
  obtain ⟨d_bV1, v_bV1, bV1⟩ := FV.binds1 (ps := ["self", "total", "kind", "factor", "what", "least", "below"]) 5 0 (fun z => nomatch z) rfl (fun _ _ _ _ _ _ _ us its hu hi => match us, hu, its, hi with | [_, _, _, _, _], _, [_, _], _ => ⟨_, rfl, rfl⟩)
  obtain ⟨d_bH1, v_bH1, bH1⟩ := FH.binds1 (ps := ["self", "event", "rows"]) 2 0 (fun z => nomatch z) rfl (fun _ _ _ _ _ _ _ us its hu hi => match us, hu, its, hi with | [_, _], _, [_], _ => ⟨_, rfl, rfl⟩)
  have OZ : ∀ k : Nat, ObjK K ((fun _ => XM) k) := fun _ => OM
  have g_int := ok_int (P := P) (w := w) (base := base) T OZ A_is_integer
  have g_name := ok_name (P := P) (w := w) (base := base) T OZ (PySem.W.mg_of X G aNN) tNN A_is_name
  have g_check := ok_checkT (P := P) (w := w) (base := base) A_check
  have g_kind := ok_kindT (P := P) (w := w) (base := base) T g_name A_is_kind
  have g_what := ok_whatT (P := P) (w := w) (base := base) T (PySem.W.mg_of X G aAM) tAM g_name A_is_what
  have g_seq := ok_seqT (P := P) (w := w) (base := base) T A_is_sequence
  have g_rows := ok_rowsT (P := P) (w := w) (base := base) T PK (PySem.W.mg_of X G aRW) g_seq A_are_rows
  have g_names := ok_namesT (P := P) (w := w) (base := base) T g_seq g_name A_are_names
  have g_orig := ok_origT (P := P) (w := w) (base := base) T g_seq g_names A_are_origins
  have g_may := ok_mayT (P := P) (w := w) (base := base) T A_may_bring
  have g_W := ok_wasI (P := P) (w := w) (base := base) T CW g_check g_kind FW
  have g_O := ok_oldI (P := P) (w := w) (base := base) T CO g_check g_int FO
  have g_B := ok_newI (P := P) (w := w) (base := base) T CB g_check g_int FB
  have g_N := ok_notI (P := P) (w := w) (base := base) T PK (PySem.W.mg_of X G aTS) CN g_check FN
  have g_P := ok_putI (P := P) (w := w) (base := base) T CP g_check g_name g_what FP
  have g_K := ok_markI (P := P) (w := w) (base := base) T CK g_check FK
  have g_A := ok_addI (P := P) (w := w) (base := base) T CA g_check g_int g_name g_what FA
  have g_I := ok_ifI (P := P) (w := w) (base := base) T PK (PySem.W.mg_of X G aTS) CI g_check g_rows FI
  have g_E := ok_eventI (P := P) (w := w) (base := base) T CE g_check g_name g_orig g_kind g_may FE
  have g_V := ok_worthI (P := P) (w := w) (base := base) T CV g_check g_name g_int FV
  have g_H := ok_handlerI (P := P) (w := w) (base := base) (p := p) T CH g_check g_name g_rows FH
  have TM : TestsMk P w K mg base p := ⟨⟨⟨fWi, _, MW, g_W, bW⟩, CW⟩, ⟨⟨fOi, _, MO, g_O, bO⟩, CO⟩, ⟨⟨fBi, _, MB, g_B, bB⟩, CB⟩, ⟨⟨fNi, _, MN, g_N, bN⟩, CN⟩, MM, (PySem.W.mg_of X G aM), MT, (PySem.W.mg_of X G aT)⟩
  have RM : RowsMk P w K mg base p := ⟨⟨⟨fIi, _, MI, g_I, bI⟩, CI⟩, ⟨⟨fAi, _, MA, g_A, bA⟩, CA⟩, ⟨⟨fPi, _, MP, g_P, bP⟩, CP⟩, ⟨⟨fKi, _, MK, g_K, bK⟩, CK⟩⟩
  have g_take := ok_take (P := P) (w := w) (base := base) T A_law_take
  have g_box := ok_box (P := P) (w := w) (base := base) T A_law_box
  have g_pick := ok_pick (P := P) (w := w) (base := base) T g_take A_law_pick
  have g_pickS := ok_pickS (P := P) (w := w) (base := base) T g_take A_law_pick
  have g_mixed := ok_mixed (P := P) (w := w) (base := base) T g_take A_law_mixed
  have g_lnames := ok_names (P := P) (w := w) (base := base) T g_take g_pickS g_mixed A_law_names
  have g_number := ok_number (P := P) (w := w) (base := base) T g_take A_law_number
  have g_test := ok_test (P := P) (w := w) (base := base) T g_take g_pick A_law_test
  have g_lrows := ok_rowsAll (P := P) (w := w) (base := base) T g_take g_pick g_test A_law_row A_law_rows 3
  have g_ev := ok_evD (P := P) (w := w) (base := base) T g_take g_pick g_mixed A_law_event
  have g_wo := ok_woD (P := P) (w := w) (base := base) T g_pick A_law_worth
  have g_book := ok_bookD (P := P) (w := w) (base := base) T g_take g_mixed g_lnames g_number g_lrows g_ev g_wo A_law_book
  have g_testText := ok_testTextAll (P := P) (w := w) (base := base) T A_law_test_text 2 (by omega)
  have g_lines := ok_rowLinesAll (P := P) (w := w) (base := base) T g_testText A_law_row_lines 3 (by omega)
  have g_testOf := ok_testOfAll (P := P) (w := w) (base := base) T TM A_law_test_of 2
  have g_rowsOf := ok_rowsOfAll (P := P) (w := w) (base := base) T RM g_testOf A_law_row_of A_law_rows_of 3
  have g_eventOf := ok_eventOf (P := P) (w := w) (base := base) CE ME g_E bE A_law_event_of
  have g_worthOf := ok_worthOf (P := P) (w := w) (base := base) CV MV g_V bV A_law_worth_of
  have g_eventTold := ok_eventTold (P := P) (w := w) (base := base) CE A_law_event_told
  have g_worthTold := ok_worthTold (P := P) (w := w) (base := base) CV A_law_worth_told
  have g_eventText := ok_eventText (P := P) (w := w) (base := base) T A_law_event_text
  have g_worthText := ok_worthText (P := P) (w := w) (base := base) T A_law_worth_text
  have g_other := ok_other (P := P) (w := w) (base := base) T A_law_other
  have g_sE := ok_eventS (P := P) (w := w) (base := base) CE DSE
  have g_sV := ok_worthS (P := P) (w := w) (base := base) CV T DSV
  have ShT := shows_tests (P := P) (w := w) (base := base) U CW CO CB CN SW SO SB SM ST SN DSW DSO DSB DSM DST DSN 2 (by omega)
  have ShR := shows_rows (P := P) (w := w) (base := base) U T CA CP CK CI SA SP SK SI DSA DSP DSK DSI ShT A_block_lines 3 (by omega)
  have ShE : Shows P w K mg base 4 [XE] (EvSh K XE) := ⟨fun C hC => by rw [List.mem_singleton.mp hC]; exact ⟨fEs, _, hsE, fsE, bSE, g_sE.mono (by omega)⟩, fun C hC => by rw [List.mem_singleton.mp hC]; exact ⟨fmE, omE⟩⟩
  have ShV : Shows P w K mg base 4 [XV] (WoSh XV) := ⟨fun C hC => by rw [List.mem_singleton.mp hC]; exact ⟨fVs, _, hsV, fsV, bSV, g_sV.mono (by omega)⟩, fun C hC => by rw [List.mem_singleton.mp hC]; exact ⟨fmV, omV⟩⟩
  have g_sH := ok_handlerS (P := P) (w := w) (base := base) (by omega) (by omega) CH T ShR DSH
  have ShH : Shows P w K mg base 30 [XH] (HaSh K p XH 3) := ⟨fun C hC => by rw [List.mem_singleton.mp hC]; exact ⟨fHs, _, hsH, fsH, bSH, g_sH.mono (by omega)⟩, fun C hC => by rw [List.mem_singleton.mp hC]; exact ⟨fmH, omH⟩⟩
  have EqE : EqCls P w K mg base 7 [XE] (spEqC K [XE] (EvSh K XE)) := ⟨fun C hC => by
    simp only [List.mem_cons, List.not_mem_nil, or_false] at hC
    rcases hC with rfl
    · exact ⟨fEq, _, heE, feE, bQE, ok_eventQ (P := P) (w := w) (base := base) T CE ShE DQE⟩
    , fun C hC => by
    simp only [List.mem_cons, List.not_mem_nil, or_false] at hC
    rcases hC with rfl
    · exact W2E⟩
  have EqV : EqCls P w K mg base 7 [XV] (spEqC K [XV] (WoSh XV)) := ⟨fun C hC => by
    simp only [List.mem_cons, List.not_mem_nil, or_false] at hC
    rcases hC with rfl
    · exact ⟨fVq, _, heV, feV, bQV, ok_worthQ (P := P) (w := w) (base := base) T CV ShV DQV⟩
    , fun C hC => by
    simp only [List.mem_cons, List.not_mem_nil, or_false] at hC
    rcases hC with rfl
    · exact W2V⟩
  have EqH : EqCls P w K mg base 33 [XH] (spEqC K [XH] (HaSh K p XH 3)) := ⟨fun C hC => by
    simp only [List.mem_cons, List.not_mem_nil, or_false] at hC
    rcases hC with rfl
    · exact ⟨fHq, _, heH, feH, bQH, ok_handlerQ (P := P) (w := w) (base := base) T CH ShH DQH⟩
    , fun C hC => by
    simp only [List.mem_cons, List.not_mem_nil, or_false] at hC
    rcases hC with rfl
    · exact W2H⟩
  have EqR : EqCls P w K mg base 30 p.rows (spEqC K p.rows (RowSh K p 3)) := ⟨fun C hC => by
    simp only [p, Pkg.rows, List.mem_cons, List.not_mem_nil, or_false] at hC
    rcases hC with rfl | rfl | rfl | rfl
    · exact ⟨fAq, _, heA, feA, bQA, ok_addQ (P := P) (w := w) (base := base) T CA ShR DQA⟩
    · exact ⟨fPq, _, heP, feP, bQP, ok_putQ (P := P) (w := w) (base := base) T CP ShR DQP⟩
    · exact ⟨fKq, _, heK, feK, bQK, ok_markQ (P := P) (w := w) (base := base) T CK ShR DQK⟩
    · exact ⟨fIq, _, heI, feI, bQI, ok_ifQ (P := P) (w := w) (base := base) T CI ShR DQI⟩
    , fun C hC => by
    simp only [p, Pkg.rows, List.mem_cons, List.not_mem_nil, or_false] at hC
    rcases hC with rfl | rfl | rfl | rfl
    · exact W2A
    · exact W2P
    · exact W2K
    · exact W2I⟩
  have g_er := ok_eventsRight (P := P) (w := w) (base := base) T CE ME g_E bE SKE ShE EqE g_eventOf g_eventTold g_eventText A_law_events_right
  have g_wr := ok_worthsRight (P := P) (w := w) (base := base) T SKV ShV EqV g_worthOf g_worthTold g_worthText A_law_worths_right
  exact ok_law (P := P) (w := w) (base := base) T CE ME g_E bE1 v_bE1 CV MV g_V bV1 v_bV1 CH MH g_H bH bH1 v_bH1 N_tH CK MK g_K bK SK_rows SKE SKH ⟨nEV, kVE⟩ OV ShE EqE EqR ShH EqH D_law (fun s u _ => .of_eq rfl) g_box g_book g_er g_wr g_rowsOf g_lines g_other g_eventTold g_worthTold
end K14

open PySem PySem.W PyProof.Rows in
set_option maxRecDepth 100000 in
set_option maxHeartbeats 0 in
set_option pp.maxSteps 120 in
theorem PySem.Challenge.cw_sumlives_k15_parts_of_books_made_holds : PySem.Challenge.rw_sumlives_k15_parts_of_books_made.Holds := by
  w_on; o_law; k_head; (case hw => w_witness2)
  k_fill
  refine L2.walk_law (l := PySem.Challenge.rw_sumlives_k15_parts_of_books_made) (n := 63) (k := 36) (sp := K14.spLaw15) rfl (by decide) rfl ⟨rfl, by decide, by decide⟩ (fun w h Y => PySem.W.kIn_of Y) ?F (fun K H a ns hl hS => ⟨a, ns, rfl, hS, hl, fun _ => rfl⟩)
  case F =>
    intro w mg fa h KX G hmg
    replace hmg : mg "law" = some (.ref fa) := hmg
    refine' K14.facts KX G hmg ?aAM ?lAM ?aNN ?lNN ?aW ?pgW ?hdW ?poW ?saW ?mkW ?kpW ?cG ?cT ?ocW ?omW ?kW_str ?kW_int ?kW_bool ?kW_list ?kW_tuple ?nW0 ?iniW ?fniW ?l_Was_init ?c_Was_init ?k_Was_init ?hsW ?fsW ?fmW ?l_Was_str ?c_Was_str ?k_Was_str ?aO ?pgO ?hdO ?poO ?saO ?mkO ?kpO ?ocO ?omO ?kO_str ?kO_int ?kO_bool ?kO_list ?kO_tuple ?nO0 ?iniO ?fniO ?l_OldBelow_init ?c_OldBelow_init ?k_OldBelow_init ?hsO ?fsO ?fmO ?l_OldBelow_str ?c_OldBelow_str ?k_OldBelow_str ?aB ?pgB ?hdB ?poB ?saB ?mkB ?kpB ?ocB ?omB ?kB_str ?kB_int ?kB_bool ?kB_list ?kB_tuple ?nB0 ?iniB ?fniB ?l_NewBelow_init ?c_NewBelow_init ?k_NewBelow_init ?hsB ?fsB ?fmB ?l_NewBelow_str ?c_NewBelow_str ?k_NewBelow_str ?aM ?pgM ?hdM ?poM ?saM ?mkM ?kpM ?ocM ?omM ?kM_str ?kM_int ?kM_bool ?kM_list ?kM_tuple ?iniM ?hsM ?fsM ?fmM ?l_Moved_str ?c_Moved_str ?k_Moved_str ?aT ?pgT ?hdT ?poT ?saT ?mkT ?kpT ?ocT ?omT ?kT_str ?kT_int ?kT_bool ?kT_list ?kT_tuple ?iniT ?hsT ?fsT ?fmT ?l_Noted_str ?c_Noted_str ?k_Noted_str ?aN ?pgN ?hdN ?poN ?saN ?mkN ?kpN ?ocN ?omN ?kN_str ?kN_int ?kN_bool ?kN_list ?kN_tuple ?nN0 ?iniN ?fniN ?l_Not_init ?c_Not_init ?k_Not_init ?hsN ?fsN ?fmN ?l_Not_str ?c_Not_str ?k_Not_str ?aA ?pgA ?hdA ?poA ?saA ?mkA ?kpA ?ocA ?omA ?kA_str ?kA_int ?kA_bool ?kA_list ?kA_tuple ?nA0 ?nA1 ?nA2 ?nA3 ?iniA ?fniA ?l_Add_init ?c_Add_init ?k_Add_init ?hsA ?fsA ?fmA ?l_Add_str ?c_Add_str ?k_Add_str ?heA ?feA ?sfA ?neA ?l_Add_eq ?c_Add_eq ?k_Add_eq ?ntA ?nsA ?ktA ?ksA ?kkA ?aP ?pgP ?hdP ?poP ?saP ?mkP ?kpP ?ocP ?omP ?kP_str ?kP_int ?kP_bool ?kP_list ?kP_tuple ?nP0 ?nP1 ?iniP ?fniP ?l_Put_init ?c_Put_init ?k_Put_init ?hsP ?fsP ?fmP ?l_Put_str ?c_Put_str ?k_Put_str ?heP ?feP ?sfP ?neP ?l_Put_eq ?c_Put_eq ?k_Put_eq ?ntP ?nsP ?ktP ?ksP ?kkP ?aK ?pgK ?hdK ?poK ?saK ?mkK ?kpK ?ocK ?omK ?kK_str ?kK_int ?kK_bool ?kK_list ?kK_tuple ?nK0 ?iniK ?fniK ?l_Mark_init ?c_Mark_init ?k_Mark_init ?hsK ?fsK ?fmK ?l_Mark_str ?c_Mark_str ?k_Mark_str ?heK ?feK ?sfK ?neK ?l_Mark_eq ?c_Mark_eq ?k_Mark_eq ?ntK ?nsK ?ktK ?ksK ?kkK ?aI ?pgI ?hdI ?poI ?saI ?mkI ?kpI ?ocI ?omI ?kI_str ?kI_int ?kI_bool ?kI_list ?kI_tuple ?nI0 ?nI1 ?nI2 ?iniI ?fniI ?l_If_init ?c_If_init ?k_If_init ?lTI ?hsI ?fsI ?fmI ?l_If_str ?c_If_str ?k_If_str ?heI ?feI ?sfI ?neI ?l_If_eq ?c_If_eq ?k_If_eq ?ntI ?nsI ?ktI ?ksI ?kkI ?aE ?pgE ?hdE ?poE ?saE ?mkE ?kpE ?ocE ?omE ?kE_str ?kE_int ?kE_bool ?kE_list ?kE_tuple ?nE0 ?nE1 ?nE2 ?nE3 ?nE4 ?iniE ?fniE ?l_Event_init ?c_Event_init ?k_Event_init ?lTE ?hsE ?fsE ?fmE ?l_Event_str ?c_Event_str ?k_Event_str ?heE ?feE ?sfE ?neE ?l_Event_eq ?c_Event_eq ?k_Event_eq ?ntE ?nsE ?ktE ?ksE ?kkE ?aV ?pgV ?hdV ?poV ?saV ?mkV ?kpV ?ocV ?omV ?kV_str ?kV_int ?kV_bool ?kV_list ?kV_tuple ?nV0 ?nV1 ?nV2 ?nV3 ?nV4 ?nV5 ?iniV ?fniV ?l_Worth_init ?c_Worth_init ?k_Worth_init ?lTV ?hsV ?fsV ?fmV ?l_Worth_str ?c_Worth_str ?k_Worth_str ?heV ?feV ?sfV ?neV ?l_Worth_eq ?c_Worth_eq ?k_Worth_eq ?ntV ?nsV ?ktV ?ksV ?kkV ?aH ?pgH ?hdH ?poH ?saH ?mkH ?kpH ?ocH ?omH ?kH_str ?kH_int ?kH_bool ?kH_list ?kH_tuple ?nH0 ?nH1 ?iniH ?fniH ?l_Handler_init ?c_Handler_init ?k_Handler_init ?lTH ?hsH ?fsH ?fmH ?l_Handler_str ?c_Handler_str ?k_Handler_str ?heH ?feH ?sfH ?neH ?l_Handler_eq ?c_Handler_eq ?k_Handler_eq ?ntH ?nsH ?ktH ?ksH ?kkH ?aTS ?bTS_W ?bTS_O ?bTS_B ?bTS_M ?bTS_T ?bTS_N ?aRW ?bRW_A ?bRW_P ?bRW_K ?bRW_I ?hU ?l_tH ?nEV ?kVE ?a_is_integer ?l_is_integer ?c_is_integer ?k_is_integer ?a_is_sequence ?l_is_sequence ?c_is_sequence ?k_is_sequence ?a_is_name ?l_is_name ?c_is_name ?k_is_name ?a_are_names ?l_are_names ?c_are_names ?k_are_names ?a_are_origins ?l_are_origins ?c_are_origins ?k_are_origins ?a_may_bring ?l_may_bring ?c_may_bring ?k_may_bring ?a_check ?l_check ?c_check ?k_check ?a_is_kind ?l_is_kind ?c_is_kind ?k_is_kind ?a_is_what ?l_is_what ?c_is_what ?k_is_what ?a_are_rows ?l_are_rows ?c_are_rows ?k_are_rows ?a_block_lines ?l_block_lines ?c_block_lines ?k_block_lines ?a_law_box ?l_law_box ?c_law_box ?k_law_box ?a_law_take ?l_law_take ?c_law_take ?k_law_take ?a_law_pick ?l_law_pick ?c_law_pick ?k_law_pick ?a_law_mixed ?l_law_mixed ?c_law_mixed ?k_law_mixed ?a_law_names ?l_law_names ?c_law_names ?k_law_names ?a_law_number ?l_law_number ?c_law_number ?k_law_number ?a_law_test ?l_law_test ?c_law_test ?k_law_test ?a_law_row ?l_law_row ?c_law_row ?k_law_row ?a_law_rows ?l_law_rows ?c_law_rows ?k_law_rows ?a_law_event ?l_law_event ?c_law_event ?k_law_event ?a_law_worth ?l_law_worth ?c_law_worth ?k_law_worth ?a_law_book ?l_law_book ?c_law_book ?k_law_book ?a_law_test_text ?l_law_test_text ?c_law_test_text ?k_law_test_text ?a_law_row_lines ?l_law_row_lines ?c_law_row_lines ?k_law_row_lines ?a_law_event_text ?l_law_event_text ?c_law_event_text ?k_law_event_text ?a_law_worth_text ?l_law_worth_text ?c_law_worth_text ?k_law_worth_text ?a_law_test_of ?l_law_test_of ?c_law_test_of ?k_law_test_of ?a_law_row_of ?l_law_row_of ?c_law_row_of ?k_law_row_of ?a_law_rows_of ?l_law_rows_of ?c_law_rows_of ?k_law_rows_of ?a_law_event_of ?l_law_event_of ?c_law_event_of ?k_law_event_of ?a_law_worth_of ?l_law_worth_of ?c_law_worth_of ?k_law_worth_of ?a_law_event_told ?l_law_event_told ?c_law_event_told ?k_law_event_told ?a_law_worth_told ?l_law_worth_told ?c_law_worth_told ?k_law_worth_told ?a_law_events_right ?l_law_events_right ?c_law_events_right ?k_law_events_right ?a_law_worths_right ?l_law_worths_right ?c_law_worths_right ?k_law_worths_right ?a_law_other ?l_law_other ?c_law_other ?k_law_other ?a_law ?l_law ?c_law ?k_law ?z_len ?z_abs ?z_int ?z_max ?z_min ?z_range ?z_enumerate ?z_isinstance ?z_repr ?z_zip ?z_sum ?z_all ?z_tuple ?z_list ?z_bool ?z_sorted ?z_dict ?z_str ?z_set
    (case aAM => k_is)
    (case lAM => k_is)
    (case aNN => k_is)
    (case lNN => k_is)
    (case aW => k_is)
    (case pgW => k_is)
    (case hdW => k_is)
    (case poW => k_is)
    (case saW => k_is)
    (case mkW => k_is)
    (case kpW => k_is)
    (case cG => k_is)
    (case cT => k_is)
    (case ocW => k_is)
    (case omW => k_is)
    (case kW_str => kit_is)
    (case kW_int => kit_is)
    (case kW_bool => kit_is)
    (case kW_list => kit_is)
    (case kW_tuple => kit_is)
    (case nW0 => k_is)
    (case iniW => k_is)
    (case fniW => k_is)
    (case l_Was_init => k_is)
    (case c_Was_init => k_is)
    (case k_Was_init => k_is)
    (case hsW => k_is)
    (case fsW => k_is)
    (case fmW => k_is)
    (case l_Was_str => k_is)
    (case c_Was_str => k_is)
    (case k_Was_str => k_is)
    (case aO => k_is)
    (case pgO => k_is)
    (case hdO => k_is)
    (case poO => k_is)
    (case saO => k_is)
    (case mkO => k_is)
    (case kpO => k_is)
    (case ocO => k_is)
    (case omO => k_is)
    (case kO_str => kit_is)
    (case kO_int => kit_is)
    (case kO_bool => kit_is)
    (case kO_list => kit_is)
    (case kO_tuple => kit_is)
    (case nO0 => k_is)
    (case iniO => k_is)
    (case fniO => k_is)
    (case l_OldBelow_init => k_is)
    (case c_OldBelow_init => k_is)
    (case k_OldBelow_init => k_is)
    (case hsO => k_is)
    (case fsO => k_is)
    (case fmO => k_is)
    (case l_OldBelow_str => k_is)
    (case c_OldBelow_str => k_is)
    (case k_OldBelow_str => k_is)
    (case aB => k_is)
    (case pgB => k_is)
    (case hdB => k_is)
    (case poB => k_is)
    (case saB => k_is)
    (case mkB => k_is)
    (case kpB => k_is)
    (case ocB => k_is)
    (case omB => k_is)
    (case kB_str => kit_is)
    (case kB_int => kit_is)
    (case kB_bool => kit_is)
    (case kB_list => kit_is)
    (case kB_tuple => kit_is)
    (case nB0 => k_is)
    (case iniB => k_is)
    (case fniB => k_is)
    (case l_NewBelow_init => k_is)
    (case c_NewBelow_init => k_is)
    (case k_NewBelow_init => k_is)
    (case hsB => k_is)
    (case fsB => k_is)
    (case fmB => k_is)
    (case l_NewBelow_str => k_is)
    (case c_NewBelow_str => k_is)
    (case k_NewBelow_str => k_is)
    (case aM => k_is)
    (case pgM => k_is)
    (case hdM => k_is)
    (case poM => k_is)
    (case saM => k_is)
    (case mkM => k_is)
    (case kpM => k_is)
    (case ocM => k_is)
    (case omM => k_is)
    (case kM_str => kit_is)
    (case kM_int => kit_is)
    (case kM_bool => kit_is)
    (case kM_list => kit_is)
    (case kM_tuple => kit_is)
    (case iniM => k_is)
    (case hsM => k_is)
    (case fsM => k_is)
    (case fmM => k_is)
    (case l_Moved_str => k_is)
    (case c_Moved_str => k_is)
    (case k_Moved_str => k_is)
    (case aT => k_is)
    (case pgT => k_is)
    (case hdT => k_is)
    (case poT => k_is)
    (case saT => k_is)
    (case mkT => k_is)
    (case kpT => k_is)
    (case ocT => k_is)
    (case omT => k_is)
    (case kT_str => kit_is)
    (case kT_int => kit_is)
    (case kT_bool => kit_is)
    (case kT_list => kit_is)
    (case kT_tuple => kit_is)
    (case iniT => k_is)
    (case hsT => k_is)
    (case fsT => k_is)
    (case fmT => k_is)
    (case l_Noted_str => k_is)
    (case c_Noted_str => k_is)
    (case k_Noted_str => k_is)
    (case aN => k_is)
    (case pgN => k_is)
    (case hdN => k_is)
    (case poN => k_is)
    (case saN => k_is)
    (case mkN => k_is)
    (case kpN => k_is)
    (case ocN => k_is)
    (case omN => k_is)
    (case kN_str => kit_is)
    (case kN_int => kit_is)
    (case kN_bool => kit_is)
    (case kN_list => kit_is)
    (case kN_tuple => kit_is)
    (case nN0 => k_is)
    (case iniN => k_is)
    (case fniN => k_is)
    (case l_Not_init => k_is)
    (case c_Not_init => k_is)
    (case k_Not_init => k_is)
    (case hsN => k_is)
    (case fsN => k_is)
    (case fmN => k_is)
    (case l_Not_str => k_is)
    (case c_Not_str => k_is)
    (case k_Not_str => k_is)
    (case aA => k_is)
    (case pgA => k_is)
    (case hdA => k_is)
    (case poA => k_is)
    (case saA => k_is)
    (case mkA => k_is)
    (case kpA => k_is)
    (case ocA => k_is)
    (case omA => k_is)
    (case kA_str => kit_is)
    (case kA_int => kit_is)
    (case kA_bool => kit_is)
    (case kA_list => kit_is)
    (case kA_tuple => kit_is)
    (case nA0 => k_is)
    (case nA1 => k_is)
    (case nA2 => k_is)
    (case nA3 => k_is)
    (case iniA => k_is)
    (case fniA => k_is)
    (case l_Add_init => k_is)
    (case c_Add_init => k_is)
    (case k_Add_init => k_is)
    (case hsA => k_is)
    (case fsA => k_is)
    (case fmA => k_is)
    (case l_Add_str => k_is)
    (case c_Add_str => k_is)
    (case k_Add_str => k_is)
    (case heA => k_is)
    (case feA => k_is)
    (case sfA => k_is)
    (case neA => k_is)
    (case l_Add_eq => k_is)
    (case c_Add_eq => k_is)
    (case k_Add_eq => k_is)
    (case ntA => k_is)
    (case nsA => k_is)
    (case ktA => kit_is)
    (case ksA => kit_is)
    (case kkA => exact if_pos (beq_self_eq_true _))
    (case aP => k_is)
    (case pgP => k_is)
    (case hdP => k_is)
    (case poP => k_is)
    (case saP => k_is)
    (case mkP => k_is)
    (case kpP => k_is)
    (case ocP => k_is)
    (case omP => k_is)
    (case kP_str => kit_is)
    (case kP_int => kit_is)
    (case kP_bool => kit_is)
    (case kP_list => kit_is)
    (case kP_tuple => kit_is)
    (case nP0 => k_is)
    (case nP1 => k_is)
    (case iniP => k_is)
    (case fniP => k_is)
    (case l_Put_init => k_is)
    (case c_Put_init => k_is)
    (case k_Put_init => k_is)
    (case hsP => k_is)
    (case fsP => k_is)
    (case fmP => k_is)
    (case l_Put_str => k_is)
    (case c_Put_str => k_is)
    (case k_Put_str => k_is)
    (case heP => k_is)
    (case feP => k_is)
    (case sfP => k_is)
    (case neP => k_is)
    (case l_Put_eq => k_is)
    (case c_Put_eq => k_is)
    (case k_Put_eq => k_is)
    (case ntP => k_is)
    (case nsP => k_is)
    (case ktP => kit_is)
    (case ksP => kit_is)
    (case kkP => exact if_pos (beq_self_eq_true _))
    (case aK => k_is)
    (case pgK => k_is)
    (case hdK => k_is)
    (case poK => k_is)
    (case saK => k_is)
    (case mkK => k_is)
    (case kpK => k_is)
    (case ocK => k_is)
    (case omK => k_is)
    (case kK_str => kit_is)
    (case kK_int => kit_is)
    (case kK_bool => kit_is)
    (case kK_list => kit_is)
    (case kK_tuple => kit_is)
    (case nK0 => k_is)
    (case iniK => k_is)
    (case fniK => k_is)
    (case l_Mark_init => k_is)
    (case c_Mark_init => k_is)
    (case k_Mark_init => k_is)
    (case hsK => k_is)
    (case fsK => k_is)
    (case fmK => k_is)
    (case l_Mark_str => k_is)
    (case c_Mark_str => k_is)
    (case k_Mark_str => k_is)
    (case heK => k_is)
    (case feK => k_is)
    (case sfK => k_is)
    (case neK => k_is)
    (case l_Mark_eq => k_is)
    (case c_Mark_eq => k_is)
    (case k_Mark_eq => k_is)
    (case ntK => k_is)
    (case nsK => k_is)
    (case ktK => kit_is)
    (case ksK => kit_is)
    (case kkK => exact if_pos (beq_self_eq_true _))
    (case aI => k_is)
    (case pgI => k_is)
    (case hdI => k_is)
    (case poI => k_is)
    (case saI => k_is)
    (case mkI => k_is)
    (case kpI => k_is)
    (case ocI => k_is)
    (case omI => k_is)
    (case kI_str => kit_is)
    (case kI_int => kit_is)
    (case kI_bool => kit_is)
    (case kI_list => kit_is)
    (case kI_tuple => kit_is)
    (case nI0 => k_is)
    (case nI1 => k_is)
    (case nI2 => k_is)
    (case iniI => k_is)
    (case fniI => k_is)
    (case l_If_init => k_is)
    (case c_If_init => k_is)
    (case k_If_init => k_is)
    (case lTI => k_is)
    (case hsI => k_is)
    (case fsI => k_is)
    (case fmI => k_is)
    (case l_If_str => k_is)
    (case c_If_str => k_is)
    (case k_If_str => k_is)
    (case heI => k_is)
    (case feI => k_is)
    (case sfI => k_is)
    (case neI => k_is)
    (case l_If_eq => k_is)
    (case c_If_eq => k_is)
    (case k_If_eq => k_is)
    (case ntI => k_is)
    (case nsI => k_is)
    (case ktI => kit_is)
    (case ksI => kit_is)
    (case kkI => exact if_pos (beq_self_eq_true _))
    (case aE => k_is)
    (case pgE => k_is)
    (case hdE => k_is)
    (case poE => k_is)
    (case saE => k_is)
    (case mkE => k_is)
    (case kpE => k_is)
    (case ocE => k_is)
    (case omE => k_is)
    (case kE_str => kit_is)
    (case kE_int => kit_is)
    (case kE_bool => kit_is)
    (case kE_list => kit_is)
    (case kE_tuple => kit_is)
    (case nE0 => k_is)
    (case nE1 => k_is)
    (case nE2 => k_is)
    (case nE3 => k_is)
    (case nE4 => k_is)
    (case iniE => k_is)
    (case fniE => k_is)
    (case l_Event_init => k_is)
    (case c_Event_init => k_is)
    (case k_Event_init => k_is)
    (case lTE => k_is)
    (case hsE => k_is)
    (case fsE => k_is)
    (case fmE => k_is)
    (case l_Event_str => k_is)
    (case c_Event_str => k_is)
    (case k_Event_str => k_is)
    (case heE => k_is)
    (case feE => k_is)
    (case sfE => k_is)
    (case neE => k_is)
    (case l_Event_eq => k_is)
    (case c_Event_eq => k_is)
    (case k_Event_eq => k_is)
    (case ntE => k_is)
    (case nsE => k_is)
    (case ktE => kit_is)
    (case ksE => kit_is)
    (case kkE => exact if_pos (beq_self_eq_true _))
    (case aV => k_is)
    (case pgV => k_is)
    (case hdV => k_is)
    (case poV => k_is)
    (case saV => k_is)
    (case mkV => k_is)
    (case kpV => k_is)
    (case ocV => k_is)
    (case omV => k_is)
    (case kV_str => kit_is)
    (case kV_int => kit_is)
    (case kV_bool => kit_is)
    (case kV_list => kit_is)
    (case kV_tuple => kit_is)
    (case nV0 => k_is)
    (case nV1 => k_is)
    (case nV2 => k_is)
    (case nV3 => k_is)
    (case nV4 => k_is)
    (case nV5 => k_is)
    (case iniV => k_is)
    (case fniV => k_is)
    (case l_Worth_init => k_is)
    (case c_Worth_init => k_is)
    (case k_Worth_init => k_is)
    (case lTV => k_is)
    (case hsV => k_is)
    (case fsV => k_is)
    (case fmV => k_is)
    (case l_Worth_str => k_is)
    (case c_Worth_str => k_is)
    (case k_Worth_str => k_is)
    (case heV => k_is)
    (case feV => k_is)
    (case sfV => k_is)
    (case neV => k_is)
    (case l_Worth_eq => k_is)
    (case c_Worth_eq => k_is)
    (case k_Worth_eq => k_is)
    (case ntV => k_is)
    (case nsV => k_is)
    (case ktV => kit_is)
    (case ksV => kit_is)
    (case kkV => exact if_pos (beq_self_eq_true _))
    (case aH => k_is)
    (case pgH => k_is)
    (case hdH => k_is)
    (case poH => k_is)
    (case saH => k_is)
    (case mkH => k_is)
    (case kpH => k_is)
    (case ocH => k_is)
    (case omH => k_is)
    (case kH_str => kit_is)
    (case kH_int => kit_is)
    (case kH_bool => kit_is)
    (case kH_list => kit_is)
    (case kH_tuple => kit_is)
    (case nH0 => k_is)
    (case nH1 => k_is)
    (case iniH => k_is)
    (case fniH => k_is)
    (case l_Handler_init => k_is)
    (case c_Handler_init => k_is)
    (case k_Handler_init => k_is)
    (case lTH => k_is)
    (case hsH => k_is)
    (case fsH => k_is)
    (case fmH => k_is)
    (case l_Handler_str => k_is)
    (case c_Handler_str => k_is)
    (case k_Handler_str => k_is)
    (case heH => k_is)
    (case feH => k_is)
    (case sfH => k_is)
    (case neH => k_is)
    (case l_Handler_eq => k_is)
    (case c_Handler_eq => k_is)
    (case k_Handler_eq => k_is)
    (case ntH => k_is)
    (case nsH => k_is)
    (case ktH => kit_is)
    (case ksH => kit_is)
    (case kkH => exact if_pos (beq_self_eq_true _))
    (case aTS => k_is)
    (case bTS_W => kit_is)
    (case bTS_O => kit_is)
    (case bTS_B => kit_is)
    (case bTS_M => kit_is)
    (case bTS_T => kit_is)
    (case bTS_N => kit_is)
    (case aRW => k_is)
    (case bRW_A => kit_is)
    (case bRW_P => kit_is)
    (case bRW_K => kit_is)
    (case bRW_I => kit_is)
    (case hU => first | decide | decide +kernel)
    (case l_tH => k_is)
    (case nEV => first | k_is | decide +kernel)
    (case kVE => kit_is)
    (case a_is_integer => k_is)
    (case l_is_integer => k_is)
    (case c_is_integer => k_is)
    (case k_is_integer => k_is)
    (case a_is_sequence => k_is)
    (case l_is_sequence => k_is)
    (case c_is_sequence => k_is)
    (case k_is_sequence => k_is)
    (case a_is_name => k_is)
    (case l_is_name => k_is)
    (case c_is_name => k_is)
    (case k_is_name => k_is)
    (case a_are_names => k_is)
    (case l_are_names => k_is)
    (case c_are_names => k_is)
    (case k_are_names => k_is)
    (case a_are_origins => k_is)
    (case l_are_origins => k_is)
    (case c_are_origins => k_is)
    (case k_are_origins => k_is)
    (case a_may_bring => k_is)
    (case l_may_bring => k_is)
    (case c_may_bring => k_is)
    (case k_may_bring => k_is)
    (case a_check => k_is)
    (case l_check => k_is)
    (case c_check => k_is)
    (case k_check => k_is)
    (case a_is_kind => k_is)
    (case l_is_kind => k_is)
    (case c_is_kind => k_is)
    (case k_is_kind => k_is)
    (case a_is_what => k_is)
    (case l_is_what => k_is)
    (case c_is_what => k_is)
    (case k_is_what => k_is)
    (case a_are_rows => k_is)
    (case l_are_rows => k_is)
    (case c_are_rows => k_is)
    (case k_are_rows => k_is)
    (case a_block_lines => k_is)
    (case l_block_lines => k_is)
    (case c_block_lines => k_is)
    (case k_block_lines => k_is)
    (case a_law_box => k_is)
    (case l_law_box => k_is)
    (case c_law_box => k_is)
    (case k_law_box => k_is)
    (case a_law_take => k_is)
    (case l_law_take => k_is)
    (case c_law_take => k_is)
    (case k_law_take => k_is)
    (case a_law_pick => k_is)
    (case l_law_pick => k_is)
    (case c_law_pick => k_is)
    (case k_law_pick => k_is)
    (case a_law_mixed => k_is)
    (case l_law_mixed => k_is)
    (case c_law_mixed => k_is)
    (case k_law_mixed => k_is)
    (case a_law_names => k_is)
    (case l_law_names => k_is)
    (case c_law_names => k_is)
    (case k_law_names => k_is)
    (case a_law_number => k_is)
    (case l_law_number => k_is)
    (case c_law_number => k_is)
    (case k_law_number => k_is)
    (case a_law_test => k_is)
    (case l_law_test => k_is)
    (case c_law_test => k_is)
    (case k_law_test => k_is)
    (case a_law_row => k_is)
    (case l_law_row => k_is)
    (case c_law_row => k_is)
    (case k_law_row => k_is)
    (case a_law_rows => k_is)
    (case l_law_rows => k_is)
    (case c_law_rows => k_is)
    (case k_law_rows => k_is)
    (case a_law_event => k_is)
    (case l_law_event => k_is)
    (case c_law_event => k_is)
    (case k_law_event => k_is)
    (case a_law_worth => k_is)
    (case l_law_worth => k_is)
    (case c_law_worth => k_is)
    (case k_law_worth => k_is)
    (case a_law_book => k_is)
    (case l_law_book => k_is)
    (case c_law_book => k_is)
    (case k_law_book => k_is)
    (case a_law_test_text => k_is)
    (case l_law_test_text => k_is)
    (case c_law_test_text => k_is)
    (case k_law_test_text => k_is)
    (case a_law_row_lines => k_is)
    (case l_law_row_lines => k_is)
    (case c_law_row_lines => k_is)
    (case k_law_row_lines => k_is)
    (case a_law_event_text => k_is)
    (case l_law_event_text => k_is)
    (case c_law_event_text => k_is)
    (case k_law_event_text => k_is)
    (case a_law_worth_text => k_is)
    (case l_law_worth_text => k_is)
    (case c_law_worth_text => k_is)
    (case k_law_worth_text => k_is)
    (case a_law_test_of => k_is)
    (case l_law_test_of => k_is)
    (case c_law_test_of => k_is)
    (case k_law_test_of => k_is)
    (case a_law_row_of => k_is)
    (case l_law_row_of => k_is)
    (case c_law_row_of => k_is)
    (case k_law_row_of => k_is)
    (case a_law_rows_of => k_is)
    (case l_law_rows_of => k_is)
    (case c_law_rows_of => k_is)
    (case k_law_rows_of => k_is)
    (case a_law_event_of => k_is)
    (case l_law_event_of => k_is)
    (case c_law_event_of => k_is)
    (case k_law_event_of => k_is)
    (case a_law_worth_of => k_is)
    (case l_law_worth_of => k_is)
    (case c_law_worth_of => k_is)
    (case k_law_worth_of => k_is)
    (case a_law_event_told => k_is)
    (case l_law_event_told => k_is)
    (case c_law_event_told => k_is)
    (case k_law_event_told => k_is)
    (case a_law_worth_told => k_is)
    (case l_law_worth_told => k_is)
    (case c_law_worth_told => k_is)
    (case k_law_worth_told => k_is)
    (case a_law_events_right => k_is)
    (case l_law_events_right => k_is)
    (case c_law_events_right => k_is)
    (case k_law_events_right => k_is)
    (case a_law_worths_right => k_is)
    (case l_law_worths_right => k_is)
    (case c_law_worths_right => k_is)
    (case k_law_worths_right => k_is)
    (case a_law_other => k_is)
    (case l_law_other => k_is)
    (case c_law_other => k_is)
    (case k_law_other => k_is)
    (case a_law => k_is)
    (case l_law => k_is)
    (case c_law => k_is)
    (case k_law => k_is)
    (case z_len => k_is)
    (case z_abs => k_is)
    (case z_int => k_is)
    (case z_max => k_is)
    (case z_min => k_is)
    (case z_range => k_is)
    (case z_enumerate => k_is)
    (case z_isinstance => k_is)
    (case z_repr => k_is)
    (case z_zip => k_is)
    (case z_sum => k_is)
    (case z_all => k_is)
    (case z_tuple => k_is)
    (case z_list => k_is)
    (case z_bool => k_is)
    (case z_sorted => k_is)
    (case z_dict => k_is)
    (case z_str => k_is)
    (case z_set => k_is)
