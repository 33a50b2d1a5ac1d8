import PyProof.Rows.All
import Wide.All
import OpenK.AllK
import Wide.FinOn
import HandS.ForMost
import HandS.Zip
import HandS.Walk
import HandS.Star
import HandS.Style
import HandS.Gcd
import HandS.WideBits
import HandS.IsInst
import HandS.Defaults
import HandS.RaiseMore
import KE.GoesMore
import HandS.OwnEq
import HandS.IterVal
import HandS.ClsMeth
import HandS.Small
import KE.KCallOwn
import KE.KFmtOwn
import HandS.FStr
import HandS.Deep
import HandS.Wide
import HandS.ExcInit
import HandS.Text
import HandS.StrMore
import HandS.Dict
import HandS.Codes
import HandS.GenCall
import PyProof.Rows.ReprOcc
import PyProof.Rows.StrAscii
import PyProof.StrLawsRepr
import PyProof.ReprRoads
import PyProof.NeKinds
import PyProof.ReprBulk
import PyProof.P3Eq
import HandS.Head0
import HandS.Head1
import HandS.Head2
import HandS.HeadHook1
import HandS.HeadHook2
import HandS.HeadHook3
import HandS.HeadHook4
import HandS.HeadEnd
import KE.KStateDown
import PySem.Challenge.RW_sumlives_k13_rows_and_tests_made
set_option Elab.async false
set_option maxRecDepth 100000
set_option maxHeartbeats 8000000
namespace L2
open PySem PySem.Spec PyProof.Rows RZ
section
variable {X : Cx}
/-- // by any number but 0 that the model divides itself -/
def CDivZ (i j : Int) : Prop := j ≠ 0 ∧ Builtin.divisionGoesByPylong i j = false
theorem op_fdivZ : OpR X (binaryOp .FloorDiv) (rI CDivZ fun i j => .int (i.fdiv j)) := opI fun _ _ _ _ _ _ _ hc q => floordiv_int hc.1 q (.inl hc.2)
/-- a for over a list or a tuple -/
def iSeq (K : PySem.W.Frag) (t : TE) : TI := fun σ H R => iList K t σ H R ∨ iTup K t σ H R
theorem pi_seq {tg l : Expr} {tl : TE} (h : PE X l tl) : PI X tg l (iSeq X.K tl) := ⟨fun pins s σ H R I q => q.elim ((pi_list h).run pins s σ H R I) ((pi_tup h).run pins s σ H R I)⟩
end
/-! ### enumerate(tuple) -/
def IteT (K : PySem.W.Frag) (a : Addr) : It :=
  ⟨fun i H => ∃ (ys : List V) (y : V), SqT K H a ys ∧ ys[i]? = some y,
   fun i H v H' => ∃ T y, v = .ref T ∧ H T = none ∧ H' = upd H T (.tup [.int (i : Nat), y]) ∧ ∀ ys, SqT K H a ys → ys[i]? = some y,
   fun i H => ∃ ys : List V, SqT K H a ys ∧ ys.length = i⟩
theorem turn_enumT {P : Program} {w : World} {K : PySem.W.Frag} {elts : List Expr} {kk : Nat} {tpos : Pos} (a e it : Addr) (hia : a ≠ it) (hea : a ≠ e) :
    Turn P w K (.Tuple elts kk tpos) (IteT K a) [e, it] e (fun i h => (∃ old, IsEnum h e it ((i : Nat) : Int) old) ∧ h.IsTupleIter it a i ∧ e ≠ it) where
  mem := List.mem_cons_self
  obj := fun i h st b hb => by
    obtain ⟨⟨old, he⟩, ⟨o, ho, _, hd⟩, _⟩ := st
    rcases List.mem_cons.mp hb with z | z
    · rw [z]
      exact ⟨_, he, fun v q => nomatch q⟩
    · rw [List.mem_singleton.mp z]
      exact ⟨o, ho, fun v q => by rw [hd] at q; cases q⟩
  keep := fun i h h' st k => by
    obtain ⟨⟨old, he⟩, hi, hne⟩ := st
    exact ⟨⟨old, k e (by simp) _ he⟩, hi.at fun o q => k it (by simp) o q, hne⟩
  item := by
    intro X hP hw hK hc i pins s σ H E I hf st hg
    subst hP hw hK
    obtain ⟨⟨old, he⟩, hit, hne⟩ := st
    obtain ⟨ys, y, hq, hy⟩ := hg
    obtain ⟨its, rv, p, hz⟩ := I.tuple hq
    obtain ⟨u, hu, ru⟩ := rv.get hy
    have hel : e < s.heap.objs.size := Heap.lt_size he
    have hil : it < s.heap.objs.size := by
      obtain ⟨_, q, _⟩ := id hit
      exact Heap.lt_size q
    have hsz : i < its.toArray.size := by
      rw [List.size_toArray]
      exact (List.getElem?_eq_some_iff.mp hu).1
    refine wpAny_pyNext_enum_itemD (Draws.tuple (A := X.A.in1) (I.ok.hd hc) it a hia its.toArray) he ⟨hit, p⟩ hsz hne (fun z => ?_) fun x h' tk hx ho st' hT hs1 hk => ?_
    · rcases List.mem_cons.mp z with z | z
      · exact hne z
      · exact hea (List.mem_singleton.mp z).symm
    have ex : x = u := by
      have z : its.toArray[i]? = some x := hx
      rw [show its.toArray[i]? = its[i]? by simp, hu] at z
      exact (Option.some.inj z).symm
    subst ex
    refine ⟨_, rfl, wpAny_letOwnedTupleGo_enum (s := { s with heap := h', toks := tk + 1 }) ho fun h'' he' sb => ?_⟩
    have hT2 : h''.get? s.heap.objs.size = some { cls := .type "tuple", data := .seq #[.int i tk, x] } := (sb.2 _ (Nat.ne_of_gt hel)).trans hT
    have new : ObjOk X.prog X.w (upd H s.heap.objs.size (.tup [.int (i : Nat), y])) h'' s.heap.objs.size (.tup [.int (i : Nat), y]) :=
      ⟨by show 2 ≤ sizeLine; decide, [.int i tk, x], .cons ⟨_, rfl⟩ (.cons ru .nil), _, hT2, rfl, _, rfl⟩
    have J : Inv X pins σ (upd H s.heap.objs.size (.tup [.int (i : Nat), y])) { s with heap := h'', toks := tk + 1 } :=
      I.turnedNew (ch := [e, it]) (fun b ob hb q => (sb.2 b fun z => hb (by simp [z])).trans (hk b ob (fun z => hb (by simp [z])) (fun z => hb (by simp [z])) q)) hf (Nat.le_refl _) new
    refine ⟨.ref s.heap.objs.size, _, J, rfl, ⟨_, y, rfl, I.hok.fresh (Nat.le_refl _), rfl, fun l hl => by rw [I.tuple_inj hl hq]; exact hy⟩, ⟨⟨x, ?_⟩, st'.1.at fun o q => (sb.2 it (Ne.symm hne)).trans q, hne⟩, fun b hb => ?_⟩
    · rw [show ((i + 1 : Nat) : Int) = (i : Int) + 1 by omega]
      exact he'
    · have hlt : b < s.heap.objs.size := by
        rcases List.mem_cons.mp hb with z | z
        · rw [z]; exact hel
        · rw [List.mem_singleton.mp z]; exact hil
      rw [upd_ne (Nat.ne_of_lt hlt)]
      exact (hf b hb).1
  done := by
    intro X hP hw hK hc i pins s σ H E I hf st hg
    subst hP hw hK
    obtain ⟨⟨old, he⟩, hit, hne⟩ := st
    obtain ⟨ys, hq, hy⟩ := hg
    obtain ⟨its, rv, p, hz⟩ := I.tuple hq
    obtain ⟨f0, f1, f2, f3, f4, f5⟩ := hf it (by simp)
    have hl := rv.length
    have hn : i = its.toArray.size := by rw [List.size_toArray]; omega
    subst hn
    exact wpAny_pyNext_enum_endD (Draws.tuple (A := X.A.in1) (I.ok.hd hc) it a hia its.toArray) he ⟨hit, p⟩ fun h' eb => ⟨rfl, I.turned (t' := s.toks) (fun b o hb q => eb b o hb q) f0 f1 f3 f4 f5⟩
  self := fun A i s Q E st h => by
    obtain ⟨⟨_, he⟩, _⟩ := st
    exact wpAny_pyIter_enum he h
theorem meets_enum_tup (t : Addr) (items : Array Value) : Meets (Builtin.«enumerate.__new__» ⟨[.type "enumerate", .ref t], []⟩) (fun _ R s => s.heap.IsTuple t items ∧
    R (.ok (.ret (.ref (s.heap.objs.size + 1)))) { s with heap := (s.heap.push { cls := .type "tuple_iterator", data := .fields #[.ref t, .int 0 0] }).push { cls := .type "enumerate", data := .fields #[.none, .bool false, .ref s.heap.objs.size, rawInt 0, .none, .none] } }) :=
  .of_wp fun prog w A R s h => by
    obtain ⟨hp, g, d, tk, os⟩ := s
    obtain ⟨ht, h⟩ := h
    have hsub := sub_enumerate
    have e1 : (hp.push { cls := .type "tuple_iterator", data := .fields #[.ref t, .int 0 0] }).objs.size = hp.objs.size + 1 := Heap.size_push ..
    have q1 : ∀ {A' : Around} {E : Value → Shared → Prop} {Q : Value → Shared → Prop}, Q (.ref hp.objs.size) ⟨hp.push { cls := .type "tuple_iterator", data := .fields #[.ref t, .int 0 0] }, g, d, tk, os⟩ →
        wpAny (model prog w) A' (pyIter (.ref t)) Q E ⟨hp, g, d, tk, os⟩ := fun q => wpAny_pyIter_tuple ht q
    wp_walk using q1
    refine wpAny_stack_any fun st => wpAny_pure ?_
    split
    · rename_i c _ _ _ _ _
      cases (c == Value.type "enumerate") <;> (wp_walk using q1; rw [e1]; exact ⟨_, rfl, h⟩)
    · wp_walk using q1
      rw [e1]; exact ⟨_, rfl, h⟩
theorem call_enum_tup {prog : Program} {w : World} {A : Around} {E : Value → Shared → Prop} {s : Shared} {t : Addr} {items : Array Value} {Q : Value → Shared → Prop} (ht : s.heap.IsTuple t items)
    (h : ∀ h', IsEnum h' (s.heap.objs.size + 1) s.heap.objs.size 0 .none → h'.IsTupleIter s.heap.objs.size t 0 → (∀ b o, s.heap.get? b = some o → h'.get? b = some o) → Q (.ref (s.heap.objs.size + 1)) { s with heap := h' }) :
    wpAny (model prog w) A (call (.type "enumerate") [.ref t]) Q E s := by
  refine callType_new F.called_enumerate (by decide) (F.typeCall_enumerate_1 _) (F.newCall_enumerate_1 _) (fun obj => F.args_object_init_2 obj _) F.entry_enumerate_new (meets_enum_tup t items) ⟨ht, ?_⟩
  have he : IsEnum ((s.heap.push { cls := .type "tuple_iterator", data := .fields #[.ref t, .int 0 0] }).push { cls := .type "enumerate", data := .fields #[.none, .bool false, .ref s.heap.objs.size, rawInt 0, .none, .none] }) (s.heap.objs.size + 1) s.heap.objs.size 0 .none := by
    heap_get
  exact ⟨⟨_, he, rfl⟩, h _ he ⟨_, Heap.get?_push_of_some _ (Heap.get?_push_size _ rfl), rfl, rfl⟩ fun b o x => Heap.get?_push_of_some _ (Heap.get?_push_of_some _ x)⟩
def iEnumT (K : PySem.W.Frag) (ta : TA) : TI := fun σ H R => ta σ H fun vs H1 => ∃ a ys, vs = [.ref a] ∧ SqT K H1 a ys ∧ R (IteT K a) H1
theorem pi_enumT {X : Cx} {e : Expr} {ta : TA} {p pos tpos : Pos} {elts : List Expr} {kk : Nat} (hg : Gl X "enumerate") (hm : X.mg "enumerate" = none) (ha : PA X [e] ta) (hs : starEach [e] X.env = [(false, eval e X.env)] := by rfl) :
    PI X (.Tuple elts kk tpos) (.Call (.Name "enumerate" p) [e] [] pos) (iEnumT X.K ta) := by
  refine ⟨fun pins s σ H R I h => Call_ (ld_blt I hg hm boot_enumerate (PyProof.Rows.callWith_type1 (thn (ha.run pos pins s σ H _ I h) fun us s1 z => ?_) hs rfl))⟩
  obtain ⟨vs, H1, I1, r1, a, ys, ex, hq, q⟩ := z
  subst ex
  match us, r1 with
  | [u], .cons r .nil =>
    obtain rfl : u = Value.ref a := r
    obtain ⟨its, rv, pt, hz⟩ := I1.tuple hq
    have la : a < s1.heap.objs.size := by
      obtain ⟨o, ho, _⟩ := id pt
      exact Heap.lt_size ho
    refine call_enum_tup (items := its.toArray) pt fun h' he hit hk => wpAny_pyIter_enum he ?_
    have I2 : Inv X pins σ H1 { s1 with heap := h' } := I1.kept (t' := s1.toks) hk
    refine ⟨s1.heap.objs.size + 1, [s1.heap.objs.size + 1, s1.heap.objs.size], _, _, H1, rfl, I2, turn_enumT a (s1.heap.objs.size + 1) s1.heap.objs.size (Nat.ne_of_lt la) (Nat.ne_of_lt (Nat.lt_succ_of_lt la)), ⟨⟨.none, he⟩, hit, Nat.succ_ne_self _⟩, fun b hb => ?_, q⟩
    have hle : s1.heap.objs.size ≤ b := by
      rcases List.mem_cons.mp hb with z | z
      · rw [z]; exact Nat.le_succ _
      · rw [List.mem_singleton.mp z]; exact Nat.le_refl _
    exact I1.fpOk hle (I1.hok.fresh hle)
theorem walk_enumT {K : PySem.W.Frag} {a : Addr} {ys : List V} : Walk (IteT K a) ys.length (fun H => SqT K H a ys) (YPair (fun i => some (.int (i : Nat))) (fun i => ys[i]?)) := by
  refine ⟨fun i H hi h => ⟨ys, ys[i], h, List.getElem?_eq_getElem hi⟩, fun H h => ⟨ys, h, rfl⟩, fun i H x H' hi h y => ?_⟩
  obtain ⟨T, z, e1, e2, e3, e4⟩ := y
  exact ⟨T, _, z, e1, e2, e3, rfl, e4 ys h⟩
theorem walk_zipT {K : PySem.W.Frag} {a b : Addr} {xs ys : List V} {n : Nat} (hn : n = min xs.length ys.length) : Walk (ItzT K a b) n (fun H => SqT K H a xs ∧ SqT K H b ys) (YPair (fun i => xs[i]?) (fun i => ys[i]?)) := by
  refine ⟨fun i H hi h => ⟨xs, ys, xs[i]'(by omega), ys[i]'(by omega), h.1, h.2, List.getElem?_eq_getElem _, List.getElem?_eq_getElem _⟩, fun H h => ⟨xs, ys, h.1, h.2, by omega⟩, fun i H x H' hi h y => ?_⟩
  obtain ⟨T, z, z2, e1, e2, e3, e4, e5⟩ := y
  exact ⟨T, z, z2, e1, e2, e3, e4 xs h.1, e5 ys h.2⟩
end L2

namespace L2
open PySem PySem.Spec PyProof.Rows
/-! ### a def that a def calls, by its name -/
def Has (P : Program) (w : World) (K : PySem.W.Frag) (mg : Str → Option Value) (base : Heap) (k : Nat) (nm : Str) (ps : List Str) (sp : Sp) : Prop :=
  ∃ (f : Addr) (fd : FuncData), FnOk P w K mg base CX0 k f fd ps sp ∧ mg nm = some (.ref f) ∧ PySem.W.keepIn K (.ref f) = true ∧ Binds K fd ps []
theorem pe_callHas {X : Cx} {k : Nat} {x : Str} {ps : List Str} {sp : Sp} {p pos : Pos} {e : Expr} {es : List Expr} {t : TA} (G : Has X.prog X.w X.K X.mg X.base k x ps sp) (hr : Room k X.A) (hg : Gl X x) (ha : PA X (e :: es) t)
    (hdb : (x == ("__debug__" : Str)) = false := by decide) (he : starEach (e :: es) X.env = (false, eval e X.env) :: starEach es X.env := by rfl) (hpl : (backTo pos (starEach es X.env)).any (·.1) = false := by rfl) :
    PE X (.Call (.Name x p) (e :: es) [] pos) (tCall sp [] E0 t) := by
  obtain ⟨f, fd, F, m, kp, b⟩ := G
  exact pe_call F hr hg m kp b .nil pass0 ha hdb he hpl
/-- where a def of the text stands behind the top -/
def DefAt (K : PySem.W.Frag) (mg : Str → Option Value) (nm : Str) (st : Stmt) (ps : List Str) : Prop :=
  ∃ (f : Addr) (fd : FuncData), Fun K nm nm st f fd ∧ mg nm = some (.ref f) ∧ Binds K fd ps []
theorem DefAt.has {P : Program} {w : World} {K : PySem.W.Frag} {mg : Str → Option Value} {base : Heap} {k : Nat} {nm : Str} {st : Stmt} {N ps : List Str} {sp : Sp} (F : DefAt K mg nm st ps) (S : FnScope N ps (defScope st)) (len : ∀ vs H Q E, sp vs H Q E → vs.length = ps.length)
    (hbody : ∀ (f : Addr) (cdv : Value) (A : Around) (outer : List Env) (s : Shared) (H : Hp) (vs : List V) (Q : VK) (E : XK), Room k (A.deeper (envOfC nm (defScope st) s.heap.objs.size f cdv)) → sp vs H Q E →
      ∃ t, PSs (cxOf CX0 P w K mg base N nm (defScope st) f cdv A outer s H E).nox (defBody st) t ∧ t { nx := fun _ H' => Q .non H', rt := Q } (start N vs) H) : Has P w K mg base (k + 1) nm ps sp := by
  obtain ⟨f, fd, F, m, b⟩ := F
  exact ⟨f, fd, F.ok S len (hbody f), m, F.kp, b⟩
end L2

namespace L2
open PySem PySem.Spec PyProof.Rows
/-! ### x in o, o | p, o <= p by the class's own methods -/
section
variable {X : Cx}
/-- what a call of an own method by a sign gives -/
theorem run_own {CX : CXT} {k : Nat} {g : Addr} {fd : FuncData} {ps : List Str} {sp : Sp} {E : XK} {pins : List (Addr × Obj)} {s : Shared} {σ : St} {H : Hp} {vs : List V} {us : List Value} {Q : VK} {R : Value → Shared → Prop} (F : FnOk X.prog X.w X.K X.mg X.base CX k g fd ps sp) (hr : Room k X.A) (hb : Binds X.K fd ps []) (hx : Passes CX X E)
    (I : Inv X pins σ H s) (r : Vals vs us) (q : sp vs H Q E) (hR : ∀ (w : Value) (z : V) (s' : Shared) (H' : Hp), Inv X pins σ H' s' → RelV z w → Q z H' → R w s') : wpAny (model X.prog X.w) X.A (call (.ref g) us) R X.xe s := by
  have hl := F.len _ _ _ _ q
  refine wpAny_call (codeAny_mono (F.run X.A X.stack s H ⟨us, []⟩ us vs _ E hr I.env0 (by
    have := hb s us I.kIn (by rw [List.append_nil, ← r.length]; exact hl)
    simpa using this) r q) fun r' s' hq => ?_)
  cases r' with
  | error e => exact hx pins σ H s e s' I hq
  | ok fl =>
    cases fl with
    | ret w =>
      obtain ⟨z, H', I', rz, q'⟩ := I.after hq
      exact hR w z s' H' I' rz q'
    | next => exact False.elim hq
    | brk => exact False.elim hq
    | cont => exact False.elim hq
def rInO (C : Addr) (sp : Sp) (E : XK) (n : Bool) : R2 := fun x y H Q => ∃ a dx fs, y = .ref a ∧ H a = some (.ins C dx fs) ∧ sp [.ref a, x] H (fun r H' => ∃ b, r = .bl b ∧ Q (.bl (n != b)) H') E
variable {CX : CXT} {C g : Addr} {k : Nat} {fd : FuncData} {ps : List Str} {sp : Sp} {E : XK}
theorem op_inO (F : FnOk X.prog X.w X.K X.mg X.base CX k g fd ps sp) (hs : PySem.W.findIn X.K (.ref C) "__contains__" = some (some (.ref g))) (hf : PySem.W.isFn X.K (.ref g) = true) (hr : Room k X.A) (hb : Binds X.K fd ps []) (hx : Passes CX X E) : OpR X (compareOp .In) (rInO C sp E false) := by
  intro pins s σ H x y v u Q I rx ry h
  obtain ⟨a, dx, fs, rfl, ha, q⟩ := h
  cases ry
  obtain ⟨mA, J, _⟩ := ins_get I.hok ha
  obtain ⟨od, J, _⟩ := J.look
  obtain ⟨m, hF⟩ := I.fr
  refine PySem.W.in_K hF I.ok.mod.kin J hs hf ?_
  refine run_own F hr hb hx I (show Vals [V.ref a, x] [Value.ref a, v] from .cons rfl (.cons rx .nil)) q fun w z s' H' I' rz qz => ?_
  obtain ⟨b, rfl, qb⟩ := qz
  cases rz
  refine wpAny_truthy_bool ⟨.bl b, H', I', rfl, ?_⟩
  cases b <;> exact qb
theorem op_notInO (F : FnOk X.prog X.w X.K X.mg X.base CX k g fd ps sp) (hs : PySem.W.findIn X.K (.ref C) "__contains__" = some (some (.ref g))) (hf : PySem.W.isFn X.K (.ref g) = true) (hr : Room k X.A) (hb : Binds X.K fd ps []) (hx : Passes CX X E) : OpR X (compareOp .NotIn) (rInO C sp E true) := by
  intro pins s σ H x y v u Q I rx ry h
  obtain ⟨a, dx, fs, rfl, ha, q⟩ := h
  cases ry
  obtain ⟨mA, J, _⟩ := ins_get I.hok ha
  obtain ⟨od, J, _⟩ := J.look
  obtain ⟨m, hF⟩ := I.fr
  refine PySem.W.notIn_K hF I.ok.mod.kin J hs hf ?_
  refine run_own F hr hb hx I (show Vals [V.ref a, x] [Value.ref a, v] from .cons rfl (.cons rx .nil)) q fun w z s' H' I' rz qz => ?_
  obtain ⟨b, rfl, qb⟩ := qz
  cases rz
  refine wpAny_truthy_bool ⟨.bl (!b), H', I', rfl, ?_⟩
  cases b <;> exact qb
end
end L2

namespace PySem.W
open PySem PySem.Calls PyProof.Rows Builtin
section
variable {prog : Program} {w : World} {A : Around} {E : Value → Shared → Prop} {s : Shared} {K : Frag} {x C L f : Addr} {h₀ : Heap} {m : Str → Option Value} {ox : Obj} {od : Option Obj} {b : Value}
/-- x != y by the class's own ==: object's own __ne__ asks it -/
theorem call_ne_own {Q : Value → Shared → Prop} (hu : A.units + 2 < cLine) (X : K.In s.heap) (I : InstAt s.heap x ox C od) (hm : mroIn K C (.type "object") = some true) (hs : findIn K (.ref C) "__eq__" = some (some (.ref f))) (hf : isFn K (.ref f) = true)
    (h : wpAny (model prog w) A.in1 (call (.ref f) [.ref x, b]) (fun v s' => ∃ r, v = .bool r ∧ Q (.bool (!r)) s') E s) : wpAny (model prog w) A (call (.builtin "object.__ne__") [.ref x, b]) Q E s := by
  have LI : Looks (model prog w) s.heap (isInstance (.ref x) (.type "object")) true := I.type.andThen (looks_mroIn X hm)
  refine wpAny_call (codeAny_call_builtin F.slot_object_ne.plain F.entry_object_ne (check_slot (i := "object.__ne__") (owner := "object") (n := "__ne__") (self := .ref x) (rest := [b]) (kw := []) (by decide +kernel) (by decide +kernel) LI (F.args_object_ne_2 _ _) ?_))
  show wpAny _ _ (Builtin.«object.__ne__» ⟨[.ref x, b], []⟩) _ _ s
  unfold Builtin.«object.__ne__»
  refine wpAny_bind (wpAny_pure ?_)
  refine wpAny_bind (wpAny_cRoomFor (show A.units + 1 < cLine by omega) ?_)
  refine wpAny_bind (ifBound_K X I hs hf (wpAny_mono h (fun v s' q => ?_) fun _ _ z => z))
  obtain ⟨r, rfl, q⟩ := q
  exact wpAny_bind (wpAny_truthy_bool (wpAny_pure q))
theorem ne_own {Q : Value → Shared → Prop} {tb : Value} (hu : A.units + 2 < cLine) (F : Fr h₀ L s.heap m) (X₀ : K.In h₀) (I : InstAt s.heap x ox C od) (hb : Looks (model prog w) s.heap (typeOf b) tb) (hn : notFirst K C tb = true) (hm : mroIn K C (.type "object") = some true)
    (hne : findIn K (.ref C) "__ne__" = some (some (.builtin "object.__ne__"))) (hs : findIn K (.ref C) "__eq__" = some (some (.ref f))) (hf : isFn K (.ref f) = true)
    (h : wpAny (model prog w) A.in1 (call (.ref f) [.ref x, b]) (fun v s' => ∃ r, v = .bool r ∧ Q (.bool (!r)) s') E s) : wpAny (model prog w) A (richCompare .NotEq (.ref x) b) Q E s := by
  have X := X₀.keeps F.keep
  have bd : bindSpecial (.builtin "object.__ne__") (.ref x) = pure (.builtin "object.__ne__", [.ref x]) := _root_.PySem.F.slot_object_ne.bind _
  have asked := call_ne_own (prog := prog) (w := w) (A := A) (b := b) (Q := fun v s' => ∃ r, v = Value.bool r ∧ Q (.bool r) s') hu X I hm hs hf (wpAny_mono h (fun v s' z => by
    obtain ⟨r, e, q⟩ := z
    exact ⟨r, e, !r, rfl, q⟩) fun _ _ e => e)
  have bound : wpAny (model prog w) A (callSpecialIfBound? (.ref x) (cmpInfo .NotEq).2.1 [b]) (fun r s' => ∃ v, r = some (Value.bool v) ∧ Q (.bool v) s') E s := by
    simp only [bindSpecialIfBound?, callSpecialIfBound?]
    have goes : wpAny (model prog w) A (call (.builtin "object.__ne__") ([.ref x] ++ [b]) >>= fun u => pure (some u)) (fun r s' => ∃ v, r = some (Value.bool v) ∧ Q (.bool v) s') E s := by
      refine wpAny_bind (wpAny_mono asked (fun v s' z => ?_) fun _ _ e => e)
      obtain ⟨r, rfl, q⟩ := z
      exact wpAny_pure ⟨r, rfl, q⟩
    refine wpAny_holding (wpAny_bind (wpAny_bind (wpAny_bind (I.type.here ((looks_findIn X hne).here ?_)))))
    refine wpAny_bind (wpAny_askSetting (wpAny_ite ?_))
    rw [bd]
    split
    · exact wpAny_bind (wpAny_pure (wpAny_pure (by exact goes)))
    · exact wpAny_tryCatch (wpAny_bind (wpAny_pure (wpAny_pure (by exact goes))))
  have one : wpAny (model prog w) A (tryCompare (.ref x) (cmpInfo .NotEq).2.1 b) (fun r s' => ∃ v, r = some v ∧ Q v s') E s := by
    unfold tryCompare
    refine wpAny_bind (wpAny_mono bound (fun r s' z => ?_) fun _ _ e => e)
    obtain ⟨v, rfl, q⟩ := z
    exact wpAny_pure ⟨_, rfl, q⟩
  unfold richCompare
  simp only [oneThing_ref]
  refine wpAny_holding (wpAny_bind (wpAny_cRoomFor (show A.units < cLine by omega) ?_))
  refine wpAny_bind (I.type.here (wpAny_bind (hb.here ?_)))
  split
  · rename_i q
    have e : subIn K tb (.ref C) = some false := by
      rcases Bool.or_eq_true_iff.mp hn with e | e
      · rw [beq_iff_eq.mp e] at q; simp at q
      · exact beq_iff_eq.mp e
    refine wpAny_bind ((looks_subIn X e).here ?_)
    rw [if_neg (by decide)]
    refine wpAny_bind (wpAny_mono one (fun r s' z => ?_) fun _ _ e => e)
    obtain ⟨v, rfl, hq⟩ := z
    exact wpAny_pure hq
  · refine wpAny_bind (wpAny_pure ?_)
    rw [if_neg (by decide)]
    refine wpAny_bind (wpAny_mono one (fun r s' z => ?_) fun _ _ e => e)
    obtain ⟨v, rfl, hq⟩ := z
    exact wpAny_pure hq
end
end PySem.W
namespace L2
open PySem PySem.Spec PyProof.Rows
section
variable {X : Cx} {CX : CXT} {C g : Addr} {k : Nat} {fd : FuncData} {ps : List Str} {sp : Sp} {E : XK}
/-- what the class's facts say beside its attributes -/
structure Two (K : PySem.W.Frag) (C : Addr) : Prop where
  self : PySem.W.selfFirst K C = true
  obj : PySem.W.mroIn K C (.type "object") = some true
  ne : PySem.W.findIn K (.ref C) "__ne__" = some (some (.builtin "object.__ne__"))
theorem run_own1 {pins : List (Addr × Obj)} {s : Shared} {σ : St} {H : Hp} {vs : List V} {us : List Value} {Q : VK} {R : Value → Shared → Prop} {A : Around} (F : FnOk X.prog X.w X.K X.mg X.base CX k g fd ps sp) (hr : Room k A) (hA : A.frames = X.A.frames) (hb : Binds X.K fd ps []) (hx : Passes CX X E)
    (I : Inv X pins σ H s) (r : Vals vs us) (q : sp vs H Q E) (hR : ∀ (w : Value) (z : V) (s' : Shared) (H' : Hp), Inv X pins σ H' s' → RelV z w → Q z H' → R w s') : wpAny (model X.prog X.w) A (call (.ref g) us) R X.xe s := by
  have hl := F.len _ _ _ _ q
  have e0 : Env0 X.prog X.w X.K X.mg X.base A X.stack s H := by
    have e := I.env0
    exact ⟨hA.trans e.frames, e.mod, e.bs, e.bsz, e.funs, e.frf, e.hok, e.bare⟩
  refine wpAny_call (codeAny_mono (F.run A X.stack s H ⟨us, []⟩ us vs _ E hr e0 (by
    have := hb s us I.kIn (by rw [List.append_nil, ← r.length]; exact hl)
    simpa using this) r q) fun r' s' hq => ?_)
  cases r' with
  | error e => exact hx pins σ H s e s' I hq
  | ok fl =>
    cases fl with
    | ret w =>
      obtain ⟨z, H', I', rz, q'⟩ := I.after hq
      exact hR w z s' H' I' rz q'
    | next => exact False.elim hq
    | brk => exact False.elim hq
    | cont => exact False.elim hq
def rOrO (C : Addr) (sp : Sp) (E : XK) : R2 := fun x y H Q => ∃ a dx fs b dy gs, x = .ref a ∧ H a = some (.ins C dx fs) ∧ y = .ref b ∧ H b = some (.ins C dy gs) ∧ sp [.ref a, .ref b] H (fun r H' => ∃ p, r = .ref p ∧ Q (.ref p) H') E
theorem op_orO (t : Two X.K C) (F : FnOk X.prog X.w X.K X.mg X.base CX k g fd ps sp) (hs : PySem.W.findIn X.K (.ref C) "__or__" = some (some (.ref g))) (hf : PySem.W.isFn X.K (.ref g) = true) (hr : Room k X.A) (hb : Binds X.K fd ps []) (hx : Passes CX X E) : OpR X (binaryOp .BitOr) (rOrO C sp E) := by
  intro pins s σ H x y v u Q I rx ry h
  obtain ⟨a, dx, fs, b, dy, gs, rfl, ha, rfl, hb', q⟩ := h
  cases rx
  cases ry
  obtain ⟨mA, J, _⟩ := ins_get I.hok ha
  obtain ⟨mB, J', _⟩ := ins_get I.hok hb'
  obtain ⟨od, J, _⟩ := J.look
  obtain ⟨od', J', _⟩ := J'.look
  obtain ⟨m, hF⟩ := I.fr
  refine PySem.W.binop_K (op := .BitOr) hF I.ok.mod.kin J J'.type t.self hs hf ?_
  refine run_own F hr hb hx I (show Vals [V.ref a, V.ref b] [Value.ref a, Value.ref b] from .cons rfl (.cons rfl .nil)) q fun w z s' H' I' rz qz => ?_
  obtain ⟨p, rfl, qp⟩ := qz
  cases rz
  exact ⟨.ref p, H', I', rfl, qp⟩
def rCmpO (C : Addr) (sp : Sp) (E : XK) (n : Bool) : R2 := fun x y H Q => ∃ a dx fs b dy gs, x = .ref a ∧ H a = some (.ins C dx fs) ∧ y = .ref b ∧ H b = some (.ins C dy gs) ∧ sp [.ref a, .ref b] H (fun r H' => ∃ c, r = .bl c ∧ Q (.bl (n != c)) H') E
theorem op_cmpO {op : CmpOp} {nm : Str} (hop : (PySem.cmpInfo op).2.1 = nm) (hcmp : ∀ a b, compareOp op a b = richCompare op a b) (F : FnOk X.prog X.w X.K X.mg X.base CX k g fd ps sp) (hs : PySem.W.findIn X.K (.ref C) nm = some (some (.ref g))) (hf : PySem.W.isFn X.K (.ref g) = true) (hr : Room k X.A) (hb : Binds X.K fd ps []) (hx : Passes CX X E) :
    OpR X (compareOp op) (rCmpO C sp E false) := by
  intro pins s σ H x y v u Q I rx ry h
  obtain ⟨a, dx, fs, b, dy, gs, rfl, ha, rfl, hb', q⟩ := h
  cases rx
  cases ry
  obtain ⟨mA, J, _⟩ := ins_get I.hok ha
  obtain ⟨mB, J', _⟩ := ins_get I.hok hb'
  obtain ⟨od, J, _⟩ := J.look
  obtain ⟨od', J', _⟩ := J'.look
  obtain ⟨m, hF⟩ := I.fr
  rw [hcmp]
  subst hop
  refine PySem.W.cmp_K (op := op) (tb := .ref C) hr.units0 hF I.ok.mod.kin J J'.type (by simp [PySem.W.notFirst]) hs hf ?_
  refine run_own F hr hb hx I (show Vals [V.ref a, V.ref b] [Value.ref a, Value.ref b] from .cons rfl (.cons rfl .nil)) q fun w z s' H' I' rz qz => ?_
  obtain ⟨c, rfl, qc⟩ := qz
  cases rz
  refine ⟨.bl c, H', I', rfl, ?_⟩
  cases c <;> exact qc
theorem op_neO (t : Two X.K C) (F : FnOk X.prog X.w X.K X.mg X.base CX k g fd ps sp) (hs : PySem.W.findIn X.K (.ref C) "__eq__" = some (some (.ref g))) (hf : PySem.W.isFn X.K (.ref g) = true) (hr : Room (k + 1) X.A) (hb : Binds X.K fd ps []) (hx : Passes CX X E) : OpR X (compareOp .NotEq) (rCmpO C sp E true) := by
  intro pins s σ H x y v u Q I rx ry h
  obtain ⟨a, dx, fs, b, dy, gs, rfl, ha, rfl, hb', q⟩ := h
  cases rx
  cases ry
  obtain ⟨mA, J, _⟩ := ins_get I.hok ha
  obtain ⟨mB, J', _⟩ := ins_get I.hok hb'
  obtain ⟨od, J, _⟩ := J.look
  obtain ⟨od', J', _⟩ := J'.look
  obtain ⟨m, hF⟩ := I.fr
  refine PySem.W.ne_own (tb := .ref C) (show X.A.units + 2 < cLine from Nat.lt_of_le_of_lt (Nat.add_le_add_left (by decide : 2 ≤ 64) _) hr.units) hF I.ok.mod.kin J J'.type (by simp [PySem.W.notFirst]) t.obj t.ne hs hf ?_
  refine run_own1 F hr.in1 rfl hb hx I (show Vals [V.ref a, V.ref b] [Value.ref a, Value.ref b] from .cons rfl (.cons rfl .nil)) q fun w z s' H' I' rz qz => ?_
  obtain ⟨c, rfl, qc⟩ := qz
  cases rz
  refine ⟨c, rfl, .bl (!c), H', I', rfl, ?_⟩
  cases c <;> exact qc
end
end L2

namespace L2
open PySem PySem.Spec PyProof.Rows
section
variable {X : Cx} {CX : CXT} {k : Nat} {C g : Addr} {fd : FuncData} {ps : List Str} {sp : Sp} {E : XK}
/-- str(x), x an instance with its own __str__ -/
theorem call_strO (F : FnOk X.prog X.w X.K X.mg X.base CX k g fd ps sp) (hs : PySem.W.findIn X.K (.ref C) "__str__" = some (some (.ref g))) (hf : PySem.W.isFn X.K (.ref g) = true) (hr : Room (k + 2) X.A) (hb : Binds X.K fd ps []) (hx : Passes CX X E) :
    CallR X (.type "str") (fun xs H Q => ∃ a dx fs, xs = [.ref a] ∧ H a = some (.ins C dx fs) ∧ sp [.ref a] H (fun r H' => ∃ z, r = .str z ∧ Q (.str z) H') E) := by
  intro pins s σ H xs us Q I r h
  obtain ⟨a, dx, fs, rfl, ha, q⟩ := h
  obtain rfl := Vals.ref1 r
  obtain ⟨mA, J, _⟩ := ins_get I.hok ha
  obtain ⟨od, J, _⟩ := J.look
  have h2 : Room k X.A.in1.in1 := hr.in1.in1
  refine PySem.W.kso_call (by have := h2.units; omega) I.kIn J hs hf ?_
  refine run_own1 F h2 rfl hb hx I (show Vals [V.ref a] [Value.ref a] from .cons rfl .nil) q fun w z s' H' I' rz qz => ?_
  obtain ⟨y, rfl, qy⟩ := qz
  obtain ⟨t, rfl⟩ := rz
  exact ⟨.str y, H', I', ⟨t, rfl⟩, qy⟩
end
theorem join_len (sep : Str) (l : List Str) : (PySem.Txt.join sep l).length ≤ (l.map (·.length)).sum + l.length * sep.length := by
  rw [show PySem.Txt.join sep l = PySem.Str.join sep l from PySem.StrLaws.glued_eq_join sep l]
  cases l with
  | nil => exact Nat.zero_le _
  | cons a r =>
    rw [len_join_cons, List.length_cons, Nat.add_mul]
    omega
/-- a number as a text -/
def iS (i : Int) : Str := Str.ofString (toString i)
theorem iS_len {i : Int} (h : i.natAbs.log2 < 1920) : (iS i).length ≤ 1921 := by
  have q := int_text_length_le (a := i) (k := 1920) (by decide) h
  unfold iS
  rw [PySem.ofString_length]; exact q
theorem iSs_len : ∀ {v : List Int}, (∀ i ∈ v, i.natAbs.log2 < 1920) → ((v.map iS).map (·.length)).sum ≤ 1921 * v.length
  | [], _ => Nat.le_refl _
  | i :: v, h => by
    have h1 := iS_len (h i List.mem_cons_self)
    have h2 := iSs_len (v := v) fun x hx => h x (List.mem_cons_of_mem _ hx)
    simp only [List.map_cons, List.sum_cons, List.length_cons]
    omega
/-- a vector as a text -/
def wS (v : List Int) : Str := PySem.Txt.join (Str.ofString " ") (v.map iS)
theorem wS_len {v : List Int} (h : ∀ i ∈ v, i.natAbs.log2 < 1920) : (wS v).length ≤ 1922 * v.length := by
  have h1 := iSs_len h
  have h2 := join_len (Str.ofString " ") (v.map iS)
  rw [List.length_map, show (Str.ofString " ").length = 1 by decide +kernel] at h2
  unfold wS; omega
theorem wSs_len : ∀ {B : List (List Int)} {n : Nat}, (∀ v ∈ B, v.length = n ∧ ∀ i ∈ v, i.natAbs.log2 < 1920) → ((B.map wS).map (·.length)).sum ≤ 1922 * n * B.length
  | [], _, _ => Nat.le_refl _
  | v :: B, n, h => by
    obtain ⟨l, h0⟩ := h v List.mem_cons_self
    have h1 := wS_len h0
    have h2 := wSs_len (B := B) (n := n) fun x hx => h x (List.mem_cons_of_mem _ hx)
    rw [l] at h1
    simp only [List.map_cons, List.sum_cons, List.length_cons, Nat.mul_add, Nat.mul_one]
    omega
end L2
namespace L2
open PySem PySem.Spec PyProof.Rows
theorem strOk_app (a b : Str) : PyData.strOk (a ++ b) = (PyData.strOk a && PyData.strOk b) := by
  show (a.cps ++ b.cps).all _ = _
  rw [Array.all_append]; rfl
theorem strOk_string (s : String) : PyData.strOk (Str.ofString s) = true := by
  rw [Str.ofString_eq_toList]
  show ((s.toList.map Char.toNat).toArray).all (fun n => decide (n < 0x110000)) = true
  rw [Array.all_eq_true']
  intro x hx
  rw [List.mem_toArray] at hx
  obtain ⟨c, _, rfl⟩ := List.mem_map.mp hx
  exact decide_eq_true (by
    have := c.valid
    have h2 : c.toNat = c.val.toNat := rfl
    rcases this with h | h
    · have : c.val.toNat < 0xD800 := h
      omega
    · have : c.val.toNat < 0x110000 := h.2
      omega)
theorem strOk_join {sep : Str} (hs : PyData.strOk sep = true) : ∀ {l : List Str}, (∀ x ∈ l, PyData.strOk x = true) → PyData.strOk (PySem.Txt.join sep l) = true := by
  have key : ∀ l : List Str, (∀ x ∈ l, PyData.strOk x = true) → PyData.strOk (PySem.Str.join sep l) = true := by
    intro l
    induction l with
    | nil =>
      intro _
      show PyData.strOk PySem.Str.empty = true
      decide +kernel
    | cons a r ih =>
      intro h
      cases r with
      | nil => exact h a List.mem_cons_self
      | cons b r =>
        show PyData.strOk (a ++ sep ++ PySem.Str.join sep (b :: r)) = true
        rw [strOk_app, strOk_app, h a List.mem_cons_self, hs, ih fun x hx => h x (List.mem_cons_of_mem _ hx)]; rfl
  intro l h
  rw [show PySem.Txt.join sep l = PySem.Str.join sep l from PySem.StrLaws.glued_eq_join sep l]
  exact key l h
theorem strOk_w (v : List Int) : PyData.strOk (wS v) = true := strOk_join (strOk_string _) fun x hx => by
  obtain ⟨i, _, rfl⟩ := List.mem_map.mp hx
  exact strOk_string _
theorem strs_shaped {l : List Str} (h : ∀ x ∈ l, PyData.strOk x = true) : SeqAt.shaped (.list (l.map PyData.str)) = true := by
  have h1 : ∀ l : List Str, (∀ x ∈ l, PyData.strOk x = true) → PyData.canLayAll0 (l.map PyData.str) = true ∧ PyData.depthAll (l.map PyData.str) = 0 := by
    intro l
    induction l with
    | nil => exact fun _ => ⟨rfl, rfl⟩
    | cons a r ih =>
      intro h
      obtain ⟨i1, i2⟩ := ih fun x hx => h x (List.mem_cons_of_mem _ hx)
      exact ⟨by simp only [List.map_cons, PyData.canLayAll0, PyData.canLay0, h a List.mem_cons_self, i1, Bool.and_self], by simp only [List.map_cons, PyData.depthAll, PyData.depth, i2]; rfl⟩
  obtain ⟨h2, h3⟩ := h1 l h
  show (PyData.canLay0 (.list (l.map PyData.str)) && decide (PyData.depth (.list (l.map PyData.str)) ≤ 64)) = true
  rw [Bool.and_eq_true]
  exact ⟨by simp only [PyData.canLay0]; exact h2, decide_eq_true (by simp only [PyData.depth, h3]; decide)⟩
theorem strs_dp {K : PySem.W.Frag} {H : Hp} : ∀ l : List Str, DpAll K H (l.map V.str) (l.map PyData.str)
  | [] => .nil
  | s :: l => .cons (.str s) (strs_dp l)
theorem strs_eqv (l : List Str) : PyData.eqv (.list (l.map PyData.str)) (.list []) = decide (l = []) := by
  cases l with
  | nil => decide +kernel
  | cons n v => simp [PyData.eqv, PyData.eqvAll]
end L2

/-! str(x) and {x} of instances of several own classes, each with its own __str__ -/
namespace L2
open PySem PySem.Spec PyProof.Rows
/-- __str__ of an instance of C that shows as S tells -/
def spStrC (C : Addr) (S : Hp → Addr → Str → Prop) : Sp := fun vs H Q _ => ∃ (a dx : Addr) (fs : List (Str × V)) (z : Str), vs = [.ref a] ∧ H a = some (.ins C dx fs) ∧ S H a z ∧ ∀ H', (∀ b o, H b = some o → H' b = some o) → Q (.str z) H'
structure Shows (P : Program) (w : World) (K : PySem.W.Frag) (mg : Str → Option Value) (base : Heap) (k : Nat) (cls : List Addr) (S : Hp → Addr → Str → Prop) : Prop where
  has : ∀ C ∈ cls, ∃ (g : Addr) (fd : FuncData), PySem.W.findIn K (.ref C) "__str__" = some (some (.ref g)) ∧ PySem.W.isFn K (.ref g) = true ∧ Binds K fd ["self"] [] ∧ FnOk P w K mg base CX0 k g fd ["self"] (spStrC C S)
  fmt : ∀ C ∈ cls, PySem.W.findIn K (.ref C) "__format__" = some (some (.builtin "object.__format__")) ∧ PySem.W.mroIn K C (.type "object") = some true
/-- what a text of such an instance asks -/
def rStrC (cls : List Addr) (S : Hp → Addr → Str → Prop) : V → Hp → VK → Prop := fun x H Q => ∃ (a C dx : Addr) (fs : List (Str × V)) (z : Str), x = .ref a ∧ H a = some (.ins C dx fs) ∧ C ∈ cls ∧ S H a z ∧ ∀ H', (∀ b o, H b = some o → H' b = some o) → Q (.str z) H'
section
variable {X : Cx} {k : Nat} {cls : List Addr} {S : Hp → Addr → Str → Prop}
theorem call_strC (Sh : Shows X.prog X.w X.K X.mg X.base k cls S) (hr : Room (k + 2) X.A) : CallR X (.type "str") (fun xs H Q => ∃ x, xs = [x] ∧ rStrC cls S x H Q) := by
  intro pins s σ H xs us Q I r h
  obtain ⟨x, rfl, a, C, dx, fs, z, rfl, ha, mC, hS, q⟩ := h
  obtain rfl := Vals.ref1 r
  obtain ⟨g, fd, hs, hf, hb, F⟩ := Sh.has C mC
  obtain ⟨mA, J, _⟩ := ins_get I.hok ha
  obtain ⟨od, J, _⟩ := J.look
  have h2 : Room k X.A.in1.in1 := hr.in1.in1
  refine PySem.W.kso_call (by have := h2.units; omega) I.kIn J hs hf ?_
  refine run_own1 (E := E0) F h2 rfl hb pass0 I (show Vals [V.ref a] [Value.ref a] from .cons rfl .nil) (Q := fun y H' => ∃ z, y = .str z ∧ Q (.str z) H') ⟨a, dx, fs, z, rfl, ha, hS, fun H' s => ⟨z, rfl, q H' s⟩⟩ fun w z s' H' I' rz qz => ?_
  obtain ⟨y, rfl, qy⟩ := qz
  obtain ⟨t, rfl⟩ := rz
  exact ⟨.str y, H', I', ⟨t, rfl⟩, qy⟩
/-- {x} -/
def tFmtC (cls : List Addr) (S : Hp → Addr → Str → Prop) (te : TE) : TE := fun σ H Q => te σ H fun x H1 => rStrC cls S x H1 Q
theorem pe_fmtC {e : Expr} {te : TE} {pos : Pos} (Sh : Shows X.prog X.w X.K X.mg X.base k cls S) (hr : Room (k + 1) X.A) (he : PE X e te) : PE X (.FormattedValue e (-1) none pos) (tFmtC cls S te) := by
  refine ⟨fun pins s σ H Q I h => ?_⟩
  refine wpAny_FormattedValue_plain (thn (he.run pins s σ H _ I h) fun v s1 hv => ?_)
  obtain ⟨x, H1, I1, r1, a, C, dx, fs, z, rfl, ha, mC, hS, q⟩ := hv
  obtain rfl : v = Value.ref a := r1
  obtain ⟨g, fd, hs, hf, hb, F⟩ := Sh.has C mC
  obtain ⟨hfm, hm⟩ := Sh.fmt C mC
  obtain ⟨mA, J, _⟩ := ins_get I1.hok ha
  obtain ⟨od, J, _⟩ := J.look
  have h2 : Room k X.A.in1 := hr.in1
  refine PySem.W.kfo_fieldS (by have := h2.units; omega) I1.kIn J hfm hm hs hf ?_
  refine run_own1 (E := E0) F h2 rfl hb pass0 (I1.tok _) (show Vals [V.ref a] [Value.ref a] from .cons rfl .nil) (Q := fun y H' => ∃ z, y = .str z ∧ Q (.str z) H') ⟨a, dx, fs, z, rfl, ha, hS, fun H' s => ⟨z, rfl, q H' s⟩⟩ fun w z s' H' I' rz qz => ?_
  obtain ⟨y, rfl, qy⟩ := qz
  obtain ⟨t, rfl⟩ := rz
  exact ⟨.str y, H', I', ⟨t, rfl⟩, qy⟩
end
end L2

set_option pp.maxSteps 600
namespace K14
open PySem L2 PySem.Spec PyProof.Rows
/-! ## the ground of the laws over rows and books -/
structure Txt (mg : Str → Option Value) : Prop where
  z_len : mg "len" = none
  z_abs : mg "abs" = none
  z_int : mg "int" = none
  z_max : mg "max" = none
  z_min : mg "min" = none
  z_range : mg "range" = none
  z_enumerate : mg "enumerate" = none
  z_isinstance : mg "isinstance" = none
  z_repr : mg "repr" = none
  z_zip : mg "zip" = none
  z_sum : mg "sum" = none
  z_all : mg "all" = none
  z_tuple : mg "tuple" = none
  z_list : mg "list" = none
  z_bool : mg "bool" = none
  z_sorted : mg "sorted" = none
  z_dict : mg "dict" = none
  z_str : mg "str" = none
  z_set : mg "set" = none
theorem new_at {H : Hp} {p : Addr} {o : HO} (h : H p = none) : Same H (upd H p o) ∧ upd H p o p = some o :=
  ⟨fun b u z => by rw [upd_ne (ne_of_none z h)]; exact z, upd_same⟩
theorem iteSe {b : Bool} {A B : Prop} (h : b = true) (k : A) : if b = true then A else B := by rw [if_pos h]; exact k
theorem iteSf {b : Bool} {A B : Prop} (h : b = false) (k : B) : if b = true then A else B := by rw [h, if_neg (by decide)]; exact k
theorem ne_of {H : Hp} {a b : Addr} {o u : HO} (ha : H a = some o) (hb : H b = some u) (d : o ≠ u) : a ≠ b := fun e => by
  rw [e, hb] at ha
  exact d (Option.some.inj ha).symm
/-! ### what is kept: all but the box at b and the tables of code objects -/
def Kp (b : Addr) (H H' : Hp) : Prop := ∀ a o, a ≠ b → H a = some o → (∀ ps, o ≠ .tbl ps) → H' a = some o
theorem Kp.refl (b : Addr) (H : Hp) : Kp b H H := fun _ _ _ h _ => h
theorem Kp.trans {b : Addr} {H H1 H2 : Hp} (s : Kp b H H1) (t : Kp b H1 H2) : Kp b H H2 := fun a o n h z => t a o n (s a o n h z) z
theorem Kp.of {b : Addr} {H H' : Hp} (s : Same H H') : Kp b H H' := fun a o _ h _ => s a o h
theorem Kp.upd' {b : Addr} {H : Hp} {o : HO} : Kp b H (upd H b o) := fun a u n h _ => by rw [upd_ne n]; exact h
/-! ### values, two deep, with instances of own classes among them (their classes: Z 0, Z 1, ..) -/
inductive Atom where
  | non
  | bl (b : Bool)
  | int (i : Int)
  | str (s : Str)
  | obj (k : Nat)
inductive D1 where
  | a (x : Atom)
  | s (isT : Bool) (xs : List Atom)
inductive D2 where
  | a (x : Atom)
  | s (isT : Bool) (xs : List D1)
def D1.up : D1 → D2
  | .a x => .a x
  | .s t xs => .s t (xs.map .a)
def seqO (isT : Bool) (xs : List V) : HO := if isT then .tup xs else .lst xs
theorem seqO_tbl {t : Bool} {xs : List V} (ps : Array Value) : seqO t xs ≠ .tbl ps := by cases t <;> exact fun z => nomatch z
def Rel0 (Z : Nat → Addr) (b : Addr) (H : Hp) (v : V) : Atom → Prop
  | .non => v = .non
  | .bl c => v = .bl c
  | .int i => v = .int i
  | .str s => v = .str s
  | .obj k => ∃ (a dx : Addr) (fs : List (Str × V)), v = .ref a ∧ a ≠ b ∧ H a = some (.ins (Z k) dx fs)
def Rel1 (Z : Nat → Addr) (b : Addr) (H : Hp) (v : V) : D1 → Prop
  | .a x => Rel0 Z b H v x
  | .s t xs => ∃ p as, v = .ref p ∧ p ≠ b ∧ H p = some (seqO t as) ∧ Paired (Rel0 Z b H) as xs
def Rel2 (Z : Nat → Addr) (b : Addr) (H : Hp) (v : V) : D2 → Prop
  | .a x => Rel0 Z b H v x
  | .s t xs => ∃ p as, v = .ref p ∧ p ≠ b ∧ H p = some (seqO t as) ∧ Paired (Rel1 Z b H) as xs
theorem _root_.PySem.Paired.mapP' {α β : Type} {R S : α → β → Prop} {as : List α} {bs : List β} (h : Paired R as bs) (f : ∀ a b, R a b → S a b) : Paired S as bs := by
  induction h with
  | nil => exact .nil
  | cons r _ ih => exact .cons (f _ _ r) ih
theorem _root_.PySem.Paired.mapR {α β γ : Type} {R : α → β → Prop} {S : α → γ → Prop} {g : β → γ} {as : List α} {bs : List β} (h : Paired R as bs) (f : ∀ a b, R a b → S a (g b)) : Paired S as (bs.map g) := by
  induction h with
  | nil => exact .nil
  | cons r _ ih => exact .cons (f _ _ r) ih
theorem _root_.PySem.Paired.app {α β : Type} {R : α → β → Prop} {as cs : List α} {bs ds : List β} (h : Paired R as bs) (g : Paired R cs ds) : Paired R (as ++ cs) (bs ++ ds) := by
  induction h with
  | nil => exact g
  | cons r _ ih => exact .cons r ih
theorem _root_.PySem.Paired.at' {α β : Type} {R : α → β → Prop} {as : List α} {bs : List β} (h : Paired R as bs) {i : Nat} {a : α} (e : as[i]? = some a) : ∃ b, bs[i]? = some b ∧ R a b := by
  induction h generalizing i with
  | nil => simp at e
  | cons r _ ih =>
    cases i with
    | zero => simp only [List.getElem?_cons_zero, Option.some.injEq] at e; subst e; exact ⟨_, rfl, r⟩
    | succ i => simp only [List.getElem?_cons_succ] at e ⊢; exact ih e
theorem _root_.PySem.Paired.len {α β : Type} {R : α → β → Prop} {as : List α} {bs : List β} (h : Paired R as bs) : as.length = bs.length := by
  induction h with
  | nil => rfl
  | cons _ _ ih => rw [List.length_cons, List.length_cons, ih]
section
variable {Z : Nat → Addr} {b : Addr} {H H' : Hp} {v : V}
theorem Rel0.kp {x : Atom} (s : Kp b H H') (h : Rel0 Z b H v x) : Rel0 Z b H' v x := by
  cases x with
  | obj k => obtain ⟨a, dx, fs, e, n, q⟩ := h; exact ⟨a, dx, fs, e, n, s _ _ n q fun ps z => nomatch z⟩
  | _ => exact h
theorem Rel1.kp {d : D1} (s : Kp b H H') (h : Rel1 Z b H v d) : Rel1 Z b H' v d := by
  cases d with
  | a x => exact Rel0.kp s h
  | s t xs => obtain ⟨p, as, e, n, q, r⟩ := h; exact ⟨p, as, e, n, s _ _ n q seqO_tbl, r.mapP' fun _ _ z => z.kp s⟩
theorem Rel2.kp {d : D2} (s : Kp b H H') (h : Rel2 Z b H v d) : Rel2 Z b H' v d := by
  cases d with
  | a x => exact Rel0.kp s h
  | s t xs => obtain ⟨p, as, e, n, q, r⟩ := h; exact ⟨p, as, e, n, s _ _ n q seqO_tbl, r.mapP' fun _ _ z => z.kp s⟩
theorem Rel1.up {d : D1} (h : Rel1 Z b H v d) : Rel2 Z b H v d.up := by
  cases d with
  | a x => exact h
  | s t xs => obtain ⟨p, as, e, n, q, r⟩ := h; exact ⟨p, as, e, n, q, r.mapR fun _ _ z => z⟩
end
/-! ### values that are written down -/
def G0 (Z : Nat → Addr) (b : Addr) (te : TE) (x : Atom) : Prop := ∀ σ H Q, H b ≠ none → (∀ H' v, Same H H' → Rel0 Z b H' v x → Q v H') → te σ H Q
def GA (Z : Nat → Addr) (b : Addr) (ta : TA) (xs : List Atom) : Prop := ∀ σ H Q, H b ≠ none → (∀ H' vs, Same H H' → Paired (Rel0 Z b H') vs xs → Q vs H') → ta σ H Q
def G1 (Z : Nat → Addr) (b : Addr) (te : TE) (d : D1) : Prop := ∀ σ H Q, H b ≠ none → (∀ H' v, Same H H' → Rel1 Z b H' v d → Q v H') → te σ H Q
def GA1 (Z : Nat → Addr) (b : Addr) (ta : TA) (ds : List D1) : Prop := ∀ σ H Q, H b ≠ none → (∀ H' vs, Same H H' → Paired (Rel1 Z b H') vs ds → Q vs H') → ta σ H Q
def G2 (Z : Nat → Addr) (b : Addr) (te : TE) (d : D2) : Prop := ∀ σ H Q, H b ≠ none → (∀ H' v, Same H H' → Rel2 Z b H' v d → Q v H') → te σ H Q
def GA2 (Z : Nat → Addr) (b : Addr) (ta : TA) (ds : List D2) : Prop := ∀ σ H Q, H b ≠ none → (∀ H' vs, Same H H' → Paired (Rel2 Z b H') vs ds → Q vs H') → ta σ H Q
section
variable {Z : Nat → Addr} {b : Addr}
theorem some_keep {H H' : Hp} (s : Same H H') (h : H b ≠ none) : H' b ≠ none := fun e => by
  cases q : H b with
  | none => exact h q
  | some o => rw [s _ _ q] at e; cases e
theorem new_ne {H : Hp} {p : Addr} (h : H b ≠ none) (hp : H p = none) : p ≠ b := fun e => h (e ▸ hp)
theorem g_int (i : Int) : G0 Z b (tC (.int i)) (.int i) := fun _ H _ _ q => q H _ (Same.refl H) rfl
theorem g_bl (c : Bool) : G0 Z b (tC (.bl c)) (.bl c) := fun _ H _ _ q => q H _ (Same.refl H) rfl
theorem g_non : G0 Z b (tC .non) .non := fun _ H _ _ q => q H _ (Same.refl H) rfl
theorem g_str (s : Str) : G0 Z b (tC (.str s)) (.str s) := fun _ H _ _ q => q H _ (Same.refl H) rfl
theorem g_neg (i : Int) : G0 Z b (tUn (rU fun i => .int (-i)) (tC (.int i))) (.int (-i)) := fun _ H _ _ q => ⟨i, rfl, q H _ (Same.refl H) rfl⟩
theorem ga_nil : GA Z b tNil [] := fun _ H _ _ q => q H [] (Same.refl H) .nil
theorem ga_cons {te : TE} {ta : TA} {x : Atom} {xs : List Atom} (h : G0 Z b te x) (t : GA Z b ta xs) : GA Z b (tCons te ta) (x :: xs) := fun σ H Q n q => h σ H _ n fun H1 v s1 r1 => t σ H1 _ (some_keep s1 n) fun H2 vs s2 r2 => q H2 (v :: vs) (s1.trans s2) (.cons (r1.kp (Kp.of s2)) r2)
theorem g1_a {te : TE} {x : Atom} (h : G0 Z b te x) : G1 Z b te (.a x) := fun σ H Q n q => h σ H _ n fun H' v s r => q H' v s r
theorem le_line {n : Nat} (h : n ≤ 1000) : n ≤ sizeLine := Nat.le_trans h (by decide)
theorem g1_tup {ta : TA} {xs : List Atom} (h : GA Z b ta xs) (l : xs.length ≤ 1000) : G1 Z b (tTup ta) (.s true xs) := fun σ H Q n q => h σ H _ n fun H1 vs s1 r1 => ⟨by rw [r1.len]; exact le_line l, fun p hp => q _ _ (s1.trans (new_at hp).1) ⟨p, vs, rfl, new_ne (some_keep s1 n) hp, (new_at hp).2, r1.mapP' fun _ _ z => z.kp (Kp.of (new_at hp).1)⟩⟩
theorem g1_lst {ta : TA} {xs : List Atom} (h : GA Z b ta xs) (l : xs.length ≤ 1000) : G1 Z b (tLst ta) (.s false xs) := fun σ H Q n q => h σ H _ n fun H1 vs s1 r1 => ⟨by rw [r1.len]; exact le_line l, fun p hp => q _ _ (s1.trans (new_at hp).1) ⟨p, vs, rfl, new_ne (some_keep s1 n) hp, (new_at hp).2, r1.mapP' fun _ _ z => z.kp (Kp.of (new_at hp).1)⟩⟩
theorem ga1_nil : GA1 Z b tNil [] := fun _ H _ _ q => q H [] (Same.refl H) .nil
theorem ga1_cons {te : TE} {ta : TA} {d : D1} {ds : List D1} (h : G1 Z b te d) (t : GA1 Z b ta ds) : GA1 Z b (tCons te ta) (d :: ds) := fun σ H Q n q => h σ H _ n fun H1 v s1 r1 => t σ H1 _ (some_keep s1 n) fun H2 vs s2 r2 => q H2 (v :: vs) (s1.trans s2) (.cons (r1.kp (Kp.of s2)) r2)
theorem g2_a {te : TE} {x : Atom} (h : G0 Z b te x) : G2 Z b te (.a x) := fun σ H Q n q => h σ H _ n fun H' v s r => q H' v s r
theorem g2_tup {ta : TA} {ds : List D1} (h : GA1 Z b ta ds) (l : ds.length ≤ 1000) : G2 Z b (tTup ta) (.s true ds) := fun σ H Q n q => h σ H _ n fun H1 vs s1 r1 => ⟨by rw [r1.len]; exact le_line l, fun p hp => q _ _ (s1.trans (new_at hp).1) ⟨p, vs, rfl, new_ne (some_keep s1 n) hp, (new_at hp).2, r1.mapP' fun _ _ z => z.kp (Kp.of (new_at hp).1)⟩⟩
theorem g2_lst {ta : TA} {ds : List D1} (h : GA1 Z b ta ds) (l : ds.length ≤ 1000) : G2 Z b (tLst ta) (.s false ds) := fun σ H Q n q => h σ H _ n fun H1 vs s1 r1 => ⟨by rw [r1.len]; exact le_line l, fun p hp => q _ _ (s1.trans (new_at hp).1) ⟨p, vs, rfl, new_ne (some_keep s1 n) hp, (new_at hp).2, r1.mapP' fun _ _ z => z.kp (Kp.of (new_at hp).1)⟩⟩
theorem ga2_nil : GA2 Z b tNil [] := fun _ H _ _ q => q H [] (Same.refl H) .nil
theorem ga2_cons {te : TE} {ta : TA} {d : D2} {ds : List D2} (h : G2 Z b te d) (t : GA2 Z b ta ds) : GA2 Z b (tCons te ta) (d :: ds) := fun σ H Q n q => h σ H _ n fun H1 v s1 r1 => t σ H1 _ (some_keep s1 n) fun H2 vs s2 r2 => q H2 (v :: vs) (s1.trans s2) (.cons (r1.kp (Kp.of s2)) r2)
theorem l_lst1 {ta : TA} {ds : List D1} (h : GA1 Z b ta ds) (l : ds.length ≤ 1000) {σ : L2.St} {H : Hp} {Q : VK} (n : H b ≠ none) (q : ∀ (H' : Hp) (p : Addr) (as : List V), Same H H' → p ≠ b → H' p = some (.lst as) → Paired (Rel1 Z b H') as ds → Q (.ref p) H') : tLst ta σ H Q := h σ H _ n fun H1 vs s1 r1 => ⟨by rw [r1.len]; exact le_line l, fun p hp => q _ p vs (s1.trans (new_at hp).1) (new_ne (some_keep s1 n) hp) (new_at hp).2 (r1.mapP' fun _ _ z => z.kp (Kp.of (new_at hp).1))⟩
theorem l_lst2 {ta : TA} {ds : List D2} (h : GA2 Z b ta ds) (l : ds.length ≤ 1000) {σ : L2.St} {H : Hp} {Q : VK} (n : H b ≠ none) (q : ∀ (H' : Hp) (p : Addr) (as : List V), Same H H' → p ≠ b → H' p = some (.lst as) → Paired (Rel2 Z b H') as ds → Q (.ref p) H') : tLst ta σ H Q := h σ H _ n fun H1 vs s1 r1 => ⟨by rw [r1.len]; exact le_line l, fun p hp => q _ p vs (s1.trans (new_at hp).1) (new_ne (some_keep s1 n) hp) (new_at hp).2 (r1.mapP' fun _ _ z => z.kp (Kp.of (new_at hp).1))⟩
end
end K14

namespace K14
open PySem L2 PySem.Spec PyProof.Rows
def top (i : Nat) : Stmt := PySem.Challenge.pw_sumlives_k13_rows_and_tests_made.main.body.getD i (.Pass ⟨0, 0, 0, 0⟩)
theorem two_at (c : Int) (b : Prop) [Decidable b] : ∃ v, atI [V.int 0, V.int c] (if decide b = true then 1 else 0) = some (V.int v) := by
  by_cases h : b
  · exact ⟨c, by rw [decide_eq_true h]; rfl⟩
  · exact ⟨0, by rw [decide_eq_false h]; rfl⟩
/-- a box: three ints -/
def Box (H : Hp) (b : Addr) : Prop := ∃ x y z : Int, H b = some (.lst [.int x, .int y, .int z])
section
variable {P : Program} {w : World} {K : PySem.W.Frag} {mg : Str → Option Value} {base : Heap}
abbrev s_law_take : Stmt := top 29
abbrev n_law_take : List Str := ["_law_box_here", "_law_many", "_law_digit", "_law_raw", "_law_wide"]
theorem sc_law_take : FnScope n_law_take ["_law_box_here", "_law_many"] (defScope s_law_take) := ⟨rfl, rfl, rfl, by decide +kernel, rfl, by decide +kernel, by decide +kernel⟩
def spTake : Sp := fun vs H Q _ => ∃ (b : Addr) (n : Int), vs = [.ref b, .int n] ∧ Box H b ∧ 0 < n ∧ n < 10000000000 ∧ ∀ (d x y z : Int), 0 ≤ d → d < n → Q (.int d) (upd H b (.lst [.int x, .int y, .int z]))
theorem ok_take (T : Txt mg) (F : DefAt K mg "_law_take" s_law_take ["_law_box_here", "_law_many"]) : Has P w K mg base 1 "_law_take" ["_law_box_here", "_law_many"] spTake := by
  refine F.has sc_law_take (fun vs H Q E h => ?_) (fun f cdv A outer s H vs Q E hr h => ?_)
  · obtain ⟨b, n, rfl, _⟩ := h
    rfl
  · obtain ⟨b, n, rfl, ⟨x, y, z, hb⟩, n0, n1, k⟩ := h
    refine ⟨_, (pss_cons (ps_if (pt_cmpR op_gt (pe_ix ix_list (pv 0) pe_int (fun _ _ => rfl)) pe_int (nomark _)) (pss_cons (ps_set (i := 2) sc_law_take.nd rfl (Or.inl rfl) (pe_op op_mod (pe_callTy call_int1 (by rfl) T.z_int (by decide +kernel) (pa_cons (pe_ix ix_list (pv 0) pe_int (fun _ _ => rfl)) pa_nil)) (pv 1)))
      (pss_cons (ps_asg (pe_op op_fdivW (pe_ix ix_list (pv 0) pe_int (fun _ _ => rfl)) (pv 1)) (pg_sub (pv 0) pe_int set_list))
      (pss_one (ps_ret (pv 2))))) pss_nil)
      (pss_cons (ps_asg (pe_op op_add (pe_ix ix_list (pv 0) pe_int (fun _ _ => rfl)) pe_int) (pg_sub (pv 0) pe_int set_list))
      (pss_cons (ps_set (i := 3) sc_law_take.nd rfl (Or.inl rfl) (pe_op op_mod (pe_callTy call_int1 (by rfl) T.z_int (by decide +kernel) (pa_cons (pe_op op_mul (pe_op op_add (pe_ix ix_list (pv 0) pe_int (fun _ _ => rfl)) (pe_op op_mul pe_int (pe_ix ix_list (pv 0) pe_int (fun _ _ => rfl)))) pe_int) pa_nil)) pe_int))
      (pss_cons (ps_asg (pe_op op_add (pe_op op_mod (pe_callTy call_int1 (by rfl) T.z_int (by decide +kernel) (pa_cons (pe_op op_add (pe_op op_mul (pv 3) pe_int) pe_int) pa_nil)) pe_int) pe_int) (pg_sub (pv 0) pe_int set_list))
      (pss_cons (ps_if (pt_cmpR op_lt (pv 1) (pe_op op_pow pe_int pe_int) (nomark _)) (pss_one (ps_ret (pe_op op_mod (pe_callTy call_int1 (by rfl) T.z_int (by decide +kernel) (pa_cons (pe_op op_fdiv (pe_op op_add (pe_op op_mul (pv 3) pe_int) (pe_ix ix_list (pv 0) pe_int (fun _ _ => rfl))) pe_int) pa_nil)) (pv 1)))) pss_nil)
      (pss_cons (ps_set (i := 4) sc_law_take.nd rfl (Or.inl rfl) (pe_op op_mul (pe_op op_add (pe_op op_mul (pv 3) pe_int) (pe_ix ix_list (pv 0) pe_int (fun _ _ => rfl))) (pe_op op_pow pe_int pe_int)))
      (pss_one (ps_ret (pe_op op_mod (pe_callTy call_int1 (by rfl) T.z_int (by decide +kernel) (pa_cons (pe_op op_add (pe_op op_add (pv 4) (pe_op op_mul (pe_op op_pow (pe_ix ix_list (pv 0) pe_int (fun _ _ => rfl)) pe_int) pe_int)) (pv 3)) pa_nil)) (pv 1)))))))))), ?_⟩
    -- if box[0] > 0: the digit; else the next number
    refine ⟨_, rfl, b, _, _, _, rfl, rfl, SqL.of hb, rfl, _, _, rfl, rfl, _, rfl, ite2 (fun _ => ?_) (fun _ => ?_)⟩
    · refine ⟨_, rfl, b, _, _, _, rfl, rfl, SqL.of hb, rfl, .inl ⟨_, rfl, _, rfl, _, _, rfl, rfl, n0, ?_⟩⟩
      refine ⟨_, rfl, b, _, _, _, rfl, rfl, SqL.of hb, rfl, _, rfl, _, _, rfl, rfl, wide_div n0 (show n.natAbs < 2 ^ 40 by omega) (by decide) (by decide), _, rfl, b, _, _, _, rfl, rfl, hb, rfl, _, rfl, ?_⟩
      exact k _ _ _ _ (Int.emod_nonneg _ (by omega)) (Int.emod_lt_of_pos _ n0)
    · refine ⟨_, rfl, b, _, _, _, rfl, rfl, SqL.of hb, rfl, _, _, rfl, rfl, _, rfl, b, _, _, _, rfl, rfl, hb, rfl, ?_⟩
      have h1 : upd H b (.lst [.int x, .int y, .int (z + 1)]) b = some (.lst [.int x, .int y, .int (z + 1)]) := upd_same
      refine ⟨_, rfl, b, _, _, _, rfl, rfl, SqL.of h1, rfl, _, rfl, b, _, _, _, rfl, rfl, SqL.of h1, rfl, _, _, rfl, rfl, .inl ⟨by decide, by decide⟩, _, _, rfl, rfl, _, _, rfl, rfl, .inr ⟨by decide, by decide⟩, .inl ⟨_, rfl, _, _, rfl, rfl, (by show (0 : Int) < 2147483647; decide), ?_⟩⟩
      generalize (y + 104729 * (z + 1)) * 69623 % 2147483647 = r
      refine ⟨_, rfl, _, _, rfl, rfl, .inr ⟨by decide, by decide⟩, _, _, rfl, rfl, .inl ⟨_, rfl, _, _, rfl, rfl, (by show (0 : Int) < 2147483629; decide), _, _, rfl, rfl, _, rfl, b, _, _, _, rfl, rfl, h1, rfl, ?_⟩⟩
      rw [upd_upd]
      refine ⟨_, rfl, _, _, rfl, rfl, ⟨by decide, by decide, by decide⟩, _, _, rfl, rfl, _, rfl, ?_⟩
      have e : decide (n < 2 ^ (40 : Int).toNat) = true := decide_eq_true (by
        have q : (2 : Int) ^ (40 : Int).toNat = 1099511627776 := by decide +kernel
        omega)
      rw [e]
      refine iteT ⟨_, rfl, _, _, rfl, rfl, .inr ⟨by decide, by decide⟩, _, rfl, b, _, _, _, rfl, rfl, SqL.of upd_same, rfl, _, _, rfl, rfl, _, _, rfl, rfl, ⟨by decide, by decide⟩, .inl ⟨_, rfl, _, rfl, _, _, rfl, rfl, n0, ?_⟩⟩
      exact k _ _ _ _ (Int.emod_nonneg _ (by omega)) (Int.emod_lt_of_pos _ n0)
abbrev s_law_box : Stmt := top 28
abbrev n_law_box : List Str := ["_law_script", "_law_k", "_law_own", "_law_cell", "_law_seed"]
theorem sc_law_box : FnScope n_law_box ["_law_script", "_law_k", "_law_own"] (defScope s_law_box) := ⟨rfl, rfl, rfl, by decide +kernel, rfl, by decide +kernel, by decide +kernel⟩
def spBox (K : PySem.W.Frag) : Sp := fun vs H Q _ => ∃ (a : Addr) (ns : List Int) (k o : Int), vs = [.ref a, .int k, .int o] ∧ SqL K H a (ns.map V.int) ∧ 0 ≤ k ∧ k < 1000 ∧ 0 ≤ o ∧ o < 1000 ∧ ∀ (H' : Hp) (p : Addr), Same H H' → H p = none → Box H' p → Q (.ref p) H'
theorem ok_box (T : Txt mg) (F : DefAt K mg "_law_box" s_law_box ["_law_script", "_law_k", "_law_own"]) : Has P w K mg base 1 "_law_box" ["_law_script", "_law_k", "_law_own"] (spBox K) := by
  refine F.has sc_law_box (fun vs H Q E h => ?_) (fun f cdv A outer s H vs Q E hr h => ?_)
  · obtain ⟨a, ns, k, o, rfl, _⟩ := h
    rfl
  · obtain ⟨a, ns, i, o, rfl, hS, i0, i1, o0, o1, k⟩ := h
    refine ⟨_, (pss_cons (ps_set (i := 3) sc_law_box.nd rfl (Or.inl rfl) (pe_op op_add (pe_op op_add (pe_op op_mul pe_int (pv 1)) (pe_op op_mul pe_int (pv 2))) pe_int))
      (pss_cons (ps_if (pt_cmpR op_lt (pv 1) (pe_callB call_len (by rfl) T.z_len (by decide +kernel) (pa_cons (pv 0) pa_nil)) (nomark _)) (pss_one (ps_set (i := 3) sc_law_box.nd rfl (Or.inl rfl) (pe_callB call_abs (by rfl) T.z_abs (by decide +kernel) (pa_cons (pe_ix ix_list (pv 0) (pv 1) (fun _ _ => rfl)) pa_nil)))) (pss_one (ps_if (pt_cmpR op_gt (pe_callB call_len (by rfl) T.z_len (by decide +kernel) (pa_cons (pv 0) pa_nil)) pe_int (nomark _)) (pss_one (ps_set (i := 3) sc_law_box.nd rfl (Or.inl rfl) (pe_op op_add (pv 3) (pe_op op_mul (pe_op op_mod (pe_callTy call_int1 (by rfl) T.z_int (by decide +kernel) (pa_cons (pe_callB call_abs (by rfl) T.z_abs (by decide +kernel) (pa_cons (pe_ix ix_list (pv 0) (pe_op op_mod (pe_callTy call_int1 (by rfl) T.z_int (by decide +kernel) (pa_cons (pv 1) pa_nil)) (pe_callB call_len (by rfl) T.z_len (by decide +kernel) (pa_cons (pv 0) pa_nil))) (fun _ _ => rfl)) pa_nil)) pa_nil)) pe_int) pe_int)))) pss_nil)))
      (pss_cons (ps_set (i := 4) sc_law_box.nd rfl (Or.inl rfl) (pe_op op_add (pe_op op_mod (pe_callTy call_int1 (by rfl) T.z_int (by decide +kernel) (pa_cons (pe_op op_add (pe_op op_mul (pe_op op_mod (pe_callTy call_int1 (by rfl) T.z_int (by decide +kernel) (pa_cons (pv 3) pa_nil)) pe_int) pe_int) (pe_op op_mul pe_int (pe_op op_add (pv 1) (pe_op op_mul pe_int (pv 2))))) pa_nil)) pe_int) pe_int))
      (pss_one (ps_ret (pe_lst (pa_cons (pe_ix ix_list (pe_lst (pa_cons pe_int (pa_cons (pv 3) pa_nil))) (pe_callTy call_int1 (by rfl) T.z_int (by decide +kernel) (pa_cons (pe_cmpR op_ge (pv 3) (pe_op op_pow pe_int pe_int) (nomark _)) pa_nil)) (fun _ _ => rfl)) (pa_cons (pv 4) (pa_cons pe_int pa_nil))))))))), ?_⟩
    refine ⟨_, rfl, _, _, rfl, rfl, .inl ⟨by decide, by decide⟩, _, rfl, _, _, rfl, rfl, .inl ⟨by decide, by decide⟩, _, _, rfl, rfl, _, _, rfl, rfl, ?_⟩
    have hlen : (ns.map V.int).length = ns.length := List.length_map ..
    -- the cell by three ways; what follows is the same
    refine ⟨_, rfl, _, rfl, _, _, rfl, .inl ⟨_, hS, rfl⟩, _, _, rfl, rfl, _, rfl, ite2 (fun h1 => ?_) (fun h1 => ?_)⟩
    · have h1' : i < ((ns.map V.int).length : Int) := of_decide_eq_true h1
      obtain ⟨j, rfl⟩ : ∃ j : Nat, i = (j : Int) := ⟨i.toNat, by omega⟩
      have hj : j < ns.length := by omega
      have ej : (ns.map V.int)[j]? = some (V.int ns[j]) := by rw [List.getElem?_map, List.getElem?_eq_getElem hj]; rfl
      refine ⟨_, rfl, _, rfl, a, _, _, _, rfl, rfl, hS, atI_nat ej, _, rfl, ?_⟩
      refine ⟨_, rfl, .inl ⟨_, rfl, _, _, rfl, rfl, (by show (0 : Int) < 2147483629; decide), _, _, rfl, rfl, .inr ⟨by decide, by decide⟩, _, rfl, _, rfl, _, _, rfl, rfl, .inl ⟨by decide, by decide⟩, _, _, rfl, rfl, _, _, rfl, rfl, .inl ⟨by decide, by decide⟩, _, _, rfl, rfl, .inl ⟨_, rfl, _, _, rfl, rfl, (by show (0 : Int) < 2147483629; decide), _, _, rfl, rfl, ?_⟩⟩⟩
      refine ⟨_, rfl, (by decide : 2 ≤ sizeLine), fun q hq => ⟨_, rfl, _, _, rfl, rfl, ⟨by decide, by decide, by decide⟩, _, _, rfl, rfl, .inr ⟨_, rfl, ?_⟩⟩⟩
      refine ⟨q, _, _, _, rfl, rfl, SqL.of upd_same, (two_at _ _).choose_spec, _, rfl, (by decide : 3 ≤ sizeLine), fun p hp => ?_⟩
      have npq : p ≠ q := fun z => by rw [z, upd_same] at hp; cases hp
      have hp0 : H p = none := by rw [upd_ne npq] at hp; exact hp
      refine k _ p (fun b o z => ?_) hp0 ⟨_, _, _, upd_same⟩
      rw [upd_ne (ne_of_none z hp0), upd_ne (ne_of_none z hq)]
      exact z
    · refine ⟨_, rfl, _, _, rfl, .inl ⟨_, hS, rfl⟩, _, _, rfl, rfl, _, rfl, ite2 (fun h2 => ?_) (fun h2 => ?_)⟩
      · have h2' : (0 : Int) < ((ns.map V.int).length : Int) := of_decide_eq_true h2
        have m0 := Int.emod_nonneg i (b := ((ns.map V.int).length : Int)) (by omega)
        have m1 := Int.emod_lt_of_pos i h2'
        obtain ⟨j, ej0⟩ : ∃ j : Nat, i % ((ns.map V.int).length : Int) = (j : Int) := ⟨(i % ((ns.map V.int).length : Int)).toNat, by omega⟩
        have hj : j < ns.length := by omega
        have ej : (ns.map V.int)[j]? = some (V.int ns[j]) := by rw [List.getElem?_map, List.getElem?_eq_getElem hj]; rfl
        refine ⟨_, rfl, _, rfl, _, rfl, .inl ⟨_, rfl, _, rfl, _, _, rfl, .inl ⟨_, hS, rfl⟩, _, _, rfl, rfl, h2', a, _, _, _, rfl, rfl, hS, (by rw [ej0]; exact atI_nat ej), _, rfl, .inl ⟨_, rfl, _, _, rfl, rfl, (by show (0 : Int) < 2147483629; decide), _, _, rfl, rfl, .inr ⟨by decide, by decide⟩, _, _, rfl, rfl, ?_⟩⟩⟩
        refine ⟨_, rfl, .inl ⟨_, rfl, _, _, rfl, rfl, (by show (0 : Int) < 2147483629; decide), _, _, rfl, rfl, .inr ⟨by decide, by decide⟩, _, rfl, _, rfl, _, _, rfl, rfl, .inl ⟨by decide, by decide⟩, _, _, rfl, rfl, _, _, rfl, rfl, .inl ⟨by decide, by decide⟩, _, _, rfl, rfl, .inl ⟨_, rfl, _, _, rfl, rfl, (by show (0 : Int) < 2147483629; decide), _, _, rfl, rfl, ?_⟩⟩⟩
        refine ⟨_, rfl, (by decide : 2 ≤ sizeLine), fun q hq => ⟨_, rfl, _, _, rfl, rfl, ⟨by decide, by decide, by decide⟩, _, _, rfl, rfl, .inr ⟨_, rfl, ?_⟩⟩⟩
        refine ⟨q, _, _, _, rfl, rfl, SqL.of upd_same, (two_at _ _).choose_spec, _, rfl, (by decide : 3 ≤ sizeLine), fun p hp => ?_⟩
        have npq : p ≠ q := fun z => by rw [z, upd_same] at hp; cases hp
        have hp0 : H p = none := by rw [upd_ne npq] at hp; exact hp
        refine k _ p (fun b o z => ?_) hp0 ⟨_, _, _, upd_same⟩
        rw [upd_ne (ne_of_none z hp0), upd_ne (ne_of_none z hq)]
        exact z
      · show tSeq _ _ _ _ _
        refine ⟨_, rfl, .inl ⟨_, rfl, _, _, rfl, rfl, (by show (0 : Int) < 2147483629; decide), _, _, rfl, rfl, .inr ⟨by decide, by decide⟩, _, rfl, _, rfl, _, _, rfl, rfl, .inl ⟨by decide, by decide⟩, _, _, rfl, rfl, _, _, rfl, rfl, .inl ⟨by decide, by decide⟩, _, _, rfl, rfl, .inl ⟨_, rfl, _, _, rfl, rfl, (by show (0 : Int) < 2147483629; decide), _, _, rfl, rfl, ?_⟩⟩⟩
        refine ⟨_, rfl, (by decide : 2 ≤ sizeLine), fun q hq => ⟨_, rfl, _, _, rfl, rfl, ⟨by decide, by decide, by decide⟩, _, _, rfl, rfl, .inr ⟨_, rfl, ?_⟩⟩⟩
        refine ⟨q, _, _, _, rfl, rfl, SqL.of upd_same, (two_at _ _).choose_spec, _, rfl, (by decide : 3 ≤ sizeLine), fun p hp => ?_⟩
        have npq : p ≠ q := fun z => by rw [z, upd_same] at hp; cases hp
        have hp0 : H p = none := by rw [upd_ne npq] at hp; exact hp
        refine k _ p (fun b o z => ?_) hp0 ⟨_, _, _, upd_same⟩
        rw [upd_ne (ne_of_none z hp0), upd_ne (ne_of_none z hq)]
        exact z
/-- but for the box all stands as before -/
def But (b : Addr) (H H' : Hp) : Prop := ∀ a o, a ≠ b → H a = some o → H' a = some o
theorem But.trans {b : Addr} {H H1 H2 : Hp} (s : But b H H1) (t : But b H1 H2) : But b H H2 := fun a o n z => t a o n (s a o n z)
theorem But.upd' {b : Addr} {H : Hp} {o : HO} : But b H (upd H b o) := fun a u n z => by rw [upd_ne n]; exact z
theorem Same.but {b : Addr} {H H' : Hp} (s : Same H H') : But b H H' := fun a o _ z => s a o z
theorem Box.keep {b : Addr} {H H' : Hp} (s : Same H H') (h : Box H b) : Box H' b := by
  obtain ⟨x, y, z, h⟩ := h
  exact ⟨x, y, z, s _ _ h⟩
theorem Box.upd' {b : Addr} {H : Hp} {x y z : Int} : Box (upd H b (.lst [.int x, .int y, .int z])) b := ⟨x, y, z, upd_same⟩
end
end K14

set_option pp.maxSteps 600
namespace K14
open PySem L2 PySem.Spec PyProof.Rows
/-- what isinstance asks of an own class of the package -/
structure ObjK (K : PySem.W.Frag) (C : Addr) : Prop where
  cl : Cls K C
  ha : PySem.W.findIn K (.ref C) "__class__" = some (some (.builtin "object.__class__"))
  hn : PySem.W.specialIn K (.builtin "object.__class__") "__get__" = some (some (.builtin "getset_descriptor.__get__"))
  htk : PySem.W.takesIn K (.builtin "object.__class__") = some true
  hm : PySem.W.mroIn K C (.type "object") = some true
  str : PySem.W.kitOne K (.ref C) (.type "str") = some false
  int : PySem.W.kitOne K (.ref C) (.type "int") = some false
  bool : PySem.W.kitOne K (.ref C) (.type "bool") = some false
  lst : PySem.W.kitOne K (.ref C) (.type "list") = some false
  tup : PySem.W.kitOne K (.ref C) (.type "tuple") = some false
def isStr0 : Atom → Bool
  | .str _ => true
  | _ => false
def isInt0 : Atom → Bool
  | .int _ => true
  | .bl _ => true
  | _ => false
def isBl0 : Atom → Bool
  | .bl _ => true
  | _ => false
def at2 (f : Atom → Bool) : D2 → Bool
  | .a x => f x
  | _ => false
def isSeq2 : D2 → Bool
  | .s _ _ => true
  | _ => false
section
variable {K : PySem.W.Frag} {Z : Nat → Addr} {b : Addr} {H : Hp} {v : V}
theorem ty_obj (OZ : ∀ k, ObjK K (Z k)) {k : Nat} (h : Rel0 Z b H v (.obj k)) : TyX K H v (.ref (Z k)) := by
  obtain ⟨a, dx, fs, rfl, _, e⟩ := h
  have o := OZ k
  exact .base (.ins e o.cl o.ha o.hn o.htk o.hm)
theorem ty_seq {t : Bool} {xs : List D1} (h : Rel2 Z b H v (.s t xs)) : TyX K H v (.type (if t then "tuple" else "list")) := by
  obtain ⟨p, as, rfl, _, e, _⟩ := h
  cases t
  · exact .base (.lst e)
  · exact .base (.tup e)
theorem ty_of (OZ : ∀ k, ObjK K (Z k)) {d : D2} (h : Rel2 Z b H v d) {T : String} {f : Atom → Bool} (h0 : PySem.W.kitOne K (.type "NoneType") (.type T) = some (f .non)) (h1 : ∀ c, PySem.W.kitOne K (.type "bool") (.type T) = some (f (.bl c))) (h2 : ∀ i, PySem.W.kitOne K (.type "int") (.type T) = some (f (.int i))) (h3 : ∀ s, PySem.W.kitOne K (.type "str") (.type T) = some (f (.str s)))
    (h4 : ∀ k, PySem.W.kitOne K (.ref (Z k)) (.type T) = some (f (.obj k))) (h5 : PySem.W.kitOne K (.type "list") (.type T) = some false) (h6 : PySem.W.kitOne K (.type "tuple") (.type T) = some false) : ∃ t, TyX K H v t ∧ PySem.W.kitOne K t (.type T) = some (at2 f d) := by
  cases d with
  | a x =>
    cases x with
    | non => cases (show v = .non from h); exact ⟨_, .base .non, h0⟩
    | bl c => cases (show v = .bl c from h); exact ⟨_, .base (.bl c), h1 c⟩
    | int i => cases (show v = .int i from h); exact ⟨_, .base (.int i), h2 i⟩
    | str s => cases (show v = .str s from h); exact ⟨_, .base (.str s), h3 s⟩
    | obj k => exact ⟨_, ty_obj OZ (k := k) h, h4 k⟩
  | s t xs =>
    refine ⟨_, ty_seq h, ?_⟩
    cases t
    · exact h5
    · exact h6
theorem ty_str (OZ : ∀ k, ObjK K (Z k)) {d : D2} (h : Rel2 Z b H v d) : ∃ t, TyX K H v t ∧ PySem.W.kitOne K t (.type "str") = some (at2 isStr0 d) :=
  ty_of OZ h (kit_ty (by decide +kernel)) (fun _ => by first | exact kit_ty (show kitB _ _ = some false by decide +kernel) | exact kit_ty (show kitB _ _ = some true by decide +kernel)) (fun _ => by first | exact kit_ty (show kitB _ _ = some false by decide +kernel) | exact kit_ty (show kitB _ _ = some true by decide +kernel)) (fun _ => by first | exact kit_ty (show kitB _ _ = some false by decide +kernel) | exact kit_ty (show kitB _ _ = some true by decide +kernel)) (fun k => (OZ k).str) (kit_ty (by decide +kernel)) (kit_ty (by decide +kernel))
theorem ty_int (OZ : ∀ k, ObjK K (Z k)) {d : D2} (h : Rel2 Z b H v d) : ∃ t, TyX K H v t ∧ PySem.W.kitOne K t (.type "int") = some (at2 isInt0 d) :=
  ty_of OZ h (kit_ty (by decide +kernel)) (fun _ => by first | exact kit_ty (show kitB _ _ = some false by decide +kernel) | exact kit_ty (show kitB _ _ = some true by decide +kernel)) (fun _ => by first | exact kit_ty (show kitB _ _ = some false by decide +kernel) | exact kit_ty (show kitB _ _ = some true by decide +kernel)) (fun _ => by first | exact kit_ty (show kitB _ _ = some false by decide +kernel) | exact kit_ty (show kitB _ _ = some true by decide +kernel)) (fun k => (OZ k).int) (kit_ty (by decide +kernel)) (kit_ty (by decide +kernel))
theorem ty_bool (OZ : ∀ k, ObjK K (Z k)) {d : D2} (h : Rel2 Z b H v d) : ∃ t, TyX K H v t ∧ PySem.W.kitOne K t (.type "bool") = some (at2 isBl0 d) :=
  ty_of OZ h (kit_ty (by decide +kernel)) (fun _ => by first | exact kit_ty (show kitB _ _ = some false by decide +kernel) | exact kit_ty (show kitB _ _ = some true by decide +kernel)) (fun _ => by first | exact kit_ty (show kitB _ _ = some false by decide +kernel) | exact kit_ty (show kitB _ _ = some true by decide +kernel)) (fun _ => by first | exact kit_ty (show kitB _ _ = some false by decide +kernel) | exact kit_ty (show kitB _ _ = some true by decide +kernel)) (fun k => (OZ k).bool) (kit_ty (by decide +kernel)) (kit_ty (by decide +kernel))
theorem ty_seqs (OZ : ∀ k, ObjK K (Z k)) {d : D2} (h : Rel2 Z b H v d) : ∃ t, TyX K H v t ∧ PySem.W.kitAny K t [.type "list", .type "tuple"] = some (isSeq2 d) := by
  have no : ∀ {t : Value}, PySem.W.kitOne K t (.type "list") = some false → PySem.W.kitOne K t (.type "tuple") = some false → PySem.W.kitAny K t [.type "list", .type "tuple"] = some false := fun a b => kitAny_cons (b := false) a (fun _ => kitAny_cons (b := false) b (fun _ => rfl) (fun z => nomatch z)) (fun z => nomatch z)
  cases d with
  | a x =>
    cases x with
    | non => cases (show v = .non from h); exact ⟨_, .base .non, no (kit_ty (by decide +kernel)) (kit_ty (by decide +kernel))⟩
    | bl c => cases (show v = .bl c from h); exact ⟨_, .base (.bl c), no (kit_ty (by decide +kernel)) (kit_ty (by decide +kernel))⟩
    | int i => cases (show v = .int i from h); exact ⟨_, .base (.int i), no (kit_ty (by decide +kernel)) (kit_ty (by decide +kernel))⟩
    | str s => cases (show v = .str s from h); exact ⟨_, .base (.str s), no (kit_ty (by decide +kernel)) (kit_ty (by decide +kernel))⟩
    | obj k => exact ⟨_, ty_obj OZ (k := k) h, no (OZ k).lst (OZ k).tup⟩
  | s t xs =>
    refine ⟨_, ty_seq h, ?_⟩
    cases t
    · exact kitAny_cons (b := true) (kit_ty (by decide +kernel)) (fun z => nomatch z) (fun _ => rfl)
    · exact kitAny_cons (b := false) (kit_ty (by decide +kernel)) (fun _ => kitAny_cons (b := true) (kit_ty (by decide +kernel)) (fun z => nomatch z) (fun _ => rfl)) (fun z => nomatch z)
end
theorem inV_strs (s : Str) : ∀ l : List Str, inV (.str s) (l.map V.str) = decide (s ∈ l)
  | [] => rfl
  | a :: l => by
    have ih := inV_strs s l
    have e : inV (.str s) ((a :: l).map V.str) = (eqV (.str a) (.str s) || inV (.str s) (l.map V.str)) := rfl
    have e2 : eqV (.str a) (.str s) = decide (s = a) := by
      show decide _ = _
      exact decide_eq_decide.mpr ⟨fun q => by cases q; rfl, fun q => by rw [q]⟩
    rw [e, e2, ih]
    by_cases h : s = a
    · subst h; simp
    · simp [h]
def noNames : List Str := ["none", "to", "old", "new", "one", "not"]
def nameB (s : Str) : Bool := decide (s.length ≤ 4) && (Txt.isascii s && (Txt.isalpha s && (Txt.islower s && !decide (s ∈ noNames))))
def name0 : Atom → Bool
  | .str s => nameB s
  | _ => false
def int0 : Atom → Bool
  | .int _ => true
  | _ => false
theorem int_bl (d : D2) : (at2 isInt0 d && !at2 isBl0 d) = at2 int0 d := by
  cases d with
  | a x => cases x <;> rfl
  | s t xs => rfl
section
variable {P : Program} {w : World} {K : PySem.W.Frag} {mg : Str → Option Value} {base : Heap}
abbrev s_is_integer : Stmt := top 2
abbrev n_is_integer : List Str := ["value"]
theorem sc_is_integer : FnScope n_is_integer ["value"] (defScope s_is_integer) := ⟨rfl, rfl, rfl, by decide +kernel, rfl, by decide +kernel, by decide +kernel⟩
def spInt (Z : Nat → Addr) : Sp := fun vs H Q _ => ∃ (b : Addr) (x : V) (d : D2), vs = [x] ∧ Rel2 Z b H x d ∧ Q (.bl (at2 int0 d)) H
theorem ok_int {Z : Nat → Addr} (T : Txt mg) (OZ : ∀ k, ObjK K (Z k)) (F : DefAt K mg "is_integer" s_is_integer ["value"]) : Has P w K mg base 1 "is_integer" ["value"] (spInt Z) := by
  refine F.has sc_is_integer (fun vs H Q E h => ?_) (fun f cdv A outer s H vs Q E hr h => ?_)
  · obtain ⟨b, x, d, rfl, _⟩ := h
    rfl
  · obtain ⟨b, x, d, rfl, r, k⟩ := h
    refine ⟨_, (pss_one (ps_ret (pe_and (pe_callB call_isi (by rfl) T.z_isinstance (by decide +kernel) (pa_cons (pv 0) (pa_cons (pe_bltn (v := .ty "int") (by rfl) T.z_int (by decide +kernel) rfl) pa_nil))) (pe_one (pe_not (pe_callB call_isi (by rfl) T.z_isinstance (by decide +kernel) (pa_cons (pv 0) (pa_cons (pe_bltn (v := .ty "bool") (by rfl) T.z_bool (by decide +kernel) rfl) pa_nil)))))))), ?_⟩
    obtain ⟨t1, h1, k1⟩ := ty_int OZ r
    obtain ⟨t2, h2, k2⟩ := ty_bool OZ r
    rw [← int_bl] at k
    refine ⟨_, rfl, _, _, t1, _, _, rfl, .ty _, h1, k1, _, rfl, ?_⟩
    cases hi : at2 isInt0 d with
    | false =>
      rw [hi] at k
      exact iteSf rfl k
    | true =>
      rw [hi] at k
      exact iteSe rfl ⟨_, rfl, _, _, t2, _, _, rfl, .ty _, h2, k2, _, rfl, k⟩
abbrev s_is_sequence : Stmt := top 3
abbrev n_is_sequence : List Str := ["value"]
theorem sc_is_sequence : FnScope n_is_sequence ["value"] (defScope s_is_sequence) := ⟨rfl, rfl, rfl, by decide +kernel, rfl, by decide +kernel, by decide +kernel⟩
def spSeq (Z : Nat → Addr) : Sp := fun vs H Q _ => ∃ (b : Addr) (x : V) (d : D2), vs = [x] ∧ Rel2 Z b H x d ∧ ∀ H', Same H H' → Q (.bl (isSeq2 d)) H'
theorem ok_seq {Z : Nat → Addr} (T : Txt mg) (OZ : ∀ k, ObjK K (Z k)) (F : DefAt K mg "is_sequence" s_is_sequence ["value"]) : Has P w K mg base 1 "is_sequence" ["value"] (spSeq Z) := by
  refine F.has sc_is_sequence (fun vs H Q E h => ?_) (fun f cdv A outer s H vs Q E hr h => ?_)
  · obtain ⟨b, x, d, rfl, _⟩ := h
    rfl
  · obtain ⟨b, x, d, rfl, r, k⟩ := h
    refine ⟨_, (pss_one (ps_ret (pe_callB call_isiT (by rfl) T.z_isinstance (by decide +kernel) (pa_cons (pv 0) (pa_cons (pe_tup (pa_cons (pe_bltn (v := .ty "list") (by rfl) T.z_list (by decide +kernel) rfl) (pa_cons (pe_bltn (v := .ty "tuple") (by rfl) T.z_tuple (by decide +kernel) rfl) pa_nil))) pa_nil))))), ?_⟩
    refine ⟨_, rfl, (by decide : 2 ≤ sizeLine), fun t ht => ?_⟩
    obtain ⟨s1, h1⟩ := new_at (o := .tup [.ty "list", .ty "tuple"]) ht
    obtain ⟨tv, ht2, kt⟩ := ty_seqs OZ (r.kp (Kp.of s1))
    exact ⟨_, t, _, _, _, _, rfl, h1, .cons (.ty _) (.cons (.ty _) .nil), ht2, kt, k _ s1⟩
abbrev s_is_name : Stmt := top 4
abbrev n_is_name : List Str := ["value"]
theorem sc_is_name : FnScope n_is_name ["value"] (defScope s_is_name) := ⟨rfl, rfl, rfl, by decide +kernel, rfl, by decide +kernel, by decide +kernel⟩
def spName (Z : Nat → Addr) : Sp := fun vs H Q _ => ∃ (b : Addr) (x : V) (d : D2), vs = [x] ∧ Rel2 Z b H x d ∧ (∀ s, d = .a (.str s) → s.length ≤ 1000) ∧ Q (.bl (at2 name0 d)) H
theorem ok_name {Z : Nat → Addr} {NN : Addr} (T : Txt mg) (OZ : ∀ k, ObjK K (Z k)) (mNN : mg "NO_NAMES" = some (.ref NN)) (tNN : ∀ H, SqT K H NN (noNames.map V.str)) (F : DefAt K mg "is_name" s_is_name ["value"]) : Has P w K mg base 1 "is_name" ["value"] (spName Z) := by
  refine F.has sc_is_name (fun vs H Q E h => ?_) (fun f cdv A outer s H vs Q E hr h => ?_)
  · obtain ⟨b, x, d, rfl, _⟩ := h
    rfl
  · obtain ⟨b, x, d, rfl, r, l, k⟩ := h
    refine ⟨_, (pss_one (ps_ret (pe_and (pe_callB call_isi (by rfl) T.z_isinstance (by decide +kernel) (pa_cons (pv 0) (pa_cons (pe_bltn (v := .ty "str") (by rfl) T.z_str (by decide +kernel) rfl) pa_nil))) (pe_and (pe_cmpR op_le (pe_callB call_len (by rfl) T.z_len (by decide +kernel) (pa_cons (pv 0) pa_nil)) pe_int (nomark _)) (pe_and (pe_m0 PySem.F.slot_str_isascii PySem.F.type_str_isascii mt_isascii (pv 0)) (pe_and (pe_m0 PySem.F.slot_str_isalpha PySem.F.type_str_isalpha mt_isalpha (pv 0)) (pe_and (pe_m0 PySem.F.slot_str_islower PySem.F.type_str_islower mt_islower (pv 0)) (pe_one (pe_cmpR op_notIn_seq (pv 0) (pe_glob (v := .ref NN) rfl mNN rfl) (by rfl)))))))))), ?_⟩
    obtain ⟨t1, h1, k1⟩ := ty_str OZ r
    refine ⟨_, rfl, _, _, t1, _, _, rfl, .ty _, h1, k1, _, rfl, ?_⟩
    cases d with
    | s t xs => exact iteSf rfl k
    | a y =>
      cases y with
      | non => exact iteSf rfl k
      | bl c => exact iteSf rfl k
      | int i => exact iteSf rfl k
      | obj j => exact iteSf rfl k
      | str s =>
        have ls := l s rfl
        cases (show x = .str s from r)
        refine iteSe rfl ?_
        have k' : Q (.bl (nameB s)) H := k
        unfold nameB at k'
        have ls' : s.length ≤ sizeLine := Nat.le_trans ls (by decide)
        refine ⟨_, rfl, _, _, rfl, ⟨ls', rfl⟩, _, _, rfl, rfl, _, rfl, ?_⟩
        by_cases h4 : s.length ≤ 4
        · rw [decide_eq_true h4] at k'
          refine iteSe (decide_eq_true (by omega)) ⟨_, rfl, ⟨_, rfl⟩, _, rfl, rfl, trivial, _, rfl, ?_⟩
          cases hA : Txt.isascii s with
          | false => rw [hA] at k'; exact iteSf rfl k'
          | true =>
          rw [hA] at k'
          refine iteSe rfl ⟨_, rfl, ⟨_, rfl⟩, _, rfl, rfl, trivial, _, rfl, ?_⟩
          cases hB : Txt.isalpha s with
          | false => rw [hB] at k'; exact iteSf rfl k'
          | true =>
          rw [hB] at k'
          refine iteSe rfl ⟨_, rfl, ⟨_, rfl⟩, _, rfl, rfl, trivial, _, rfl, ?_⟩
          cases hC : Txt.islower s with
          | false => rw [hC] at k'; exact iteSf rfl k'
          | true =>
          rw [hC] at k'
          refine iteSe rfl ⟨_, rfl, NN, noNames.map V.str, rfl, .inr (tNN _), rfl, rfl, ?_⟩
          rw [if_pos rfl, inV_strs]
          exact k'
        · rw [decide_eq_false h4] at k'
          exact iteSf (decide_eq_false (by omega)) k'
end
end K14

namespace K14
open PySem L2 PySem.Spec PyProof.Rows
/-! ## drawn books: the data, and how they stand in the heap (tuples of tuples, as the laws write them) -/
inductive TestD where
  | was (k : Str)
  | cut (old : Bool) (n : Int)
  | moved
  | noted
  | not (t : TestD)
inductive RowD where
  | ife (t : TestD) (a b : List RowD)
  | add (f : Int) (w t p : Str)
  | put (n w : Str)
  | mark (p : Str)
structure EventD where
  name : Str
  origins : List Str
  kind : Str
  amount : Bool
  group : Bool
structure WorthD where
  total : Str
  kind : Str
  factor : Int
  what : Str
  least : Option Int
  below : Option Int
structure BookD where
  rests : List Str
  passes : List Str
  told : List Int
  totals : List Str
  notes : List Str
  worths : List WorthD
  events : List EventD
  handlers : List (Str × List RowD)
/-- tuples stay -/
def TupKp (H H' : Hp) : Prop := ∀ a xs, H a = some (.tup xs) → H' a = some (.tup xs)
theorem TupKp.refl (H : Hp) : TupKp H H := fun _ _ h => h
theorem TupKp.trans {H H1 H2 : Hp} (s : TupKp H H1) (t : TupKp H1 H2) : TupKp H H2 := fun a xs h => t a xs (s a xs h)
theorem TupKp.of {H H' : Hp} (s : Same H H') : TupKp H H' := fun a xs h => s a _ h
theorem TupKp.upd' {H : Hp} {a : Addr} {u o : HO} (h : H a = some u) (n : ∀ xs, u ≠ .tup xs) : TupKp H (upd H a o) := fun b xs e => by
  have : b ≠ a := fun z => by rw [z, h] at e; cases e; exact n xs rfl
  rw [upd_ne this]
  exact e
theorem TupKp.box {H : Hp} {b : Addr} {o : HO} (h : Box H b) : TupKp H (upd H b o) := by
  obtain ⟨x, y, z, e⟩ := h
  exact TupKp.upd' e fun xs z => nomatch z
def belowS (old : Bool) : Str := if old then "old" else "new"
def TestAt (H : Hp) : V → TestD → Prop
  | v, .was k => ∃ p, v = .ref p ∧ H p = some (.tup [.str "was", .str k])
  | v, .cut o n => ∃ p, v = .ref p ∧ H p = some (.tup [.str (belowS o), .int n])
  | v, .moved => ∃ p, v = .ref p ∧ H p = some (.tup [.str "moved"])
  | v, .noted => ∃ p, v = .ref p ∧ H p = some (.tup [.str "noted"])
  | v, .not t => ∃ p u, v = .ref p ∧ H p = some (.tup [.str "not", u]) ∧ TestAt H u t
theorem TestAt.kp {H H' : Hp} (s : TupKp H H') : ∀ {t : TestD} {v : V}, TestAt H v t → TestAt H' v t
  | .was _, _, ⟨p, e, h⟩ => ⟨p, e, s _ _ h⟩
  | .cut _ _, _, ⟨p, e, h⟩ => ⟨p, e, s _ _ h⟩
  | .moved, _, ⟨p, e, h⟩ => ⟨p, e, s _ _ h⟩
  | .noted, _, ⟨p, e, h⟩ => ⟨p, e, s _ _ h⟩
  | .not t, _, ⟨p, u, e, h, r⟩ => ⟨p, u, e, s _ _ h, TestAt.kp s r⟩
mutual
def RowAt (H : Hp) : RowD → V → Prop
  | .ife t a b, v => ∃ p u x y xs ys, v = .ref p ∧ H p = some (.tup [.str "if", u, .ref x, .ref y]) ∧ TestAt H u t ∧ H x = some (.tup xs) ∧ RowL H a xs ∧ H y = some (.tup ys) ∧ RowL H b ys
  | .add f w t pl, v => ∃ p, v = .ref p ∧ H p = some (.tup [.str "add", .int f, .str w, .str t, .str pl])
  | .put n w, v => ∃ p, v = .ref p ∧ H p = some (.tup [.str "put", .str n, .str w])
  | .mark pl, v => ∃ p, v = .ref p ∧ H p = some (.tup [.str "mark", .str pl])
def RowL (H : Hp) : List RowD → List V → Prop
  | [], xs => xs = []
  | r :: rs, xs => ∃ v vs, xs = v :: vs ∧ RowAt H r v ∧ RowL H rs vs
end
mutual
theorem RowAt.kp {H H' : Hp} (s : TupKp H H') : ∀ {r : RowD} {v : V}, RowAt H r v → RowAt H' r v
  | .ife _ _ _, _, h => by
    unfold RowAt at h ⊢
    obtain ⟨p, u, x, y, xs, ys, e, h1, t, h2, r2, h3, r3⟩ := h
    exact ⟨p, u, x, y, xs, ys, e, s _ _ h1, t.kp s, s _ _ h2, RowL.kp s r2, s _ _ h3, RowL.kp s r3⟩
  | .add _ _ _ _, _, h => by unfold RowAt at h ⊢; obtain ⟨p, e, h⟩ := h; exact ⟨p, e, s _ _ h⟩
  | .put _ _, _, h => by unfold RowAt at h ⊢; obtain ⟨p, e, h⟩ := h; exact ⟨p, e, s _ _ h⟩
  | .mark _, _, h => by unfold RowAt at h ⊢; obtain ⟨p, e, h⟩ := h; exact ⟨p, e, s _ _ h⟩
theorem RowL.kp {H H' : Hp} (s : TupKp H H') : ∀ {rs : List RowD} {xs : List V}, RowL H rs xs → RowL H' rs xs
  | [], _, h => by unfold RowL at h ⊢; exact h
  | _ :: _, _, h => by
    unfold RowL at h ⊢
    obtain ⟨v, vs, e, h1, h2⟩ := h
    exact ⟨v, vs, e, RowAt.kp s h1, RowL.kp s h2⟩
end
theorem RowL.app {H : Hp} : ∀ {rs : List RowD} {xs : List V} {r : RowD} {v : V}, RowL H rs xs → RowAt H r v → RowL H (rs ++ [r]) (xs ++ [v])
  | [], xs, r, v, h, g => by
    unfold RowL at h
    subst h
    show RowL H [r] [v]
    unfold RowL
    exact ⟨v, [], rfl, g, by unfold RowL; rfl⟩
  | r0 :: rs, xs, r, v, h, g => by
    unfold RowL at h
    obtain ⟨v0, vs, rfl, h1, h2⟩ := h
    show RowL H (r0 :: (rs ++ [r])) (v0 :: (vs ++ [v]))
    unfold RowL
    exact ⟨v0, _, rfl, h1, RowL.app h2 g⟩
theorem RowL.len {H : Hp} : ∀ {rs : List RowD} {xs : List V}, RowL H rs xs → xs.length = rs.length
  | [], _, h => by unfold RowL at h; subst h; rfl
  | _ :: _, _, h => by
    unfold RowL at h
    obtain ⟨v, vs, rfl, _, h2⟩ := h
    rw [List.length_cons, List.length_cons, RowL.len h2]
/-- an event: the origins are a list of their own -/
def EventAt (H : Hp) (v : V) (e : EventD) : Prop := ∃ p o, v = .ref p ∧ H p = some (.tup [.str e.name, .ref o, .str e.kind, .bl e.amount, .bl e.group]) ∧ H o = some (.lst (e.origins.map V.str))
def optV : Option Int → V
  | some n => .int n
  | none => .non
def WorthAt (H : Hp) (v : V) (e : WorthD) : Prop := ∃ p, v = .ref p ∧ H p = some (.tup [.str e.total, .str e.kind, .int e.factor, .str e.what, optV e.least, optV e.below])
def HandlerAt (H : Hp) (v : V) (e : Str × List RowD) : Prop := ∃ p x xs, v = .ref p ∧ H p = some (.tup [.str e.1, .ref x]) ∧ H x = some (.tup xs) ∧ RowL H e.2 xs
/-! ### what stays but for some addresses -/
def KpE (ex : Addr → Prop) (H H' : Hp) : Prop := ∀ a o, ¬ ex a → H a = some o → H' a = some o
theorem KpE.refl (ex : Addr → Prop) (H : Hp) : KpE ex H H := fun _ _ _ h => h
theorem KpE.trans {ex : Addr → Prop} {H H1 H2 : Hp} (s : KpE ex H H1) (t : KpE ex H1 H2) : KpE ex H H2 := fun a o n h => t a o n (s a o n h)
theorem KpE.of {ex : Addr → Prop} {H H' : Hp} (s : Same H H') : KpE ex H H' := fun a o _ h => s a o h
theorem KpE.mono {ex ex' : Addr → Prop} {H H' : Hp} (m : ∀ a, ex a → ex' a) (s : KpE ex H H') : KpE ex' H H' := fun a o n h => s a o (fun z => n (m a z)) h
theorem KpE.but {ex : Addr → Prop} {b : Addr} {H H' : Hp} (m : ex b) (s : But b H H') : KpE ex H H' := fun a o n h => s a o (fun z => n (by rw [z]; exact m)) h
/-- a list in the dict at d -/
def InD (H : Hp) (ex : Addr → Prop) (kvs : List (Key × V)) (k : Str) (xs : List V) : Prop := ∃ r, valV kvs (.inr k) = some (.ref r) ∧ ¬ ex r ∧ H r = some (.lst xs)
theorem InD.kp {H H' : Hp} {ex : Addr → Prop} {kvs : List (Key × V)} {k : Str} {xs : List V} (s : KpE ex H H') (h : InD H ex kvs k xs) : InD H' ex kvs k xs := by
  obtain ⟨r, e, n, q⟩ := h
  exact ⟨r, e, n, s _ _ n q⟩
theorem InD.mono {H : Hp} {ex ex' : Addr → Prop} {kvs : List (Key × V)} {k : Str} {xs : List V} (m : ∀ a, ex' a → ex a) (h : InD H ex kvs k xs) : InD H ex' kvs k xs := by
  obtain ⟨r, e, n, q⟩ := h
  exact ⟨r, e, fun z => n (m r z), q⟩
theorem InD.get {H : Hp} {ex : Addr → Prop} {d : Addr} {kvs : List (Key × V)} {k : Str} {xs : List V} (h : InD H ex kvs k xs) (e : H d = some (.dK kvs)) : ∃ r, DGet H d (.str k) (some (.ref r)) ∧ ¬ ex r ∧ H r = some (.lst xs) := by
  obtain ⟨r, q, n, l⟩ := h
  exact ⟨r, by rw [← q]; exact DGet.k (k := .inr k) e, n, l⟩
/-- a book whose lists of names and numbers stand -/
structure BkAt (H : Hp) (ex : Addr → Prop) (d : Addr) (B : BookD) (kvs : List (Key × V)) : Prop where
  at' : H d = some (.dK kvs)
  out : ¬ ex d
  rests : InD H ex kvs "rests" (B.rests.map V.str)
  passes : InD H ex kvs "passes" (B.passes.map V.str)
  told : InD H ex kvs "told" (B.told.map V.int)
  totals : InD H ex kvs "totals" (B.totals.map V.str)
  notes : InD H ex kvs "notes" (B.notes.map V.str)
theorem BkAt.kp {H H' : Hp} {ex : Addr → Prop} {d : Addr} {B : BookD} {kvs : List (Key × V)} (s : KpE ex H H') (h : BkAt H ex d B kvs) : BkAt H' ex d B kvs :=
  ⟨s _ _ h.out h.at', h.out, h.rests.kp s, h.passes.kp s, h.told.kp s, h.totals.kp s, h.notes.kp s⟩
theorem BkAt.mono {H : Hp} {ex ex' : Addr → Prop} {d : Addr} {B : BookD} {kvs : List (Key × V)} (m : ∀ a, ex' a → ex a) (h : BkAt H ex d B kvs) : BkAt H ex' d B kvs :=
  ⟨h.at', fun z => h.out (m d z), h.rests.mono m, h.passes.mono m, h.told.mono m, h.totals.mono m, h.notes.mono m⟩
/-- what is drawn of a book's names and numbers -/
structure BkOk (B : BookD) : Prop where
  names : ((B.rests ++ B.passes) ++ (B.totals ++ B.notes)).length ≤ 100
  told0 : B.told ≠ []
  told1 : B.told.length ≤ 100
  rests0 : B.rests ≠ []
  totals0 : B.totals ≠ []
  kinds : ∀ s ∈ B.rests ++ B.passes, nameB s = true
  toks : ∀ s ∈ B.totals ++ B.notes, nameB s = true
  kindsNd : (B.rests ++ B.passes).Nodup
  nums : ∀ n ∈ B.told, -999999 ≤ n ∧ n ≤ 999999
def okTest (B : BookD) : TestD → Prop
  | .was k => k ∈ B.rests ++ B.passes ++ [("none" : Str)]
  | .cut _ n => n ∈ B.told
  | .not t => okTest B t
  | _ => True
def tdep : TestD → Nat
  | .not t => tdep t + 1
  | _ => 0
def whatL : List Str := ["old", "new", "one", "old", "new"]
def amtL : List Str := ["old", "new", "one"]
def plcL : List Str := ["old", "new", "noted"]
def mrkL : List Str := ["old", "new", "none"]
def okWhat (B : BookD) (w : Str) : Prop := w ∈ amtL ∨ w ∈ B.notes
mutual
def okRow (B : BookD) : RowD → Nat → Prop
  | .ife t a b, k => ∃ k', k = k' + 1 ∧ okTest B t ∧ tdep t ≤ 2 ∧ a.length ≤ 3 ∧ b.length ≤ 3 ∧ okRowL B a k' ∧ okRowL B b k'
  | .add f w t p, _ => -999 ≤ f ∧ f ≤ 999 ∧ okWhat B w ∧ t ∈ B.totals ∧ p ∈ plcL
  | .put n w, _ => n ∈ B.notes ∧ okWhat B w
  | .mark p, _ => p ∈ mrkL
def okRowL (B : BookD) : List RowD → Nat → Prop
  | [], _ => True
  | r :: rs, k => okRow B r k ∧ okRowL B rs k
end
theorem okRowL.app {B : BookD} {k : Nat} : ∀ {rs : List RowD} {r : RowD}, okRowL B rs k → okRow B r k → okRowL B (rs ++ [r]) k
  | [], _, _, g => by show okRowL B [_] k; unfold okRowL; exact ⟨g, by unfold okRowL; trivial⟩
  | r0 :: rs, r, h, g => by
    unfold okRowL at h
    show okRowL B (r0 :: (rs ++ [r])) k
    unfold okRowL
    exact ⟨h.1, okRowL.app h.2 g⟩
theorem okWhat_of {B : BookD} {s : Str} (h : s ∈ whatL ++ B.notes) : okWhat B s := by
  rcases List.mem_append.mp h with hs | hs
  · left
    have all : whatL.all (fun s => decide (s ∈ amtL)) = true := by decide +kernel
    exact of_decide_eq_true (List.all_eq_true.mp all s hs)
  · exact .inr hs
def okEvent (B : BookD) (e : EventD) : Prop := nameB e.name = true ∧ ((e.origins = [("none" : Str)] ∧ e.kind ∈ B.rests ++ B.passes ∧ e.amount = true ∧ e.group = true) ∨
  (e.origins ≠ [] ∧ e.origins.Nodup ∧ (∀ s ∈ e.origins, s ∈ B.rests ++ B.passes) ∧ ((e.kind = ("none" : Str) ∧ e.amount = false ∧ e.group = false) ∨ e.kind ∈ B.rests ++ B.passes)))
def wfacL : List Int := [1, 1, -1, 2, 0]
def wwhatL : List Str := ["amount", "amount", "one"]
def okWorth (B : BookD) (e : WorthD) : Prop := e.total ∈ B.totals ∧ e.kind ∈ B.rests ∧ e.factor ∈ wfacL ∧ e.what ∈ wwhatL ∧ (∀ n, e.least = some n → n ∈ B.told) ∧ (∀ n, e.below = some n → n ∈ B.told) ∧ ∀ n m, e.least = some n → e.below = some m → n < m
theorem tup_but {b : Addr} {H H' : Hp} (hb : Box H b) (u : But b H H') : TupKp H H' := fun a xs e => u a _ (fun z => by obtain ⟨x, y, w, q⟩ := hb; rw [z, q] at e; cases e) e
theorem InD.updD {H : Hp} {ex : Addr → Prop} {d : Addr} {l kvs : List (Key × V)} {k : Str} {xs : List V} {o : HO} (hd : H d = some (.dK l)) (h : InD H ex kvs k xs) : InD (upd H d o) ex kvs k xs := by
  obtain ⟨r, e, n, q⟩ := h
  exact ⟨r, e, n, by rw [upd_ne (ne_of q hd fun z => nomatch z)]; exact q⟩
theorem InD.put {H : Hp} {ex : Addr → Prop} {kvs : List (Key × V)} {k k' : Str} {xs : List V} {v : V} (n : k ≠ k') (h : InD H ex kvs k xs) : InD H ex (putK kvs (.inr k') v) k xs := by
  obtain ⟨r, e, m, q⟩ := h
  refine ⟨r, ?_, m, q⟩
  rw [valV_put, if_neg (fun z => n (by injection z))]
  exact e
theorem InD.new {H : Hp} {ex : Addr → Prop} {kvs : List (Key × V)} {k : Str} {xs : List V} {r : Addr} (n : ¬ ex r) (q : H r = some (.lst xs)) : InD H ex (putK kvs (.inr k) (.ref r)) k xs :=
  ⟨r, by rw [valV_put, if_pos rfl], n, q⟩
theorem InD.exN {H : Hp} {ex : Addr → Prop} {kvs : List (Key × V)} {k : Str} {xs : List V} {c : Addr} (hc : H c = none) (h : InD H ex kvs k xs) : InD H (fun a => ex a ∨ a = c) kvs k xs := by
  obtain ⟨r, e, n, q⟩ := h
  exact ⟨r, e, (fun z => Or.elim z n (fun z => by rw [z, hc] at q; cases q)), q⟩
/-- an event whose list of origins none writes -/
def EventE (H : Hp) (ex : Addr → Prop) (v : V) (e : EventD) : Prop := ∃ p o, v = .ref p ∧ H p = some (.tup [.str e.name, .ref o, .str e.kind, .bl e.amount, .bl e.group]) ∧ ¬ ex o ∧ H o = some (.lst (e.origins.map V.str))
theorem EventE.kp {H H' : Hp} {ex : Addr → Prop} {v : V} {e : EventD} (t : TupKp H H') (s : KpE ex H H') (h : EventE H ex v e) : EventE H' ex v e := by
  obtain ⟨p, o, e1, h1, n, h2⟩ := h
  exact ⟨p, o, e1, t _ _ h1, n, s _ _ n h2⟩
theorem EventE.mono {H : Hp} {ex ex' : Addr → Prop} {v : V} {e : EventD} (m : ∀ a, ex' a → ex a) (h : EventE H ex v e) : EventE H ex' v e := by
  obtain ⟨p, o, e1, h1, n, h2⟩ := h
  exact ⟨p, o, e1, h1, fun z => n (m o z), h2⟩
theorem EventE.exN {H : Hp} {ex : Addr → Prop} {v : V} {e : EventD} {c : Addr} (hc : H c = none) (h : EventE H ex v e) : EventE H (fun a => ex a ∨ a = c) v e := by
  obtain ⟨p, o, e1, h1, n, h2⟩ := h
  exact ⟨p, o, e1, h1, (fun z => Or.elim z n (fun z => by rw [z, hc] at h2; cases h2)), h2⟩
theorem EventE.updD {H : Hp} {ex : Addr → Prop} {v : V} {e : EventD} {d : Addr} {l : List (Key × V)} {u : HO} (hd : H d = some (.dK l)) (h : EventE H ex v e) : EventE (upd H d u) ex v e := by
  obtain ⟨p, o, e1, h1, n, h2⟩ := h
  exact ⟨p, o, e1, by rw [upd_ne (ne_of h1 hd fun z => nomatch z)]; exact h1, n, by rw [upd_ne (ne_of h2 hd fun z => nomatch z)]; exact h2⟩
theorem WorthAt.kp {H H' : Hp} {v : V} {e : WorthD} (t : TupKp H H') (h : WorthAt H v e) : WorthAt H' v e := by
  obtain ⟨p, e1, h1⟩ := h
  exact ⟨p, e1, t _ _ h1⟩
theorem HandlerAt.kp {H H' : Hp} {v : V} {e : Str × List RowD} (t : TupKp H H') (h : HandlerAt H v e) : HandlerAt H' v e := by
  obtain ⟨p, x, xs, e1, h1, h2, h3⟩ := h
  exact ⟨p, x, xs, e1, t _ _ h1, t _ _ h2, h3.kp t⟩
/-- a whole book -/
structure BookAt (H : Hp) (ex : Addr → Prop) (d : Addr) (B : BookD) (kvs : List (Key × V)) : Prop where
  bk : BkAt H ex d B kvs
  worths : ∃ ws, InD H ex kvs "worths" ws ∧ Paired (WorthAt H) ws B.worths
  events : ∃ ws, InD H ex kvs "events" ws ∧ Paired (EventE H ex) ws B.events
  handlers : ∃ ws, InD H ex kvs "handlers" ws ∧ Paired (HandlerAt H) ws B.handlers
structure BookOk (B : BookD) : Prop where
  bk : BkOk B
  names : ((B.rests ++ B.passes) ++ (B.totals ++ (B.notes ++ B.events.map (·.name)))).Nodup
  worths : (∀ e ∈ B.worths, okWorth B e) ∧ B.worths.length ≤ 100
  events : (∀ e ∈ B.events, okEvent B e) ∧ B.events ≠ [] ∧ B.events.length ≤ 6
  handlers : (∀ e ∈ B.handlers, e.1 ∈ B.events.map (·.name) ∧ okRowL B e.2 3 ∧ e.2.length ≤ 3) ∧ (B.handlers.map (·.1)).Nodup
/-- the sizes of a book -/
structure SizesOk (ss : List V) (s0 s1 s2 s3 s4 s5 s6 s7 : Int) : Prop where
  eq : ss = [.int s0, .int s1, .int s2, .int s3, .int s4, .int s5, .int s6, .int s7]
  b0 : 1 ≤ s0 ∧ s0 ≤ 4
  b1 : 1 ≤ s1 ∧ s1 ≤ 2
  b2 : 0 ≤ s2 ∧ s2 ≤ 2
  b3 : 0 ≤ s3 ∧ s3 ≤ 50
  b4 : 1 ≤ s4 ∧ s4 ≤ 6
  b7 : 1 ≤ s7 ∧ s7 ≤ 50
/-- the same names and numbers -/
structure SameB (B B' : BookD) : Prop where
  rests : B.rests = B'.rests
  passes : B.passes = B'.passes
  told : B.told = B'.told
  totals : B.totals = B'.totals
  notes : B.notes = B'.notes
theorem okTest.cong {B B' : BookD} (s : SameB B B') : ∀ {t : TestD}, okTest B t → okTest B' t
  | .was k, h => by unfold okTest at h ⊢; rw [← s.rests, ← s.passes]; exact h
  | .cut _ n, h => by unfold okTest at h ⊢; rw [← s.told]; exact h
  | .moved, h => trivial
  | .noted, h => trivial
  | .not t, h => by unfold okTest at h ⊢; exact okTest.cong s h
theorem okWhat.cong {B B' : BookD} (s : SameB B B') {w : Str} (h : okWhat B w) : okWhat B' w := by unfold okWhat at h ⊢; rw [← s.notes]; exact h
mutual
theorem okRow.cong {B B' : BookD} (s : SameB B B') : ∀ {r : RowD} {k : Nat}, okRow B r k → okRow B' r k
  | .ife _ _ _, _, h => by
    unfold okRow at h ⊢
    obtain ⟨k', e, h1, h2, h3, h4, h5, h6⟩ := h
    exact ⟨k', e, h1.cong s, h2, h3, h4, okRowL.cong s h5, okRowL.cong s h6⟩
  | .add _ _ _ _, _, h => by unfold okRow at h ⊢; rw [← s.totals]; exact ⟨h.1, h.2.1, h.2.2.1.cong s, h.2.2.2⟩
  | .put _ _, _, h => by unfold okRow at h ⊢; rw [← s.notes]; exact ⟨h.1, h.2.cong s⟩
  | .mark _, _, h => by unfold okRow at h ⊢; exact h
theorem okRowL.cong {B B' : BookD} (s : SameB B B') : ∀ {rs : List RowD} {k : Nat}, okRowL B rs k → okRowL B' rs k
  | [], _, _ => by unfold okRowL; trivial
  | _ :: _, _, h => by unfold okRowL at h ⊢; exact ⟨okRow.cong s h.1, okRowL.cong s h.2⟩
end
end K14

set_option pp.maxSteps 600
namespace K14
open PySem L2 PySem.Spec PyProof.Rows
theorem cons_go {te : TE} {tr : TA} {σ : L2.St} {H : Hp} {Q : List V → Hp → Prop} (h : te σ H fun x H1 => tr σ H1 fun xs H2 => Q (x :: xs) H2) : tCons te tr σ H Q := h
theorem c_go {v : V} {σ : L2.St} {H : Hp} {Q : VK} (h : Q v H) : tC v σ H Q := h
theorem seq_asg {te : TE} {g : TG} {u : TS} {D : Ends} {σ : L2.St} {H : Hp} (h : te σ H fun x H1 => g x σ H1 fun σ2 H2 => u D σ2 H2) : tSeq (tAsg te g) u D σ H := h
theorem name_go {i : Nat} {v : V} {σ : L2.St} {H : Hp} {Q : L2.St → Hp → Prop} (h : Q (σ.set i (some v)) H) : gName i v σ H Q := h
theorem bl_go {i : Nat} {c : Bool} {σ : L2.St} {H : Hp} {Q : L2.St → Hp → Prop} (h : ∀ g : Bool, Q (σ.set i (some (.bl g))) H) : gName i (.bl c) σ H Q := h c
theorem ret_go {te : TE} {D : Ends} {σ : L2.St} {H : Hp} (h : te σ H D.rt) : tRet te D σ H := h
theorem tup_go {ta : TA} {σ : L2.St} {H : Hp} {Q : VK} (h : ta σ H fun vs H1 => vs.length ≤ sizeLine ∧ ∀ p, H1 p = none → Q (.ref p) (upd H1 p (.tup vs))) : tTup ta σ H Q := h
theorem cutN {xs : List V} {n : Nat} (h : n ≤ xs.length) : cutV xs none (some (n : Int)) = xs.take n := by
  unfold cutV
  rw [show HT.sIx xs.length xs.length (some (n : Int)) = n from by rw [HT.sIx_nat, Nat.min_eq_left h]]
  rfl
theorem back {H H' : Hp} (s : Same H H') {d : Addr} (h : H' d = none) : H d = none := by
  cases e : H d with
  | none => rfl
  | some o => rw [s _ _ e] at h; cases h
theorem Box.ne {H : Hp} {b : Addr} (h : Box H b) : H b ≠ none := by obtain ⟨x, y, z, e⟩ := h; rw [e]; exact fun z => nomatch z
theorem But.kp {b : Addr} {H H' : Hp} (s : But b H H') : Kp b H H' := fun a o n h _ => s a o n h
theorem lst_go {ta : TA} {xs : List V} {σ : L2.St} {H : Hp} {Q : VK} (e : ∀ Q : List V → Hp → Prop, Q xs H → ta σ H Q) (l : xs.length ≤ 1000) (q : ∀ (H' : Hp) (p : Addr), Same H H' → H p = none → H' p = some (.lst xs) → Q (.ref p) H') : tLst ta σ H Q := e _ ⟨le_line l, fun p hp => q _ p (new_at hp).1 hp (new_at hp).2⟩
theorem tupc_go {ta : TA} {xs : List V} {σ : L2.St} {H : Hp} {Q : VK} (e : ∀ Q : List V → Hp → Prop, Q xs H → ta σ H Q) (l : xs.length ≤ 1000) (q : ∀ (H' : Hp) (p : Addr), Same H H' → H p = none → H' p = some (.tup xs) → Q (.ref p) H') : tTup ta σ H Q := e _ ⟨le_line l, fun p hp => q _ p (new_at hp).1 hp (new_at hp).2⟩
theorem seq_par {i j : Nat} {ta : TA} {u : TS} {D : Ends} {σ : L2.St} {H : Hp} (h : ta σ H fun vs H1 => ∃ v w, vs = [v, w] ∧ u D ((σ.set i (some v)).set j (some w)) H1) : tSeq (tPar i j ta) u D σ H := h
theorem op_go {r : R2} {ta tb : TE} {σ : L2.St} {H : Hp} {Q : VK} (h : ta σ H fun x H1 => tb σ H1 fun y H2 => r x y H2 Q) : tOp r ta tb σ H Q := h
theorem next_go {D : Ends} {σ : L2.St} {H : Hp} (h : D.nx σ H) : tNext D σ H := h
theorem lstA_go {ta : TA} {σ : L2.St} {H : Hp} {Q : VK} (h : ta σ H fun vs H1 => vs.length ≤ sizeLine ∧ ∀ p, H1 p = none → Q (.ref p) (upd H1 p (.lst vs))) : tLst ta σ H Q := h
theorem asg_go {te : TE} {g : TG} {D : Ends} {σ : L2.St} {H : Hp} (h : te σ H fun x H1 => g x σ H1 fun σ2 H2 => D.nx σ2 H2) : tAsg te g D σ H := h
theorem nil_go {σ : L2.St} {H : Hp} {Q : List V → Hp → Prop} (h : Q [] H) : tNil σ H Q := h
theorem rng_go {ta : TA} {g : TG} {tb u : TS} {D : Ends} {σ : L2.St} {H : Hp} (h : ta σ H fun vs H1 => tSeq (tFor (iRng1 (fun _ H' Q => Q vs H')) g tb) u D σ H1) : tSeq (tFor (iRng1 ta) g tb) u D σ H := h
theorem and_go {ta tb : TT} {c1 c2 : Bool} {σ : L2.St} {H : Hp} {Q : Bool → Hp → Prop} (ha : ∀ Q : Bool → Hp → Prop, Q c1 H → ta σ H Q) (hb : ∀ Q : Bool → Hp → Prop, Q c2 H → tb σ H Q) (h : Q (c1 && c2) H) : tAnd ta tb σ H Q := ha _ (by
  cases c1 with
  | true => exact iteSe rfl (hb _ h)
  | false => exact iteSf rfl h)
theorem ifS_go {tt : TT} {t u : TS} {c : Bool} {D : Ends} {σ : L2.St} {H : Hp} (ht : ∀ Q : Bool → Hp → Prop, Q c H → tt σ H Q) (h1 : c = true → t D σ H) (h0 : c = false → u D σ H) : tIfS tt t u D σ H := ht _ (by
  cases c with
  | true => exact iteSe rfl (h1 rfl)
  | false => exact iteSf rfl (h0 rfl))
theorem seq_go {t u : TS} {D : Ends} {σ : L2.St} {H : Hp} (h : t { D with nx := u D } σ H) : tSeq t u D σ H := h
theorem perm_out {α : Type} : ∀ {xs : List α} {k : Nat} (h : k < xs.length), ([xs[k]] ++ xs.eraseIdx k).Perm xs
  | x :: xs, 0, _ => List.Perm.refl _
  | x :: xs, k + 1, h => by
    have ih := perm_out (xs := xs) (k := k) (by simpa using h)
    exact (List.Perm.swap _ _ _).trans (List.Perm.cons x ih)
section
variable {P : Program} {w : World} {K : PySem.W.Frag} {mg : Str → Option Value} {base : Heap}
abbrev s_law_pick : Stmt := top 30
abbrev n_law_pick : List Str := ["_law_box_here", "_law_items"]
theorem sc_law_pick : FnScope n_law_pick ["_law_box_here", "_law_items"] (defScope s_law_pick) := ⟨rfl, rfl, rfl, by decide +kernel, rfl, by decide +kernel, by decide +kernel⟩
def spPick : Sp := fun vs H Q _ => ∃ (b l : Addr) (as : List V), vs = [.ref b, .ref l] ∧ Box H b ∧ H l = some (.lst as) ∧ l ≠ b ∧ 0 < as.length ∧ as.length ≤ 1000 ∧ ∀ (i : Nat) (v : V) (x y z : Int), as[i]? = some v → Q v (upd H b (.lst [.int x, .int y, .int z]))
/-- one sign of a text -/
def spPickS : Sp := fun vs H Q _ => ∃ (b : Addr) (s : Str), vs = [.ref b, .str s] ∧ Box H b ∧ 0 < s.length ∧ s.length ≤ 1000 ∧ ∀ (i : Nat) (c : Nat) (x y z : Int), s.cps[i]? = some c → Q (.str ⟨#[c]⟩) (upd H b (.lst [.int x, .int y, .int z]))
theorem ok_pick (T : Txt mg) (g_law_take : Has P w K mg base 1 "_law_take" ["_law_box_here", "_law_many"] spTake) (F : DefAt K mg "_law_pick" s_law_pick ["_law_box_here", "_law_items"]) : Has P w K mg base 2 "_law_pick" ["_law_box_here", "_law_items"] spPick := by
  refine F.has sc_law_pick (fun vs H Q E h => ?_) (fun f cdv A outer s H vs Q E hr h => ?_)
  · obtain ⟨b, l, as, rfl, _⟩ := h
    rfl
  · obtain ⟨b, l, as, rfl, hb, hl, nb, l0, l1, k⟩ := h
    refine ⟨_, (pss_one (ps_ret (pe_ix ix_seq (pv 1) (pe_callHas g_law_take (hr.mono (by decide)) rfl (pa_cons (pv 0) (pa_cons (pe_callB call_len (by rfl) T.z_len (by decide +kernel) (pa_cons (pv 1) pa_nil)) pa_nil))) (fun _ _ => rfl)))), ?_⟩
    refine ⟨_, rfl, _, rfl, _, rfl, _, _, rfl, .inl ⟨as, SqL.of hl, rfl⟩, b, (as.length : Int), rfl, hb, by omega, by omega, fun d x y z d0 d1 => ?_⟩
    obtain ⟨i, rfl⟩ : ∃ i : Nat, d = ((i : Nat) : Int) := ⟨d.toNat, by omega⟩
    have hi : i < as.length := by omega
    have e := List.getElem?_eq_getElem hi
    refine .inl ⟨l, as, _, _, rfl, rfl, SqL.of (by rw [upd_ne nb]; exact hl), atI_nat e, ?_⟩
    exact k i _ x y z e
theorem ok_pickS (T : Txt mg) (g_law_take : Has P w K mg base 1 "_law_take" ["_law_box_here", "_law_many"] spTake) (F : DefAt K mg "_law_pick" s_law_pick ["_law_box_here", "_law_items"]) : Has P w K mg base 2 "_law_pick" ["_law_box_here", "_law_items"] spPickS := by
  refine F.has sc_law_pick (fun vs H Q E h => ?_) (fun f cdv A outer s H vs Q E hr h => ?_)
  · obtain ⟨b, z, rfl, _⟩ := h
    rfl
  · obtain ⟨b, z, rfl, hb, l0, l1, k⟩ := h
    refine ⟨_, (pss_one (ps_ret (pe_ix ix_seq (pv 1) (pe_callHas g_law_take (hr.mono (by decide)) rfl (pa_cons (pv 0) (pa_cons (pe_callB call_len (by rfl) T.z_len (by decide +kernel) (pa_cons (pv 1) pa_nil)) pa_nil))) (fun _ _ => rfl)))), ?_⟩
    refine ⟨_, rfl, _, rfl, _, rfl, _, _, rfl, ⟨le_line l1, rfl⟩, b, (z.length : Int), rfl, hb, by omega, by omega, fun d x y w d0 d1 => ?_⟩
    obtain ⟨i, rfl⟩ : ∃ i : Nat, d = ((i : Nat) : Int) := ⟨d.toNat, by omega⟩
    have hi : i < z.cps.size := by have : i < z.length := by omega
                                   exact this
    have e : z.cps[i]? = some z.cps[i] := Array.getElem?_eq_getElem hi
    exact .inr (.inr ⟨z, _, z.cps[i], rfl, rfl, le_line l1, atI_nat (by rw [Array.getElem?_toList]; exact e), k i _ x y w e⟩)
abbrev s_law_mixed : Stmt := top 31
abbrev n_law_mixed : List Str := ["_law_box_here", "_law_items", "_law_left", "_law_found", "_law_turn"]
theorem sc_law_mixed : FnScope n_law_mixed ["_law_box_here", "_law_items"] (defScope s_law_mixed) := ⟨rfl, rfl, rfl, by decide +kernel, rfl, by decide +kernel, by decide +kernel⟩
/-- the items in another order, a new list -/
def spMixed : Sp := fun vs H Q _ => ∃ (b l : Addr) (as : List V), vs = [.ref b, .ref l] ∧ Box H b ∧ H l = some (.lst as) ∧ l ≠ b ∧ as.length ≤ 1000 ∧ ∀ (H' : Hp) (q : Addr) (bs : List V), But b H H' → Box H' b → q ≠ b → H q = none → H' q = some (.lst bs) → bs.Perm as → Q (.ref q) H'
theorem ok_mixed (T : Txt mg) (g_law_take : Has P w K mg base 1 "_law_take" ["_law_box_here", "_law_many"] spTake) (F : DefAt K mg "_law_mixed" s_law_mixed ["_law_box_here", "_law_items"]) : Has P w K mg base 2 "_law_mixed" ["_law_box_here", "_law_items"] spMixed := by
  refine F.has sc_law_mixed (fun vs H Q E h => ?_) (fun f cdv A outer s H vs Q E hr h => ?_)
  · obtain ⟨b, l, as, rfl, _⟩ := h
    rfl
  · obtain ⟨b, l, as, rfl, hb, hl, nb, l1, k⟩ := h
    refine ⟨_, (pss_cons (ps_par (i := 2) (j := 3) (by rfl) sc_law_mixed.nd rfl rfl (by decide) rfl rfl (pa_cons (pe_callTy call_list_of (by rfl) T.z_list (by decide +kernel) (pa_cons (pv 1) pa_nil)) (pa_cons (pe_lst pa_nil) pa_nil)) (by rfl))
      (pss_cons (ps_for PassesOwn.never rfl (pi_range1 rfl T.z_range (pa_cons (pe_callB call_len (by rfl) T.z_len (by decide +kernel) (pa_cons (pv 2) pa_nil)) pa_nil)) (pg_name (i := 4) sc_law_mixed.nd rfl (Or.inl rfl)) (pss_one (ps_expr (pe_bm PySem.F.plainAttrs_list PySem.F.slot_list_append PySem.F.type_list_append mt_append (pv 3) (pa_cons (pe_bm PySem.F.plainAttrs_list PySem.F.slot_list_pop PySem.F.type_list_pop mt_popAt (pv 2) (pa_cons (pe_callHas g_law_take (hr.mono (by decide)) rfl (pa_cons (pv 0) (pa_cons (pe_callB call_len (by rfl) T.z_len (by decide +kernel) (pa_cons (pv 2) pa_nil)) pa_nil))) pa_nil)) pa_nil)))))
      (pss_one (ps_ret (pv 3))))), ?_⟩
    refine ⟨_, rfl, l, as, rfl, .inl (SqL.of hl), fun p hp => ?_⟩
    obtain ⟨s1, h1⟩ := new_at (o := .lst as) hp
    refine ⟨Nat.zero_le _, fun q hq => ?_⟩
    obtain ⟨s2, h2⟩ := new_at (o := .lst []) hq
    have hq0 : H q = none := by
      cases e : H q with
      | none => rfl
      | some o => rw [s1 _ _ e] at hq; cases hq
    have nqp : q ≠ p := fun z => by rw [z, h1] at hq; cases hq
    have bne : H b ≠ none := by obtain ⟨x, y, z, e⟩ := hb; rw [e]; exact fun z => nomatch z
    have npb : p ≠ b := new_ne bne hp
    have nqb : q ≠ b := new_ne bne hq0
    refine ⟨_, _, rfl, ?_⟩
    try dsimp only
    refine ⟨_, rfl, _, _, rfl, .inl ⟨as, SqL.of (s2 _ _ h1), rfl⟩, (as.length : Int), rfl, by omega, by omega, for_range (lo := 0) (n := as.length) (fun i σ H' => But b H H' ∧ Box H' b ∧ ∃ ls fs x4, σ = [some (.ref b), some (.ref l), some (.ref p), some (.ref q), x4] ∧ H' p = some (.lst ls) ∧ H' q = some (.lst fs) ∧ ls.length + i = as.length ∧ (fs ++ ls).Perm as)
      ⟨Same.but (s1.trans s2), (hb.keep s1).keep s2, as, [], _, rfl, s2 _ _ h1, h2, rfl, by simp⟩ ?_ ?_⟩
    · rintro i σ H' hi ⟨u, hb', ls, fs, x4, rfl, hp', hq', ln, pm⟩
      refine ⟨_, rfl, .inl ⟨rfl, _, SqL.of hq'⟩, ?_⟩
      refine ⟨_, rfl, .inl ⟨rfl, _, SqL.of hp'⟩, ?_⟩
      refine ⟨_, rfl, _, rfl, _, _, rfl, .inl ⟨ls, SqL.of hp', rfl⟩, b, (ls.length : Int), rfl, hb', by omega, by omega, fun d x y z d0 d1 => ?_⟩
      have hp2 : upd H' b (.lst [.int x, .int y, .int z]) p = some (.lst ls) := (upd_ne npb).trans hp'
      have hq2 : upd H' b (.lst [.int x, .int y, .int z]) q = some (.lst fs) := (upd_ne nqb).trans hq'
      have u2 : But b H (upd H' b (.lst [.int x, .int y, .int z])) := u.trans But.upd'
      have b2 : Box (upd H' b (.lst [.int x, .int y, .int z])) b := Box.upd'
      generalize upd H' b (.lst [.int x, .int y, .int z]) = H2 at *
      have hd : d.toNat < ls.length := by omega
      refine ⟨p, ls, d, d.toNat, ls[d.toNat], rfl, rfl, hp2, by omega, by omega, PyProof.Rows.seqIndex_at d0 d1, List.getElem?_eq_getElem hd, ?_⟩
      refine ⟨q, fs, ls[d.toNat], rfl, rfl, (upd_ne nqp).trans hq2, ?_, ?_⟩
      · have := pm.length_eq
        rw [List.length_append] at this
        have q2 : (1000 : Nat) < sizeLine := by decide
        omega
      · refine ⟨?_, ?_, ls.eraseIdx d.toNat, fs ++ [ls[d.toNat]], _, rfl, ?_, upd_same, ?_, ?_⟩
        · intro a o na ha
          have nap : a ≠ p := ne_of_none ha hp
          have naq : a ≠ q := ne_of_none ha hq0
          exact (upd_ne naq).trans ((upd_ne nap).trans (u2 _ _ na ha))
        · obtain ⟨x, y, z, e⟩ := b2
          exact ⟨x, y, z, (upd_ne nqb.symm).trans ((upd_ne npb.symm).trans e)⟩
        · exact (upd_ne nqp.symm).trans upd_same
        · rw [List.length_eraseIdx_of_lt hd]; omega
        · rw [List.append_assoc]
          refine List.Perm.trans (List.Perm.append_left fs ?_) pm
          exact (perm_out hd)
    · rintro σ H' ⟨u, hb', ls, fs, x4, rfl, hp', hq', ln, pm⟩
      have : ls = [] := List.length_eq_zero_iff.mp (by omega)
      subst this
      rw [List.append_nil] at pm
      exact ⟨_, rfl, k H' q fs u hb' nqb hq0 hq' pm⟩
end
end K14

set_option pp.maxSteps 600
namespace K14
open PySem L2 PySem.Spec PyProof.Rows
/-! ### words of small letters -/
def Lower (s : Str) : Prop := 0 < s.length ∧ ∀ c ∈ s.cps.toList, 97 ≤ c ∧ c ≤ 122
theorem letter : ∀ c, c < 123 → 97 ≤ c → (Unicode.isAlpha c && Unicode.isLower c && !(Unicode.isUpper c || Unicode.isTitle c)) = true := by decide +kernel
theorem nameB_lower {s : Str} (h : Lower s) (l : s.length ≤ 4) (n : s ∉ noNames) : nameB s = true := by
  obtain ⟨h0, h1⟩ := h
  have k : ∀ c ∈ s.cps.toList, Unicode.isAlpha c = true ∧ Unicode.isLower c = true ∧ (Unicode.isUpper c || Unicode.isTitle c) = false := fun c hc => by
    obtain ⟨c1, c2⟩ := h1 c hc
    have := letter c (by omega) c1
    simp only [Bool.and_eq_true, Bool.not_eq_true'] at this
    exact ⟨this.1.1, this.1.2, this.2⟩
  have a1 : Txt.isascii s = true := by
    unfold Txt.isascii
    rw [← Array.all_toList, List.all_eq_true]
    intro c hc
    have := (h1 c hc).2
    exact decide_eq_true (by omega)
  have a2 : Txt.isalpha s = true := by
    unfold Txt.isalpha
    rw [← Array.all_toList, Bool.and_eq_true]
    exact ⟨decide_eq_true h0, List.all_eq_true.mpr fun c hc => (k c hc).1⟩
  have a3 : Txt.islower s = true := by
    unfold Txt.islower
    rw [← Array.any_toList, ← Array.any_toList, Bool.and_eq_true]
    refine ⟨?_, ?_⟩
    · rw [List.any_eq_true]
      have : 0 < s.cps.toList.length := by rw [Array.length_toList]; exact h0
      obtain ⟨c, hc⟩ := List.exists_mem_of_length_pos this
      exact ⟨c, hc, (k c hc).2.1⟩
    · rw [Bool.not_eq_true', List.any_eq_false]
      intro c hc
      rw [(k c hc).2.2]
      exact fun z => nomatch z
  unfold nameB
  rw [decide_eq_true l, a1, a2, a3, decide_eq_false n]
  rfl
theorem join_cps : ∀ cs : List Nat, (PySem.Str.join "" (cs.map fun c => (⟨#[c]⟩ : Str))).cps.toList = cs
  | [] => rfl
  | [c] => rfl
  | c :: d :: cs => by
    have ih := join_cps (d :: cs)
    show ((⟨#[c]⟩ : Str) ++ ("" : Str) ++ PySem.Str.join "" ((d :: cs).map fun c => (⟨#[c]⟩ : Str))).cps.toList = _
    have e : ((⟨#[c]⟩ : Str) ++ ("" : Str) ++ PySem.Str.join "" ((d :: cs).map fun c => (⟨#[c]⟩ : Str))).cps = #[c] ++ ("" : Str).cps ++ (PySem.Str.join "" ((d :: cs).map fun c => (⟨#[c]⟩ : Str))).cps := rfl
    rw [e, Array.toList_append, Array.toList_append, ih]
    rfl
theorem lower_join {cs : List Nat} (h0 : 0 < cs.length) (h1 : ∀ c ∈ cs, 97 ≤ c ∧ c ≤ 122) : Lower (Txt.join "" (cs.map fun c => (⟨#[c]⟩ : Str))) ∧ (Txt.join "" (cs.map fun c => (⟨#[c]⟩ : Str))).length = cs.length := by
  rw [show Txt.join "" (cs.map fun c => (⟨#[c]⟩ : Str)) = PySem.Str.join "" (cs.map fun c => (⟨#[c]⟩ : Str)) from PySem.StrLaws.glued_eq_join _ _]
  have e := join_cps cs
  have l : (PySem.Str.join "" (cs.map fun c => (⟨#[c]⟩ : Str))).length = cs.length := by
    show (PySem.Str.join "" (cs.map fun c => (⟨#[c]⟩ : Str))).cps.size = _
    rw [← Array.length_toList, e]
  exact ⟨⟨by rw [l]; exact h0, by rw [e]; exact h1⟩, l⟩
theorem alphabet : ∀ {i c : Nat}, ("abcdefghijklmnopqrstuvwxyz" : Str).cps[i]? = some c → 97 ≤ c ∧ c ≤ 122 := by
  intro i c h
  have m : c ∈ ("abcdefghijklmnopqrstuvwxyz" : Str).cps.toList := by
    rw [← Array.getElem?_toList] at h
    exact List.mem_of_getElem? h
  have all : ("abcdefghijklmnopqrstuvwxyz" : Str).cps.toList.all (fun c => decide (97 ≤ c) && decide (c ≤ 122)) = true := by decide +kernel
  have := List.all_eq_true.mp all c m
  simpa using this
def strV : V → Str
  | .str s => s
  | _ => ""
theorem perm_strs {bs : List V} {l : List Str} (h : bs.Perm (l.map V.str)) : ∃ ms : List Str, bs = ms.map V.str ∧ ms.Perm l := by
  refine ⟨bs.map strV, ?_, ?_⟩
  · rw [List.map_map]
    refine (List.map_id bs).symm.trans (List.map_congr_left fun v hv => ?_)
    obtain ⟨s, _, rfl⟩ := List.mem_map.mp (h.mem_iff.mp hv)
    rfl
  · have := h.map strV
    rw [List.map_map] at this
    rw [show strV ∘ V.str = id from rfl, List.map_id] at this
    exact this
theorem flat_strs : ∀ l : List Str, (l.map V.str).all flatV = true
  | [] => rfl
  | _ :: l => by rw [List.map_cons, List.all_cons, flat_strs l]; rfl
theorem sum_ones : ∀ cs : List Nat, (((cs.map fun c => (⟨#[c]⟩ : Str))).map (·.length)).sum = cs.length
  | [] => rfl
  | c :: cs => by
    have ih := sum_ones cs
    rw [List.map_cons, List.map_cons, List.sum_cons, ih, List.length_cons]
    show 1 + cs.length = cs.length + 1
    omega
def someNames : List Str := ["a", "b", "n", "up", "sum", "rest", "pass", "note", "add", "on", "end", "was", "if", "from", "zzzz", "else"]
section
variable {P : Program} {w : World} {K : PySem.W.Frag} {mg : Str → Option Value} {base : Heap}
abbrev s_law_names : Stmt := top 32
abbrev n_law_names : List Str := ["_law_box_here", "_law_many", "_law_some", "_law_found", "_law_barred", "_law_name", "_law_letters", "_law_word", "_law_turn"]
theorem sc_law_names : FnScope n_law_names ["_law_box_here", "_law_many"] (defScope s_law_names) := ⟨rfl, rfl, rfl, by decide +kernel, rfl, by decide +kernel, by decide +kernel⟩
/-- unlike names -/
def spNames : Sp := fun vs H Q _ => ∃ (b : Addr) (n : Nat), vs = [.ref b, .int n] ∧ Box H b ∧ n ≤ 16 ∧ ∀ (H' : Hp) (q : Addr) (ns : List Str), But b H H' → Box H' b → q ≠ b → H q = none → H' q = some (.lst (ns.map V.str)) → ns.length = n → ns.Nodup → (∀ s ∈ ns, nameB s = true) → Q (.ref q) H'
theorem ok_names (T : Txt mg) (g_law_take : Has P w K mg base 1 "_law_take" ["_law_box_here", "_law_many"] spTake) (g_law_pickS : Has P w K mg base 2 "_law_pick" ["_law_box_here", "_law_items"] spPickS) (g_law_mixed : Has P w K mg base 2 "_law_mixed" ["_law_box_here", "_law_items"] spMixed)
    (F : DefAt K mg "_law_names" s_law_names ["_law_box_here", "_law_many"]) : Has P w K mg base 3 "_law_names" ["_law_box_here", "_law_many"] spNames := by
  refine F.has sc_law_names (fun vs H Q E h => ?_) (fun f cdv A outer s H vs Q E hr h => ?_)
  · obtain ⟨b, n, rfl, _⟩ := h
    rfl
  · obtain ⟨b, n, rfl, hb, n16, k⟩ := h
    refine ⟨_, (pss_cons (ps_set (i := 2) sc_law_names.nd rfl (Or.inl rfl) (pe_lst (pa_cons pe_str (pa_cons pe_str (pa_cons pe_str (pa_cons pe_str (pa_cons pe_str (pa_cons pe_str (pa_cons pe_str (pa_cons pe_str (pa_cons pe_str (pa_cons pe_str (pa_cons pe_str (pa_cons pe_str (pa_cons pe_str (pa_cons pe_str (pa_cons pe_str (pa_cons pe_str pa_nil))))))))))))))))))
      (pss_cons (ps_par (i := 3) (j := 4) (by rfl) sc_law_names.nd rfl rfl (by decide) rfl rfl (pa_cons (pe_lst pa_nil) (pa_cons (pe_lst (pa_cons pe_str (pa_cons pe_str (pa_cons pe_str (pa_cons pe_str (pa_cons pe_str (pa_cons pe_str pa_nil))))))) pa_nil)) (by rfl))
      (pss_cons (ps_for PassesOwn.never rfl (pi_list (pe_slice sl_list (pe_callHas g_law_mixed (hr.mono (by decide)) rfl (pa_cons (pv 0) (pa_cons (pv 2) pa_nil))) po_none (po_some (pv 1)))) (pg_name (i := 5) sc_law_names.nd rfl (Or.inl rfl)) (pss_cons (ps_if (pt_cmpR op_eq (pe_callHas g_law_take (hr.mono (by decide)) rfl (pa_cons (pv 0) (pa_cons pe_int pa_nil))) pe_int (nomark _)) (pss_cons (ps_setLc (i := 6) (own := [("_law_turn", 8)]) (g := gName 8) (by rfl) sc_law_names.nd rfl rfl (sw_true rfl rfl rfl (by decide +kernel)) (pi_range1 rfl T.z_range (pa_cons (pe_op op_add pe_int (pe_callHas g_law_take (hr.mono (by decide)) rfl (pa_cons (pv 0) (pa_cons pe_int pa_nil)))) pa_nil)) (blkOk_by (own := [("_law_turn", 8)]) (N := n_law_names) (sc := defScope s_law_names) (by decide +kernel)) (fun _ _ _ _ _ => (pg_name (i := 8) sc_law_names.nd rfl (Or.inl rfl))) (fun _ _ _ _ _ => pts_nil) (fun _ _ _ _ _ => (pe_callHas g_law_pickS (hr.mono (by decide)) rfl (pa_cons (pv 0) (pa_cons pe_str pa_nil)))))
      (pss_cons (ps_set (i := 7) sc_law_names.nd rfl (Or.inl rfl) (pe_join pe_str (pv 6)))
      (pss_one (ps_if (pt_cmpR op_notIn_seq (pv 7) (pe_op op_cat (pe_op op_cat (pv 3) (pv 2)) (pv 4)) (by rfl)) (pss_one (ps_set (i := 5) sc_law_names.nd rfl (Or.inl rfl) (pv 7))) pss_nil)))) pss_nil)
      (pss_one (ps_expr (pe_bm PySem.F.plainAttrs_list PySem.F.slot_list_append PySem.F.type_list_append mt_append (pv 3) (pa_cons (pv 5) pa_nil))))))
      (pss_one (ps_ret (pv 3)))))), ?_⟩
    have nb := hb.ne
    refine seq_asg (lst_go (xs := someNames.map V.str) (fun Q q => q) (by decide) fun H1 p s1 hp h1 => name_go ?_)
    try dsimp only
    refine seq_par (cons_go (lst_go (xs := []) (fun Q q => q) (by decide) fun H2 q s2 hq h2 => cons_go (lst_go (xs := noNames.map V.str) (fun Q q => q) (by decide) fun H3 r s3 hr h3 => ⟨_, _, rfl, ?_⟩)))
    try dsimp only
    have hq0 : H q = none := back s1 hq
    have nqb : q ≠ b := new_ne nb hq0
    have npb : p ≠ b := new_ne nb hp
    have s03 : Same H H3 := (s1.trans s2).trans s3
    have npq : p ≠ q := fun z => by rw [z, hq] at h1; cases h1
    have nrq : r ≠ q := fun z => by rw [z, h2] at hr; cases hr
    have nrb : r ≠ b := new_ne nb (back (s1.trans s2) hr)
    refine ⟨_, rfl, _, rfl, b, p, someNames.map V.str, rfl, hb.keep s03, s3 _ _ (s2 _ _ h1), npb, (by decide), fun H4 m bs u4 b4 nmb hm hbs pm => ?_⟩
    obtain ⟨ms, rfl, pms⟩ := perm_strs pm
    have l16 : ms.length = 16 := pms.length_eq
    have nd : ms.Nodup := pms.nodup_iff.mpr (by decide +kernel)
    refine ⟨_, rfl, (n : Int), rfl, m, _, rfl, SqL.of hbs, fun t ht => ?_⟩
    rw [cutN (by rw [List.length_map]; omega), ← List.map_take]
    obtain ⟨s5, h5⟩ := new_at (o := .lst ((ms.take n).map V.str)) ht
    have u5 : But b H (upd H4 t (.lst ((ms.take n).map V.str))) := ((Same.but s03).trans u4).trans (Same.but s5)
    have b5 : Box (upd H4 t (.lst ((ms.take n).map V.str))) b := b4.keep s5
    have hp5 := s5 _ _ (u4 _ _ npb (s3 _ _ (s2 _ _ h1)))
    have hq5 := s5 _ _ (u4 _ _ nqb (s3 _ _ h2))
    have hr5 := s5 _ _ (u4 _ _ nrb h3)
    have ntb : t ≠ b := fun z => by obtain ⟨x, y, w, e⟩ := b4; rw [z, e] at ht; cases ht
    have ntq : t ≠ q := fun z => by have := u4 _ _ nqb (s3 _ _ h2); rw [← z, ht] at this; cases this
    generalize upd H4 t (.lst ((ms.take n).map V.str)) = H5 at *
    refine ⟨t, rfl, ⟨_, SqL.of h5⟩, for_it (walk_list (xs := (ms.take n).map V.str)) (fun i σ H' => (∀ a o, a ≠ b → a ≠ q → H5 a = some o → H' a = some o) ∧ Box H' b ∧ ∃ (fs : List Str) (x5 x6 x7 x8 : Option V), σ = [some (.ref b), some (.int (n : Int)), some (.ref p), some (.ref q), some (.ref r), x5, x6, x7, x8] ∧ H' q = some (.lst (fs.map V.str)) ∧ fs.length = i ∧ fs.Nodup ∧ (∀ s ∈ fs, nameB s = true) ∧ ∀ s ∈ fs, s ∈ someNames → s ∈ (ms.take n).take i)
      ⟨fun _ _ _ _ h => h, b5, [], _, _, _, _, rfl, hq5, rfl, List.nodup_nil, (fun _ h => nomatch h), (fun _ h => nomatch h)⟩ (fun i σ H' _ z => SqL.of (z.1 _ _ ntb ntq h5)) ?_ ?_⟩
    · rintro i x σ H6' H6 hi ⟨k6, b6, fs, x5, x6, x7, x8, rfl, hq6, lf, ndf, okf, inf⟩ ⟨rfl, ex⟩
      rw [List.getElem?_map] at ex
      obtain ⟨w0, ew, rfl⟩ := Option.map_eq_some_iff.mp ex
      refine name_go ?_
      try dsimp only
      have hi' : i < (ms.take n).length := by rw [List.length_map] at hi; exact hi
      have lmn : (ms.take n).length ≤ 16 := by rw [List.length_take]; omega
      have q1000 : (1000 : Nat) < sizeLine := by decide
      have app : ∀ (w : Str) (x6 x7 x8 : Option V) (H' : Hp), (∀ a o, a ≠ b → a ≠ q → H5 a = some o → H' a = some o) → Box H' b → w ∉ fs → nameB w = true → (w ∈ someNames → w ∈ (ms.take n).take (i + 1)) →
          (∀ a o, a ≠ b → a ≠ q → H5 a = some o → upd H' q (.lst (fs.map V.str ++ [V.str w])) a = some o) ∧ Box (upd H' q (.lst (fs.map V.str ++ [V.str w]))) b ∧ ∃ (fs' : List Str) (x5 y6 y7 y8 : Option V), [some (V.ref b), some (.int (n : Int)), some (.ref p), some (.ref q), some (.ref r), some (V.str w), x6, x7, x8] = [some (.ref b), some (.int (n : Int)), some (.ref p), some (.ref q), some (.ref r), x5, y6, y7, y8] ∧ upd H' q (.lst (fs.map V.str ++ [V.str w])) q = some (.lst (fs'.map V.str)) ∧ fs'.length = i + 1 ∧ fs'.Nodup ∧ (∀ s ∈ fs', nameB s = true) ∧ ∀ s ∈ fs', s ∈ someNames → s ∈ (ms.take n).take (i + 1) := by
        intro w x6 x7 x8 H' k' b' nw ow iw
        refine ⟨fun a o na nq h => (upd_ne nq).trans (k' a o na nq h), ?_, fs ++ [w], _, _, _, _, rfl, by rw [List.map_append]; exact upd_same, by rw [List.length_append, lf]; rfl, ?_, ?_, ?_⟩
        · obtain ⟨x, y, z, e⟩ := b'
          exact ⟨x, y, z, (upd_ne nqb.symm).trans e⟩
        · rw [List.nodup_append]
          exact ⟨ndf, by simp, fun x hx y hy z => nw (by rw [List.mem_singleton] at hy; rw [← hy, ← z]; exact hx)⟩
        · intro s hs
          rcases List.mem_append.mp hs with hs | hs
          · exact okf s hs
          · rw [List.mem_singleton.mp hs]; exact ow
        · intro s hs h
          rcases List.mem_append.mp hs with hs | hs
          · have := inf s hs h
            rw [← List.take_append_getElem hi']
            exact List.mem_append_left _ this
          · rw [List.mem_singleton] at hs
            subst hs
            exact iw h
      have w0s : w0 ∈ someNames := pms.mem_iff.mp (List.mem_of_mem_take (List.mem_of_getElem? ew))
      have w0t : w0 ∈ (ms.take n).take (i + 1) := by
        rw [← List.take_append_getElem hi']
        refine List.mem_append_right _ ?_
        rw [List.getElem?_eq_getElem hi'] at ew
        rw [Option.some.inj ew]
        exact List.mem_singleton_self _
      have w0f : w0 ∉ fs := fun h => by
        have h2 := inf w0 h w0s
        have ndt : (ms.take n).Nodup := nd.sublist (List.take_sublist _ _)
        rw [← List.take_append_drop i (ms.take n), List.nodup_append] at ndt
        refine ndt.2.2 w0 h2 w0 ?_ rfl
        rw [List.drop_eq_getElem_cons hi']
        rw [List.getElem?_eq_getElem hi'] at ew
        rw [Option.some.inj ew]
        exact List.mem_cons_self
      have ok0 : nameB w0 = true := by
        have all : someNames.all nameB = true := by decide +kernel
        exact List.all_eq_true.mp all w0 w0s
      refine ⟨_, rfl, b, 4, rfl, b6, by decide, by decide, fun d x y z d0 d1 => ?_⟩
      have k7 : ∀ a o, a ≠ b → a ≠ q → H5 a = some o → upd H6 b (.lst [.int x, .int y, .int z]) a = some o := fun a o na nq h => (upd_ne na).trans (k6 a o na nq h)
      have b7 : Box (upd H6 b (.lst [.int x, .int y, .int z])) b := Box.upd'
      have hq7 : upd H6 b (.lst [.int x, .int y, .int z]) q = some (.lst (fs.map V.str)) := (upd_ne nqb).trans hq6
      generalize upd H6 b (.lst [.int x, .int y, .int z]) = H7 at *
      refine ⟨rfl, _, rfl, ite2 (fun _ => ?_) (fun _ => ?_)⟩
      · refine seq_asg ?_
        refine ⟨_, rfl, b, 4, rfl, b7, by decide, by decide, fun d2 x y z d20 d21 => ⟨_, _, rfl, rfl, 1 + d2, rfl, by omega, by omega, ?_⟩⟩
        have k8 : ∀ a o, a ≠ b → a ≠ q → H5 a = some o → upd H7 b (.lst [.int x, .int y, .int z]) a = some o := fun a o na nq h => (upd_ne na).trans (k7 a o na nq h)
        have b8 : Box (upd H7 b (.lst [.int x, .int y, .int z])) b := Box.upd'
        have hq8 : upd H7 b (.lst [.int x, .int y, .int z]) q = some (.lst (fs.map V.str)) := (upd_ne nqb).trans hq7
        generalize upd H7 b (.lst [.int x, .int y, .int z]) = H8 at *
        refine fun D hD => lc_range (lo := 0) (n := (1 + d2).toNat) (fun j H' => (∀ a o, a ≠ b → H8 a = some o → H' a = some o) ∧ Box H' b ∧ ∃ cs : List Nat, H' D = some (.lst ((cs.map fun c => (⟨#[c]⟩ : Str)).map V.str)) ∧ cs.length = j ∧ ∀ c ∈ cs, 97 ≤ c ∧ c ≤ 122) ⟨fun a o _ h => (new_at hD).1 a o h, b8.keep (new_at hD).1, [], upd_same, rfl, (fun _ h => nomatch h)⟩ ?_ ?_
        · rintro j H9 hj ⟨k9, b9, cs, hD9, lc, oc⟩
          have nDb : D ≠ b := fun z => by obtain ⟨x, y, w, e⟩ := b8; rw [← z, hD] at e; cases e
          refine name_go ⟨rfl, ?_⟩
          unfold tYes
          refine iteSe rfl ?_
          refine ⟨_, rfl, b, "abcdefghijklmnopqrstuvwxyz", rfl, b9, by decide +kernel, by decide +kernel, fun i2 c x y z e => ⟨_, (upd_ne nDb).trans hD9, ?_, ?_⟩⟩
          · rw [List.length_map, List.length_map, lc]; omega
          · refine ⟨fun a o na h => (upd_ne (ne_of_none h hD)).trans ((upd_ne na).trans (k9 a o na h)), ?_, cs ++ [c], ?_, ?_, ?_⟩
            · exact ⟨x, y, z, (upd_ne nDb.symm).trans upd_same⟩
            · rw [List.map_append, List.map_append]; exact upd_same
            · rw [List.length_append, lc]; rfl
            · intro c' hc
              rcases List.mem_append.mp hc with hc | hc
              · exact oc c' hc
              · rw [List.mem_singleton.mp hc]; exact alphabet e
        · rintro H9 ⟨k9, b9, cs, hD9, lc, oc⟩
          have lcs : cs.length ≤ 4 := by omega
          have lcp : 0 < cs.length := by omega
          obtain ⟨lw, ln⟩ := lower_join lcp oc
          refine name_go ?_
          try dsimp only
          refine seq_asg ⟨⟨_, rfl⟩, _, rfl, "", D, _, rfl, rfl, .inl (SqL.of hD9), ?_, name_go ?_⟩
          · rw [sum_ones]
            show cs.length + _ * 0 ≤ 16777216
            omega
          try dsimp only
          generalize Txt.join "" (cs.map fun c => (⟨#[c]⟩ : Str)) = word at *
          have k9' : ∀ a o, a ≠ b → a ≠ q → H5 a = some o → H9 a = some o := fun a o na nq h => k9 _ _ na (k8 a o na nq h)
          have hq9 := k9 _ _ nqb hq8
          have hp9 := k9' _ _ npb npq hp5
          have hr9 := k9' _ _ nrb nrq hr5
          refine ⟨_, rfl, _, rfl, _, rfl, q, p, _, _, rfl, rfl, hq9, hp9, ?_, fun t1 ht1 => ⟨_, rfl, t1, r, _, _, rfl, rfl, upd_same, (new_at ht1).1 _ _ hr9, ?_, fun t2 ht2 => ?_⟩⟩
          · rw [List.length_map, List.length_map]; show fs.length + 16 ≤ sizeLine; omega
          · rw [List.length_append, List.length_map, List.length_map, List.length_map]; show fs.length + 16 + 6 ≤ sizeLine; omega
          obtain ⟨s10, h10⟩ := new_at (o := .lst (fs.map V.str ++ someNames.map V.str)) ht1
          obtain ⟨s11, h11⟩ := new_at (o := .lst (fs.map V.str ++ someNames.map V.str ++ noNames.map V.str)) ht2
          have s91 := s10.trans s11
          have kA : ∀ a o, a ≠ b → a ≠ q → H5 a = some o → _ := fun a o na nq h => s91 _ _ (k9' a o na nq h)
          have bA := b9.keep s91
          have hqA := s91 _ _ hq9
          generalize upd (upd H9 t1 (.lst (fs.map V.str ++ someNames.map V.str))) t2 (.lst (fs.map V.str ++ someNames.map V.str ++ noNames.map V.str)) = HA at *
          rw [← List.map_append, ← List.map_append] at h11
          refine ⟨t2, _, rfl, .inl (SqL.of h11), rfl, flat_strs _, ?_⟩
          rw [if_pos rfl, inV_strs]
          refine ⟨_, rfl, ite2 (fun hn => ?_) (fun _ => ?_)⟩
          · have hn' : word ∉ fs ++ someNames ++ noNames := by simpa using hn
            have n1 : word ∉ fs := fun h => hn' (List.mem_append_left _ (List.mem_append_left _ h))
            have n2 : word ∉ someNames := fun h => hn' (List.mem_append_left _ (List.mem_append_right _ h))
            have n3 : word ∉ noNames := fun h => hn' (List.mem_append_right _ h)
            exact ⟨_, rfl, name_go ⟨_, rfl, .inl ⟨rfl, _, SqL.of hqA⟩, _, rfl, q, fs.map V.str, _, rfl, rfl, hqA, by rw [List.length_map]; omega, app word _ _ _ _ kA bA n1 (nameB_lower lw (by omega) n3) fun h => absurd h n2⟩⟩
          · exact ⟨_, rfl, .inl ⟨rfl, _, SqL.of hqA⟩, _, rfl, q, fs.map V.str, _, rfl, rfl, hqA, by rw [List.length_map]; omega, app w0 _ _ _ _ kA bA w0f ok0 fun _ => w0t⟩
      · exact ⟨_, rfl, .inl ⟨rfl, _, SqL.of hq7⟩, _, rfl, q, fs.map V.str, _, rfl, rfl, hq7, by rw [List.length_map]; omega, app w0 _ _ _ H7 k7 b7 w0f ok0 fun _ => w0t⟩
    · rintro σ H6 ⟨k6, b6, fs, x5, x6, x7, x8, rfl, hq6, lf, ndf, okf, inf⟩
      refine ⟨_, rfl, k H6 q fs ?_ b6 nqb hq0 hq6 (by rw [lf, List.length_map, List.length_take]; omega) ndf okf⟩
      exact fun a o na ha => k6 _ _ na (ne_of_none ha hq0) (u5 _ _ na ha)
abbrev s_law_number : Stmt := top 33
abbrev n_law_number : List Str := ["_law_box_here", "_law_most", "_law_form"]
theorem sc_law_number : FnScope n_law_number ["_law_box_here", "_law_most"] (defScope s_law_number) := ⟨rfl, rfl, rfl, by decide +kernel, rfl, by decide +kernel, by decide +kernel⟩
def spNumber : Sp := fun vs H Q _ => ∃ (b : Addr) (m : Int), vs = [.ref b, .int m] ∧ Box H b ∧ 8 ≤ m ∧ m < 10000000000 ∧ ∀ (H' : Hp) (i : Int), But b H H' → Box H' b → ((-m ≤ i ∧ i ≤ m) ∨ (-100 ≤ i ∧ i ≤ 100)) → Q (.int i) H'
theorem ok_number (T : Txt mg) (g_law_take : Has P w K mg base 1 "_law_take" ["_law_box_here", "_law_many"] spTake) (F : DefAt K mg "_law_number" s_law_number ["_law_box_here", "_law_most"]) : Has P w K mg base 2 "_law_number" ["_law_box_here", "_law_most"] spNumber := by
  refine F.has sc_law_number (fun vs H Q E h => ?_) (fun f cdv A outer s H vs Q E hr h => ?_)
  · obtain ⟨b, m, rfl, _⟩ := h
    rfl
  · obtain ⟨b, m, rfl, hb, m0, m1, k⟩ := h
    refine ⟨_, (pss_cons (ps_set (i := 2) sc_law_number.nd rfl (Or.inl rfl) (pe_callHas g_law_take (hr.mono (by decide)) rfl (pa_cons (pv 0) (pa_cons pe_int pa_nil))))
      (pss_cons (ps_if (pt_cmpR op_eq (pv 2) pe_int (nomark _)) (pss_one (ps_ret (pe_op op_mul (pe_ix ix_list (pe_lst (pa_cons pe_int (pa_cons (pe_un un_neg pe_int) pa_nil))) (pe_callHas g_law_take (hr.mono (by decide)) rfl (pa_cons (pv 0) (pa_cons pe_int pa_nil))) (fun _ _ => rfl)) (pe_op op_sub (pv 1) (pe_callHas g_law_take (hr.mono (by decide)) rfl (pa_cons (pv 0) (pa_cons pe_int pa_nil))))))) pss_nil)
      (pss_one (ps_ret (pe_op op_sub (pe_callHas g_law_take (hr.mono (by decide)) rfl (pa_cons (pv 0) (pa_cons (pe_ix ix_list (pe_lst (pa_cons pe_int (pa_cons pe_int (pa_cons pe_int pa_nil)))) (pe_op op_sub (pv 2) pe_int) (fun _ _ => rfl)) pa_nil))) (pe_ix ix_list (pe_lst (pa_cons pe_int (pa_cons pe_int (pa_cons pe_int pa_nil)))) (pe_op op_sub (pv 2) pe_int) (fun _ _ => rfl))))))), ?_⟩
    refine seq_asg ⟨_, rfl, b, 4, rfl, hb, by decide, by decide, fun d x y z d0 d1 => name_go ?_⟩
    have u1 : But b H (upd H b (.lst [.int x, .int y, .int z])) := But.upd'
    have b1 : Box (upd H b (.lst [.int x, .int y, .int z])) b := Box.upd'
    generalize upd H b (.lst [.int x, .int y, .int z]) = H1 at *
    try dsimp only
    refine ⟨_, rfl, rfl, _, rfl, ite2 (fun _ => ?_) (fun hd => ?_)⟩
    · refine ret_go (op_go (op_go (lst_go (xs := [.int 1, .int (-1)]) (fun Q q => ⟨1, rfl, q⟩) (by decide) fun H2 p s2 hp h2 => ?_)))
      have npb : p ≠ b := new_ne b1.ne hp
      refine ⟨_, rfl, b, 2, rfl, b1.keep s2, by decide, by decide, fun d2 x y z d20 d21 => ?_⟩
      have u3 : But b H (upd H2 b (.lst [.int x, .int y, .int z])) := (u1.trans (Same.but s2)).trans But.upd'
      have b3 : Box (upd H2 b (.lst [.int x, .int y, .int z])) b := Box.upd'
      have h3 : upd H2 b (.lst [.int x, .int y, .int z]) p = some (.lst [.int 1, .int (-1)]) := (upd_ne npb).trans h2
      generalize upd H2 b (.lst [.int x, .int y, .int z]) = H3 at *
      obtain ⟨sg, es, hs⟩ : ∃ sg : Int, atI [V.int 1, V.int (-1)] d2 = some (.int sg) ∧ (sg = 1 ∨ sg = -1) := by
        rcases (show d2 = 0 ∨ d2 = 1 by omega) with rfl | rfl
        · exact ⟨1, rfl, .inl rfl⟩
        · exact ⟨-1, rfl, .inr rfl⟩
      refine ⟨p, _, _, _, rfl, rfl, SqL.of h3, es, ?_⟩
      refine ⟨_, rfl, _, rfl, b, 9, rfl, b3, by decide, by decide, fun d3 x y z d30 d31 => ⟨_, _, rfl, rfl, _, _, rfl, rfl, ?_, ?_⟩⟩
      · rcases hs with rfl | rfl
        · exact .inl ⟨by decide, by decide⟩
        · exact .inl ⟨by decide, by decide⟩
      · refine k _ _ (u3.trans But.upd') Box.upd' ?_
        rcases hs with rfl | rfl
        · left; omega
        · left; omega
    · have hd' : d ≠ 0 := fun z => hd (by rw [z]; rfl)
      obtain ⟨c, c2, e1, e2, hc⟩ : ∃ c c2 : Int, atI [V.int 5, V.int 21, V.int 200] (d - 1) = some (.int c) ∧ atI [V.int 2, V.int 10, V.int 100] (d - 1) = some (.int c2) ∧ 0 < c ∧ c ≤ 200 ∧ 0 ≤ c2 ∧ c2 ≤ 100 ∧ c - c2 ≤ 100 := by
        rcases (show d = 1 ∨ d = 2 ∨ d = 3 by omega) with rfl | rfl | rfl
        · exact ⟨5, 2, rfl, rfl, by decide⟩
        · exact ⟨21, 10, rfl, rfl, by decide⟩
        · exact ⟨200, 100, rfl, rfl, by decide⟩
      refine next_go ?_
      try dsimp only
      refine ret_go (op_go ?_)
      refine ⟨_, rfl, ?_⟩
      refine cons_go (op_go (lst_go (xs := [.int 5, .int 21, .int 200]) (fun Q q => q) (by decide) fun H2 p s2 hp h2 => ?_))
      refine ⟨_, rfl, _, _, rfl, rfl, p, _, _, _, rfl, rfl, SqL.of h2, e1, b, c, rfl, b1.keep s2, by omega, by omega, fun e x y z e0 e1' => ?_⟩
      refine op_go (lst_go (xs := [.int 2, .int 10, .int 100]) (fun Q q => q) (by decide) fun H3 p3 s3 hp3 h3 => ?_)
      refine ⟨_, rfl, _, _, rfl, rfl, p3, _, _, _, rfl, rfl, SqL.of h3, e2, _, _, rfl, rfl, ?_⟩
      refine k _ _ (((u1.trans (Same.but s2)).trans But.upd').trans (Same.but s3)) (Box.upd'.keep s3) ?_
      right
      omega
end
end K14

set_option pp.maxSteps 600
namespace K14
open PySem L2 PySem.Spec PyProof.Rows
section
variable {P : Program} {w : World} {K : PySem.W.Frag} {mg : Str → Option Value} {base : Heap}
abbrev s_law_test : Stmt := top 34
abbrev n_law_test : List Str := ["_law_box_here", "_law_book_here", "_law_deep", "_law_form", "_law_found", "_law_turn"]
theorem sc_law_test : FnScope n_law_test ["_law_box_here", "_law_book_here", "_law_deep"] (defScope s_law_test) := ⟨rfl, rfl, rfl, by decide +kernel, rfl, by decide +kernel, by decide +kernel⟩
def spTest : Sp := fun vs H Q _ => ∃ (b d : Addr) (u : V) (B : BookD) (kvs : List (Key × V)), vs = [.ref b, .ref d, u] ∧ Box H b ∧ BkAt H (· = b) d B kvs ∧ BkOk B ∧ ∀ (H' : Hp) (v : V) (t : TestD), But b H H' → Box H' b → TestAt H' v t → okTest B t → tdep t ≤ 2 → Q v H'
theorem ok_test (T : Txt mg) (g_law_take : Has P w K mg base 1 "_law_take" ["_law_box_here", "_law_many"] spTake) (g_law_pick : Has P w K mg base 2 "_law_pick" ["_law_box_here", "_law_items"] spPick) (F : DefAt K mg "_law_test" s_law_test ["_law_box_here", "_law_book_here", "_law_deep"]) : Has P w K mg base 3 "_law_test" ["_law_box_here", "_law_book_here", "_law_deep"] spTest := by
  refine F.has sc_law_test (fun vs H Q E h => ?_) (fun f cdv A outer s H vs Q E hr h => ?_)
  · obtain ⟨b, d, u, B, kvs, rfl, _⟩ := h
    rfl
  · have hu := hr.units
    have hu1 := Nat.lt_of_le_of_lt (Nat.add_le_add_left (by decide : 1 ≤ 64) _) hu
    obtain ⟨b, d, u, B, kvs, rfl, hb, bk, ok, k⟩ := h
    refine ⟨_, (pss_cons (ps_set (i := 3) sc_law_test.nd rfl (Or.inl rfl) (pe_callHas g_law_take (hr.mono (by decide)) rfl (pa_cons (pv 0) (pa_cons pe_int pa_nil))))
      (pss_cons (ps_set (i := 4) sc_law_test.nd rfl (Or.inl rfl) (pe_ix ix_list (pe_lst (pa_cons (pe_tup (pa_cons pe_str pa_nil)) (pa_cons (pe_tup (pa_cons pe_str pa_nil)) pa_nil))) (pe_op op_mod (pv 3) pe_int) (fun _ _ => rfl)))
      (C8.pss_cut (ps_if (pt_cmpR op_lt (pv 3) pe_int (nomark _)) (pss_one (ps_set (i := 4) sc_law_test.nd rfl (Or.inl rfl) (pe_tup (pa_cons pe_str (pa_cons (pe_callHas g_law_pick (hr.mono (by decide)) rfl (pa_cons (pv 0) (pa_cons (pe_op op_cat (pe_op op_cat (pe_dget hu1 (pv 1) pe_str (fun _ _ => rfl)) (pe_dget hu1 (pv 1) pe_str (fun _ _ => rfl))) (pe_lst (pa_cons pe_str pa_nil))) pa_nil))) pa_nil))))) (pss_one (ps_if (pt_cmpR op_lt (pv 3) pe_int (nomark _)) (pss_one (ps_set (i := 4) sc_law_test.nd rfl (Or.inl rfl) (pe_tup (pa_cons (pe_ix ix_list (pe_lst (pa_cons pe_str (pa_cons pe_str pa_nil))) (pe_op op_sub (pv 3) pe_int) (fun _ _ => rfl)) (pa_cons (pe_callHas g_law_pick (hr.mono (by decide)) rfl (pa_cons (pv 0) (pa_cons (pe_dget hu1 (pv 1) pe_str (fun _ _ => rfl)) pa_nil))) pa_nil))))) pss_nil)))
      (pss_cons (ps_for PassesOwn.never rfl (pi_range1 rfl T.z_range (pa_cons (pe_ix ix_list (pe_lst (pa_cons pe_int (pa_cons pe_int (pa_cons pe_int (pa_cons pe_int pa_nil))))) (pe_callHas g_law_take (hr.mono (by decide)) rfl (pa_cons (pv 0) (pa_cons pe_int pa_nil))) (fun _ _ => rfl)) pa_nil)) (pg_name (i := 5) sc_law_test.nd rfl (Or.inl rfl)) (pss_one (ps_set (i := 4) sc_law_test.nd rfl (Or.inl rfl) (pe_tup (pa_cons pe_str (pa_cons (pv 4) pa_nil))))))
      (pss_one (ps_ret (pv 4))))))), ?_⟩
    refine seq_asg ⟨_, rfl, b, 6, rfl, hb, by decide, by decide, fun f x y z f0 f1 => name_go ?_⟩
    have u1 : But b H (upd H b (.lst [.int x, .int y, .int z])) := But.upd'
    have b1 : Box (upd H b (.lst [.int x, .int y, .int z])) b := Box.upd'
    generalize upd H b (.lst [.int x, .int y, .int z]) = H1 at *
    try dsimp only
    -- moved, noted
    refine seq_asg (op_go (lstA_go (cons_go (tupc_go (xs := [.str "moved"]) (fun Q q => q) (by decide) fun H2 p1 s2 _ h1 => cons_go (tupc_go (xs := [.str "noted"]) (fun Q q => q) (by decide) fun H3 p2 s3 _ h2 => ⟨(by decide : 2 ≤ sizeLine), fun p hp => ?_⟩)))))
    obtain ⟨s4, h4⟩ := new_at (o := .lst [V.ref p1, V.ref p2]) hp
    have u4 : But b H (upd H3 p (.lst [V.ref p1, V.ref p2])) := u1.trans (Same.but (s2.trans (s3.trans s4)))
    have b4 : Box (upd H3 p (.lst [V.ref p1, V.ref p2])) b := b1.keep (s2.trans (s3.trans s4))
    have t1 := (s3.trans s4) _ _ h1
    have t2 := s4 _ _ h2
    generalize upd H3 p (.lst [V.ref p1, V.ref p2]) = H4 at *
    obtain ⟨v, t, ev, rv, ov, dv⟩ : ∃ v t, atI [V.ref p1, V.ref p2] (f % 2) = some v ∧ TestAt H4 v t ∧ okTest B t ∧ tdep t = 0 := by
      rcases (show f % 2 = 0 ∨ f % 2 = 1 by omega) with e | e
      · exact ⟨_, .moved, by rw [e]; rfl, ⟨p1, rfl, t1⟩, trivial, rfl⟩
      · exact ⟨_, .noted, by rw [e]; rfl, ⟨p2, rfl, t2⟩, trivial, rfl⟩
    refine ⟨_, rfl, _, _, rfl, rfl, (by show (0:Int) < 2; decide), p, _, _, _, rfl, rfl, SqL.of h4, ev, name_go ?_⟩
    try dsimp only
    refine ⟨fun σ H' => But b H H' ∧ Box H' b ∧ ∃ v t x5, σ = [some (.ref b), some (.ref d), some u, some (.int f), some v, x5] ∧ TestAt H' v t ∧ okTest B t ∧ tdep t = 0, ?_, ?_⟩
    · have bk4 := bk.kp (KpE.but (ex := (· = b)) rfl u4)
      have nm := ok.names
      rw [List.length_append, List.length_append] at nm
      have q1000 : (1000 : Nat) < sizeLine := by decide
      obtain ⟨r1, g1, n1, h1⟩ := bk4.rests.get bk4.at'
      obtain ⟨r2, g2, n2, h2⟩ := bk4.passes.get bk4.at'
      obtain ⟨r3, g3, n3, h3⟩ := bk4.told.get bk4.at'
      refine ⟨_, rfl, _, _, rfl, rfl, _, rfl, ite2 (fun _ => ?_) (fun hf => ?_)⟩
      · refine asg_go (tup_go (cons_go (c_go (cons_go ?_))))
        refine ⟨_, rfl, cons_go (op_go (op_go ?_))⟩
        refine ⟨_, rfl, d, _, rfl, g1, _, rfl, d, _, rfl, g2, r1, r2, _, _, rfl, rfl, h1, h2, ?_, fun t1 ht1 => ?_⟩
        · rw [List.length_map, List.length_map]; omega
        obtain ⟨s5, h5⟩ := new_at (o := .lst (B.rests.map V.str ++ B.passes.map V.str)) ht1
        refine lst_go (xs := [.str "none"]) (fun Q q => q) (by decide) fun H6 l6 s6 _ h6 => ?_
        refine ⟨t1, l6, _, _, rfl, rfl, s6 _ _ h5, h6, ?_, fun t2 ht2 => ?_⟩
        · rw [List.length_append, List.length_map, List.length_map]; show _ + 1 ≤ sizeLine; omega
        obtain ⟨s7, h7⟩ := new_at (o := .lst (B.rests.map V.str ++ B.passes.map V.str ++ [V.str "none"])) ht2
        have s47 := s5.trans (s6.trans s7)
        have nt2 : t2 ≠ b := new_ne (b4.keep (s5.trans s6)).ne ht2
        unfold tNil
        dsimp only
        refine ⟨b, t2, _, rfl, b4.keep s47, h7, nt2, by rw [List.length_append]; show 0 < _ + 1; omega, ?_, fun i v x y z e => ⟨(by decide : 2 ≤ sizeLine), fun p hp => name_go ?_⟩⟩
        · rw [List.length_append, List.length_append, List.length_map, List.length_map]; show _ + 1 ≤ 1000; omega
        have e' : v ∈ (B.rests ++ B.passes ++ [("none" : Str)]).map V.str := by
          have := List.mem_of_getElem? e
          simpa using this
        obtain ⟨kd, mk, rfl⟩ := List.mem_map.mp e'
        obtain ⟨s8, h8⟩ := new_at (o := .tup [V.str "was", V.str kd]) hp
        exact ⟨((u4.trans (Same.but s47)).trans But.upd').trans (Same.but s8), Box.upd'.keep s8, _, .was kd, _, rfl, ⟨p, rfl, h8⟩, mk, rfl⟩
      · refine ⟨_, rfl, _, _, rfl, rfl, _, rfl, ite2 (fun hf2 => ?_) (fun _ => ⟨u4, b4, v, t, _, rfl, rv, ov, dv⟩)⟩
        have hf' : ¬ f < 2 := by simpa using hf
        have hf2' : f < 4 := by simpa using hf2
        refine asg_go (tup_go (cons_go (op_go (lst_go (xs := [.str "old", .str "new"]) (fun Q q => q) (by decide) fun H5 p5 s5 hp5 h5 => ?_))))
        obtain ⟨o, eo⟩ : ∃ o : Bool, atI [V.str "old", V.str "new"] (f - 2) = some (.str (belowS o)) := by
          rcases (show f - 2 = 0 ∨ f - 2 = 1 by omega) with e | e
          · exact ⟨true, by rw [e]; rfl⟩
          · exact ⟨false, by rw [e]; rfl⟩
        refine ⟨_, rfl, _, _, rfl, rfl, p5, _, _, _, rfl, rfl, SqL.of h5, eo, ?_⟩
        have bk5 := bk4.kp (KpE.of (ex := (· = b)) s5)
        obtain ⟨r3, g3, n3, h3⟩ := bk5.told.get bk5.at'
        refine cons_go ⟨_, rfl, _, rfl, d, _, rfl, g3, ?_⟩
        unfold tNil
        dsimp only
        have l0 : 0 < B.told.length := List.length_pos_iff.mpr ok.told0
        have l1 := ok.told1
        refine ⟨b, r3, _, rfl, b4.keep s5, h3, n3, by rw [List.length_map]; exact l0, by rw [List.length_map]; omega, fun i v x y z e => ⟨(by decide : 2 ≤ sizeLine), fun p hp => name_go ?_⟩⟩
        obtain ⟨n, mn, rfl⟩ := List.mem_map.mp (List.mem_of_getElem? e)
        obtain ⟨s8, h8⟩ := new_at (o := .tup [V.str (belowS o), V.int n]) hp
        exact ⟨((u4.trans (Same.but s5)).trans But.upd').trans (Same.but s8), Box.upd'.keep s8, _, .cut o n, _, rfl, ⟨p, rfl, h8⟩, mn, rfl⟩
    · rintro σ H5 ⟨u5, b5, v, t, x5, rfl, rv, ov, dv⟩
      refine rng_go (cons_go (op_go (lst_go (xs := [.int 0, .int 0, .int 1, .int 2]) (fun Q q => q) (by decide) fun H6 p s6 hp h6 => ?_)))
      refine ⟨_, rfl, b, 4, rfl, b5.keep s6, by decide, by decide, fun e x y z e0 e1 => ?_⟩
      have u7 : But b H (upd H6 b (.lst [.int x, .int y, .int z])) := (u5.trans (Same.but s6)).trans But.upd'
      have b7 : Box (upd H6 b (.lst [.int x, .int y, .int z])) b := Box.upd'
      have h7 : upd H6 b (.lst [.int x, .int y, .int z]) p = some (.lst [.int 0, .int 0, .int 1, .int 2]) := (upd_ne (new_ne b5.ne hp)).trans h6
      have rv7 := (rv.kp (TupKp.of s6)).kp (TupKp.box (o := .lst [.int x, .int y, .int z]) (b5.keep s6))
      generalize upd H6 b (.lst [.int x, .int y, .int z]) = H7 at *
      obtain ⟨N, eN, N2⟩ : ∃ N : Nat, atI [V.int 0, V.int 0, V.int 1, V.int 2] e = some (.int ((N : Nat) : Int)) ∧ N ≤ 2 := by
        rcases (show e = 0 ∨ e = 1 ∨ e = 2 ∨ e = 3 by omega) with rfl | rfl | rfl | rfl
        · exact ⟨0, rfl, by decide⟩
        · exact ⟨0, rfl, by decide⟩
        · exact ⟨1, rfl, by decide⟩
        · exact ⟨2, rfl, by decide⟩
      refine ⟨p, _, _, _, rfl, rfl, SqL.of h7, eN, _, rfl, by omega, by omega, for_range (lo := 0) (n := N) (fun i σ H' => But b H H' ∧ Box H' b ∧ ∃ v t x5, σ = [some (.ref b), some (.ref d), some u, some (.int f), some v, x5] ∧ TestAt H' v t ∧ okTest B t ∧ tdep t = i) ⟨u7, b7, v, t, _, rfl, rv7, ov, dv⟩ ?_ ?_⟩
      · rintro i σ H8 hi ⟨u8, b8, v, t, x5, rfl, rv, ov, dv⟩
        refine name_go (asg_go (tup_go (cons_go (c_go (cons_go ⟨_, rfl, ⟨(by decide : 2 ≤ sizeLine), fun q hq => name_go ?_⟩⟩)))))
        obtain ⟨s9, h9⟩ := new_at (o := .tup [V.str "not", v]) hq
        exact ⟨u8.trans (Same.but s9), b8.keep s9, _, .not t, _, rfl, ⟨q, v, rfl, h9, rv.kp (TupKp.of s9)⟩, ov, by show tdep t + 1 = i + 1; rw [dv]⟩
      · rintro σ H8 ⟨u8, b8, v, t, x5, rfl, rv, ov, dv⟩
        exact ⟨_, rfl, k _ _ t u8 b8 rv ov (by omega)⟩
end
end K14

set_option pp.maxSteps 600
namespace K14
open PySem L2 PySem.Spec PyProof.Rows
/-- how many rows and statements there may be still -/
def LeftAt (H : Hp) (l : Addr) : Prop := ∃ i j : Int, H l = some (.lst [.int i, .int j])
theorem LeftAt.ne {H : Hp} {l : Addr} (h : LeftAt H l) : H l ≠ none := by obtain ⟨x, y, e⟩ := h; rw [e]; exact fun z => nomatch z
theorem LeftAt.keep' {H H' : Hp} {l : Addr} (h : LeftAt H l) (s : ∀ o, H l = some o → H' l = some o) : LeftAt H' l := by
  obtain ⟨x, y, e⟩ := h
  exact ⟨x, y, s _ e⟩
theorem Box.other {H : Hp} {b D : Addr} {o : HO} (h : Box H b) (n : D ≠ b) : Box (upd H D o) b := by
  obtain ⟨x, y, z, q⟩ := h
  exact ⟨x, y, z, by rw [upd_ne n.symm]; exact q⟩
def ExBL (b l : Addr) : Addr → Prop := fun a => a = b ∨ a = l
theorem tupE {b l : Addr} {H H' : Hp} (hb : Box H b) (hl : LeftAt H l) (k : KpE (ExBL b l) H H') : TupKp H H' := fun a ys e => by
  refine k _ _ (fun z => ?_) e
  rcases z with rfl | rfl
  · obtain ⟨x, y, z, e'⟩ := hb; rw [e'] at e; cases e
  · obtain ⟨x, y, e'⟩ := hl; rw [e'] at e; cases e
def facL : List Int := [1, -1, 1, -1, 2, -3, 0, 999]
theorem pick_map {α : Type} {f : α → V} {L : List α} {b p : Addr} {H : Hp} {Q : VK} (hb : Box H b) (hp : H p = some (.lst (L.map f))) (n : p ≠ b) (l0 : 0 < L.length) (l1 : L.length ≤ 1000) (q : ∀ (H' : Hp) (a : α), But b H H' → Box H' b → a ∈ L → Q (f a) H') : spPick [.ref b, .ref p] H Q E0 :=
  ⟨b, p, _, rfl, hb, hp, n, by rw [List.length_map]; exact l0, by rw [List.length_map]; exact l1, fun i v x y z e => by
    obtain ⟨a, m, rfl⟩ := List.mem_map.mp (List.mem_of_getElem? e)
    exact q _ a But.upd' Box.upd' m⟩
theorem strOk_name {s : Str} (h : nameB s = true) : PyData.strOk s = true := by
  unfold nameB at h
  have h2 : Txt.isascii s = true := by
    have := (Bool.and_eq_true_iff.mp h).2
    exact (Bool.and_eq_true_iff.mp this).1
  unfold Txt.isascii at h2
  show s.cps.all (fun c => decide (c < 0x110000)) = true
  rw [← Array.all_toList, List.all_eq_true] at h2 ⊢
  intro c hc
  have := of_decide_eq_true (h2 c hc)
  exact decide_eq_true (by omega)
def spRows (k : Nat) : Sp := fun vs H Q _ => ∃ (b d l : Addr) (kk : Int) (B : BookD) (kvs : List (Key × V)), vs = [.ref b, .ref d, .ref l, .int kk] ∧ kk = (k : Int) ∧ Box H b ∧ LeftAt H l ∧ l ≠ b ∧ BkAt H (ExBL b l) d B kvs ∧ BkOk B ∧
  ∀ (H' : Hp) (q : Addr) (xs : List V) (rs : List RowD), KpE (ExBL b l) H H' → Box H' b → LeftAt H' l → H' q = some (.tup xs) → RowL H' rs xs → okRowL B rs k → rs.length ≤ 3 → Q (.ref q) H'
def spRow (k : Nat) : Sp := fun vs H Q _ => ∃ (b d l : Addr) (kk : Int) (B : BookD) (kvs : List (Key × V)), vs = [.ref b, .ref d, .ref l, .int kk] ∧ kk = (k : Int) ∧ Box H b ∧ LeftAt H l ∧ l ≠ b ∧ BkAt H (ExBL b l) d B kvs ∧ BkOk B ∧
  ∀ (H' : Hp) (v : V) (r : RowD), KpE (ExBL b l) H H' → Box H' b → LeftAt H' l → RowAt H' r v → okRow B r k → Q v H'
def spRowsK : Nat → Sp
  | 0 => fun _ _ _ _ => False
  | k + 1 => spRows k
section
variable {P : Program} {w : World} {K : PySem.W.Frag} {mg : Str → Option Value} {base : Heap}
abbrev s_law_rows : Stmt := top 36
abbrev n_law_rows : List Str := ["_law_box_here", "_law_book_here", "_law_left", "_law_deep", "_law_found", "_law_turn"]
theorem sc_law_rows : FnScope n_law_rows ["_law_box_here", "_law_book_here", "_law_left", "_law_deep"] (defScope s_law_rows) := ⟨rfl, rfl, rfl, by decide +kernel, rfl, by decide +kernel, by decide +kernel⟩
theorem ok_rowsD {k n : Nat} (hn : 3 ≤ n) (T : Txt mg) (g_law_take : Has P w K mg base 1 "_law_take" ["_law_box_here", "_law_many"] spTake) (g_law_row : Has P w K mg base n "_law_row" ["_law_box_here", "_law_book_here", "_law_left", "_law_deep"] (spRow k))
    (F : DefAt K mg "_law_rows" s_law_rows ["_law_box_here", "_law_book_here", "_law_left", "_law_deep"]) : Has P w K mg base (n + 1) "_law_rows" ["_law_box_here", "_law_book_here", "_law_left", "_law_deep"] (spRows k) := by
  refine F.has sc_law_rows (fun vs H Q E h => ?_) (fun f cdv A outer s H vs Q E hr h => ?_)
  · obtain ⟨b, d, l, kk, B, kvs, rfl, _⟩ := h
    rfl
  · have hu := hr.units
    have hu1 := Nat.lt_of_le_of_lt (Nat.add_le_add_left (by decide : 1 ≤ 64) _) hu
    obtain ⟨b, d, l, kk, B, kvs, rfl, ek, hb, hl, nlb, bk, ok, ret⟩ := h
    refine ⟨_, (pss_cons (ps_set (i := 4) sc_law_rows.nd rfl (Or.inl rfl) (pe_lst pa_nil))
      (pss_cons (ps_for PassesOwn.never rfl (pi_range1 rfl T.z_range (pa_cons (pe_callHas g_law_take (hr.mono (by omega)) rfl (pa_cons (pv 0) (pa_cons pe_int pa_nil))) pa_nil)) (pg_name (i := 5) sc_law_rows.nd rfl (Or.inl rfl)) (pss_one (ps_if (pt_cmpR op_gt (pe_ix ix_list (pv 2) pe_int (fun _ _ => rfl)) pe_int (nomark _)) (pss_cons (ps_asg (pe_op op_sub (pe_ix ix_list (pv 2) pe_int (fun _ _ => rfl)) pe_int) (pg_sub (pv 2) pe_int set_list))
      (pss_one (ps_expr (pe_bm PySem.F.plainAttrs_list PySem.F.slot_list_append PySem.F.type_list_append mt_append (pv 4) (pa_cons (pe_callHas g_law_row (hr.mono (by omega)) rfl (pa_cons (pv 0) (pa_cons (pv 1) (pa_cons (pv 2) (pa_cons (pv 3) pa_nil))))) pa_nil))))) pss_nil)))
      (pss_one (ps_ret (pe_callTy call_tuple_of (by rfl) T.z_tuple (by decide +kernel) (pa_cons (pv 4) pa_nil)))))), ?_⟩
    refine seq_asg (lst_go (xs := []) (fun Q q => q) (by decide) fun H1 q s1 hq h1 => name_go ?_)
    try dsimp only
    have nqb : q ≠ b := new_ne hb.ne hq
    have nql : q ≠ l := new_ne hl.ne hq
    have nq : ¬ ExBL b l q := fun z => z.elim nqb nql
    refine rng_go (cons_go ⟨_, rfl, b, 4, rfl, hb.keep s1, by decide, by decide, fun N x y z N0 N1 => ?_⟩)
    have k2 : KpE (ExBL b l) H (upd H1 b (.lst [.int x, .int y, .int z])) := (KpE.of s1).trans (KpE.but (.inl rfl) But.upd')
    have b2 : Box (upd H1 b (.lst [.int x, .int y, .int z])) b := Box.upd'
    have l2 : LeftAt (upd H1 b (.lst [.int x, .int y, .int z])) l := hl.keep' fun o e => (upd_ne nlb).trans (s1 _ _ e)
    have q2 : upd H1 b (.lst [.int x, .int y, .int z]) q = some (.lst []) := (upd_ne nqb).trans h1
    generalize upd H1 b (.lst [.int x, .int y, .int z]) = H2 at *
    refine ⟨N, rfl, by omega, by omega, for_range (lo := 0) (n := N.toNat) (fun i σ H' => KpE (ExBL b l) H H' ∧ Box H' b ∧ LeftAt H' l ∧ ∃ (xs : List V) (rs : List RowD) (x5 : Option V), σ = [some (.ref b), some (.ref d), some (.ref l), some (.int kk), some (.ref q), x5] ∧ H' q = some (.lst xs) ∧ RowL H' rs xs ∧ okRowL B rs k ∧ rs.length ≤ i) ⟨k2, b2, l2, [], [], _, rfl, q2, by unfold RowL; rfl, by unfold okRowL; trivial, Nat.le_refl _⟩ ?_ ?_⟩
    · rintro i σ H3 hi ⟨k3, b3, ⟨li, lj, hl3⟩, xs, rs, x5, rfl, hq3, rl, orl, lrs⟩
      refine name_go ⟨_, rfl, l, _, _, _, rfl, rfl, SqL.of hl3, rfl, _, _, rfl, rfl, _, rfl, ite2 (fun _ => ?_) (fun _ => ?_)⟩
      · refine ⟨_, rfl, l, _, _, _, rfl, rfl, SqL.of hl3, rfl, _, _, rfl, rfl, _, rfl, l, _, _, _, rfl, rfl, hl3, rfl, ?_⟩
        have k4 : KpE (ExBL b l) H (upd H3 l (.lst [.int (li - 1), .int lj])) := k3.trans fun a o n h => (upd_ne fun z => n (.inr z)).trans h
        have b4 : Box (upd H3 l (.lst [.int (li - 1), .int lj])) b := b3.other nlb
        have l4 : LeftAt (upd H3 l (.lst [.int (li - 1), .int lj])) l := ⟨_, _, upd_same⟩
        have q4 : upd H3 l (.lst [.int (li - 1), .int lj]) q = some (.lst xs) := (upd_ne nql).trans hq3
        have r4 : RowL (upd H3 l (.lst [.int (li - 1), .int lj])) rs xs := rl.kp (TupKp.upd' hl3 fun xs z => nomatch z)
        try dsimp only
        rw [show ([V.int li, V.int lj].set (Int.toNat 0) (V.int (li - 1))) = [V.int (li - 1), V.int lj] from rfl]
        generalize upd H3 l (.lst [.int (li - 1), .int lj]) = H4 at *
        refine ⟨_, rfl, .inl ⟨rfl, _, SqL.of q4⟩, ?_⟩
        refine ⟨_, rfl, _, rfl, _, rfl, _, rfl, b, d, l, kk, B, kvs, rfl, ek, b4, l4, nlb, bk.kp k4, ok, fun H5 v r k5 b5 l5 rv ov => ?_⟩
        have q5 := k5 _ _ nq q4
        have t45 : TupKp H4 H5 := fun a ys e => by
          refine k5 _ _ (fun z => ?_) e
          rcases z with rfl | rfl
          · obtain ⟨x, y, z, e'⟩ := b4; rw [e'] at e; cases e
          · obtain ⟨x, y, e'⟩ := l4; rw [e'] at e; cases e
        have q1000 : (1000 : Nat) < sizeLine := by decide
        refine ⟨q, xs, v, rfl, rfl, q5, by have := rl.len; omega, ?_⟩
        refine ⟨fun a o n h => (upd_ne (ne_of_none h hq)).trans ((k4.trans k5) a o n h), b5.other nqb, l5.keep' fun o e => (upd_ne nql.symm).trans e, xs ++ [v], rs ++ [r], _, rfl, upd_same, ?_, orl.app ov, by rw [List.length_append]; show _ + 1 ≤ _; omega⟩
        exact RowL.app ((r4.kp t45).kp (TupKp.upd' q5 fun xs z => nomatch z)) (rv.kp (TupKp.upd' q5 fun xs z => nomatch z))
      · exact next_go ⟨k3, b3, ⟨li, lj, hl3⟩, xs, rs, _, rfl, hq3, rl, orl, by omega⟩
    · rintro σ H3 ⟨k3, b3, l3, xs, rs, x5, rfl, hq3, rl, orl, lrs⟩
      refine ⟨_, rfl, q, xs, rfl, .inl ⟨SqL.of hq3, fun t ht => ?_⟩⟩
      obtain ⟨s4, h4⟩ := new_at (o := .tup xs) ht
      exact ret _ t xs rs (k3.trans (KpE.of s4)) (b3.keep s4) (l3.keep' fun o e => s4 _ _ e) h4 (rl.kp (TupKp.of s4)) orl (by omega)
abbrev s_law_row : Stmt := top 35
abbrev n_law_row : List Str := ["_law_box_here", "_law_book_here", "_law_left", "_law_deep", "_law_form", "_law_whats", "_law_test_here", "_law_ahead", "_law_others", "_law_factor", "_law_what"]
theorem sc_law_row : FnScope n_law_row ["_law_box_here", "_law_book_here", "_law_left", "_law_deep"] (defScope s_law_row) := ⟨rfl, rfl, rfl, by decide +kernel, rfl, by decide +kernel, by decide +kernel⟩
theorem ok_rowD {k n : Nat} (hn : 3 ≤ n) (T : Txt mg) (g_law_take : Has P w K mg base 1 "_law_take" ["_law_box_here", "_law_many"] spTake) (g_law_pick : Has P w K mg base 2 "_law_pick" ["_law_box_here", "_law_items"] spPick) (g_law_test : Has P w K mg base 3 "_law_test" ["_law_box_here", "_law_book_here", "_law_deep"] spTest)
    (g_law_rows : Has P w K mg base n "_law_rows" ["_law_box_here", "_law_book_here", "_law_left", "_law_deep"] (spRowsK k)) (F : DefAt K mg "_law_row" s_law_row ["_law_box_here", "_law_book_here", "_law_left", "_law_deep"]) : Has P w K mg base (n + 1) "_law_row" ["_law_box_here", "_law_book_here", "_law_left", "_law_deep"] (spRow k) := by
  refine F.has sc_law_row (fun vs H Q E h => ?_) (fun f cdv A outer s H vs Q E hr h => ?_)
  · obtain ⟨b, d, l, kk, B, kvs, rfl, _⟩ := h
    rfl
  · have hu := hr.units
    have hu1 := Nat.lt_of_le_of_lt (Nat.add_le_add_left (by decide : 1 ≤ 64) _) hu
    obtain ⟨b, d, l, kk, B, kvs, rfl, ek, hb, hl, nlb, bk, ok, ret⟩ := h
    refine ⟨_, (pss_cons (ps_par (i := 4) (j := 5) (by rfl) sc_law_row.nd rfl rfl (by decide) rfl rfl (pa_cons (pe_callHas g_law_take (hr.mono (by omega)) rfl (pa_cons (pv 0) (pa_cons pe_int pa_nil))) (pa_cons (pe_op op_cat (pe_lst (pa_cons pe_str (pa_cons pe_str (pa_cons pe_str (pa_cons pe_str (pa_cons pe_str pa_nil)))))) (pe_dget hu1 (pv 1) pe_str (fun _ _ => rfl))) pa_nil)) (by rfl))
      (pss_cons (ps_if (PW.pt (pw_and (pt_cmpR op_lt (pv 4) pe_int (nomark _)) (pw_and1 (pt_cmpR op_gt (pv 3) pe_int (nomark _))))) (pss_cons (ps_par (i := 6) (j := 7) (by rfl) sc_law_row.nd rfl rfl (by decide) rfl rfl (pa_cons (pe_callHas g_law_test (hr.mono (by omega)) rfl (pa_cons (pv 0) (pa_cons (pv 1) (pa_cons (pv 3) pa_nil)))) (pa_cons (pe_callHas g_law_rows (hr.mono (by omega)) rfl (pa_cons (pv 0) (pa_cons (pv 1) (pa_cons (pv 2) (pa_cons (pe_op op_sub (pv 3) pe_int) pa_nil))))) pa_nil)) (by rfl))
      (pss_cons (ps_set (i := 8) sc_law_row.nd rfl (Or.inl rfl) (pe_ifExp (pt_cmpR op_eq (pv 4) pe_int (nomark _)) (pe_callHas g_law_rows (hr.mono (by omega)) rfl (pa_cons (pv 0) (pa_cons (pv 1) (pa_cons (pv 2) (pa_cons (pe_op op_sub (pv 3) pe_int) pa_nil))))) (pe_tup pa_nil)))
      (pss_one (ps_ret (pe_tup (pa_cons pe_str (pa_cons (pv 6) (pa_cons (pv 7) (pa_cons (pv 8) pa_nil))))))))) pss_nil)
      (pss_cons (ps_if (PW.pt (pw_and (pt_cmpR op_lt (pv 4) pe_int (nomark _)) (pw_and1 (pt_cmpR op_gt (pe_ix ix_list (pv 2) pe_int (fun _ _ => rfl)) pe_int (nomark _))))) (pss_cons (ps_asg (pe_op op_sub (pe_ix ix_list (pv 2) pe_int (fun _ _ => rfl)) pe_int) (pg_sub (pv 2) pe_int set_list))
      (pss_cons (ps_par (i := 9) (j := 10) (by rfl) sc_law_row.nd rfl rfl (by decide) rfl rfl (pa_cons (pe_callHas g_law_pick (hr.mono (by omega)) rfl (pa_cons (pv 0) (pa_cons (pe_lst (pa_cons pe_int (pa_cons (pe_un un_neg pe_int) (pa_cons pe_int (pa_cons (pe_un un_neg pe_int) (pa_cons pe_int (pa_cons (pe_un un_neg pe_int) (pa_cons pe_int (pa_cons pe_int pa_nil))))))))) pa_nil))) (pa_cons (pe_callHas g_law_pick (hr.mono (by omega)) rfl (pa_cons (pv 0) (pa_cons (pv 5) pa_nil))) pa_nil)) (by rfl))
      (pss_one (ps_ret (pe_tup (pa_cons pe_str (pa_cons (pv 9) (pa_cons (pv 10) (pa_cons (pe_callHas g_law_pick (hr.mono (by omega)) rfl (pa_cons (pv 0) (pa_cons (pe_dget hu1 (pv 1) pe_str (fun _ _ => rfl)) pa_nil))) (pa_cons (pe_callHas g_law_pick (hr.mono (by omega)) rfl (pa_cons (pv 0) (pa_cons (pe_lst (pa_cons pe_str (pa_cons pe_str (pa_cons pe_str pa_nil)))) pa_nil))) pa_nil)))))))))) pss_nil)
      (pss_cons (ps_if (PW.pt (pw_and (pt_cmpR op_lt (pv 4) pe_int (nomark _)) (pw_and1 (pt_cmpR (op_neD hu) (pe_dget hu1 (pv 1) pe_str (fun _ _ => rfl)) (pe_lst pa_nil) (nomark _))))) (pss_one (ps_ret (pe_tup (pa_cons pe_str (pa_cons (pe_callHas g_law_pick (hr.mono (by omega)) rfl (pa_cons (pv 0) (pa_cons (pe_dget hu1 (pv 1) pe_str (fun _ _ => rfl)) pa_nil))) (pa_cons (pe_callHas g_law_pick (hr.mono (by omega)) rfl (pa_cons (pv 0) (pa_cons (pv 5) pa_nil))) pa_nil)))))) pss_nil)
      (pss_one (ps_ret (pe_tup (pa_cons pe_str (pa_cons (pe_callHas g_law_pick (hr.mono (by omega)) rfl (pa_cons (pv 0) (pa_cons (pe_lst (pa_cons pe_str (pa_cons pe_str (pa_cons pe_str pa_nil)))) pa_nil))) pa_nil))))))))), ?_⟩
    have nm := ok.names
    rw [List.length_append, List.length_append, List.length_append] at nm
    have q1000 : (1000 : Nat) < sizeLine := by decide
    refine seq_par (cons_go ⟨_, rfl, b, 10, rfl, hb, by decide, by decide, fun f x y z f0 f1 => ?_⟩)
    have k1 : KpE (ExBL b l) H (upd H b (.lst [.int x, .int y, .int z])) := KpE.but (.inl rfl) But.upd'
    have b1 : Box (upd H b (.lst [.int x, .int y, .int z])) b := Box.upd'
    have l1 : LeftAt (upd H b (.lst [.int x, .int y, .int z])) l := hl.keep' fun o e => (upd_ne nlb).trans e
    generalize upd H b (.lst [.int x, .int y, .int z]) = H1 at *
    refine cons_go (op_go (lst_go (xs := whatL.map V.str) (fun Q q => q) (by decide) fun H2 p s2 hp h2 => ?_))
    have bk2 := bk.kp (k1.trans (KpE.of s2))
    obtain ⟨r, gr, nr, hr2⟩ := bk2.notes.get bk2.at'
    refine ⟨_, rfl, d, _, rfl, gr, p, r, _, _, rfl, rfl, h2, hr2, by rw [List.length_map, List.length_map]; show 5 + _ ≤ sizeLine; omega, fun t ht => ⟨_, _, rfl, ?_⟩⟩
    obtain ⟨s3, h3⟩ := new_at (o := .lst (whatL.map V.str ++ B.notes.map V.str)) ht
    have k3 : KpE (ExBL b l) H (upd H2 t (.lst (whatL.map V.str ++ B.notes.map V.str))) := k1.trans (KpE.of (s2.trans s3))
    have b3 := b1.keep (s2.trans s3)
    have l3 := l1.keep' fun o e => (s2.trans s3) _ _ e
    have ntb : t ≠ b := new_ne (b1.keep s2).ne ht
    have ntl : t ≠ l := new_ne (l1.keep' fun o e => s2 _ _ e).ne ht
    have nt : ¬ ExBL b l t := fun z => z.elim ntb ntl
    generalize upd H2 t (.lst (whatL.map V.str ++ B.notes.map V.str)) = H3 at *
    rw [← List.map_append] at h3
    have lws : (whatL ++ B.notes).length = 5 + B.notes.length := by rw [List.length_append]; rfl
    try dsimp only
    have bk3 := bk.kp k3
    have bkb := bk3.mono (ex' := (· = b)) fun a e => .inl e
    refine seq_go (ifS_go (c := decide (f < 2) && decide (0 < kk)) (fun Q q => and_go (fun Q q => ⟨_, rfl, _, _, rfl, rfl, _, rfl, q⟩) (fun Q q => ⟨_, rfl, _, _, rfl, rfl, _, rfl, q⟩) q) (fun hc => ?_) (fun _ => next_go ?_))
    · obtain ⟨hf, hk⟩ := Bool.and_eq_true_iff.mp hc
      have hk' : 0 < kk := of_decide_eq_true hk
      obtain ⟨k', rfl⟩ : ∃ k', k = k' + 1 := ⟨k - 1, by omega⟩
      refine seq_par (cons_go ⟨_, rfl, _, rfl, _, rfl, b, d, _, B, kvs, rfl, b3, bkb, ok, fun H4 tv td u4 b4 rt ot dt => ?_⟩)
      have k4 : KpE (ExBL b l) H H4 := k3.trans (KpE.but (.inl rfl) u4)
      have l4 := l3.keep' fun o e => u4 _ _ nlb e
      refine cons_go ⟨_, rfl, _, rfl, _, rfl, _, rfl, _, _, rfl, rfl, b, d, l, kk - 1, B, kvs, rfl, by omega, b4, l4, nlb, bk.kp k4, ok, fun H5 q xs rs k5 b5 l5 hq rl orl lr => ⟨_, _, rfl, ?_⟩⟩
      have rt5 := rt.kp (tupE b4 l4 k5)
      have fin : ∀ (H6 : Hp) (y : Addr) (ys : List V) (rs2 : List RowD), KpE (ExBL b l) H5 H6 → Box H6 b → LeftAt H6 l → TupKp H5 H6 → H6 y = some (.tup ys) → RowL H6 rs2 ys → okRowL B rs2 k' → rs2.length ≤ 3 → ∀ p, H6 p = none → Q (.ref p) (upd H6 p (.tup [V.str "if", tv, .ref q, .ref y])) := fun H6 y ys rs2 k6 b6 l6 t6 hy rl2 or2 lr2 p hp => by
        obtain ⟨s7, h7⟩ := new_at (o := .tup [V.str "if", tv, V.ref q, V.ref y]) hp
        refine ret _ _ (.ife td rs rs2) (((k4.trans k5).trans k6).trans (KpE.of s7)) (b6.keep s7) (l6.keep' fun o e => s7 _ _ e) ?_ ?_
        · unfold RowAt
          exact ⟨p, tv, q, y, xs, ys, rfl, h7, (rt5.kp t6).kp (TupKp.of s7), s7 _ _ (t6 _ _ hq), (rl.kp t6).kp (TupKp.of s7), s7 _ _ hy, rl2.kp (TupKp.of s7)⟩
        · unfold okRow
          exact ⟨k', rfl, ot, dt, lr, lr2, orl, or2⟩
      try dsimp only
      refine seq_asg ⟨_, rfl, rfl, _, rfl, ite2 (fun _ => ?_) (fun _ => ?_)⟩
      · refine ⟨_, rfl, _, rfl, _, rfl, _, rfl, _, _, rfl, rfl, b, d, l, kk - 1, B, kvs, rfl, by omega, b5, l5, nlb, bk.kp (k4.trans k5), ok, fun H6 y ys rs2 k6 b6 l6 hy rl2 or2 lr2 => name_go ?_⟩
        exact ret_go (tup_go (cons_go (c_go (cons_go ⟨_, rfl, cons_go ⟨_, rfl, cons_go ⟨_, rfl, ⟨(by decide : 4 ≤ sizeLine), fin H6 y ys rs2 k6 b6 l6 (tupE b5 l5 k6) hy rl2 or2 lr2⟩⟩⟩⟩))))
      · refine tupc_go (xs := []) (fun Q q => q) (by decide) fun H6 y s6 hy0 hy => name_go ?_
        exact ret_go (tup_go (cons_go (c_go (cons_go ⟨_, rfl, cons_go ⟨_, rfl, cons_go ⟨_, rfl, ⟨(by decide : 4 ≤ sizeLine), fin H6 y [] [] (KpE.of s6) (b5.keep s6) (l5.keep' fun o e => s6 _ _ e) (TupKp.of s6) hy (by unfold RowL; rfl) (by unfold okRowL; trivial) (by decide)⟩⟩⟩⟩))))
    try dsimp only
    obtain ⟨li, lj, hl3⟩ := l3
    refine seq_go (ifS_go (c := decide (f < 7) && decide (0 < lj)) (fun Q q => and_go (fun Q q => ⟨_, rfl, _, _, rfl, rfl, _, rfl, q⟩) (fun Q q => ⟨_, rfl, l, _, _, _, rfl, rfl, SqL.of hl3, rfl, _, _, rfl, rfl, _, rfl, q⟩) q) (fun hc => ?_) (fun _ => next_go ?_))
    · refine ⟨_, rfl, l, _, _, _, rfl, rfl, SqL.of hl3, rfl, _, _, rfl, rfl, _, rfl, l, _, _, _, rfl, rfl, hl3, rfl, ?_⟩
      try dsimp only
      rw [show ([V.int li, V.int lj].set (Int.toNat 1) (V.int (lj - 1))) = [V.int li, V.int (lj - 1)] from rfl]
      have k4 : KpE (ExBL b l) H (upd H3 l (.lst [.int li, .int (lj - 1)])) := k3.trans fun a o n h => (upd_ne fun z => n (.inr z)).trans h
      have b4 : Box (upd H3 l (.lst [.int li, .int (lj - 1)])) b := b3.other nlb
      have l4 : LeftAt (upd H3 l (.lst [.int li, .int (lj - 1)])) l := ⟨_, _, upd_same⟩
      have t4 : upd H3 l (.lst [.int li, .int (lj - 1)]) t = some (.lst ((whatL ++ B.notes).map V.str)) := (upd_ne ntl).trans h3
      generalize upd H3 l (.lst [.int li, .int (lj - 1)]) = H4 at *
      refine seq_par (cons_go ?_)
      refine ⟨_, rfl, cons_go (lst_go (xs := facL.map V.int) (fun Q q => ⟨1, rfl, 1, rfl, 3, rfl, q⟩) (by decide) fun H5 p5 s5 hp5 h5 => ?_)⟩
      unfold tNil
      dsimp only
      refine pick_map (b4.keep s5) h5 (new_ne b4.ne hp5) (by decide) (by decide) fun H6 fct u6 b6 mf => ?_
      have f6 : -999 ≤ fct ∧ fct ≤ 999 := by
        have all : facL.all (fun n => decide (-999 ≤ n) && decide (n ≤ 999)) = true := by decide
        have := List.all_eq_true.mp all fct mf
        simpa using this
      have k6 : KpE (ExBL b l) H4 H6 := (KpE.of s5).trans (KpE.but (.inl rfl) u6)
      refine cons_go ⟨_, rfl, _, rfl, ?_⟩
      refine pick_map b6 (k6 _ _ nt t4) ntb (by rw [lws]; omega) (by rw [lws]; omega) fun H7 wd u7 b7 mw => ⟨_, _, rfl, ?_⟩
      have k7 : KpE (ExBL b l) H H7 := (k4.trans k6).trans (KpE.but (.inl rfl) u7)
      have l7 := l4.keep' fun o e => u7 _ _ nlb (u6 _ _ nlb (s5 _ _ e))
      have bk7 := bk.kp k7
      obtain ⟨r7, g7, n7, h7⟩ := bk7.totals.get bk7.at'
      have t0 : 0 < B.totals.length := List.length_pos_iff.mpr ok.totals0
      try dsimp only
      refine ret_go (tup_go (cons_go (c_go (cons_go ⟨_, rfl, cons_go ⟨_, rfl, cons_go ?_⟩⟩))))
      refine ⟨_, rfl, _, rfl, d, _, rfl, g7, ?_⟩
      refine pick_map b7 h7 (fun z => n7 (.inl z)) t0 (by omega) fun H8 tt u8 b8 mt => ?_
      refine cons_go ⟨_, rfl, cons_go (lst_go (xs := plcL.map V.str) (fun Q q => q) (by decide) fun H9 p9 s9 hp9 h9 => ?_)⟩
      try dsimp only
      refine pick_map (b8.keep s9) h9 (new_ne b8.ne hp9) (by decide) (by decide) fun HA pl uA bA mp => ⟨(by decide : 5 ≤ sizeLine), fun q hq => ?_⟩
      obtain ⟨sB, hB⟩ := new_at (o := .tup [V.str "add", V.int fct, V.str wd, V.str tt, V.str pl]) hq
      refine ret _ _ (.add fct wd tt pl) (((k7.trans (KpE.but (.inl rfl) u8)).trans (KpE.of s9)).trans ((KpE.but (.inl rfl) uA).trans (KpE.of sB))) (bA.keep sB) (l7.keep' fun o e => sB _ _ (uA _ _ nlb (s9 _ _ (u8 _ _ nlb e)))) ?_ ?_
      · unfold RowAt; exact ⟨q, rfl, hB⟩
      · unfold okRow; exact ⟨f6.1, f6.2, okWhat_of mw, mt, mp⟩
    try dsimp only
    have l3 : LeftAt H3 l := ⟨_, _, hl3⟩
    have mark : ∀ (H4 H6 : Hp) (pl : Str) (q : Addr), Same H3 H4 → But b H4 H6 → Box H6 b → pl ∈ mrkL → H6 q = none → Q (.ref q) (upd H6 q (.tup [V.str "mark", V.str pl])) := fun H4 H6 pl q s4 u6 b6 mp hq => by
      obtain ⟨s7, h7⟩ := new_at (o := .tup [V.str "mark", V.str pl]) hq
      refine ret _ _ (.mark pl) (((k3.trans (KpE.of s4)).trans (KpE.but (.inl rfl) u6)).trans (KpE.of s7)) (b6.keep s7) (l3.keep' fun o e => s7 _ _ (u6 _ _ nlb (s4 _ _ e))) ?_ ?_
      · unfold RowAt; exact ⟨q, rfl, h7⟩
      · unfold okRow; exact mp
    obtain ⟨r3, g3, n3, hr3⟩ := bk3.notes.get bk3.at'
    refine seq_go ⟨_, rfl, _, _, rfl, rfl, _, rfl, ite2 (fun _ => ?_) (fun _ => iteSf rfl (next_go ?_))⟩
    · refine ⟨_, rfl, d, _, rfl, g3, lst_go (xs := []) (fun Q q => q) (by decide) fun H4 e s4 he h4 => ?_⟩
      have sh := strs_shaped fun x hx => strOk_name (ok.toks x (List.mem_append_right _ hx))
      refine ⟨.list (B.notes.map PyData.str), .list [], .lst (SqL.of (s4 _ _ hr3)) (strs_dp _), .lst (SqL.of h4) .nil, sh, by decide +kernel, _, rfl, ?_⟩
      rw [strs_eqv]
      have b4 := b3.keep s4
      by_cases hn : B.notes = []
      · refine iteSf (by rw [decide_eq_true hn]; rfl) (next_go ?_)
        try dsimp only
        refine ret_go (tup_go (cons_go (c_go (cons_go ?_))))
        refine ⟨_, rfl, cons_go (lst_go (xs := mrkL.map V.str) (fun Q q => q) (by decide) fun H5 p5 s5 hp5 h5 => ?_)⟩
        unfold tNil
        dsimp only
        exact pick_map (b4.keep s5) h5 (new_ne b4.ne hp5) (by decide) (by decide) fun H6 pl u6 b6 mp => ⟨(by decide : 2 ≤ sizeLine), fun q hq => mark H5 H6 pl q (s4.trans s5) u6 b6 mp hq⟩
      · refine iteSe (by rw [decide_eq_false hn]; rfl) ?_
        have n0 : 0 < B.notes.length := List.length_pos_iff.mpr hn
        refine ret_go (tup_go (cons_go (c_go (cons_go ?_))))
        have bk4 := bk3.kp (KpE.of s4)
        obtain ⟨r4, g4, n4, hr4⟩ := bk4.notes.get bk4.at'
        refine ⟨_, rfl, _, rfl, d, _, rfl, g4, ?_⟩
        unfold tNil
        dsimp only
        refine pick_map b4 hr4 (fun z => n4 (.inl z)) n0 (by omega) fun H5 nt5 u5 b5 mn => ?_
        refine cons_go ⟨_, rfl, _, rfl, ?_⟩
        refine pick_map b5 (u5 _ _ ntb (s4 _ _ h3)) ntb (by rw [lws]; omega) (by rw [lws]; omega) fun H6 wd u6 b6 mw => ⟨(by decide : 3 ≤ sizeLine), fun q hq => ?_⟩
        obtain ⟨s7, h7⟩ := new_at (o := .tup [V.str "put", V.str nt5, V.str wd]) hq
        refine ret _ _ (.put nt5 wd) (((k3.trans (KpE.of s4)).trans (KpE.but (.inl rfl) (u5.trans u6))).trans (KpE.of s7)) (b6.keep s7) (l3.keep' fun o e => s7 _ _ (u6 _ _ nlb (u5 _ _ nlb (s4 _ _ e)))) ?_ ?_
        · unfold RowAt; exact ⟨q, rfl, h7⟩
        · unfold okRow; exact ⟨mn, okWhat_of mw⟩
    · try dsimp only
      refine ret_go (tup_go (cons_go (c_go (cons_go ?_))))
      refine ⟨_, rfl, cons_go (lst_go (xs := mrkL.map V.str) (fun Q q => q) (by decide) fun H5 p5 s5 hp5 h5 => ?_)⟩
      unfold tNil
      dsimp only
      exact pick_map (b3.keep s5) h5 (new_ne b3.ne hp5) (by decide) (by decide) fun H6 pl u6 b6 mp => ⟨(by decide : 2 ≤ sizeLine), fun q hq => mark H5 H6 pl q s5 u6 b6 mp hq⟩
/-- rows and row, for any depth -/
theorem ok_rowsAll (T : Txt mg) (g_law_take : Has P w K mg base 1 "_law_take" ["_law_box_here", "_law_many"] spTake) (g_law_pick : Has P w K mg base 2 "_law_pick" ["_law_box_here", "_law_items"] spPick) (g_law_test : Has P w K mg base 3 "_law_test" ["_law_box_here", "_law_book_here", "_law_deep"] spTest)
    (FR : DefAt K mg "_law_row" s_law_row ["_law_box_here", "_law_book_here", "_law_left", "_law_deep"]) (FS : DefAt K mg "_law_rows" s_law_rows ["_law_box_here", "_law_book_here", "_law_left", "_law_deep"]) : ∀ k : Nat, Has P w K mg base (5 + 2 * k) "_law_rows" ["_law_box_here", "_law_book_here", "_law_left", "_law_deep"] (spRows k)
  | 0 => by
    have g0 : Has P w K mg base 3 "_law_rows" ["_law_box_here", "_law_book_here", "_law_left", "_law_deep"] (spRowsK 0) := FS.has sc_law_rows (fun vs H Q E h => h.elim) (fun f cdv A outer s H vs Q E hr h => h.elim)
    exact ok_rowsD (by omega) T g_law_take (ok_rowD (n := 3) (by omega) T g_law_take g_law_pick g_law_test g0 FR) FS
  | k + 1 => by
    have g := ok_rowsAll T g_law_take g_law_pick g_law_test FR FS k
    exact ok_rowsD (n := 5 + 2 * k + 1) (by omega) T g_law_take (ok_rowD (k := k + 1) (n := 5 + 2 * k) (by omega) T g_law_take g_law_pick g_law_test g FR) FS
end
end K14

set_option pp.maxSteps 600
namespace K14
open PySem L2 PySem.Spec PyProof.Rows
theorem new_but {b o : Addr} {H H' : Hp} (u : But b H H') (hb : Box H' b) (h : H' o = none) : H o = none := by
  cases e : H o with
  | none => rfl
  | some x =>
    by_cases n : o = b
    · obtain ⟨x, y, z, q⟩ := hb
      rw [n, q] at h
      cases h
    · rw [u _ _ n e] at h
      cases h
theorem ev_first {b t : Addr} {nm : Str} {B : BookD} {H H2 : Hp} {D : Ends} {σ : L2.St} (e0 : σ[0]? = some (some (.ref b))) (e2 : σ[2]? = some (some (.str nm))) (e4 : σ[4]? = some (some (.ref t))) (u2 : But b H H2) (b2 : Box H2 b) (nt : t ≠ b) (ht : H2 t = some (.lst ((B.rests ++ B.passes).map V.str))) (l0 : 0 < (B.rests ++ B.passes).length) (l1 : (B.rests ++ B.passes).length ≤ 1000) (onm : nameB nm = true)
    (k : ∀ (H' : Hp) (p o : Addr) (e : EventD), But b H H' → Box H' b → H o = none → H' p = some (.tup [.str e.name, .ref o, .str e.kind, .bl e.amount, .bl e.group]) → H' o = some (.lst (e.origins.map V.str)) → e.name = nm → okEvent B e → D.rt (.ref p) H') :
    tRet (tTup (tCons (tVar 2) (tCons (tLst (tCons (tC (.str "none")) tNil)) (tCons (tCall spPick [] E0 (tCons (tVar 0) (tCons (tVar 4) tNil))) (tCons (tC (.bl true)) (tCons (tC (.bl true)) tNil)))))) D σ H2 := by
  refine ret_go (tup_go (cons_go ⟨_, e2, cons_go (lst_go (xs := [.str "none"]) (fun Q q => q) (by decide) fun H3 o s3 ho h3 => ?_)⟩))
  refine cons_go ⟨_, e0, _, e4, ?_⟩
  unfold tNil
  dsimp only
  refine pick_map (b2.keep s3) (s3 _ _ ht) nt l0 l1 fun H4 kd u4 b4 mk => ⟨(by decide : 5 ≤ sizeLine), fun p hp => ?_⟩
  obtain ⟨s5, h5⟩ := new_at (o := .tup [V.str nm, V.ref o, V.str kd, V.bl true, V.bl true]) hp
  exact k _ p o ⟨nm, [("none" : Str)], kd, true, true⟩ (((u2.trans (Same.but s3)).trans u4).trans (Same.but s5)) (b4.keep s5) (new_but u2 b2 ho) h5 (s5 _ _ (u4 _ _ (new_ne b2.ne ho) h3)) rfl ⟨onm, .inl ⟨rfl, mk, rfl, rfl⟩⟩
section
variable {P : Program} {w : World} {K : PySem.W.Frag} {mg : Str → Option Value} {base : Heap}
abbrev s_law_event : Stmt := top 37
abbrev n_law_event : List Str := ["_law_box_here", "_law_book_here", "_law_name", "_law_is_first", "_law_kinds", "_law_origins"]
theorem sc_law_event : FnScope n_law_event ["_law_box_here", "_law_book_here", "_law_name", "_law_is_first"] (defScope s_law_event) := ⟨rfl, rfl, rfl, by decide +kernel, rfl, by decide +kernel, by decide +kernel⟩
def spEvD : Sp := fun vs H Q _ => ∃ (b d : Addr) (nm : Str) (isf : Bool) (B : BookD) (kvs : List (Key × V)), vs = [.ref b, .ref d, .str nm, .bl isf] ∧ Box H b ∧ BkAt H (· = b) d B kvs ∧ BkOk B ∧ nameB nm = true ∧
  ∀ (H' : Hp) (p o : Addr) (e : EventD), But b H H' → Box H' b → H o = none → H' p = some (.tup [.str e.name, .ref o, .str e.kind, .bl e.amount, .bl e.group]) → H' o = some (.lst (e.origins.map V.str)) → e.name = nm → okEvent B e → Q (.ref p) H'
theorem ok_evD (T : Txt mg) (g_law_take : Has P w K mg base 1 "_law_take" ["_law_box_here", "_law_many"] spTake) (g_law_pick : Has P w K mg base 2 "_law_pick" ["_law_box_here", "_law_items"] spPick) (g_law_mixed : Has P w K mg base 2 "_law_mixed" ["_law_box_here", "_law_items"] spMixed)
    (F : DefAt K mg "_law_event" s_law_event ["_law_box_here", "_law_book_here", "_law_name", "_law_is_first"]) : Has P w K mg base 3 "_law_event" ["_law_box_here", "_law_book_here", "_law_name", "_law_is_first"] spEvD := by
  refine F.has sc_law_event (fun vs H Q E h => ?_) (fun f cdv A outer s H vs Q E hr h => ?_)
  · obtain ⟨b, d, nm, isf, B, kvs, rfl, _⟩ := h
    rfl
  · have hu := hr.units
    have hu1 := Nat.lt_of_le_of_lt (Nat.add_le_add_left (by decide : 1 ≤ 64) _) hu
    obtain ⟨b, d, nm, isf, B, kvs, rfl, hb, bk, ok, onm, k⟩ := h
    refine ⟨_, (pss_cons (ps_set (i := 4) sc_law_event.nd rfl (Or.inl rfl) (pe_op op_cat (pe_dget hu1 (pv 1) pe_str (fun _ _ => rfl)) (pe_dget hu1 (pv 1) pe_str (fun _ _ => rfl))))
      (pss_cons (ps_if (PW.pt (pw_or (pt_val (pv 3)) (pw_or1 (pt_cmpR op_eq (pe_callHas g_law_take (hr.mono (by decide)) rfl (pa_cons (pv 0) (pa_cons pe_int pa_nil))) pe_int (nomark _))))) (pss_one (ps_ret (pe_tup (pa_cons (pv 2) (pa_cons (pe_lst (pa_cons pe_str pa_nil)) (pa_cons (pe_callHas g_law_pick (hr.mono (by decide)) rfl (pa_cons (pv 0) (pa_cons (pv 4) pa_nil))) (pa_cons pe_bl (pa_cons pe_bl pa_nil)))))))) pss_nil)
      (pss_cons (ps_set (i := 5) sc_law_event.nd rfl (Or.inl rfl) (pe_slice sl_list (pe_callHas g_law_mixed (hr.mono (by decide)) rfl (pa_cons (pv 0) (pa_cons (pv 4) pa_nil))) po_none (po_some (pe_op op_add pe_int (pe_callHas g_law_take (hr.mono (by decide)) rfl (pa_cons (pv 0) (pa_cons (pe_callB call_len (by rfl) T.z_len (by decide +kernel) (pa_cons (pv 4) pa_nil)) pa_nil)))))))
      (pss_cons (ps_if (pt_cmpR op_eq (pe_callHas g_law_take (hr.mono (by decide)) rfl (pa_cons (pv 0) (pa_cons pe_int pa_nil))) pe_int (nomark _)) (pss_one (ps_ret (pe_tup (pa_cons (pv 2) (pa_cons (pv 5) (pa_cons pe_str (pa_cons pe_bl (pa_cons pe_bl pa_nil)))))))) pss_nil)
      (pss_one (ps_ret (pe_tup (pa_cons (pv 2) (pa_cons (pv 5) (pa_cons (pe_callHas g_law_pick (hr.mono (by decide)) rfl (pa_cons (pv 0) (pa_cons (pv 4) pa_nil))) (pa_cons (pe_cmpR op_eq (pe_callHas g_law_take (hr.mono (by decide)) rfl (pa_cons (pv 0) (pa_cons pe_int pa_nil))) pe_int (nomark _)) (pa_cons (pe_cmpR op_eq (pe_callHas g_law_take (hr.mono (by decide)) rfl (pa_cons (pv 0) (pa_cons pe_int pa_nil))) pe_int (nomark _)) pa_nil)))))))))))), ?_⟩
    have nml := ok.names
    rw [List.length_append, List.length_append] at nml
    have q1000 : (1000 : Nat) < sizeLine := by decide
    obtain ⟨r1, g1, n1, h1⟩ := bk.rests.get bk.at'
    obtain ⟨r2, g2, n2, h2⟩ := bk.passes.get bk.at'
    refine seq_asg (op_go ?_)
    refine ⟨_, rfl, d, _, rfl, g1, _, rfl, d, _, rfl, g2, r1, r2, _, _, rfl, rfl, h1, h2, by rw [List.length_map, List.length_map]; omega, fun t ht => name_go ?_⟩
    obtain ⟨s1, h1t⟩ := new_at (o := .lst (B.rests.map V.str ++ B.passes.map V.str)) ht
    rw [← List.map_append] at h1t s1 ⊢
    have b1 := hb.keep s1
    have ntb : t ≠ b := new_ne hb.ne ht
    generalize upd H t (.lst ((B.rests ++ B.passes).map V.str)) = H1 at *
    try dsimp only
    have kl0 : 0 < (B.rests ++ B.passes).length := by rw [List.length_append]; have := List.length_pos_iff.mpr ok.rests0; omega
    have kl1 : (B.rests ++ B.passes).length ≤ 100 := by rw [List.length_append]; omega
    cases isf with
    | true =>
      refine seq_go ⟨_, rfl, _, rfl, iteSe rfl (iteSe rfl ?_)⟩
      exact ev_first rfl rfl rfl (Same.but s1) b1 ntb h1t kl0 (by omega) onm k
    | false =>
      refine seq_go ⟨_, rfl, _, rfl, iteSf rfl ⟨_, rfl, b, 6, rfl, b1, by decide, by decide, fun e x y z e0 e1 => ?_⟩⟩
      have u2 : But b H (upd H1 b (.lst [.int x, .int y, .int z])) := (Same.but s1).trans But.upd'
      have b2 : Box (upd H1 b (.lst [.int x, .int y, .int z])) b := Box.upd'
      have t2 : upd H1 b (.lst [.int x, .int y, .int z]) t = some (.lst ((B.rests ++ B.passes).map V.str)) := (upd_ne ntb).trans h1t
      generalize upd H1 b (.lst [.int x, .int y, .int z]) = H2 at *
      refine ⟨rfl, _, rfl, ite2 (fun _ => ?_) (fun _ => next_go ?_)⟩
      · exact ev_first rfl rfl rfl u2 b2 ntb t2 kl0 (by omega) onm k
      try dsimp only
      refine seq_asg ⟨_, rfl, _, rfl, b, t, _, rfl, b2, t2, ntb, by rw [List.length_map]; omega, fun H3 q bs u3 b3 nqb hq hbs pm => ?_⟩
      obtain ⟨ms, rfl, pms⟩ := perm_strs pm
      have lms : ms.length = (B.rests ++ B.passes).length := pms.length_eq
      have t3 := u3 _ _ ntb t2
      refine ⟨_, rfl, _, rfl, _, _, rfl, .inl ⟨_, SqL.of t3, rfl⟩, b, _, rfl, b3, by rw [List.length_map]; omega, by rw [List.length_map]; omega, fun e2 x y z e20 e21 => ?_⟩
      rw [List.length_map] at e21
      have u4 : But b H (upd H3 b (.lst [.int x, .int y, .int z])) := (u2.trans u3).trans But.upd'
      have b4 : Box (upd H3 b (.lst [.int x, .int y, .int z])) b := Box.upd'
      have t4 : upd H3 b (.lst [.int x, .int y, .int z]) t = some (.lst ((B.rests ++ B.passes).map V.str)) := (upd_ne ntb).trans t3
      have q4 : upd H3 b (.lst [.int x, .int y, .int z]) q = some (.lst (ms.map V.str)) := (upd_ne nqb).trans hbs
      generalize upd H3 b (.lst [.int x, .int y, .int z]) = H4 at *
      obtain ⟨m, em⟩ : ∃ m : Nat, 1 + e2 = (m : Int) := ⟨(1 + e2).toNat, by omega⟩
      have m0 : 0 < m := by omega
      have ml : m ≤ ms.length := by omega
      refine ⟨_, _, rfl, rfl, _, rfl, q, _, rfl, SqL.of q4, fun o ho => name_go ?_⟩
      rw [em, cutN (by rw [List.length_map]; exact ml), ← List.map_take]
      obtain ⟨s5, h5⟩ := new_at (o := .lst ((ms.take m).map V.str)) ho
      have ho0 : H o = none := new_but u4 b4 ho
      have u5 : But b H (upd H4 o (.lst ((ms.take m).map V.str))) := u4.trans (Same.but s5)
      have b5 := b4.keep s5
      have t5 := s5 _ _ t4
      have nob : o ≠ b := new_ne b4.ne ho
      generalize upd H4 o (.lst ((ms.take m).map V.str)) = H5 at *
      try dsimp only
      have oo : (ms.take m) ≠ [] ∧ (ms.take m).Nodup ∧ ∀ s ∈ ms.take m, s ∈ B.rests ++ B.passes := by
        refine ⟨fun z => ?_, (pms.nodup_iff.mpr ok.kindsNd).sublist (List.take_sublist _ _), fun s hs => pms.mem_iff.mp (List.mem_of_mem_take hs)⟩
        have := congrArg List.length z
        rw [List.length_take] at this
        have : min m ms.length = 0 := this
        omega
      refine seq_go ⟨_, rfl, b, 4, rfl, b5, by decide, by decide, fun e3 x y z e30 e31 => ?_⟩
      have u6 : But b H (upd H5 b (.lst [.int x, .int y, .int z])) := u5.trans But.upd'
      have b6 : Box (upd H5 b (.lst [.int x, .int y, .int z])) b := Box.upd'
      have t6 : upd H5 b (.lst [.int x, .int y, .int z]) t = some (.lst ((B.rests ++ B.passes).map V.str)) := (upd_ne ntb).trans t5
      have o6 : upd H5 b (.lst [.int x, .int y, .int z]) o = some (.lst ((ms.take m).map V.str)) := (upd_ne nob).trans h5
      generalize upd H5 b (.lst [.int x, .int y, .int z]) = H6 at *
      refine ⟨rfl, _, rfl, ite2 (fun _ => ?_) (fun _ => next_go ?_)⟩
      · refine ret_go (tup_go (cons_go ⟨_, rfl, cons_go ⟨_, rfl, (by decide : 5 ≤ sizeLine), fun p hp => ?_⟩⟩))
        obtain ⟨s7, h7⟩ := new_at (o := .tup [V.str nm, V.ref o, V.str "none", V.bl false, V.bl false]) hp
        exact k _ p o ⟨nm, ms.take m, "none", false, false⟩ (u6.trans (Same.but s7)) (b6.keep s7) ho0 h7 (s7 _ _ o6) rfl ⟨onm, .inr ⟨oo.1, oo.2.1, oo.2.2, .inl ⟨rfl, rfl, rfl⟩⟩⟩
      try dsimp only
      refine ret_go (tup_go (cons_go ⟨_, rfl, cons_go ⟨_, rfl, cons_go ⟨_, rfl, _, rfl, ?_⟩⟩⟩))
      unfold tNil
      dsimp only
      refine pick_map b6 t6 ntb kl0 (by omega) fun H7 kd u7 b7 mk => ?_
      refine cons_go (op_go ⟨_, rfl, b, 2, rfl, b7, by decide, by decide, fun e4 x y z e40 e41 => ⟨rfl, ?_⟩⟩)
      have u8 : But b H (upd H7 b (.lst [.int x, .int y, .int z])) := (u6.trans u7).trans But.upd'
      have b8 : Box (upd H7 b (.lst [.int x, .int y, .int z])) b := Box.upd'
      have o8 : upd H7 b (.lst [.int x, .int y, .int z]) o = some (.lst ((ms.take m).map V.str)) := (upd_ne nob).trans (u7 _ _ nob o6)
      generalize upd H7 b (.lst [.int x, .int y, .int z]) = H8 at *
      refine cons_go (op_go ⟨_, rfl, b, 3, rfl, b8, by decide, by decide, fun e5 x y z e50 e51 => ⟨rfl, (by decide : 5 ≤ sizeLine), fun p hp => ?_⟩⟩)
      obtain ⟨s9, h9⟩ := new_at (o := .tup [V.str nm, V.ref o, V.str kd, V.bl (decide (V.int e4 = V.int 0)), V.bl (decide (V.int e5 = V.int 0))]) hp
      exact k _ p o ⟨nm, ms.take m, kd, _, _⟩ ((u8.trans But.upd').trans (Same.but s9)) (Box.upd'.keep s9) ho0 h9 (s9 _ _ ((upd_ne nob).trans o8)) rfl ⟨onm, .inr ⟨oo.1, oo.2.1, oo.2.2, .inr mk⟩⟩
abbrev s_law_worth : Stmt := top 38
abbrev n_law_worth : List Str := ["_law_box_here", "_law_book_here", "_law_total", "_law_kind", "_law_least", "_law_below"]
theorem sc_law_worth : FnScope n_law_worth ["_law_box_here", "_law_book_here"] (defScope s_law_worth) := ⟨rfl, rfl, rfl, by decide +kernel, rfl, by decide +kernel, by decide +kernel⟩
def spWoD : Sp := fun vs H Q _ => ∃ (b d : Addr) (B : BookD) (kvs : List (Key × V)), vs = [.ref b, .ref d] ∧ Box H b ∧ BkAt H (· = b) d B kvs ∧ BkOk B ∧ ∀ (H' : Hp) (v : V) (e : WorthD), But b H H' → Box H' b → WorthAt H' v e → okWorth B e → Q v H'
theorem ok_woD (T : Txt mg) (g_law_pick : Has P w K mg base 2 "_law_pick" ["_law_box_here", "_law_items"] spPick) (F : DefAt K mg "_law_worth" s_law_worth ["_law_box_here", "_law_book_here"]) : Has P w K mg base 3 "_law_worth" ["_law_box_here", "_law_book_here"] spWoD := by
  refine F.has sc_law_worth (fun vs H Q E h => ?_) (fun f cdv A outer s H vs Q E hr h => ?_)
  · obtain ⟨b, d, B, kvs, rfl, _⟩ := h
    rfl
  · have hu := hr.units
    have hu1 := Nat.lt_of_le_of_lt (Nat.add_le_add_left (by decide : 1 ≤ 64) _) hu
    obtain ⟨b, d, B, kvs, rfl, hb, bk, ok, k⟩ := h
    refine ⟨_, (pss_cons (ps_par (i := 2) (j := 3) (by rfl) sc_law_worth.nd rfl rfl (by decide) rfl rfl (pa_cons (pe_callHas g_law_pick (hr.mono (by decide)) rfl (pa_cons (pv 0) (pa_cons (pe_dget hu1 (pv 1) pe_str (fun _ _ => rfl)) pa_nil))) (pa_cons (pe_callHas g_law_pick (hr.mono (by decide)) rfl (pa_cons (pv 0) (pa_cons (pe_dget hu1 (pv 1) pe_str (fun _ _ => rfl)) pa_nil))) pa_nil)) (by rfl))
      (pss_cons (ps_set (i := 4) sc_law_worth.nd rfl (Or.inl rfl) (pe_callHas g_law_pick (hr.mono (by decide)) rfl (pa_cons (pv 0) (pa_cons (pe_lst (pa_cons pe_non (pa_cons pe_non (pa_cons (pe_callHas g_law_pick (hr.mono (by decide)) rfl (pa_cons (pv 0) (pa_cons (pe_dget hu1 (pv 1) pe_str (fun _ _ => rfl)) pa_nil))) pa_nil)))) pa_nil))))
      (pss_cons (ps_set (i := 5) sc_law_worth.nd rfl (Or.inl rfl) (pe_callHas g_law_pick (hr.mono (by decide)) rfl (pa_cons (pv 0) (pa_cons (pe_lst (pa_cons pe_non (pa_cons pe_non (pa_cons (pe_callHas g_law_pick (hr.mono (by decide)) rfl (pa_cons (pv 0) (pa_cons (pe_dget hu1 (pv 1) pe_str (fun _ _ => rfl)) pa_nil))) pa_nil)))) pa_nil))))
      (C8.pss_cut (ps_if (PW.pt (pw_and (pt_cmpR op_notN (pv 4) pe_non (nomark _)) (pw_and (pt_cmpR op_notN (pv 5) pe_non (nomark _)) (pw_and1 (pt_cmpR op_le (pv 5) (pv 4) (nomark _)))))) (pss_one (ps_set (i := 5) sc_law_worth.nd rfl (Or.inl rfl) pe_non)) pss_nil)
      (pss_one (ps_ret (pe_tup (pa_cons (pv 2) (pa_cons (pv 3) (pa_cons (pe_callHas g_law_pick (hr.mono (by decide)) rfl (pa_cons (pv 0) (pa_cons (pe_lst (pa_cons pe_int (pa_cons pe_int (pa_cons (pe_un un_neg pe_int) (pa_cons pe_int (pa_cons pe_int pa_nil)))))) pa_nil))) (pa_cons (pe_callHas g_law_pick (hr.mono (by decide)) rfl (pa_cons (pv 0) (pa_cons (pe_lst (pa_cons pe_str (pa_cons pe_str (pa_cons pe_str pa_nil)))) pa_nil))) (pa_cons (pv 4) (pa_cons (pv 5) pa_nil))))))))))))), ?_⟩
    have nml := ok.names
    rw [List.length_append, List.length_append, List.length_append] at nml
    have l0t := List.length_pos_iff.mpr ok.totals0
    have l0r := List.length_pos_iff.mpr ok.rests0
    have l0n := List.length_pos_iff.mpr ok.told0
    have l1n := ok.told1
    obtain ⟨r1, g1, n1, h1⟩ := bk.totals.get bk.at'
    refine seq_par (cons_go ?_)
    refine ⟨_, rfl, _, rfl, d, _, rfl, g1, ?_⟩
    refine nil_go ?_
    refine pick_map hb h1 n1 l0t (by omega) fun H1 tt u1 b1 mt => ?_
    have bk1 := bk.kp (KpE.but (ex := (· = b)) rfl u1)
    obtain ⟨r2, g2, n2, h2⟩ := bk1.rests.get bk1.at'
    refine cons_go ?_
    refine ⟨_, rfl, _, rfl, d, _, rfl, g2, ?_⟩
    refine nil_go ?_
    refine pick_map b1 h2 n2 l0r (by omega) fun H2 kd u2 b2 mk => ⟨_, _, rfl, ?_⟩
    have bound : ∀ (σ : L2.St) (H3 : Hp) (Qn : VK), σ[0]? = some (some (.ref b)) → σ[1]? = some (some (.ref d)) → But b H H3 → Box H3 b → (∀ (H4 : Hp) (o : Option Int), But b H H4 → Box H4 b → (∀ m, o = some m → m ∈ B.told) → Qn (optV o) H4) →
        tCall spPick [] E0 (tCons (tVar 0) (tCons (tLst (tCons (tC V.non) (tCons (tC V.non) (tCons (tCall spPick [] E0 (tCons (tVar 0) (tCons (tDGet (tVar 1) (tC (V.str "told"))) tNil))) tNil)))) tNil)) σ H3 Qn := by
      intro σ H3 Qn e0 e1 u3 b3 q
      have bk3 := bk.kp (KpE.but (ex := (· = b)) rfl u3)
      obtain ⟨r3, g3, n3, h3⟩ := bk3.told.get bk3.at'
      refine ⟨_, e0, cons_go (lstA_go (cons_go (c_go (cons_go (c_go (cons_go ?_))))))⟩
      refine ⟨_, e0, _, e1, d, _, rfl, g3, ?_⟩
      refine nil_go ?_
      refine pick_map b3 h3 n3 l0n (by omega) fun H4 m u4 b4 mm => ?_
      refine ⟨(by decide : 3 ≤ sizeLine), fun p hp => ?_⟩
      obtain ⟨s5, h5⟩ := new_at (o := .lst ([none, none, some m].map optV)) hp
      refine nil_go ?_
      refine pick_map (f := optV) (L := [none, none, some m]) (b4.keep s5) h5 (new_ne b4.ne hp) (by show 0 < 3; decide) (by show 3 ≤ 1000; decide) fun H6 o u6 b6 mo => ?_
      refine q H6 o (((u3.trans u4).trans (Same.but s5)).trans u6) b6 fun m' em => ?_
      subst em
      have : m' = m := by simpa using mo
      rw [this]
      exact mm
    have u2' := u1.trans u2
    refine seq_asg (bound _ _ _ rfl rfl u2' b2 fun H3 lo u3 b3 olo => name_go ?_)
    try dsimp only
    refine seq_asg (bound _ _ _ rfl rfl u3 b3 fun H4 hi u4 b4 ohi => name_go ?_)
    try dsimp only
    refine ⟨fun σ' H' => H' = H4 ∧ ∃ hi' : Option Int, σ' = [some (.ref b), some (.ref d), some (.str tt), some (.str kd), some (optV lo), some (optV hi')] ∧ (∀ m, hi' = some m → m ∈ B.told) ∧ ∀ n m, lo = some n → hi' = some m → n < m, ?_, ?_⟩
    · cases lo with
      | none => exact ⟨_, rfl, rfl, _, rfl, iteSf rfl (iteSf rfl (next_go ⟨rfl, hi, rfl, ohi, fun n m z => nomatch z⟩))⟩
      | some n1 =>
        cases hi with
        | none => exact ⟨_, rfl, rfl, _, rfl, iteSe rfl ⟨_, rfl, rfl, _, rfl, iteSf rfl (iteSf rfl (next_go ⟨rfl, none, rfl, ohi, fun n m _ z => nomatch z⟩))⟩⟩
        | some n2 =>
          refine ⟨_, rfl, rfl, _, rfl, iteSe rfl ⟨_, rfl, rfl, _, rfl, iteSe rfl ⟨_, rfl, _, rfl, _, _, rfl, rfl, _, rfl, ite2 (fun _ => ?_) (fun hn => ?_)⟩⟩⟩
          · exact asg_go (c_go (name_go ⟨rfl, none, rfl, (fun m z => nomatch z), (fun n m _ z => nomatch z)⟩))
          · refine next_go ⟨rfl, some n2, rfl, ohi, fun n m z z2 => ?_⟩
            cases z
            cases z2
            have : ¬ n2 ≤ n1 := by simpa using hn
            omega
    · rintro σ' H5 ⟨rfl, hi', rfl, ohi', lt⟩
      refine ret_go (tup_go (cons_go ⟨_, rfl, cons_go ⟨_, rfl, cons_go ?_⟩⟩))
      refine ⟨_, rfl, cons_go (lst_go (xs := wfacL.map V.int) (fun Q q => ⟨1, rfl, q⟩) (by decide) fun H6 p6 s6 hp6 h6 => ?_)⟩
      refine nil_go ?_
      refine pick_map (b4.keep s6) h6 (new_ne b4.ne hp6) (by decide) (by decide) fun H7 fc u7 b7 mf => cons_go ?_
      refine ⟨_, rfl, cons_go (lst_go (xs := wwhatL.map V.str) (fun Q q => q) (by decide) fun H8 p8 s8 hp8 h8 => ?_)⟩
      refine nil_go ?_
      refine pick_map (b7.keep s8) h8 (new_ne b7.ne hp8) (by decide) (by decide) fun H9 wh u9 b9 mw => cons_go ⟨_, rfl, cons_go ⟨_, rfl, (by decide : 6 ≤ sizeLine), fun q hq => ?_⟩⟩
      obtain ⟨sA, hA⟩ := new_at (o := .tup [V.str tt, V.str kd, V.int fc, V.str wh, optV lo, optV hi']) hq
      exact k _ _ ⟨tt, kd, fc, wh, lo, hi'⟩ ((((u4.trans (Same.but s6)).trans u7).trans (Same.but s8)).trans (u9.trans (Same.but sA))) (b9.keep sA) ⟨q, rfl, hA⟩ ⟨mt, mk, mf, mw, olo, ohi', lt⟩
end
end K14

set_option pp.maxSteps 600
namespace L2
open PySem PySem.Spec PyProof.Rows
theorem ix_listK {X : Cx} {K : PySem.W.Frag} (e : X.K = K) : IxR X (rIxL K) := by
  subst e; exact ix_list
end L2
namespace K14
open PySem L2 PySem.Spec PyProof.Rows
section
variable {P : Program} {w : World} {K : PySem.W.Frag} {mg : Str → Option Value} {base : Heap}
abbrev s_law_book : Stmt := top 39
abbrev n_law_book : List Str := ["_law_box_here", "_law_sizes", "_law_names_here", "_law_many", "_law_split", "_law_book_here", "_law_turn", "_law_some", "_law_left", "_law_name"]
theorem sc_law_book : FnScope n_law_book ["_law_box_here", "_law_sizes"] (defScope s_law_book) := ⟨rfl, rfl, rfl, by decide +kernel, rfl, by decide +kernel, by decide +kernel⟩
def spBookD : Sp := fun vs H Q _ => ∃ (b z : Addr) (ss : List V) (s0 s1 s2 s3 s4 s5 s6 s7 : Int), vs = [.ref b, .ref z] ∧ Box H b ∧ H z = some (.tup ss) ∧ SizesOk ss s0 s1 s2 s3 s4 s5 s6 s7 ∧
  ∀ (H' : Hp) (d : Addr) (B : BookD) (kvs : List (Key × V)), But b H H' → Box H' b → BookAt H' (· = b) d B kvs → BookOk B → Q (.ref d) H'
theorem InD.step {H8 H10 : Hp} {ex : Addr → Prop} {kvs : List (Key × V)} {k k' : Str} {xs : List V} {v : V} {d : Addr} (s : KpE ex H8 H10) (hd : H10 d = some (.dK kvs)) (n : k ≠ k') (h : InD H8 ex kvs k xs) : InD (upd H10 d (.dK (putK kvs (.inr k') v))) ex (putK kvs (.inr k') v) k xs := ((h.kp s).updD hd).put n
theorem InD.put' {H : Hp} {ex : Addr → Prop} {kvs : List (Key × V)} {k : Str} {xs : List V} {d r : Addr} {o : HO} (hd : H d = some (.dK kvs)) (n : ¬ ex r) (q : H r = some (.lst xs)) : InD (upd H d o) ex (putK kvs (.inr k) (.ref r)) k xs := (InD.new n q).updD hd
theorem BkAt.put {H : Hp} {ex : Addr → Prop} {d : Addr} {B : BookD} {kvs : List (Key × V)} {k : Str} {v : V} (h : BkAt H ex d B kvs) (n1 : ("rests" : Str) ≠ k) (n2 : ("passes" : Str) ≠ k) (n3 : ("told" : Str) ≠ k) (n4 : ("totals" : Str) ≠ k) (n5 : ("notes" : Str) ≠ k) : BkAt (upd H d (.dK (putK kvs (.inr k) v))) ex d B (putK kvs (.inr k) v) :=
  ⟨upd_same, h.out, (h.rests.updD h.at').put n1, (h.passes.updD h.at').put n2, (h.told.updD h.at').put n3, (h.totals.updD h.at').put n4, (h.notes.updD h.at').put n5⟩
theorem BkAt.exN {H : Hp} {ex : Addr → Prop} {d : Addr} {B : BookD} {kvs : List (Key × V)} {c : Addr} (hc : H c = none) (h : BkAt H ex d B kvs) : BkAt H (fun a => ex a ∨ a = c) d B kvs :=
  ⟨h.at', (fun z => Or.elim z h.out (fun z => by have := h.at'; rw [z, hc] at this; cases this)), h.rests.exN hc, h.passes.exN hc, h.told.exN hc, h.totals.exN hc, h.notes.exN hc⟩
theorem cutAB {xs : List V} {a c : Nat} (h1 : a ≤ xs.length) (h2 : c ≤ xs.length) : cutV xs (some (a : Int)) (some (c : Int)) = (xs.drop a).take (c - a) := by
  unfold cutV
  rw [HT.sIx_nat, HT.sIx_nat, Nat.min_eq_left h1, Nat.min_eq_left h2]
theorem ok_bookD (T : Txt mg) (g_law_take : Has P w K mg base 1 "_law_take" ["_law_box_here", "_law_many"] spTake) (g_law_mixed : Has P w K mg base 2 "_law_mixed" ["_law_box_here", "_law_items"] spMixed) (g_law_names : Has P w K mg base 3 "_law_names" ["_law_box_here", "_law_many"] spNames) (g_law_number : Has P w K mg base 2 "_law_number" ["_law_box_here", "_law_most"] spNumber)
    (g_law_rows : Has P w K mg base 11 "_law_rows" ["_law_box_here", "_law_book_here", "_law_left", "_law_deep"] (spRows 3)) (g_law_event : Has P w K mg base 3 "_law_event" ["_law_box_here", "_law_book_here", "_law_name", "_law_is_first"] spEvD) (g_law_worth : Has P w K mg base 3 "_law_worth" ["_law_box_here", "_law_book_here"] spWoD)
    (F : DefAt K mg "_law_book" s_law_book ["_law_box_here", "_law_sizes"]) : Has P w K mg base 12 "_law_book" ["_law_box_here", "_law_sizes"] spBookD := by
  refine F.has sc_law_book (fun vs H Q E h => ?_) (fun f cdv A outer s H vs Q E hr h => ?_)
  · obtain ⟨b, z, ss, s0, s1, s2, s3, s4, s5, s6, s7, rfl, _⟩ := h
    rfl
  · have hu := hr.units
    have hu1 := Nat.lt_of_le_of_lt (Nat.add_le_add_left (by decide : 1 ≤ 64) _) hu
    obtain ⟨b, z, ss, s0, s1, s2, s3, s4, s5, s6, s7, rfl, hb, hz, so, k⟩ := h
    refine ⟨_, (pss_cons (ps_set (i := 2) sc_law_book.nd rfl (Or.inl rfl) (pe_callHas g_law_names (hr.mono (by omega)) rfl (pa_cons (pv 0) (pa_cons pe_int pa_nil))))
      (pss_cons (ps_set (i := 3) sc_law_book.nd rfl (Or.inl rfl) (pe_op op_add pe_int (pe_callHas g_law_take (hr.mono (by omega)) rfl (pa_cons (pv 0) (pa_cons (pe_ix ix_tup (pv 1) pe_int (fun _ _ => rfl)) pa_nil)))))
      (pss_cons (ps_set (i := 4) sc_law_book.nd rfl (Or.inl rfl) (pe_op op_add pe_int (pe_callHas g_law_take (hr.mono (by omega)) rfl (pa_cons (pv 0) (pa_cons (pv 3) pa_nil)))))
      (pss_cons (ps_set (i := 5) sc_law_book.nd rfl (Or.inr rfl) (pe_disp (pps_cons pe_str (pe_slice sl_list (pv 2) po_none (po_some (pv 4))) (pps_cons pe_str (pe_slice sl_list (pv 2) (po_some (pv 4)) (po_some (pv 3))) (pps_cons pe_str (pe_lst pa_nil) pps_nil))) (by rfl) (by rfl) (fun z => nomatch z) (by decide)))
      (pss_cons (ps_dput hu1 (pv 5) pe_str (pe_slice sl_list (pv 2) (po_some pe_int) (po_some (pe_op op_add pe_int (pe_callHas g_law_take (hr.mono (by omega)) rfl (pa_cons (pv 0) (pa_cons (pe_ix ix_tup (pv 1) pe_int (fun _ _ => rfl)) pa_nil)))))) rfl)
      (pss_cons (ps_dput hu1 (pv 5) pe_str (pe_slice sl_list (pv 2) (po_some pe_int) (po_some (pe_op op_add pe_int (pe_callHas g_law_take (hr.mono (by omega)) rfl (pa_cons (pv 0) (pa_cons (pe_op op_add (pe_ix ix_tup (pv 1) pe_int (fun _ _ => rfl)) pe_int) pa_nil)))))) rfl)
      (pss_cons (ps_for PassesOwn.never rfl (pi_range1 rfl T.z_range (pa_cons (pe_op op_add pe_int (pe_callHas g_law_take (hr.mono (by omega)) rfl (pa_cons (pv 0) (pa_cons (pe_ix ix_tup (pv 1) pe_int (fun _ _ => rfl)) pa_nil)))) pa_nil)) (pg_name (i := 6) sc_law_book.nd rfl (Or.inl rfl)) (pss_one (ps_expr (pe_bm PySem.F.plainAttrs_list PySem.F.slot_list_append PySem.F.type_list_append mt_append (pe_dget hu1 (pv 5) pe_str (fun _ _ => rfl)) (pa_cons (pe_callHas g_law_number (hr.mono (by omega)) rfl (pa_cons (pv 0) (pa_cons pe_int pa_nil))) pa_nil)))))
      (pss_cons (ps_dput hu1 (pv 5) pe_str (pe_lc (own := [("_law_turn", 6)]) (g := gName 6) (by rfl) sc_law_book.nd (pi_range1 rfl T.z_range (pa_cons (pe_callHas g_law_take (hr.mono (by omega)) rfl (pa_cons (pv 0) (pa_cons (pe_op op_add (pe_ix ix_tup (pv 1) pe_int (fun _ _ => rfl)) pe_int) pa_nil))) pa_nil)) (blkOk_by (own := [("_law_turn", 6)]) (N := n_law_book) (sc := defScope s_law_book) (by decide +kernel)) (fun _ _ _ _ _ => (pg_name (i := 6) sc_law_book.nd rfl (Or.inl rfl))) (fun _ _ _ _ _ => pts_nil) (fun _ _ _ _ _ => (pe_callHas g_law_worth (hr.mono (by omega)) rfl (pa_cons (pv 0) (pa_cons (pv 5) pa_nil))))) rfl)
      (pss_cons (ps_asg (pe_tup (pa_cons (pe_slice sl_list (pv 2) (po_some pe_int) (po_some (pe_op op_add pe_int (pe_callHas g_law_take (hr.mono (by omega)) rfl (pa_cons (pv 0) (pa_cons (pe_ix ix_tup (pv 1) pe_int (fun _ _ => rfl)) pa_nil)))))) (pa_cons (pe_lst (pa_cons (pe_ix ix_tup (pv 1) pe_int (fun _ _ => rfl)) (pa_cons (pe_ix ix_tup (pv 1) pe_int (fun _ _ => rfl)) pa_nil))) pa_nil))) (pg_tup rfl (pgs_cons (pg_name (i := 7) sc_law_book.nd rfl (Or.inr rfl)) (pgs_cons (pg_name (i := 8) sc_law_book.nd rfl (Or.inl rfl)) pgs_nil))))
      (pss_cons (ps_dput hu1 (pv 5) pe_str (pe_lc (own := [("_law_name", 9)]) (g := gName 9) (by rfl) sc_law_book.nd (pi_list (pv 7)) (blkOk_by (own := [("_law_name", 9)]) (N := n_law_book) (sc := defScope s_law_book) (by decide +kernel)) (fun _ _ _ _ _ => (pg_name (i := 9) sc_law_book.nd rfl (Or.inl rfl))) (fun _ _ _ _ _ => pts_nil) (fun _ _ _ _ _ => (pe_callHas g_law_event (hr.mono (by omega)) rfl (pa_cons (pv 0) (pa_cons (pv 5) (pa_cons (pv 9) (pa_cons (pe_cmpR op_eq (pv 9) (pe_ix (ix_listK (K := K) rfl) (pv 7) pe_int (fun _ _ => rfl)) (nomark _)) pa_nil))))))) rfl)
      (pss_cons (ps_dput hu1 (pv 5) pe_str (pe_lst pa_nil) rfl)
      (pss_cons (ps_for PassesOwn.never rfl (pi_list (pe_callHas g_law_mixed (hr.mono (by omega)) rfl (pa_cons (pv 0) (pa_cons (pv 7) pa_nil)))) (pg_name (i := 9) sc_law_book.nd rfl (Or.inl rfl)) (pss_one (ps_if (pt_cmpR op_gt (pe_callHas g_law_take (hr.mono (by omega)) rfl (pa_cons (pv 0) (pa_cons pe_int pa_nil))) pe_int (nomark _)) (pss_one (ps_expr (pe_bm PySem.F.plainAttrs_list PySem.F.slot_list_append PySem.F.type_list_append mt_append (pe_dget hu1 (pv 5) pe_str (fun _ _ => rfl)) (pa_cons (pe_tup (pa_cons (pv 9) (pa_cons (pe_callHas g_law_rows (hr.mono (by omega)) rfl (pa_cons (pv 0) (pa_cons (pv 5) (pa_cons (pv 8) (pa_cons pe_int pa_nil))))) pa_nil))) pa_nil)))) pss_nil)))
      (pss_one (ps_ret (pv 5))))))))))))))), ?_⟩
    obtain ⟨rfl, c0, c1, c2, c3, c4, c7⟩ := so
    have q1000 : (1000 : Nat) < sizeLine := by decide
    -- the names, how many kinds, how many that rest
    refine seq_asg ⟨_, rfl, b, 14, rfl, hb, by decide, fun H1 q ns u1 b1 nqb hq0 hq ln nd okn => name_go ?_⟩
    have nzb : z ≠ b := fun e => by obtain ⟨x, y, w, e'⟩ := hb; rw [e, e'] at hz; cases hz
    have hz1 := u1 _ _ nzb hz
    refine seq_asg (op_go ?_)
    refine ⟨_, rfl, _, rfl, z, _, _, _, rfl, rfl, SqT.of hz1, rfl, b, s0, rfl, b1, by omega, by omega, fun e0 x y w e00 e01 => ⟨_, _, rfl, rfl, name_go ?_⟩⟩
    have u2 : But b H (upd H1 b (.lst [.int x, .int y, .int w])) := u1.trans But.upd'
    have b2 : Box (upd H1 b (.lst [.int x, .int y, .int w])) b := Box.upd'
    have hq2 : upd H1 b (.lst [.int x, .int y, .int w]) q = some (.lst (ns.map V.str)) := (upd_ne nqb).trans hq
    generalize upd H1 b (.lst [.int x, .int y, .int w]) = H2 at *
    obtain ⟨m, em⟩ : ∃ m : Nat, 1 + e0 = (m : Int) := ⟨(1 + e0).toNat, by omega⟩
    try dsimp only
    rw [em]
    have m1 : 1 ≤ m := by omega
    have m4 : m ≤ 4 := by omega
    try dsimp only
    refine seq_asg (op_go ?_)
    refine ⟨_, rfl, _, rfl, b, (m : Int), rfl, b2, by omega, by omega, fun e1 x y w e10 e11 => ⟨_, _, rfl, rfl, name_go ?_⟩⟩
    have u3 : But b H (upd H2 b (.lst [.int x, .int y, .int w])) := u2.trans But.upd'
    have b3 : Box (upd H2 b (.lst [.int x, .int y, .int w])) b := Box.upd'
    have hq3 : upd H2 b (.lst [.int x, .int y, .int w]) q = some (.lst (ns.map V.str)) := (upd_ne nqb).trans hq2
    generalize upd H2 b (.lst [.int x, .int y, .int w]) = H3 at *
    obtain ⟨sp, es⟩ : ∃ sp : Nat, 1 + e1 = (sp : Int) := ⟨(1 + e1).toNat, by omega⟩
    try dsimp only
    rw [es]
    have sp1 : 1 ≤ sp := by omega
    have spm : sp ≤ m := by omega
    try dsimp only
    have lns : (ns.map V.str).length = 14 := by rw [List.length_map]; exact ln
    -- the dict
    refine seq_asg ?_
    intro d hd0
    obtain ⟨s4, h4d⟩ := new_at (o := .dK []) hd0
    generalize hG4 : upd H3 d (.dK []) = G4 at *
    have hq4 := s4 _ _ hq3
    refine ⟨_, rfl, _, rfl, (sp : Int), rfl, q, _, rfl, SqL.of hq4, fun r1 hr1 => ?_⟩
    rw [cutN (by rw [lns]; omega), ← List.map_take]
    obtain ⟨s5, h51⟩ := new_at (o := .lst ((ns.take sp).map V.str)) hr1
    generalize upd G4 r1 (.lst ((ns.take sp).map V.str)) = G5 at *
    refine ⟨_, rfl, _, rfl, (sp : Int), rfl, _, rfl, (m : Int), rfl, q, _, rfl, SqL.of (s5 _ _ hq4), fun r2 hr2 => ?_⟩
    rw [cutAB (by rw [lns]; omega) (by rw [lns]; omega), ← List.map_drop, ← List.map_take]
    obtain ⟨s6, h62⟩ := new_at (o := .lst (((ns.drop sp).take (m - sp)).map V.str)) hr2
    generalize upd G5 r2 (.lst (((ns.drop sp).take (m - sp)).map V.str)) = G6 at *
    refine ⟨Nat.zero_le _, fun r3 hr3 => ?_⟩
    obtain ⟨s7, h73⟩ := new_at (o := .lst []) hr3
    generalize upd G6 r3 (.lst []) = G7 at *
    have s47 : Same G4 G7 := (s5.trans s6).trans s7
    have hd7 := s47 _ _ h4d
    refine ⟨hd7, [(.inr "rests", .ref r1), (.inr "passes", .ref r2), (.inr "told", .ref r3)], rfl, (by show 3 ≤ 15; decide), name_go ?_⟩
    have kv0 : valV (mergeK [] [((.inr "rests" : Key), V.ref r1), (.inr "passes", .ref r2), (.inr "told", .ref r3)]) (.inr "rests") = some (.ref r1) := rfl
    have kv1 : valV (mergeK [] [((.inr "rests" : Key), V.ref r1), (.inr "passes", .ref r2), (.inr "told", .ref r3)]) (.inr "passes") = some (.ref r2) := rfl
    have kv2 : valV (mergeK [] [((.inr "rests" : Key), V.ref r1), (.inr "passes", .ref r2), (.inr "told", .ref r3)]) (.inr "told") = some (.ref r3) := rfl
    have kvl : (mergeK [] [((.inr "rests" : Key), V.ref r1), (.inr "passes", .ref r2), (.inr "told", .ref r3)]).length ≤ 3 := length_mergeK _ _
    generalize mergeK [] [((.inr "rests" : Key), V.ref r1), (.inr "passes", .ref r2), (.inr "told", .ref r3)] = kvs0 at *
    have h71 := s7 _ _ (s6 _ _ h51)
    have h72 := s7 _ _ h62
    have n1d : r1 ≠ d := ne_of h71 hd7 fun z => nomatch z
    have n2d : r2 ≠ d := ne_of h72 hd7 fun z => nomatch z
    have n3d : r3 ≠ d := ne_of h73 hd7 fun z => nomatch z
    have n13 : r1 ≠ r3 := ne_of_none (s6 _ _ h51) hr3
    have n23 : r2 ≠ r3 := ne_of_none h62 hr3
    have ndb : d ≠ b := new_ne b3.ne hd0
    have n1b : r1 ≠ b := new_ne (b3.keep s4).ne hr1
    have n2b : r2 ≠ b := new_ne ((b3.keep s4).keep s5).ne hr2
    have n3b : r3 ≠ b := new_ne (((b3.keep s4).keep s5).keep s6).ne hr3
    have hd8 : upd G7 d (.dK kvs0) d = some (.dK kvs0) := upd_same
    have h81 : upd G7 d (.dK kvs0) r1 = some (.lst ((ns.take sp).map V.str)) := (upd_ne n1d).trans h71
    have h82 : upd G7 d (.dK kvs0) r2 = some (.lst (((ns.drop sp).take (m - sp)).map V.str)) := (upd_ne n2d).trans h72
    have h83 : upd G7 d (.dK kvs0) r3 = some (.lst []) := (upd_ne n3d).trans h73
    have u8 : But b H (upd G7 d (.dK kvs0)) := u3.trans fun a o _ e => (upd_ne (ne_of_none e hd0)).trans (s47 _ _ (s4 _ _ e))
    have b8 : Box (upd G7 d (.dK kvs0)) b := by
      obtain ⟨x, y, w, e⟩ := b3
      exact ⟨x, y, w, (upd_ne ndb.symm).trans (s47 _ _ (s4 _ _ e))⟩
    have hq8 : upd G7 d (.dK kvs0) q = some (.lst (ns.map V.str)) := (upd_ne (ne_of_none hq3 hd0)).trans (s47 _ _ (s4 _ _ hq3))
    have hz8 := u8 _ _ nzb hz
    have hd0' : H d = none := new_but u3 b3 hd0
    have hr30 : H3 r3 = none := back ((s4.trans s5).trans s6) hr3
    clear hG4 h71 h72 h73 hd7 s47 s7 s6 s5 s4 h51 h62
    generalize upd G7 d (.dK kvs0) = H8 at *
    try dsimp only
    -- totals
    have ex3b : ∀ {x : Addr}, x ≠ b → x ≠ r3 → ¬ (fun a => a = b ∨ a = r3) x := fun h1 h2 z => z.elim h1 h2
    have i1 : InD H8 (fun a => a = b ∨ a = r3) kvs0 "rests" ((ns.take sp).map V.str) := ⟨r1, kv0, ex3b n1b n13, h81⟩
    have i2 : InD H8 (fun a => a = b ∨ a = r3) kvs0 "passes" (((ns.drop sp).take (m - sp)).map V.str) := ⟨r2, kv1, ex3b n2b n23, h82⟩
    refine seq_go ?_
    refine ⟨_, rfl, (4 : Int), rfl, _, rfl, _, rfl, z, _, _, _, rfl, rfl, SqT.of hz8, rfl, b, s1, rfl, b8, by omega, by omega, fun e2 x y w e20 e21 => ?_⟩
    have u9 : But b H8 (upd H8 b (.lst [.int x, .int y, .int w])) := But.upd'
    have b9 : Box (upd H8 b (.lst [.int x, .int y, .int w])) b := Box.upd'
    generalize upd H8 b (.lst [.int x, .int y, .int w]) = H9 at *
    obtain ⟨t1, et1⟩ : ∃ t : Nat, 5 + e2 = (t : Int) := ⟨(5 + e2).toNat, by omega⟩
    have t15 : 5 ≤ t1 ∧ t1 ≤ 6 := by omega
    refine ⟨_, _, rfl, rfl, _, rfl, q, _, rfl, SqL.of (u9 _ _ nqb hq8), fun r4 hr4 => ?_⟩
    rw [et1, show (4 : Int) = ((4 : Nat) : Int) from rfl, cutAB (by rw [lns]; omega) (by rw [lns]; omega), ← List.map_drop, ← List.map_take]
    obtain ⟨s10, hr4'⟩ := new_at (o := .lst (((ns.drop 4).take (t1 - 4)).map V.str)) hr4
    have n43 : r4 ≠ r3 := fun z => by have := u9 _ _ n3b h83; rw [← z, hr4] at this; cases this
    have n4b : r4 ≠ b := new_ne b9.ne hr4
    have hd10 := s10 _ _ (u9 _ _ ndb hd8)
    have k10 : KpE (fun a => a = b ∨ a = r3) H8 (upd H9 r4 (.lst (((ns.drop 4).take (t1 - 4)).map V.str))) := (KpE.but (.inl rfl) u9).trans (KpE.of s10)
    have b10 := b9.keep s10
    have u10 : But b H (upd H9 r4 (.lst (((ns.drop 4).take (t1 - 4)).map V.str))) := (u8.trans u9).trans (Same.but s10)
    have h10r := s10 _ _ (u9 _ _ n3b h83)
    have hq10 := s10 _ _ (u9 _ _ nqb hq8)
    generalize upd H9 r4 (.lst (((ns.drop 4).take (t1 - 4)).map V.str)) = HA at *
    refine ⟨_, rfl, d, _, rfl, DPut.k (k := .inr "totals") hd10 (by omega), ?_⟩
    have j1 := i1.step (k' := "totals") (v := .ref r4) k10 hd10 (by decide)
    have j2 := i2.step (k' := "totals") (v := .ref r4) k10 hd10 (by decide)
    have j4 : InD (upd HA d (.dK (putK kvs0 (.inr "totals") (.ref r4)))) (fun a => a = b ∨ a = r3) _ "totals" _ := InD.put' hd10 (ex3b n4b n43) hr4'
    have jd : upd HA d (.dK (putK kvs0 (.inr "totals") (.ref r4))) d = some (.dK (putK kvs0 (.inr "totals") (.ref r4))) := upd_same
    have jt : upd HA d (.dK (putK kvs0 (.inr "totals") (.ref r4))) r3 = some (.lst []) := (upd_ne n3d).trans h10r
    have jk : valV (putK kvs0 (.inr "totals") (.ref r4)) (.inr "told") = some (.ref r3) := by rw [valV_put, if_neg (by decide)]; exact kv2
    have jl : (putK kvs0 (.inr "totals") (.ref r4)).length ≤ 4 := Nat.le_trans (length_putK _ _ _) (by omega)
    have jb : Box (upd HA d (.dK (putK kvs0 (.inr "totals") (.ref r4)))) b := b10.other ndb
    have ju : But b H (upd HA d (.dK (putK kvs0 (.inr "totals") (.ref r4)))) := fun a o na e => (upd_ne (ne_of_none e hd0')).trans (u10 _ _ na e)
    have jq : upd HA d (.dK (putK kvs0 (.inr "totals") (.ref r4))) q = some (.lst (ns.map V.str)) := (upd_ne (ne_of hq10 hd10 fun z => nomatch z)).trans hq10
    have jz := ju _ _ nzb hz
    generalize upd HA d (.dK (putK kvs0 (.inr "totals") (.ref r4))) = HB at *
    generalize putK kvs0 (.inr "totals") (.ref r4) = kvs1 at *
    try dsimp only
    -- notes
    refine seq_go ?_
    refine ⟨_, rfl, (6 : Int), rfl, _, rfl, _, rfl, z, _, _, _, rfl, rfl, SqT.of jz, rfl, _, _, rfl, rfl, b, s2 + 1, rfl, jb, by omega, by omega, fun e3 x y w e30 e31 => ?_⟩
    have u11 : But b HB (upd HB b (.lst [.int x, .int y, .int w])) := But.upd'
    have b11 : Box (upd HB b (.lst [.int x, .int y, .int w])) b := Box.upd'
    generalize upd HB b (.lst [.int x, .int y, .int w]) = HC at *
    obtain ⟨t2, et2⟩ : ∃ t : Nat, 6 + e3 = (t : Int) := ⟨(6 + e3).toNat, by omega⟩
    have t28 : 6 ≤ t2 ∧ t2 ≤ 8 := by omega
    refine ⟨_, _, rfl, rfl, _, rfl, q, _, rfl, SqL.of (u11 _ _ nqb jq), fun r5 hr5 => ?_⟩
    rw [et2, show (6 : Int) = ((6 : Nat) : Int) from rfl, cutAB (by rw [lns]; omega) (by rw [lns]; omega), ← List.map_drop, ← List.map_take]
    obtain ⟨s12, hr5'⟩ := new_at (o := .lst (((ns.drop 6).take (t2 - 6)).map V.str)) hr5
    have n53 : r5 ≠ r3 := fun z => by have := u11 _ _ n3b jt; rw [← z, hr5] at this; cases this
    have n5b : r5 ≠ b := new_ne b11.ne hr5
    have hd12 := s12 _ _ (u11 _ _ ndb jd)
    have k12 : KpE (fun a => a = b ∨ a = r3) HB (upd HC r5 (.lst (((ns.drop 6).take (t2 - 6)).map V.str))) := (KpE.but (.inl rfl) u11).trans (KpE.of s12)
    have b12 := b11.keep s12
    have u12 : But b H (upd HC r5 (.lst (((ns.drop 6).take (t2 - 6)).map V.str))) := (ju.trans u11).trans (Same.but s12)
    have h12r := s12 _ _ (u11 _ _ n3b jt)
    have hq12 := s12 _ _ (u11 _ _ nqb jq)
    generalize upd HC r5 (.lst (((ns.drop 6).take (t2 - 6)).map V.str)) = HD at *
    refine ⟨_, rfl, d, _, rfl, DPut.k (k := .inr "notes") hd12 (by omega), ?_⟩
    have m1' := j1.step (k' := "notes") (v := .ref r5) k12 hd12 (by decide)
    have m2' := j2.step (k' := "notes") (v := .ref r5) k12 hd12 (by decide)
    have m4' := j4.step (k' := "notes") (v := .ref r5) k12 hd12 (by decide)
    have m5' : InD (upd HD d (.dK (putK kvs1 (.inr "notes") (.ref r5)))) (fun a => a = b ∨ a = r3) _ "notes" _ := InD.put' hd12 (ex3b n5b n53) hr5'
    have md : upd HD d (.dK (putK kvs1 (.inr "notes") (.ref r5))) d = some (.dK (putK kvs1 (.inr "notes") (.ref r5))) := upd_same
    have mt : upd HD d (.dK (putK kvs1 (.inr "notes") (.ref r5))) r3 = some (.lst []) := (upd_ne n3d).trans h12r
    have mk : valV (putK kvs1 (.inr "notes") (.ref r5)) (.inr "told") = some (.ref r3) := by rw [valV_put, if_neg (by decide)]; exact jk
    have ml : (putK kvs1 (.inr "notes") (.ref r5)).length ≤ 5 := Nat.le_trans (length_putK _ _ _) (by omega)
    have mb : Box (upd HD d (.dK (putK kvs1 (.inr "notes") (.ref r5)))) b := b12.other ndb
    have mu : But b H (upd HD d (.dK (putK kvs1 (.inr "notes") (.ref r5)))) := fun a o na e => (upd_ne (ne_of_none e hd0')).trans (u12 _ _ na e)
    have mq : upd HD d (.dK (putK kvs1 (.inr "notes") (.ref r5))) q = some (.lst (ns.map V.str)) := (upd_ne (ne_of hq12 hd12 fun z => nomatch z)).trans hq12
    have mz := mu _ _ nzb hz
    generalize upd HD d (.dK (putK kvs1 (.inr "notes") (.ref r5))) = HE at *
    generalize putK kvs1 (.inr "notes") (.ref r5) = kvs2 at *
    try dsimp only
    clear j1 j2 j4 i1 i2 jd jt jb ju jq jz k10 k12 h12r hq12 hd12 hd10 h10r hq10 u10 u12 u9 u11 b9 b11 b10 b12 s10 s12 hr4 hr5 hr4' hr5'
    -- told numbers
    have n3q : r3 ≠ q := fun z => by rw [z, mq] at mt; have e := Option.some.inj mt; injection e with e; have := congrArg List.length e; rw [lns] at this; cases this
    refine rng_go (cons_go (op_go ?_))
    refine ⟨_, rfl, _, rfl, z, _, _, _, rfl, rfl, SqT.of mz, rfl, b, s7, rfl, mb, by omega, by omega, fun e4 x y w e40 e41 => ⟨_, _, rfl, rfl, ?_⟩⟩
    have u13 : But b HE (upd HE b (.lst [.int x, .int y, .int w])) := But.upd'
    have b13 : Box (upd HE b (.lst [.int x, .int y, .int w])) b := Box.upd'
    generalize upd HE b (.lst [.int x, .int y, .int w]) = HF at *
    obtain ⟨N, eN⟩ : ∃ t : Nat, 1 + e4 = (t : Int) := ⟨(1 + e4).toNat, by omega⟩
    have N1 : 1 ≤ N ∧ N ≤ 50 := by omega
    refine ⟨1 + e4, rfl, by omega, by omega, ?_⟩
    rw [eN]
    refine for_range (lo := 0) (n := N) (fun i σ H' => KpE (fun a => a = b ∨ a = r3) HF H' ∧ Box H' b ∧ ∃ (ts : List Int) (x6 : Option V), σ = [some (.ref b), some (.ref z), some (.ref q), some (.int (m : Int)), some (.int (sp : Int)), some (.ref d), x6, none, none, none] ∧ H' r3 = some (.lst (ts.map V.int)) ∧ ts.length = i ∧ ∀ n ∈ ts, -999999 ≤ n ∧ n ≤ 999999) ⟨KpE.refl _ _, b13, [], _, rfl, u13 _ _ n3b mt, rfl, (fun _ h => nomatch h)⟩ ?_ ?_
    · rintro i σ HG hi ⟨kG, bG, ts, x6, rfl, hG, lts, ots⟩
      have dG := kG _ _ (ex3b ndb n3d.symm) (u13 _ _ ndb md)
      have gG : DGet HG d (.str "told") (some (.ref r3)) := by rw [← mk]; exact DGet.k (k := .inr "told") dG
      refine name_go ?_
      refine ⟨_, rfl, d, _, rfl, gG, .inl ⟨rfl, _, SqL.of hG⟩, ?_⟩
      refine ⟨_, rfl, b, 999999, rfl, bG, by decide, by decide, fun HI n uI bI on => ?_⟩
      have hI := uI _ _ n3b hG
      refine ⟨r3, _, _, rfl, rfl, hI, by rw [List.length_map]; omega, ?_⟩
      refine ⟨kG.trans fun a o na e => (upd_ne fun z => na (.inr z)).trans (uI _ _ (fun z => na (.inl z)) e), bI.other n3b, ts ++ [n], _, rfl, by rw [List.map_append]; exact upd_same, by rw [List.length_append, lts]; rfl, ?_⟩
      intro n' hn'
      rcases List.mem_append.mp hn' with h | h
      · exact ots _ h
      · rw [List.mem_singleton.mp h]; omega
    · rintro σ HG ⟨kG, bG, ts, x6, rfl, hG, lts, ots⟩
      -- the book of names and numbers
      have dG := kG _ _ (ex3b ndb n3d.symm) (u13 _ _ ndb md)
      have kEF : KpE (fun a => a = b ∨ a = r3) HE HF := KpE.but (.inl rfl) u13
      have bkG : BkAt HG (· = b) d ⟨ns.take sp, (ns.drop sp).take (m - sp), ts, (ns.drop 4).take (t1 - 4), (ns.drop 6).take (t2 - 6), [], [], []⟩ kvs2 :=
        ⟨dG, ndb, ((m1'.kp kEF).kp kG).mono fun a e => .inl e, ((m2'.kp kEF).kp kG).mono fun a e => .inl e, ⟨r3, mk, n3b, hG⟩, ((m4'.kp kEF).kp kG).mono fun a e => .inl e, ((m5'.kp kEF).kp kG).mono fun a e => .inl e⟩
      have bok : BkOk ⟨ns.take sp, (ns.drop sp).take (m - sp), ts, (ns.drop 4).take (t1 - 4), (ns.drop 6).take (t2 - 6), [], [], []⟩ := by
        refine ⟨?_, ?_, ?_, ?_, ?_, ?_, ?_, ?_, ots⟩
        · simp only [List.length_append, List.length_take, List.length_drop]; omega
        · intro z; have : ts.length = 0 := by rw [show ts = [] from z]; rfl
          omega
        · show ts.length ≤ 100; omega
        · intro z; have := congrArg List.length (show ns.take sp = [] from z); rw [List.length_take] at this; have : min sp ns.length = 0 := this; omega
        · intro z; have := congrArg List.length (show (ns.drop 4).take (t1 - 4) = [] from z); rw [List.length_take, List.length_drop] at this; have : min (t1 - 4) (ns.length - 4) = 0 := this; omega
        · intro s hs
          rcases List.mem_append.mp hs with h | h
          · exact okn s (List.mem_of_mem_take h)
          · exact okn s (List.mem_of_mem_drop (List.mem_of_mem_take h))
        · intro s hs
          rcases List.mem_append.mp hs with h | h
          · exact okn s (List.mem_of_mem_drop (List.mem_of_mem_take h))
          · exact okn s (List.mem_of_mem_drop (List.mem_of_mem_take h))
        · have e : ns.take sp ++ (ns.drop sp).take (m - sp) = ns.take m := by
            rw [← List.take_add, show sp + (m - sp) = m by omega]
          show (ns.take sp ++ (ns.drop sp).take (m - sp)).Nodup
          rw [e]
          exact nd.sublist (List.take_sublist _ _)
      have uG : But b H HG := fun a o na e => by
        have n3 : a ≠ r3 := fun z => by
          have : H r3 = some o := by rw [← z]; exact e
          have h2 := u3 _ _ n3b this
          have h3 : H3 r3 = none := hr30
          rw [h3] at h2; cases h2
        exact kG _ _ (ex3b na n3) (u13 _ _ na (mu _ _ na e))
      have hqG := kG _ _ (ex3b nqb n3q.symm) (u13 _ _ nqb mq)
      have hzG := uG _ _ nzb hz
      generalize hB : (⟨ns.take sp, (ns.drop sp).take (m - sp), ts, (ns.drop 4).take (t1 - 4), (ns.drop 6).take (t2 - 6), [], [], []⟩ : BookD) = B0 at *
      clear m1' m2' m4' m5' mt md mk mu mq mz mb kEF kG u13 b13
      try dsimp only
      -- worths
      refine seq_go ?_
      refine ⟨_, rfl, _, rfl, z, _, _, _, rfl, rfl, SqT.of hzG, rfl, _, _, rfl, rfl, b, s3 + 1, rfl, bG, by omega, by omega, fun e5 x y w e50 e51 => ?_⟩
      have uH : But b HG (upd HG b (.lst [.int x, .int y, .int w])) := But.upd'
      have bH : Box (upd HG b (.lst [.int x, .int y, .int w])) b := Box.upd'
      have bkH := bkG.kp (KpE.but (ex := (· = b)) rfl uH)
      generalize upd HG b (.lst [.int x, .int y, .int w]) = HH at *
      obtain ⟨N2, eN2⟩ : ∃ t : Nat, e5 = (t : Int) := ⟨e5.toNat, by omega⟩
      have N2b : N2 ≤ 50 := by omega
      refine ⟨e5, rfl, by omega, by omega, ?_⟩
      rw [eN2]
      refine fun D hD => lc_range (lo := 0) (n := N2) (fun j H' => KpE (· = b) HH H' ∧ Box H' b ∧ ∃ ws es, H' D = some (.lst ws) ∧ Paired (WorthAt H') ws es ∧ es.length = j ∧ ∀ e ∈ es, okWorth B0 e) ⟨KpE.of (new_at hD).1, bH.keep (new_at hD).1, [], [], upd_same, .nil, rfl, (fun _ h => nomatch h)⟩ ?_ ?_
      · rintro jj HI hjj ⟨kI, bI, ws, es, hDI, pw, le, oe⟩
        have nDb : D ≠ b := fun z => by obtain ⟨x, y, w, e⟩ := bH; rw [← z, hD] at e; cases e
        refine name_go ⟨rfl, ?_⟩
        unfold tYes
        refine iteSe rfl ?_
        refine ⟨_, rfl, _, rfl, b, d, B0, kvs2, rfl, bI, bkH.kp kI, bok, fun HJ v e uJ bJ we oke => ?_⟩
        have hDJ := uJ _ _ nDb hDI
        have tJ := tup_but bI uJ
        refine ⟨ws, hDJ, by rw [pw.len]; omega, ?_⟩
        have tA : TupKp HJ (upd HJ D (.lst (ws ++ [v]))) := TupKp.upd' hDJ fun xs z => nomatch z
        refine ⟨fun a o na e => (upd_ne (ne_of_none e hD)).trans (uJ _ _ na (kI _ _ na e)), bJ.other nDb, ws ++ [v], es ++ [e], upd_same, ?_, by rw [List.length_append, le]; rfl, ?_⟩
        · exact Paired.app (pw.mapP' fun _ _ z => (z.kp tJ).kp tA) (.cons (we.kp tA) .nil)
        · intro e' he'
          rcases List.mem_append.mp he' with h | h
          · exact oe _ h
          · rw [List.mem_singleton.mp h]; exact oke
      · rintro HI ⟨kI, bI, ws, wes, hDI, pw, lwe, owe⟩
        have nDb : D ≠ b := fun z => by obtain ⟨x, y, w, e⟩ := bH; rw [← z, hD] at e; cases e
        have bkI := bkH.kp kI
        have nDd : D ≠ d := ne_of hDI bkI.at' fun z => nomatch z
        refine ⟨_, rfl, d, _, rfl, DPut.k (k := .inr "worths") bkI.at' (by omega), ?_⟩
        have bkJ := bkI.put (k := "worths") (v := .ref D) (by decide) (by decide) (by decide) (by decide) (by decide)
        have wJ : InD (upd HI d (.dK (putK kvs2 (.inr "worths") (.ref D)))) (· = b) _ "worths" ws := InD.put' bkI.at' nDb hDI
        have tJ : TupKp HI (upd HI d (.dK (putK kvs2 (.inr "worths") (.ref D)))) := TupKp.upd' bkI.at' fun xs z => nomatch z
        have pJ := pw.mapP' fun _ _ z => z.kp tJ
        have bJ : Box (upd HI d (.dK (putK kvs2 (.inr "worths") (.ref D)))) b := bI.other ndb
        have uJ : But b H (upd HI d (.dK (putK kvs2 (.inr "worths") (.ref D)))) := fun a o na e => (upd_ne (ne_of_none e hd0')).trans (kI _ _ na (uH _ _ na (uG _ _ na e)))
        have hqI := kI _ _ nqb (uH _ _ nqb hqG)
        have qJ : upd HI d (.dK (putK kvs2 (.inr "worths") (.ref D))) q = some (.lst (ns.map V.str)) := (upd_ne (ne_of hqI bkI.at' fun z => nomatch z)).trans hqI
        have lJ : (putK kvs2 (.inr "worths") (.ref D)).length ≤ 6 := Nat.le_trans (length_putK _ _ _) (by omega)
        have zJ := uJ _ _ nzb hz
        generalize upd HI d (.dK (putK kvs2 (.inr "worths") (.ref D))) = HJ at *
        generalize putK kvs2 (.inr "worths") (.ref D) = kvs3 at *
        try dsimp only
        -- the events' names, how many rows may be
        refine seq_asg ?_
        refine ⟨_, rfl, (8 : Int), rfl, _, rfl, _, rfl, z, _, _, _, rfl, rfl, SqT.of zJ, rfl, b, s4, rfl, bJ, by omega, by omega, fun e6 x y w e60 e61 => ?_⟩
        have uK : But b HJ (upd HJ b (.lst [.int x, .int y, .int w])) := But.upd'
        have bK : Box (upd HJ b (.lst [.int x, .int y, .int w])) b := Box.upd'
        have tK := tup_but bJ uK
        generalize upd HJ b (.lst [.int x, .int y, .int w]) = HK at *
        obtain ⟨t3, et3⟩ : ∃ t : Nat, 9 + e6 = (t : Int) := ⟨(9 + e6).toNat, by omega⟩
        have t39 : 9 ≤ t3 ∧ t3 ≤ 14 := by omega
        refine ⟨_, _, rfl, rfl, _, rfl, q, _, rfl, SqL.of (uK _ _ nqb qJ), fun r6 hr6 => ?_⟩
        rw [et3, show (8 : Int) = ((8 : Nat) : Int) from rfl, cutAB (by rw [lns]; omega) (by rw [lns]; omega), ← List.map_drop, ← List.map_take]
        obtain ⟨s14, h6⟩ := new_at (o := .lst (((ns.drop 8).take (t3 - 8)).map V.str)) hr6
        have n6b : r6 ≠ b := new_ne bK.ne hr6
        have uL : But b HJ (upd HK r6 (.lst (((ns.drop 8).take (t3 - 8)).map V.str))) := uK.trans (Same.but s14)
        have bL := bK.keep s14
        have tL := tK.trans (TupKp.of s14)
        generalize upd HK r6 (.lst (((ns.drop 8).take (t3 - 8)).map V.str)) = HL at *
        have zL := uL _ _ nzb zJ
        refine ⟨_, rfl, z, _, _, _, rfl, rfl, SqT.of zL, rfl, _, rfl, z, _, _, _, rfl, rfl, SqT.of zL, rfl, (by decide : 2 ≤ sizeLine), fun l hl0 => ⟨(by decide : 2 ≤ sizeLine), fun tp htp => ?_⟩⟩
        obtain ⟨s15, hl⟩ := new_at (o := .lst [V.int s5, V.int s6]) hl0
        have nlb : l ≠ b := new_ne bL.ne hl0
        have bkL : BkAt HL (ExBL b l) d B0 kvs3 := (bkJ.kp (KpE.but (ex := (· = b)) rfl uL)).exN hl0
        have wL : InD HL (ExBL b l) kvs3 "worths" ws := (wJ.kp (KpE.but (ex := (· = b)) rfl uL)).exN hl0
        have n6l : r6 ≠ l := ne_of_none h6 hl0
        have hl00 : H l = none := new_but (uJ.trans uL) bL hl0
        have uM : But b HJ (upd HL l (.lst [V.int s5, V.int s6])) := uL.trans (Same.but s15)
        have bM := bL.keep s15
        have tM := tL.trans (TupKp.of s15)
        have h6M := s15 _ _ h6
        change upd HL l (.lst [V.int s5, V.int s6]) tp = none at htp
        change gTup _ _ _ _ _ (upd (upd HL l (.lst [V.int s5, V.int s6])) tp _) _
        generalize upd HL l (.lst [V.int s5, V.int s6]) = HM at *
        obtain ⟨s16, htp'⟩ := new_at (o := .tup [V.ref r6, V.ref l]) htp
        have uN : But b HJ (upd HM tp (.tup [V.ref r6, V.ref l])) := uM.trans (Same.but s16)
        have bN := bM.keep s16
        have tN := tM.trans (TupKp.of s16)
        have h6N := s16 _ _ h6M
        have hlN := s16 _ _ hl
        change gTup _ _ _ _ _ (upd HM tp (.tup [V.ref r6, V.ref l])) _
        generalize upd HM tp (.tup [V.ref r6, V.ref l]) = HN at *
        refine ⟨tp, _, rfl, SqT.of htp', rfl, _, _, rfl, _, _, rfl, rfl, ?_⟩
        try dsimp only
        have bkN : BkAt HN (ExBL b l) d B0 kvs3 := bkL.kp (KpE.of (s15.trans s16))
        have wN : InD HN (ExBL b l) kvs3 "worths" ws := wL.kp (KpE.of (s15.trans s16))
        have pN := pJ.mapP' fun _ _ z => z.kp tN
        have uHN : But b H HN := uJ.trans uN
        clear bkL wL bkJ wJ pJ uJ bJ tJ qJ zJ uK bK tK s14 h6 uL bL tL zL s15 hl uM bM tM h6M s16 htp htp' uN hl0 hr6
        refine seq_go ?_
        obtain ⟨evn, eevn⟩ : ∃ evn, (ns.drop 8).take (t3 - 8) = evn := ⟨_, rfl⟩
        rw [eevn] at h6N
        have levn : evn.length = t3 - 8 := by rw [← eevn, List.length_take, List.length_drop]; omega
        obtain ⟨ev0, evr, ecv⟩ : ∃ x r, evn = x :: r := by cases evn with
          | nil => simp at levn; omega
          | cons x r => exact ⟨x, r, rfl⟩
        have okevn : ∀ s ∈ evn, nameB s = true := fun s hs => by rw [← eevn] at hs; exact okn s (List.mem_of_mem_drop (List.mem_of_mem_take hs))
        refine ⟨_, rfl, r6, rfl, ⟨_, SqL.of h6N⟩, fun D2 hD2 => lc_it (walk_list (xs := evn.map V.str)) (fun i H' => KpE (· = b) HN H' ∧ Box H' b ∧ ∃ es fs, H' D2 = some (.lst es) ∧ Paired (EventE H' (fun a => ExBL b l a ∨ a = D2)) es fs ∧ fs.map (·.name) = evn.take i ∧ ∀ e ∈ fs, okEvent B0 e) ⟨KpE.of (new_at hD2).1, bN.keep (new_at hD2).1, [], [], upd_same, .nil, rfl, (fun _ h => nomatch h)⟩ (fun i H' _ z => SqL.of (z.1 _ _ n6b h6N)) ?_ ?_⟩
        · rintro ii y HO' HO hii ⟨kO, bO, es, fs, hDO, pe, ne, oe⟩ ⟨rfl, ey⟩
          have nDb : D2 ≠ b := fun z => by obtain ⟨x, y, w, e⟩ := bN; rw [← z, hD2] at e; cases e
          have hii' : ii < evn.length := by rw [List.length_map] at hii; exact hii
          rw [List.getElem?_map, List.getElem?_eq_getElem hii'] at ey
          obtain rfl : V.str evn[ii] = y := Option.some.inj ey
          refine name_go ⟨rfl, ?_⟩
          unfold tYes
          refine iteSe rfl ?_
          have h6O := kO _ _ n6b h6N
          refine ⟨_, rfl, _, rfl, _, rfl, _, rfl, _, rfl, r6, _, _, _, rfl, rfl, SqL.of h6O, (by rw [ecv]; exact atI_nat (j := 0) rfl : atI (evn.map V.str) 0 = some (.str ev0)), rfl, ?_⟩
          refine ⟨b, d, evn[ii], _, B0, kvs3, rfl, bO, (bkN.mono (ex' := (· = b)) fun a e => .inl e).kp kO, bok, okevn _ (List.getElem_mem hii'), fun HP p o e uP bP ho0 hp ho en oke => ?_⟩
          have hDP := uP _ _ nDb hDO
          have tP := tup_but bO uP
          have nob : o ≠ b := fun z => by obtain ⟨x, y, w, e'⟩ := bO; rw [z, e'] at ho0; cases ho0
          have nol : o ≠ l := fun z => by have := kO _ _ nlb hlN; rw [← z, ho0] at this; cases this
          have noD : o ≠ D2 := fun z => by rw [z, hDO] at ho0; cases ho0
          refine ⟨es, hDP, ?_, ?_⟩
          · have := congrArg List.length ne
            rw [List.length_map, List.length_take] at this
            rw [pe.len]; omega
          have tA : TupKp HP (upd HP D2 (.lst (es ++ [V.ref p]))) := TupKp.upd' hDP fun xs z => nomatch z
          have kA : KpE (fun a => ExBL b l a ∨ a = D2) HP (upd HP D2 (.lst (es ++ [V.ref p]))) := fun a u na e => (upd_ne fun z => na (.inr z)).trans e
          refine ⟨fun a u na e => (upd_ne (ne_of_none e hD2)).trans (uP _ _ na (kO _ _ na e)), bP.other nDb, es ++ [V.ref p], fs ++ [e], upd_same, ?_, ?_, ?_⟩
          · refine Paired.app (pe.mapP' fun _ _ z => (z.kp tP (KpE.but (.inl (.inl rfl)) uP)).kp tA kA) (.cons ?_ .nil)
            exact ⟨p, o, rfl, tA _ _ hp, (fun z => Or.elim z (fun z => Or.elim z nob nol) noD), (upd_ne noD).trans ho⟩
          · rw [List.map_append, ne, List.map_cons, List.map_nil, en]
            exact List.take_append_getElem hii'
          · intro e' he'
            rcases List.mem_append.mp he' with h | h
            · exact oe _ h
            · rw [List.mem_singleton.mp h]; exact oke
        · rintro HO ⟨kO, bO, es, fs, hDO, pe, ne, oe⟩
          have nDb : D2 ≠ b := fun z => by obtain ⟨x, y, w, e⟩ := bN; rw [← z, hD2] at e; cases e
          have nDl : D2 ≠ l := fun z => by rw [z, hlN] at hD2; cases hD2
          rw [List.length_map, List.take_length] at ne
          have kOE : KpE (ExBL b l) HN HO := KpE.mono (fun a e => .inl e) kO
          have bkO := bkN.kp kOE
          have wO := wN.kp kOE
          have tO : TupKp HN HO := fun a xs e => kO _ _ (fun z => by obtain ⟨x, y, w, q⟩ := bN; rw [z, q] at e; cases e) e
          have pO := pN.mapP' fun _ _ z => z.kp tO
          have nDd : D2 ≠ d := ne_of hDO bkO.at' fun z => nomatch z
          refine ⟨_, rfl, d, _, rfl, DPut.k (k := .inr "events") bkO.at' (by omega), ?_⟩
          have bkP := bkO.put (k := "events") (v := .ref D2) (by decide) (by decide) (by decide) (by decide) (by decide)
          have tP : TupKp HO (upd HO d (.dK (putK kvs3 (.inr "events") (.ref D2)))) := TupKp.upd' bkO.at' fun xs z => nomatch z
          have wP : InD (upd HO d (.dK (putK kvs3 (.inr "events") (.ref D2)))) (ExBL b l) _ "worths" ws := (wO.updD bkO.at').put (k' := "events") (v := .ref D2) (by decide)
          have eP : InD (upd HO d (.dK (putK kvs3 (.inr "events") (.ref D2)))) (ExBL b l) _ "events" es := InD.put' bkO.at' (fun z => Or.elim z nDb nDl) hDO
          have pwP := pO.mapP' fun _ _ z => z.kp tP
          have peP : Paired (EventE (upd HO d (.dK (putK kvs3 (.inr "events") (.ref D2)))) (ExBL b l)) es fs := pe.mapP' fun _ _ z => (z.mono fun a e => .inl e).updD bkO.at'
          have bP : Box (upd HO d (.dK (putK kvs3 (.inr "events") (.ref D2)))) b := bO.other ndb
          have ldl : d ≠ l := fun z => bkO.out (.inr z)
          have lP : upd HO d (.dK (putK kvs3 (.inr "events") (.ref D2))) l = some (.lst [.int s5, .int s6]) := (upd_ne ldl.symm).trans (kO _ _ nlb hlN)
          have h6P : upd HO d (.dK (putK kvs3 (.inr "events") (.ref D2))) r6 = some (.lst (evn.map V.str)) := (upd_ne (ne_of (kO _ _ n6b h6N) bkO.at' fun z => nomatch z)).trans (kO _ _ n6b h6N)
          have uP : But b H (upd HO d (.dK (putK kvs3 (.inr "events") (.ref D2)))) := fun a o na e => (upd_ne (ne_of_none e hd0')).trans (kO _ _ na (uHN _ _ na e))
          have lkP : (putK kvs3 (.inr "events") (.ref D2)).length ≤ 7 := Nat.le_trans (length_putK _ _ _) (by omega)
          clear pN wN bkN pO wO bkO kOE tO tP pe hDO kO bO bN tN h6N hlN
          generalize upd HO d (.dK (putK kvs3 (.inr "events") (.ref D2))) = HP at *
          generalize putK kvs3 (.inr "events") (.ref D2) = kvs4 at *
          try dsimp only
          -- handlers
          refine seq_go ?_
          refine ⟨Nat.zero_le _, fun r8 hr8 => ⟨_, rfl, d, _, rfl, DPut.k (k := .inr "handlers") ((new_at hr8).1 _ _ bkP.at') (by omega), ?_⟩⟩
          obtain ⟨s17, h8⟩ := new_at (o := .lst []) hr8
          have n8b : r8 ≠ b := new_ne bP.ne hr8
          have n8l : r8 ≠ l := fun z => by rw [z, lP] at hr8; cases hr8
          have bkQ := (bkP.exN hr8).kp (KpE.of s17)
          have wQ := (wP.exN hr8).kp (KpE.of s17)
          have eQ := (eP.exN hr8).kp (KpE.of s17)
          have pwQ := pwP.mapP' fun _ _ z => z.kp (TupKp.of s17)
          have peQ := peP.mapP' fun _ _ z => (z.exN hr8).kp (TupKp.of s17) (KpE.of s17)
          have bQ := bP.keep s17
          have lQ := s17 _ _ lP
          have h6Q := s17 _ _ h6P
          have uQ := uP.trans (Same.but s17)
          have n86 : r6 ≠ r8 := ne_of_none h6P hr8
          generalize upd HP r8 (.lst []) = HQ at *
          have hr80 : H r8 = none := new_but uP bP hr8
          have n8d : r8 ≠ d := ne_of h8 bkQ.at' fun z => nomatch z
          have bkR := bkQ.put (k := "handlers") (v := .ref r8) (by decide) (by decide) (by decide) (by decide) (by decide)
          have tR : TupKp HQ (upd HQ d (.dK (putK kvs4 (.inr "handlers") (.ref r8)))) := TupKp.upd' bkQ.at' fun xs z => nomatch z
          have wR : InD (upd HQ d (.dK (putK kvs4 (.inr "handlers") (.ref r8)))) (fun a => ExBL b l a ∨ a = r8) _ "worths" ws := (wQ.updD bkQ.at').put (k' := "handlers") (v := .ref r8) (by decide)
          have eR : InD (upd HQ d (.dK (putK kvs4 (.inr "handlers") (.ref r8)))) (fun a => ExBL b l a ∨ a = r8) _ "events" es := (eQ.updD bkQ.at').put (k' := "handlers") (v := .ref r8) (by decide)
          have hvR : valV (putK kvs4 (.inr "handlers") (.ref r8)) (.inr "handlers") = some (.ref r8) := by rw [valV_put, if_pos rfl]
          have pwR := pwQ.mapP' fun _ _ z => z.kp tR
          have peR : Paired (EventE (upd HQ d (.dK (putK kvs4 (.inr "handlers") (.ref r8)))) (fun a => ExBL b l a ∨ a = r8)) es fs := peQ.mapP' fun _ _ z => z.updD bkQ.at'
          have bR : Box (upd HQ d (.dK (putK kvs4 (.inr "handlers") (.ref r8)))) b := bQ.other ndb
          have lR : upd HQ d (.dK (putK kvs4 (.inr "handlers") (.ref r8))) l = some (.lst [.int s5, .int s6]) := (upd_ne ldl.symm).trans lQ
          have h8R : upd HQ d (.dK (putK kvs4 (.inr "handlers") (.ref r8))) r8 = some (.lst []) := (upd_ne n8d).trans h8
          have h6R : upd HQ d (.dK (putK kvs4 (.inr "handlers") (.ref r8))) r6 = some (.lst (evn.map V.str)) := (upd_ne (ne_of h6Q bkQ.at' fun z => nomatch z)).trans h6Q
          have uR : But b H (upd HQ d (.dK (putK kvs4 (.inr "handlers") (.ref r8)))) := fun a o na e => (upd_ne (ne_of_none e hd0')).trans (uQ _ _ na e)
          clear bkP wP eP pwP peP bP lP h6P uP s17 hr8 bkQ wQ eQ pwQ peQ bQ lQ h6Q uQ tR h8
          generalize upd HQ d (.dK (putK kvs4 (.inr "handlers") (.ref r8))) = HR at *
          generalize putK kvs4 (.inr "handlers") (.ref r8) = kvs5 at *
          try dsimp only
          refine seq_go ?_
          refine ⟨_, rfl, _, rfl, b, r6, _, rfl, bR, h6R, n6b, by rw [List.length_map]; omega, fun HS mx mxs uS bS nmb hm0 hmx pmx => ?_⟩
          obtain ⟨mm, rfl, pmm⟩ := perm_strs pmx
          have nml : mx ≠ l := fun z => by rw [z, lR] at hm0; cases hm0
          have nm8 : mx ≠ r8 := fun z => by rw [z, h8R] at hm0; cases hm0
          have kRS : KpE (fun a => ExBL b l a ∨ a = r8) HR HS := KpE.but (.inl (.inl rfl)) uS
          have tRS := tup_but bR uS
          have bkS := bkR.kp kRS
          have wS := wR.kp kRS
          have eS := eR.kp kRS
          have pwS := pwR.mapP' fun _ _ z => z.kp tRS
          have peS := peR.mapP' fun _ _ z => z.kp tRS kRS
          have lS : LeftAt HS l := ⟨_, _, uS _ _ nlb lR⟩
          have h8S := uS _ _ n8b h8R
          have uS0 : But b H HS := uR.trans uS
          have ndm : mm.Nodup := pmm.nodup_iff.mpr (by rw [← eevn]; exact nd.sublist ((List.take_sublist _ _).trans (List.drop_sublist _ _)))
          clear bkR wR eR pwR peR bR lR h8R uR kRS tRS h6R
          refine ⟨mx, rfl, ⟨_, SqL.of hmx⟩, for_it (walk_list (xs := mm.map V.str)) (fun i σ H' => KpE (fun a => ExBL b l a ∨ a = r8) HS H' ∧ TupKp HS H' ∧ Box H' b ∧ LeftAt H' l ∧ ∃ (hs : List V) (hds : List (Str × List RowD)) (x9 : Option V), σ = [some (.ref b), some (.ref z), some (.ref q), some (.int (m : Int)), some (.int (sp : Int)), some (.ref d), x6, some (.ref r6), some (.ref l), x9] ∧ H' r8 = some (.lst hs) ∧ Paired (HandlerAt H') hs hds ∧ (∀ e ∈ hds, e.1 ∈ mm.take i ∧ okRowL B0 e.2 3 ∧ e.2.length ≤ 3) ∧ (hds.map (·.1)).Nodup ∧ hds.length ≤ i)
            ⟨KpE.refl _ _, TupKp.refl _, bS, lS, [], [], _, rfl, h8S, .nil, (fun _ h => nomatch h), List.nodup_nil, Nat.le_refl _⟩ (fun i σ H' _ y => SqL.of (y.1 _ _ (fun z => Or.elim z (fun z => Or.elim z nmb nml) nm8) hmx)) ?_ ?_⟩
          · rintro ii y σ HT' HT hii ⟨kT, tT, bT, lT, hs, hds, x9, rfl, h8T, ph, oh, nh, lh⟩ ⟨rfl, ey⟩
            have hii' : ii < mm.length := by rw [List.length_map] at hii; exact hii
            rw [List.getElem?_map, List.getElem?_eq_getElem hii'] at ey
            obtain rfl : V.str mm[ii] = y := Option.some.inj ey
            refine name_go ?_
            try dsimp only
            refine ⟨_, rfl, b, 6, rfl, bT, by decide, by decide, fun e7 x y w e70 e71 => ?_⟩
            have uU : But b HT (upd HT b (.lst [.int x, .int y, .int w])) := But.upd'
            have bU : Box (upd HT b (.lst [.int x, .int y, .int w])) b := Box.upd'
            have tU := tup_but bT uU
            have lU := lT.keep' fun o e => uU _ _ nlb e
            have h8U := uU _ _ n8b h8T
            generalize upd HT b (.lst [.int x, .int y, .int w]) = HU at *
            have kU : KpE (fun a => ExBL b l a ∨ a = r8) HS HU := kT.trans (KpE.but (.inl (.inl rfl)) uU)
            have tSU := tT.trans tU
            have phU := ph.mapP' fun _ _ z => z.kp tU
            refine ⟨_, _, rfl, rfl, _, rfl, ite2 (fun _ => ?_) (fun _ => next_go ?_)⟩
            · have bkU := bkS.kp kU
              have gU : DGet HU d (.str "handlers") (some (.ref r8)) := by rw [← hvR]; exact DGet.k (k := .inr "handlers") bkU.at'
              refine ⟨_, rfl, d, _, rfl, gU, .inl ⟨rfl, _, SqL.of h8U⟩, ?_⟩
              refine cons_go (tup_go (cons_go ⟨_, rfl, cons_go ?_⟩))
              refine ⟨_, rfl, _, rfl, _, rfl, b, d, l, 3, B0, kvs5, rfl, rfl, bU, lU, nlb, bkU.mono (fun a e => .inl e), bok, fun HV qq xs rs kV bV lV hqq rl orl lr => ⟨(by decide : 2 ≤ sizeLine), fun p hp => ?_⟩⟩
              have tV : TupKp HU HV := tupE bU lU kV
              have h8V := kV _ _ (fun z => Or.elim z n8b n8l) h8U
              obtain ⟨s18, hp'⟩ := new_at (o := .tup [V.str mm[ii], V.ref qq]) hp
              have h8W := s18 _ _ h8V
              have bW := bV.keep s18
              have lW := lV.keep' fun o e => s18 _ _ e
              have tW := tV.trans (TupKp.of s18)
              have hqW := s18 _ _ hqq
              have rlW := rl.kp (TupKp.of s18)
              have kW : KpE (fun a => ExBL b l a ∨ a = r8) HS (upd HV p (.tup [V.str mm[ii], V.ref qq])) := (kU.trans (KpE.mono (fun a e => .inl e) kV)).trans (KpE.of s18)
              generalize upd HV p (.tup [V.str mm[ii], V.ref qq]) = HW at *
              have tX : TupKp HW (upd HW r8 (.lst (hs ++ [V.ref p]))) := TupKp.upd' h8W fun xs z => nomatch z
              refine ⟨r8, hs, V.ref p, rfl, rfl, h8W, ?_, ?_⟩
              · have h1 := ph.len
                have h3 := pmm.length_eq
                omega
              refine ⟨kW.trans fun a o na e => (upd_ne fun z => na (.inr z)).trans e, (tSU.trans tW).trans tX, bW.other n8b, lW.keep' fun o e => (upd_ne n8l.symm).trans e, hs ++ [V.ref p], hds ++ [(mm[ii], rs)], _, rfl, upd_same, ?_, ?_, ?_, by rw [List.length_append]; show _ + 1 ≤ _; omega⟩
              · exact Paired.app (phU.mapP' fun _ _ z => (z.kp tW).kp tX) (.cons ⟨p, qq, xs, rfl, tX _ _ hp', tX _ _ hqW, rlW.kp tX⟩ .nil)
              · intro e he
                rcases List.mem_append.mp he with h | h
                · obtain ⟨h1, h2⟩ := oh e h
                  exact ⟨by rw [← List.take_append_getElem hii']; exact List.mem_append_left _ h1, h2⟩
                · cases List.mem_singleton.mp h
                  exact ⟨by rw [← List.take_append_getElem hii']; exact List.mem_append_right _ (List.mem_singleton_self _), orl, lr⟩
              · rw [List.map_append, List.nodup_append]
                refine ⟨nh, by simp, fun x hx y hy e => ?_⟩
                rw [List.map_cons, List.map_nil, List.mem_singleton] at hy
                subst hy
                subst e
                obtain ⟨e', he', ex'⟩ := List.mem_map.mp hx
                have h1 := (oh e' he').1
                rw [ex'] at h1
                have ndm' := ndm
                rw [← List.take_append_drop ii mm, List.nodup_append] at ndm'
                refine ndm'.2.2 _ h1 _ ?_ rfl
                rw [List.drop_eq_getElem_cons hii']
                exact List.mem_cons_self
            · refine ⟨kU, tSU, bU, lU, hs, hds, _, rfl, h8U, phU, (fun e he => ?_), nh, by omega⟩
              obtain ⟨h1, h2⟩ := oh e he
              exact ⟨by rw [← List.take_append_getElem hii']; exact List.mem_append_left _ h1, h2⟩
          · rintro σ HT ⟨kT, tT, bT, lT, hs, hds, x9, rfl, h8T, ph, oh, nh, lh⟩
            refine ⟨_, rfl, ?_⟩
            have bkT := bkS.kp kT
            subst hB
            refine k HT d ⟨ns.take sp, (ns.drop sp).take (m - sp), ts, (ns.drop 4).take (t1 - 4), (ns.drop 6).take (t2 - 6), wes, fs, hds⟩ kvs5 ?_ bT ?_ ?_
            · exact fun a o na e => kT _ _ (fun z => Or.elim z (fun z => Or.elim z na (ne_of_none e hl00)) (ne_of_none e hr80)) (uS0 _ _ na e)
            · have bkM := bkT.mono (ex' := (· = b)) fun a e => .inl (.inl e)
              refine ⟨⟨bkM.at', bkM.out, bkM.rests, bkM.passes, bkM.told, bkM.totals, bkM.notes⟩, ⟨ws, (wS.kp kT).mono fun a e => .inl (.inl e), pwS.mapP' fun _ _ z => z.kp tT⟩, ⟨es, (eS.kp kT).mono fun a e => .inl (.inl e), peS.mapP' fun _ _ z => (z.kp tT kT).mono fun a e => .inl (.inl e)⟩, ⟨hs, ⟨r8, hvR, n8b, h8T⟩, ph⟩⟩
            · have lns' : ns.length = 14 := ln
              have efs : fs.map (·.name) = evn := ne
              refine ⟨⟨bok.names, bok.told0, bok.told1, bok.rests0, bok.totals0, bok.kinds, bok.toks, bok.kindsNd, bok.nums⟩, ?_, ⟨owe, by show wes.length ≤ 100; omega⟩, ⟨oe, fun z => ?_, ?_⟩, ⟨fun e he => ?_, nh⟩⟩
              · show ((ns.take sp ++ (ns.drop sp).take (m - sp)) ++ ((ns.drop 4).take (t1 - 4) ++ ((ns.drop 6).take (t2 - 6) ++ fs.map (·.name)))).Nodup
                rw [efs, ← eevn]
                have e1 : ns.take sp ++ (ns.drop sp).take (m - sp) = (ns.take 4).take m := by
                  rw [List.take_take, Nat.min_eq_left m4, ← List.take_add, show sp + (m - sp) = m by omega]
                have e2 : (ns.drop 4).take (t1 - 4) = ((ns.drop 4).take 2).take (t1 - 4) := by rw [List.take_take, Nat.min_eq_left (by omega)]
                have e3 : (ns.drop 6).take (t2 - 6) = ((ns.drop 6).take 2).take (t2 - 6) := by rw [List.take_take, Nat.min_eq_left (by omega)]
                have all : ns = ns.take 4 ++ ((ns.drop 4).take 2 ++ ((ns.drop 6).take 2 ++ ns.drop 8)) := by
                  have a1 : (ns.drop 6).take 2 ++ ns.drop 8 = ns.drop 6 := by
                    have := List.take_append_drop 2 (ns.drop 6)
                    rw [List.drop_drop] at this
                    exact this
                  have a2 : (ns.drop 4).take 2 ++ ns.drop 6 = ns.drop 4 := by
                    have := List.take_append_drop 2 (ns.drop 4)
                    rw [List.drop_drop] at this
                    exact this
                  rw [a1, a2, List.take_append_drop]
                rw [e1, e2, e3]
                have nd' := nd
                rw [all] at nd'
                exact nd'.sublist ((List.take_sublist _ _).append ((List.take_sublist _ _).append ((List.take_sublist _ _).append (List.take_sublist _ _))))
              · have : fs.map (·.name) = [] := by rw [show fs = [] from z]; rfl
                rw [efs, ecv] at this
                cases this
              · have := congrArg List.length efs
                rw [List.length_map] at this
                show fs.length ≤ 6
                omega
              · obtain ⟨h1, h2, h3⟩ := oh e he
                refine ⟨?_, okRowL.cong ?_ h2, h3⟩
                · show e.1 ∈ fs.map (·.name)
                  rw [efs]
                  exact pmm.mem_iff.mp (List.mem_of_mem_take h1)
                · exact ⟨rfl, rfl, rfl, rfl, rfl⟩
end
end K14

namespace K14
open PySem L2 PySem.Spec PyProof.Rows
/-! ## the package's tests and rows as instances -/
/-- the classes: Was, OldBelow, NewBelow, Moved, Noted, Not, Add, Put, Mark, If -/
structure Pkg where
  CW : Addr
  CO : Addr
  CB : Addr
  CM : Addr
  CT : Addr
  CN : Addr
  CA : Addr
  CP : Addr
  CK : Addr
  CI : Addr
def Pkg.tests (p : Pkg) : List Addr := [p.CW, p.CO, p.CB, p.CM, p.CT, p.CN]
def Pkg.rows (p : Pkg) : List Addr := [p.CA, p.CP, p.CK, p.CI]
structure PkgK (K : PySem.W.Frag) (p : Pkg) (TS RW : Addr) : Prop where
  tests : ∀ C ∈ p.tests, ObjK K C ∧ PySem.W.kitOne K (.ref C) (.ref TS) = some true
  rows : ∀ C ∈ p.rows, ObjK K C ∧ PySem.W.kitOne K (.ref C) (.ref RW) = some true
/-- tuples and instances stay -/
def ObKp (H H' : Hp) : Prop := (∀ a xs, H a = some (.tup xs) → H' a = some (.tup xs)) ∧ ∀ a C dx fs, H a = some (.ins C dx fs) → H' a = some (.ins C dx fs)
theorem ObKp.refl (H : Hp) : ObKp H H := ⟨fun _ _ h => h, fun _ _ _ _ h => h⟩
theorem ObKp.trans {H H1 H2 : Hp} (s : ObKp H H1) (t : ObKp H1 H2) : ObKp H H2 := ⟨fun a xs h => t.1 a xs (s.1 a xs h), fun a C dx fs h => t.2 a C dx fs (s.2 a C dx fs h)⟩
theorem ObKp.of {H H' : Hp} (s : Same H H') : ObKp H H' := ⟨fun _ _ h => s _ _ h, fun _ _ _ _ h => s _ _ h⟩
theorem ObKp.tup {H H' : Hp} (s : ObKp H H') : TupKp H H' := s.1
theorem ObKp.lst {H : Hp} {a : Addr} {xs : List V} {o : HO} (h : H a = some (.lst xs)) : ObKp H (upd H a o) :=
  ⟨fun b ys e => by rw [upd_ne (ne_of e h fun z => nomatch z)]; exact e, fun b C dx fs e => by rw [upd_ne (ne_of e h fun z => nomatch z)]; exact e⟩
theorem ObKp.but {b : Addr} {H H' : Hp} (hb : Box H b) (u : But b H H') : ObKp H H' := by
  obtain ⟨x, y, z, q⟩ := hb
  exact ⟨fun a ys e => u _ _ (ne_of e q fun z => nomatch z) e, fun a C dx fs e => u _ _ (ne_of e q fun z => nomatch z) e⟩
def TestOb (p : Pkg) (H : Hp) : V → TestD → Prop
  | v, .was k => ∃ a dx, v = .ref a ∧ H a = some (.ins p.CW dx [("kind", .str k)])
  | v, .cut o n => ∃ a dx, v = .ref a ∧ H a = some (.ins (if o then p.CO else p.CB) dx [("number", .int n)])
  | v, .moved => ∃ a dx, v = .ref a ∧ H a = some (.ins p.CM dx [])
  | v, .noted => ∃ a dx, v = .ref a ∧ H a = some (.ins p.CT dx [])
  | v, .not t => ∃ a dx u, v = .ref a ∧ H a = some (.ins p.CN dx [("test", u)]) ∧ TestOb p H u t
theorem TestOb.kp {p : Pkg} {H H' : Hp} (s : ObKp H H') : ∀ {t : TestD} {v : V}, TestOb p H v t → TestOb p H' v t
  | .was _, _, ⟨a, dx, e, h⟩ => ⟨a, dx, e, s.2 _ _ _ _ h⟩
  | .cut _ _, _, ⟨a, dx, e, h⟩ => ⟨a, dx, e, s.2 _ _ _ _ h⟩
  | .moved, _, ⟨a, dx, e, h⟩ => ⟨a, dx, e, s.2 _ _ _ _ h⟩
  | .noted, _, ⟨a, dx, e, h⟩ => ⟨a, dx, e, s.2 _ _ _ _ h⟩
  | .not t, _, ⟨a, dx, u, e, h, r⟩ => ⟨a, dx, u, e, s.2 _ _ _ _ h, TestOb.kp s r⟩
theorem TestOb.cls {p : Pkg} {H : Hp} {t : TestD} {v : V} (h : TestOb p H v t) : ∃ a C dx fs, v = .ref a ∧ H a = some (.ins C dx fs) ∧ C ∈ p.tests := by
  cases t with
  | was k => obtain ⟨a, dx, e, h⟩ := h; exact ⟨a, _, dx, _, e, h, by simp [Pkg.tests]⟩
  | cut o n => obtain ⟨a, dx, e, h⟩ := h; exact ⟨a, _, dx, _, e, h, by cases o <;> simp [Pkg.tests]⟩
  | moved => obtain ⟨a, dx, e, h⟩ := h; exact ⟨a, _, dx, _, e, h, by simp [Pkg.tests]⟩
  | noted => obtain ⟨a, dx, e, h⟩ := h; exact ⟨a, _, dx, _, e, h, by simp [Pkg.tests]⟩
  | not t => obtain ⟨a, dx, u, e, h, _⟩ := h; exact ⟨a, _, dx, _, e, h, by simp [Pkg.tests]⟩
/-- the empty tuple of the text at t -/
structure NoRows (K : PySem.W.Frag) (t : Addr) : Prop where
  ex : ∃ (o : Obj) (n : Nat), K.lookup t = some o ∧ o.cls = .type "tuple" ∧ o.data = .seq #[] n
theorem NoRows.sq {K : PySem.W.Frag} {t : Addr} (h : NoRows K t) (H : Hp) : SqT K H t [] := by
  obtain ⟨o, n, l, c, d⟩ := h.ex
  exact .inr ⟨o, _, n, l, c, d, Nat.zero_le _, .nil⟩
/-- a tuple of the run, or the text's empty one -/
def Tp (K : PySem.W.Frag) (H : Hp) (a : Addr) (xs : List V) : Prop := H a = some (.tup xs) ∨ (xs = [] ∧ NoRows K a)
theorem Tp.kp {K : PySem.W.Frag} {H H' : Hp} {a : Addr} {xs : List V} (s : ObKp H H') (h : Tp K H a xs) : Tp K H' a xs := h.elim (fun h => .inl (s.1 _ _ h)) .inr
theorem Tp.sq {K : PySem.W.Frag} {H : Hp} {a : Addr} {xs : List V} (h : Tp K H a xs) : SqT K H a xs := by
  rcases h with h | ⟨rfl, h⟩
  · exact SqT.of h
  · exact h.sq H
mutual
def RowOb (K : PySem.W.Frag) (p : Pkg) (H : Hp) : RowD → V → Prop
  | .ife t a b, v => ∃ x dx u r o xs ys, v = .ref x ∧ H x = some (.ins p.CI dx [("test", u), ("rows", .ref r), ("others", .ref o)]) ∧ TestOb p H u t ∧ Tp K H r xs ∧ RowObL K p H a xs ∧ Tp K H o ys ∧ RowObL K p H b ys
  | .add f w t pl, v => ∃ x dx, v = .ref x ∧ H x = some (.ins p.CA dx [("factor", .int f), ("what", .str w), ("total", .str t), ("place", .str pl)])
  | .put n w, v => ∃ x dx, v = .ref x ∧ H x = some (.ins p.CP dx [("note", .str n), ("what", .str w)])
  | .mark pl, v => ∃ x dx, v = .ref x ∧ H x = some (.ins p.CK dx [("place", .str pl)])
def RowObL (K : PySem.W.Frag) (p : Pkg) (H : Hp) : List RowD → List V → Prop
  | [], xs => xs = []
  | r :: rs, xs => ∃ v vs, xs = v :: vs ∧ RowOb K p H r v ∧ RowObL K p H rs vs
end
mutual
theorem RowOb.kp {K : PySem.W.Frag} {p : Pkg} {H H' : Hp} (s : ObKp H H') : ∀ {r : RowD} {v : V}, RowOb K p H r v → RowOb K p H' r v
  | .ife _ _ _, _, h => by
    unfold RowOb at h ⊢
    obtain ⟨x, dx, u, r, o, xs, ys, e, h1, t, h2, r2, h3, r3⟩ := h
    exact ⟨x, dx, u, r, o, xs, ys, e, s.2 _ _ _ _ h1, t.kp s, h2.kp s, RowObL.kp s r2, h3.kp s, RowObL.kp s r3⟩
  | .add _ _ _ _, _, h => by unfold RowOb at h ⊢; obtain ⟨x, dx, e, h⟩ := h; exact ⟨x, dx, e, s.2 _ _ _ _ h⟩
  | .put _ _, _, h => by unfold RowOb at h ⊢; obtain ⟨x, dx, e, h⟩ := h; exact ⟨x, dx, e, s.2 _ _ _ _ h⟩
  | .mark _, _, h => by unfold RowOb at h ⊢; obtain ⟨x, dx, e, h⟩ := h; exact ⟨x, dx, e, s.2 _ _ _ _ h⟩
theorem RowObL.kp {K : PySem.W.Frag} {p : Pkg} {H H' : Hp} (s : ObKp H H') : ∀ {rs : List RowD} {xs : List V}, RowObL K p H rs xs → RowObL K p H' rs xs
  | [], _, h => by unfold RowObL at h ⊢; exact h
  | _ :: _, _, h => by
    unfold RowObL at h ⊢
    obtain ⟨v, vs, e, h1, h2⟩ := h
    exact ⟨v, vs, e, RowOb.kp s h1, RowObL.kp s h2⟩
end
theorem RowOb.cls {K : PySem.W.Frag} {p : Pkg} {H : Hp} {r : RowD} {v : V} (h : RowOb K p H r v) : ∃ a C dx fs, v = .ref a ∧ H a = some (.ins C dx fs) ∧ C ∈ p.rows := by
  cases r with
  | ife t a b => unfold RowOb at h; obtain ⟨x, dx, u, r, o, xs, ys, e, h, _⟩ := h; exact ⟨x, _, dx, _, e, h, by simp [Pkg.rows]⟩
  | add f w t pl => unfold RowOb at h; obtain ⟨x, dx, e, h⟩ := h; exact ⟨x, _, dx, _, e, h, by simp [Pkg.rows]⟩
  | put n w => unfold RowOb at h; obtain ⟨x, dx, e, h⟩ := h; exact ⟨x, _, dx, _, e, h, by simp [Pkg.rows]⟩
  | mark pl => unfold RowOb at h; obtain ⟨x, dx, e, h⟩ := h; exact ⟨x, _, dx, _, e, h, by simp [Pkg.rows]⟩
theorem RowObL.len {K : PySem.W.Frag} {p : Pkg} {H : Hp} : ∀ {rs : List RowD} {xs : List V}, RowObL K p H rs xs → xs.length = rs.length
  | [], _, h => by unfold RowObL at h; subst h; rfl
  | _ :: _, _, h => by
    unfold RowObL at h
    obtain ⟨v, vs, rfl, _, h2⟩ := h
    rw [List.length_cons, List.length_cons, RowObL.len h2]
theorem RowObL.app {K : PySem.W.Frag} {p : Pkg} {H : Hp} : ∀ {rs : List RowD} {xs : List V} {r : RowD} {v : V}, RowObL K p H rs xs → RowOb K p H r v → RowObL K p H (rs ++ [r]) (xs ++ [v])
  | [], xs, r, v, h, g => by
    unfold RowObL at h
    subst h
    show RowObL K p H [r] [v]
    unfold RowObL
    exact ⟨v, [], rfl, g, by unfold RowObL; rfl⟩
  | r0 :: rs, xs, r, v, h, g => by
    unfold RowObL at h
    obtain ⟨v0, vs, rfl, h1, h2⟩ := h
    show RowObL K p H (r0 :: (rs ++ [r])) (v0 :: (vs ++ [v]))
    unfold RowObL
    exact ⟨v0, _, rfl, h1, RowObL.app h2 g⟩
theorem RowObL.at' {K : PySem.W.Frag} {p : Pkg} {H : Hp} : ∀ {rs : List RowD} {xs : List V} {i : Nat} {v : V}, RowObL K p H rs xs → xs[i]? = some v → ∃ r, rs[i]? = some r ∧ RowOb K p H r v
  | [], _, i, v, h, e => by unfold RowObL at h; subst h; simp at e
  | r0 :: rs, _, i, v, h, e => by
    unfold RowObL at h
    obtain ⟨v0, vs, rfl, h1, h2⟩ := h
    cases i with
    | zero => rw [List.getElem?_cons_zero] at e; cases e; exact ⟨r0, rfl, h1⟩
    | succ i => rw [List.getElem?_cons_succ] at e ⊢; exact RowObL.at' h2 e
theorem RowL.at' {H : Hp} : ∀ {rs : List RowD} {xs : List V} {i : Nat} {v : V}, RowL H rs xs → xs[i]? = some v → ∃ r, rs[i]? = some r ∧ RowAt H r v
  | [], _, i, v, h, e => by unfold RowL at h; subst h; simp at e
  | r0 :: rs, _, i, v, h, e => by
    unfold RowL at h
    obtain ⟨v0, vs, rfl, h1, h2⟩ := h
    cases i with
    | zero => rw [List.getElem?_cons_zero] at e; cases e; exact ⟨r0, rfl, h1⟩
    | succ i => rw [List.getElem?_cons_succ] at e ⊢; exact RowL.at' h2 e
end K14

set_option pp.maxSteps 600
namespace L2
open PySem PySem.Spec PyProof.Rows
theorem call_isi_in {X : Cx} {K : PySem.W.Frag} (e : X.K = K) : CallR X (.builtin "isinstance") (rIsi K) := by
  subst e; exact call_isi
end L2
namespace K14
open PySem L2 PySem.Spec PyProof.Rows
structure ClsA (K : PySem.W.Frag) (mg : Str → Option Value) (nm : Str) (C : Addr) (as : List Str) : Prop where
  cl : Cls K C
  n : ∀ a ∈ as, NoAttr K C a
  m : mg nm = some (.ref C)
def okKind (k : Str) : Prop := k = "none" ∨ nameB k = true
theorem okKind.len {k : Str} (h : okKind k) : k.length ≤ 4 := by
  rcases h with rfl | h
  · decide +kernel
  · unfold nameB at h
    exact of_decide_eq_true (Bool.and_eq_true_iff.mp h).1
theorem nameB_len {k : Str} (h : nameB k = true) : k.length ≤ 4 := okKind.len (.inr h)
def okW (w : Str) : Prop := w ∈ amtL ∨ nameB w = true
section
variable {P : Program} {w : World} {K : PySem.W.Frag} {mg : Str → Option Value} {base : Heap}
abbrev s_check : Stmt := top 10
abbrev n_check : List Str := ["holds", "part"]
theorem sc_check : FnScope n_check ["holds", "part"] (defScope s_check) := ⟨rfl, rfl, rfl, by decide +kernel, rfl, by decide +kernel, by decide +kernel⟩
def spCheckT : Sp := fun vs H Q _ => ∃ p : V, vs = [.bl true, p] ∧ Q .non H
theorem ok_checkT (F : DefAt K mg "check" s_check ["holds", "part"]) : Has P w K mg base 1 "check" ["holds", "part"] spCheckT := by
  refine F.has sc_check (fun vs H Q E h => ?_) (fun f cdv A outer s H vs Q E hr h => ?_)
  · obtain ⟨p, rfl, _⟩ := h
    rfl
  · obtain ⟨p, rfl, k⟩ := h
    exact ⟨_, (pss_one (ps_if (pt_not (pt_val (pv 0))) (pss_one ps_never) pss_nil)), ⟨_, rfl, _, rfl, iteSf rfl k⟩⟩
abbrev s_is_kind : Stmt := top 12
abbrev n_is_kind : List Str := ["value"]
theorem sc_is_kind : FnScope n_is_kind ["value"] (defScope s_is_kind) := ⟨rfl, rfl, rfl, by decide +kernel, rfl, by decide +kernel, by decide +kernel⟩
def spKindT : Sp := fun vs H Q _ => ∃ k : Str, vs = [.str k] ∧ okKind k ∧ Q (.bl true) H
theorem ok_kindT {Z : Nat → Addr} (T : Txt mg) (g_is_name : Has P w K mg base 1 "is_name" ["value"] (spName Z)) (F : DefAt K mg "is_kind" s_is_kind ["value"]) : Has P w K mg base 2 "is_kind" ["value"] spKindT := by
  refine F.has sc_is_kind (fun vs H Q E h => ?_) (fun f cdv A outer s H vs Q E hr h => ?_)
  · obtain ⟨x, rfl, _⟩ := h
    rfl
  · obtain ⟨x, rfl, o, k⟩ := h
    refine ⟨_, (pss_one (ps_ret (pe_or (pe_cmpR op_eq (pv 0) pe_str (nomark _)) (pe_one (pe_callHas g_is_name (hr.mono (by decide)) rfl (pa_cons (pv 0) pa_nil)))))), ?_⟩
    refine ⟨_, rfl, rfl, _, rfl, ?_⟩
    by_cases hx : x = "none"
    · subst hx
      exact iteSe (decide_eq_true rfl) k
    · have hn : nameB x = true := o.resolve_left hx
      refine iteSf (decide_eq_false fun z => hx (by injection z)) ⟨_, rfl, 0, _, .a (.str x), rfl, rfl, (fun s e => by cases e; have := okKind.len o; omega), ?_⟩
      show Q (.bl (nameB x)) H
      rw [hn]
      exact k
abbrev s_is_what : Stmt := top 11
abbrev n_is_what : List Str := ["value"]
theorem sc_is_what : FnScope n_is_what ["value"] (defScope s_is_what) := ⟨rfl, rfl, rfl, by decide +kernel, rfl, by decide +kernel, by decide +kernel⟩
def spWhatT : Sp := fun vs H Q _ => ∃ k : Str, vs = [.str k] ∧ okW k ∧ Q (.bl true) H
theorem ok_whatT {Z : Nat → Addr} {AM : Addr} (T : Txt mg) (mAM : mg "AMOUNTS" = some (.ref AM)) (tAM : ∀ H, SqT K H AM (amtL.map V.str)) (g_is_name : Has P w K mg base 1 "is_name" ["value"] (spName Z)) (F : DefAt K mg "is_what" s_is_what ["value"]) : Has P w K mg base 2 "is_what" ["value"] spWhatT := by
  refine F.has sc_is_what (fun vs H Q E h => ?_) (fun f cdv A outer s H vs Q E hr h => ?_)
  · obtain ⟨x, rfl, _⟩ := h
    rfl
  · obtain ⟨x, rfl, o, k⟩ := h
    refine ⟨_, (pss_one (ps_ret (pe_or (pe_cmpR op_in_seq (pv 0) (pe_glob (v := .ref AM) rfl mAM rfl) (by rfl)) (pe_one (pe_callHas g_is_name (hr.mono (by decide)) rfl (pa_cons (pv 0) pa_nil)))))), ?_⟩
    refine ⟨_, rfl, AM, _, rfl, .inr (tAM _), rfl, flat_strs _, ?_⟩
    rw [if_neg (by decide), inV_strs]
    refine ⟨_, rfl, ?_⟩
    by_cases hx : x ∈ amtL
    · exact iteSe (decide_eq_true hx) k
    · have hn : nameB x = true := o.resolve_left hx
      refine iteSf (decide_eq_false hx) ⟨_, rfl, 0, _, .a (.str x), rfl, rfl, (fun s e => by cases e; have := nameB_len hn; omega), ?_⟩
      show Q (.bl (nameB x)) H
      rw [hn]
      exact k
/-- a list or a tuple of the run, or the text's empty tuple -/
def Sq (K : PySem.W.Frag) (H : Hp) (a : Addr) (xs : List V) : Prop := H a = some (.lst xs) ∨ Tp K H a xs
def spSeqT (K : PySem.W.Frag) : Sp := fun vs H Q _ => ∃ (a : Addr) (xs : List V), vs = [.ref a] ∧ Sq K H a xs ∧ ∀ H', Same H H' → Q (.bl true) H'
theorem ok_seqT (T : Txt mg) (F : DefAt K mg "is_sequence" s_is_sequence ["value"]) : Has P w K mg base 1 "is_sequence" ["value"] (spSeqT K) := by
  refine F.has sc_is_sequence (fun vs H Q E h => ?_) (fun f cdv A outer s H vs Q E hr h => ?_)
  · obtain ⟨a, xs, rfl, _⟩ := h
    rfl
  · obtain ⟨a, xs, rfl, sq, k⟩ := h
    refine ⟨_, (pss_one (ps_ret (pe_callB call_isiT (by rfl) T.z_isinstance (by decide +kernel) (pa_cons (pv 0) (pa_cons (pe_tup (pa_cons (pe_bltn (v := .ty "list") (by rfl) T.z_list (by decide +kernel) rfl) (pa_cons (pe_bltn (v := .ty "tuple") (by rfl) T.z_tuple (by decide +kernel) rfl) pa_nil))) pa_nil))))), ?_⟩
    refine ⟨_, rfl, (by decide : 2 ≤ sizeLine), fun t ht => ?_⟩
    obtain ⟨s1, h1⟩ := new_at (o := .tup [.ty "list", .ty "tuple"]) ht
    have nol : PySem.W.kitAny K (.type "list") [.type "list", .type "tuple"] = some true := kitAny_cons (b := true) (kit_ty (by decide +kernel)) (fun z => nomatch z) (fun _ => rfl)
    have not' : PySem.W.kitAny K (.type "tuple") [.type "list", .type "tuple"] = some true := kitAny_cons (b := false) (kit_ty (by decide +kernel)) (fun _ => kitAny_cons (b := true) (kit_ty (by decide +kernel)) (fun z => nomatch z) (fun _ => rfl)) (fun z => nomatch z)
    rcases sq with h | h | ⟨rfl, N⟩
    · exact ⟨_, t, _, _, _, _, rfl, h1, .cons (.ty _) (.cons (.ty _) .nil), .base (.lst (s1 _ _ h)), nol, k _ s1⟩
    · exact ⟨_, t, _, _, _, _, rfl, h1, .cons (.ty _) (.cons (.ty _) .nil), .base (.tup (s1 _ _ h)), not', k _ s1⟩
    · obtain ⟨o, n, l, c, d⟩ := N.ex
      exact ⟨_, t, _, _, _, _, rfl, h1, .cons (.ty _) (.cons (.ty _) .nil), .kTuple l c, not', k _ s1⟩
abbrev s_are_rows : Stmt := top 13
abbrev n_are_rows : List Str := ["value", "part"]
theorem sc_are_rows : FnScope n_are_rows ["value"] (defScope s_are_rows) := ⟨rfl, rfl, rfl, by decide +kernel, rfl, by decide +kernel, by decide +kernel⟩
def spRowsT (K : PySem.W.Frag) (p : Pkg) : Sp := fun vs H Q _ => ∃ (a : Addr) (xs : List V) (rs : List RowD), vs = [.ref a] ∧ Sq K H a xs ∧ RowObL K p H rs xs ∧ rs.length ≤ 1000 ∧ ∀ H', Same H H' → Q (.bl true) H'
theorem ok_rowsT {p : Pkg} {TS RW : Addr} (T : Txt mg) (PK : PkgK K p TS RW) (mRow : mg "Row" = some (.ref RW)) (g_is_sequence : Has P w K mg base 1 "is_sequence" ["value"] (spSeqT K)) (F : DefAt K mg "are_rows" s_are_rows ["value"]) : Has P w K mg base 2 "are_rows" ["value"] (spRowsT K p) := by
  refine F.has sc_are_rows (fun vs H Q E h => ?_) (fun f cdv A outer s H vs Q E hr h => ?_)
  · obtain ⟨a, xs, rs, rfl, _⟩ := h
    rfl
  · obtain ⟨a, xs, rs, rfl, sq, rl, l, k⟩ := h
    refine ⟨_, (pss_one (ps_ret (pe_and (pe_callHas g_is_sequence (hr.mono (by decide)) rfl (pa_cons (pv 0) pa_nil)) (pe_one (pe_callB (cr_all rfl) (by rfl) T.z_all (by decide +kernel) (pa_cons (pe_lc (own := [("part", 1)]) (g := gName 1) (by rfl) sc_are_rows.nd (pi_seq (pv 0)) (blkOk_by (own := [("part", 1)]) (N := n_are_rows) (sc := defScope s_are_rows) (by decide +kernel)) (fun _ _ _ _ _ => (pg_name (i := 1) sc_are_rows.nd rfl (Or.inl rfl))) (fun _ _ _ _ _ => pts_nil) (fun _ _ _ _ _ => (pe_callB (call_isi_in (K := K) rfl) (by rfl) T.z_isinstance (by decide +kernel) (pa_cons (pv 1) (pa_cons (pe_glob (v := .ref RW) rfl mRow rfl) pa_nil))))) pa_nil)))))), ?_⟩
    refine ⟨_, rfl, a, xs, rfl, sq, fun H1 s1 => ⟨_, rfl, iteSe rfl ?_⟩⟩
    have lx := rl.len
    have st : ∀ (D : Addr) (i : Nat) (y : V) (H' : Hp), H1 D = none → Same H1 H' → H' D = some (.lst (List.replicate i (V.bl true))) → xs[i]? = some y → ∃ t0, TyX K H' y t0 ∧ ∃ c, PySem.W.kitOne K t0 (.ref RW) = some c ∧ ∃ acc, H' D = some (.lst acc) ∧ acc.length < sizeLine ∧ Same H1 (upd H' D (.lst (acc ++ [V.bl c]))) ∧ upd H' D (.lst (acc ++ [V.bl c])) D = some (.lst (List.replicate (i + 1) (V.bl true))) := fun D i y H' hD sm hD' e1 => by
      obtain ⟨r, er, ro⟩ := rl.at' e1
      obtain ⟨q, C, dx, fs, rfl, hq, mC⟩ := (ro.kp (ObKp.of (s1.trans sm))).cls
      obtain ⟨o, kt⟩ := PK.rows C mC
      have li := (List.getElem?_eq_some_iff.mp e1).1
      have q1000 : (1000 : Nat) < sizeLine := by decide
      refine ⟨_, .base (.ins hq o.cl o.ha o.hn o.htk o.hm), true, kt, _, hD', by rw [List.length_replicate]; omega, fun y o w => by rw [upd_ne (ne_of_none w hD)]; exact sm _ _ w, ?_⟩
      rw [upd_same, List.replicate_succ']
    have fin : ∀ (D : Addr) (H' : Hp), Same H1 H' → H' D = some (.lst (List.replicate xs.length (V.bl true))) → SqL K H' D ((List.replicate xs.length true).map V.bl) ∧ Q (.bl ((List.replicate xs.length true).all id)) H' := fun D H' sm hD' => by
      refine ⟨by rw [List.map_replicate]; exact SqL.of hD', ?_⟩
      rw [List.all_replicate]
      have := k _ (s1.trans sm)
      simpa using this
    rcases sq with h | h
    · have ha1 := s1 _ _ h
      refine .inl ⟨_, rfl, a, rfl, ⟨_, SqL.of ha1⟩, fun D hD => lc_it (walk_list (xs := xs)) (fun i H' => Same H1 H' ∧ H' D = some (.lst (List.replicate i (V.bl true)))) ⟨(new_at hD).1, upd_same⟩ (fun i H' _ z => SqL.of (z.1 _ _ ha1)) ?_ ?_⟩
      · rintro i y H' H'' hi ⟨sm, hD'⟩ ⟨rfl, e1⟩
        obtain ⟨t0, h0, c, k0, q⟩ := st D i y _ hD sm hD' e1
        exact ⟨rfl, _, rfl, _, _, t0, _, c, rfl, .own _, h0, k0, q⟩
      · rintro H' ⟨sm, hD'⟩
        obtain ⟨f1, f2⟩ := fin D H' sm hD'
        exact ⟨D, _, rfl, f1, f2⟩
    · have ha1 := h.kp (ObKp.of s1)
      refine .inr ⟨_, rfl, a, rfl, ⟨_, ha1.sq⟩, fun D hD => lc_it (walk_tup (xs := xs)) (fun i H' => Same H1 H' ∧ H' D = some (.lst (List.replicate i (V.bl true)))) ⟨(new_at hD).1, upd_same⟩ (fun i H' _ z => (ha1.kp (ObKp.of z.1)).sq) ?_ ?_⟩
      · rintro i y H' H'' hi ⟨sm, hD'⟩ ⟨rfl, e1⟩
        obtain ⟨t0, h0, c, k0, q⟩ := st D i y _ hD sm hD' e1
        exact ⟨rfl, _, rfl, _, _, t0, _, c, rfl, .own _, h0, k0, q⟩
      · rintro H' ⟨sm, hD'⟩
        obtain ⟨f1, f2⟩ := fin D H' sm hD'
        exact ⟨D, _, rfl, f1, f2⟩
end
end K14

set_option pp.maxSteps 600
namespace K14
open PySem L2 PySem.Spec PyProof.Rows
theorem Sq.same {K : PySem.W.Frag} {H H' : Hp} {a : Addr} {xs : List V} (h : Sq K H a xs) (s : Same H H') : Sq K H' a xs := h.elim (fun h => .inl (s _ _ h)) fun h => .inr (h.kp (ObKp.of s))
theorem Sq.other {K : PySem.W.Frag} {H : Hp} {a x C dx : Addr} {fs : List (Str × V)} {xs : List V} {u : HO} (h : Sq K H a xs) (hx : H x = some (.ins C dx fs)) : Sq K (upd H x u) a xs := by
  rcases h with h | h | h
  · exact .inl (by rw [upd_ne (ne_of h hx fun z => nomatch z)]; exact h)
  · exact .inr (.inl (by rw [upd_ne (ne_of h hx fun z => nomatch z)]; exact h))
  · exact .inr (.inr h)
theorem Tp.other {K : PySem.W.Frag} {H : Hp} {a x C dx : Addr} {fs : List (Str × V)} {xs : List V} {u : HO} (h : Tp K H a xs) (hx : H x = some (.ins C dx fs)) : Tp K (upd H x u) a xs := by
  rcases h with h | h
  · exact .inl (by rw [upd_ne (ne_of h hx fun z => nomatch z)]; exact h)
  · exact .inr h
theorem tup_of {K : PySem.W.Frag} {H : Hp} {a : Addr} {xs : List V} {Q : VK} (h : Sq K H a xs) (q : ∀ H' a', Same H H' → Tp K H' a' xs → Q (.ref a') H') : (SqL K H a xs ∧ ∀ l, H l = none → Q (.ref l) (upd H l (.tup xs))) ∨ SqT K H a xs ∧ Q (.ref a) H := by
  rcases h with h | h
  · exact .inl ⟨SqL.of h, fun l hl => q _ l (new_at hl).1 (.inl (new_at hl).2)⟩
  · exact .inr ⟨h.sq, q H a (Same.refl H) h⟩
theorem tupcall_go {K : PySem.W.Frag} {i : Nat} {a : Addr} {xs : List V} {σ : L2.St} {H : Hp} {Q : VK} (e : σ[i]? = some (some (.ref a))) (h : Sq K H a xs) (q : ∀ H' a', Same H H' → Tp K H' a' xs → Q (.ref a') H') : tCB (fun vs H1 Q => ∃ p ys, vs = [V.ref p] ∧ ((SqL K H1 p ys ∧ ∀ l, H1 l = none → Q (V.ref l) (upd H1 l (.tup ys))) ∨ SqT K H1 p ys ∧ Q (V.ref p) H1)) (tCons (tVar i) tNil) σ H Q := ⟨_, e, a, xs, rfl, tup_of h q⟩
section
variable {P : Program} {w : World} {K : PySem.W.Frag} {mg : Str → Option Value} {base : Heap}
abbrev s_Was_init : Stmt := inClass (top 15) 0
abbrev n_Was_init : List Str := ["self", "kind"]
theorem sc_Was_init : FnScope n_Was_init ["self", "kind"] (defScope s_Was_init) := ⟨rfl, rfl, rfl, by decide +kernel, rfl, by decide +kernel, by decide +kernel⟩
def spWasI (C : Addr) : Sp := fun vs H Q _ => ∃ (x dx : Addr) (k : Str), vs = [.ref x, .str k] ∧ H x = some (.ins C dx []) ∧ okKind k ∧ Q .non (upd H x (.ins C dx [("kind", .str k)]))
theorem ok_wasI {C fI : Addr} {fd : FuncData} (T : Txt mg) (CE : ClsA K mg "Was" C ["kind"]) (g_check : Has P w K mg base 1 "check" ["holds", "part"] spCheckT) (g_is_kind : Has P w K mg base 2 "is_kind" ["value"] spKindT)
    (F : FunD K "__init__" "Was.__init__" (defArgs s_Was_init) (defBody s_Was_init) (defScope s_Was_init) [] [] fI fd) : FnOk P w K mg base CX0 3 fI fd ["self", "kind"] (spWasI C) := by
  refine F.ok sc_Was_init (fun vs H Q E h => ?_) (fun cdv A outer s H vs Q E hr h => ?_)
  · obtain ⟨x, dx, k, rfl, _⟩ := h
    rfl
  · obtain ⟨x, dx, kd, rfl, hx, o, k⟩ := h
    refine ⟨_, (pss_cons (ps_expr (pe_callHas g_check (hr.mono (by decide)) rfl (pa_cons (pe_callHas g_is_kind (hr.mono (by decide)) rfl (pa_cons (pv 1) pa_nil)) (pa_cons pe_str pa_nil))))
      (pss_one (ps_fld (pv 0) (pv 1) rfl))), ?_⟩
    refine ⟨_, rfl, kd, rfl, o, _, rfl, ?_⟩
    exact ⟨_, rfl, _, rfl, x, C, dx, _, rfl, hx, CE.cl, CE.n _ (by simp), (by show 0 < 1000; decide), k⟩
def spNumI (C : Addr) : Sp := fun vs H Q _ => ∃ (x dx : Addr) (n : Int), vs = [.ref x, .int n] ∧ H x = some (.ins C dx []) ∧ Q .non (upd H x (.ins C dx [("number", .int n)]))
abbrev s_OldBelow_init : Stmt := inClass (top 16) 0
abbrev n_OldBelow_init : List Str := ["self", "number"]
theorem sc_OldBelow_init : FnScope n_OldBelow_init ["self", "number"] (defScope s_OldBelow_init) := ⟨rfl, rfl, rfl, by decide +kernel, rfl, by decide +kernel, by decide +kernel⟩
theorem ok_oldI {Z : Nat → Addr} {C fI : Addr} {fd : FuncData} (T : Txt mg) (CE : ClsA K mg "OldBelow" C ["number"]) (g_check : Has P w K mg base 1 "check" ["holds", "part"] spCheckT) (g_is_integer : Has P w K mg base 1 "is_integer" ["value"] (spInt Z))
    (F : FunD K "__init__" "OldBelow.__init__" (defArgs s_OldBelow_init) (defBody s_OldBelow_init) (defScope s_OldBelow_init) [] [] fI fd) : FnOk P w K mg base CX0 3 fI fd ["self", "number"] (spNumI C) := by
  refine F.ok sc_OldBelow_init (fun vs H Q E h => ?_) (fun cdv A outer s H vs Q E hr h => ?_)
  · obtain ⟨x, dx, k, rfl, _⟩ := h
    rfl
  · obtain ⟨x, dx, n, rfl, hx, k⟩ := h
    refine ⟨_, (pss_cons (ps_expr (pe_callHas g_check (hr.mono (by decide)) rfl (pa_cons (pe_callHas g_is_integer (hr.mono (by decide)) rfl (pa_cons (pv 1) pa_nil)) (pa_cons pe_str pa_nil))))
      (pss_one (ps_fld (pv 0) (pv 1) rfl))), ?_⟩
    refine ⟨_, rfl, 0, _, .a (.int n), rfl, rfl, _, rfl, ?_⟩
    exact ⟨_, rfl, _, rfl, x, C, dx, _, rfl, hx, CE.cl, CE.n _ (by simp), (by show 0 < 1000; decide), k⟩
abbrev s_NewBelow_init : Stmt := inClass (top 17) 0
abbrev n_NewBelow_init : List Str := ["self", "number"]
theorem sc_NewBelow_init : FnScope n_NewBelow_init ["self", "number"] (defScope s_NewBelow_init) := ⟨rfl, rfl, rfl, by decide +kernel, rfl, by decide +kernel, by decide +kernel⟩
theorem ok_newI {Z : Nat → Addr} {C fI : Addr} {fd : FuncData} (T : Txt mg) (CE : ClsA K mg "NewBelow" C ["number"]) (g_check : Has P w K mg base 1 "check" ["holds", "part"] spCheckT) (g_is_integer : Has P w K mg base 1 "is_integer" ["value"] (spInt Z))
    (F : FunD K "__init__" "NewBelow.__init__" (defArgs s_NewBelow_init) (defBody s_NewBelow_init) (defScope s_NewBelow_init) [] [] fI fd) : FnOk P w K mg base CX0 3 fI fd ["self", "number"] (spNumI C) := by
  refine F.ok sc_NewBelow_init (fun vs H Q E h => ?_) (fun cdv A outer s H vs Q E hr h => ?_)
  · obtain ⟨x, dx, k, rfl, _⟩ := h
    rfl
  · obtain ⟨x, dx, n, rfl, hx, k⟩ := h
    refine ⟨_, (pss_cons (ps_expr (pe_callHas g_check (hr.mono (by decide)) rfl (pa_cons (pe_callHas g_is_integer (hr.mono (by decide)) rfl (pa_cons (pv 1) pa_nil)) (pa_cons pe_str pa_nil))))
      (pss_one (ps_fld (pv 0) (pv 1) rfl))), ?_⟩
    refine ⟨_, rfl, 0, _, .a (.int n), rfl, rfl, _, rfl, ?_⟩
    exact ⟨_, rfl, _, rfl, x, C, dx, _, rfl, hx, CE.cl, CE.n _ (by simp), (by show 0 < 1000; decide), k⟩
abbrev s_Not_init : Stmt := inClass (top 20) 0
abbrev n_Not_init : List Str := ["self", "test"]
theorem sc_Not_init : FnScope n_Not_init ["self", "test"] (defScope s_Not_init) := ⟨rfl, rfl, rfl, by decide +kernel, rfl, by decide +kernel, by decide +kernel⟩
def spNotI (p : Pkg) : Sp := fun vs H Q _ => ∃ (x dx : Addr) (u : V) (t : TestD), vs = [.ref x, u] ∧ H x = some (.ins p.CN dx []) ∧ TestOb p H u t ∧ Q .non (upd H x (.ins p.CN dx [("test", u)]))
theorem ok_notI {p : Pkg} {TS RW fI : Addr} {fd : FuncData} (T : Txt mg) (PK : PkgK K p TS RW) (mTest : mg "Test" = some (.ref TS)) (CE : ClsA K mg "Not" p.CN ["test"]) (g_check : Has P w K mg base 1 "check" ["holds", "part"] spCheckT)
    (F : FunD K "__init__" "Not.__init__" (defArgs s_Not_init) (defBody s_Not_init) (defScope s_Not_init) [] [] fI fd) : FnOk P w K mg base CX0 3 fI fd ["self", "test"] (spNotI p) := by
  refine F.ok sc_Not_init (fun vs H Q E h => ?_) (fun cdv A outer s H vs Q E hr h => ?_)
  · obtain ⟨x, dx, u, t, rfl, _⟩ := h
    rfl
  · obtain ⟨x, dx, u, t, rfl, hx, to, k⟩ := h
    refine ⟨_, (pss_cons (ps_expr (pe_callHas g_check (hr.mono (by decide)) rfl (pa_cons (pe_callB (call_isi_in (K := K) rfl) (by rfl) T.z_isinstance (by decide +kernel) (pa_cons (pv 1) (pa_cons (pe_glob (v := .ref TS) rfl mTest rfl) pa_nil))) (pa_cons pe_str pa_nil))))
      (pss_one (ps_fld (pv 0) (pv 1) rfl))), ?_⟩
    obtain ⟨a, C, dx2, fs, rfl, ha, mC⟩ := to.cls
    obtain ⟨o, kt⟩ := PK.tests C mC
    refine ⟨_, rfl, _, _, _, _, _, rfl, .own _, .base (.ins ha o.cl o.ha o.hn o.htk o.hm), kt, _, rfl, ?_⟩
    exact ⟨_, rfl, _, rfl, x, p.CN, dx, _, rfl, hx, CE.cl, CE.n _ (by simp), (by show 0 < 1000; decide), k⟩
abbrev s_Put_init : Stmt := inClass (top 23) 0
abbrev n_Put_init : List Str := ["self", "note", "what"]
theorem sc_Put_init : FnScope n_Put_init ["self", "note", "what"] (defScope s_Put_init) := ⟨rfl, rfl, rfl, by decide +kernel, rfl, by decide +kernel, by decide +kernel⟩
def spPutI (C : Addr) : Sp := fun vs H Q _ => ∃ (x dx : Addr) (n wh : Str), vs = [.ref x, .str n, .str wh] ∧ H x = some (.ins C dx []) ∧ nameB n = true ∧ okW wh ∧ Q .non (upd H x (.ins C dx [("note", .str n), ("what", .str wh)]))
theorem ok_putI {Z : Nat → Addr} {C fI : Addr} {fd : FuncData} (T : Txt mg) (CE : ClsA K mg "Put" C ["note", "what"]) (g_check : Has P w K mg base 1 "check" ["holds", "part"] spCheckT) (g_is_name : Has P w K mg base 1 "is_name" ["value"] (spName Z)) (g_is_what : Has P w K mg base 2 "is_what" ["value"] spWhatT)
    (F : FunD K "__init__" "Put.__init__" (defArgs s_Put_init) (defBody s_Put_init) (defScope s_Put_init) [] [] fI fd) : FnOk P w K mg base CX0 3 fI fd ["self", "note", "what"] (spPutI C) := by
  refine F.ok sc_Put_init (fun vs H Q E h => ?_) (fun cdv A outer s H vs Q E hr h => ?_)
  · obtain ⟨x, dx, n, wh, rfl, _⟩ := h
    rfl
  · obtain ⟨x, dx, n, wh, rfl, hx, on, ow, k⟩ := h
    refine ⟨_, (pss_cons (ps_expr (pe_callHas g_check (hr.mono (by decide)) rfl (pa_cons (pe_callHas g_is_name (hr.mono (by decide)) rfl (pa_cons (pv 1) pa_nil)) (pa_cons pe_str pa_nil))))
      (pss_cons (ps_expr (pe_callHas g_check (hr.mono (by decide)) rfl (pa_cons (pe_callHas g_is_what (hr.mono (by decide)) rfl (pa_cons (pv 2) pa_nil)) (pa_cons pe_str pa_nil))))
      (pss_cons (ps_fld (pv 0) (pv 1) rfl)
      (pss_one (ps_fld (pv 0) (pv 2) rfl))))), ?_⟩
    refine ⟨_, rfl, 0, _, .a (.str n), rfl, rfl, (fun s e => by cases e; have := nameB_len on; omega), .str "note", (by rw [show at2 name0 (.a (.str n)) = nameB n from rfl, on]; rfl), ?_⟩
    refine ⟨_, rfl, wh, rfl, ow, _, rfl, ?_⟩
    refine ⟨_, rfl, _, rfl, x, C, dx, _, rfl, hx, CE.cl, CE.n _ (by simp), (by show 0 < 1000; decide), ?_⟩
    refine ⟨_, rfl, _, rfl, x, C, dx, _, rfl, upd_same, CE.cl, CE.n _ (by simp), (by show 1 < 1000; decide), ?_⟩
    rw [upd_upd]
    exact k
abbrev s_Mark_init : Stmt := inClass (top 24) 0
abbrev n_Mark_init : List Str := ["self", "place"]
theorem sc_Mark_init : FnScope n_Mark_init ["self", "place"] (defScope s_Mark_init) := ⟨rfl, rfl, rfl, by decide +kernel, rfl, by decide +kernel, by decide +kernel⟩
def spMarkI (C : Addr) : Sp := fun vs H Q _ => ∃ (x dx : Addr) (pl : Str), vs = [.ref x, .str pl] ∧ H x = some (.ins C dx []) ∧ pl ∈ mrkL ∧ ∀ H1, Same H H1 → Q .non (upd H1 x (.ins C dx [("place", .str pl)]))
theorem ok_markI {C fI : Addr} {fd : FuncData} (T : Txt mg) (CE : ClsA K mg "Mark" C ["place"]) (g_check : Has P w K mg base 1 "check" ["holds", "part"] spCheckT)
    (F : FunD K "__init__" "Mark.__init__" (defArgs s_Mark_init) (defBody s_Mark_init) (defScope s_Mark_init) [] [] fI fd) : FnOk P w K mg base CX0 3 fI fd ["self", "place"] (spMarkI C) := by
  refine F.ok sc_Mark_init (fun vs H Q E h => ?_) (fun cdv A outer s H vs Q E hr h => ?_)
  · obtain ⟨x, dx, pl, rfl, _⟩ := h
    rfl
  · obtain ⟨x, dx, pl, rfl, hx, o, k⟩ := h
    refine ⟨_, (pss_cons (ps_expr (pe_callHas g_check (hr.mono (by decide)) rfl (pa_cons (pe_cmpR op_in_seq (pv 1) (pe_tup (pa_cons pe_str (pa_cons pe_str (pa_cons pe_str pa_nil)))) (by rfl)) (pa_cons pe_str pa_nil))))
      (pss_one (ps_fld (pv 0) (pv 1) rfl))), ?_⟩
    refine ⟨_, rfl, (by decide : 3 ≤ sizeLine), fun t ht => ?_⟩
    obtain ⟨s1, h1⟩ := new_at (o := .tup (mrkL.map V.str)) ht
    refine ⟨t, mrkL.map V.str, rfl, .inr (SqT.of h1), rfl, flat_strs _, ?_⟩
    rw [if_neg (by decide), inV_strs, decide_eq_true o]
    refine ⟨_, rfl, ?_⟩
    exact ⟨_, rfl, _, rfl, x, C, dx, _, rfl, s1 _ _ hx, CE.cl, CE.n _ (by simp), (by show 0 < 1000; decide), k _ s1⟩
abbrev s_Add_init : Stmt := inClass (top 22) 0
abbrev n_Add_init : List Str := ["self", "factor", "what", "total", "place"]
theorem sc_Add_init : FnScope n_Add_init ["self", "factor", "what", "total", "place"] (defScope s_Add_init) := ⟨rfl, rfl, rfl, by decide +kernel, rfl, by decide +kernel, by decide +kernel⟩
def spAddI (C : Addr) : Sp := fun vs H Q _ => ∃ (x dx : Addr) (f : Int) (wh t pl : Str), vs = [.ref x, .int f, .str wh, .str t, .str pl] ∧ H x = some (.ins C dx []) ∧ okW wh ∧ nameB t = true ∧ pl ∈ plcL ∧ ∀ H1, Same H H1 → Q .non (upd H1 x (.ins C dx [("factor", .int f), ("what", .str wh), ("total", .str t), ("place", .str pl)]))
theorem ok_addI {Z : Nat → Addr} {C fI : Addr} {fd : FuncData} (T : Txt mg) (CE : ClsA K mg "Add" C ["factor", "what", "total", "place"]) (g_check : Has P w K mg base 1 "check" ["holds", "part"] spCheckT) (g_is_integer : Has P w K mg base 1 "is_integer" ["value"] (spInt Z)) (g_is_name : Has P w K mg base 1 "is_name" ["value"] (spName Z)) (g_is_what : Has P w K mg base 2 "is_what" ["value"] spWhatT)
    (F : FunD K "__init__" "Add.__init__" (defArgs s_Add_init) (defBody s_Add_init) (defScope s_Add_init) [] [] fI fd) : FnOk P w K mg base CX0 3 fI fd ["self", "factor", "what", "total", "place"] (spAddI C) := by
  refine F.ok sc_Add_init (fun vs H Q E h => ?_) (fun cdv A outer s H vs Q E hr h => ?_)
  · obtain ⟨x, dx, f, wh, t, pl, rfl, _⟩ := h
    rfl
  · obtain ⟨x, dx, f, wh, t, pl, rfl, hx, ow, ot, op, k⟩ := h
    refine ⟨_, (pss_cons (ps_expr (pe_callHas g_check (hr.mono (by decide)) rfl (pa_cons (pe_callHas g_is_integer (hr.mono (by decide)) rfl (pa_cons (pv 1) pa_nil)) (pa_cons pe_str pa_nil))))
      (pss_cons (ps_expr (pe_callHas g_check (hr.mono (by decide)) rfl (pa_cons (pe_callHas g_is_what (hr.mono (by decide)) rfl (pa_cons (pv 2) pa_nil)) (pa_cons pe_str pa_nil))))
      (pss_cons (ps_expr (pe_callHas g_check (hr.mono (by decide)) rfl (pa_cons (pe_callHas g_is_name (hr.mono (by decide)) rfl (pa_cons (pv 3) pa_nil)) (pa_cons pe_str pa_nil))))
      (pss_cons (ps_expr (pe_callHas g_check (hr.mono (by decide)) rfl (pa_cons (pe_cmpR op_in_seq (pv 4) (pe_tup (pa_cons pe_str (pa_cons pe_str (pa_cons pe_str pa_nil)))) (by rfl)) (pa_cons pe_str pa_nil))))
      (pss_cons (ps_fld (pv 0) (pv 1) rfl)
      (pss_cons (ps_fld (pv 0) (pv 2) rfl)
      (pss_cons (ps_fld (pv 0) (pv 3) rfl)
      (pss_one (ps_fld (pv 0) (pv 4) rfl))))))))), ?_⟩
    refine ⟨_, rfl, 0, _, .a (.int f), rfl, rfl, _, rfl, ?_⟩
    refine ⟨_, rfl, wh, rfl, ow, _, rfl, ?_⟩
    refine ⟨_, rfl, 0, _, .a (.str t), rfl, rfl, (fun s e => by cases e; have := nameB_len ot; omega), .str "total", (by rw [show at2 name0 (.a (.str t)) = nameB t from rfl, ot]; rfl), ?_⟩
    refine ⟨_, rfl, (by decide : 3 ≤ sizeLine), fun q hq => ?_⟩
    obtain ⟨s1, h1⟩ := new_at (o := .tup (plcL.map V.str)) hq
    refine ⟨q, plcL.map V.str, rfl, .inr (SqT.of h1), rfl, flat_strs _, ?_⟩
    rw [if_neg (by decide), inV_strs, decide_eq_true op]
    refine ⟨_, rfl, ?_⟩
    refine ⟨_, rfl, _, rfl, x, C, dx, _, rfl, s1 _ _ hx, CE.cl, CE.n _ (by simp), (by show 0 < 1000; decide), ?_⟩
    refine ⟨_, rfl, _, rfl, x, C, dx, _, rfl, upd_same, CE.cl, CE.n _ (by simp), (by show 1 < 1000; decide), ?_⟩
    refine ⟨_, rfl, _, rfl, x, C, dx, _, rfl, upd_same, CE.cl, CE.n _ (by simp), (by show 2 < 1000; decide), ?_⟩
    refine ⟨_, rfl, _, rfl, x, C, dx, _, rfl, upd_same, CE.cl, CE.n _ (by simp), (by show 3 < 1000; decide), ?_⟩
    rw [upd_upd, upd_upd, upd_upd]
    exact k _ s1
abbrev s_If_init : Stmt := inClass (top 25) 0
abbrev n_If_init : List Str := ["self", "test", "rows", "others"]
theorem sc_If_init : FnScope n_If_init ["self", "test", "rows", "others"] (defScope s_If_init) := ⟨rfl, rfl, rfl, by decide +kernel, rfl, by decide +kernel, by decide +kernel⟩
def spIfI (K : PySem.W.Frag) (p : Pkg) : Sp := fun vs H Q _ => ∃ (x dx : Addr) (u : V) (t : TestD) (r o : Addr) (xs ys : List V) (rs os : List RowD), vs = [.ref x, u, .ref r, .ref o] ∧ H x = some (.ins p.CI dx []) ∧ TestOb p H u t ∧ Sq K H r xs ∧ RowObL K p H rs xs ∧ Sq K H o ys ∧ RowObL K p H os ys ∧ rs.length ≤ 1000 ∧ os.length ≤ 1000 ∧
  ∀ (H' : Hp) (r' o' : Addr), (∀ y u, y ≠ x → H y = some u → H' y = some u) → Tp K H' r' xs → Tp K H' o' ys → H' x = some (.ins p.CI dx [("test", u), ("rows", .ref r'), ("others", .ref o')]) → Q .non H'
theorem ok_ifI {p : Pkg} {TS RW fI : Addr} {fd : FuncData} {d1 : V} (T : Txt mg) (PK : PkgK K p TS RW) (mTest : mg "Test" = some (.ref TS)) (CE : ClsA K mg "If" p.CI ["test", "rows", "others"]) (g_check : Has P w K mg base 1 "check" ["holds", "part"] spCheckT) (g_are_rows : Has P w K mg base 2 "are_rows" ["value"] (spRowsT K p))
    (F : FunD K "__init__" "If.__init__" (defArgs s_If_init) (defBody s_If_init) (defScope s_If_init) [d1] [] fI fd) : FnOk P w K mg base CX0 3 fI fd ["self", "test", "rows", "others"] (spIfI K p) := by
  refine F.ok sc_If_init (fun vs H Q E h => ?_) (fun cdv A outer s H vs Q E hr h => ?_)
  · obtain ⟨x, dx, u, t, r, o, xs, ys, rs, os, rfl, _⟩ := h
    rfl
  · obtain ⟨x, dx, u, t, r, o, xs, ys, rs, os, rfl, hx, to, sr, rr, so, ro, lr, lo, k⟩ := h
    refine ⟨_, (pss_cons (ps_expr (pe_callHas g_check (hr.mono (by decide)) rfl (pa_cons (pe_callB (call_isi_in (K := K) rfl) (by rfl) T.z_isinstance (by decide +kernel) (pa_cons (pv 1) (pa_cons (pe_glob (v := .ref TS) rfl mTest rfl) pa_nil))) (pa_cons pe_str pa_nil))))
      (pss_cons (ps_expr (pe_callHas g_check (hr.mono (by decide)) rfl (pa_cons (pe_callHas g_are_rows (hr.mono (by decide)) rfl (pa_cons (pv 2) pa_nil)) (pa_cons pe_str pa_nil))))
      (pss_cons (ps_expr (pe_callHas g_check (hr.mono (by decide)) rfl (pa_cons (pe_callHas g_are_rows (hr.mono (by decide)) rfl (pa_cons (pv 3) pa_nil)) (pa_cons pe_str pa_nil))))
      (pss_cons (ps_fld (pv 0) (pv 1) rfl)
      (pss_cons (ps_fld (pv 0) (pe_callTy call_tuple_of (by rfl) T.z_tuple (by decide +kernel) (pa_cons (pv 2) pa_nil)) rfl)
      (pss_one (ps_fld (pv 0) (pe_callTy call_tuple_of (by rfl) T.z_tuple (by decide +kernel) (pa_cons (pv 3) pa_nil)) rfl))))))), ?_⟩
    obtain ⟨a, C, dx2, fs, rfl, ha, mC⟩ := to.cls
    obtain ⟨oC, kt⟩ := PK.tests C mC
    refine ⟨_, rfl, _, _, _, _, _, rfl, .own _, .base (.ins ha oC.cl oC.ha oC.hn oC.htk oC.hm), kt, _, rfl, ?_⟩
    refine ⟨_, rfl, r, xs, rs, rfl, sr, rr, lr, fun H1 s1 => ⟨_, rfl, ?_⟩⟩
    refine ⟨_, rfl, o, ys, os, rfl, so.same s1, ro.kp (ObKp.of s1), lo, fun H2 s2 => ⟨_, rfl, ?_⟩⟩
    have s12 := s1.trans s2
    have hx2 := s12 _ _ hx
    refine ⟨_, rfl, _, rfl, x, p.CI, dx, _, rfl, hx2, CE.cl, CE.n _ (by simp), (by show 0 < 1000; decide), ?_⟩
    have sr3 := (sr.same s12).other (u := .ins p.CI dx (putF "test" (.ref a) [])) hx2
    have so3 := (so.same s12).other (u := .ins p.CI dx (putF "test" (.ref a) [])) hx2
    try dsimp only
    refine seq_go ?_
    unfold sFld
    try dsimp only
    refine tupcall_go (by rfl) sr3 fun H4 r' s4 tr => ?_
    have hx4 : H4 x = some (.ins p.CI dx (putF "test" (.ref a) [])) := s4 _ _ upd_same
    refine ⟨_, rfl, x, p.CI, dx, _, rfl, hx4, CE.cl, CE.n _ (by simp), (by show 1 < 1000; decide), ?_⟩
    have so5 := (so3.same s4).other (u := .ins p.CI dx (putF "rows" (.ref r') (putF "test" (.ref a) []))) hx4
    have tr5 := tr.other (u := .ins p.CI dx (putF "rows" (.ref r') (putF "test" (.ref a) []))) hx4
    try dsimp only
    refine tupcall_go (by rfl) so5 fun H6 o' s6 tq => ?_
    have hx6 : H6 x = some (.ins p.CI dx (putF "rows" (.ref r') (putF "test" (.ref a) []))) := s6 _ _ upd_same
    refine ⟨_, rfl, x, p.CI, dx, _, rfl, hx6, CE.cl, CE.n _ (by simp), (by show 2 < 1000; decide), ?_⟩
    exact k _ r' o' (fun y u n h => (upd_ne n).trans (s6 _ _ ((upd_ne n).trans (s4 _ _ ((upd_ne n).trans (s12 _ _ h)))))) ((tr5.kp (ObKp.of s6)).other hx6) (tq.other hx6) upd_same
end
end K14

namespace L2
open PySem PySem.Spec PySem.Calls PyProof.Rows
/-- an instance of a class that has no __init__ but object's -/
def tMake00 (C : Addr) : TE := fun _ H Q => ∀ x dx, H x = none → H dx = none → dx ≠ x → Q (.ref x) (upd (upd H dx (.own x)) x (.ins C dx []))
structure Mk00 (K : PySem.W.Frag) (C : Addr) : Prop where
  makes : PySem.W.makesIn K C = true
  init : PySem.W.findIn K (.ref C) "__init__" = some (some (.builtin "object.__init__"))
  kp : PySem.W.keepIn K (.ref C) = true
theorem pe_make00 {X : Cx} {C : Addr} {x : Str} {p pos : Pos} (M : Mk00 X.K C) (hg : Gl X x) (hm : X.mg x = some (.ref C)) (hdb : (x == ("__debug__" : Str)) = false := by decide) : PE X (.Call (.Name x p) [] [] pos) (tMake00 C) := by
  refine ⟨fun pins s σ H Q I h => ?_⟩
  refine wpAny_Call_Name_kw (ld_glob I hg hm ?_ hdb)
  refine PySem.W.callWith_K0 I.kIn M.kp ?_
  have hq := h (s.heap.objs.size + 1) s.heap.objs.size (I.hok.fresh (Nat.le_succ _)) (I.hok.fresh (Nat.le_refl _)) (Nat.ne_of_lt (Nat.lt_succ_self _))
  have I2 := Inv.made (C := C) I
  have Y := PySem.W.makes_of (M := model X.prog X.w) I.kIn M.makes
  refine wpAny_call (make_map0 I.kIn M.makes M.init (fun self => PySem.W.Looks.of_pure (PySem.W.oi_bind self)) ?_)
  have hx : ((s.heap.push PySem.W.emptyDict).push (PySem.W.instObj C s.heap.objs.size)).get? (s.heap.objs.size + 1) = some (PySem.W.instObj C s.heap.objs.size) := by
    rw [show s.heap.objs.size + 1 = (s.heap.push PySem.W.emptyDict).objs.size from (Heap.size_push ..).symm]
    first | exact Heap.get?_push_size .. | exact Heap.get?_push_self .. | heap_get
  have t1 : PySem.W.Looks (model X.prog X.w) ((s.heap.push PySem.W.emptyDict).push (PySem.W.instObj C s.heap.objs.size)) (typeOf (.ref (s.heap.objs.size + 1))) (.ref C) := (PySem.W.Looks.ld hx).andThen .now
  have t2 : PySem.W.Looks (model X.prog X.w) ((s.heap.push PySem.W.emptyDict).push (PySem.W.instObj C s.heap.objs.size)) (isInstance (.ref (s.heap.objs.size + 1)) (.type "object")) true := t1.andThen (Y.top.keeps fun b o e => Heap.get?_push_of_some _ (Heap.get?_push_of_some _ e))
  refine codeAny_call_builtin PySem.W.oi_plain PySem.W.entry_oi (@PySem.W.check_slot (model X.prog X.w) _ _ { s with heap := (s.heap.push PySem.W.emptyDict).push (PySem.W.instObj C s.heap.objs.size) } "object.__init__" "object" "__init__" (.ref (s.heap.objs.size + 1)) [] [] _ PySem.W.oi_kind PySem.W.oi_split t2 (PySem.W.oi_args (.ref (s.heap.objs.size + 1))) ?_)
  rw [PySem.W.oi_run]
  exact wpAny_pure (And.intro rfl ⟨V.ref (s.heap.objs.size + 1), _, I2, rfl, hq⟩)
end L2

set_option pp.maxSteps 600
namespace K14
open PySem L2 PySem.Spec PyProof.Rows
theorem laid {H : Hp} {x dx C : Addr} (hx : H x = none) (hdx : H dx = none) (nd : dx ≠ x) : Same H (upd (upd H dx (.own x)) x (.ins C dx [])) := by
  have hx1 : upd H dx (.own x) x = none := by rw [upd_ne (fun z => nd z.symm)]; exact hx
  exact (new_at hdx).1.trans (new_at hx1).1
theorem laid2 {H : Hp} {x dx C : Addr} {u : HO} (hx : H x = none) (hdx : H dx = none) (nd : dx ≠ x) : Same H (upd (upd (upd H dx (.own x)) x (.ins C dx [])) x u) := fun a o e => by
  rw [upd_ne (ne_of_none e hx)]
  exact laid (C := C) hx hdx nd a o e
theorem okKind_of {B : BookD} {k : Str} (h : okTest B (.was k)) (ok : BkOk B) : okKind k := by
  have h : k ∈ B.rests ++ B.passes ++ [("none" : Str)] := h
  rcases List.mem_append.mp h with h | h
  · exact .inr (ok.kinds k h)
  · exact .inl (List.mem_singleton.mp h)
def spTestOf (p : Pkg) (k : Nat) : Sp := fun vs H Q _ => ∃ (v : V) (t : TestD) (B : BookD), vs = [v] ∧ TestAt H v t ∧ okTest B t ∧ BkOk B ∧ tdep t ≤ k ∧ ∀ H' u, Same H H' → TestOb p H' u t → Q u H'
def spTestOfK (p : Pkg) : Nat → Sp
  | 0 => fun _ _ _ _ => False
  | k + 1 => spTestOf p k
section
variable {P : Program} {w : World} {K : PySem.W.Frag} {mg : Str → Option Value} {base : Heap}
abbrev s_law_test_of : Stmt := top 44
abbrev n_law_test_of : List Str := ["_law_test_here", "_law_word"]
theorem sc_law_test_of : FnScope n_law_test_of ["_law_test_here"] (defScope s_law_test_of) := ⟨rfl, rfl, rfl, by decide +kernel, rfl, by decide +kernel, by decide +kernel⟩
theorem ok_testOfD {p : Pkg} {k n : Nat} {fW fO fB fN : Addr} {fdW fdO fdB fdN : FuncData} (hn : 6 ≤ n) (T : Txt mg)
    (CW : ClsA K mg "Was" p.CW ["kind"]) (MW : Mk K p.CW fW) (g_W : FnOk P w K mg base CX0 3 fW fdW ["self", "kind"] (spWasI p.CW)) (bW : Binds K fdW ["self", "kind"] [])
    (CO : ClsA K mg "OldBelow" p.CO ["number"]) (MO : Mk K p.CO fO) (g_O : FnOk P w K mg base CX0 3 fO fdO ["self", "number"] (spNumI p.CO)) (bO : Binds K fdO ["self", "number"] [])
    (CB : ClsA K mg "NewBelow" p.CB ["number"]) (MB : Mk K p.CB fB) (g_B : FnOk P w K mg base CX0 3 fB fdB ["self", "number"] (spNumI p.CB)) (bB : Binds K fdB ["self", "number"] [])
    (CN : ClsA K mg "Not" p.CN ["test"]) (MN : Mk K p.CN fN) (g_N : FnOk P w K mg base CX0 3 fN fdN ["self", "test"] (spNotI p)) (bN : Binds K fdN ["self", "test"] [])
    (MMoved : Mk00 K p.CM) (mMoved : mg "Moved" = some (.ref p.CM)) (MNoted : Mk00 K p.CT) (mNoted : mg "Noted" = some (.ref p.CT))
    (g_law_test_of : Has P w K mg base n "_law_test_of" ["_law_test_here"] (spTestOfK p k)) (F : DefAt K mg "_law_test_of" s_law_test_of ["_law_test_here"]) : Has P w K mg base (n + 1) "_law_test_of" ["_law_test_here"] (spTestOf p k) := by
  refine F.has sc_law_test_of (fun vs H Q E h => ?_) (fun f cdv A outer s H vs Q E hr h => ?_)
  · obtain ⟨v, t, B, rfl, _⟩ := h
    rfl
  · obtain ⟨v, t, B, rfl, at', ok, bok, dk, ret⟩ := h
    refine ⟨_, (pss_cons (ps_set (i := 1) sc_law_test_of.nd rfl (Or.inl rfl) (pe_ix ix_tup (pv 0) pe_int (fun _ _ => rfl)))
      (pss_cons (ps_if (pt_cmpR op_eq (pv 1) pe_str (nomark _)) (pss_one (ps_ret (pe_make MN g_N (hr.mono (by omega)) rfl CN.m bN .nil pass0 (pa_cons (pe_callHas g_law_test_of (hr.mono (by omega)) rfl (pa_cons (pe_ix ix_tup (pv 0) pe_int (fun _ _ => rfl)) pa_nil)) pa_nil)))) pss_nil)
      (pss_cons (ps_if (pt_cmpR op_eq (pv 1) pe_str (nomark _)) (pss_one (ps_ret (pe_make MW g_W (hr.mono (by omega)) rfl CW.m bW .nil pass0 (pa_cons (pe_ix ix_tup (pv 0) pe_int (fun _ _ => rfl)) pa_nil)))) pss_nil)
      (pss_cons (ps_if (pt_cmpR op_eq (pv 1) pe_str (nomark _)) (pss_one (ps_ret (pe_make MO g_O (hr.mono (by omega)) rfl CO.m bO .nil pass0 (pa_cons (pe_ix ix_tup (pv 0) pe_int (fun _ _ => rfl)) pa_nil)))) pss_nil)
      (pss_cons (ps_if (pt_cmpR op_eq (pv 1) pe_str (nomark _)) (pss_one (ps_ret (pe_make MB g_B (hr.mono (by omega)) rfl CB.m bB .nil pass0 (pa_cons (pe_ix ix_tup (pv 0) pe_int (fun _ _ => rfl)) pa_nil)))) pss_nil)
      (pss_one (ps_ret (pe_ifExp (pt_cmpR op_eq (pv 1) pe_str (nomark _)) (pe_make00 MMoved rfl mMoved) (pe_make00 MNoted rfl mNoted))))))))), ?_⟩
    cases t with
    | was kd =>
      obtain ⟨q, rfl, hq⟩ := at'
      refine seq_asg (op_go ?_)
      refine ⟨_, rfl, q, _, _, _, rfl, rfl, SqT.of hq, rfl, name_go ?_⟩
      try dsimp only
      refine seq_go ⟨_, rfl, rfl, _, rfl, iteSf (by decide +kernel) (next_go ?_)⟩
      try dsimp only
      refine seq_go ⟨_, rfl, rfl, _, rfl, iteSe (by decide +kernel) ?_⟩
      refine ret_go ?_
      refine ⟨_, rfl, q, _, _, _, rfl, rfl, SqT.of hq, rfl, ?_⟩
      intro x dx hx hdx nd
      exact ⟨x, dx, kd, rfl, upd_same, okKind_of ok bok, rfl, ret _ _ (laid2 hx hdx nd) ⟨x, dx, rfl, upd_same⟩⟩
    | cut o m =>
      obtain ⟨q, rfl, hq⟩ := at'
      cases o with
      | true =>
        refine seq_asg (op_go ?_)
        refine ⟨_, rfl, q, _, _, _, rfl, rfl, SqT.of hq, rfl, name_go ?_⟩
        try dsimp only
        refine seq_go ⟨_, rfl, rfl, _, rfl, iteSf (by decide +kernel) (next_go ?_)⟩
        try dsimp only
        refine seq_go ⟨_, rfl, rfl, _, rfl, iteSf (by decide +kernel) (next_go ?_)⟩
        try dsimp only
        refine seq_go ⟨_, rfl, rfl, _, rfl, iteSe (by decide +kernel) ?_⟩
        refine ret_go ?_
        refine ⟨_, rfl, q, _, _, _, rfl, rfl, SqT.of hq, rfl, ?_⟩
        intro x dx hx hdx nd
        exact ⟨x, dx, m, rfl, upd_same, rfl, ret _ _ (laid2 hx hdx nd) ⟨x, dx, rfl, upd_same⟩⟩
      | false =>
        refine seq_asg (op_go ?_)
        refine ⟨_, rfl, q, _, _, _, rfl, rfl, SqT.of hq, rfl, name_go ?_⟩
        try dsimp only
        refine seq_go ⟨_, rfl, rfl, _, rfl, iteSf (by decide +kernel) (next_go ?_)⟩
        try dsimp only
        refine seq_go ⟨_, rfl, rfl, _, rfl, iteSf (by decide +kernel) (next_go ?_)⟩
        try dsimp only
        refine seq_go ⟨_, rfl, rfl, _, rfl, iteSf (by decide +kernel) (next_go ?_)⟩
        try dsimp only
        refine seq_go ⟨_, rfl, rfl, _, rfl, iteSe (by decide +kernel) ?_⟩
        refine ret_go ?_
        refine ⟨_, rfl, q, _, _, _, rfl, rfl, SqT.of hq, rfl, ?_⟩
        intro x dx hx hdx nd
        exact ⟨x, dx, m, rfl, upd_same, rfl, ret _ _ (laid2 hx hdx nd) ⟨x, dx, rfl, upd_same⟩⟩
    | moved =>
      obtain ⟨q, rfl, hq⟩ := at'
      refine seq_asg (op_go ?_)
      refine ⟨_, rfl, q, _, _, _, rfl, rfl, SqT.of hq, rfl, name_go ?_⟩
      try dsimp only
      refine seq_go ⟨_, rfl, rfl, _, rfl, iteSf (by decide +kernel) (next_go ?_)⟩
      try dsimp only
      refine seq_go ⟨_, rfl, rfl, _, rfl, iteSf (by decide +kernel) (next_go ?_)⟩
      try dsimp only
      refine seq_go ⟨_, rfl, rfl, _, rfl, iteSf (by decide +kernel) (next_go ?_)⟩
      try dsimp only
      refine seq_go ⟨_, rfl, rfl, _, rfl, iteSf (by decide +kernel) (next_go ?_)⟩
      try dsimp only
      refine ret_go ⟨_, rfl, rfl, _, rfl, iteSe (by decide +kernel) ?_⟩
      intro x dx hx hdx nd
      exact ret _ _ (laid hx hdx nd) ⟨x, dx, rfl, upd_same⟩
    | noted =>
      obtain ⟨q, rfl, hq⟩ := at'
      refine seq_asg (op_go ?_)
      refine ⟨_, rfl, q, _, _, _, rfl, rfl, SqT.of hq, rfl, name_go ?_⟩
      try dsimp only
      refine seq_go ⟨_, rfl, rfl, _, rfl, iteSf (by decide +kernel) (next_go ?_)⟩
      try dsimp only
      refine seq_go ⟨_, rfl, rfl, _, rfl, iteSf (by decide +kernel) (next_go ?_)⟩
      try dsimp only
      refine seq_go ⟨_, rfl, rfl, _, rfl, iteSf (by decide +kernel) (next_go ?_)⟩
      try dsimp only
      refine seq_go ⟨_, rfl, rfl, _, rfl, iteSf (by decide +kernel) (next_go ?_)⟩
      try dsimp only
      refine ret_go ⟨_, rfl, rfl, _, rfl, iteSf (by decide +kernel) ?_⟩
      intro x dx hx hdx nd
      exact ret _ _ (laid hx hdx nd) ⟨x, dx, rfl, upd_same⟩
    | not t =>
      obtain ⟨q, u, rfl, hq, rt⟩ := at'
      cases k with
      | zero => exact absurd dk (Nat.not_succ_le_zero _)
      | succ k =>
        refine seq_asg (op_go ?_)
        refine ⟨_, rfl, q, _, _, _, rfl, rfl, SqT.of hq, rfl, name_go ?_⟩
        try dsimp only
        refine seq_go ⟨_, rfl, rfl, _, rfl, iteSe (by decide +kernel) ?_⟩
        refine ret_go ?_
        refine ⟨_, rfl, q, _, _, _, rfl, rfl, SqT.of hq, rfl, ?_⟩
        refine ⟨u, t, B, rfl, rt, ok, bok, Nat.le_of_succ_le_succ dk, fun H1 u1 s1 ob => ?_⟩
        intro x dx hx hdx nd
        exact ⟨x, dx, u1, t, rfl, upd_same, ob.kp (ObKp.of (laid hx hdx nd)), rfl, ret _ _ (s1.trans (laid2 hx hdx nd)) ⟨x, dx, u1, rfl, upd_same, ob.kp (ObKp.of (laid2 hx hdx nd))⟩⟩
end
end K14

set_option pp.maxSteps 600
namespace K14
open PySem L2 PySem.Spec PyProof.Rows
theorem lc_sq {K : PySem.W.Frag} {j : Nat} {a : Addr} {xs : List V} {g : TG} {tt : TT} {te : TE} {vs : List Nat} {σ : L2.St} {H : Hp} {Q : VK} (e : σ[j]? = some (some (.ref a))) (h : Sq K H a xs) (Pv : Addr → Nat → Hp → Prop) (h0 : ∀ D, H D = none → Pv D 0 (upd H D (.lst []))) (hG : ∀ D i H', H D = none → Pv D i H' → Same H H')
    (hs : ∀ D i x H', H D = none → i < xs.length → Pv D i H' → xs[i]? = some x → g x (wipe σ vs) H' fun σ2 H2 => wipe σ2 vs = wipe σ vs ∧ tt σ2 H2 fun b H3 =>
      if b = true then te σ2 H3 fun y H4 => ∃ acc, H4 D = some (.lst acc) ∧ acc.length < sizeLine ∧ Pv D (i + 1) (upd H4 D (.lst (acc ++ [y]))) else Pv D (i + 1) H3)
    (hd : ∀ D H', H D = none → Pv D xs.length H' → Q (.ref D) H') : tLc (iSeq K (tVar j)) g tt te vs σ H Q := by
  rcases h with h | h
  · refine .inl ⟨_, e, a, rfl, ⟨_, SqL.of h⟩, fun D hD => lc_it (walk_list (xs := xs)) (Pv D) (h0 D hD) (fun i H' _ z => SqL.of (hG D i _ hD z _ _ h)) ?_ (fun H' z => hd D H' hD z)⟩
    rintro i y H1' H1 hi z ⟨rfl, ey⟩
    exact hs D i y _ hD hi z ey
  · refine .inr ⟨_, e, a, rfl, ⟨_, h.sq⟩, fun D hD => lc_it (walk_tup (xs := xs)) (Pv D) (h0 D hD) (fun i H' _ z => (h.kp (ObKp.of (hG D i _ hD z))).sq) ?_ (fun H' z => hd D H' hD z)⟩
    rintro i y H1' H1 hi z ⟨rfl, ey⟩
    exact hs D i y _ hD hi z ey
def spRowOf (K : PySem.W.Frag) (p : Pkg) (k : Nat) : Sp := fun vs H Q _ => ∃ (v : V) (r : RowD) (B : BookD), vs = [v] ∧ RowAt H r v ∧ okRow B r k ∧ BkOk B ∧ ∀ H' u, Same H H' → RowOb K p H' r u → Q u H'
def spRowsOf (K : PySem.W.Frag) (p : Pkg) (k : Nat) : Sp := fun vs H Q _ => ∃ (a : Addr) (xs : List V) (rs : List RowD) (B : BookD), vs = [.ref a] ∧ Sq K H a xs ∧ RowL H rs xs ∧ okRowL B rs k ∧ BkOk B ∧ rs.length ≤ 10000 ∧ ∀ H' a' ys, Same H H' → H a' = none → H' a' = some (.lst ys) → RowObL K p H' rs ys → Q (.ref a') H'
def spRowsOfK (K : PySem.W.Frag) (p : Pkg) : Nat → Sp
  | 0 => fun _ _ _ _ => False
  | k + 1 => spRowsOf K p k
theorem okW_of {B : BookD} {s : Str} (h : okWhat B s) (ok : BkOk B) : okW s := h.elim .inl fun h => .inr (ok.toks s (List.mem_append_right _ h))
theorem okRowL.get {B : BookD} {k : Nat} : ∀ {rs : List RowD} {i : Nat} {r : RowD}, okRowL B rs k → rs[i]? = some r → okRow B r k
  | [], i, r, _, e => by simp at e
  | r0 :: rs, i, r, h, e => by
    unfold okRowL at h
    cases i with
    | zero => rw [List.getElem?_cons_zero] at e; cases e; exact h.1
    | succ i => rw [List.getElem?_cons_succ] at e; exact okRowL.get h.2 e
section
variable {P : Program} {w : World} {K : PySem.W.Frag} {mg : Str → Option Value} {base : Heap}
abbrev s_law_rows_of : Stmt := top 46
abbrev n_law_rows_of : List Str := ["_law_rows_here", "_law_row_here"]
theorem sc_law_rows_of : FnScope n_law_rows_of ["_law_rows_here"] (defScope s_law_rows_of) := ⟨rfl, rfl, rfl, by decide +kernel, rfl, by decide +kernel, by decide +kernel⟩
theorem ok_rowsOfD {p : Pkg} {k n : Nat} (hn : 1 ≤ n) (T : Txt mg) (g_law_row_of : Has P w K mg base n "_law_row_of" ["_law_row_here"] (spRowOf K p k)) (F : DefAt K mg "_law_rows_of" s_law_rows_of ["_law_rows_here"]) : Has P w K mg base (n + 1) "_law_rows_of" ["_law_rows_here"] (spRowsOf K p k) := by
  refine F.has sc_law_rows_of (fun vs H Q E h => ?_) (fun f cdv A outer s H vs Q E hr h => ?_)
  · obtain ⟨a, xs, rs, B, rfl, _⟩ := h
    rfl
  · obtain ⟨a, xs, rs, B, rfl, ha, rl, ok, bok, l, ret⟩ := h
    refine ⟨_, (pss_one (ps_ret (pe_lc (own := [("_law_row_here", 1)]) (g := gName 1) (by rfl) sc_law_rows_of.nd (pi_seq (pv 0)) (blkOk_by (own := [("_law_row_here", 1)]) (N := n_law_rows_of) (sc := defScope s_law_rows_of) (by decide +kernel)) (fun _ _ _ _ _ => (pg_name (i := 1) sc_law_rows_of.nd rfl (Or.inl rfl))) (fun _ _ _ _ _ => pts_nil) (fun _ _ _ _ _ => (pe_callHas g_law_row_of (hr.mono (by omega)) rfl (pa_cons (pv 1) pa_nil)))))), ?_⟩
    have q10000 : (10000 : Nat) < sizeLine := by decide
    have lx := rl.len
    refine ret_go (lc_sq rfl ha (fun D i H' => Same H H' ∧ ∃ ys, H' D = some (.lst ys) ∧ RowObL K p H' (rs.take i) ys) (fun D hD => ⟨(new_at hD).1, [], upd_same, by rw [List.take_zero]; unfold RowObL; rfl⟩) (fun D i H' _ z => z.1) ?_ ?_)
    · rintro D i y H1 hD hi ⟨s1, ys, hD1, ro⟩ ey
      obtain ⟨r, er, ra⟩ := rl.at' ey
      refine name_go ⟨rfl, ?_⟩
      unfold tYes
      refine iteSe rfl ?_
      refine ⟨_, rfl, y, r, B, rfl, ra.kp (TupKp.of s1), ok.get er, bok, fun H2 u s2 ob => ?_⟩
      have hD2 := s2 _ _ hD1
      have hir := (List.getElem?_eq_some_iff.mp er).1
      have ly := ro.len
      rw [List.length_take] at ly
      refine ⟨ys, hD2, by omega, fun b o e => (upd_ne (ne_of_none e hD)).trans (s2 _ _ (s1 _ _ e)), ys ++ [u], upd_same, ?_⟩
      have oA : ObKp H2 (upd H2 D (.lst (ys ++ [u]))) := ObKp.lst hD2
      have e1 : rs.take (i + 1) = rs.take i ++ [r] := by
        rw [← List.take_append_getElem hir]
        rw [List.getElem?_eq_getElem hir] at er
        rw [Option.some.inj er]
      rw [e1]
      exact RowObL.app ((ro.kp (ObKp.of s2)).kp oA) (ob.kp oA)
    · rintro D H1 hD ⟨s1, ys, hD1, ro⟩
      rw [lx, List.take_length] at ro
      exact ret H1 D ys s1 hD hD1 ro
abbrev s_law_row_of : Stmt := top 45
abbrev n_law_row_of : List Str := ["_law_row_here", "_law_word"]
theorem sc_law_row_of : FnScope n_law_row_of ["_law_row_here"] (defScope s_law_row_of) := ⟨rfl, rfl, rfl, by decide +kernel, rfl, by decide +kernel, by decide +kernel⟩
theorem ok_rowOfD {p : Pkg} {k n : Nat} {fI fA fP fK : Addr} {fdI fdA fdP fdK : FuncData} (hn : 9 ≤ n) (T : Txt mg)
    (CI : ClsA K mg "If" p.CI ["test", "rows", "others"]) (MI : Mk K p.CI fI) (g_I : FnOk P w K mg base CX0 3 fI fdI ["self", "test", "rows", "others"] (spIfI K p)) (bI : Binds K fdI ["self", "test", "rows", "others"] [])
    (CA : ClsA K mg "Add" p.CA ["factor", "what", "total", "place"]) (MA : Mk K p.CA fA) (g_A : FnOk P w K mg base CX0 3 fA fdA ["self", "factor", "what", "total", "place"] (spAddI p.CA)) (bA : Binds K fdA ["self", "factor", "what", "total", "place"] [])
    (CP : ClsA K mg "Put" p.CP ["note", "what"]) (MP : Mk K p.CP fP) (g_P : FnOk P w K mg base CX0 3 fP fdP ["self", "note", "what"] (spPutI p.CP)) (bP : Binds K fdP ["self", "note", "what"] [])
    (CK : ClsA K mg "Mark" p.CK ["place"]) (MK : Mk K p.CK fK) (g_K : FnOk P w K mg base CX0 3 fK fdK ["self", "place"] (spMarkI p.CK)) (bK : Binds K fdK ["self", "place"] [])
    (g_law_test_of : Has P w K mg base 9 "_law_test_of" ["_law_test_here"] (spTestOf p 2)) (g_law_rows_of : Has P w K mg base n "_law_rows_of" ["_law_rows_here"] (spRowsOfK K p k)) (F : DefAt K mg "_law_row_of" s_law_row_of ["_law_row_here"]) : Has P w K mg base (n + 1) "_law_row_of" ["_law_row_here"] (spRowOf K p k) := by
  refine F.has sc_law_row_of (fun vs H Q E h => ?_) (fun f cdv A outer s H vs Q E hr h => ?_)
  · obtain ⟨v, r, B, rfl, _⟩ := h
    rfl
  · obtain ⟨v, r, B, rfl, at', ok, bok, ret⟩ := h
    refine ⟨_, (pss_cons (ps_set (i := 1) sc_law_row_of.nd rfl (Or.inl rfl) (pe_ix ix_tup (pv 0) pe_int (fun _ _ => rfl)))
      (pss_cons (ps_if (pt_cmpR op_eq (pv 1) pe_str (nomark _)) (pss_one (ps_ret (pe_make MI g_I (hr.mono (by omega)) rfl CI.m bI .nil pass0 (pa_cons (pe_callHas g_law_test_of (hr.mono (by omega)) rfl (pa_cons (pe_ix ix_tup (pv 0) pe_int (fun _ _ => rfl)) pa_nil)) (pa_cons (pe_callHas g_law_rows_of (hr.mono (by omega)) rfl (pa_cons (pe_ix ix_tup (pv 0) pe_int (fun _ _ => rfl)) pa_nil)) (pa_cons (pe_callTy call_tuple_of (by rfl) T.z_tuple (by decide +kernel) (pa_cons (pe_callHas g_law_rows_of (hr.mono (by omega)) rfl (pa_cons (pe_ix ix_tup (pv 0) pe_int (fun _ _ => rfl)) pa_nil)) pa_nil)) pa_nil)))))) pss_nil)
      (pss_cons (ps_if (pt_cmpR op_eq (pv 1) pe_str (nomark _)) (pss_one (ps_ret (pe_make MA g_A (hr.mono (by omega)) rfl CA.m bA .nil pass0 (pa_cons (pe_ix ix_tup (pv 0) pe_int (fun _ _ => rfl)) (pa_cons (pe_ix ix_tup (pv 0) pe_int (fun _ _ => rfl)) (pa_cons (pe_ix ix_tup (pv 0) pe_int (fun _ _ => rfl)) (pa_cons (pe_ix ix_tup (pv 0) pe_int (fun _ _ => rfl)) pa_nil))))))) pss_nil)
      (pss_one (ps_ret (pe_ifExp (pt_cmpR op_eq (pv 1) pe_str (nomark _)) (pe_make MP g_P (hr.mono (by omega)) rfl CP.m bP .nil pass0 (pa_cons (pe_ix ix_tup (pv 0) pe_int (fun _ _ => rfl)) (pa_cons (pe_ix ix_tup (pv 0) pe_int (fun _ _ => rfl)) pa_nil))) (pe_make MK g_K (hr.mono (by omega)) rfl CK.m bK .nil pass0 (pa_cons (pe_ix ix_tup (pv 0) pe_int (fun _ _ => rfl)) pa_nil)))))))), ?_⟩
    have q1000 : (1000 : Nat) < sizeLine := by decide
    cases r with
    | ife t a b =>
      unfold RowAt at at'
      obtain ⟨q, u, x, y, xs, ys, rfl, hq, rt, hx0, rl, hy0, rl2⟩ := at'
      unfold okRow at ok
      obtain ⟨k', rfl, ot, dt, la, lb, oa, ob⟩ := ok
      refine seq_asg (op_go ?_)
      refine ⟨_, rfl, q, _, _, _, rfl, rfl, SqT.of hq, rfl, name_go ?_⟩
      try dsimp only
      refine seq_go ⟨_, rfl, rfl, _, rfl, iteSe (by decide +kernel) ?_⟩
      refine ret_go ?_
      refine ⟨_, rfl, q, _, _, _, rfl, rfl, SqT.of hq, rfl, ?_⟩
      refine ⟨u, t, B, rfl, rt, ot, bok, dt, fun H1 u1 s1 ob1 => ?_⟩
      refine ⟨_, rfl, q, _, _, _, rfl, rfl, SqT.of (s1 _ _ hq), rfl, ?_⟩
      refine ⟨x, xs, a, B, rfl, .inr (.inl (s1 _ _ hx0)), rl.kp (TupKp.of s1), oa, bok, by omega, fun H2 a2 ys2 s2 hn2 h2 ro2 => ?_⟩
      have s12 := s1.trans s2
      refine ⟨_, rfl, q, _, _, _, rfl, rfl, SqT.of (s12 _ _ hq), rfl, ?_⟩
      refine ⟨y, ys, b, B, rfl, .inr (.inl (s12 _ _ hy0)), rl2.kp (TupKp.of s12), ob, bok, by omega, fun H3 a3 ys3 s3 hn3 h3 ro3 => ?_⟩
      refine ⟨a3, ys3, rfl, .inl ⟨SqL.of h3, fun tt htt => ?_⟩⟩
      obtain ⟨s4, h4⟩ := new_at (o := .tup ys3) htt
      have s14 := (s12.trans s3).trans s4
      have o1 := ob1.kp (ObKp.of ((s2.trans s3).trans s4))
      have h2' := s4 _ _ (s3 _ _ h2)
      have ro2' := ro2.kp (ObKp.of (s3.trans s4))
      have ro3' := ro3.kp (ObKp.of s4)
      intro xx dx hx hdx nd
      have sl := laid (C := p.CI) hx hdx nd
      refine ⟨xx, dx, u1, t, a2, tt, ys2, ys3, a, b, rfl, upd_same, o1.kp (ObKp.of sl), .inl (sl _ _ h2'), ro2'.kp (ObKp.of sl), .inr (.inl (sl _ _ h4)), ro3'.kp (ObKp.of sl), by omega, by omega, fun H' r' o' kp tr tq hxx => ⟨rfl, ?_⟩⟩
      have sf : Same (upd H3 tt (.tup ys3)) H' := fun z o e => kp z o (ne_of_none e hx) (sl _ _ e)
      refine ret H' _ (s14.trans sf) ?_
      unfold RowOb
      exact ⟨xx, dx, u1, r', o', ys2, ys3, rfl, hxx, o1.kp (ObKp.of sf), tr, ro2'.kp (ObKp.of sf), tq, ro3'.kp (ObKp.of sf)⟩
    | add fc wh tt pl =>
      unfold RowAt at at'
      obtain ⟨q, rfl, hq⟩ := at'
      unfold okRow at ok
      obtain ⟨_, _, ow, ot, op⟩ := ok
      refine seq_asg (op_go ?_)
      refine ⟨_, rfl, q, _, _, _, rfl, rfl, SqT.of hq, rfl, name_go ?_⟩
      try dsimp only
      refine seq_go ⟨_, rfl, rfl, _, rfl, iteSf (by decide +kernel) (next_go ?_)⟩
      try dsimp only
      refine seq_go ⟨_, rfl, rfl, _, rfl, iteSe (by decide +kernel) ?_⟩
      refine ret_go ?_
      refine ⟨_, rfl, q, _, _, _, rfl, rfl, SqT.of hq, rfl, ?_⟩
      refine ⟨_, rfl, q, _, _, _, rfl, rfl, SqT.of hq, rfl, ?_⟩
      refine ⟨_, rfl, q, _, _, _, rfl, rfl, SqT.of hq, rfl, ?_⟩
      refine ⟨_, rfl, q, _, _, _, rfl, rfl, SqT.of hq, rfl, ?_⟩
      intro x dx hx hdx nd
      have sl := laid (C := p.CA) hx hdx nd
      refine ⟨x, dx, fc, wh, tt, pl, rfl, upd_same, okW_of ow bok, bok.toks tt (List.mem_append_left _ ot), op, fun H1 s1 => ⟨rfl, ret _ _ (fun z o e => (upd_ne (ne_of_none e hx)).trans (s1 _ _ (sl _ _ e))) ?_⟩⟩
      unfold RowOb
      exact ⟨x, dx, rfl, upd_same⟩
    | put nt wh =>
      unfold RowAt at at'
      obtain ⟨q, rfl, hq⟩ := at'
      unfold okRow at ok
      obtain ⟨on, ow⟩ := ok
      refine seq_asg (op_go ?_)
      refine ⟨_, rfl, q, _, _, _, rfl, rfl, SqT.of hq, rfl, name_go ?_⟩
      try dsimp only
      refine seq_go ⟨_, rfl, rfl, _, rfl, iteSf (by decide +kernel) (next_go ?_)⟩
      try dsimp only
      refine seq_go ⟨_, rfl, rfl, _, rfl, iteSf (by decide +kernel) (next_go ?_)⟩
      try dsimp only
      refine ret_go ⟨_, rfl, rfl, _, rfl, iteSe (by decide +kernel) ?_⟩
      refine ⟨_, rfl, q, _, _, _, rfl, rfl, SqT.of hq, rfl, ?_⟩
      refine ⟨_, rfl, q, _, _, _, rfl, rfl, SqT.of hq, rfl, ?_⟩
      intro x dx hx hdx nd
      refine ⟨x, dx, nt, wh, rfl, upd_same, bok.toks nt (List.mem_append_right _ on), okW_of ow bok, rfl, ret _ _ (laid2 hx hdx nd) ?_⟩
      unfold RowOb
      exact ⟨x, dx, rfl, upd_same⟩
    | mark pl =>
      unfold RowAt at at'
      obtain ⟨q, rfl, hq⟩ := at'
      unfold okRow at ok
      refine seq_asg (op_go ?_)
      refine ⟨_, rfl, q, _, _, _, rfl, rfl, SqT.of hq, rfl, name_go ?_⟩
      try dsimp only
      refine seq_go ⟨_, rfl, rfl, _, rfl, iteSf (by decide +kernel) (next_go ?_)⟩
      try dsimp only
      refine seq_go ⟨_, rfl, rfl, _, rfl, iteSf (by decide +kernel) (next_go ?_)⟩
      try dsimp only
      refine ret_go ⟨_, rfl, rfl, _, rfl, iteSf (by decide +kernel) ?_⟩
      refine ⟨_, rfl, q, _, _, _, rfl, rfl, SqT.of hq, rfl, ?_⟩
      intro x dx hx hdx nd
      have sl := laid (C := p.CK) hx hdx nd
      refine ⟨x, dx, pl, rfl, upd_same, ok, fun H1 s1 => ⟨rfl, ret _ _ (fun z o e => (upd_ne (ne_of_none e hx)).trans (s1 _ _ (sl _ _ e))) ?_⟩⟩
      unfold RowOb
      exact ⟨x, dx, rfl, upd_same⟩
end
end K14

namespace K14
open PySem L2 PySem.Spec PyProof.Rows
/-! ## the texts of tests and rows -/
theorem jn (sep : Str) (l : List Str) : Txt.join sep l = PySem.Str.join sep l := PySem.StrLaws.glued_eq_join sep l
theorem join_one (sep a : Str) : Txt.join sep [a] = a := by rw [jn]; rfl
theorem join_cons (sep a b : Str) (r : List Str) : Txt.join sep (a :: b :: r) = a ++ sep ++ Txt.join sep (b :: r) := by rw [jn, jn]; rfl
theorem sapp_assoc (a b c : Str) : a ++ b ++ c = a ++ (b ++ c) := by
  cases a; cases b; cases c
  show Str.mk _ = Str.mk _
  congr 1
  exact Array.append_assoc
theorem slen_app (a b : Str) : (a ++ b).length = a.length + b.length := Array.size_append
theorem join_app (sep : Str) : ∀ (l m : List Str), l ≠ [] → m ≠ [] → Txt.join sep (l ++ m) = Txt.join sep l ++ sep ++ Txt.join sep m
  | [], _, h, _ => absurd rfl h
  | [a], m, _, hm => by
    cases m with
    | nil => exact absurd rfl hm
    | cons b r => rw [join_one]; exact join_cons sep a b r
  | a :: b :: l, m, _, hm => by
    have ih := join_app sep (b :: l) m (fun z => nomatch z) hm
    show Txt.join sep (a :: b :: (l ++ m)) = _
    rw [join_cons sep a b l, join_cons sep a b (l ++ m), show b :: (l ++ m) = (b :: l) ++ m from rfl, ih]
    simp only [sapp_assoc]
/-- texts of texts one behind the other -/
theorem join_flat (sep : Str) : ∀ (ls : List (List Str)), (∀ l ∈ ls, l ≠ []) → Txt.join sep (ls.map (Txt.join sep)) = Txt.join sep ls.flatten
  | [], _ => rfl
  | [l], h => by
    rw [List.map_cons, List.map_nil, join_one]
    simp
  | l :: m :: ls, h => by
    have ih := join_flat sep (m :: ls) fun x hx => h x (List.mem_cons_of_mem _ hx)
    rw [List.map_cons, List.map_cons, join_cons, ← List.map_cons, ih, List.flatten_cons]
    refine (join_app sep l (m :: ls).flatten (h l List.mem_cons_self) fun z => ?_).symm
    have hm := h m (List.mem_cons_of_mem _ List.mem_cons_self)
    rw [List.flatten_cons] at z
    exact hm (List.append_eq_nil_iff.mp z).1
def testW : TestD → List Str
  | .was k => ["was", k]
  | .cut o n => [belowS o, "below", iS n]
  | .moved => ["moved"]
  | .noted => ["noted"]
  | .not t => "not" :: testW t
def testS (t : TestD) : Str := Txt.join " " (testW t)
theorem testW_ne : ∀ t : TestD, testW t ≠ [] := fun t => by cases t <;> exact fun z => nomatch z
theorem testS_not (t : TestD) : testS (.not t) = "not " ++ testS t := by
  unfold testS
  cases e : testW t with
  | nil => exact absurd e (testW_ne t)
  | cons a r =>
    show Txt.join " " ("not" :: testW t) = _
    rw [e, join_cons]
    rfl
theorem testS_was (k : Str) : testS (.was k) = "was " ++ k := by
  show Txt.join " " ["was", k] = _
  rw [join_cons, join_one]
  rfl
theorem testS_cut (o : Bool) (n : Int) : testS (.cut o n) = belowS o ++ " below " ++ iS n := by
  show Txt.join " " [belowS o, "below", iS n] = _
  rw [join_cons, join_cons, join_one]
  have e : (" " : Str) ++ "below" ++ " " = " below " := by decide +kernel
  rw [← e]
  simp only [sapp_assoc]
mutual
def rowLines : RowD → List Str
  | .ife t a b => Txt.join " " ("if" :: testW t) :: (rowsLines a ++ ((if b.isEmpty then [] else ("else" : Str) :: rowsLines b) ++ [("end" : Str)]))
  | .add f w t p => [Txt.join " " ["add", iS f, w, t, p]]
  | .put n w => [Txt.join " " ["put", n, w]]
  | .mark p => [Txt.join " " ["mark", p]]
def rowsLines : List RowD → List Str
  | [] => []
  | r :: rs => rowLines r ++ rowsLines rs
end
def rowS (r : RowD) : Str := Txt.join "\n" (rowLines r)
theorem rowLines_ne (r : RowD) : rowLines r ≠ [] := by cases r <;> (unfold rowLines; exact fun z => nomatch z)
theorem rowsLines_eq : ∀ rs : List RowD, rowsLines rs = (rs.map rowLines).flatten
  | [] => by unfold rowsLines; rfl
  | r :: rs => by unfold rowsLines; rw [rowsLines_eq rs]; rfl
theorem ifLine (t : TestD) : Txt.join " " ("if" :: testW t) = "if " ++ testS t := by
  unfold testS
  cases e : testW t with
  | nil => exact absurd e (testW_ne t)
  | cons a r => rw [join_cons]; rfl
/-! sizes -/
def numOk (n : Int) : Prop := n.natAbs.log2 < 1920
theorem numOk_of {n : Int} (h : -999999 ≤ n ∧ n ≤ 999999) : numOk n := by
  unfold numOk
  have : n.natAbs < 2 ^ 1000 := Nat.lt_of_le_of_lt (m := 999999) (by omega) (by decide +kernel)
  rcases Nat.eq_zero_or_pos n.natAbs with e | e
  · rw [e]; decide
  · have := (Nat.log2_lt (by omega)).mpr this
    omega
def okT : TestD → Prop
  | .was k => okKind k
  | .cut _ n => numOk n
  | .not t => okT t
  | _ => True
theorem okT_of {B : BookD} (ok : BkOk B) : ∀ {t : TestD}, okTest B t → okT t
  | .was k, h => okKind_of h ok
  | .cut _ n, h => numOk_of (ok.nums n h)
  | .moved, _ => trivial
  | .noted, _ => trivial
  | .not t, h => okT_of ok (t := t) h
theorem testS_len : ∀ {t : TestD}, okT t → (testS t).length ≤ 1950 + 4 * tdep t
  | .was k, h => by
    have := okKind.len (show okKind k from h)
    rw [testS_was, slen_app]
    show 4 + k.length ≤ 1950 + 4 * 0
    omega
  | .cut o n, h => by
    have := iS_len (show n.natAbs.log2 < 1920 from h)
    have hb : (belowS o).length ≤ 3 := by cases o <;> decide
    rw [testS_cut, slen_app, slen_app]
    show (belowS o).length + 7 + (iS n).length ≤ 1950 + 4 * 0
    omega
  | .moved, _ => by decide +kernel
  | .noted, _ => by decide +kernel
  | .not t, h => by
    have := testS_len (t := t) h
    rw [testS_not, slen_app]
    show 4 + (testS t).length ≤ 1950 + 4 * (tdep t + 1)
    omega
end K14

set_option pp.maxSteps 600
namespace K14
open PySem L2 PySem.Spec PyProof.Rows
theorem empty_app (s : Str) : Str.empty ++ s = s := by
  cases s
  show Str.mk _ = Str.mk _
  congr 1
  exact Array.empty_append
/-- the classes are unlike -/
structure Unlike (p : Pkg) : Prop where
  nd : (p.tests ++ p.rows).Nodup
def TestSh (p : Pkg) (k : Nat) (H : Hp) (a : Addr) (z : Str) : Prop := ∃ t, TestOb p H (.ref a) t ∧ okT t ∧ tdep t ≤ k ∧ z = testS t
/-- the sort of a test by its class -/
def clsT (p : Pkg) : TestD → Addr
  | .was _ => p.CW
  | .cut o _ => if o then p.CO else p.CB
  | .moved => p.CM
  | .noted => p.CT
  | .not _ => p.CN
theorem TestOb.at' {p : Pkg} {H : Hp} {a C dx : Addr} {fs : List (Str × V)} {t : TestD} (h : TestOb p H (.ref a) t) (ha : H a = some (.ins C dx fs)) : clsT p t = C := by
  cases t with
  | was k => obtain ⟨b, dx, e, h⟩ := h; cases e; rw [h] at ha; cases ha; rfl
  | cut o n => obtain ⟨b, dx, e, h⟩ := h; cases e; rw [h] at ha; cases ha; rfl
  | moved => obtain ⟨b, dx, e, h⟩ := h; cases e; rw [h] at ha; cases ha; rfl
  | noted => obtain ⟨b, dx, e, h⟩ := h; cases e; rw [h] at ha; cases ha; rfl
  | not t => obtain ⟨b, dx, u, e, h, _⟩ := h; cases e; rw [h] at ha; cases ha; rfl
theorem Unlike.tests {p : Pkg} (U : Unlike p) : p.tests.Nodup := U.nd.sublist (List.sublist_append_left _ _)
section
variable {p : Pkg} (U : Unlike p) {t : TestD}
include U
theorem is_was (h : clsT p t = p.CW) : ∃ k, t = .was k := by
  have := U.tests
  simp only [Pkg.tests, List.nodup_cons, List.mem_cons, List.not_mem_nil, or_false, not_or] at this
  cases t with
  | was k => exact ⟨k, rfl⟩
  | cut o n => cases o <;> simp_all [clsT]
  | _ => simp_all [clsT]
theorem is_old (h : clsT p t = p.CO) : ∃ n, t = .cut true n := by
  have := U.tests
  simp only [Pkg.tests, List.nodup_cons, List.mem_cons, List.not_mem_nil, or_false, not_or] at this
  cases t with
  | cut o n =>
    cases o with
    | true => exact ⟨n, rfl⟩
    | false => simp_all [clsT]
  | _ => simp_all [clsT]
theorem is_new (h : clsT p t = p.CB) : ∃ n, t = .cut false n := by
  have := U.tests
  simp only [Pkg.tests, List.nodup_cons, List.mem_cons, List.not_mem_nil, or_false, not_or] at this
  cases t with
  | cut o n =>
    cases o with
    | false => exact ⟨n, rfl⟩
    | true => simp_all [clsT]
  | _ => simp_all [clsT]
theorem is_moved (h : clsT p t = p.CM) : t = .moved := by
  have := U.tests
  simp only [Pkg.tests, List.nodup_cons, List.mem_cons, List.not_mem_nil, or_false, not_or] at this
  cases t with
  | moved => rfl
  | cut o n => cases o <;> simp_all [clsT]
  | _ => simp_all [clsT]
theorem is_noted (h : clsT p t = p.CT) : t = .noted := by
  have := U.tests
  simp only [Pkg.tests, List.nodup_cons, List.mem_cons, List.not_mem_nil, or_false, not_or] at this
  cases t with
  | noted => rfl
  | cut o n => cases o <;> simp_all [clsT]
  | _ => simp_all [clsT]
theorem is_not (h : clsT p t = p.CN) : ∃ t', t = .not t' := by
  have := U.tests
  simp only [Pkg.tests, List.nodup_cons, List.mem_cons, List.not_mem_nil, or_false, not_or] at this
  cases t with
  | not t => exact ⟨t, rfl⟩
  | cut o n => cases o <;> simp_all [clsT]
  | _ => simp_all [clsT]
end
section
variable {P : Program} {w : World} {K : PySem.W.Frag} {mg : Str → Option Value} {base : Heap}
abbrev s_Was_str : Stmt := inClass (top 15) 2
abbrev n_Was_str : List Str := ["self"]
theorem sc_Was_str : FnScope n_Was_str ["self"] (defScope s_Was_str) := ⟨rfl, rfl, rfl, by decide +kernel, rfl, by decide +kernel, by decide +kernel⟩
theorem ok_wasS {p : Pkg} {k fI : Nat} {fd : FuncData} (U : Unlike p) (CE : ClsA K mg "Was" p.CW ["kind"]) (F : Fun K "__str__" "Was.__str__" s_Was_str fI fd) : FnOk P w K mg base CX0 1 fI fd ["self"] (spStrC p.CW (TestSh p k)) := by
  refine F.ok sc_Was_str (fun vs H Q E h => ?_) (fun cdv A outer s H vs Q E hr h => ?_)
  · obtain ⟨a, dx, fs, z, rfl, _⟩ := h
    rfl
  · obtain ⟨a, dx, fs, z, rfl, ha, ⟨t, ob, ot, dt, rfl⟩, k⟩ := h
    refine ⟨_, (pss_one (ps_ret (pe_joined (PJ.cons pe_str (PJ.cons (pe_fmt (pe_fld (pv 0) rfl)) PJ.nil))))), ?_⟩
    obtain ⟨kd, rfl⟩ := is_was U (ob.at' ha)
    obtain ⟨_, dx', e, h⟩ := ob
    cases e
    have lk := okKind.len (show okKind kd from ot)
    have q1000 : (1000 : Nat) < sizeLine := by decide
    refine ⟨_, rfl, by decide, ?_⟩
    refine ⟨_, rfl, a, p.CW, dx', _, .str kd, rfl, h, CE.cl, CE.n _ (by simp), rfl, .inl ⟨kd, rfl, by omega, ?_⟩⟩
    refine ⟨_, rfl, by rw [slen_app, slen_app]; show 0 + 4 + kd.length ≤ sizeLine; omega, ?_⟩
    have := k H fun _ _ h => h
    rw [testS_was] at this
    rw [empty_app]
    exact this
abbrev s_OldBelow_str : Stmt := inClass (top 16) 2
abbrev n_OldBelow_str : List Str := ["self"]
theorem sc_OldBelow_str : FnScope n_OldBelow_str ["self"] (defScope s_OldBelow_str) := ⟨rfl, rfl, rfl, by decide +kernel, rfl, by decide +kernel, by decide +kernel⟩
theorem ok_oldS {p : Pkg} {k fI : Nat} {fd : FuncData} (U : Unlike p) (CE : ClsA K mg "OldBelow" p.CO ["number"]) (F : Fun K "__str__" "OldBelow.__str__" s_OldBelow_str fI fd) : FnOk P w K mg base CX0 1 fI fd ["self"] (spStrC p.CO (TestSh p k)) := by
  refine F.ok sc_OldBelow_str (fun vs H Q E h => ?_) (fun cdv A outer s H vs Q E hr h => ?_)
  · obtain ⟨a, dx, fs, z, rfl, _⟩ := h
    rfl
  · obtain ⟨a, dx, fs, z, rfl, ha, ⟨t, ob, ot, dt, rfl⟩, k⟩ := h
    refine ⟨_, (pss_one (ps_ret (pe_joined (PJ.cons pe_str (PJ.cons (pe_fmt (pe_fld (pv 0) rfl)) PJ.nil))))), ?_⟩
    obtain ⟨n, rfl⟩ := is_old U (ob.at' ha)
    obtain ⟨_, dx', e, h⟩ := ob
    cases e
    have ln := iS_len (show n.natAbs.log2 < 1920 from ot)
    have q1000 : (10000 : Nat) < sizeLine := by decide
    refine ⟨_, rfl, by decide, ?_⟩
    refine ⟨_, rfl, a, p.CO, dx', _, .int n, rfl, h, CE.cl, CE.n _ (by simp), rfl, .inr ⟨n, rfl, ot, ?_⟩⟩
    refine ⟨_, rfl, by rw [slen_app, slen_app]; show 0 + 10 + (iS n).length ≤ sizeLine; omega, ?_⟩
    have := k H fun _ _ h => h
    rw [testS_cut] at this
    rw [empty_app]
    exact this
abbrev s_NewBelow_str : Stmt := inClass (top 17) 2
abbrev n_NewBelow_str : List Str := ["self"]
theorem sc_NewBelow_str : FnScope n_NewBelow_str ["self"] (defScope s_NewBelow_str) := ⟨rfl, rfl, rfl, by decide +kernel, rfl, by decide +kernel, by decide +kernel⟩
theorem ok_newS {p : Pkg} {k fI : Nat} {fd : FuncData} (U : Unlike p) (CE : ClsA K mg "NewBelow" p.CB ["number"]) (F : Fun K "__str__" "NewBelow.__str__" s_NewBelow_str fI fd) : FnOk P w K mg base CX0 1 fI fd ["self"] (spStrC p.CB (TestSh p k)) := by
  refine F.ok sc_NewBelow_str (fun vs H Q E h => ?_) (fun cdv A outer s H vs Q E hr h => ?_)
  · obtain ⟨a, dx, fs, z, rfl, _⟩ := h
    rfl
  · obtain ⟨a, dx, fs, z, rfl, ha, ⟨t, ob, ot, dt, rfl⟩, k⟩ := h
    refine ⟨_, (pss_one (ps_ret (pe_joined (PJ.cons pe_str (PJ.cons (pe_fmt (pe_fld (pv 0) rfl)) PJ.nil))))), ?_⟩
    obtain ⟨n, rfl⟩ := is_new U (ob.at' ha)
    obtain ⟨_, dx', e, h⟩ := ob
    cases e
    have ln := iS_len (show n.natAbs.log2 < 1920 from ot)
    have q1000 : (10000 : Nat) < sizeLine := by decide
    refine ⟨_, rfl, by decide, ?_⟩
    refine ⟨_, rfl, a, p.CB, dx', _, .int n, rfl, h, CE.cl, CE.n _ (by simp), rfl, .inr ⟨n, rfl, ot, ?_⟩⟩
    refine ⟨_, rfl, by rw [slen_app, slen_app]; show 0 + 10 + (iS n).length ≤ sizeLine; omega, ?_⟩
    have := k H fun _ _ h => h
    rw [testS_cut] at this
    rw [empty_app]
    exact this
abbrev s_Moved_str : Stmt := inClass (top 18) 1
abbrev n_Moved_str : List Str := ["self"]
theorem sc_Moved_str : FnScope n_Moved_str ["self"] (defScope s_Moved_str) := ⟨rfl, rfl, rfl, by decide +kernel, rfl, by decide +kernel, by decide +kernel⟩
theorem ok_movedS {p : Pkg} {k fI : Nat} {fd : FuncData} (U : Unlike p) (F : Fun K "__str__" "Moved.__str__" s_Moved_str fI fd) : FnOk P w K mg base CX0 1 fI fd ["self"] (spStrC p.CM (TestSh p k)) := by
  refine F.ok sc_Moved_str (fun vs H Q E h => ?_) (fun cdv A outer s H vs Q E hr h => ?_)
  · obtain ⟨a, dx, fs, z, rfl, _⟩ := h
    rfl
  · obtain ⟨a, dx, fs, z, rfl, ha, ⟨t, ob, ot, dt, rfl⟩, k⟩ := h
    obtain rfl := is_moved U (ob.at' ha)
    exact ⟨_, (pss_one (ps_ret pe_str)), k H fun _ _ h => h⟩
abbrev s_Noted_str : Stmt := inClass (top 19) 1
abbrev n_Noted_str : List Str := ["self"]
theorem sc_Noted_str : FnScope n_Noted_str ["self"] (defScope s_Noted_str) := ⟨rfl, rfl, rfl, by decide +kernel, rfl, by decide +kernel, by decide +kernel⟩
theorem ok_notedS {p : Pkg} {k fI : Nat} {fd : FuncData} (U : Unlike p) (F : Fun K "__str__" "Noted.__str__" s_Noted_str fI fd) : FnOk P w K mg base CX0 1 fI fd ["self"] (spStrC p.CT (TestSh p k)) := by
  refine F.ok sc_Noted_str (fun vs H Q E h => ?_) (fun cdv A outer s H vs Q E hr h => ?_)
  · obtain ⟨a, dx, fs, z, rfl, _⟩ := h
    rfl
  · obtain ⟨a, dx, fs, z, rfl, ha, ⟨t, ob, ot, dt, rfl⟩, k⟩ := h
    obtain rfl := is_noted U (ob.at' ha)
    exact ⟨_, (pss_one (ps_ret pe_str)), k H fun _ _ h => h⟩
abbrev s_Not_str : Stmt := inClass (top 20) 2
abbrev n_Not_str : List Str := ["self"]
theorem sc_Not_str : FnScope n_Not_str ["self"] (defScope s_Not_str) := ⟨rfl, rfl, rfl, by decide +kernel, rfl, by decide +kernel, by decide +kernel⟩
theorem ok_notS {p : Pkg} {k n fI : Nat} {fd : FuncData} (U : Unlike p) (CE : ClsA K mg "Not" p.CN ["test"]) (ShT : Shows P w K mg base n p.tests (TestSh p k)) (lk : k ≤ 10) (F : Fun K "__str__" "Not.__str__" s_Not_str fI fd) : FnOk P w K mg base CX0 (n + 3) fI fd ["self"] (spStrC p.CN (TestSh p (k + 1))) := by
  refine F.ok sc_Not_str (fun vs H Q E h => ?_) (fun cdv A outer s H vs Q E hr h => ?_)
  · obtain ⟨a, dx, fs, z, rfl, _⟩ := h
    rfl
  · obtain ⟨a, dx, fs, z, rfl, ha, ⟨t, ob, ot, dt, rfl⟩, ret⟩ := h
    refine ⟨_, (pss_one (ps_ret (pe_joined (PJ.cons pe_str (PJ.cons (pe_fmtC ShT (hr.mono (by omega)) (pe_fld (pv 0) rfl)) PJ.nil))))), ?_⟩
    obtain ⟨t, rfl⟩ := is_not U (ob.at' ha)
    obtain ⟨_, dx', u, e, h, ob2⟩ := ob
    cases e
    have q1000 : (10000 : Nat) < sizeLine := by decide
    obtain ⟨b, C, dx2, fs2, rfl, hb, mC⟩ := ob2.cls
    have dt' : tdep t + 1 ≤ k + 1 := dt
    have ln := testS_len (show okT t from ot)
    refine ⟨_, rfl, by decide, ?_⟩
    refine ⟨_, rfl, a, p.CN, dx', _, .ref b, rfl, h, CE.cl, CE.n _ (by simp), rfl, b, C, dx2, fs2, testS t, rfl, hb, mC, ⟨t, ob2, ot, by omega, rfl⟩, fun H' s' => ?_⟩
    refine ⟨_, rfl, by rw [slen_app, slen_app]; show 0 + 4 + (testS t).length ≤ sizeLine; omega, ?_⟩
    have := ret H' s'
    rw [testS_not] at this
    rw [empty_app]
    exact this
end
end K14

set_option pp.maxSteps 600
namespace L2
open PySem PySem.Spec PyProof.Rows
theorem call_strCK {X : Cx} {P : Program} {w : World} {K : PySem.W.Frag} {mg : Str → Option Value} {base : Heap} {k : Nat} {cls : List Addr} {S : Hp → Addr → Str → Prop} (e1 : X.prog = P) (e2 : X.w = w) (e3 : X.K = K) (e4 : X.mg = mg) (e5 : X.base = base) (Sh : Shows P w K mg base k cls S) (hr : Room (k + 2) X.A) : CallR X (.type "str") (fun xs H Q => ∃ x, xs = [x] ∧ rStrC cls S x H Q) := by
  subst e1 e2 e3 e4 e5; exact call_strC Sh hr
end L2
namespace K14
open PySem L2 PySem.Spec PyProof.Rows
mutual
def okR : RowD → Nat → Prop
  | .ife t a b, k => ∃ k', k = k' + 1 ∧ okT t ∧ tdep t ≤ 2 ∧ a.length ≤ 3 ∧ b.length ≤ 3 ∧ okRL a k' ∧ okRL b k'
  | .add f w t p, _ => numOk f ∧ w.length ≤ 6 ∧ t.length ≤ 6 ∧ p.length ≤ 6
  | .put n w, _ => n.length ≤ 6 ∧ w.length ≤ 6
  | .mark p, _ => p.length ≤ 6
def okRL : List RowD → Nat → Prop
  | [], _ => True
  | r :: rs, k => okR r k ∧ okRL rs k
end
theorem mem_len {L : List Str} {n : Nat} {s : Str} (h : s ∈ L) (c : L.all (fun s => decide (s.length ≤ n)) = true) : s.length ≤ n := of_decide_eq_true (List.all_eq_true.mp c s h)
theorem okWhat_len {B : BookD} {s : Str} (h : okWhat B s) (ok : BkOk B) : s.length ≤ 6 := by
  rcases h with h | h
  · exact mem_len h (by decide +kernel)
  · have := nameB_len (ok.toks s (List.mem_append_right _ h)); omega
mutual
theorem okR_of {B : BookD} (ok : BkOk B) : ∀ {r : RowD} {k : Nat}, okRow B r k → okR r k
  | .ife t a b, k, h => by
    unfold okRow at h; unfold okR
    obtain ⟨k', e, h1, h2, h3, h4, h5, h6⟩ := h
    exact ⟨k', e, okT_of ok h1, h2, h3, h4, okRL_of ok h5, okRL_of ok h6⟩
  | .add f w t p, k, h => by
    unfold okRow at h; unfold okR
    have h1 := nameB_len (ok.toks t (List.mem_append_left _ h.2.2.2.1))
    exact ⟨numOk_of ⟨by omega, by omega⟩, okWhat_len h.2.2.1 ok, by omega, mem_len h.2.2.2.2 (by decide +kernel)⟩
  | .put n w, k, h => by
    unfold okRow at h; unfold okR
    have h1 := nameB_len (ok.toks n (List.mem_append_right _ h.1))
    exact ⟨by omega, okWhat_len h.2 ok⟩
  | .mark p, k, h => by
    unfold okRow at h; unfold okR
    exact mem_len h (by decide +kernel)
theorem okRL_of {B : BookD} (ok : BkOk B) : ∀ {rs : List RowD} {k : Nat}, okRowL B rs k → okRL rs k
  | [], _, _ => by unfold okRL; trivial
  | r :: rs, k, h => by unfold okRowL at h; unfold okRL; exact ⟨okR_of ok h.1, okRL_of ok h.2⟩
end
theorem okRL.get {k : Nat} : ∀ {rs : List RowD} {i : Nat} {r : RowD}, okRL rs k → rs[i]? = some r → okR r k
  | [], i, r, _, e => by simp at e
  | r0 :: rs, i, r, h, e => by
    unfold okRL at h
    cases i with
    | zero => rw [List.getElem?_cons_zero] at e; cases e; exact h.1
    | succ i => rw [List.getElem?_cons_succ] at e; exact okRL.get h.2 e
def ifTexts (t : TestD) (a b : List RowD) : List Str := ("if " ++ testS t) :: (a.map rowS ++ ((if b.isEmpty then [] else ("else" : Str) :: b.map rowS) ++ [("end" : Str)]))
theorem rowS_ife (t : TestD) (a b : List RowD) : rowS (.ife t a b) = Txt.join "\n" (ifTexts t a b) := by
  have e : rowLines (.ife t a b) = ([("if " ++ testS t)] :: (a.map rowLines ++ ((if b.isEmpty then [] else [("else" : Str)] :: b.map rowLines) ++ [[("end" : Str)]]))).flatten := by
    unfold rowLines
    rw [ifLine, rowsLines_eq, rowsLines_eq, List.flatten_cons, List.flatten_append, List.flatten_append]
    cases b with
    | nil => rfl
    | cons r b => rfl
  unfold rowS
  rw [e, ← join_flat]
  · unfold ifTexts
    congr 1
    rw [List.map_cons, join_one, List.map_append, List.map_append, List.map_map]
    cases b with
    | nil => rfl
    | cons r b =>
      show _ :: (_ ++ ((([("else" : Str)] :: (r :: b).map rowLines).map (Txt.join "\n")) ++ _)) = _
      rw [List.map_cons, join_one, List.map_map]
      rfl
  · intro l hl
    rcases List.mem_cons.mp hl with rfl | hl
    · exact fun z => nomatch z
    rcases List.mem_append.mp hl with hl | hl
    · obtain ⟨r, _, rfl⟩ := List.mem_map.mp hl; exact rowLines_ne r
    rcases List.mem_append.mp hl with hl | hl
    · cases b with
      | nil => cases hl
      | cons r b =>
        rcases List.mem_cons.mp hl with rfl | hl
        · exact fun z => nomatch z
        · obtain ⟨r, _, rfl⟩ := List.mem_map.mp hl; exact rowLines_ne r
    · rw [List.mem_singleton.mp hl]; exact fun z => nomatch z
/-- how long a row's text may be, by how deep it is -/
def Rb : Nat → Nat
  | 0 => 2000
  | k + 1 => 2100 + 6 * (Rb k + 1)
theorem sum_le {B : Nat} : ∀ {l : List Str}, (∀ s ∈ l, s.length ≤ B) → (l.map (·.length)).sum ≤ l.length * B
  | [], _ => Nat.zero_le _
  | s :: l, h => by
    have h1 := h s List.mem_cons_self
    have h2 := sum_le (l := l) fun x hx => h x (List.mem_cons_of_mem _ hx)
    simp only [List.map_cons, List.sum_cons, List.length_cons, Nat.succ_mul]
    omega
theorem ifTexts_sum {t : TestD} {a b : List RowD} {B : Nat} (ht : (testS t).length ≤ 1960) (la : a.length ≤ 3) (lb : b.length ≤ 3) (ha : ∀ r ∈ a, (rowS r).length ≤ B) (hb : ∀ r ∈ b, (rowS r).length ≤ B) : ((ifTexts t a b).map (·.length)).sum + (ifTexts t a b).length * ("\n" : Str).length ≤ 2100 + 6 * (B + 1) := by
  have sa := sum_le (l := a.map rowS) (B := B) fun s hs => by obtain ⟨r, hr, rfl⟩ := List.mem_map.mp hs; exact ha r hr
  have sb := sum_le (l := b.map rowS) (B := B) fun s hs => by obtain ⟨r, hr, rfl⟩ := List.mem_map.mp hs; exact hb r hr
  rw [List.length_map] at sa sb
  have m1 : a.length * B ≤ 3 * B := Nat.mul_le_mul_right _ la
  have m2 : b.length * B ≤ 3 * B := Nat.mul_le_mul_right _ lb
  have ln : ("\n" : Str).length = 1 := rfl
  have li : (("if " : Str) ++ testS t).length = 3 + (testS t).length := by rw [slen_app]; rfl
  unfold ifTexts
  cases b with
  | nil =>
    simp only [List.isEmpty_nil, if_true, List.nil_append, List.map_cons, List.sum_cons, List.map_append, List.sum_append, List.length_cons, List.length_append, List.length_map, List.map_nil, List.sum_nil, List.length_nil, ln, li]
    have le : (("end" : Str)).length = 3 := rfl
    rw [le]
    omega
  | cons r b =>
    simp only [List.length_cons] at lb m2
    simp only [List.isEmpty_cons, List.map_cons, List.sum_cons, List.map_append, List.sum_append, List.length_cons, List.length_append, List.length_map, List.map_nil, List.sum_nil, List.length_nil, ln, li] at sb ⊢
    have le : (("end" : Str)).length = 3 := rfl
    have le2 : (("else" : Str)).length = 4 := rfl
    rw [if_neg (by decide)]
    simp only [List.map_cons, List.sum_cons, List.length_cons, List.length_map, le, le2]
    omega
mutual
theorem rowS_len : ∀ {r : RowD} {k : Nat}, okR r k → (rowS r).length ≤ Rb k
  | .ife t a b, k, h => by
    unfold okR at h
    obtain ⟨k', rfl, h1, h2, h3, h4, h5, h6⟩ := h
    rw [rowS_ife]
    refine Nat.le_trans (join_len _ _) ?_
    have := testS_len h1
    exact ifTexts_sum (by omega) h3 h4 (rowsS_len h5) (rowsS_len h6)
  | .add f w t p, k, h => by
    unfold okR at h
    have q : 2000 ≤ Rb k := by cases k with
      | zero => exact Nat.le_refl _
      | succ k => show 2000 ≤ 2100 + _; omega
    have lf := iS_len h.1
    refine Nat.le_trans ?_ q
    unfold rowS rowLines
    rw [join_one]
    refine Nat.le_trans (join_len _ _) ?_
    show 3 + ((iS f).length + (w.length + (t.length + (p.length + 0)))) + 5 * 1 ≤ 2000
    omega
  | .put n w, k, h => by
    unfold okR at h
    have q : 2000 ≤ Rb k := by cases k with
      | zero => exact Nat.le_refl _
      | succ k => show 2000 ≤ 2100 + _; omega
    refine Nat.le_trans ?_ q
    unfold rowS rowLines
    rw [join_one]
    refine Nat.le_trans (join_len _ _) ?_
    show 3 + (n.length + (w.length + 0)) + 3 * 1 ≤ 2000
    omega
  | .mark p, k, h => by
    unfold okR at h
    have q : 2000 ≤ Rb k := by cases k with
      | zero => exact Nat.le_refl _
      | succ k => show 2000 ≤ 2100 + _; omega
    refine Nat.le_trans ?_ q
    unfold rowS rowLines
    rw [join_one]
    refine Nat.le_trans (join_len _ _) ?_
    show 4 + (p.length + 0) + 2 * 1 ≤ 2000
    omega
theorem rowsS_len : ∀ {rs : List RowD} {k : Nat}, okRL rs k → ∀ r ∈ rs, (rowS r).length ≤ Rb k
  | [], _, _, r, hr => nomatch hr
  | r0 :: rs, k, h, r, hr => by
    unfold okRL at h
    rcases List.mem_cons.mp hr with e | hr
    · rw [e]; exact rowS_len h.1
    · exact rowsS_len h.2 r hr
end
end K14

set_option pp.maxSteps 600
namespace K14
open PySem L2 PySem.Spec PyProof.Rows
def RowSh (K : PySem.W.Frag) (p : Pkg) (k : Nat) (H : Hp) (a : Addr) (z : Str) : Prop := ∃ r, RowOb K p H r (.ref a) ∧ okR r k ∧ z = rowS r
def clsR (p : Pkg) : RowD → Addr
  | .ife _ _ _ => p.CI
  | .add _ _ _ _ => p.CA
  | .put _ _ => p.CP
  | .mark _ => p.CK
theorem RowOb.at' {K : PySem.W.Frag} {p : Pkg} {H : Hp} {a C dx : Addr} {fs : List (Str × V)} {r : RowD} (h : RowOb K p H r (.ref a)) (ha : H a = some (.ins C dx fs)) : clsR p r = C := by
  cases r with
  | ife t x y => unfold RowOb at h; obtain ⟨b, dx, _, _, _, _, _, e, h, _⟩ := h; cases e; rw [h] at ha; cases ha; rfl
  | add f w t pl => unfold RowOb at h; obtain ⟨b, dx, e, h⟩ := h; cases e; rw [h] at ha; cases ha; rfl
  | put n w => unfold RowOb at h; obtain ⟨b, dx, e, h⟩ := h; cases e; rw [h] at ha; cases ha; rfl
  | mark pl => unfold RowOb at h; obtain ⟨b, dx, e, h⟩ := h; cases e; rw [h] at ha; cases ha; rfl
theorem Unlike.rows {p : Pkg} (U : Unlike p) : p.rows.Nodup := U.nd.sublist (List.sublist_append_right _ _)
section
variable {p : Pkg} (U : Unlike p) {r : RowD}
include U
theorem is_add (h : clsR p r = p.CA) : ∃ f w t pl, r = .add f w t pl := by
  have := U.rows
  simp only [Pkg.rows, List.nodup_cons, List.mem_cons, List.not_mem_nil, or_false, not_or] at this
  cases r with
  | add f w t pl => exact ⟨f, w, t, pl, rfl⟩
  | _ => simp_all [clsR]
theorem is_put (h : clsR p r = p.CP) : ∃ n w, r = .put n w := by
  have := U.rows
  simp only [Pkg.rows, List.nodup_cons, List.mem_cons, List.not_mem_nil, or_false, not_or] at this
  cases r with
  | put n w => exact ⟨n, w, rfl⟩
  | _ => simp_all [clsR]
theorem is_mark (h : clsR p r = p.CK) : ∃ pl, r = .mark pl := by
  have := U.rows
  simp only [Pkg.rows, List.nodup_cons, List.mem_cons, List.not_mem_nil, or_false, not_or] at this
  cases r with
  | mark pl => exact ⟨pl, rfl⟩
  | _ => simp_all [clsR]
theorem is_if (h : clsR p r = p.CI) : ∃ t a b, r = .ife t a b := by
  have := U.rows
  simp only [Pkg.rows, List.nodup_cons, List.mem_cons, List.not_mem_nil, or_false, not_or] at this
  cases r with
  | ife t a b => exact ⟨t, a, b, rfl⟩
  | _ => simp_all [clsR]
end
theorem rowS_add (f : Int) (w t pl : Str) : rowS (.add f w t pl) = "add " ++ iS f ++ " " ++ w ++ " " ++ t ++ " " ++ pl := by
  unfold rowS rowLines
  rw [join_one, join_cons, join_cons, join_cons, join_cons, join_one]
  have e : ("add" : Str) ++ " " = "add " := by decide +kernel
  rw [← e]
  simp only [sapp_assoc]
theorem rowS_put (n w : Str) : rowS (.put n w) = "put " ++ n ++ " " ++ w := by
  unfold rowS rowLines
  rw [join_one, join_cons, join_cons, join_one]
  have e : ("put" : Str) ++ " " = "put " := by decide +kernel
  rw [← e]
  simp only [sapp_assoc]
theorem rowS_mark (pl : Str) : rowS (.mark pl) = "mark " ++ pl := by
  unfold rowS rowLines
  rw [join_one, join_cons, join_one]
  have e : ("mark" : Str) ++ " " = "mark " := by decide +kernel
  rw [← e]
section
variable {P : Program} {w : World} {K : PySem.W.Frag} {mg : Str → Option Value} {base : Heap}
abbrev s_Add_str : Stmt := inClass (top 22) 2
abbrev n_Add_str : List Str := ["self"]
theorem sc_Add_str : FnScope n_Add_str ["self"] (defScope s_Add_str) := ⟨rfl, rfl, rfl, by decide +kernel, rfl, by decide +kernel, by decide +kernel⟩
theorem ok_addS {p : Pkg} {k fI : Nat} {fd : FuncData} (U : Unlike p) (CE : ClsA K mg "Add" p.CA ["factor", "what", "total", "place"]) (F : Fun K "__str__" "Add.__str__" s_Add_str fI fd) : FnOk P w K mg base CX0 1 fI fd ["self"] (spStrC p.CA (RowSh K p k)) := by
  refine F.ok sc_Add_str (fun vs H Q E h => ?_) (fun cdv A outer s H vs Q E hr h => ?_)
  · obtain ⟨a, dx, fs, z, rfl, _⟩ := h
    rfl
  · obtain ⟨a, dx, fs, z, rfl, ha, ⟨r, ob, ot, rfl⟩, ret⟩ := h
    refine ⟨_, (pss_one (ps_ret (pe_joined (PJ.cons pe_str (PJ.cons (pe_fmt (pe_fld (pv 0) rfl)) (PJ.cons pe_str (PJ.cons (pe_fmt (pe_fld (pv 0) rfl)) (PJ.cons pe_str (PJ.cons (pe_fmt (pe_fld (pv 0) rfl)) (PJ.cons pe_str (PJ.cons (pe_fmt (pe_fld (pv 0) rfl)) PJ.nil))))))))))), ?_⟩
    obtain ⟨f, wh, t, pl, rfl⟩ := is_add U (ob.at' ha)
    unfold RowOb at ob
    obtain ⟨_, dx', e, h⟩ := ob
    cases e
    unfold okR at ot
    obtain ⟨of, l1, l2, l3⟩ := ot
    have ln := iS_len of
    have q1000 : (10000 : Nat) < sizeLine := by decide
    refine ⟨_, rfl, by decide, ?_⟩
    refine ⟨_, rfl, a, p.CA, dx', _, .int f, rfl, h, CE.cl, CE.n _ (by simp), rfl, .inr ⟨f, rfl, of, ?_⟩⟩
    refine ⟨_, rfl, by rw [slen_app, slen_app]; show 0 + 4 + (iS f).length ≤ sizeLine; omega, ?_⟩
    refine ⟨_, rfl, by rw [slen_app, slen_app, slen_app]; show 0 + 4 + (iS f).length + 1 ≤ sizeLine; omega, ?_⟩
    refine ⟨_, rfl, a, p.CA, dx', _, .str wh, rfl, h, CE.cl, CE.n _ (by simp), rfl, .inl ⟨wh, rfl, by omega, ?_⟩⟩
    refine ⟨_, rfl, by rw [slen_app, slen_app, slen_app, slen_app]; show 0 + 4 + (iS f).length + 1 + wh.length ≤ sizeLine; omega, ?_⟩
    refine ⟨_, rfl, by rw [slen_app, slen_app, slen_app, slen_app, slen_app]; show 0 + 4 + (iS f).length + 1 + wh.length + 1 ≤ sizeLine; omega, ?_⟩
    refine ⟨_, rfl, a, p.CA, dx', _, .str t, rfl, h, CE.cl, CE.n _ (by simp), rfl, .inl ⟨t, rfl, by omega, ?_⟩⟩
    refine ⟨_, rfl, by rw [slen_app, slen_app, slen_app, slen_app, slen_app, slen_app]; show 0 + 4 + (iS f).length + 1 + wh.length + 1 + t.length ≤ sizeLine; omega, ?_⟩
    refine ⟨_, rfl, by rw [slen_app, slen_app, slen_app, slen_app, slen_app, slen_app, slen_app]; show 0 + 4 + (iS f).length + 1 + wh.length + 1 + t.length + 1 ≤ sizeLine; omega, ?_⟩
    refine ⟨_, rfl, a, p.CA, dx', _, .str pl, rfl, h, CE.cl, CE.n _ (by simp), rfl, .inl ⟨pl, rfl, by omega, ?_⟩⟩
    refine ⟨_, rfl, by rw [slen_app, slen_app, slen_app, slen_app, slen_app, slen_app, slen_app, slen_app]; show 0 + 4 + (iS f).length + 1 + wh.length + 1 + t.length + 1 + pl.length ≤ sizeLine; omega, ?_⟩
    have := ret H fun _ _ h => h
    rw [rowS_add] at this
    rw [empty_app]
    exact this
abbrev s_Put_str : Stmt := inClass (top 23) 2
abbrev n_Put_str : List Str := ["self"]
theorem sc_Put_str : FnScope n_Put_str ["self"] (defScope s_Put_str) := ⟨rfl, rfl, rfl, by decide +kernel, rfl, by decide +kernel, by decide +kernel⟩
theorem ok_putS {p : Pkg} {k fI : Nat} {fd : FuncData} (U : Unlike p) (CE : ClsA K mg "Put" p.CP ["note", "what"]) (F : Fun K "__str__" "Put.__str__" s_Put_str fI fd) : FnOk P w K mg base CX0 1 fI fd ["self"] (spStrC p.CP (RowSh K p k)) := by
  refine F.ok sc_Put_str (fun vs H Q E h => ?_) (fun cdv A outer s H vs Q E hr h => ?_)
  · obtain ⟨a, dx, fs, z, rfl, _⟩ := h
    rfl
  · obtain ⟨a, dx, fs, z, rfl, ha, ⟨r, ob, ot, rfl⟩, ret⟩ := h
    refine ⟨_, (pss_one (ps_ret (pe_joined (PJ.cons pe_str (PJ.cons (pe_fmt (pe_fld (pv 0) rfl)) (PJ.cons pe_str (PJ.cons (pe_fmt (pe_fld (pv 0) rfl)) PJ.nil))))))), ?_⟩
    obtain ⟨n, wh, rfl⟩ := is_put U (ob.at' ha)
    unfold RowOb at ob
    obtain ⟨_, dx', e, h⟩ := ob
    cases e
    unfold okR at ot
    obtain ⟨l1, l2⟩ := ot
    have q1000 : (10000 : Nat) < sizeLine := by decide
    refine ⟨_, rfl, by decide, ?_⟩
    refine ⟨_, rfl, a, p.CP, dx', _, .str n, rfl, h, CE.cl, CE.n _ (by simp), rfl, .inl ⟨n, rfl, by omega, ?_⟩⟩
    refine ⟨_, rfl, by rw [slen_app, slen_app]; show 0 + 4 + n.length ≤ sizeLine; omega, ?_⟩
    refine ⟨_, rfl, by rw [slen_app, slen_app, slen_app]; show 0 + 4 + n.length + 1 ≤ sizeLine; omega, ?_⟩
    refine ⟨_, rfl, a, p.CP, dx', _, .str wh, rfl, h, CE.cl, CE.n _ (by simp), rfl, .inl ⟨wh, rfl, by omega, ?_⟩⟩
    refine ⟨_, rfl, by rw [slen_app, slen_app, slen_app, slen_app]; show 0 + 4 + n.length + 1 + wh.length ≤ sizeLine; omega, ?_⟩
    have := ret H fun _ _ h => h
    rw [rowS_put] at this
    rw [empty_app]
    exact this
abbrev s_Mark_str : Stmt := inClass (top 24) 2
abbrev n_Mark_str : List Str := ["self"]
theorem sc_Mark_str : FnScope n_Mark_str ["self"] (defScope s_Mark_str) := ⟨rfl, rfl, rfl, by decide +kernel, rfl, by decide +kernel, by decide +kernel⟩
theorem ok_markS {p : Pkg} {k fI : Nat} {fd : FuncData} (U : Unlike p) (CE : ClsA K mg "Mark" p.CK ["place"]) (F : Fun K "__str__" "Mark.__str__" s_Mark_str fI fd) : FnOk P w K mg base CX0 1 fI fd ["self"] (spStrC p.CK (RowSh K p k)) := by
  refine F.ok sc_Mark_str (fun vs H Q E h => ?_) (fun cdv A outer s H vs Q E hr h => ?_)
  · obtain ⟨a, dx, fs, z, rfl, _⟩ := h
    rfl
  · obtain ⟨a, dx, fs, z, rfl, ha, ⟨r, ob, ot, rfl⟩, ret⟩ := h
    refine ⟨_, (pss_one (ps_ret (pe_joined (PJ.cons pe_str (PJ.cons (pe_fmt (pe_fld (pv 0) rfl)) PJ.nil))))), ?_⟩
    obtain ⟨pl, rfl⟩ := is_mark U (ob.at' ha)
    unfold RowOb at ob
    obtain ⟨_, dx', e, h⟩ := ob
    cases e
    unfold okR at ot
    have q1000 : (10000 : Nat) < sizeLine := by decide
    refine ⟨_, rfl, by decide, ?_⟩
    refine ⟨_, rfl, a, p.CK, dx', _, .str pl, rfl, h, CE.cl, CE.n _ (by simp), rfl, .inl ⟨pl, rfl, by omega, ?_⟩⟩
    refine ⟨_, rfl, by rw [slen_app, slen_app]; show 0 + 5 + pl.length ≤ sizeLine; omega, ?_⟩
    have := ret H fun _ _ h => h
    rw [rowS_mark] at this
    rw [empty_app]
    exact this
theorem js_nil {acc : Str} {σ : L2.St} {H : Hp} {Q : Str → Hp → Prop} (h : Q acc H) : tJs [] acc σ H Q := h
theorem star_go {te : TE} {t : TA} {σ : L2.St} {H : Hp} {Q : List V → Hp → Prop} (h : te σ H fun x H1 => ∃ p xs, x = V.ref p ∧ (SqT K H1 p xs ∨ SqL K H1 p xs) ∧ t σ H1 fun ys H2 => Q (xs ++ ys) H2) : StX.tStar K te t σ H Q := h
/-- [str(row) for row in x.f] -/
theorem comp_go {p : Pkg} {k : Nat} {a C dx r : Addr} {fs : List (Str × V)} {f : Str} {x1 : Option V} {xs : List V} {rs : List RowD} {H : Hp} {Q : VK} (ha : H a = some (.ins C dx fs)) (cl : Cls K C) (na : NoAttr K C f) (lk : fs.lookup f = some (.ref r)) (tr : Tp K H r xs) (ro : RowObL K p H rs xs) (ok : okRL rs k) (l : rs.length ≤ 1000)
    (q : ∀ H' D, Same H H' → H' D = some (.lst ((rs.map rowS).map V.str)) → Q (.ref D) H') : tLc (iTup K (tFld K (tVar 0) f)) (gName 2) tYes (tCB (fun xs H Q => ∃ x, xs = [x] ∧ rStrC p.rows (RowSh K p k) x H Q) (tCons (tVar 2) tNil)) [2] [some (.ref a), x1, none] H Q := by
  have lx := ro.len
  have q1000 : (1000 : Nat) < sizeLine := by decide
  refine ⟨_, rfl, a, C, dx, fs, .ref r, rfl, ha, cl, na, lk, r, rfl, ⟨_, tr.sq⟩, fun D hD => lc_it (walk_tup (xs := xs)) (fun i H' => Same H H' ∧ H' D = some (.lst (((rs.take i).map rowS).map V.str))) ⟨(new_at hD).1, upd_same⟩ (fun i H' _ z => (tr.kp (ObKp.of z.1)).sq) ?_ ?_⟩
  · rintro i y H1' H1 hi ⟨s1, hD1⟩ ⟨rfl, ey⟩
    obtain ⟨r1, er, ro1⟩ := ro.at' ey
    have ro2 := ro1.kp (ObKp.of s1)
    obtain ⟨b, C2, dx2, fs2, rfl, hb, mC⟩ := ro2.cls
    have hir := (List.getElem?_eq_some_iff.mp er).1
    refine name_go ⟨rfl, ?_⟩
    unfold tYes
    refine iteSe rfl ?_
    refine ⟨_, rfl, _, rfl, b, C2, dx2, fs2, rowS r1, rfl, hb, mC, ⟨r1, ro2, ok.get er, rfl⟩, fun H2 s2 => ?_⟩
    have s2' : Same H1 H2 := s2
    refine ⟨_, s2' _ _ hD1, by rw [List.length_map, List.length_map, List.length_take]; omega, fun c o e => (upd_ne (ne_of_none e hD)).trans (s2' _ _ (s1 _ _ e)), ?_⟩
    have e1 : rs.take (i + 1) = rs.take i ++ [r1] := by
      rw [← List.take_append_getElem hir]
      rw [List.getElem?_eq_getElem hir] at er
      rw [Option.some.inj er]
    rw [e1, List.map_append, List.map_append]
    exact upd_same
  · rintro H1 ⟨s1, hD1⟩
    rw [lx, List.take_length] at hD1
    exact q H1 D s1 hD1
abbrev s_block_lines : Stmt := top 26
abbrev n_block_lines : List Str := ["block", "lines", "row"]
theorem sc_block_lines : FnScope n_block_lines ["block"] (defScope s_block_lines) := ⟨rfl, rfl, rfl, by decide +kernel, rfl, by decide +kernel, by decide +kernel⟩
def spBlock (K : PySem.W.Frag) (p : Pkg) (k : Nat) : Sp := fun vs H Q _ => ∃ (a : Addr) (t : TestD) (x y : List RowD), vs = [.ref a] ∧ RowOb K p H (.ife t x y) (.ref a) ∧ okR (.ife t x y) (k + 1) ∧ ∀ H' l, Same H H' → H' l = some (.lst ((ifTexts t x y).map V.str)) → Q (.ref l) H'
theorem ok_block {p : Pkg} {k n : Nat} (hk : k ≤ 3) (T : Txt mg) (CE : ClsA K mg "If" p.CI ["test", "rows", "others"]) (ShT : Shows P w K mg base 9 p.tests (TestSh p 2)) (ShR : Shows P w K mg base n p.rows (RowSh K p k)) (hn : 9 ≤ n) (F : DefAt K mg "block_lines" s_block_lines ["block"]) : Has P w K mg base (n + 4) "block_lines" ["block"] (spBlock K p k) := by
  refine F.has sc_block_lines (fun vs H Q E h => ?_) (fun f cdv A outer s H vs Q E hr h => ?_)
  · obtain ⟨a, t, x, y, rfl, _⟩ := h
    rfl
  · obtain ⟨a, t, x, y, rfl, ob, ok, ret⟩ := h
    refine ⟨_, (pss_cons (ps_set (i := 1) sc_block_lines.nd rfl (Or.inl rfl) (pe_lst (pa_cons (pe_joined (PJ.cons pe_str (PJ.cons (pe_fmtC ShT (hr.mono (by omega)) (pe_fld (pv 0) rfl)) PJ.nil))) (StX.pa_star (pe_lc (own := [("row", 2)]) (g := gName 2) (by rfl) sc_block_lines.nd (pi_tup (pe_fld (pv 0) rfl)) (blkOk_by (own := [("row", 2)]) (N := n_block_lines) (sc := defScope s_block_lines) (by decide +kernel)) (fun _ _ _ _ _ => (pg_name (i := 2) sc_block_lines.nd rfl (Or.inl rfl))) (fun _ _ _ _ _ => pts_nil) (fun _ _ _ _ _ => (pe_callTy (call_strCK rfl rfl rfl rfl rfl ShR (hr.mono (by omega))) (by rfl) T.z_str (by decide +kernel) (pa_cons (pv 2) pa_nil)))) pa_nil))))
      (pss_cons (ps_if (pt_truth (pe_fld (pv 0) rfl) (fun _ => rfl)) (pss_one (ps_set (i := 1) sc_block_lines.nd rfl (Or.inl rfl) (pe_lst (StX.pa_star (pv 1) (pa_cons pe_str (StX.pa_star (pe_lc (own := [("row", 2)]) (g := gName 2) (by rfl) sc_block_lines.nd (pi_tup (pe_fld (pv 0) rfl)) (blkOk_by (own := [("row", 2)]) (N := n_block_lines) (sc := defScope s_block_lines) (by decide +kernel)) (fun _ _ _ _ _ => (pg_name (i := 2) sc_block_lines.nd rfl (Or.inl rfl))) (fun _ _ _ _ _ => pts_nil) (fun _ _ _ _ _ => (pe_callTy (call_strCK rfl rfl rfl rfl rfl ShR (hr.mono (by omega))) (by rfl) T.z_str (by decide +kernel) (pa_cons (pv 2) pa_nil)))) pa_nil)))))) pss_nil)
      (pss_one (ps_ret (pe_lst (StX.pa_star (pv 1) (pa_cons pe_str pa_nil))))))), ?_⟩
    unfold RowOb at ob
    obtain ⟨_, dx, u, r, o, xs, ys, e, h, tob, tr, ro1, tq, ro2⟩ := ob
    cases e
    obtain ⟨b, C, dx2, fs2, rfl, hb, mC⟩ := tob.cls
    have q1000 : (10000 : Nat) < sizeLine := by decide
    unfold okR at ok
    obtain ⟨k', ek, ot, dt, la, lb, oa, ob⟩ := ok
    obtain rfl : k' = k := by omega
    have ln := testS_len ot
    have fin : ∀ (H5 : Hp) (zs : List Str), Same H H5 → zs ++ [("end" : Str)] = ifTexts t x y → ∀ l, H5 l = none → Q (.ref l) (upd H5 l (.lst (zs.map V.str ++ [V.str "end"]))) := fun H5 zs s5 ez l hl => by
      obtain ⟨s6, h6⟩ := new_at (o := .lst (zs.map V.str ++ [V.str "end"])) hl
      refine ret _ l (s5.trans s6) ?_
      rw [← ez, List.map_append]
      exact h6
    refine seq_asg (lstA_go (cons_go ?_))
    refine ⟨_, rfl, by decide, ?_⟩
    refine ⟨_, rfl, a, p.CI, dx, _, .ref b, rfl, h, CE.cl, CE.n _ (by simp), rfl, b, C, dx2, fs2, testS t, rfl, hb, mC, ⟨t, tob, ot, dt, rfl⟩, fun H1 s1 => ?_⟩
    have s1 : Same H H1 := s1
    refine ⟨_, rfl, by rw [slen_app, slen_app]; show 0 + 3 + (testS t).length ≤ sizeLine; omega, ?_⟩
    rw [empty_app]
    refine js_nil ?_
    try dsimp only
    refine star_go (comp_go (f := "rows") (rs := x) (s1 _ _ h) CE.cl (CE.n _ (by simp)) rfl (tr.kp (ObKp.of s1)) (ro1.kp (ObKp.of s1)) oa (by omega) fun H2 D s2 hD => ⟨D, _, rfl, .inr (SqL.of hD), ?_⟩)
    refine nil_go ⟨?_, fun L hL => name_go ?_⟩
    · rw [List.append_nil, List.length_cons, List.length_map, List.length_map]; omega
    rw [List.append_nil]
    obtain ⟨s3, h3⟩ := new_at (o := .lst (V.str ("if " ++ testS t) :: (x.map rowS).map V.str)) hL
    have s13 : Same H _ := s1.trans (s2.trans s3)
    generalize upd H2 L (.lst (V.str ("if " ++ testS t) :: (x.map rowS).map V.str)) = H3 at *
    try dsimp only
    have h4 := s13 _ _ h
    have ly := ro2.len
    refine seq_go ⟨_, rfl, a, p.CI, dx, _, .ref o, rfl, h4, CE.cl, CE.n _ (by simp), rfl, !ys.isEmpty, .inr (.inl ⟨ys, (tq.kp (ObKp.of s13)).sq, rfl⟩), ?_⟩
    cases y with
    | nil =>
      have : ys = [] := List.length_eq_zero_iff.mp ly
      subst this
      refine iteSf rfl (next_go ?_)
      try dsimp only
      refine ret_go (lstA_go (star_go ⟨_, rfl, L, _, rfl, .inr (SqL.of h3), cons_go (c_go (nil_go ⟨?_, fun l hl => ?_⟩))⟩))
      · rw [List.length_append, List.length_cons, List.length_map, List.length_map]; show _ + 1 + 1 ≤ sizeLine; omega
      · exact fin _ (("if " ++ testS t) :: x.map rowS) s13 (by unfold ifTexts; rfl) l hl
    | cons y0 y1 =>
      obtain ⟨v0, vs0, rfl⟩ : ∃ v vs, ys = v :: vs := by
        cases ys with
        | nil => simp at ly
        | cons v vs => exact ⟨v, vs, rfl⟩
      refine iteSe rfl ?_
      refine asg_go (lstA_go (star_go ⟨_, rfl, L, _, rfl, .inr (SqL.of h3), cons_go (c_go (star_go (comp_go (f := "others") (rs := y0 :: y1) h4 CE.cl (CE.n _ (by simp)) rfl (tq.kp (ObKp.of s13)) (ro2.kp (ObKp.of s13)) ob (by omega) fun H5 D5 s5 hD5 => ⟨D5, _, rfl, .inr (SqL.of hD5), nil_go ⟨?_, fun L2 hL2 => name_go ?_⟩⟩)))⟩))
      · rw [List.append_nil, List.length_append, List.length_cons, List.length_cons, List.length_map, List.length_map, List.length_map, List.length_map]; omega
      rw [List.append_nil]
      obtain ⟨s6, h6⟩ := new_at (o := .lst ((V.str ("if " ++ testS t) :: (x.map rowS).map V.str) ++ V.str "else" :: ((y0 :: y1).map rowS).map V.str)) hL2
      have s16 : Same H _ := s13.trans (s5.trans s6)
      generalize upd H5 L2 (.lst ((V.str ("if " ++ testS t) :: (x.map rowS).map V.str) ++ V.str "else" :: ((y0 :: y1).map rowS).map V.str)) = H6 at *
      try dsimp only
      refine ret_go (lstA_go (star_go ⟨_, rfl, L2, _, rfl, .inr (SqL.of h6), cons_go (c_go (nil_go ⟨?_, fun l hl => ?_⟩))⟩))
      · simp only [List.length_append, List.length_cons, List.length_map, List.length_nil] at lb ⊢; omega
      · have := fin _ ((("if " ++ testS t) :: x.map rowS) ++ (("else" : Str) :: (y0 :: y1).map rowS)) s16 (by unfold ifTexts; rw [List.append_assoc]; rfl) l hl
        rw [List.map_append] at this
        exact this
abbrev s_If_str : Stmt := inClass (top 25) 2
abbrev n_If_str : List Str := ["self"]
theorem sc_If_str : FnScope n_If_str ["self"] (defScope s_If_str) := ⟨rfl, rfl, rfl, by decide +kernel, rfl, by decide +kernel, by decide +kernel⟩
theorem ok_ifS {p : Pkg} {k n fI : Nat} {fd : FuncData} (U : Unlike p) (hk : k ≤ 3) (T : Txt mg) (g_block_lines : Has P w K mg base (n + 4) "block_lines" ["block"] (spBlock K p k)) (F : Fun K "__str__" "If.__str__" s_If_str fI fd) : FnOk P w K mg base CX0 (n + 6) fI fd ["self"] (spStrC p.CI (RowSh K p (k + 1))) := by
  refine F.ok sc_If_str (fun vs H Q E h => ?_) (fun cdv A outer s H vs Q E hr h => ?_)
  · obtain ⟨a, dx, fs, z, rfl, _⟩ := h
    rfl
  · obtain ⟨a, dx, fs, z, rfl, ha, ⟨r, ob, ot, rfl⟩, ret⟩ := h
    refine ⟨_, (pss_one (ps_ret (pe_join pe_str (pe_callHas g_block_lines (hr.mono (by omega)) rfl (pa_cons (pv 0) pa_nil))))), ?_⟩
    obtain ⟨t, x, y, rfl⟩ := is_if U (ob.at' ha)
    have ot' := ot
    unfold okR at ot'
    obtain ⟨k', ek, o1, dt, la, lb, oa, ob'⟩ := ot'
    obtain rfl : k' = k := by omega
    refine ⟨⟨_, rfl⟩, _, rfl, a, t, x, y, rfl, ob, ot, fun H' l s' hl => ⟨"\n", l, ifTexts t x y, rfl, rfl, .inl (SqL.of hl), ?_, ?_⟩⟩
    · have ln := testS_len o1
      refine Nat.le_trans (ifTexts_sum (by omega) la lb (rowsS_len oa) (rowsS_len ob')) ?_
      have : ∀ j, j ≤ 3 → 2100 + 6 * (Rb j + 1) ≤ 16777216 := by decide
      exact this _ hk
    · have := ret H' s'
      rw [rowS_ife] at this
      exact this
end
end K14

set_option pp.maxSteps 600
namespace K14
open PySem L2 PySem.Spec PyProof.Rows
/-- what str and format ask of a class -/
structure StrCls (K : PySem.W.Frag) (C f : Addr) (fd : FuncData) : Prop where
  hs : PySem.W.findIn K (.ref C) "__str__" = some (some (.ref f))
  fn : PySem.W.isFn K (.ref f) = true
  fm : PySem.W.findIn K (.ref C) "__format__" = some (some (.builtin "object.__format__"))
  mro : PySem.W.mroIn K C (.type "object") = some true
  b : Binds K fd ["self"] []
section
variable {P : Program} {w : World} {K : PySem.W.Frag} {mg : Str → Option Value} {base : Heap} {p : Pkg}
theorem shows_tests {fW fO fB fM fT fN : Addr} {dW dO dB dM dT dN : FuncData} (U : Unlike p)
    (CW : ClsA K mg "Was" p.CW ["kind"]) (CO : ClsA K mg "OldBelow" p.CO ["number"]) (CB : ClsA K mg "NewBelow" p.CB ["number"]) (CN : ClsA K mg "Not" p.CN ["test"])
    (SW : StrCls K p.CW fW dW) (SO : StrCls K p.CO fO dO) (SB : StrCls K p.CB fB dB) (SM : StrCls K p.CM fM dM) (ST : StrCls K p.CT fT dT) (SN : StrCls K p.CN fN dN)
    (FW : Fun K "__str__" "Was.__str__" s_Was_str fW dW) (FO : Fun K "__str__" "OldBelow.__str__" s_OldBelow_str fO dO) (FB : Fun K "__str__" "NewBelow.__str__" s_NewBelow_str fB dB) (FM : Fun K "__str__" "Moved.__str__" s_Moved_str fM dM) (FT : Fun K "__str__" "Noted.__str__" s_Noted_str fT dT) (FN : Fun K "__str__" "Not.__str__" s_Not_str fN dN) :
    ∀ k : Nat, k ≤ 9 → Shows P w K mg base (3 + 3 * k) p.tests (TestSh p k) := by
  have fmt : ∀ C ∈ p.tests, PySem.W.findIn K (.ref C) "__format__" = some (some (.builtin "object.__format__")) ∧ PySem.W.mroIn K C (.type "object") = some true := fun C hC => by
    simp only [Pkg.tests, List.mem_cons, List.not_mem_nil, or_false] at hC
    rcases hC with rfl | rfl | rfl | rfl | rfl | rfl
    · exact ⟨SW.fm, SW.mro⟩
    · exact ⟨SO.fm, SO.mro⟩
    · exact ⟨SB.fm, SB.mro⟩
    · exact ⟨SM.fm, SM.mro⟩
    · exact ⟨ST.fm, ST.mro⟩
    · exact ⟨SN.fm, SN.mro⟩
  intro k
  induction k with
  | zero =>
    intro _
    refine ⟨fun C hC => ?_, fmt⟩
    simp only [Pkg.tests, List.mem_cons, List.not_mem_nil, or_false] at hC
    rcases hC with rfl | rfl | rfl | rfl | rfl | rfl
    · exact ⟨fW, dW, SW.hs, SW.fn, SW.b, (ok_wasS U CW FW).mono (by omega)⟩
    · exact ⟨fO, dO, SO.hs, SO.fn, SO.b, (ok_oldS U CO FO).mono (by omega)⟩
    · exact ⟨fB, dB, SB.hs, SB.fn, SB.b, (ok_newS U CB FB).mono (by omega)⟩
    · exact ⟨fM, dM, SM.hs, SM.fn, SM.b, (ok_movedS U FM).mono (by omega)⟩
    · exact ⟨fT, dT, ST.hs, ST.fn, ST.b, (ok_notedS U FT).mono (by omega)⟩
    · refine ⟨fN, dN, SN.hs, SN.fn, SN.b, FnOk.mono (j := 1) ?_ (by omega)⟩
      refine FN.ok sc_Not_str (fun vs H Q E h => ?_) (fun cdv A outer s H vs Q E hr h => ?_)
      · obtain ⟨a, dx, fs, z, rfl, _⟩ := h
        rfl
      · obtain ⟨a, dx, fs, z, rfl, ha, ⟨t, ob, ot, dt, rfl⟩, ret⟩ := h
        obtain ⟨t, rfl⟩ := is_not U (ob.at' ha)
        exact absurd dt (Nat.not_succ_le_zero _)
  | succ k ih =>
    intro hk
    refine ⟨fun C hC => ?_, fmt⟩
    simp only [Pkg.tests, List.mem_cons, List.not_mem_nil, or_false] at hC
    rcases hC with rfl | rfl | rfl | rfl | rfl | rfl
    · exact ⟨fW, dW, SW.hs, SW.fn, SW.b, (ok_wasS U CW FW).mono (by omega)⟩
    · exact ⟨fO, dO, SO.hs, SO.fn, SO.b, (ok_oldS U CO FO).mono (by omega)⟩
    · exact ⟨fB, dB, SB.hs, SB.fn, SB.b, (ok_newS U CB FB).mono (by omega)⟩
    · exact ⟨fM, dM, SM.hs, SM.fn, SM.b, (ok_movedS U FM).mono (by omega)⟩
    · exact ⟨fT, dT, ST.hs, ST.fn, ST.b, (ok_notedS U FT).mono (by omega)⟩
    · exact ⟨fN, dN, SN.hs, SN.fn, SN.b, (ok_notS U CN (ih (by omega)) (by omega) FN).mono (by omega)⟩
theorem shows_rows {fA fP fK fI : Addr} {dA dP dK dI : FuncData} (U : Unlike p) (T : Txt mg)
    (CA : ClsA K mg "Add" p.CA ["factor", "what", "total", "place"]) (CP : ClsA K mg "Put" p.CP ["note", "what"]) (CK : ClsA K mg "Mark" p.CK ["place"]) (CI : ClsA K mg "If" p.CI ["test", "rows", "others"])
    (SA : StrCls K p.CA fA dA) (SP : StrCls K p.CP fP dP) (SK : StrCls K p.CK fK dK) (SI : StrCls K p.CI fI dI)
    (FA : Fun K "__str__" "Add.__str__" s_Add_str fA dA) (FP : Fun K "__str__" "Put.__str__" s_Put_str fP dP) (FK : Fun K "__str__" "Mark.__str__" s_Mark_str fK dK) (FI : Fun K "__str__" "If.__str__" s_If_str fI dI)
    (ShT : Shows P w K mg base 9 p.tests (TestSh p 2)) (FBL : DefAt K mg "block_lines" s_block_lines ["block"]) :
    ∀ k : Nat, k ≤ 4 → Shows P w K mg base (9 + 6 * k) p.rows (RowSh K p k) := by
  have fmt : ∀ C ∈ p.rows, PySem.W.findIn K (.ref C) "__format__" = some (some (.builtin "object.__format__")) ∧ PySem.W.mroIn K C (.type "object") = some true := fun C hC => by
    simp only [Pkg.rows, List.mem_cons, List.not_mem_nil, or_false] at hC
    rcases hC with rfl | rfl | rfl | rfl
    · exact ⟨SA.fm, SA.mro⟩
    · exact ⟨SP.fm, SP.mro⟩
    · exact ⟨SK.fm, SK.mro⟩
    · exact ⟨SI.fm, SI.mro⟩
  intro k
  induction k with
  | zero =>
    intro _
    refine ⟨fun C hC => ?_, fmt⟩
    simp only [Pkg.rows, List.mem_cons, List.not_mem_nil, or_false] at hC
    rcases hC with rfl | rfl | rfl | rfl
    · exact ⟨fA, dA, SA.hs, SA.fn, SA.b, (ok_addS U CA FA).mono (by omega)⟩
    · exact ⟨fP, dP, SP.hs, SP.fn, SP.b, (ok_putS U CP FP).mono (by omega)⟩
    · exact ⟨fK, dK, SK.hs, SK.fn, SK.b, (ok_markS U CK FK).mono (by omega)⟩
    · refine ⟨fI, dI, SI.hs, SI.fn, SI.b, FnOk.mono (j := 1) ?_ (by omega)⟩
      refine FI.ok sc_If_str (fun vs H Q E h => ?_) (fun cdv A outer s H vs Q E hr h => ?_)
      · obtain ⟨a, dx, fs, z, rfl, _⟩ := h
        rfl
      · obtain ⟨a, dx, fs, z, rfl, ha, ⟨r, ob, ot, rfl⟩, ret⟩ := h
        obtain ⟨t, x, y, rfl⟩ := is_if U (ob.at' ha)
        unfold okR at ot
        obtain ⟨k', e, _⟩ := ot
        cases e
  | succ k ih =>
    intro hk
    refine ⟨fun C hC => ?_, fmt⟩
    simp only [Pkg.rows, List.mem_cons, List.not_mem_nil, or_false] at hC
    rcases hC with rfl | rfl | rfl | rfl
    · exact ⟨fA, dA, SA.hs, SA.fn, SA.b, (ok_addS U CA FA).mono (by omega)⟩
    · exact ⟨fP, dP, SP.hs, SP.fn, SP.b, (ok_putS U CP FP).mono (by omega)⟩
    · exact ⟨fK, dK, SK.hs, SK.fn, SK.b, (ok_markS U CK FK).mono (by omega)⟩
    · exact ⟨fI, dI, SI.hs, SI.fn, SI.b, (ok_ifS U (by omega) T (ok_block (by omega) T CI ShT (ih (by omega)) (by omega) FBL) FI).mono (by omega)⟩
end
end K14

namespace K14
open PySem L2 PySem.Spec PyProof.Rows
/-! ## tests and rows as data, to be compared -/
def testP : TestD → PyData
  | .was k => .tuple [.str "was", .str k]
  | .cut o n => .tuple [.str (belowS o), .int n]
  | .moved => .tuple [.str "moved"]
  | .noted => .tuple [.str "noted"]
  | .not t => .tuple [.str "not", testP t]
mutual
def rowP : RowD → PyData
  | .ife t a b => .tuple [.str "if", testP t, .tuple (rowsP a), .tuple (rowsP b)]
  | .add f w t p => .tuple [.str "add", .int f, .str w, .str t, .str p]
  | .put n w => .tuple [.str "put", .str n, .str w]
  | .mark p => .tuple [.str "mark", .str p]
def rowsP : List RowD → List PyData
  | [] => []
  | r :: rs => rowP r :: rowsP rs
end
section
variable {K : PySem.W.Frag} {H : Hp}
theorem TestAt.dp : ∀ {t : TestD} {v : V}, TestAt H v t → Dp K H v (testP t)
  | .was _, _, ⟨p, e, h⟩ => by subst e; exact .tup (SqT.of h) (.cons (.str _) (.cons (.str _) .nil))
  | .cut _ _, _, ⟨p, e, h⟩ => by subst e; exact .tup (SqT.of h) (.cons (.str _) (.cons (.int _) .nil))
  | .moved, _, ⟨p, e, h⟩ => by subst e; exact .tup (SqT.of h) (.cons (.str _) .nil)
  | .noted, _, ⟨p, e, h⟩ => by subst e; exact .tup (SqT.of h) (.cons (.str _) .nil)
  | .not t, _, ⟨p, u, e, h, r⟩ => by subst e; exact .tup (SqT.of h) (.cons (.str _) (.cons (TestAt.dp r) .nil))
mutual
theorem RowAt.dp : ∀ {r : RowD} {v : V}, RowAt H r v → Dp K H v (rowP r)
  | .ife t a b, v, h => by
    unfold RowAt at h; unfold rowP
    obtain ⟨p, u, x, y, xs, ys, rfl, h1, t, h2, r2, h3, r3⟩ := h
    exact .tup (SqT.of h1) (.cons (.str _) (.cons t.dp (.cons (.tup (SqT.of h2) (RowL.dp r2)) (.cons (.tup (SqT.of h3) (RowL.dp r3)) .nil))))
  | .add _ _ _ _, _, h => by
    unfold RowAt at h; unfold rowP; obtain ⟨p, rfl, h⟩ := h
    exact .tup (SqT.of h) (.cons (.str _) (.cons (.int _) (.cons (.str _) (.cons (.str _) (.cons (.str _) .nil)))))
  | .put _ _, _, h => by
    unfold RowAt at h; unfold rowP; obtain ⟨p, rfl, h⟩ := h
    exact .tup (SqT.of h) (.cons (.str _) (.cons (.str _) (.cons (.str _) .nil)))
  | .mark _, _, h => by
    unfold RowAt at h; unfold rowP; obtain ⟨p, rfl, h⟩ := h
    exact .tup (SqT.of h) (.cons (.str _) (.cons (.str _) .nil))
theorem RowL.dp : ∀ {rs : List RowD} {xs : List V}, RowL H rs xs → DpAll K H xs (rowsP rs)
  | [], _, h => by unfold RowL at h; unfold rowsP; subst h; exact .nil
  | _ :: _, _, h => by
    unfold RowL at h; unfold rowsP
    obtain ⟨v, vs, rfl, h1, h2⟩ := h
    exact .cons (RowAt.dp h1) (RowL.dp h2)
end
end
theorem strOk_kind {k : Str} (h : okKind k) : PyData.strOk k = true := by
  rcases h with rfl | h
  · decide +kernel
  · exact strOk_name h
theorem strOk_all {L : List Str} {s : Str} (h : s ∈ L) (c : L.all (fun s => PyData.strOk s) = true) : PyData.strOk s = true := List.all_eq_true.mp c s h
theorem strOk_what {B : BookD} {s : Str} (h : okWhat B s) (ok : BkOk B) : PyData.strOk s = true := by
  rcases h with h | h
  · exact strOk_all h (by decide +kernel)
  · exact strOk_name (ok.toks s (List.mem_append_right _ h))
theorem test_lay {B : BookD} (ok : BkOk B) : ∀ {t : TestD}, okTest B t → (testP t).canLay0 = true ∧ (testP t).depth ≤ tdep t + 1
  | .was k, h => by
    have := strOk_kind (okKind_of h ok)
    have w : PyData.strOk "was" = true := by decide +kernel
    exact ⟨by simp only [testP, PyData.canLay0, PyData.canLayAll0, this, w, Bool.and_self], by simp only [testP, PyData.depth, PyData.depthAll]; show max 0 (max 0 0) + 1 ≤ _; omega⟩
  | .cut o n, h => by
    have w : PyData.strOk (belowS o) = true := by cases o <;> decide +kernel
    exact ⟨by simp only [testP, PyData.canLay0, PyData.canLayAll0, w, Bool.and_self], by simp only [testP, PyData.depth, PyData.depthAll]; show max 0 (max 0 0) + 1 ≤ _; omega⟩
  | .moved, h => by decide +kernel
  | .noted, h => by decide +kernel
  | .not t, h => by
    obtain ⟨h1, h2⟩ := test_lay ok (t := t) h
    have w : PyData.strOk "not" = true := by decide +kernel
    exact ⟨by simp only [testP, PyData.canLay0, PyData.canLayAll0, h1, w, Bool.and_self], by simp only [testP, PyData.depth, PyData.depthAll]; show max 0 (max (testP t).depth 0) + 1 ≤ tdep t + 1 + 1; omega⟩
mutual
theorem row_lay {B : BookD} (ok : BkOk B) : ∀ {r : RowD} {k : Nat}, okRow B r k → (rowP r).canLay0 = true ∧ (rowP r).depth ≤ 2 * k + 4
  | .ife t a b, k, h => by
    unfold okRow at h
    obtain ⟨k', e, h1, h2, h3, h4, h5, h6⟩ := h
    obtain ⟨a1, a2⟩ := test_lay ok h1
    obtain ⟨b1, b2⟩ := rows_lay ok h5
    obtain ⟨c1, c2⟩ := rows_lay ok h6
    have w : PyData.strOk "if" = true := by decide +kernel
    refine ⟨by simp only [rowP, PyData.canLay0, PyData.canLayAll0, a1, b1, c1, w, Bool.and_self], ?_⟩
    simp only [rowP, PyData.depth, PyData.depthAll]
    show max 0 (max (testP t).depth (max (PyData.depthAll (rowsP a) + 1) (max (PyData.depthAll (rowsP b) + 1) 0))) + 1 ≤ _
    omega
  | .add f w t p, k, h => by
    unfold okRow at h
    have h1 := strOk_name (ok.toks t (List.mem_append_left _ h.2.2.2.1))
    have h2 := strOk_what h.2.2.1 ok
    have h3 := strOk_all h.2.2.2.2 (by decide +kernel)
    have w' : PyData.strOk "add" = true := by decide +kernel
    refine ⟨by simp only [rowP, PyData.canLay0, PyData.canLayAll0, h1, h2, h3, w', Bool.and_self], ?_⟩
    simp only [rowP, PyData.depth, PyData.depthAll]
    show max 0 (max 0 (max 0 (max 0 (max 0 0)))) + 1 ≤ _
    omega
  | .put n w, k, h => by
    unfold okRow at h
    have h1 := strOk_name (ok.toks n (List.mem_append_right _ h.1))
    have h2 := strOk_what h.2 ok
    have w' : PyData.strOk "put" = true := by decide +kernel
    refine ⟨by simp only [rowP, PyData.canLay0, PyData.canLayAll0, h1, h2, w', Bool.and_self], ?_⟩
    simp only [rowP, PyData.depth, PyData.depthAll]
    show max 0 (max 0 (max 0 0)) + 1 ≤ _
    omega
  | .mark p, k, h => by
    unfold okRow at h
    have h3 := strOk_all h (by decide +kernel)
    have w' : PyData.strOk "mark" = true := by decide +kernel
    refine ⟨by simp only [rowP, PyData.canLay0, PyData.canLayAll0, h3, w', Bool.and_self], ?_⟩
    simp only [rowP, PyData.depth, PyData.depthAll]
    show max 0 (max 0 0) + 1 ≤ _
    omega
theorem rows_lay {B : BookD} (ok : BkOk B) : ∀ {rs : List RowD} {k : Nat}, okRowL B rs k → PyData.canLayAll0 (rowsP rs) = true ∧ PyData.depthAll (rowsP rs) ≤ 2 * k + 4
  | [], k, _ => by unfold rowsP; exact ⟨rfl, Nat.zero_le _⟩
  | r :: rs, k, h => by
    unfold okRowL at h; unfold rowsP
    obtain ⟨a1, a2⟩ := row_lay ok h.1
    obtain ⟨b1, b2⟩ := rows_lay ok h.2
    refine ⟨by simp only [PyData.canLayAll0, a1, b1, Bool.and_self], ?_⟩
    simp only [PyData.depthAll]
    omega
end
theorem rows_shaped {B : BookD} (ok : BkOk B) {rs : List RowD} {k : Nat} (h : okRowL B rs k) (hk : k ≤ 20) : SeqAt.shaped (.tuple (rowsP rs)) = true := by
  obtain ⟨a, b⟩ := rows_lay ok h
  show (PyData.canLay0 (.tuple (rowsP rs)) && decide (PyData.depth (.tuple (rowsP rs)) ≤ 64)) = true
  rw [Bool.and_eq_true]
  exact ⟨by simp only [PyData.canLay0]; exact a, decide_eq_true (by simp only [PyData.depth]; omega)⟩
theorem rows_ne (rs : List RowD) : (!PyData.eqv (.tuple (rowsP rs)) (.tuple [])) = !rs.isEmpty := by
  cases rs with
  | nil => unfold rowsP; decide +kernel
  | cons r rs => unfold rowsP; simp [PyData.eqv, PyData.eqvAll]
end K14

set_option pp.maxSteps 600
namespace L2
open PySem PySem.Spec PyProof.Rows
/-- str(x) of a text or an int -/
theorem call_str_part {X : Cx} : CallR X (.type "str") (fun xs H Q => (∃ a, xs = [.str a] ∧ Q (.str a) H) ∨ (∃ i : Int, xs = [.int i] ∧ i.natAbs.log2 < 1920 ∧ Q (.str (toString i)) H)) := by
  intro pins s σ H xs us Q I r h
  rcases h with h | h
  · exact SkE.call_str_str pins s σ H xs us Q I r h
  · exact call_str_int pins s σ H xs us Q I r h
end L2
namespace K14
open PySem L2 PySem.Spec PyProof.Rows
def spTestText (k : Nat) : Sp := fun vs H Q _ => ∃ (v : V) (t : TestD) (B : BookD), vs = [v] ∧ TestAt H v t ∧ okTest B t ∧ BkOk B ∧ tdep t ≤ k ∧ ∀ H', Same H H' → Q (.str (testS t)) H'
def spTestTextK : Nat → Sp
  | 0 => fun _ _ _ _ => False
  | k + 1 => spTestText k
section
variable {P : Program} {w : World} {K : PySem.W.Frag} {mg : Str → Option Value} {base : Heap}
abbrev s_law_test_text : Stmt := top 40
abbrev n_law_test_text : List Str := ["_law_test_here"]
theorem sc_law_test_text : FnScope n_law_test_text ["_law_test_here"] (defScope s_law_test_text) := ⟨rfl, rfl, rfl, by decide +kernel, rfl, by decide +kernel, by decide +kernel⟩
theorem ok_testText {k n : Nat} (hn : 1 ≤ n) (hk : k ≤ 9) (T : Txt mg) (g_law_test_text : Has P w K mg base n "_law_test_text" ["_law_test_here"] (spTestTextK k)) (F : DefAt K mg "_law_test_text" s_law_test_text ["_law_test_here"]) : Has P w K mg base (n + 1) "_law_test_text" ["_law_test_here"] (spTestText k) := by
  refine F.has sc_law_test_text (fun vs H Q E h => ?_) (fun f cdv A outer s H vs Q E hr h => ?_)
  · obtain ⟨v, t, B, rfl, _⟩ := h
    rfl
  · obtain ⟨v, t, B, rfl, at', ok, bok, dk, ret⟩ := h
    refine ⟨_, (pss_cons (ps_if (pt_cmpR op_eq (pe_ix ix_tup (pv 0) pe_int (fun _ _ => rfl)) pe_str (nomark _)) (pss_one (ps_ret (pe_op op_add_str pe_str (pe_callHas g_law_test_text (hr.mono (by omega)) rfl (pa_cons (pe_ix ix_tup (pv 0) pe_int (fun _ _ => rfl)) pa_nil))))) pss_nil)
      (pss_cons (ps_if (pt_cmpR op_in_seq (pe_ix ix_tup (pv 0) pe_int (fun _ _ => rfl)) (pe_tup (pa_cons pe_str (pa_cons pe_str pa_nil))) (by rfl)) (pss_one (ps_ret (pe_op op_add_str (pe_op op_add_str (pe_ix ix_tup (pv 0) pe_int (fun _ _ => rfl)) pe_str) (pe_callTy call_str_int (by rfl) T.z_str (by decide +kernel) (pa_cons (pe_ix ix_tup (pv 0) pe_int (fun _ _ => rfl)) pa_nil))))) pss_nil)
      (pss_one (ps_ret (pe_join pe_str (pv 0)))))), ?_⟩
    have q1000 : (10000 : Nat) < sizeLine := by decide
    have ln := testS_len (okT_of bok ok)
    cases t with
    | not t =>
      obtain ⟨q, u, rfl, hq, rt⟩ := at'
      cases k with
      | zero => exact absurd dk (Nat.not_succ_le_zero _)
      | succ k =>
        refine seq_go ⟨_, rfl, q, _, _, _, rfl, rfl, SqT.of hq, rfl, rfl, _, rfl, iteSe (by decide +kernel) ?_⟩
        refine ret_go ?_
        refine ⟨_, rfl, q, _, _, _, rfl, rfl, SqT.of hq, rfl, ?_⟩
        refine ⟨u, t, B, rfl, rt, ok, bok, Nat.le_of_succ_le_succ dk, fun H1 s1 => ?_⟩
        have l2 := testS_len (okT_of bok (t := t) ok)
        have dk2 : tdep t + 1 ≤ k + 1 := dk
        refine ⟨_, _, rfl, rfl, ?_, ?_⟩
        · show 4 + (testS t).length ≤ sizeLine
          omega
        · have := ret H1 s1
          rw [testS_not] at this
          exact this
    | was kd =>
      obtain ⟨q, rfl, hq⟩ := at'
      refine seq_go ⟨_, rfl, q, _, _, _, rfl, rfl, SqT.of hq, rfl, rfl, _, rfl, iteSf (by decide +kernel) (next_go ?_)⟩
      refine seq_go ⟨_, rfl, q, _, _, _, rfl, rfl, SqT.of hq, rfl, tupc_go (xs := [.str "old", .str "new"]) (fun Q q => q) (by decide) fun H1 u s1 hu h1 => ⟨u, _, rfl, .inr (SqT.of h1), rfl, rfl, _, rfl, iteSf (by decide +kernel) (next_go ?_)⟩⟩
      try dsimp only
      refine ret_go ?_
      refine ⟨⟨_, rfl⟩, _, rfl, _, q, [("was" : Str), kd], rfl, rfl, .inr (SqT.of (s1 _ _ hq)), ?_, ?_⟩
      · have := okKind.len (okKind_of ok bok)
        show 3 + (kd.length + 0) + 2 * 1 ≤ _
        omega
      · exact ret H1 s1
    | moved =>
      obtain ⟨q, rfl, hq⟩ := at'
      refine seq_go ⟨_, rfl, q, _, _, _, rfl, rfl, SqT.of hq, rfl, rfl, _, rfl, iteSf (by decide +kernel) (next_go ?_)⟩
      refine seq_go ⟨_, rfl, q, _, _, _, rfl, rfl, SqT.of hq, rfl, tupc_go (xs := [.str "old", .str "new"]) (fun Q q => q) (by decide) fun H1 u s1 hu h1 => ⟨u, _, rfl, .inr (SqT.of h1), rfl, rfl, _, rfl, iteSf (by decide +kernel) (next_go ?_)⟩⟩
      try dsimp only
      refine ret_go ?_
      exact ⟨⟨_, rfl⟩, _, rfl, _, q, [("moved" : Str)], rfl, rfl, .inr (SqT.of (s1 _ _ hq)), by decide, ret H1 s1⟩
    | noted =>
      obtain ⟨q, rfl, hq⟩ := at'
      refine seq_go ⟨_, rfl, q, _, _, _, rfl, rfl, SqT.of hq, rfl, rfl, _, rfl, iteSf (by decide +kernel) (next_go ?_)⟩
      refine seq_go ⟨_, rfl, q, _, _, _, rfl, rfl, SqT.of hq, rfl, tupc_go (xs := [.str "old", .str "new"]) (fun Q q => q) (by decide) fun H1 u s1 hu h1 => ⟨u, _, rfl, .inr (SqT.of h1), rfl, rfl, _, rfl, iteSf (by decide +kernel) (next_go ?_)⟩⟩
      try dsimp only
      refine ret_go ?_
      exact ⟨⟨_, rfl⟩, _, rfl, _, q, [("noted" : Str)], rfl, rfl, .inr (SqT.of (s1 _ _ hq)), by decide, ret H1 s1⟩
    | cut o m =>
      obtain ⟨q, rfl, hq⟩ := at'
      have hb : (belowS o).length ≤ 3 := by cases o <;> decide
      have lm := iS_len (show m.natAbs.log2 < 1920 from okT_of bok ok)
      refine seq_go ⟨_, rfl, q, _, _, _, rfl, rfl, SqT.of hq, rfl, rfl, _, rfl, iteSf (by cases o <;> decide +kernel) (next_go ?_)⟩
      refine seq_go ⟨_, rfl, q, _, _, _, rfl, rfl, SqT.of hq, rfl, tupc_go (xs := [.str "old", .str "new"]) (fun Q q => q) (by decide) fun H1 u s1 hu h1 => ⟨u, _, rfl, .inr (SqT.of h1), by cases o <;> rfl, rfl, _, rfl, iteSe (by cases o <;> decide +kernel) ?_⟩⟩
      refine ret_go ⟨_, rfl, q, _, _, _, rfl, rfl, SqT.of (s1 _ _ hq), rfl, _, _, rfl, rfl, ?_, ?_⟩
      · show (belowS o).length + 7 ≤ sizeLine
        omega
      refine ⟨_, rfl, q, _, _, _, rfl, rfl, SqT.of (s1 _ _ hq), rfl, m, rfl, okT_of bok ok, _, _, rfl, rfl, ?_, ?_⟩
      · rw [slen_app]
        show (belowS o).length + 7 + (iS m).length ≤ sizeLine
        omega
      · have := ret H1 s1
        rw [testS_cut] at this
        exact this
theorem ok_testTextAll (T : Txt mg) (F : DefAt K mg "_law_test_text" s_law_test_text ["_law_test_here"]) : ∀ k : Nat, k ≤ 9 → Has P w K mg base (3 + k) "_law_test_text" ["_law_test_here"] (spTestText k)
  | 0, _ => by
    have g0 : Has P w K mg base 2 "_law_test_text" ["_law_test_here"] (spTestTextK 0) := F.has sc_law_test_text (fun vs H Q E h => h.elim) (fun f cdv A outer s H vs Q E hr h => h.elim)
    exact ok_testText (by omega) (by omega) T g0 F
  | k + 1, h => ok_testText (n := 3 + k) (by omega) h T (ok_testTextAll T F k (by omega)) F
end
/-! the lines of rows -/
def NL : Nat → Nat
  | 0 => 1
  | k + 1 => 8 + 6 * NL k
mutual
theorem rowLines_len : ∀ {r : RowD} {k : Nat}, okR r k → (rowLines r).length ≤ NL k + 1
  | .ife t a b, k, h => by
    unfold okR at h; unfold rowLines
    obtain ⟨k', rfl, _, _, h3, h4, h5, h6⟩ := h
    have a1 := rowsLines_len h5
    have b1 := rowsLines_len h6
    have m1 : a.length * (NL k' + 1) ≤ 3 * (NL k' + 1) := Nat.mul_le_mul_right _ h3
    have m2 : b.length * (NL k' + 1) ≤ 3 * (NL k' + 1) := Nat.mul_le_mul_right _ h4
    have e : NL (k' + 1) = 8 + 6 * NL k' := rfl
    rw [e]
    cases b with
    | nil =>
      simp only [List.isEmpty_nil, if_true, List.nil_append, List.length_cons, List.length_append, List.length_nil]
      omega
    | cons r b =>
      generalize (r :: b) = bb at b1 m2 ⊢
      have : (if bb.isEmpty = true then ([] : List Str) else ("else" : Str) :: rowsLines bb).length ≤ 1 + (rowsLines bb).length := by
        cases bb.isEmpty
        · rw [if_neg (by decide)]; show (rowsLines bb).length + 1 ≤ _; omega
        · exact Nat.zero_le _
      simp only [List.length_cons, List.length_append, List.length_nil]
      omega
  | .add f w t p, k, h => by unfold rowLines; show 1 ≤ _; omega
  | .put n w, k, h => by unfold rowLines; show 1 ≤ _; omega
  | .mark p, k, h => by unfold rowLines; show 1 ≤ _; omega
theorem rowsLines_len : ∀ {rs : List RowD} {k : Nat}, okRL rs k → (rowsLines rs).length ≤ rs.length * (NL k + 1)
  | [], k, _ => by unfold rowsLines; exact Nat.zero_le _
  | r :: rs, k, h => by
    unfold okRL at h; unfold rowsLines
    have h1 := rowLines_len h.1
    have h2 := rowsLines_len h.2
    rw [List.length_append, List.length_cons, Nat.add_mul]
    omega
end
theorem rowsLines_app (a b : List RowD) : rowsLines (a ++ b) = rowsLines a ++ rowsLines b := by
  rw [rowsLines_eq, rowsLines_eq, rowsLines_eq, List.map_append, List.flatten_append]
theorem rowsLines_one (r : RowD) : rowsLines [r] = rowLines r := by
  rw [rowsLines_eq]
  simp
/-- a for over a list or tuple that stays -/
theorem for_sq {K : PySem.W.Frag} {j : Nat} {a : Addr} {xs : List V} {g : TG} {tb : TS} {D : Ends} {σ : L2.St} {H0 H : Hp} (e : σ[j]? = some (some (.ref a))) (h : Sq K H0 a xs) (Pv : Nat → L2.St → Hp → Prop) (h0 : Pv 0 σ H) (hG : ∀ i σ' H', Pv i σ' H' → Same H0 H')
    (hs : ∀ i x σ' H', i < xs.length → Pv i σ' H' → xs[i]? = some x → g x σ' H' fun σ2 H2 => tb { D with nx := Pv (i + 1), ct := Pv (i + 1), bk := D.nx } σ2 H2) (hd : ∀ σ' H', Pv xs.length σ' H' → D.nx σ' H') : tFor (iSeq K (tVar j)) g tb D σ H := by
  rcases h with h | h
  · exact .inl ⟨_, e, a, rfl, ⟨_, SqL.of (hG _ _ _ h0 _ _ h)⟩, for_it (walk_list (xs := xs)) Pv h0 (fun i σ' H' _ z => SqL.of (hG i _ _ z _ _ h)) (fun i x σ' H' H'' hi z y => by obtain ⟨rfl, y⟩ := y; exact hs i x σ' _ hi z y) hd⟩
  · exact .inr ⟨_, e, a, rfl, ⟨_, (h.kp (ObKp.of (hG _ _ _ h0))).sq⟩, for_it (walk_tup (xs := xs)) Pv h0 (fun i σ' H' _ z => (h.kp (ObKp.of (hG i _ _ z))).sq) (fun i x σ' H' H'' hi z y => by obtain ⟨rfl, y⟩ := y; exact hs i x σ' _ hi z y) hd⟩
def Part (v : V) (s : Str) : Prop := v = .str s ∨ ∃ i : Int, v = .int i ∧ numOk i ∧ s = iS i
/-- [str(part) for part in row] -/
theorem parts_go {K : PySem.W.Frag} {p : Addr} {x0 x1 x3 : Option V} {xs : List V} {ss : List Str} {H : Hp} {Q : VK} (hp : H p = some (.tup xs)) (pr : Paired Part xs ss) (l : xs.length ≤ 100) (q : ∀ H' D, Same H H' → H' D = some (.lst (ss.map V.str)) → Q (.ref D) H') :
    tLc (iTup K (tVar 2)) (gName 3) tYes (tCB (fun xs H Q => (∃ a, xs = [.str a] ∧ Q (.str a) H) ∨ (∃ i : Int, xs = [.int i] ∧ i.natAbs.log2 < 1920 ∧ Q (.str (toString i)) H)) (tCons (tVar 3) tNil)) [3] [x0, x1, some (.ref p), x3] H Q := by
  have q1000 : (1000 : Nat) < sizeLine := by decide
  have lx := pr.len
  refine ⟨_, rfl, p, rfl, ⟨_, SqT.of hp⟩, fun D hD => lc_it (walk_tup (xs := xs)) (fun i H' => Same H H' ∧ H' D = some (.lst ((ss.take i).map V.str))) ⟨(new_at hD).1, upd_same⟩ (fun i H' _ z => SqT.of (z.1 _ _ hp)) ?_ ?_⟩
  · rintro i y H1' H1 hi ⟨s1, hD1⟩ ⟨rfl, ey⟩
    obtain ⟨s, es, ps⟩ := pr.at' ey
    have hir := (List.getElem?_eq_some_iff.mp es).1
    have e1 : ss.take (i + 1) = ss.take i ++ [s] := by
      rw [← List.take_append_getElem hir]
      rw [List.getElem?_eq_getElem hir] at es
      rw [Option.some.inj es]
    have go : ∃ acc, H1 D = some (.lst acc) ∧ acc.length < sizeLine ∧ Same H (upd H1 D (.lst (acc ++ [V.str s]))) ∧ upd H1 D (.lst (acc ++ [V.str s])) D = some (.lst ((ss.take (i + 1)).map V.str)) := by
      refine ⟨_, hD1, by rw [List.length_map, List.length_take]; omega, fun c o e => (upd_ne (ne_of_none e hD)).trans (s1 _ _ e), ?_⟩
      rw [e1, List.map_append]
      exact upd_same
    refine name_go ⟨rfl, ?_⟩
    unfold tYes
    refine iteSe rfl ?_
    rcases ps with rfl | ⟨m, rfl, om, rfl⟩
    · exact ⟨_, rfl, .inl ⟨s, rfl, go⟩⟩
    · exact ⟨_, rfl, .inr ⟨m, rfl, om, go⟩⟩
  · rintro H1 ⟨s1, hD1⟩
    rw [lx, List.take_length] at hD1
    exact q H1 D s1 hD1
theorem _root_.K14.okRowL.take {B : BookD} {k : Nat} : ∀ {rs : List RowD} (i : Nat), okRowL B rs k → okRowL B (rs.take i) k
  | [], i, _ => by rw [List.take_nil]; unfold okRowL; trivial
  | r :: rs, 0, _ => by rw [List.take_zero]; unfold okRowL; trivial
  | r :: rs, i + 1, h => by
    unfold okRowL at h
    rw [List.take_succ_cons]
    unfold okRowL
    exact ⟨h.1, okRowL.take i h.2⟩
def spRowLines (K : PySem.W.Frag) (k : Nat) : Sp := fun vs H Q _ => ∃ (a : Addr) (xs : List V) (rs : List RowD) (B : BookD), vs = [.ref a] ∧ Sq K H a xs ∧ RowL H rs xs ∧ okRowL B rs k ∧ BkOk B ∧ rs.length ≤ 20 ∧ ∀ H' l, Same H H' → H l = none → H' l = some (.lst ((rowsLines rs).map V.str)) → Q (.ref l) H'
def spRowLinesK (K : PySem.W.Frag) : Nat → Sp
  | 0 => fun _ _ _ _ => False
  | k + 1 => spRowLines K k
section
variable {P : Program} {w : World} {K : PySem.W.Frag} {mg : Str → Option Value} {base : Heap}
abbrev s_law_row_lines : Stmt := top 41
abbrev n_law_row_lines : List Str := ["_law_rows_here", "_law_found", "_law_row_here", "_law_part"]
theorem sc_law_row_lines : FnScope n_law_row_lines ["_law_rows_here"] (defScope s_law_row_lines) := ⟨rfl, rfl, rfl, by decide +kernel, rfl, by decide +kernel, by decide +kernel⟩
theorem ok_rowLines {k n : Nat} (hn : 5 ≤ n) (hk : k ≤ 3) (T : Txt mg) (g_law_test_text : Has P w K mg base 5 "_law_test_text" ["_law_test_here"] (spTestText 2)) (g_law_row_lines : Has P w K mg base n "_law_row_lines" ["_law_rows_here"] (spRowLinesK K k)) (F : DefAt K mg "_law_row_lines" s_law_row_lines ["_law_rows_here"]) : Has P w K mg base (n + 1) "_law_row_lines" ["_law_rows_here"] (spRowLines K k) := by
  refine F.has sc_law_row_lines (fun vs H Q E h => ?_) (fun f cdv A outer s H vs Q E hr h => ?_)
  · obtain ⟨a, xs, rs, B, rfl, _⟩ := h
    rfl
  · have hu := hr.units
    obtain ⟨a, xs, rs, B, rfl, sq, rl, ok, bok, l, ret⟩ := h
    refine ⟨_, (pss_cons (ps_set (i := 1) sc_law_row_lines.nd rfl (Or.inl rfl) (pe_lst pa_nil))
      (pss_cons (ps_for PassesOwn.never rfl (pi_seq (pv 0)) (pg_name (i := 2) sc_law_row_lines.nd rfl (Or.inl rfl)) (pss_one (ps_if (pt_cmpR op_eq (pe_ix ix_tup (pv 2) pe_int (fun _ _ => rfl)) pe_str (nomark _)) (pss_cons (ps_expr (pe_bm PySem.F.plainAttrs_list PySem.F.slot_list_append PySem.F.type_list_append mt_append (pv 1) (pa_cons (pe_op op_add_str pe_str (pe_callHas g_law_test_text (hr.mono (by omega)) rfl (pa_cons (pe_ix ix_tup (pv 2) pe_int (fun _ _ => rfl)) pa_nil))) pa_nil)))
      (pss_cons (ps_expr (pe_bm PySem.F.plainAttrs_list PySem.F.slot_list_extend PySem.F.type_list_extend mt_extend (pv 1) (pa_cons (pe_callHas g_law_row_lines (hr.mono (by omega)) rfl (pa_cons (pe_ix ix_tup (pv 2) pe_int (fun _ _ => rfl)) pa_nil)) pa_nil)))
      (pss_cons (ps_if (pt_cmpR (op_neD hu) (pe_ix ix_tup (pv 2) pe_int (fun _ _ => rfl)) (pe_tup pa_nil) (nomark _)) (pss_one (ps_expr (pe_bm PySem.F.plainAttrs_list PySem.F.slot_list_extend PySem.F.type_list_extend mt_extend (pv 1) (pa_cons (pe_op op_cat (pe_lst (pa_cons pe_str pa_nil)) (pe_callHas g_law_row_lines (hr.mono (by omega)) rfl (pa_cons (pe_ix ix_tup (pv 2) pe_int (fun _ _ => rfl)) pa_nil))) pa_nil)))) pss_nil)
      (pss_one (ps_expr (pe_bm PySem.F.plainAttrs_list PySem.F.slot_list_append PySem.F.type_list_append mt_append (pv 1) (pa_cons pe_str pa_nil))))))) (pss_one (ps_expr (pe_bm PySem.F.plainAttrs_list PySem.F.slot_list_append PySem.F.type_list_append mt_append (pv 1) (pa_cons (pe_join pe_str (pe_lc (own := [("_law_part", 3)]) (g := gName 3) (by rfl) sc_law_row_lines.nd (pi_tup (pv 2)) (blkOk_by (own := [("_law_part", 3)]) (N := n_law_row_lines) (sc := defScope s_law_row_lines) (by decide +kernel)) (fun _ _ _ _ _ => (pg_name (i := 3) sc_law_row_lines.nd rfl (Or.inl rfl))) (fun _ _ _ _ _ => pts_nil) (fun _ _ _ _ _ => (pe_callTy call_str_part (by rfl) T.z_str (by decide +kernel) (pa_cons (pv 3) pa_nil))))) pa_nil)))))))
      (pss_one (ps_ret (pv 1))))), ?_⟩
    have q1000 : (100000 : Nat) < sizeLine := by decide
    have lx := rl.len
    refine seq_asg (lst_go (xs := []) (fun Q q => q) (by decide) fun H1 q s1 hq h1 => name_go ?_)
    try dsimp only
    refine seq_go ?_
    have grow : ∀ {H' : Hp} {o : HO}, Same H H' → Same H (upd H' q o) := fun s c o e => (upd_ne (ne_of_none e hq)).trans (s c o e)
    have lall : ∀ i, (rowsLines (rs.take i)).length ≤ 20 * (NL k + 1) := fun i => by
      refine Nat.le_trans (rowsLines_len (okRL_of bok (ok.take i))) (Nat.mul_le_mul_right _ ?_)
      rw [List.length_take]
      omega
    have nl3 : NL k ≤ 560 := by
      have : ∀ j, j ≤ 3 → NL j ≤ 560 := by decide
      exact this k hk
    refine for_sq (xs := xs) (H0 := H) rfl sq (fun i σ H' => Same H H' ∧ (∃ x2, σ = [some (.ref a), some (.ref q), x2, none]) ∧ H' q = some (.lst ((rowsLines (rs.take i)).map V.str))) ⟨s1, ⟨_, rfl⟩, by rw [List.take_zero]; unfold rowsLines; exact h1⟩ (fun i σ' H' z => z.1) ?_ ?_
    · rintro i y σ H2 hi ⟨s2, ⟨x2, rfl⟩, q2⟩ ey
      obtain ⟨r, er, ra⟩ := rl.at' ey
      have okr := ok.get er
      have ra := ra.kp (TupKp.of s2)
      have e1 : rs.take (i + 1) = rs.take i ++ [r] := by
        have hir := (List.getElem?_eq_some_iff.mp er).1
        rw [← List.take_append_getElem hir]
        rw [List.getElem?_eq_getElem hir] at er
        rw [Option.some.inj er]
      have lr := lall i
      have lr2 := lall (i + 1)
      rw [e1, rowsLines_app, rowsLines_one] at lr2 ⊢
      rw [List.length_append] at lr2
      generalize rowsLines (rs.take i) = L at *
      refine name_go ?_
      try dsimp only
      cases r with
      | ife t x z =>
        unfold RowAt at ra
        obtain ⟨p, u, xa, za, xv, zv, rfl, hp, tA, hx, rlx, hz, rlz⟩ := ra
        unfold okRow at okr
        obtain ⟨k', rfl, ot, dt, lx3, lz3, okx, okz⟩ := okr
        have lt := testS_len (okT_of bok ot)
        refine ⟨_, rfl, p, _, _, _, rfl, rfl, SqT.of hp, rfl, rfl, _, rfl, iteSe (by decide +kernel) ?_⟩
        refine seq_go ⟨_, rfl, .inl ⟨rfl, _, SqL.of q2⟩, ?_⟩
        refine cons_go (op_go (c_go ?_))
        refine ⟨_, rfl, p, _, _, _, rfl, rfl, SqT.of hp, rfl, ?_⟩
        refine ⟨u, t, B, rfl, tA, ot, bok, dt, fun H3 s3 => ?_⟩
        refine ⟨"if ", testS t, rfl, rfl, by show 3 + (testS t).length ≤ sizeLine; omega, ?_⟩
        refine ⟨q, _, _, rfl, rfl, s3 _ _ q2, by rw [List.length_map]; omega, ?_⟩
        have q3 : upd H3 q (.lst (L.map V.str ++ [V.str ("if " ++ testS t)])) q = some (.lst ((L ++ ["if " ++ testS t]).map V.str)) := by rw [List.map_append]; exact upd_same
        have s3 : Same H2 H3 := s3
        have s4 : Same H (upd H3 q (.lst (L.map V.str ++ [V.str ("if " ++ testS t)]))) := grow (s2.trans s3)
        have hp' := s3 _ _ hp
        have ts4 : TupKp H2 (upd H3 q (.lst (L.map V.str ++ [V.str ("if " ++ testS t)]))) := (TupKp.of s3).trans (TupKp.upd' (s3 _ _ q2) fun xs z => nomatch z)
        generalize upd H3 q (.lst (L.map V.str ++ [V.str ("if " ++ testS t)])) = H4 at *
        try dsimp only
        refine seq_go ⟨_, rfl, .inl ⟨rfl, _, SqL.of q3⟩, ?_⟩
        refine cons_go ?_
        refine ⟨_, rfl, p, _, _, _, rfl, rfl, SqT.of (ts4 _ _ hp), rfl, ?_⟩
        refine ⟨xa, xv, x, B, rfl, .inr (.inl (ts4 _ _ hx)), rlx.kp ts4, okx, bok, by omega, fun H5 l5 s5 hn5 h5 => ?_⟩
        have s5 : Same H4 H5 := s5
        refine ⟨q, l5, _, _, rfl, rfl, s5 _ _ q3, h5, by rw [List.length_map, List.length_map, List.length_append]; show L.length + 1 + _ ≤ _; have := rowsLines_len (okRL_of bok okx); have : x.length * (NL k' + 1) ≤ 3 * (NL k' + 1) := Nat.mul_le_mul_right _ lx3; have : NL (k' + 1) = 8 + 6 * NL k' := rfl; omega, ?_⟩
        have q6 : upd H5 q (.lst ((L ++ ["if " ++ testS t]).map V.str ++ (rowsLines x).map V.str)) q = some (.lst ((L ++ ["if " ++ testS t] ++ rowsLines x).map V.str)) := by rw [List.map_append (l₁ := L ++ _)]; exact upd_same
        have s6 : Same H (upd H5 q (.lst ((L ++ ["if " ++ testS t]).map V.str ++ (rowsLines x).map V.str))) := grow (s4.trans s5)
        have ts6 : TupKp H2 (upd H5 q (.lst ((L ++ ["if " ++ testS t]).map V.str ++ (rowsLines x).map V.str))) := (ts4.trans (TupKp.of s5)).trans (TupKp.upd' (s5 _ _ q3) fun xs z => nomatch z)
        generalize upd H5 q (.lst ((L ++ ["if " ++ testS t]).map V.str ++ (rowsLines x).map V.str)) = H6 at *
        try dsimp only
        have rlz6 := rlz.kp ts6
        refine seq_go ?_
        try dsimp only
        refine ⟨_, rfl, p, _, _, _, rfl, rfl, SqT.of (ts6 _ _ hp), rfl, tupc_go (xs := []) (fun Q q => q) (by decide) fun H7 e s7 he h7 => ⟨.tuple (rowsP z), .tuple [], .tup (SqT.of (s7 _ _ (ts6 _ _ hz))) (rlz6.kp (TupKp.of s7)).dp, .tup (SqT.of h7) .nil, rows_shaped bok okz (by omega), by decide +kernel, _, rfl, ?_⟩⟩
        rw [rows_ne]
        cases z with
        | nil =>
          refine iteSf rfl (next_go ?_)
          try dsimp only
          have q7 := s7 _ _ q6
          have sH7 : Same H H7 := s6.trans s7
          have eL : rowLines (.ife t x []) = ["if " ++ testS t] ++ rowsLines x ++ [("end" : Str)] := by
            unfold rowLines
            rw [ifLine]
            simp
          rw [eL, List.length_append, List.length_append] at lr2
          refine ⟨_, rfl, .inl ⟨rfl, _, SqL.of q7⟩, q, _, _, rfl, rfl, q7, ?_, grow sH7, ⟨_, rfl⟩, ?_⟩
          · rw [List.length_map, List.length_append, List.length_append]
            have : [("end" : Str)].length = 1 := rfl
            omega
          · rw [upd_same, eL, ← List.append_assoc, ← List.append_assoc, List.map_append (l₁ := L ++ _ ++ _)]
            rfl
        | cons z0 z1 =>
          refine iteSe rfl ?_
          have q7 := s7 _ _ q6
          have sH7 : Same H H7 := s6.trans s7
          have ts7 := ts6.trans (TupKp.of s7)
          have eL : rowLines (.ife t x (z0 :: z1)) = ["if " ++ testS t] ++ rowsLines x ++ ((("else" : Str) :: rowsLines (z0 :: z1)) ++ [("end" : Str)]) := by
            rw [rowLines, ifLine]
            rfl
          have el : (rowLines (.ife t x (z0 :: z1))).length = 1 + (rowsLines x).length + (1 + (rowsLines (z0 :: z1)).length + 1) := by
            rw [eL]
            simp only [List.length_append, List.length_cons, List.length_nil]
            omega
          rw [el] at lr2
          refine ⟨_, rfl, .inl ⟨rfl, _, SqL.of q7⟩, ?_⟩
          refine cons_go (op_go (lst_go (xs := [.str "else"]) (fun Q q => q) (by decide) fun H8 e8 s8 he8 h8 => ?_))
          refine ⟨_, rfl, p, _, _, _, rfl, rfl, SqT.of (s8 _ _ (ts7 _ _ hp)), rfl, ?_⟩
          refine ⟨za, zv, z0 :: z1, B, rfl, .inr (.inl (s8 _ _ (ts7 _ _ hz))), (rlz.kp ts7).kp (TupKp.of s8), okz, bok, by omega, fun H9 l9 s9 hn9 h9 => ?_⟩
          have s9 : Same H8 H9 := s9
          have o1 : [("end" : Str)].length = 1 := rfl
          refine ⟨e8, l9, _, _, rfl, rfl, s9 _ _ h8, h9, by rw [List.length_map]; show 1 + _ ≤ _; omega, fun pp hpp => nil_go ?_⟩
          obtain ⟨s10, h10⟩ := new_at (o := .lst ([V.str "else"] ++ (rowsLines (z0 :: z1)).map V.str)) hpp
          have s710 := (s8.trans s9).trans s10
          have q10 := s710 _ _ q7
          have sH10 : Same H _ := sH7.trans s710
          generalize upd H9 pp (.lst ([V.str "else"] ++ (rowsLines (z0 :: z1)).map V.str)) = H10 at *
          refine ⟨q, pp, _, _, rfl, rfl, q10, h10, ?_, ?_⟩
          · simp only [List.length_map, List.length_append, List.length_cons, List.length_nil]
            omega
          try dsimp only
          refine ⟨_, rfl, .inl ⟨rfl, _, SqL.of upd_same⟩, q, _, _, rfl, rfl, upd_same, ?_, grow (grow sH10), ⟨_, rfl⟩, ?_⟩
          · simp only [List.length_map, List.length_append, List.length_cons, List.length_nil]
            omega
          · rw [upd_same, eL]
            simp only [List.map_append, List.map_cons, List.map_nil, List.append_assoc, List.cons_append, List.nil_append]
      | add fc wh tt pl =>
        unfold RowAt at ra
        obtain ⟨p, rfl, hp⟩ := ra
        unfold okRow at okr
        have l1 := okWhat_len okr.2.2.1 bok
        have l2 := nameB_len (bok.toks tt (List.mem_append_left _ okr.2.2.2.1))
        have l3 : pl.length ≤ 6 := mem_len okr.2.2.2.2 (by decide +kernel)
        have on : numOk fc := numOk_of ⟨by omega, by omega⟩
        have l4 := iS_len on
        refine ⟨_, rfl, p, _, _, _, rfl, rfl, SqT.of hp, rfl, rfl, _, rfl, iteSf (by decide +kernel) ?_⟩
        refine ⟨_, rfl, .inl ⟨rfl, _, SqL.of q2⟩, ?_⟩
        refine cons_go ⟨⟨_, rfl⟩, parts_go (ss := ["add", iS fc, wh, tt, pl]) hp (.cons (.inl rfl) (.cons (.inr ⟨fc, rfl, on, rfl⟩) (.cons (.inl rfl) (.cons (.inl rfl) (.cons (.inl rfl) .nil))))) (show 5 ≤ 100 by decide) fun H3 D s3 hD => ?_⟩
        refine ⟨_, D, _, rfl, rfl, .inl (SqL.of hD), ?_, ?_⟩
        · show 3 + ((iS fc).length + (wh.length + (tt.length + (pl.length + 0)))) + 5 * 1 ≤ _
          omega
        have s3 : Same H2 H3 := s3
        refine ⟨q, _, _, rfl, rfl, s3 _ _ q2, by rw [List.length_map]; omega, grow (s2.trans s3), ⟨_, rfl⟩, ?_⟩
        rw [upd_same, rowLines, List.map_append]
        rfl
      | put nt wh =>
        unfold RowAt at ra
        obtain ⟨p, rfl, hp⟩ := ra
        unfold okRow at okr
        have l1 := okWhat_len okr.2 bok
        have l2 := nameB_len (bok.toks nt (List.mem_append_right _ okr.1))
        refine ⟨_, rfl, p, _, _, _, rfl, rfl, SqT.of hp, rfl, rfl, _, rfl, iteSf (by decide +kernel) ?_⟩
        refine ⟨_, rfl, .inl ⟨rfl, _, SqL.of q2⟩, ?_⟩
        refine cons_go ⟨⟨_, rfl⟩, parts_go (ss := ["put", nt, wh]) hp (.cons (.inl rfl) (.cons (.inl rfl) (.cons (.inl rfl) .nil))) (show 3 ≤ 100 by decide) fun H3 D s3 hD => ?_⟩
        refine ⟨_, D, _, rfl, rfl, .inl (SqL.of hD), ?_, ?_⟩
        · show 3 + (nt.length + (wh.length + 0)) + 3 * 1 ≤ _
          omega
        have s3 : Same H2 H3 := s3
        refine ⟨q, _, _, rfl, rfl, s3 _ _ q2, by rw [List.length_map]; omega, grow (s2.trans s3), ⟨_, rfl⟩, ?_⟩
        rw [upd_same, rowLines, List.map_append]
        rfl
      | mark pl =>
        unfold RowAt at ra
        obtain ⟨p, rfl, hp⟩ := ra
        unfold okRow at okr
        have l3 : pl.length ≤ 6 := mem_len okr (by decide +kernel)
        refine ⟨_, rfl, p, _, _, _, rfl, rfl, SqT.of hp, rfl, rfl, _, rfl, iteSf (by decide +kernel) ?_⟩
        refine ⟨_, rfl, .inl ⟨rfl, _, SqL.of q2⟩, ?_⟩
        refine cons_go ⟨⟨_, rfl⟩, parts_go (ss := ["mark", pl]) hp (.cons (.inl rfl) (.cons (.inl rfl) .nil)) (show 2 ≤ 100 by decide) fun H3 D s3 hD => ?_⟩
        refine ⟨_, D, _, rfl, rfl, .inl (SqL.of hD), ?_, ?_⟩
        · show 4 + (pl.length + 0) + 2 * 1 ≤ _
          omega
        have s3 : Same H2 H3 := s3
        refine ⟨q, _, _, rfl, rfl, s3 _ _ q2, by rw [List.length_map]; omega, grow (s2.trans s3), ⟨_, rfl⟩, ?_⟩
        rw [upd_same, rowLines, List.map_append]
        rfl
    · rintro σ H2 ⟨s2, ⟨x2, rfl⟩, q2⟩
      rw [lx, List.take_length] at q2
      try dsimp only
      refine ret_go ?_
      exact ⟨_, rfl, ret H2 q s2 hq q2⟩
theorem ok_rowLinesAll (T : Txt mg) (g_law_test_text : Has P w K mg base 5 "_law_test_text" ["_law_test_here"] (spTestText 2)) (F : DefAt K mg "_law_row_lines" s_law_row_lines ["_law_rows_here"]) : ∀ k : Nat, k ≤ 3 → Has P w K mg base (6 + k) "_law_row_lines" ["_law_rows_here"] (spRowLines K k)
  | 0, _ => by
    have g0 : Has P w K mg base 5 "_law_row_lines" ["_law_rows_here"] (spRowLinesK K 0) := F.has sc_law_row_lines (fun vs H Q E h => h.elim) (fun f cdv A outer s H vs Q E hr h => h.elim)
    exact ok_rowLines (by omega) (by omega) T g_law_test_text g0 F
  | k + 1, h => ok_rowLines (n := 6 + k) (by omega) h T g_law_test_text (ok_rowLinesAll T g_law_test_text F k (by omega)) F
end
end K14

namespace L2
open PySem PySem.Spec PyProof.Rows
namespace RD
open TL
theorem tl_nat (n : Nat) : tl (iS ((n : Nat) : Int)) = numL n := tl_num n
theorem tl_neg (n : Nat) : tl (iS (Int.negSucc n)) = 45 :: numL (n + 1) := by
  have e : (toString (Int.negSucc n) : String) = "-" ++ toString (((n + 1 : Nat)) : Int) := rfl
  have h : tl (iS (Int.negSucc n)) = (toString (Int.negSucc n) : String).toList.map Char.toNat := tl_ofString _
  rw [h, e, String.toList_append, List.map_append]
  have h2 : (toString (((n + 1 : Nat)) : Int) : String).toList.map Char.toNat = numL (n + 1) := by rw [← tl_ofString]; exact tl_num _
  rw [h2]; rfl
theorem numL_head : ∀ n : Nat, 0 < n → ∃ c r, numL n = c :: r ∧ 49 ≤ c ∧ c ≤ 57 := by
  intro n
  induction n using Nat.strongRecOn with
  | _ n ih =>
    intro hn
    by_cases h : n < 10
    · exact ⟨48 + n, [], numL_lt h, by omega, by omega⟩
    · obtain ⟨c, r, e, h1, h2⟩ := ih (n / 10) (by omega) (by omega)
      exact ⟨c, r ++ [48 + n % 10], by rw [numL_step (by omega), e]; rfl, h1, h2⟩
theorem starts_one (x y : Str) (c : Nat) (hy : tl y = [c]) : Txt.startswith x y = ((tl x).head? == some c) := by
  have ly : y.length = 1 := by rw [len_tl, hy]; rfl
  show (decide (0 + y.length ≤ x.length) && Builtin.Str.subAt x y 0) = _
  rw [PySem.StrLaws.subAt_eq, ly, show y.cps.toList = [c] from hy, List.drop_zero, len_tl, show x.cps.toList = tl x from rfl]
  generalize tl x = l
  cases l with
  | nil => rfl
  | cons a r =>
    show (decide (0 + 1 ≤ (a :: r).length) && ((a :: r).take 1 == [c])) = (some a == some c)
    rw [decide_eq_true (show 0 + 1 ≤ (a :: r).length by rw [List.length_cons]; omega), Bool.true_and]
    rw [Bool.eq_iff_iff, beq_iff_eq, beq_iff_eq]
    constructor
    · intro e; cases e; rfl
    · intro e; cases e; rfl
theorem cut_one (x y : Str) (c : Nat) (hx : tl x = c :: tl y) : cutS x (some 1) none = y := by
  apply ext_tl
  show ((x.cps.toList.drop (HT.sIx x.length 0 (some 1))).take (HT.sIx x.length x.length none - HT.sIx x.length 0 (some 1))) = _
  have lx : x.length = (tl y).length + 1 := by rw [len_tl, hx]; rfl
  have e1 : HT.sIx x.length 0 (some 1) = 1 := by
    rw [lx]
    show (min (1 : Int).toNat ((tl y).length + 1) : Nat) = 1
    show min 1 ((tl y).length + 1) = 1
    omega
  have e2 : HT.sIx x.length x.length none = x.length := rfl
  rw [e1, e2, show x.cps.toList = c :: tl y from hx, lx]
  show (tl y).take _ = _
  exact List.take_of_length_le (by omega)
theorem ascii_all {x : Str} (h : ∀ c ∈ tl x, c < 128) : Txt.isascii x = true := by
  show x.cps.all (fun c => decide (c < 128)) = true
  rw [← Array.all_toList, List.all_eq_true]
  exact fun c hc => decide_eq_true (h c hc)
theorem digit_all {x : Str} (hne : tl x ≠ []) (h : NumText.AllDigits (tl x)) : Txt.isdigit x = true := by
  show (decide (x.length > 0) && x.cps.all Unicode.isDigit) = true
  rw [decide_eq_true (by rw [len_tl]; exact List.length_pos_iff.mpr hne), Bool.true_and, ← Array.all_toList, List.all_eq_true]
  intro c hc
  have hd : ∀ c, c < 128 → 48 ≤ c → c ≤ 57 → Unicode.isDigit c = true := by decide +kernel
  obtain ⟨h1, h2⟩ := h c hc
  exact hd c (by omega) h1 h2
theorem free32 (i : Int) : 32 ∉ tl (iS i) := PyProof.Rows.int_text_free' 32 ⟨by decide, by decide⟩ i
theorem ne_plus (i : Int) : iS i ≠ "+" := fun e => by
  have := PyProof.Rows.int_text_free' 43 ⟨by decide, by decide⟩ i
  refine this ?_
  show 43 ∈ tl (iS i)
  rw [e]; decide +kernel
/-- the figures of a number -/
def figs (i : Int) : Str := iS ((i.natAbs : Nat) : Int)
theorem tl_figs (i : Int) : tl (figs i) = numL i.natAbs := tl_nat _
theorem figs_pos (n : Nat) : figs ((n : Nat) : Int) = iS ((n : Nat) : Int) := rfl
theorem minus (i : Int) : Txt.startswith (iS i) "-" = decide (i < 0) := by
  rw [starts_one _ _ 45 (by decide +kernel)]
  cases i with
  | ofNat n =>
    rw [show tl (iS (Int.ofNat n)) = numL n from tl_nat n, decide_eq_false (show ¬ Int.ofNat n < 0 from by simp)]
    have hd := numL_digits n
    cases h : numL n with
    | nil => exact absurd h (numL_ne n)
    | cons c r =>
      rw [h] at hd
      have := hd.head
      show (some c == some 45) = false
      exact beq_eq_false_iff_ne.mpr fun e => by injection e with e; omega
  | negSucc n =>
    rw [tl_neg, decide_eq_true (Int.negSucc_lt_zero n)]
    rfl
theorem cut_neg {i : Int} (h : i < 0) : cutS (iS i) (some 1) none = figs i := by
  cases i with
  | ofNat n => exact absurd h (by simp)
  | negSucc n => exact cut_one _ _ 45 (by rw [tl_neg, tl_figs]; rfl)
theorem figs_ascii (i : Int) : Txt.isascii (figs i) = true := ascii_all fun c hc => by
  rw [tl_figs] at hc
  have := numL_digits _ c hc
  omega
theorem figs_digit (i : Int) : Txt.isdigit (figs i) = true := digit_all (by rw [tl_figs]; exact numL_ne _) (by rw [tl_figs]; exact numL_digits _)
theorem figs_zero (i : Int) : Txt.startswith (figs i) "0" = decide (i = 0) := by
  rw [starts_one _ _ 48 (by decide +kernel), tl_figs]
  by_cases h : i = 0
  · subst h
    rw [show (0 : Int).natAbs = 0 from rfl, numL_lt (by decide), decide_eq_true rfl]; rfl
  · obtain ⟨c, r, e, h1, h2⟩ := numL_head i.natAbs (by omega)
    rw [e, decide_eq_false h]
    exact beq_eq_false_iff_ne.mpr fun e => by injection e with e; omega
theorem zero_text : iS 0 = "0" := by decide +kernel
theorem figs_le (i : Int) : (figs i).length ≤ (iS i).length := by
  rw [len_tl, len_tl, tl_figs]
  cases i with
  | ofNat n => rw [show tl (iS (Int.ofNat n)) = numL n from tl_nat n]; exact Nat.le_refl _
  | negSucc n => rw [tl_neg, List.length_cons]; exact Nat.le_succ _
theorem back (i : Int) (h : (iS i).length ≤ 4300) : intText? (iS i) = some i := by
  cases i with
  | ofNat n =>
    have : (numL n).length ≤ 4300 := by rw [len_tl, show tl (iS (Int.ofNat n)) = numL n from tl_nat n] at h; exact h
    exact int_num this
  | negSucc n =>
    have e := intText_neg (x := iS (Int.negSucc n)) (tl_neg n) (numL_digits _) (numL_ne _) h
    rw [e, numL_val]; rfl
theorem plus_minus : Txt.startswith "+" "-" = false := by decide +kernel
theorem plus_ascii : Txt.isascii "+" = true := by decide +kernel
theorem plus_digit : Txt.isdigit "+" = false := by decide +kernel
end RD
end L2

/-! == and != of instances of several own classes, each with its own __eq__ (the model's defaults for !=), with instances, texts and tuples -/
namespace L2
open PySem PySem.Spec PyProof.Rows
/-- what may stand on the right: nothing that is asked ahead of the left -/
inductive RightOf (K : PySem.W.Frag) (H : Hp) (C : Addr) : V → Prop
  | ins {b D dy : Addr} {gs : List (Str × V)} (h : H b = some (.ins D dy gs)) (n : PySem.W.notFirst K C (.ref D) = true) : RightOf K H C (.ref b)
  | str (x : Str) (n : PySem.W.notFirst K C (.type "str") = true) : RightOf K H C (.str x)
  | tup {b : Addr} {xs : List V} (h : H b = some (.tup xs)) (n : PySem.W.notFirst K C (.type "tuple") = true) : RightOf K H C (.ref b)
structure EqCls (P : Program) (w : World) (K : PySem.W.Frag) (mg : Str → Option Value) (base : Heap) (k : Nat) (cls : List Addr) (sp : Addr → Sp) : Prop where
  has : ∀ C ∈ cls, ∃ (g : Addr) (fd : FuncData), PySem.W.findIn K (.ref C) "__eq__" = some (some (.ref g)) ∧ PySem.W.isFn K (.ref g) = true ∧ Binds K fd ["self", "other"] [] ∧ FnOk P w K mg base CX0 k g fd ["self", "other"] (sp C)
  two : ∀ C ∈ cls, Two K C
def rEqC (K : PySem.W.Frag) (cls : List Addr) (sp : Addr → Sp) (n : Bool) : R2 := fun x y H Q => ∃ (a C dx : Addr) (fs : List (Str × V)), x = .ref a ∧ H a = some (.ins C dx fs) ∧ C ∈ cls ∧ RightOf K H C y ∧ sp C [x, y] H (fun r H' => ∃ c, r = .bl c ∧ Q (.bl (n != c)) H') E0
section
variable {X : Cx} {k : Nat} {cls : List Addr} {sp : Addr → Sp}
theorem right_looks {pins : List (Addr × Obj)} {σ : St} {H : Hp} {s : Shared} {C : Addr} {y : V} {u : Value} (I : Inv X pins σ H s) (ry : RelV y u) (h : RightOf X.K H C y) : ∃ tb, PySem.W.Looks (model X.prog X.w) s.heap (typeOf u) tb ∧ PySem.W.notFirst X.K C tb = true := by
  cases h with
  | ins h n =>
    cases ry
    obtain ⟨mA, J, _⟩ := ins_get I.hok h
    obtain ⟨od, J, _⟩ := J.look
    exact ⟨_, J.type, n⟩
  | str x n =>
    obtain ⟨t, rfl⟩ := ry
    exact ⟨_, PySem.W.Looks.of_pure rfl, n⟩
  | tup h n =>
    cases ry
    obtain ⟨its, r, ⟨o, e, c, _⟩, _⟩ := I.tuple (SqT.of h)
    exact ⟨_, fun A Q E s k q => wpAny_typeOf_ref (k _ _ e) (by rw [c]; exact q), n⟩
theorem op_eqC (Eq : EqCls X.prog X.w X.K X.mg X.base k cls sp) (hr : Room k X.A) : OpR X (compareOp .Eq) (rEqC X.K cls sp false) := by
  intro pins s σ H x y v u Q I rx ry h
  obtain ⟨a, C, dx, fs, rfl, ha, mC, hy, q⟩ := h
  obtain ⟨tb, lk, nf⟩ := right_looks I ry hy
  cases rx
  obtain ⟨g, fd, hs, hf, hb, F⟩ := Eq.has C mC
  obtain ⟨mA, J, _⟩ := ins_get I.hok ha
  obtain ⟨od, J, _⟩ := J.look
  obtain ⟨m, hF⟩ := I.fr
  show wpAny _ _ (richCompare .Eq _ _) _ _ _
  refine PySem.W.cmp_K (op := .Eq) hr.units0 hF I.ok.mod.kin J lk nf hs hf ?_
  refine run_own F hr hb pass0 I (show Vals [V.ref a, y] [Value.ref a, u] from .cons rfl (.cons ry .nil)) q fun w z s' H' I' rz qz => ?_
  obtain ⟨c, rfl, qc⟩ := qz
  cases rz
  refine ⟨.bl c, H', I', rfl, ?_⟩
  cases c <;> exact qc
theorem op_neC (Eq : EqCls X.prog X.w X.K X.mg X.base k cls sp) (hr : Room (k + 1) X.A) : OpR X (compareOp .NotEq) (rEqC X.K cls sp true) := by
  intro pins s σ H x y v u Q I rx ry h
  obtain ⟨a, C, dx, fs, rfl, ha, mC, hy, q⟩ := h
  obtain ⟨tb, lk, nf⟩ := right_looks I ry hy
  cases rx
  obtain ⟨g, fd, hs, hf, hb, F⟩ := Eq.has C mC
  have t := Eq.two C mC
  obtain ⟨mA, J, _⟩ := ins_get I.hok ha
  obtain ⟨od, J, _⟩ := J.look
  obtain ⟨m, hF⟩ := I.fr
  refine PySem.W.ne_own (show X.A.units + 2 < cLine from Nat.lt_of_le_of_lt (Nat.add_le_add_left (by decide : 2 ≤ 64) _) hr.units) hF I.ok.mod.kin J lk nf t.obj t.ne hs hf ?_
  refine run_own1 F hr.in1 rfl hb pass0 I (show Vals [V.ref a, y] [Value.ref a, u] from .cons rfl (.cons ry .nil)) q fun w z s' H' I' rz qz => ?_
  obtain ⟨c, rfl, qc⟩ := qz
  cases rz
  refine ⟨c, rfl, .bl (!c), H', I', rfl, ?_⟩
  cases c <;> exact qc
end
end L2

/-! repr of texts, and of lists and tuples of data (where nothing else is being shown) -/
namespace L2
open PySem PySem.Spec PyProof.Rows
section
variable {X : Cx}
theorem reprText_fits {a : Str} (h : PyData.strOk a = true) : (reprText a).length ≤ 10 * a.length + 2 := by
  refine PySem.StrLaws.reprText_len a fun c hc => ?_
  have h : a.cps.all (fun c => decide (c < 0x110000)) = true := h
  rw [← Array.all_toList, List.all_eq_true] at h
  have h1 : c < 0x110000 := of_decide_eq_true (h c hc)
  exact Nat.lt_trans h1 (by decide)
theorem call_reprT : CallR X (.builtin "repr") (fun xs H Q => ∃ a : Str, xs = [.str a] ∧ PyData.strOk a = true ∧ a.length ≤ 1600000 ∧ Q (.str (reprText a)) H) := by
  intro pins s σ H xs us Q I r h
  obtain ⟨a, rfl, ok, l, q⟩ := h
  obtain ⟨u, rfl, t, rfl⟩ := vals1 r
  have q1 : (16000002 : Nat) ≤ sizeLine := by decide
  exact PySem.P.repr_of_str ⟨.str _, H, I.tok _, ⟨_, rfl⟩, q⟩ (by have := reprText_fits ok; omega)
/-- repr(x), x a list or tuple of data, where nothing else is being shown -/
def rRepr (K : PySem.W.Frag) : List V → Hp → VK → Prop := fun xs H Q => ∃ (a : Addr) (d : PyData), xs = [.ref a] ∧ Dp K H (.ref a) d ∧ d.showable = true ∧ d.hasDict = false ∧ d.depth ≤ 60 ∧ d.shown.length ≤ sizeLine ∧ Q (.str d.shown) H
theorem call_reprD (hg : X.A.guards = some []) (hu : X.A.units + 64 < cLine) : CallR X (.builtin "repr") (rRepr X.K) := by
  intro pins s σ H xs us Q I r h
  obtain ⟨a, d, rfl, hd, h1, h2, h3, h4, q⟩ := h
  match us, r with
  | [u], .cons r1 .nil =>
    obtain ⟨as, R⟩ := Dp.reads I d _ u hd r1
    obtain rfl : u = Value.ref a := r1
    refine repr_of_reads' R h1 (fun z => ?_) hg (by omega) (fun b o z => z) (fun h' u tk k => ?_) h4
    · rw [h2] at z; cases z
    · exact ⟨.str d.shown, H, I.kept (t' := tk) k, ⟨_, rfl⟩, q⟩
end
end L2

namespace L2
open PySem PySem.Spec PyProof.Rows PySem.W
/-! ### defs that are called where nothing is being shown around the call -/
structure FnG (P : Program) (w : World) (K : PySem.W.Frag) (mg : Str → Option Value) (base : Heap) (k : Nat) (f : Addr) (fd : FuncData) (ps : List Str) (sp : Sp) : Prop where
  num : ∀ vs H Q E, sp vs H Q E → vs.length = ps.length
  go : ∀ (A : Around) (outer : List Env) (s : Shared) (H : Hp) (args : Args) (us : List Value) (vs : List V) (Q : VK), A.guards = some [] → Room k A → Env0 P w K mg base A outer s H → BindsTo s fd args (ps.zip us) → Vals vs us → sp vs H Q E0 →
    codeAny (model P w) A (.call (.ref f) args) (CR CX0 outer P w H s Q E0) s
theorem FnG.of {P : Program} {w : World} {K : PySem.W.Frag} {mg : Str → Option Value} {base : Heap} {k : Nat} {f : Addr} {nm qual : Str} {st : Stmt} {fd : FuncData} {N ps : List Str} {sp : Sp} (F : Fun K nm qual st f fd) (S : FnScope N ps (defScope st)) (num : ∀ vs H Q E, sp vs H Q E → vs.length = ps.length)
    (body : ∀ (cdv : Value) (A : Around) (outer : List Env) (s : Shared) (H : Hp) (vs : List V) (Q : VK), (A.deeper (envOfC qual (defScope st) s.heap.objs.size f cdv)).guards = some [] → Room k (A.deeper (envOfC qual (defScope st) s.heap.objs.size f cdv)) → sp vs H Q E0 →
      ∃ t, PSs (cxOf CX0 P w K mg base N qual (defScope st) f cdv A outer s H E0).nox (defBody st) t ∧ t { nx := fun _ H' => Q .non H', rt := Q } (start N vs) H) : FnG P w K mg base (k + 1) f fd ps sp := by
  obtain ⟨oc, od, kV, doc, pm, an, cdv, ct, osl, e, lk, hcd⟩ := F.ex
  subst e
  refine ⟨num, fun A outer s H args us vs Q hg0 hr z0 hb r q => ?_⟩
  have hg : (A.deeper (envOfC qual (defScope st) s.heap.objs.size f cdv)).guards = some [] := by
    first | exact hg0 | (simp [Around.deeper, hg0]) | (unfold Around.deeper; exact hg0)
  have KI : K.In s.heap := z0.mod.kin.keeps fun b o y => (z0.bs b o y).1
  have zl : s.heap.NoLimit := z0.mod.nolimit.keeps fun b o y => (z0.bs b o y).1
  have kinds : ∀ y ∈ ps.zip us, (defScope st).names.lookup y.1 = some .local ∨ ((defScope st).names.lookup y.1 = some .cell ∧ ((cellsFrom (s.heap.objs.size + 1) (defScope st).names []).lookup y.1).isSome = true) := by
    rintro ⟨n, v'⟩ hy
    exact (S.par n (List.of_mem_zip hy).1).imp (fun y => y) fun y => ⟨y, PySem.W.cellsFrom_some _ _ _ (.inl y)⟩
  refine codeAny_call_function hr.depth (KI _ _ lk) rfl S.co S.gen rfl (PySem.W.codeRec_of KI hcd) (hb _ _ _ _ (wpAny_newFunctionEnv_cells S.kind kinds fun env he s1 y => ?_))
  subst he
  obtain ⟨t, ht, hq⟩ := body cdv A outer s H vs Q hg (hr.deeper _) q
  have I := inv_start (CX := CX0) (E := E0) S hr.hd z0 (num _ _ _ _ q) r y
  refine ⟨zl.keeps y.toInCall.keep, codeAny_func (wpAny_mono (ht.nox.run [] s1 (start N vs) H _ I hq) (fun fl s' hs => ?_) fun _ _ hs => hs)⟩
  match fl, hs with
  | .ret u, ⟨v, σ', H', J, rv, q⟩ => exact ⟨v, H', J.os, J.bare, J.base, J.hok, rv, q⟩
  | .next, ⟨σ', H', J, q⟩ => exact ⟨V.non, H', J.os, J.bare, J.base, J.hok, rfl, q⟩
  | .brk, ⟨_, _, _, q⟩ => exact q.elim
  | .cont, ⟨_, _, _, q⟩ => exact q.elim
def HasG (P : Program) (w : World) (K : PySem.W.Frag) (mg : Str → Option Value) (base : Heap) (k : Nat) (nm : Str) (ps : List Str) (sp : Sp) : Prop :=
  ∃ (f : Addr) (fd : FuncData), FnG P w K mg base k f fd ps sp ∧ mg nm = some (.ref f) ∧ PySem.W.keepIn K (.ref f) = true ∧ Binds K fd ps []
theorem pe_callG {X : Cx} {k : Nat} {x : Str} {ps : List Str} {sp : Sp} {p pos : Pos} {e : Expr} {es : List Expr} {t : TA} (G : HasG X.prog X.w X.K X.mg X.base k x ps sp) (g0 : X.A.guards = some []) (hr : Room k X.A) (hg : Gl X x) (ha : PA X (e :: es) t)
    (hdb : (x == ("__debug__" : Str)) = false := by decide) (he : starEach (e :: es) X.env = (false, eval e X.env) :: starEach es X.env := by rfl) (hpl : (backTo pos (starEach es X.env)).any (·.1) = false := by rfl) :
    PE X (.Call (.Name x p) (e :: es) [] pos) (tCall sp [] E0 t) := by
  obtain ⟨f, fd, F, m, kp, b⟩ := G
  refine ⟨fun pins s σ H Q I h => wpAny_Call_Name_kw (ld_glob I hg m ?_ hdb)⟩
  refine PySem.W.callWith_K (h₀ := X.base) I.ok.mod.kin kp (thn (ha.run pos pins s σ H _ I h) fun us s1 q => ?_) he hpl
  obtain ⟨vs, H1, I1, r, q⟩ := q
  refine ⟨I1.kIn, ?_⟩
  rw [List.append_nil] at q
  have hl : us.length = ps.length := by rw [← r.length]; exact F.num _ _ _ _ q
  have bd := b s1 us I1.kIn (by rw [List.append_nil]; exact hl)
  rw [List.append_nil] at bd
  refine wpAny_call (codeAny_mono (F.go X.A X.stack s1 H1 ⟨us, []⟩ us vs Q g0 hr I1.env0 bd r q) fun z s2 hz => ?_)
  match z, hz with
  | .ok (.ret u), hz => exact I1.after hz
  | .ok .next, hz => exact hz.elim
  | .ok .brk, hz => exact hz.elim
  | .ok .cont, hz => exact hz.elim
  | .error e, hz => exact hz.elim
theorem DefAt.hasG {P : Program} {w : World} {K : PySem.W.Frag} {mg : Str → Option Value} {base : Heap} {k : Nat} {nm : Str} {st : Stmt} {N ps : List Str} {sp : Sp} (F : DefAt K mg nm st ps) (S : FnScope N ps (defScope st)) (num : ∀ vs H Q E, sp vs H Q E → vs.length = ps.length)
    (body : ∀ (f : Addr) (cdv : Value) (A : Around) (outer : List Env) (s : Shared) (H : Hp) (vs : List V) (Q : VK), (A.deeper (envOfC nm (defScope st) s.heap.objs.size f cdv)).guards = some [] → Room k (A.deeper (envOfC nm (defScope st) s.heap.objs.size f cdv)) → sp vs H Q E0 →
      ∃ t, PSs (cxOf CX0 P w K mg base N nm (defScope st) f cdv A outer s H E0).nox (defBody st) t ∧ t { nx := fun _ H' => Q .non H', rt := Q } (start N vs) H) : HasG P w K mg base (k + 1) nm ps sp := by
  obtain ⟨f, fd, F, m, b⟩ := F
  exact ⟨f, fd, FnG.of F S num (body f), m, F.kp, b⟩
end L2

/-! == and != of lists of instances of several own classes, each with its own __eq__, where all are equal -/
namespace GQN
open PySem PySem.SeqAt GQ
open AutoSeq1 (wpAny_loadPart')
open MeetsSeq MeetsSeq2 MeetsSeq3 SeqRoads2
section
variable {prog : Program} {w : World} {A : Around} {R : Result → Shared → Prop}
theorem turns (a b : Addr) (N : Nat) (I : Nat → Shared → Prop) (hI : ListI prog w A (fun e s' => R (.error e) s') a b N I) (fin : ∀ s, I N s → R (.ok (.ret (.bool false))) s) :
    ∀ k i : Nat, i + k = N → ∀ s, I i s → wpAny (model prog w) A.in1 (Builtin.«list.__eq__.loop» ⟨[.ref a, .ref b, rawInt i, rawInt 3], []⟩) (FinOf prog w A R) (fun e s' => R (.error e) s') s
  | 0, i, e, s, h => by
    obtain ⟨us, vs, n, m, ha, hb, lu, lv, _⟩ := hI _ _ h
    have q : R (.ok (.ret (.bool false))) s := fin s ((show i = N by omega) ▸ h)
    obtain ⟨hp, g, d, tk, os⟩ := s
    wp_walk using wpAny_loadPart' ha, wpAny_loadPart' hb
    rw [show us[((i : Nat) : Int).toNat]? = none by simp; omega, show vs[((i : Nat) : Int).toNat]? = none by simp; omega]
    wp_walk using wpAny_loadPart' ha, wpAny_loadPart' hb
    show R (.ok (.ret (.bool (us.size != vs.size)))) _
    rw [lu, lv]
    simpa using q
  | k + 1, i, e, s, h => by
    obtain ⟨us, vs, n, m, ha, hb, lu, lv, one⟩ := hI _ _ h
    have iu : i < us.size := by omega
    have iv : i < vs.size := by omega
    have o := one iu iv
    obtain ⟨hp, g, d, tk, os⟩ := s
    wp_walk using wpAny_loadPart' ha, wpAny_loadPart' hb
    rw [show us[((i : Nat) : Int).toNat]? = some us[i] by simp [iu], show vs[((i : Nat) : Int).toNat]? = some vs[i] by simp [iv]]
    refine wpAny_bind (wpAny_mono o (fun r s2 ⟨hr, h2⟩ => ?_) fun _ _ x => x)
    subst hr
    have next := turns a b N I hI fin k (i + 1) (by omega) s2 h2
    obtain ⟨hp2, g2, d2, tk2, os2⟩ := s2
    wp_walk
    rw [show ((i : Int) + 1) = ((i + 1 : Nat) : Int) by omega]
    exact ⟨plainId_quiet plain_eq_loop _, codeAny_builtin entry_eq_loop (by rw [Around.under_plainId plain_eq_loop _]; exact next)⟩
theorem whole (a b : Addr) (N : Nat) (I : Nat → Shared → Prop) (hI : ListI prog w A (fun e s' => R (.error e) s') a b N I) (fin : ∀ s, I N s → R (.ok (.ret (.bool false))) s) {s : Shared} (h : I 0 s) :
    wpAny (model prog w) A.in1 (Builtin.«list.__ne__» ⟨[.ref a, .ref b], []⟩) (FinOf prog w A R) (fun e s' => R (.error e) s') s := by
  obtain ⟨us, vs, n, m, ha, hb, lu, lv, _⟩ := hI _ _ h
  have next := turns (A := A) (R := R) a b N I hI fin N 0 (by omega) s h
  obtain ⟨hp, g, d, tk, os⟩ := s
  have f3 := AutoSeq1.sub_list_list
  have same : ¬ (us.size != vs.size) = true := by simp [lu, lv]
  wp_walk using wpAny_loadPart' ha, wpAny_loadPart' hb
  exact ⟨plainId_quiet plain_eq_loop _, codeAny_builtin entry_eq_loop (by rw [Around.under_plainId plain_eq_loop _]; exact next)⟩
end
theorem unlike {prog : Program} {w : World} {A : Around} {E : Value → Shared → Prop} {s : Shared} {a b : Addr} {N : Nat} {Q : Value → Shared → Prop} (hu : A.units < cLine) (I : Nat → Shared → Prop) (hI : ListI prog w A E a b N I) (fin : ∀ s, I N s → Q (.bool false) s) (h : I 0 s) :
    wpAny (model prog w) A (richCompare .NotEq (.ref a) (.ref b)) Q E s := by
  obtain ⟨us, vs, n, m, ha, hb, _⟩ := hI _ _ h
  refine wpAny_richCompare_same_room (op := .NotEq) ⟨_, ha, rfl⟩ ⟨_, hb, rfl⟩ F.slot_list_ne (call_here F.slot_list_ne ⟨_, ha, rfl⟩ F.entry_list_ne (F.args_list_ne_2 _ _) ?_) hu
  exact whole (R := wants (fun v s' => v ≠ .notImplemented ∧ Q v s') E) a b N I hI (fun s' q => ⟨(fun x => nomatch x), fin s' q⟩) h
end GQN
namespace L2
open PySem PySem.Spec PyProof.Rows
/-- != of two lists whose items are equal, one by one -/
def rNeG (D : Eqv) : R2 := fun x y H Q => DList D x y H ∧ ∀ H', Ext H H' → Q (.bl false) H'
theorem op_neG {X : Cx} {n : Nat} {D : Eqv} (hD : Mon D) (h : EqG X n D) (hr : Room (n + 1) X.A) : OpR X (compareOp .NotEq) (rNeG D) := by
  intro pins s σ H x y v u Q I rx ry hq
  obtain ⟨⟨a, b, xs, ys, rfl, rfl, ha, hb, p⟩, q⟩ := hq
  cases rx
  cases ry
  show wpAny (model X.prog X.w) X.A (richCompare .NotEq (.ref a) (.ref b)) (EP X pins σ Q) X.xe s
  refine GQN.unlike (N := xs.length) hr.units0 (fun _ s' => LoopI X pins σ H s') (fun i s' l => ?_) (fun s' l => ?_) ⟨H, I, Ext.rfl'⟩
  · obtain ⟨H1, I1, e1⟩ := id l
    obtain ⟨_, its, k, r, e⟩ := I1.hok a _ (e1 _ _ ha)
    obtain ⟨_, its2, k2, r2, e2⟩ := I1.hok b _ (e1 _ _ hb)
    exact ⟨its.toArray, its2.toArray, k, k2, e, e2, by rw [List.size_toArray, ← r.length], by rw [List.size_toArray, ← r2.length, ← p.1], fun h1 h2 => turnG hD h ⟨hr, rfl⟩ p r r2 i h1 h2 s' l⟩
  · obtain ⟨H1, I1, e1⟩ := l
    exact ⟨.bl false, H1, I1, rfl, q H1 e1⟩
/-- two instances of one of the classes whose own == says True -/
def DCls (cls : List Addr) (sp : Addr → Sp) : Eqv := fun x y H => ∃ a b C dx dy fs gs, x = .ref a ∧ y = .ref b ∧ C ∈ cls ∧ H a = some (.ins C dx fs) ∧ H b = some (.ins C dy gs) ∧ ∀ H', Ext H H' → sp C [.ref a, .ref b] H' (fun r H2 => r = .bl true ∧ Ext H' H2) E0
theorem mon_cls {cls : List Addr} {sp : Addr → Sp} : Mon (DCls cls sp) := fun x y H H' e d => by
  obtain ⟨a, b, C, dx, dy, fs, gs, hx, hy, mC, h1, h2, q⟩ := d
  exact ⟨a, b, C, dx, dy, fs, gs, hx, hy, mC, e _ _ h1, e _ _ h2, fun H2 e2 => q H2 (e.trans e2)⟩
theorem rcG_cls {X : Cx} {k : Nat} {cls : List Addr} {sp : Addr → Sp} (Eq : EqCls X.prog X.w X.K X.mg X.base k cls sp) : RcG X k (DCls cls sp) := by
  intro A pins s σ H x y u v sb I rx ry d
  obtain ⟨a, b, C, dx, dy, fs, gs, rfl, rfl, mC, ha, hb', q⟩ := d
  cases rx
  cases ry
  obtain ⟨g, fd, hs, hf, hb, F⟩ := Eq.has C mC
  obtain ⟨_, JA, _⟩ := ins_get I.hok ha
  obtain ⟨_, JB, _⟩ := ins_get I.hok hb'
  obtain ⟨_, JA, _⟩ := JA.look
  obtain ⟨_, JB, _⟩ := JB.look
  obtain ⟨_, hF⟩ := I.fr
  refine PySem.W.cmp_K (op := .Eq) (tb := .ref C) sb.room.units0 hF I.ok.mod.kin JA JB.type (by simp [PySem.W.notFirst]) hs hf ?_
  have due := q H Ext.rfl'
  have en : Env0 X.prog X.w X.K X.mg X.base A X.stack s H := by
    have z := I.env0
    exact ⟨by rw [sb.fr]; exact z.frames, z.mod, z.bs, z.bsz, z.funs, z.frf, z.hok, z.bare⟩
  have two : Vals [V.ref a, V.ref b] [Value.ref a, Value.ref b] := .cons rfl (.cons rfl .nil)
  refine wpAny_call (codeAny_mono (F.run A X.stack s H ⟨[.ref a, .ref b], []⟩ [.ref a, .ref b] [.ref a, .ref b] _ E0 sb.room en (by simpa using hb s [.ref a, .ref b] I.kIn rfl) two due) fun r s' hq => ?_)
  match r, hq with
  | .error e, hq => exact pass0 pins σ H s e s' I hq
  | .ok (.ret w), hq =>
    obtain ⟨z, H', I', rz, ez, ex⟩ := I.after hq
    subst ez
    cases rz
    exact ⟨rfl, H', I', ex⟩
  | .ok .next, hq => exact False.elim hq
  | .ok .brk, hq => exact False.elim hq
  | .ok .cont, hq => exact False.elim hq
theorem eqG_cls {X : Cx} {k : Nat} {cls : List Addr} {sp : Addr → Sp} (Eq : EqCls X.prog X.w X.K X.mg X.base k cls sp) : EqG X k (DCls cls sp) := (rcG_cls Eq).eqG fun _ _ _ d => let ⟨a, b, _, _, _, _, _, hx, hy, _⟩ := d; ⟨a, b, hx, hy⟩
theorem op_neCls {X : Cx} {k : Nat} {cls : List Addr} {sp : Addr → Sp} (Eq : EqCls X.prog X.w X.K X.mg X.base k cls sp) (hr : Room (k + 1) X.A) : OpR X (compareOp .NotEq) (rNeG (DCls cls sp)) := op_neG mon_cls (eqG_cls Eq) hr
end L2

namespace L2
open PySem PySem.Spec PyProof.Rows PySem.W
/-- a law's def keeps its promise where nothing is being shown around the call -/
structure LawOk (P : Program) (w : World) (K : PySem.W.Frag) (mg : Str → Option Value) (base : Heap) (k : Nat) (f : Addr) (sp : Sp) : Prop where
  run : ∀ (A : Around) (s : Shared) (H : Hp) (u : Value) (v : V) (Q : VK), A.guards = some [] → Room k A → Env0 P w K mg base A [] s H → RelV v u → sp [v] H Q E0 → codeAny (model P w) A (.call (.ref f) ⟨[u], []⟩) (CR CX0 [] P w H s Q E0) s
theorem LawOk.of {P : Program} {w : World} {K : PySem.W.Frag} {mg : Str → Option Value} {base : Heap} {k : Nat} {f : Addr} {nm qual x : Str} {st : Stmt} {fd : FuncData} {N : List Str} {sp : Sp} (F : Fun K nm qual st f fd) (S : FnScope N [x] (defScope st))
    (hb : ∀ (s : Shared) (u : Value), K.In s.heap → BindsTo s fd ⟨[u], []⟩ [(x, u)])
    (body : ∀ (cdv : Value) (A : Around) (s : Shared) (H : Hp) (v : V) (Q : VK), A.guards = some [] → Room k (A.deeper (envOfC qual (defScope st) s.heap.objs.size f cdv)) → sp [v] H Q E0 →
      ∃ t, PSs (cxOf CX0 P w K mg base N qual (defScope st) f cdv A [] s H E0).nox (defBody st) t ∧ t { nx := fun _ H' => Q .non H', rt := Q } (start N [v]) H) : LawOk P w K mg base (k + 1) f sp := by
  obtain ⟨oc, od, kV, doc, pm, an, cdv, ct, osl, e, lk, hcd⟩ := F.ex
  subst e
  refine ⟨fun A s H u v Q hg hr z0 r q => ?_⟩
  have KI : K.In s.heap := z0.mod.kin.keeps fun b o y => (z0.bs b o y).1
  have zl : s.heap.NoLimit := z0.mod.nolimit.keeps fun b o y => (z0.bs b o y).1
  have kinds : ∀ y ∈ [x].zip [u], (defScope st).names.lookup y.1 = some .local ∨ ((defScope st).names.lookup y.1 = some .cell ∧ ((cellsFrom (s.heap.objs.size + 1) (defScope st).names []).lookup y.1).isSome = true) := by
    rintro ⟨n, v'⟩ hy
    exact (S.par n (List.of_mem_zip hy).1).imp (fun y => y) fun y => ⟨y, PySem.W.cellsFrom_some _ _ _ (.inl y)⟩
  refine codeAny_call_function hr.depth (KI _ _ lk) rfl S.co S.gen rfl (PySem.W.codeRec_of KI hcd) (hb s u KI _ _ _ _ (wpAny_newFunctionEnv_cells S.kind kinds fun env he s1 y => ?_))
  subst he
  obtain ⟨t, ht, hq⟩ := body cdv A s H v Q hg (hr.deeper _) q
  have I := inv_start (CX := CX0) (E := E0) S hr.hd z0 rfl (.cons r .nil) y
  refine ⟨zl.keeps y.toInCall.keep, codeAny_func (wpAny_mono (ht.nox.run [] s1 (start N [v]) H _ I hq) (fun fl s' hs => ?_) fun _ _ hs => hs)⟩
  match fl, hs with
  | .ret u, ⟨v, σ', H', J, rv, q⟩ => exact ⟨v, H', J.os, J.bare, J.base, J.hok, rv, q⟩
  | .next, ⟨σ', H', J, q⟩ => exact ⟨V.non, H', J.os, J.bare, J.base, J.hok, rfl, q⟩
  | .brk, ⟨_, _, _, q⟩ => exact q.elim
  | .cont, ⟨_, _, _, q⟩ => exact q.elim

/-- what the caller of the law sees: nothing stood there but the script, locked -/
theorem LawOk.called {P : Program} {w : World} {K : PySem.W.Frag} {mg mb : Str → Option Value} {k : Nat} {fa a : Addr} {sp : Sp} {z : Shared} {vs : List Value} {ns : List Int} (KI : K.In z.heap) (g1 : z.heap.Ns mainGlobals mg) (g2 : z.heap.Ns builtinsNs mb)
    (g3 : ∀ x : Str, x ≠ "__name__" → mb x = bootBuiltins x) (g4 : z.heap.NoLimit) (g5 : z.gens = #[]) (ha : z.heap.get? a = some { cls := .type "list", data := .seq vs.toArray }) (hi : IntsAre vs ns) (hl : ns.length ≤ sizeLine) (hr : Room k callerA)
    (F : ∀ base : Heap, K.In base → base.Ns mainGlobals mg → LawOk P w K mg base k fa sp) (hsp : ∀ H : Hp, SqL K H a (ns.map V.int) → sp [.ref a] H (fun v _ => v = .bl true) E0) :
    codeAny (model P w) callerA (.call (.ref fa) ⟨[.ref a], []⟩) (fun r s' => r = .ok (.ret (.bool true)) ∧ OldK z.heap s'.heap ∧ s'.os = z.os ∧ AllBare s'.gens) z := by
  have rv := vals_ints hi
  have lv := hi.length
  have main : ∀ H : Hp, (∀ b u, H b = some u → b = a ∧ K.lookup a = none ∧ ∃ ys, u = .frz { cls := .type "list", data := .seq vs.toArray } ys) → SqL K H a (ns.map V.int) → HOk P w H z.heap →
      codeAny (model P w) callerA (.call (.ref fa) ⟨[.ref a], []⟩) (fun r s' => r = .ok (.ret (.bool true)) ∧ OldK z.heap s'.heap ∧ s'.os = z.os ∧ AllBare s'.gens) z := by
    intro H hA hS hok
    have no : ∀ {b : Addr} {o : Obj}, z.heap.get? b = some o → (b = a → K.lookup a ≠ none ∨ ∃ es ep, o.data = .dict es ep) → H b = none := fun {b o} e d => by
      cases q : H b with
      | none => rfl
      | some u =>
        obtain ⟨e1, e2, _⟩ := hA b u q
        rcases d e1 with d1 | ⟨es, ep, d1⟩
        · exact absurd e2 d1
        · rw [e1] at e
          cases ha.symm.trans e
          cases d1
    have kb : K.In (hidT z.heap H) := fun b o e => hidT_get (KI b o e) (no (KI b o e) fun _ => .inl (by rw [← (by assumption : b = a), e]; simp))
    have nb : ∀ {b : Addr} {m : Str → Option Value}, z.heap.Ns b m → (hidT z.heap H).Ns b m := fun {b m} q => by
      obtain ⟨o, es, ep, e, d, r⟩ := q
      exact ⟨o, es, ep, hidT_get e (no e fun _ => .inr ⟨es, ep, d⟩), d, r⟩
    have z0 : Env0 P w K mg (hidT z.heap H) callerA [] z H := by
      refine ⟨rfl, ⟨kb, nb g1, ⟨mb, nb g2, g3⟩, ?_⟩, fun b o e => of_hidT e, Nat.le_of_eq (hidT_size _ _), trivial, fun b hb => absurd (show b ∈ ([] : List Addr) from hb) (by simp), hok, .of_eq g5⟩
      obtain ⟨mc, q1, q2⟩ := g4
      exact ⟨mc, nb q1, q2⟩
    refine codeAny_mono ((F _ kb (nb g1)).run callerA z H (.ref a) (.ref a) (fun v _ => v = .bl true) rfl hr z0 rfl (hsp H hS)) fun r s' h => ?_
    match r, h with
    | .error e, h => exact h.elim
    | .ok .next, h => exact h.elim
    | .ok .brk, h => exact h.elim
    | .ok .cont, h => exact h.elim
    | .ok (.ret u), ⟨v, H', os, bare, un, hok', r', q⟩ =>
      subst q
      obtain rfl : u = Value.bool true := r'
      refine ⟨rfl, OldK.of_keep fun b o e => ?_, os, bare⟩
      cases q : H b with
      | none => exact un.keep b o e q (fun y => absurd (show b ∈ ([] : List Addr) from y) (by simp)) (by simp)
      | some u =>
        obtain ⟨e1, _, ys, e2⟩ := hA b u q
        subst e2
        obtain ⟨y1, _⟩ := hok b _ q
        obtain ⟨y2, _⟩ := hok' b _ (un.frzs b _ ys q)
        cases e.symm.trans y1
        exact y2
  cases hk : K.lookup a with
  | some o =>
    cases (KI a o hk).symm.trans ha
    exact main (fun _ => none) (fun b u y => nomatch y) (.inr ⟨_, vs.toArray, _, hk, rfl, rfl, rfl, by rw [List.size_toArray, lv]; exact hl, by simpa using rv⟩) fun b u y => nomatch y
  | none =>
    have key : ∀ b u, (if b = a then some (HO.frz { cls := .type "list", data := .seq vs.toArray } (.lst (ns.map V.int))) else none) = some u → b = a ∧ u = .frz { cls := .type "list", data := .seq vs.toArray } (.lst (ns.map V.int)) := fun b u y => by
      by_cases hb : b = a
      · rw [if_pos hb] at y
        exact ⟨hb, (Option.some.inj y).symm⟩
      · rw [if_neg hb] at y
        cases y
    refine main (fun b => if b = a then some (.frz { cls := .type "list", data := .seq vs.toArray } (.lst (ns.map V.int))) else none) (fun b u y => ?_) (.inl (.inr ⟨_, if_pos rfl⟩)) fun b u y => ?_
    · obtain ⟨y1, y2⟩ := key b u y
      exact ⟨y1, hk, _, y2⟩
    · obtain ⟨y1, y2⟩ := key b u y
      subst y1 y2
      exact ⟨ha, by rw [List.length_map]; exact hl, vs, _, rv, ha⟩
theorem walk_law {l : PySem.W.OpenLaw} {n k : Nat} {q : Program} {loose : List Str} {XP : (Str → Option Value) → Heap → Prop} {YP : World → Heap → Prop} {d : DefRec} {K : Params → PySem.W.Frag} {sp : PySem.W.Frag → Sp} (hn : l.most = some n) (hn2 : n ≤ sizeLine)
    (hdf : d.params.defaults = []) (hr : Room k callerA) (hY : ∀ (w : World) (h : Heap), YP w h → (K w.params).In h)
    (F : ∀ (w : World) (mg : Str → Option Value) (fa : Addr) (h : Heap), (K w.params).In h → h.Ns mainGlobals mg → mg d.name = some (.ref fa) → ∀ base : Heap, (K w.params).In base → base.Ns mainGlobals mg → LawOk l.prog w (K w.params) mg base k fa (sp (K w.params)))
    (hsp : ∀ (K : PySem.W.Frag) (H : Hp) (a : Addr) (ns : List Int), ns.length ≤ n → SqL K H a (ns.map V.int) → sp K [.ref a] H (fun v _ => v = .bl true) E0) : PySem.W.WalkO q loose XP YP l.row.toRowW d [] (fun f vs => PySem.call f vs) := by
  refine Att.attach_call hn hdf fun w s₀ s₁ mg mb fa o pm cd doc a vs ns G Y ho hd hcd hmg hobj hints hlen hg => ?_
  exact LawOk.called (hY w _ Y) G.T.g G.T.b G.T.builtins G.T.nolimit hg hobj hints (Nat.le_trans hlen hn2) hr (F w mg fa _ (hY w _ Y) G.T.g hmg) fun H hS => hsp _ H a ns hlen hS
end L2

set_option pp.maxSteps 600
namespace K14
open PySem L2 PySem.Spec PyProof.Rows
section
variable {P : Program} {w : World} {K : PySem.W.Frag} {mg : Str → Option Value} {base : Heap}
/-- a class that is made with all its arguments given -/
structure Mkr (P : Program) (w : World) (K : PySem.W.Frag) (mg : Str → Option Value) (base : Heap) (n : Nat) (nm : Str) (C : Addr) (as ps : List Str) (sp : Sp) : Prop where
  ex : ∃ (f : Addr) (fd : FuncData), Mk K C f ∧ FnOk P w K mg base CX0 n f fd ps sp ∧ Binds K fd ps []
  cls : ClsA K mg nm C as
structure TestsMk (P : Program) (w : World) (K : PySem.W.Frag) (mg : Str → Option Value) (base : Heap) (p : Pkg) : Prop where
  W : Mkr P w K mg base 3 "Was" p.CW ["kind"] ["self", "kind"] (spWasI p.CW)
  O : Mkr P w K mg base 3 "OldBelow" p.CO ["number"] ["self", "number"] (spNumI p.CO)
  B : Mkr P w K mg base 3 "NewBelow" p.CB ["number"] ["self", "number"] (spNumI p.CB)
  N : Mkr P w K mg base 3 "Not" p.CN ["test"] ["self", "test"] (spNotI p)
  M : Mk00 K p.CM
  mM : mg "Moved" = some (.ref p.CM)
  T : Mk00 K p.CT
  mT : mg "Noted" = some (.ref p.CT)
structure RowsMk (P : Program) (w : World) (K : PySem.W.Frag) (mg : Str → Option Value) (base : Heap) (p : Pkg) : Prop where
  mI : Mkr P w K mg base 3 "If" p.CI ["test", "rows", "others"] ["self", "test", "rows", "others"] (spIfI K p)
  mA : Mkr P w K mg base 3 "Add" p.CA ["factor", "what", "total", "place"] ["self", "factor", "what", "total", "place"] (spAddI p.CA)
  mP : Mkr P w K mg base 3 "Put" p.CP ["note", "what"] ["self", "note", "what"] (spPutI p.CP)
  mK : Mkr P w K mg base 3 "Mark" p.CK ["place"] ["self", "place"] (spMarkI p.CK)
theorem ok_testOfAll {p : Pkg} (T : Txt mg) (TM : TestsMk P w K mg base p) (F : DefAt K mg "_law_test_of" s_law_test_of ["_law_test_here"]) : ∀ k : Nat, Has P w K mg base (7 + k) "_law_test_of" ["_law_test_here"] (spTestOf p k) := by
  obtain ⟨fW, dW, m1, g1, b1⟩ := TM.W.ex
  obtain ⟨fO, dO, m2, g2, b2⟩ := TM.O.ex
  obtain ⟨fB, dB, m3, g3, b3⟩ := TM.B.ex
  obtain ⟨fN, dN, m4, g4, b4⟩ := TM.N.ex
  intro k
  induction k with
  | zero =>
    have g0 : Has P w K mg base 6 "_law_test_of" ["_law_test_here"] (spTestOfK p 0) := F.has sc_law_test_of (fun vs H Q E h => h.elim) (fun f cdv A outer s H vs Q E hr h => h.elim)
    exact ok_testOfD (k := 0) (by omega) T TM.W.cls m1 g1 b1 TM.O.cls m2 g2 b2 TM.B.cls m3 g3 b3 TM.N.cls m4 g4 b4 TM.M TM.mM TM.T TM.mT g0 F
  | succ k ih => exact ok_testOfD (k := k + 1) (n := 7 + k) (by omega) T TM.W.cls m1 g1 b1 TM.O.cls m2 g2 b2 TM.B.cls m3 g3 b3 TM.N.cls m4 g4 b4 TM.M TM.mM TM.T TM.mT ih F
theorem ok_rowsOfAll {p : Pkg} (T : Txt mg) (RM : RowsMk P w K mg base p) (g_law_test_of : Has P w K mg base 9 "_law_test_of" ["_law_test_here"] (spTestOf p 2)) (FR : DefAt K mg "_law_row_of" s_law_row_of ["_law_row_here"]) (FS : DefAt K mg "_law_rows_of" s_law_rows_of ["_law_rows_here"]) :
    ∀ k : Nat, Has P w K mg base (11 + 2 * k) "_law_rows_of" ["_law_rows_here"] (spRowsOf K p k) := by
  obtain ⟨fW, dW, m1, g1, b1⟩ := RM.mI.ex
  obtain ⟨fO, dO, m2, g2, b2⟩ := RM.mA.ex
  obtain ⟨fB, dB, m3, g3, b3⟩ := RM.mP.ex
  obtain ⟨fN, dN, m4, g4, b4⟩ := RM.mK.ex
  intro k
  induction k with
  | zero =>
    have g0 : Has P w K mg base 9 "_law_rows_of" ["_law_rows_here"] (spRowsOfK K p 0) := FS.has sc_law_rows_of (fun vs H Q E h => h.elim) (fun f cdv A outer s H vs Q E hr h => h.elim)
    exact ok_rowsOfD (k := 0) (n := 10) (by omega) T (ok_rowOfD (k := 0) (n := 9) (by omega) T RM.mI.cls m1 g1 b1 RM.mA.cls m2 g2 b2 RM.mP.cls m3 g3 b3 RM.mK.cls m4 g4 b4 g_law_test_of g0 FR) FS
  | succ k ih => exact ok_rowsOfD (k := k + 1) (n := 11 + 2 * k + 1) (by omega) T (ok_rowOfD (k := k + 1) (n := 11 + 2 * k) (by omega) T RM.mI.cls m1 g1 b1 RM.mA.cls m2 g2 b2 RM.mP.cls m3 g3 b3 RM.mK.cls m4 g4 b4 g_law_test_of ih FR) FS
end
end K14

set_option pp.maxSteps 600
namespace K14
open PySem L2 PySem.Spec PyProof.Rows
theorem andV_go {ta tb : TE} {σ : L2.St} {H : Hp} {Q : VK} (h : ta σ H fun x H1 => ∃ c, x = .bl c ∧ if c = true then tb σ H1 Q else Q (.bl false) H1) : tAndV ta tb σ H Q := h
theorem cb_go {r : List V → Hp → VK → Prop} {ta : TA} {σ : L2.St} {H : Hp} {Q : VK} (h : ta σ H fun vs H1 => r vs H1 Q) : tCB r ta σ H Q := h
theorem orV_go {ta tb : TE} {σ : L2.St} {H : Hp} {Q : VK} (h : ta σ H fun x H1 => ∃ c, x = .bl c ∧ if c = true then Q (.bl true) H1 else tb σ H1 Q) : tOrV ta tb σ H Q := h
theorem strs_shapedT {l : List Str} (h : ∀ x ∈ l, PyData.strOk x = true) : SeqAt.shaped (.tuple (l.map PyData.str)) = true := by
  have := strs_shaped h
  have a := SeqAt.canLay_of_shaped this
  have b := SeqAt.depth_of_shaped this
  simp only [PyData.canLay0, PyData.depth] at a b
  show (PyData.canLay0 _ && decide (PyData.depth _ ≤ 64)) = true
  rw [Bool.and_eq_true]
  exact ⟨by simp only [PyData.canLay0]; exact a, decide_eq_true (by simp only [PyData.depth]; exact b)⟩
structure Sm (n b : Nat) (d : PyData) : Prop where
  show' : d.showable = true
  dict : d.hasDict = false
  deep : d.depth ≤ n
  short : d.leavesShort 2000 = true
  bulk : d.bulk ≤ b
  lay : d.canLay0 = true
theorem Sm.str {x : Str} (h : PyData.strOk x = true) (l : x.length ≤ 10) : Sm 0 10 (.str x) := by
  have h' : x.cps.all (fun c => decide (c < 0x110000)) = true := h
  rw [← Array.all_toList, List.all_eq_true] at h'
  refine ⟨rfl, rfl, Nat.le_refl _, ?_, l, by simp only [PyData.canLay0]; exact h⟩
  simp only [PyData.leavesShort, List.all_eq_true, decide_eq_true_eq]
  intro c hc
  have h1 : c < 0x110000 := of_decide_eq_true (h' c hc)
  exact Nat.lt_trans h1 (by decide)
theorem Sm.int {i : Int} (h : numOk i) : Sm 0 10 (.int i) := by
  refine ⟨by simp only [PyData.showable]; exact decide_eq_true h, rfl, Nat.le_refl _, ?_, Nat.zero_le _, rfl⟩
  simp only [PyData.leavesShort, decide_eq_true_eq]
  have := iS_len h
  have e : (PyData.shown (.int i)) = iS i := rfl
  first
    | (rw [e]; omega)
    | (show (iS i).length ≤ 2000; omega)
theorem Sm.bool (c : Bool) : Sm 0 10 (.bool c) := ⟨rfl, rfl, Nat.le_refl _, rfl, Nat.zero_le _, rfl⟩
theorem Sm.none : Sm 0 10 .none := ⟨rfl, rfl, Nat.le_refl _, rfl, Nat.zero_le _, rfl⟩
theorem Sm.mono {n m b c : Nat} {d : PyData} (h : Sm n b d) (hn : n ≤ m) (hb : b ≤ c) : Sm m c d := ⟨h.show', h.dict, Nat.le_trans h.deep hn, h.short, Nat.le_trans h.bulk hb, h.lay⟩
theorem sm_all {n b : Nat} : ∀ {ds : List PyData}, (∀ d ∈ ds, Sm n b d) → PyData.showableAll ds = true ∧ PyData.hasDictAll ds = false ∧ PyData.depthAll ds ≤ n ∧ PyData.leavesShortAll 2000 ds = true ∧ PyData.bulkAll ds ≤ (b + 1) * ds.length ∧ PyData.canLayAll0 ds = true
  | [], _ => ⟨rfl, rfl, Nat.zero_le _, rfl, Nat.zero_le _, rfl⟩
  | d :: ds, h => by
    have a := h d List.mem_cons_self
    obtain ⟨r1, r2, r3, r4, r5, r6⟩ := sm_all (ds := ds) fun x hx => h x (List.mem_cons_of_mem _ hx)
    refine ⟨by simp only [PyData.showableAll, a.show', r1, Bool.and_self], by simp only [PyData.hasDictAll, a.dict, r2, Bool.or_self], ?_, by simp only [PyData.leavesShortAll, a.short, r4, Bool.and_self], ?_, by simp only [PyData.canLayAll0, a.lay, r6, Bool.and_self]⟩
    · simp only [PyData.depthAll]
      have := a.deep
      omega
    · simp only [PyData.bulkAll, List.length_cons]
      have := a.bulk
      rw [Nat.mul_add]
      omega
theorem Sm.tup {n b : Nat} {ds : List PyData} (h : ∀ d ∈ ds, Sm n b d) : Sm (n + 1) ((b + 1) * ds.length) (.tuple ds) := by
  obtain ⟨r1, r2, r3, r4, r5, r6⟩ := sm_all h
  exact ⟨by simp only [PyData.showable]; exact r1, by simp only [PyData.hasDict]; exact r2, by simp only [PyData.depth]; omega, by simp only [PyData.leavesShort]; exact r4, by simp only [PyData.bulk]; exact r5, by simp only [PyData.canLay0]; exact r6⟩
theorem Sm.shaped {n b : Nat} {d : PyData} (h : Sm n b d) (hn : n ≤ 60) : SeqAt.shaped d = true := by
  show (d.canLay0 && decide (d.depth ≤ 64)) = true
  rw [h.lay, Bool.true_and]
  have := h.deep
  exact decide_eq_true (by omega)
theorem Sm.len {n b : Nat} {d : PyData} (h : Sm n b d) (hb : b ≤ 8000) : d.shown.length ≤ sizeLine := by
  have := PyData.shown_le_bulk 2000 (by decide) d h.short
  have hm : (2000 + 2) * d.bulk ≤ (2000 + 2) * 8000 := Nat.mul_le_mul_left _ (Nat.le_trans h.bulk hb)
  have q : (16018000 : Nat) ≤ sizeLine := by decide
  omega
/-- repr of such data -/
theorem Sm.repr {K : PySem.W.Frag} {n b : Nat} {d : PyData} {a : Addr} {H : Hp} {Q : VK} (h : Sm n b d) (hn : n ≤ 60) (hb : b ≤ 8000) (dp : Dp K H (.ref a) d) (q : Q (.str d.shown) H) : rRepr K [.ref a] H Q :=
  ⟨a, d, rfl, dp, h.show', h.dict, Nat.le_trans h.deep hn, h.len hb, q⟩
end K14
namespace L2
open PySem PySem.Spec PyProof.Rows
section
variable {X : Cx} {P : Program} {w : World} {K : PySem.W.Frag} {mg : Str → Option Value} {base : Heap} {k : Nat} {cls : List Addr} {sp : Addr → Sp}
theorem op_eqCK (e1 : X.prog = P) (e2 : X.w = w) (e3 : X.K = K) (e4 : X.mg = mg) (e5 : X.base = base) (Eq : EqCls P w K mg base k cls sp) (hr : Room k X.A) : OpR X (compareOp .Eq) (rEqC K cls sp false) := by
  subst e1 e2 e3 e4 e5; exact op_eqC Eq hr
theorem op_neCK (e1 : X.prog = P) (e2 : X.w = w) (e3 : X.K = K) (e4 : X.mg = mg) (e5 : X.base = base) (Eq : EqCls P w K mg base k cls sp) (hr : Room (k + 1) X.A) : OpR X (compareOp .NotEq) (rEqC K cls sp true) := by
  subst e1 e2 e3 e4 e5; exact op_neC Eq hr
theorem op_eqDK (e : X.K = K) (hr : Room 1 X.A) : OpR X (compareOp .Eq) (rEqD K) := by
  subst e; exact op_eqD hr.units
end
end L2
namespace K14
open PySem L2 PySem.Spec PyProof.Rows
/-- == of an instance of C that shows as S tells: with another of C by the texts, with anything else False -/
def spEqC (K : PySem.W.Frag) (cls : List Addr) (S : Hp → Addr → Str → Prop) (C : Addr) : Sp := fun vs H Q _ => ∃ (a dx : Addr) (fs : List (Str × V)) (z : Str) (y t : V) (ty : Value), vs = [.ref a, y] ∧ H a = some (.ins C dx fs) ∧ C ∈ cls ∧ S H a z ∧ TyX K H y ty ∧
  ((PySem.W.kitOne K ty (.ref C) = some false ∧ Q (.bl false) H) ∨ (PySem.W.kitOne K ty (.ref C) = some true ∧ ∃ b dy gs z', y = .ref b ∧ H b = some (.ins C dy gs) ∧ (∀ H', Same H H' → S H' b z') ∧ ∀ H', Same H H' → Q (.bl (decide (z = z'))) H'))
theorem eq_body {K : PySem.W.Frag} {cls : List Addr} {S : Hp → Addr → Str → Prop} {C : Addr} {x y : V} {H : Hp} {Q : VK} {D : Ends} {E : XK} (h : spEqC K cls S C [x, y] H Q E) (e : D.rt = Q) :
    tRet (tAndV (tCB (rIsi K) (tCons (tVar 1) (tCons (tC (.ref C)) tNil))) (tOp rEq (tCB (fun xs H Q => ∃ x, xs = [x] ∧ rStrC cls S x H Q) (tCons (tVar 0) tNil)) (tCB (fun xs H Q => ∃ x, xs = [x] ∧ rStrC cls S x H Q) (tCons (tVar 1) tNil)))) D [some x, some y] H := by
  subst e
  obtain ⟨a, dx, fs, z, y, t, ty, e, ha, mC, hz, hy, h⟩ := h
  cases e
  refine ret_go (andV_go ?_)
  rcases h with ⟨k, q⟩ | ⟨k, b, dy, gs, z', rfl, hb, hz', q⟩
  · exact ⟨_, rfl, _, _, ty, _, false, rfl, .own _, hy, k, _, rfl, iteSf (by decide) q⟩
  · refine ⟨_, rfl, _, _, ty, _, true, rfl, .own _, hy, k, _, rfl, iteSe rfl ?_⟩
    refine ⟨_, rfl, _, rfl, a, C, dx, fs, z, rfl, ha, mC, hz, fun H1 s1 => ?_⟩
    refine ⟨_, rfl, _, rfl, b, C, dy, gs, z', rfl, s1 _ _ hb, mC, hz' H1 s1, fun H2 s2 => ⟨rfl, ?_⟩⟩
    have := q H2 (Same.trans s1 s2)
    have e : decide (V.str z = V.str z') = decide (z = z') := decide_eq_decide.mpr ⟨fun w => by injection w, fun w => by rw [w]⟩
    rw [← e] at this
    exact this
/-- what == asks of a class of its own -/
structure SelfK (K : PySem.W.Frag) (C : Addr) : Prop where
  obj : ObjK K C
  nfT : PySem.W.notFirst K C (.type "tuple") = true
  nfS : PySem.W.notFirst K C (.type "str") = true
  kT : PySem.W.kitOne K (.type "tuple") (.ref C) = some false
  kS : PySem.W.kitOne K (.type "str") (.ref C) = some false
  kC : PySem.W.kitOne K (.ref C) (.ref C) = some true
section
variable {K : PySem.W.Frag} {cls : List Addr} {S : Hp → Addr → Str → Prop} {C a b dx dy : Addr} {fs gs : List (Str × V)} {z z' : Str} {H : Hp} {Q : VK}
theorem eq_own {n : Bool} (SK : SelfK K C) (ha : H a = some (.ins C dx fs)) (hb : H b = some (.ins C dy gs)) (mC : C ∈ cls) (hz : S H a z) (hz' : ∀ H', Same H H' → S H' b z') (q : ∀ H', Same H H' → Q (.bl (n != decide (z = z'))) H') : rEqC K cls (spEqC K cls S) n (.ref a) (.ref b) H Q :=
  ⟨a, C, dx, fs, rfl, ha, mC, .ins hb (by simp [PySem.W.notFirst]), ⟨a, dx, fs, z, .ref b, .non, .ref C, rfl, ha, mC, hz, .base (.ins hb SK.obj.cl SK.obj.ha SK.obj.hn SK.obj.htk SK.obj.hm), .inr ⟨SK.kC, b, dy, gs, z', rfl, hb, hz', fun H' s => ⟨_, rfl, q H' s⟩⟩⟩⟩
theorem eq_tup {n : Bool} {xs : List V} (SK : SelfK K C) (ha : H a = some (.ins C dx fs)) (hb : H b = some (.tup xs)) (mC : C ∈ cls) (hz : S H a z) (q : Q (.bl (n != false)) H) : rEqC K cls (spEqC K cls S) n (.ref a) (.ref b) H Q :=
  ⟨a, C, dx, fs, rfl, ha, mC, .tup hb SK.nfT, ⟨a, dx, fs, z, .ref b, .non, .type "tuple", rfl, ha, mC, hz, .base (.tup hb), .inl ⟨SK.kT, _, rfl, q⟩⟩⟩
theorem eq_str {n : Bool} {y : Str} (SK : SelfK K C) (ha : H a = some (.ins C dx fs)) (mC : C ∈ cls) (hz : S H a z) (q : Q (.bl (n != false)) H) : rEqC K cls (spEqC K cls S) n (.ref a) (.str y) H Q :=
  ⟨a, C, dx, fs, rfl, ha, mC, .str y SK.nfS, ⟨a, dx, fs, z, .str y, .non, .type "str", rfl, ha, mC, hz, .base (.str y), .inl ⟨SK.kS, _, rfl, q⟩⟩⟩
end
/-- [.. for y in xs], each a bool that is known -/
theorem bools_go {K : PySem.W.Frag} {tl el : TE} {σ : L2.St} {i : Nat} {r : Addr} {xs : List V} {bs : List Bool} {H : Hp} {Q : VK}
    (hw : ∀ x, wipe ((wipe σ [i]).set i (some x)) [i] = wipe σ [i]) (e : ∀ Q : VK, Q (.ref r) H → tl σ H Q) (hr : H r = some (.lst xs)) (lb : bs.length = xs.length) (ln : xs.length ≤ 1000)
    (f : ∀ (k : Nat) (y : V) (c : Bool) (H1 : Hp) (Q : VK), Same H H1 → xs[k]? = some y → bs[k]? = some c → (∀ H2, Same H1 H2 → Q (.bl c) H2) → el ((wipe σ [i]).set i (some y)) H1 Q)
    (q : ∀ H' D, Same H H' → H D = none → H' D = some (.lst (bs.map V.bl)) → Q (.ref D) H') :
    tLc (iList K tl) (gName i) tYes el [i] σ H Q := by
  have q1000 : (1000 : Nat) < sizeLine := by decide
  refine e _ ⟨r, rfl, ⟨_, SqL.of hr⟩, fun D hD => lc_it (walk_list (xs := xs)) (fun k H' => Same H H' ∧ H' D = some (.lst ((bs.take k).map V.bl))) ⟨(new_at hD).1, upd_same⟩ (fun k H' _ z => SqL.of (z.1 _ _ hr)) ?_ ?_⟩
  · rintro k y H1' H1 hk ⟨s1, hD1⟩ ⟨rfl, ey⟩
    have hkb : k < bs.length := by omega
    refine name_go ⟨hw _, ?_⟩
    unfold tYes
    refine iteSe rfl (f k y bs[k] _ _ s1 ey (List.getElem?_eq_getElem hkb) fun H2 s2 => ⟨_, s2 _ _ hD1, ?_, fun c o z => (upd_ne (ne_of_none z hD)).trans (s2 _ _ (s1 _ _ z)), ?_⟩)
    · rw [List.length_map, List.length_take]
      omega
    · rw [upd_same, ← List.take_append_getElem hkb, List.map_append]
      rfl
  · rintro H1 ⟨s1, hD1⟩
    rw [← lb, List.take_length] at hD1
    exact q H1 D s1 hD hD1
theorem bools_dp {K : PySem.W.Frag} {H : Hp} : ∀ bs : List Bool, DpAll K H (bs.map V.bl) (bs.map PyData.bool)
  | [] => .nil
  | b :: bs => .cons (.bl b) (bools_dp bs)
theorem bools_all : ∀ bs : List Bool, PyData.canLayAll0 (bs.map PyData.bool) = true ∧ PyData.depthAll (bs.map PyData.bool) = 0
  | [] => ⟨rfl, rfl⟩
  | b :: bs => by
    obtain ⟨h1, h2⟩ := bools_all bs
    refine ⟨?_, ?_⟩
    · simp only [List.map_cons, PyData.canLayAll0, PyData.canLay0, h1, Bool.and_self]
    · simp only [List.map_cons, PyData.depthAll, PyData.depth, h2, Nat.max_self]
theorem bools_lay (bs : List Bool) : PyData.canLay0 (.list (bs.map PyData.bool)) = true := by
  simp only [PyData.canLay0]
  exact (bools_all bs).1
theorem bools_shaped (bs : List Bool) : SeqAt.shaped (.list (bs.map PyData.bool)) = true := by
  show (PyData.canLay0 _ && decide (PyData.depth _ ≤ 64)) = true
  rw [Bool.and_eq_true]
  refine ⟨bools_lay bs, decide_eq_true ?_⟩
  simp only [PyData.depth, (bools_all bs).2]
  omega
/-- two lists of the same bools are not unlike -/
theorem bools_same {K : PySem.W.Frag} {bs : List Bool} {a b : Addr} {H : Hp} {Q : VK} (ha : H a = some (.lst (bs.map V.bl))) (hb : H b = some (.lst (bs.map V.bl))) (q : Q (.bl false) H) : rNeD K (.ref a) (.ref b) H Q := by
  refine ⟨.list (bs.map PyData.bool), .list (bs.map PyData.bool), .lst (SqL.of ha) (bools_dp bs), .lst (SqL.of hb) (bools_dp bs), bools_shaped bs, bools_shaped bs, ?_⟩
  rw [SeqAt.eqv_refl _ (bools_lay bs)]
  exact q
theorem op_notIn_seqK {X : Cx} {K : PySem.W.Frag} (e : X.K = K) : OpR X (compareOp .NotIn) (rIn K true) := by
  subst e; exact op_notIn_seq
/-- != of one text with itself -/
theorem ne_same {z : Str} {H : Hp} {Q : VK} (q : Q (.bl false) H) : rNe (.str z) (.str z) H Q := by
  refine ⟨rfl, ?_⟩
  have : (!decide (V.str z = V.str z)) = false := by simp
  rw [this]
  exact q
/-- what an or's first test is, where it does not hold -/
theorem neS_go {z : Str} {A B : Hp → Prop} {H : Hp} (h : B H) : rNe (.str z) (.str z) H fun v H => ∃ c, v = .bl c ∧ if c = true then A H else B H := ne_same ⟨_, rfl, iteSf rfl h⟩
theorem cons_okS {a : Str} {l : List Str} (h : PyData.strOk a = true) (g : ∀ s ∈ l, PyData.strOk s = true) : ∀ s ∈ a :: l, PyData.strOk s = true := fun s hs => by
  rcases List.mem_cons.mp hs with rfl | hs
  · exact h
  · exact g s hs
theorem nil_okS : ∀ s ∈ ([] : List Str), PyData.strOk s = true := fun _ h => nomatch h
theorem app_okS {a b : List Str} (h : ∀ s ∈ a, PyData.strOk s = true) (g : ∀ s ∈ b, PyData.strOk s = true) : ∀ s ∈ a ++ b, PyData.strOk s = true := fun s hs => by
  rcases List.mem_append.mp hs with hs | hs
  · exact h s hs
  · exact g s hs
theorem testW_okS {B : BookD} (ok : BkOk B) : ∀ {t : TestD}, okTest B t → ∀ s ∈ testW t, PyData.strOk s = true
  | .was k, h => cons_okS (by decide +kernel) (cons_okS (strOk_kind (okKind_of h ok)) nil_okS)
  | .cut o n, h => cons_okS (by cases o <;> decide +kernel) (cons_okS (by decide +kernel) (cons_okS (strOk_string _) nil_okS))
  | .moved, h => cons_okS (by decide +kernel) nil_okS
  | .noted, h => cons_okS (by decide +kernel) nil_okS
  | .not t, h => cons_okS (by decide +kernel) (testW_okS ok (t := t) h)
theorem line_okS {l : List Str} (h : ∀ s ∈ l, PyData.strOk s = true) : PyData.strOk (Txt.join " " l) = true := strOk_join (by decide +kernel) h
mutual
theorem rowLines_okS {B : BookD} (ok : BkOk B) : ∀ {r : RowD} {k : Nat}, okRow B r k → ∀ s ∈ rowLines r, PyData.strOk s = true
  | .ife t a b, k, h => by
    unfold okRow at h
    obtain ⟨k', _, h1, _, _, _, h5, h6⟩ := h
    unfold rowLines
    refine cons_okS (line_okS (cons_okS (by decide +kernel) (testW_okS ok h1))) (app_okS (rowsLines_okS ok h5) (app_okS ?_ (cons_okS (by decide +kernel) nil_okS)))
    cases b.isEmpty with
    | true => exact nil_okS
    | false => exact cons_okS (by decide +kernel) (rowsLines_okS ok h6)
  | .add f w t p, k, h => by
    unfold okRow at h
    unfold rowLines
    exact cons_okS (line_okS (cons_okS (by decide +kernel) (cons_okS (strOk_string _) (cons_okS (strOk_what h.2.2.1 ok) (cons_okS (strOk_name (ok.toks t (List.mem_append_left _ h.2.2.2.1))) (cons_okS (strOk_all h.2.2.2.2 (by decide +kernel)) nil_okS)))))) nil_okS
  | .put n w, k, h => by
    unfold okRow at h
    unfold rowLines
    exact cons_okS (line_okS (cons_okS (by decide +kernel) (cons_okS (strOk_name (ok.toks n (List.mem_append_right _ h.1))) (cons_okS (strOk_what h.2 ok) nil_okS)))) nil_okS
  | .mark p, k, h => by
    unfold okRow at h
    unfold rowLines
    exact cons_okS (line_okS (cons_okS (by decide +kernel) (cons_okS (strOk_all h (by decide +kernel)) nil_okS))) nil_okS
theorem rowsLines_okS {B : BookD} (ok : BkOk B) : ∀ {rs : List RowD} {k : Nat}, okRowL B rs k → ∀ s ∈ rowsLines rs, PyData.strOk s = true
  | [], k, h => by unfold rowsLines; exact nil_okS
  | r :: rs, k, h => by
    unfold okRowL at h
    unfold rowsLines
    exact app_okS (rowLines_okS ok h.1) (rowsLines_okS ok h.2)
end
theorem sum_le_join (sep : Str) : ∀ l : List Str, (l.map (·.length)).sum ≤ (Txt.join sep l).length
  | [] => Nat.zero_le _
  | [a] => by rw [join_one]; simp
  | a :: b :: r => by
    have := sum_le_join sep (b :: r)
    rw [join_cons, slen_app, slen_app, List.map_cons, List.sum_cons]
    omega
theorem make_go {C : Addr} {sp : Sp} {dvs : List V} {E : XK} {t : TA} {σ : L2.St} {H : Hp} {Q : VK} (h : t σ H fun vs H1 => ∀ x dx, H1 x = none → H1 dx = none → dx ≠ x → sp (.ref x :: (vs ++ dvs)) (upd (upd H1 dx (.own x)) x (.ins C dx [])) (fun v H2 => v = .non ∧ Q (.ref x) H2) E) : tMake C sp dvs E t σ H Q := h
end K14

set_option pp.maxSteps 600
namespace K14
open PySem L2 PySem.Spec PyProof.Rows
open TL
/-! ## texts of tests and rows: alike where the lines are, and then of one class -/
theorem fr_name {c : Nat} (hc : c = 10 ∨ c = 32) {s : Str} (h : nameB s = true) : c ∉ tl s := by
  unfold nameB at h
  have h3 : Txt.isalpha s = true := by
    have := (Bool.and_eq_true_iff.mp h).2
    have := (Bool.and_eq_true_iff.mp this).2
    exact (Bool.and_eq_true_iff.mp this).1
  unfold Txt.isalpha at h3
  have h4 : s.cps.all Unicode.isAlpha = true := (Bool.and_eq_true_iff.mp h3).2
  rw [← Array.all_toList, List.all_eq_true] at h4
  intro hm
  have := h4 c hm
  rcases hc with rfl | rfl <;> (revert this; decide +kernel)
theorem fr_int {c : Nat} (hc : c = 10 ∨ c = 32) (i : Int) : c ∉ tl (iS i) := by
  rcases hc with rfl | rfl
  · exact PyProof.Rows.int_text_free' 10 ⟨by decide, by decide⟩ i
  · exact PyProof.Rows.int_text_free' 32 ⟨by decide, by decide⟩ i
theorem fr_lit {c : Nat} (hc : c = 10 ∨ c = 32) {s : Str} (h : (tl s).all (fun d => decide (d ≠ 10 ∧ d ≠ 32)) = true) : c ∉ tl s := fun hm => by
  have := of_decide_eq_true (List.all_eq_true.mp h c hm)
  rcases hc with rfl | rfl
  · exact this.1 rfl
  · exact this.2 rfl
theorem fr_all {c : Nat} (hc : c = 10 ∨ c = 32) {L : List Str} {s : Str} (h : s ∈ L) (a : L.all (fun s => (tl s).all fun d => decide (d ≠ 10 ∧ d ≠ 32)) = true) : c ∉ tl s := fr_lit hc (List.all_eq_true.mp a s h)
theorem fr_cons {c : Nat} {a : Str} {l : List Str} (h : c ∉ tl a) (g : ∀ s ∈ l, c ∉ tl s) : ∀ s ∈ a :: l, c ∉ tl s := fun s hs => by
  rcases List.mem_cons.mp hs with rfl | hs
  · exact h
  · exact g s hs
theorem fr_nil {c : Nat} : ∀ s ∈ ([] : List Str), c ∉ tl s := fun _ h => nomatch h
theorem fr_app {c : Nat} {a b : List Str} (h : ∀ s ∈ a, c ∉ tl s) (g : ∀ s ∈ b, c ∉ tl s) : ∀ s ∈ a ++ b, c ∉ tl s := fun s hs => by
  rcases List.mem_append.mp hs with hs | hs
  · exact h s hs
  · exact g s hs
theorem fr_join {c : Nat} {sep : Str} (hs : c ∉ tl sep) : ∀ {l : List Str}, (∀ s ∈ l, c ∉ tl s) → c ∉ tl (Txt.join sep l)
  | [], _ => by intro h; cases h
  | [a], h => by rw [join_one]; exact h a List.mem_cons_self
  | a :: b :: r, h => by
    have ih := fr_join hs (l := b :: r) fun s z => h s (List.mem_cons_of_mem _ z)
    rw [join_cons, tl_append, tl_append]
    intro z
    rcases List.mem_append.mp z with z | z
    · rcases List.mem_append.mp z with z | z
      · exact h a List.mem_cons_self z
      · exact hs z
    · exact ih z
theorem join_inj {y : Str} {c : Nat} (ey : tl y = [c]) (hk : y.cps.all (· < 256) = true) {a b : List Str} (ha : a ≠ []) (hb : b ≠ []) (fa : ∀ p ∈ a, c ∉ tl p) (fb : ∀ p ∈ b, c ∉ tl p) (h : Txt.join y a = Txt.join y b) : a = b := by
  have e1 := split_join (y := y) (s := c) (S := []) ey hk ha fa
  have e2 := split_join (y := y) (s := c) (S := []) ey hk hb fb
  rw [h, e2] at e1
  exact e1.symm
section
variable {c : Nat} (hc : c = 10 ∨ c = 32) {B : BookD} (ok : BkOk B)
include hc ok
theorem fr_what {w : Str} (h : okWhat B w) : c ∉ tl w := by
  rcases h with h | h
  · exact fr_all hc h (by decide +kernel)
  · exact fr_name hc (ok.toks w (List.mem_append_right _ h))
theorem fr_test : ∀ {t : TestD}, okTest B t → ∀ s ∈ testW t, c ∉ tl s
  | .was k, h => by
    refine fr_cons (fr_lit hc (by decide +kernel)) (fr_cons ?_ fr_nil)
    rcases okKind_of h ok with rfl | h
    · exact fr_lit hc (by decide +kernel)
    · exact fr_name hc h
  | .cut o n, h => fr_cons (fr_lit hc (by cases o <;> decide +kernel)) (fr_cons (fr_lit hc (by decide +kernel)) (fr_cons (fr_int hc n) fr_nil))
  | .moved, h => fr_cons (fr_lit hc (by decide +kernel)) fr_nil
  | .noted, h => fr_cons (fr_lit hc (by decide +kernel)) fr_nil
  | .not t, h => fr_cons (fr_lit hc (by decide +kernel)) (fr_test (t := t) h)
end
/-- the words of a row's first line -/
def lineW : RowD → List Str
  | .ife t _ _ => "if" :: testW t
  | .add f w t p => ["add", iS f, w, t, p]
  | .put n w => ["put", n, w]
  | .mark p => ["mark", p]
theorem rowLines_head (r : RowD) : ∃ rest, rowLines r = Txt.join " " (lineW r) :: rest := by
  cases r <;> exact ⟨_, by unfold rowLines lineW; rfl⟩
theorem lineW_ne (r : RowD) : lineW r ≠ [] := by cases r <;> exact fun z => nomatch z
section
variable {c : Nat} (hc : c = 10 ∨ c = 32) {B : BookD} (ok : BkOk B)
include hc ok
theorem fr_line : ∀ {r : RowD} {k : Nat}, okRow B r k → ∀ s ∈ lineW r, c ∉ tl s
  | .ife t a b, k, h => by
    unfold okRow at h
    obtain ⟨k', _, h1, _⟩ := h
    exact fr_cons (fr_lit hc (by decide +kernel)) (fr_test hc ok h1)
  | .add f w t p, k, h => by
    unfold okRow at h
    exact fr_cons (fr_lit hc (by decide +kernel)) (fr_cons (fr_int hc f) (fr_cons (fr_what hc ok h.2.2.1) (fr_cons (fr_name hc (ok.toks t (List.mem_append_left _ h.2.2.2.1))) (fr_cons (fr_all hc h.2.2.2.2 (by decide +kernel)) fr_nil))))
  | .put n w, k, h => by
    unfold okRow at h
    exact fr_cons (fr_lit hc (by decide +kernel)) (fr_cons (fr_name hc (ok.toks n (List.mem_append_right _ h.1))) (fr_cons (fr_what hc ok h.2) fr_nil))
  | .mark p, k, h => by
    unfold okRow at h
    exact fr_cons (fr_lit hc (by decide +kernel)) (fr_cons (fr_all hc h (by decide +kernel)) fr_nil)
end
theorem sp10 : 10 ∉ tl (" " : Str) := by decide +kernel
mutual
theorem fr_lines {B : BookD} (ok : BkOk B) : ∀ {r : RowD} {k : Nat}, okRow B r k → ∀ s ∈ rowLines r, 10 ∉ tl s
  | .ife t a b, k, h => by
    have h0 := fr_line (.inl rfl) ok h
    unfold okRow at h
    obtain ⟨k', _, h1, _, _, _, h5, h6⟩ := h
    unfold rowLines
    refine fr_cons (fr_join sp10 h0) (fr_app (fr_linesL ok h5) (fr_app ?_ (fr_cons (fr_lit (.inl rfl) (by decide +kernel)) fr_nil)))
    cases b.isEmpty with
    | true => exact fr_nil
    | false => exact fr_cons (fr_lit (.inl rfl) (by decide +kernel)) (fr_linesL ok h6)
  | .add f w t p, k, h => by
    have h0 := fr_line (.inl rfl) ok h
    unfold rowLines
    exact fr_cons (fr_join sp10 h0) fr_nil
  | .put n w, k, h => by
    have h0 := fr_line (.inl rfl) ok h
    unfold rowLines
    exact fr_cons (fr_join sp10 h0) fr_nil
  | .mark p, k, h => by
    have h0 := fr_line (.inl rfl) ok h
    unfold rowLines
    exact fr_cons (fr_join sp10 h0) fr_nil
theorem fr_linesL {B : BookD} (ok : BkOk B) : ∀ {rs : List RowD} {k : Nat}, okRowL B rs k → ∀ s ∈ rowsLines rs, 10 ∉ tl s
  | [], k, h => by unfold rowsLines; exact fr_nil
  | r :: rs, k, h => by
    unfold okRowL at h
    unfold rowsLines
    exact fr_app (fr_lines ok h.1) (fr_linesL ok h.2)
end
theorem rowS_inj {B : BookD} (ok : BkOk B) {r r' : RowD} {k k' : Nat} (h : okRow B r k) (h' : okRow B r' k') (e : rowS r = rowS r') : rowLines r = rowLines r' :=
  join_inj (c := 10) (by decide +kernel) (by decide +kernel) (rowLines_ne r) (rowLines_ne r') (fr_lines ok h) (fr_lines ok h') e
theorem row_cls {B : BookD} (ok : BkOk B) {p : Pkg} {r r' : RowD} {k k' : Nat} (h : okRow B r k) (h' : okRow B r' k') (e : rowS r = rowS r') : clsR p r = clsR p r' := by
  have e1 := rowS_inj ok h h' e
  obtain ⟨q, eq⟩ := rowLines_head r
  obtain ⟨q', eq'⟩ := rowLines_head r'
  rw [eq, eq'] at e1
  injection e1 with e2 _
  have e3 := join_inj (c := 32) (by decide +kernel) (by decide +kernel) (lineW_ne r) (lineW_ne r') (fr_line (.inr rfl) ok h) (fr_line (.inr rfl) ok h') e2
  have hd : (lineW r).head? = (lineW r').head? := by rw [e3]
  cases r <;> cases r' <;> first | rfl | (exfalso; revert hd; unfold lineW; simp only [List.head?_cons, Option.some.injEq]; decide +kernel)
theorem testS_inj {B : BookD} (ok : BkOk B) {t t' : TestD} (h : okTest B t) (h' : okTest B t') (e : testS t = testS t') : testW t = testW t' :=
  join_inj (c := 32) (by decide +kernel) (by decide +kernel) (testW_ne t) (testW_ne t') (fr_test (.inr rfl) ok h) (fr_test (.inr rfl) ok h') e
theorem test_cls {B : BookD} (ok : BkOk B) {p : Pkg} {t t' : TestD} (h : okTest B t) (h' : okTest B t') (e : testS t = testS t') : clsT p t = clsT p t' := by
  have e1 := testS_inj ok h h' e
  have hd : (testW t).head? = (testW t').head? := by rw [e1]
  cases t with
  | cut o n => cases o <;> cases t' with
    | cut o' n' => cases o' <;> first | rfl | (exfalso; revert hd; unfold testW; simp only [List.head?_cons, Option.some.injEq]; decide +kernel)
    | _ => exfalso; revert hd; unfold testW; simp only [List.head?_cons, Option.some.injEq]; decide +kernel
  | _ => cases t' with
    | cut o' n' => cases o' <;> (exfalso; revert hd; unfold testW; simp only [List.head?_cons, Option.some.injEq]; decide +kernel)
    | _ => first | rfl | (exfalso; revert hd; unfold testW; simp only [List.head?_cons, Option.some.injEq]; decide +kernel)
/-! ### compared -/
/-- what == asks of two unlike classes -/
structure OtherK (K : PySem.W.Frag) (C D : Addr) : Prop where
  nf : PySem.W.notFirst K C (.ref D) = true
  k : PySem.W.kitOne K (.ref D) (.ref C) = some false
theorem eq_other {K : PySem.W.Frag} {cls : List Addr} {S : Hp → Addr → Str → Prop} {C D a b dx dy : Addr} {fs gs : List (Str × V)} {z : Str} {H : Hp} {Q : VK} {n : Bool} (OK : OtherK K C D) (OD : ObjK K D) (ha : H a = some (.ins C dx fs)) (hb : H b = some (.ins D dy gs)) (mC : C ∈ cls) (hz : S H a z) (q : Q (.bl (n != false)) H) : rEqC K cls (spEqC K cls S) n (.ref a) (.ref b) H Q :=
  ⟨a, C, dx, fs, rfl, ha, mC, .ins hb OK.nf, ⟨a, dx, fs, z, .ref b, .non, .ref D, rfl, ha, mC, hz, .base (.ins hb OD.cl OD.ha OD.hn OD.htk OD.hm), .inl ⟨OK.k, _, rfl, q⟩⟩⟩
structure CmpK (K : PySem.W.Frag) (p : Pkg) : Prop where
  self : ∀ C ∈ p.tests ++ p.rows, SelfK K C
  other : ∀ C ∈ p.tests ++ p.rows, ∀ D ∈ p.tests ++ p.rows, C ≠ D → OtherK K C D
theorem row_cmp {K : PySem.W.Frag} {p : Pkg} (CK : CmpK K p) {B : BookD} (bok : BkOk B) {n : Bool} {H : Hp} {r r' : RowD} {x y : V} {k k' : Nat} (ok : okRow B r k) (ok' : okRow B r' k') (o : okR r 3) (o' : okR r' 3) (hx : RowOb K p H r x) (hy : RowOb K p H r' y) {Q : VK} (q : ∀ H', Same H H' → Q (.bl (n != decide (rowS r = rowS r'))) H') : rEqC K p.rows (spEqC K p.rows (RowSh K p 3)) n x y H Q := by
  obtain ⟨a, C, dx, fs, rfl, ha, mC⟩ := hx.cls
  obtain ⟨b, D, dy, gs, rfl, hb, mD⟩ := hy.cls
  have e1 := hx.at' ha
  have e2 := hy.at' hb
  have mC' := List.mem_append_right p.tests mC
  have mD' := List.mem_append_right p.tests mD
  by_cases hcd : C = D
  · subst hcd
    exact eq_own (CK.self C mC') ha hb mC ⟨r, hx, o, rfl⟩ (fun H' s => ⟨r', hy.kp (ObKp.of s), o', rfl⟩) q
  · refine eq_other (CK.other C mC' D mD' hcd) (CK.self D mD').obj ha hb mC ⟨r, hx, o, rfl⟩ ?_
    have ne : rowS r ≠ rowS r' := fun e => hcd (by rw [← e1, ← e2]; exact row_cls bok ok ok' e)
    have := q H (Same.refl H)
    rw [decide_eq_false ne] at this
    exact this
theorem test_cmp {K : PySem.W.Frag} {p : Pkg} (CK : CmpK K p) {B : BookD} (bok : BkOk B) {n : Bool} {H : Hp} {t t' : TestD} {x y : V} (ok : okTest B t) (ok' : okTest B t') (d : tdep t ≤ 2) (d' : tdep t' ≤ 2) (hx : TestOb p H x t) (hy : TestOb p H y t') {Q : VK} (q : ∀ H', Same H H' → Q (.bl (n != decide (testS t = testS t'))) H') : rEqC K p.tests (spEqC K p.tests (TestSh p 2)) n x y H Q := by
  obtain ⟨a, C, dx, fs, rfl, ha, mC⟩ := hx.cls
  obtain ⟨b, D, dy, gs, rfl, hb, mD⟩ := hy.cls
  have e1 := hx.at' ha
  have e2 := hy.at' hb
  have mC' := List.mem_append_left p.rows mC
  have mD' := List.mem_append_left p.rows mD
  by_cases hcd : C = D
  · subst hcd
    exact eq_own (CK.self C mC') ha hb mC ⟨t, hx, okT_of bok ok, d, rfl⟩ (fun H' s => ⟨t', hy.kp (ObKp.of s), okT_of bok ok', d', rfl⟩) q
  · refine eq_other (CK.other C mC' D mD' hcd) (CK.self D mD').obj ha hb mC ⟨t, hx, okT_of bok ok, d, rfl⟩ ?_
    have ne : testS t ≠ testS t' := fun e => hcd (by rw [← e1, ← e2]; exact test_cls bok ok ok' e)
    have := q H (Same.refl H)
    rw [decide_eq_false ne] at this
    exact this
theorem strs_eqv2 : ∀ l m : List Str, PyData.eqv (.list (l.map PyData.str)) (.list (m.map PyData.str)) = decide (l = m) := by
  have h : ∀ l m : List Str, PyData.eqvAll (l.map PyData.str) (m.map PyData.str) = decide (l = m) := by
    intro l
    induction l with
    | nil => intro m; cases m <;> simp [PyData.eqvAll]
    | cons x l ih =>
      intro m
      cases m with
      | nil => simp [PyData.eqvAll]
      | cons y m =>
        simp only [List.map_cons, PyData.eqvAll, PyData.eqv, ih m, List.cons.injEq]
        by_cases hx : x = y
        · subst hx; simp
        · simp [hx]
  intro l m
  simp only [PyData.eqv]
  exact h l m
section
variable {P : Program} {w : World} {K : PySem.W.Frag} {mg : Str → Option Value} {base : Heap}
abbrev s_Was_eq : Stmt := inClass (top 15) 1
abbrev n_Was_eq : List Str := ["self", "other"]
theorem sc_Was_eq : FnScope n_Was_eq ["self", "other"] (defScope s_Was_eq) := ⟨rfl, rfl, rfl, by decide +kernel, rfl, by decide +kernel, by decide +kernel⟩
theorem ok_wasQ {cls : List Addr} {S : Hp → Addr → Str → Prop} {C n : Nat} {as : List Str} {fI : Addr} {fd : FuncData} (T : Txt mg) (CQ : ClsA K mg "Was" C as) (Sh : Shows P w K mg base n cls S) (F : Fun K "__eq__" "Was.__eq__" s_Was_eq fI fd) : FnOk P w K mg base CX0 (n + 3) fI fd ["self", "other"] (spEqC K cls S C) := by
  refine F.ok sc_Was_eq (fun vs H Q E h => ?_) (fun cdv A outer s H vs Q E hr h => ?_)
  · obtain ⟨a, dx, fs, z, y, t, ty, rfl, _⟩ := h
    rfl
  · obtain ⟨x, y, rfl⟩ : ∃ x y, vs = [x, y] := by
      obtain ⟨a, dx, fs, z, y, t, ty, rfl, _⟩ := h
      exact ⟨_, _, rfl⟩
    refine ⟨_, (pss_one (ps_ret (pe_and (pe_callB (call_isi_in (K := K) rfl) (by rfl) T.z_isinstance (by decide +kernel) (pa_cons (pv 1) (pa_cons (pe_glob (v := .ref C) rfl CQ.m rfl) pa_nil))) (pe_one (pe_cmpR op_eq (pe_callTy (call_strCK rfl rfl rfl rfl rfl Sh (hr.mono (by omega))) (by rfl) T.z_str (by decide +kernel) (pa_cons (pv 0) pa_nil)) (pe_callTy (call_strCK rfl rfl rfl rfl rfl Sh (hr.mono (by omega))) (by rfl) T.z_str (by decide +kernel) (pa_cons (pv 1) pa_nil)) (nomark _)))))), ?_⟩
    exact eq_body h rfl
abbrev s_OldBelow_eq : Stmt := inClass (top 16) 1
abbrev n_OldBelow_eq : List Str := ["self", "other"]
theorem sc_OldBelow_eq : FnScope n_OldBelow_eq ["self", "other"] (defScope s_OldBelow_eq) := ⟨rfl, rfl, rfl, by decide +kernel, rfl, by decide +kernel, by decide +kernel⟩
theorem ok_oldBelowQ {cls : List Addr} {S : Hp → Addr → Str → Prop} {C n : Nat} {as : List Str} {fI : Addr} {fd : FuncData} (T : Txt mg) (CQ : ClsA K mg "OldBelow" C as) (Sh : Shows P w K mg base n cls S) (F : Fun K "__eq__" "OldBelow.__eq__" s_OldBelow_eq fI fd) : FnOk P w K mg base CX0 (n + 3) fI fd ["self", "other"] (spEqC K cls S C) := by
  refine F.ok sc_OldBelow_eq (fun vs H Q E h => ?_) (fun cdv A outer s H vs Q E hr h => ?_)
  · obtain ⟨a, dx, fs, z, y, t, ty, rfl, _⟩ := h
    rfl
  · obtain ⟨x, y, rfl⟩ : ∃ x y, vs = [x, y] := by
      obtain ⟨a, dx, fs, z, y, t, ty, rfl, _⟩ := h
      exact ⟨_, _, rfl⟩
    refine ⟨_, (pss_one (ps_ret (pe_and (pe_callB (call_isi_in (K := K) rfl) (by rfl) T.z_isinstance (by decide +kernel) (pa_cons (pv 1) (pa_cons (pe_glob (v := .ref C) rfl CQ.m rfl) pa_nil))) (pe_one (pe_cmpR op_eq (pe_callTy (call_strCK rfl rfl rfl rfl rfl Sh (hr.mono (by omega))) (by rfl) T.z_str (by decide +kernel) (pa_cons (pv 0) pa_nil)) (pe_callTy (call_strCK rfl rfl rfl rfl rfl Sh (hr.mono (by omega))) (by rfl) T.z_str (by decide +kernel) (pa_cons (pv 1) pa_nil)) (nomark _)))))), ?_⟩
    exact eq_body h rfl
abbrev s_NewBelow_eq : Stmt := inClass (top 17) 1
abbrev n_NewBelow_eq : List Str := ["self", "other"]
theorem sc_NewBelow_eq : FnScope n_NewBelow_eq ["self", "other"] (defScope s_NewBelow_eq) := ⟨rfl, rfl, rfl, by decide +kernel, rfl, by decide +kernel, by decide +kernel⟩
theorem ok_newBelowQ {cls : List Addr} {S : Hp → Addr → Str → Prop} {C n : Nat} {as : List Str} {fI : Addr} {fd : FuncData} (T : Txt mg) (CQ : ClsA K mg "NewBelow" C as) (Sh : Shows P w K mg base n cls S) (F : Fun K "__eq__" "NewBelow.__eq__" s_NewBelow_eq fI fd) : FnOk P w K mg base CX0 (n + 3) fI fd ["self", "other"] (spEqC K cls S C) := by
  refine F.ok sc_NewBelow_eq (fun vs H Q E h => ?_) (fun cdv A outer s H vs Q E hr h => ?_)
  · obtain ⟨a, dx, fs, z, y, t, ty, rfl, _⟩ := h
    rfl
  · obtain ⟨x, y, rfl⟩ : ∃ x y, vs = [x, y] := by
      obtain ⟨a, dx, fs, z, y, t, ty, rfl, _⟩ := h
      exact ⟨_, _, rfl⟩
    refine ⟨_, (pss_one (ps_ret (pe_and (pe_callB (call_isi_in (K := K) rfl) (by rfl) T.z_isinstance (by decide +kernel) (pa_cons (pv 1) (pa_cons (pe_glob (v := .ref C) rfl CQ.m rfl) pa_nil))) (pe_one (pe_cmpR op_eq (pe_callTy (call_strCK rfl rfl rfl rfl rfl Sh (hr.mono (by omega))) (by rfl) T.z_str (by decide +kernel) (pa_cons (pv 0) pa_nil)) (pe_callTy (call_strCK rfl rfl rfl rfl rfl Sh (hr.mono (by omega))) (by rfl) T.z_str (by decide +kernel) (pa_cons (pv 1) pa_nil)) (nomark _)))))), ?_⟩
    exact eq_body h rfl
abbrev s_Moved_eq : Stmt := inClass (top 18) 0
abbrev n_Moved_eq : List Str := ["self", "other"]
theorem sc_Moved_eq : FnScope n_Moved_eq ["self", "other"] (defScope s_Moved_eq) := ⟨rfl, rfl, rfl, by decide +kernel, rfl, by decide +kernel, by decide +kernel⟩
theorem ok_movedQ {cls : List Addr} {S : Hp → Addr → Str → Prop} {C n : Nat} {as : List Str} {fI : Addr} {fd : FuncData} (T : Txt mg) (CQ : ClsA K mg "Moved" C as) (Sh : Shows P w K mg base n cls S) (F : Fun K "__eq__" "Moved.__eq__" s_Moved_eq fI fd) : FnOk P w K mg base CX0 (n + 3) fI fd ["self", "other"] (spEqC K cls S C) := by
  refine F.ok sc_Moved_eq (fun vs H Q E h => ?_) (fun cdv A outer s H vs Q E hr h => ?_)
  · obtain ⟨a, dx, fs, z, y, t, ty, rfl, _⟩ := h
    rfl
  · obtain ⟨x, y, rfl⟩ : ∃ x y, vs = [x, y] := by
      obtain ⟨a, dx, fs, z, y, t, ty, rfl, _⟩ := h
      exact ⟨_, _, rfl⟩
    refine ⟨_, (pss_one (ps_ret (pe_and (pe_callB (call_isi_in (K := K) rfl) (by rfl) T.z_isinstance (by decide +kernel) (pa_cons (pv 1) (pa_cons (pe_glob (v := .ref C) rfl CQ.m rfl) pa_nil))) (pe_one (pe_cmpR op_eq (pe_callTy (call_strCK rfl rfl rfl rfl rfl Sh (hr.mono (by omega))) (by rfl) T.z_str (by decide +kernel) (pa_cons (pv 0) pa_nil)) (pe_callTy (call_strCK rfl rfl rfl rfl rfl Sh (hr.mono (by omega))) (by rfl) T.z_str (by decide +kernel) (pa_cons (pv 1) pa_nil)) (nomark _)))))), ?_⟩
    exact eq_body h rfl
abbrev s_Noted_eq : Stmt := inClass (top 19) 0
abbrev n_Noted_eq : List Str := ["self", "other"]
theorem sc_Noted_eq : FnScope n_Noted_eq ["self", "other"] (defScope s_Noted_eq) := ⟨rfl, rfl, rfl, by decide +kernel, rfl, by decide +kernel, by decide +kernel⟩
theorem ok_notedQ {cls : List Addr} {S : Hp → Addr → Str → Prop} {C n : Nat} {as : List Str} {fI : Addr} {fd : FuncData} (T : Txt mg) (CQ : ClsA K mg "Noted" C as) (Sh : Shows P w K mg base n cls S) (F : Fun K "__eq__" "Noted.__eq__" s_Noted_eq fI fd) : FnOk P w K mg base CX0 (n + 3) fI fd ["self", "other"] (spEqC K cls S C) := by
  refine F.ok sc_Noted_eq (fun vs H Q E h => ?_) (fun cdv A outer s H vs Q E hr h => ?_)
  · obtain ⟨a, dx, fs, z, y, t, ty, rfl, _⟩ := h
    rfl
  · obtain ⟨x, y, rfl⟩ : ∃ x y, vs = [x, y] := by
      obtain ⟨a, dx, fs, z, y, t, ty, rfl, _⟩ := h
      exact ⟨_, _, rfl⟩
    refine ⟨_, (pss_one (ps_ret (pe_and (pe_callB (call_isi_in (K := K) rfl) (by rfl) T.z_isinstance (by decide +kernel) (pa_cons (pv 1) (pa_cons (pe_glob (v := .ref C) rfl CQ.m rfl) pa_nil))) (pe_one (pe_cmpR op_eq (pe_callTy (call_strCK rfl rfl rfl rfl rfl Sh (hr.mono (by omega))) (by rfl) T.z_str (by decide +kernel) (pa_cons (pv 0) pa_nil)) (pe_callTy (call_strCK rfl rfl rfl rfl rfl Sh (hr.mono (by omega))) (by rfl) T.z_str (by decide +kernel) (pa_cons (pv 1) pa_nil)) (nomark _)))))), ?_⟩
    exact eq_body h rfl
abbrev s_Not_eq : Stmt := inClass (top 20) 1
abbrev n_Not_eq : List Str := ["self", "other"]
theorem sc_Not_eq : FnScope n_Not_eq ["self", "other"] (defScope s_Not_eq) := ⟨rfl, rfl, rfl, by decide +kernel, rfl, by decide +kernel, by decide +kernel⟩
theorem ok_notQ {cls : List Addr} {S : Hp → Addr → Str → Prop} {C n : Nat} {as : List Str} {fI : Addr} {fd : FuncData} (T : Txt mg) (CQ : ClsA K mg "Not" C as) (Sh : Shows P w K mg base n cls S) (F : Fun K "__eq__" "Not.__eq__" s_Not_eq fI fd) : FnOk P w K mg base CX0 (n + 3) fI fd ["self", "other"] (spEqC K cls S C) := by
  refine F.ok sc_Not_eq (fun vs H Q E h => ?_) (fun cdv A outer s H vs Q E hr h => ?_)
  · obtain ⟨a, dx, fs, z, y, t, ty, rfl, _⟩ := h
    rfl
  · obtain ⟨x, y, rfl⟩ : ∃ x y, vs = [x, y] := by
      obtain ⟨a, dx, fs, z, y, t, ty, rfl, _⟩ := h
      exact ⟨_, _, rfl⟩
    refine ⟨_, (pss_one (ps_ret (pe_and (pe_callB (call_isi_in (K := K) rfl) (by rfl) T.z_isinstance (by decide +kernel) (pa_cons (pv 1) (pa_cons (pe_glob (v := .ref C) rfl CQ.m rfl) pa_nil))) (pe_one (pe_cmpR op_eq (pe_callTy (call_strCK rfl rfl rfl rfl rfl Sh (hr.mono (by omega))) (by rfl) T.z_str (by decide +kernel) (pa_cons (pv 0) pa_nil)) (pe_callTy (call_strCK rfl rfl rfl rfl rfl Sh (hr.mono (by omega))) (by rfl) T.z_str (by decide +kernel) (pa_cons (pv 1) pa_nil)) (nomark _)))))), ?_⟩
    exact eq_body h rfl
abbrev s_Add_eq : Stmt := inClass (top 22) 1
abbrev n_Add_eq : List Str := ["self", "other"]
theorem sc_Add_eq : FnScope n_Add_eq ["self", "other"] (defScope s_Add_eq) := ⟨rfl, rfl, rfl, by decide +kernel, rfl, by decide +kernel, by decide +kernel⟩
theorem ok_addQ {cls : List Addr} {S : Hp → Addr → Str → Prop} {C n : Nat} {as : List Str} {fI : Addr} {fd : FuncData} (T : Txt mg) (CQ : ClsA K mg "Add" C as) (Sh : Shows P w K mg base n cls S) (F : Fun K "__eq__" "Add.__eq__" s_Add_eq fI fd) : FnOk P w K mg base CX0 (n + 3) fI fd ["self", "other"] (spEqC K cls S C) := by
  refine F.ok sc_Add_eq (fun vs H Q E h => ?_) (fun cdv A outer s H vs Q E hr h => ?_)
  · obtain ⟨a, dx, fs, z, y, t, ty, rfl, _⟩ := h
    rfl
  · obtain ⟨x, y, rfl⟩ : ∃ x y, vs = [x, y] := by
      obtain ⟨a, dx, fs, z, y, t, ty, rfl, _⟩ := h
      exact ⟨_, _, rfl⟩
    refine ⟨_, (pss_one (ps_ret (pe_and (pe_callB (call_isi_in (K := K) rfl) (by rfl) T.z_isinstance (by decide +kernel) (pa_cons (pv 1) (pa_cons (pe_glob (v := .ref C) rfl CQ.m rfl) pa_nil))) (pe_one (pe_cmpR op_eq (pe_callTy (call_strCK rfl rfl rfl rfl rfl Sh (hr.mono (by omega))) (by rfl) T.z_str (by decide +kernel) (pa_cons (pv 0) pa_nil)) (pe_callTy (call_strCK rfl rfl rfl rfl rfl Sh (hr.mono (by omega))) (by rfl) T.z_str (by decide +kernel) (pa_cons (pv 1) pa_nil)) (nomark _)))))), ?_⟩
    exact eq_body h rfl
abbrev s_Put_eq : Stmt := inClass (top 23) 1
abbrev n_Put_eq : List Str := ["self", "other"]
theorem sc_Put_eq : FnScope n_Put_eq ["self", "other"] (defScope s_Put_eq) := ⟨rfl, rfl, rfl, by decide +kernel, rfl, by decide +kernel, by decide +kernel⟩
theorem ok_putQ {cls : List Addr} {S : Hp → Addr → Str → Prop} {C n : Nat} {as : List Str} {fI : Addr} {fd : FuncData} (T : Txt mg) (CQ : ClsA K mg "Put" C as) (Sh : Shows P w K mg base n cls S) (F : Fun K "__eq__" "Put.__eq__" s_Put_eq fI fd) : FnOk P w K mg base CX0 (n + 3) fI fd ["self", "other"] (spEqC K cls S C) := by
  refine F.ok sc_Put_eq (fun vs H Q E h => ?_) (fun cdv A outer s H vs Q E hr h => ?_)
  · obtain ⟨a, dx, fs, z, y, t, ty, rfl, _⟩ := h
    rfl
  · obtain ⟨x, y, rfl⟩ : ∃ x y, vs = [x, y] := by
      obtain ⟨a, dx, fs, z, y, t, ty, rfl, _⟩ := h
      exact ⟨_, _, rfl⟩
    refine ⟨_, (pss_one (ps_ret (pe_and (pe_callB (call_isi_in (K := K) rfl) (by rfl) T.z_isinstance (by decide +kernel) (pa_cons (pv 1) (pa_cons (pe_glob (v := .ref C) rfl CQ.m rfl) pa_nil))) (pe_one (pe_cmpR op_eq (pe_callTy (call_strCK rfl rfl rfl rfl rfl Sh (hr.mono (by omega))) (by rfl) T.z_str (by decide +kernel) (pa_cons (pv 0) pa_nil)) (pe_callTy (call_strCK rfl rfl rfl rfl rfl Sh (hr.mono (by omega))) (by rfl) T.z_str (by decide +kernel) (pa_cons (pv 1) pa_nil)) (nomark _)))))), ?_⟩
    exact eq_body h rfl
abbrev s_Mark_eq : Stmt := inClass (top 24) 1
abbrev n_Mark_eq : List Str := ["self", "other"]
theorem sc_Mark_eq : FnScope n_Mark_eq ["self", "other"] (defScope s_Mark_eq) := ⟨rfl, rfl, rfl, by decide +kernel, rfl, by decide +kernel, by decide +kernel⟩
theorem ok_markQ {cls : List Addr} {S : Hp → Addr → Str → Prop} {C n : Nat} {as : List Str} {fI : Addr} {fd : FuncData} (T : Txt mg) (CQ : ClsA K mg "Mark" C as) (Sh : Shows P w K mg base n cls S) (F : Fun K "__eq__" "Mark.__eq__" s_Mark_eq fI fd) : FnOk P w K mg base CX0 (n + 3) fI fd ["self", "other"] (spEqC K cls S C) := by
  refine F.ok sc_Mark_eq (fun vs H Q E h => ?_) (fun cdv A outer s H vs Q E hr h => ?_)
  · obtain ⟨a, dx, fs, z, y, t, ty, rfl, _⟩ := h
    rfl
  · obtain ⟨x, y, rfl⟩ : ∃ x y, vs = [x, y] := by
      obtain ⟨a, dx, fs, z, y, t, ty, rfl, _⟩ := h
      exact ⟨_, _, rfl⟩
    refine ⟨_, (pss_one (ps_ret (pe_and (pe_callB (call_isi_in (K := K) rfl) (by rfl) T.z_isinstance (by decide +kernel) (pa_cons (pv 1) (pa_cons (pe_glob (v := .ref C) rfl CQ.m rfl) pa_nil))) (pe_one (pe_cmpR op_eq (pe_callTy (call_strCK rfl rfl rfl rfl rfl Sh (hr.mono (by omega))) (by rfl) T.z_str (by decide +kernel) (pa_cons (pv 0) pa_nil)) (pe_callTy (call_strCK rfl rfl rfl rfl rfl Sh (hr.mono (by omega))) (by rfl) T.z_str (by decide +kernel) (pa_cons (pv 1) pa_nil)) (nomark _)))))), ?_⟩
    exact eq_body h rfl
abbrev s_If_eq : Stmt := inClass (top 25) 1
abbrev n_If_eq : List Str := ["self", "other"]
theorem sc_If_eq : FnScope n_If_eq ["self", "other"] (defScope s_If_eq) := ⟨rfl, rfl, rfl, by decide +kernel, rfl, by decide +kernel, by decide +kernel⟩
theorem ok_ifQ {cls : List Addr} {S : Hp → Addr → Str → Prop} {C n : Nat} {as : List Str} {fI : Addr} {fd : FuncData} (T : Txt mg) (CQ : ClsA K mg "If" C as) (Sh : Shows P w K mg base n cls S) (F : Fun K "__eq__" "If.__eq__" s_If_eq fI fd) : FnOk P w K mg base CX0 (n + 3) fI fd ["self", "other"] (spEqC K cls S C) := by
  refine F.ok sc_If_eq (fun vs H Q E h => ?_) (fun cdv A outer s H vs Q E hr h => ?_)
  · obtain ⟨a, dx, fs, z, y, t, ty, rfl, _⟩ := h
    rfl
  · obtain ⟨x, y, rfl⟩ : ∃ x y, vs = [x, y] := by
      obtain ⟨a, dx, fs, z, y, t, ty, rfl, _⟩ := h
      exact ⟨_, _, rfl⟩
    refine ⟨_, (pss_one (ps_ret (pe_and (pe_callB (call_isi_in (K := K) rfl) (by rfl) T.z_isinstance (by decide +kernel) (pa_cons (pv 1) (pa_cons (pe_glob (v := .ref C) rfl CQ.m rfl) pa_nil))) (pe_one (pe_cmpR op_eq (pe_callTy (call_strCK rfl rfl rfl rfl rfl Sh (hr.mono (by omega))) (by rfl) T.z_str (by decide +kernel) (pa_cons (pv 0) pa_nil)) (pe_callTy (call_strCK rfl rfl rfl rfl rfl Sh (hr.mono (by omega))) (by rfl) T.z_str (by decide +kernel) (pa_cons (pv 1) pa_nil)) (nomark _)))))), ?_⟩
    exact eq_body h rfl
end
end K14

set_option pp.maxSteps 600
namespace K14
open PySem L2 PySem.Spec PyProof.Rows
mutual
def flatR : RowD → List RowD
  | .ife t a b => .ife t a b :: (flatL a ++ flatL b)
  | .add f w t p => [.add f w t p]
  | .put n w => [.put n w]
  | .mark p => [.mark p]
def flatL : List RowD → List RowD
  | [] => []
  | r :: rs => flatR r ++ flatL rs
end
theorem flatL_cons (r : RowD) (rs : List RowD) : flatL (r :: rs) = flatR r ++ flatL rs := by simp only [flatL]
theorem flatL_app : ∀ a b : List RowD, flatL (a ++ b) = flatL a ++ flatL b
  | [], b => by simp only [flatL, List.nil_append]
  | r :: a, b => by rw [List.cons_append, flatL_cons, flatL_cons, flatL_app a b, List.append_assoc]
theorem flatL_one (r : RowD) : flatL [r] = flatR r := by simp only [flatL, List.append_nil]
def FR : Nat → Nat
  | 0 => 1
  | k + 1 => 1 + 6 * FR k
theorem FR_pos : ∀ k, 1 ≤ FR k
  | 0 => Nat.le_refl _
  | k + 1 => Nat.le_add_right _ _
mutual
theorem flatR_len {B : BookD} : ∀ {r : RowD} {k : Nat}, okRow B r k → (flatR r).length ≤ FR k
  | .ife t a b, k, h => by
    unfold okRow at h
    obtain ⟨k', rfl, _, _, la, lb, h5, h6⟩ := h
    have a1 := flatL_len h5
    have b1 := flatL_len h6
    unfold flatR
    rw [List.length_cons, List.length_append]
    have a2 : a.length * FR k' ≤ 3 * FR k' := Nat.mul_le_mul_right _ la
    have b2 : b.length * FR k' ≤ 3 * FR k' := Nat.mul_le_mul_right _ lb
    show _ ≤ 1 + 6 * FR k'
    omega
  | .add _ _ _ _, k, _ => by unfold flatR; exact FR_pos k
  | .put _ _, k, _ => by unfold flatR; exact FR_pos k
  | .mark _, k, _ => by unfold flatR; exact FR_pos k
theorem flatL_len {B : BookD} : ∀ {rs : List RowD} {k : Nat}, okRowL B rs k → (flatL rs).length ≤ rs.length * FR k
  | [], k, _ => by unfold flatL; exact Nat.zero_le _
  | r :: rs, k, h => by
    unfold okRowL at h
    unfold flatL
    have a := flatR_len h.1
    have b := flatL_len h.2
    rw [List.length_append, List.length_cons, Nat.add_mul, Nat.one_mul]
    omega
end
/-- each of them is a row that may be there, of some depth -/
def okAny (B : BookD) (r : RowD) : Prop := ∃ k, k ≤ 3 ∧ okRow B r k
mutual
theorem flatR_ok {B : BookD} : ∀ {r : RowD} {k : Nat}, k ≤ 3 → okRow B r k → ∀ x ∈ flatR r, okAny B x
  | .ife t a b, k, hk, h => by
    have h0 := h
    unfold okRow at h
    obtain ⟨k', rfl, _, _, la, lb, h5, h6⟩ := h
    unfold flatR
    intro x hx
    rcases List.mem_cons.mp hx with rfl | hx
    · exact ⟨_, hk, h0⟩
    · rcases List.mem_append.mp hx with hx | hx
      · exact flatL_ok (by omega) h5 x hx
      · exact flatL_ok (by omega) h6 x hx
  | .add _ _ _ _, k, hk, h => by unfold flatR; intro x hx; rw [List.mem_singleton.mp hx]; exact ⟨k, hk, h⟩
  | .put _ _, k, hk, h => by unfold flatR; intro x hx; rw [List.mem_singleton.mp hx]; exact ⟨k, hk, h⟩
  | .mark _, k, hk, h => by unfold flatR; intro x hx; rw [List.mem_singleton.mp hx]; exact ⟨k, hk, h⟩
theorem flatL_ok {B : BookD} : ∀ {rs : List RowD} {k : Nat}, k ≤ 3 → okRowL B rs k → ∀ x ∈ flatL rs, okAny B x
  | [], k, _, _ => by unfold flatL; exact fun x hx => nomatch hx
  | r :: rs, k, hk, h => by
    unfold okRowL at h
    unfold flatL
    intro x hx
    rcases List.mem_append.mp hx with hx | hx
    · exact flatR_ok hk h.1 x hx
    · exact flatL_ok hk h.2 x hx
end
theorem RowL.cat {H : Hp} : ∀ {rs ss : List RowD} {xs ys : List V}, RowL H rs xs → RowL H ss ys → RowL H (rs ++ ss) (xs ++ ys)
  | [], ss, xs, ys, h, g => by
    unfold RowL at h
    subst h
    exact g
  | r :: rs, ss, xs, ys, h, g => by
    unfold RowL at h
    obtain ⟨v, vs, rfl, h1, h2⟩ := h
    show RowL H (r :: (rs ++ ss)) (v :: (vs ++ ys))
    unfold RowL
    exact ⟨v, _, rfl, h1, RowL.cat h2 g⟩
def tagR : RowD → Str
  | .ife _ _ _ => "if"
  | .add _ _ _ _ => "add"
  | .put _ _ => "put"
  | .mark _ => "mark"
theorem RowAt.tag {H : Hp} {r : RowD} {v : V} (h : RowAt H r v) : ∃ p xs, v = .ref p ∧ H p = some (.tup (V.str (tagR r) :: xs)) := by
  cases r with
  | ife t a b => unfold RowAt at h; obtain ⟨p, u, x, y, xs, ys, rfl, h, _⟩ := h; exact ⟨p, _, rfl, h⟩
  | add f w t pl => unfold RowAt at h; obtain ⟨p, rfl, h⟩ := h; exact ⟨p, _, rfl, h⟩
  | put n w => unfold RowAt at h; obtain ⟨p, rfl, h⟩ := h; exact ⟨p, _, rfl, h⟩
  | mark pl => unfold RowAt at h; obtain ⟨p, rfl, h⟩ := h; exact ⟨p, _, rfl, h⟩
theorem str_dec (a b : Str) : decide (V.str a = V.str b) = decide (a = b) := decide_eq_decide.mpr ⟨fun w => by injection w, fun w => by rw [w]⟩
/-- x[0] == word -/
theorem tag_go {K : PySem.W.Frag} {i : Nat} {p : Addr} {xs : List V} {t word : Str} {σ : L2.St} {H : Hp} {Q : VK} (e : σ[i]? = some (some (.ref p))) (h : H p = some (.tup (.str t :: xs))) (q : Q (.bl (decide (t = word))) H) : tOp rEq (tOp (rIxT K) (tVar i) (tC (.int 0))) (tC (.str word)) σ H Q := by
  refine op_go ⟨_, e, p, _, _, .str t, rfl, rfl, SqT.of h, atI_nat (j := 0) (by rfl), rfl, ?_⟩
  rw [str_dec]
  exact q
theorem tagN_go {K : PySem.W.Frag} {i : Nat} {p : Addr} {xs : List V} {t word : Str} {σ : L2.St} {H : Hp} {Q : VK} (e : σ[i]? = some (some (.ref p))) (h : H p = some (.tup (.str t :: xs))) (q : Q (.bl (!decide (t = word))) H) : tOp rNe (tOp (rIxT K) (tVar i) (tC (.int 0))) (tC (.str word)) σ H Q := by
  refine op_go ⟨_, e, p, _, _, .str t, rfl, rfl, SqT.of h, atI_nat (j := 0) (by rfl), rfl, ?_⟩
  rw [str_dec]
  exact q
def spFlat (k : Nat) : Sp := fun vs H Q _ => ∃ (a : Addr) (xs : List V) (rs : List RowD) (B : BookD), vs = [.ref a] ∧ H a = some (.tup xs) ∧ RowL H rs xs ∧ okRowL B rs k ∧ rs.length ≤ 3 ∧ ∀ H' l ys, Same H H' → H l = none → H' l = some (.lst ys) → RowL H' (flatL rs) ys → Q (.ref l) H'
def spFlatK : Nat → Sp
  | 0 => fun _ _ _ _ => False
  | k + 1 => spFlat k
section
variable {P : Program} {w : World} {K : PySem.W.Frag} {mg : Str → Option Value} {base : Heap}
abbrev s_law_flat : Stmt := top 42
abbrev n_law_flat : List Str := ["_law_rows_here", "_law_found", "_law_row_here"]
theorem sc_law_flat : FnScope n_law_flat ["_law_rows_here"] (defScope s_law_flat) := ⟨rfl, rfl, rfl, by decide +kernel, rfl, by decide +kernel, by decide +kernel⟩
theorem ok_flatD {k n : Nat} (hn : 1 ≤ n) (hk : k ≤ 3) (T : Txt mg) (g_law_flat : Has P w K mg base n "_law_flat" ["_law_rows_here"] (spFlatK k)) (F : DefAt K mg "_law_flat" s_law_flat ["_law_rows_here"]) : Has P w K mg base (n + 1) "_law_flat" ["_law_rows_here"] (spFlat k) := by
  refine F.has sc_law_flat (fun vs H Q E h => ?_) (fun f cdv A outer s H vs Q E hr h => ?_)
  · obtain ⟨a, xs, rs, B, rfl, _⟩ := h
    rfl
  · obtain ⟨a, xs, rs, B, rfl, ha, rl, ok, l3, ret⟩ := h
    refine ⟨_, (pss_cons (ps_set (i := 1) sc_law_flat.nd rfl (Or.inl rfl) (pe_lst pa_nil))
      (pss_cons (ps_for PassesOwn.never rfl (pi_tup (pv 0)) (pg_name (i := 2) sc_law_flat.nd rfl (Or.inl rfl)) (pss_cons (ps_expr (pe_bm PySem.F.plainAttrs_list PySem.F.slot_list_append PySem.F.type_list_append mt_append (pv 1) (pa_cons (pv 2) pa_nil)))
      (pss_one (ps_if (pt_cmpR op_eq (pe_ix ix_tup (pv 2) pe_int (fun _ _ => rfl)) pe_str (nomark _)) (pss_one (ps_expr (pe_bm PySem.F.plainAttrs_list PySem.F.slot_list_extend PySem.F.type_list_extend mt_extend (pv 1) (pa_cons (pe_op op_cat (pe_callHas g_law_flat (hr.mono (by omega)) rfl (pa_cons (pe_ix ix_tup (pv 2) pe_int (fun _ _ => rfl)) pa_nil)) (pe_callHas g_law_flat (hr.mono (by omega)) rfl (pa_cons (pe_ix ix_tup (pv 2) pe_int (fun _ _ => rfl)) pa_nil))) pa_nil)))) pss_nil))))
      (pss_one (ps_ret (pv 1))))), ?_⟩
    have q10000 : (10000 : Nat) < sizeLine := by decide
    have FR3 : FR k ≤ 259 := by
      have : ∀ j, j ≤ 3 → FR j ≤ 259 := by decide
      exact this k hk
    have lx := rl.len
    have tl' : ∀ i, (flatL (rs.take i)).length ≤ 777 := fun i => by
      have h1 : okRowL B (rs.take i) k := by
        have : ∀ (rs : List RowD) (i : Nat), okRowL B rs k → okRowL B (rs.take i) k := by
          intro rs
          induction rs with
          | nil => intro i h; rw [List.take_nil]; exact h
          | cons r rs ih =>
            intro i h
            cases i with
            | zero => rw [List.take_zero]; unfold okRowL; trivial
            | succ i => rw [List.take_succ_cons]; unfold okRowL at h ⊢; exact ⟨h.1, ih i h.2⟩
        exact this rs i ok
      have h2 := flatL_len h1
      have h3 : (rs.take i).length ≤ 3 := by rw [List.length_take]; omega
      have h4 : (rs.take i).length * FR k ≤ 3 * 259 := Nat.mul_le_mul h3 FR3
      omega
    refine seq_asg (lst_go (xs := []) (fun Q q => nil_go q) (by show 0 ≤ 1000; omega) fun H1 D s1 hD0 hD => name_go ?_)
    try dsimp only
    refine seq_go ?_
    refine ⟨_, rfl, a, rfl, ⟨_, SqT.of (s1 _ _ ha)⟩, for_it (walk_tup (xs := xs)) (fun i σ H' => Same H H' ∧ ∃ ys x2, σ = [some (.ref a), some (.ref D), x2] ∧ H' D = some (.lst ys) ∧ RowL H' (flatL (rs.take i)) ys) ⟨s1, [], _, rfl, hD, by rw [List.take_zero]; unfold flatL RowL; rfl⟩ (fun i σ H' _ z => SqT.of (z.1 _ _ ha)) ?_ ?_⟩
    · rintro i y σ H2' H2 hi ⟨s2, ys, x2, rfl, hD2, ro⟩ ⟨rfl, ey⟩
      obtain ⟨r, er, ra⟩ := rl.at' ey
      have ra2 := ra.kp (TupKp.of s2)
      have okr := ok.get er
      have hir := (List.getElem?_eq_some_iff.mp er).1
      have e1 : rs.take (i + 1) = rs.take i ++ [r] := by
        rw [← List.take_append_getElem hir]
        rw [List.getElem?_eq_getElem hir] at er
        rw [Option.some.inj er]
      have ly := ro.len
      have ly2 := tl' i
      refine name_go ?_
      try dsimp only
      refine seq_go ⟨_, rfl, .inl ⟨rfl, _, SqL.of hD2⟩, _, rfl, D, ys, _, rfl, rfl, hD2, by omega, ?_⟩
      have tk : TupKp H2 (upd H2 D (.lst (ys ++ [y]))) := TupKp.upd' hD2 fun xs z => nomatch z
      have s3 : Same H (upd H2 D (.lst (ys ++ [y]))) := fun c o e => (upd_ne (ne_of_none e hD0)).trans (s2 _ _ e)
      have hD3 : upd H2 D (.lst (ys ++ [y])) D = some (.lst (ys ++ [y])) := upd_same
      have ra3 := ra2.kp tk
      have ro3 : RowL (upd H2 D (.lst (ys ++ [y]))) (flatL (rs.take i) ++ [r]) (ys ++ [y]) := (ro.kp tk).app ra3
      generalize upd H2 D (.lst (ys ++ [y])) = H3 at *
      try dsimp only
      obtain ⟨p, zs, rfl, hp⟩ := ra3.tag
      refine tag_go rfl hp ⟨_, rfl, ?_⟩
      cases r with
      | ife t rra rrb =>
        unfold RowAt at ra3
        obtain ⟨p', u, x, z, xs2, ys2, e, hp', rt, hx, rl1, hz, rl2⟩ := ra3
        cases e
        unfold okRow at okr
        obtain ⟨k', rfl, _, _, la, lb, oa, ob⟩ := okr
        refine iteSe (decide_eq_true rfl) ?_
        refine ⟨_, rfl, .inl ⟨rfl, _, SqL.of hD3⟩, cons_go (op_go ?_)⟩
        refine ⟨_, rfl, p, _, _, _, rfl, rfl, SqT.of hp', rfl, ?_⟩
        refine ⟨x, xs2, rra, B, rfl, hx, rl1, oa, la, fun H4 l4 y4 s4 n4 h4 r4 => ?_⟩
        have s4 : Same H3 H4 := s4
        refine ⟨_, rfl, p, _, _, _, rfl, rfl, SqT.of (s4 _ _ hp'), rfl, ?_⟩
        refine ⟨z, ys2, rrb, B, rfl, s4 _ _ hz, rl2.kp (TupKp.of s4), ob, lb, fun H5 l5 y5 s5 n5 h5 r5 => ?_⟩
        have s5 : Same H4 H5 := s5
        have r45 := (r4.kp (TupKp.of s5)).cat r5
        have l45 := r45.len
        have ly6 := tl' (i + 1)
        rw [e1, flatL_app, flatL_one, List.length_append] at ly6
        unfold flatR at ly6
        rw [List.length_cons, ← l45, ← ly] at ly6
        have hl45 := l45
        rw [List.length_append] at l45 ly6
        refine ⟨l4, l5, y4, y5, rfl, rfl, s5 _ _ h4, h5, by omega, fun l6 hl6 => nil_go ?_⟩
        obtain ⟨s6, h6⟩ := new_at (o := .lst (y4 ++ y5)) hl6
        have s36 := (s4.trans s5).trans s6
        have hD6 := s36 _ _ hD3
        refine ⟨D, l6, _, _, rfl, rfl, hD6, h6, by rw [List.length_append, List.length_append, List.length_singleton]; omega, ?_⟩
        have tk6 : ∀ o, TupKp (upd H5 l6 (.lst (y4 ++ y5))) (upd (upd H5 l6 (.lst (y4 ++ y5))) D o) := fun o => TupKp.upd' hD6 fun xs z => nomatch z
        refine ⟨fun c o e => (upd_ne (ne_of_none e hD0)).trans (s36 _ _ (s3 _ _ e)), _, _, rfl, upd_same, ?_⟩
        rw [e1, flatL_app, flatL_one]
        unfold flatR
        have := ((ro3.kp (TupKp.of s36)).cat (r45.kp (TupKp.of s6))).kp (tk6 (.lst (ys ++ [V.ref p] ++ (y4 ++ y5))))
        rw [List.append_assoc (flatL (rs.take i))] at this
        exact this
      | _ =>
        refine iteSf (decide_eq_false (by simp only [tagR]; decide +kernel)) (next_go ⟨s3, _, _, rfl, hD3, ?_⟩)
        rw [e1, flatL_app, flatL_one]
        unfold flatR
        exact ro3
    · rintro σ H2 ⟨s2, ys, x2, rfl, hD2, ro⟩
      rw [lx, List.take_length] at ro
      try dsimp only
      refine ret_go ?_
      exact ⟨_, rfl, ret H2 D ys s2 hD0 hD2 ro⟩
end
end K14

set_option pp.maxSteps 600
namespace K14
open PySem L2 PySem.Spec PyProof.Rows
theorem nodup_len {α : Type} [DecidableEq α] : ∀ {l m : List α}, l.Nodup → (∀ x ∈ l, x ∈ m) → l.length ≤ m.length
  | [], m, _, _ => Nat.zero_le _
  | x :: l, m, nd, h => by
    obtain ⟨n1, n2⟩ := List.nodup_cons.mp nd
    have hx := h x List.mem_cons_self
    have ih := nodup_len (m := m.erase x) n2 fun y hy => (List.mem_erase_of_ne (fun z => n1 (by rw [← z]; exact hy))).mpr (h y (List.mem_cons_of_mem _ hy))
    rw [List.length_erase_of_mem hx] at ih
    have := List.length_pos_of_mem hx
    rw [List.length_cons]
    omega
def allRows (hs : List (Str × List RowD)) : List RowD := (hs.map fun e => flatL e.2).flatten
theorem allRows_len {B : BookD} : ∀ {hs : List (Str × List RowD)}, (∀ e ∈ hs, okRowL B e.2 3 ∧ e.2.length ≤ 3) → (allRows hs).length ≤ hs.length * 777
  | [], _ => Nat.zero_le _
  | e :: hs, h => by
    have ih := allRows_len (hs := hs) fun x hx => h x (List.mem_cons_of_mem _ hx)
    obtain ⟨h1, h2⟩ := h e List.mem_cons_self
    have a := flatL_len h1
    have b : e.2.length * FR 3 ≤ 3 * 259 := Nat.mul_le_mul h2 (by decide)
    have c : allRows (e :: hs) = flatL e.2 ++ allRows hs := rfl
    rw [c, List.length_append, List.length_cons, Nat.add_mul]
    omega
theorem allRows_ok {B : BookD} : ∀ {hs : List (Str × List RowD)}, (∀ e ∈ hs, okRowL B e.2 3 ∧ e.2.length ≤ 3) → ∀ r ∈ allRows hs, okAny B r
  | [], _ => fun _ h => nomatch h
  | e :: hs, h => by
    intro r hr
    have c : allRows (e :: hs) = flatL e.2 ++ allRows hs := rfl
    rw [c] at hr
    rcases List.mem_append.mp hr with hr | hr
    · exact flatL_ok (Nat.le_refl _) (h e List.mem_cons_self).1 r hr
    · exact allRows_ok (fun x hx => h x (List.mem_cons_of_mem _ hx)) r hr
theorem allRows_app (a b : List (Str × List RowD)) : allRows (a ++ b) = allRows a ++ allRows b := by
  unfold allRows
  rw [List.map_append, List.flatten_append]
theorem BookOk.hands {B : BookD} (ok : BookOk B) : (∀ e ∈ B.handlers, okRowL B e.2 3 ∧ e.2.length ≤ 3) ∧ B.handlers.length ≤ 6 := by
  refine ⟨fun e he => (ok.handlers.1 e he).2, ?_⟩
  have h := nodup_len ok.handlers.2 (m := B.events.map (·.name)) fun x hx => by
    obtain ⟨e, he, rfl⟩ := List.mem_map.mp hx
    exact (ok.handlers.1 e he).1
  rw [List.length_map, List.length_map] at h
  have := ok.events.2.2
  omega
def spAllRows : Sp := fun vs H Q _ => ∃ (d : Addr) (B : BookD) (kvs : List (Key × V)) (ex : Addr → Prop), vs = [.ref d] ∧ BookAt H ex d B kvs ∧ BookOk B ∧ ∀ H' l ys, Same H H' → H l = none → H' l = some (.lst ys) → RowL H' (allRows B.handlers) ys → Q (.ref l) H'
section
variable {P : Program} {w : World} {K : PySem.W.Frag} {mg : Str → Option Value} {base : Heap}
theorem ok_flatAll (T : Txt mg) (F : DefAt K mg "_law_flat" s_law_flat ["_law_rows_here"]) : ∀ k : Nat, k ≤ 3 → Has P w K mg base (3 + k) "_law_flat" ["_law_rows_here"] (spFlat k)
  | 0, _ => by
    have g0 : Has P w K mg base 2 "_law_flat" ["_law_rows_here"] (spFlatK 0) := F.has sc_law_flat (fun vs H Q E h => h.elim) (fun f cdv A outer s H vs Q E hr h => h.elim)
    exact ok_flatD (by omega) (by omega) T g0 F
  | k + 1, h => ok_flatD (n := 3 + k) (by omega) h T (ok_flatAll T F k (by omega)) F
abbrev s_law_all_rows : Stmt := top 43
abbrev n_law_all_rows : List Str := ["_law_book_here", "_law_found", "_law_name", "_law_rows_here"]
theorem sc_law_all_rows : FnScope n_law_all_rows ["_law_book_here"] (defScope s_law_all_rows) := ⟨rfl, rfl, rfl, by decide +kernel, rfl, by decide +kernel, by decide +kernel⟩
theorem ok_allRows (T : Txt mg) (g_law_flat : Has P w K mg base 6 "_law_flat" ["_law_rows_here"] (spFlat 3)) (F : DefAt K mg "_law_all_rows" s_law_all_rows ["_law_book_here"]) : Has P w K mg base 7 "_law_all_rows" ["_law_book_here"] spAllRows := by
  refine F.has sc_law_all_rows (fun vs H Q E h => ?_) (fun f cdv A outer s H vs Q E hr h => ?_)
  · obtain ⟨d, B, kvs, ex, rfl, _⟩ := h
    rfl
  · have hu := hr.units
    have hu1 := Nat.lt_of_le_of_lt (Nat.add_le_add_left (by decide : 1 ≤ 64) _) hu
    obtain ⟨d, B, kvs, ex, rfl, bk, bok, ret⟩ := h
    refine ⟨_, (pss_cons (ps_set (i := 1) sc_law_all_rows.nd rfl (Or.inl rfl) (pe_lst pa_nil))
      (pss_cons (ps_for PassesOwn.never rfl (pi_list (pe_dget hu1 (pv 0) pe_str (fun _ _ => rfl))) (pg_tup rfl (pgs_cons (pg_name (i := 2) sc_law_all_rows.nd rfl (Or.inl rfl)) (pgs_cons (pg_name (i := 3) sc_law_all_rows.nd rfl (Or.inl rfl)) pgs_nil))) (pss_one (ps_expr (pe_bm PySem.F.plainAttrs_list PySem.F.slot_list_extend PySem.F.type_list_extend mt_extend (pv 1) (pa_cons (pe_callHas g_law_flat (hr.mono (by omega)) rfl (pa_cons (pv 3) pa_nil)) pa_nil)))))
      (pss_one (ps_ret (pv 1))))), ?_⟩
    have q10000 : (10000 : Nat) < sizeLine := by decide
    obtain ⟨ws, inH, pH⟩ := bk.handlers
    obtain ⟨oks, l6⟩ := bok.hands
    refine seq_asg (lst_go (xs := []) (fun Q q => nil_go q) (by show 0 ≤ 1000; omega) fun H1 D s1 hD0 hD => name_go ?_)
    try dsimp only
    refine seq_go ?_
    obtain ⟨r, er, _, hr0⟩ := inH
    have gH : DGet H1 d (.str "handlers") (some (.ref r)) := by rw [← er]; exact DGet.k (k := .inr "handlers") (s1 _ _ bk.bk.at')
    have lw := pH.len
    refine ⟨_, rfl, d, _, rfl, gH, r, rfl, ⟨_, SqL.of (s1 _ _ hr0)⟩, for_it (walk_list (xs := ws)) (fun i σ H' => Same H H' ∧ ∃ ys x2 x3, σ = [some (.ref d), some (.ref D), x2, x3] ∧ H' D = some (.lst ys) ∧ RowL H' (allRows (B.handlers.take i)) ys) ⟨s1, [], _, _, rfl, hD, by rw [List.take_zero]; unfold allRows RowL; rfl⟩ (fun i σ H' _ z => SqL.of (z.1 _ _ hr0)) ?_ ?_⟩
    · rintro i y σ H2' H2 hi ⟨s2, ys, x2, x3, rfl, hD2, ro⟩ ⟨rfl, ey⟩
      obtain ⟨⟨nm, rs⟩, ee, ha⟩ := pH.at' ey
      obtain ⟨pp, px, xs, rfl, hp, hpx, rl⟩ := ha.kp (TupKp.of s2)
      obtain ⟨okl, l3⟩ := oks _ (List.mem_of_getElem? ee)
      have okl : okRowL B rs 3 := okl
      have l3 : rs.length ≤ 3 := l3
      have hir := (List.getElem?_eq_some_iff.mp ee).1
      have e1 : B.handlers.take (i + 1) = B.handlers.take i ++ [(nm, rs)] := by
        rw [← List.take_append_getElem hir]
        rw [List.getElem?_eq_getElem hir] at ee
        rw [Option.some.inj ee]
      have e2 : allRows (B.handlers.take (i + 1)) = allRows (B.handlers.take i) ++ flatL rs := by
        rw [e1, allRows_app]
        unfold allRows
        simp
      refine ⟨pp, _, rfl, SqT.of hp, rfl, _, _, rfl, _, _, rfl, rfl, ?_⟩
      refine ⟨_, rfl, .inl ⟨rfl, _, SqL.of hD2⟩, ?_⟩
      refine ⟨_, rfl, px, xs, rs, B, rfl, hpx, rl, okl, l3, fun H3 l3' y3 s3 n3 h3 r3 => ?_⟩
      have s3 : Same H2 H3 := s3
      have hD3 := s3 _ _ hD2
      have lr := ro.len
      have lr3 := r3.len
      have b1 := allRows_len (B := B) (hs := B.handlers.take i) fun e he => oks e (List.mem_of_mem_take he)
      have b2 : (B.handlers.take i).length ≤ 6 := by rw [List.length_take]; omega
      have b3 : (B.handlers.take i).length * 777 ≤ 6 * 777 := Nat.mul_le_mul_right _ b2
      have b4 := flatL_len okl
      have b5 : rs.length * FR 3 ≤ 3 * 259 := Nat.mul_le_mul l3 (by decide)
      refine nil_go ⟨D, l3', _, _, rfl, rfl, hD3, h3, by omega, ?_⟩
      have tk : TupKp H3 (upd H3 D (.lst (ys ++ y3))) := TupKp.upd' hD3 fun xs z => nomatch z
      refine ⟨fun c o e => (upd_ne (ne_of_none e hD0)).trans (s3 _ _ (s2 _ _ e)), _, _, _, rfl, upd_same, ?_⟩
      rw [e2]
      exact ((ro.kp (TupKp.of s3)).cat r3).kp tk
    · rintro σ H2 ⟨s2, ys, x2, x3, rfl, hD2, ro⟩
      rw [lw, List.take_length] at ro
      try dsimp only
      refine ret_go ?_
      exact ⟨_, rfl, ret H2 D ys s2 hD0 hD2 ro⟩
end
end K14

set_option pp.maxSteps 600
namespace L2
open PySem PySem.Spec PyProof.Rows
/-- repr of a text or an int -/
theorem call_reprTI {X : Cx} : CallR X (.builtin "repr") (fun xs H Q => (∃ a : Str, xs = [.str a] ∧ PyData.strOk a = true ∧ a.length ≤ 1600000 ∧ Q (.str (reprText a)) H) ∨ (∃ i : Int, xs = [.int i] ∧ i.natAbs.log2 < 1920 ∧ Q (.str (toString i)) H)) := by
  intro pins s σ H xs us Q I r h
  rcases h with h | h
  · exact call_reprT pins s σ H xs us Q I r h
  · exact SkE.call_repr_int pins s σ H xs us Q I r h
end L2
namespace K14
open PySem L2 PySem.Spec PyProof.Rows
/-- the classes above -/
structure IsK (K : PySem.W.Frag) (p : Pkg) (TS RW : Addr) : Prop where
  tr : ∀ C ∈ p.tests, PySem.W.kitOne K (.ref C) (.ref RW) = some false
  rt : ∀ C ∈ p.rows, PySem.W.kitOne K (.ref C) (.ref TS) = some false
theorem ObjK.ty {K : PySem.W.Frag} {H : Hp} {a C dx : Addr} {fs : List (Str × V)} (o : ObjK K C) (h : H a = some (.ins C dx fs)) : TyX K H (.ref a) (.ref C) := .base (.ins h o.cl o.ha o.hn o.htk o.hm)
theorem isi_go {K : PySem.W.Frag} {i : Nat} {v : V} {t : Value} {D : Addr} {b : Bool} {σ : L2.St} {H : Hp} {Q : VK} (e : σ[i]? = some (some v)) (ty : TyX K H v t) (k : PySem.W.kitOne K t (.ref D) = some b) (q : Q (.bl b) H) : tCB (rIsi K) (tCons (tVar i) (tCons (tC (.ref D)) tNil)) σ H Q := ⟨_, e, _, _, t, _, b, rfl, .own _, ty, k, q⟩
theorem eq_same {z : Str} {H : Hp} {Q : VK} (q : Q (.bl true) H) : rEq (.str z) (.str z) H Q := by
  refine ⟨rfl, ?_⟩
  rw [decide_eq_true rfl]
  exact q
def tagT : TestD → Str
  | .was _ => "was"
  | .cut o _ => belowS o
  | .moved => "moved"
  | .noted => "noted"
  | .not _ => "not"
theorem TestAt.tag {H : Hp} {t : TestD} {v : V} (h : TestAt H v t) : ∃ p xs, v = .ref p ∧ H p = some (.tup (V.str (tagT t) :: xs)) := by
  cases t with
  | was k => obtain ⟨p, rfl, h⟩ := h; exact ⟨p, _, rfl, h⟩
  | cut o n => obtain ⟨p, rfl, h⟩ := h; exact ⟨p, _, rfl, h⟩
  | moved => obtain ⟨p, rfl, h⟩ := h; exact ⟨p, _, rfl, h⟩
  | noted => obtain ⟨p, rfl, h⟩ := h; exact ⟨p, _, rfl, h⟩
  | not t => obtain ⟨p, u, rfl, h, _⟩ := h; exact ⟨p, _, rfl, h⟩
theorem testS_okS {B : BookD} (ok : BkOk B) {t : TestD} (h : okTest B t) : PyData.strOk (testS t) = true := line_okS (testW_okS ok h)
theorem in2_go {K : PySem.W.Frag} {i : Nat} {p : Addr} {xs : List V} {t w1 w2 : Str} {σ : L2.St} {H : Hp} {Q : VK} (e : σ[i]? = some (some (.ref p))) (h : H p = some (.tup (.str t :: xs))) (q : ∀ H', Same H H' → Q (.bl (decide (t ∈ [w1, w2]))) H') : tOp (rIn K false) (tOp (rIxT K) (tVar i) (tC (.int 0))) (tTup (tCons (tC (.str w1)) (tCons (tC (.str w2)) tNil))) σ H Q := by
  refine op_go ⟨_, e, p, _, _, .str t, rfl, rfl, SqT.of h, atI_nat (j := 0) (by rfl), ?_⟩
  refine tupc_go (xs := [w1, w2].map V.str) (fun Q q => q) (by show 2 ≤ 1000; omega) fun H1 z s1 _ hz => ⟨z, _, rfl, .inr (SqT.of hz), rfl, flat_strs _, ?_⟩
  rw [if_neg (by decide), inV_strs]
  exact q H1 s1
theorem fld_go {K : PySem.W.Frag} {i : Nat} {a C dx : Addr} {fs : List (Str × V)} {f : Str} {v : V} {σ : L2.St} {H : Hp} {Q : VK} (e : σ[i]? = some (some (.ref a))) (h : H a = some (.ins C dx fs)) (c : Cls K C) (n : NoAttr K C f) (l : fs.lookup f = some v) (q : Q v H) : tFld K (tVar i) f σ H Q := ⟨_, e, a, C, dx, fs, v, rfl, h, c, n, l, q⟩
theorem ixT_go {K : PySem.W.Frag} {i j : Nat} {p : Addr} {xs : List V} {v : V} {σ : L2.St} {H : Hp} {Q : VK} (e : σ[i]? = some (some (.ref p))) (h : SqT K H p xs) (l : xs[j]? = some v) (q : Q v H) : tOp (rIxT K) (tVar i) (tC (.int (j : Nat))) σ H Q := ⟨_, e, p, _, _, v, rfl, rfl, h, atI_nat l, q⟩
def spIsTest (p : Pkg) (k : Nat) : Sp := fun vs H Q _ => ∃ (v y : V) (t : TestD) (B : BookD), vs = [v, y] ∧ TestOb p H v t ∧ TestAt H y t ∧ okTest B t ∧ BkOk B ∧ tdep t ≤ k ∧ ∀ H', Same H H' → Q (.bl true) H'
def spIsTestK (p : Pkg) : Nat → Sp
  | 0 => fun _ _ _ _ => False
  | k + 1 => spIsTest p k
section
variable {P : Program} {w : World} {K : PySem.W.Frag} {mg : Str → Option Value} {base : Heap}
abbrev s_law_is_test : Stmt := top 47
abbrev n_law_is_test : List Str := ["_law_made", "_law_test_here"]
theorem sc_law_is_test : FnScope n_law_is_test ["_law_made", "_law_test_here"] (defScope s_law_is_test) := ⟨rfl, rfl, rfl, by decide +kernel, rfl, by decide +kernel, by decide +kernel⟩
theorem ok_isTestD {p : Pkg} {TS RW : Addr} {k n : Nat} (hn : 11 ≤ n) (hk : k ≤ 2) (T : Txt mg) (PK : PkgK K p TS RW) (IK : IsK K p TS RW) (mTest : mg "Test" = some (.ref TS)) (mRow : mg "Row" = some (.ref RW)) (mNot : mg "Not" = some (.ref p.CN)) (CW : ClsA K mg "Was" p.CW ["kind"]) (CO : ClsA K mg "OldBelow" p.CO ["number"]) (CB : ClsA K mg "NewBelow" p.CB ["number"]) (CN : ClsA K mg "Not" p.CN ["test"])
    (ShT : Shows P w K mg base 9 p.tests (TestSh p 2)) (g_law_test_text : Has P w K mg base 5 "_law_test_text" ["_law_test_here"] (spTestText 2)) (g_law_is_test : Has P w K mg base n "_law_is_test" ["_law_made", "_law_test_here"] (spIsTestK p k)) (F : DefAt K mg "_law_is_test" s_law_is_test ["_law_made", "_law_test_here"]) : Has P w K mg base (n + 1) "_law_is_test" ["_law_made", "_law_test_here"] (spIsTest p k) := by
  refine F.has sc_law_is_test (fun vs H Q E h => ?_) (fun f cdv A outer s H vs Q E hr h => ?_)
  · obtain ⟨v, y, t, B, rfl, _⟩ := h
    rfl
  · obtain ⟨v, y, t, B, rfl, ob, at', ok, bok, dt, ret⟩ := h
    refine ⟨_, (pss_cons (ps_if (PW.pt (pw_or (pt_not (pt_val (pe_callB (call_isi_in (K := K) rfl) (by rfl) T.z_isinstance (by decide +kernel) (pa_cons (pv 0) (pa_cons (pe_glob (v := .ref TS) rfl mTest rfl) pa_nil))))) (pw_or (pt_val (pe_callB (call_isi_in (K := K) rfl) (by rfl) T.z_isinstance (by decide +kernel) (pa_cons (pv 0) (pa_cons (pe_glob (v := .ref RW) rfl mRow rfl) pa_nil)))) (pw_or1 (pt_cmpR op_ne (pe_callB call_reprTI (by rfl) T.z_repr (by decide +kernel) (pa_cons (pe_callTy (call_strCK rfl rfl rfl rfl rfl ShT (hr.mono (by omega))) (by rfl) T.z_str (by decide +kernel) (pa_cons (pv 0) pa_nil)) pa_nil)) (pe_callB call_reprTI (by rfl) T.z_repr (by decide +kernel) (pa_cons (pe_callHas g_law_test_text (hr.mono (by omega)) rfl (pa_cons (pv 1) pa_nil)) pa_nil)) (nomark _)))))) (pss_one (ps_ret pe_bl)) pss_nil)
      (pss_cons (ps_if (pt_cmpR op_eq (pe_ix ix_tup (pv 1) pe_int (fun _ _ => rfl)) pe_str (nomark _)) (pss_one (ps_ret (pe_and (pe_callB (call_isi_in (K := K) rfl) (by rfl) T.z_isinstance (by decide +kernel) (pa_cons (pv 0) (pa_cons (pe_glob (v := .ref p.CN) rfl mNot rfl) pa_nil))) (pe_one (pe_callHas g_law_is_test (hr.mono (by omega)) rfl (pa_cons (pe_fld (pv 0) rfl) (pa_cons (pe_ix ix_tup (pv 1) pe_int (fun _ _ => rfl)) pa_nil))))))) pss_nil)
      (pss_cons (ps_if (pt_cmpR op_in_seq (pe_ix ix_tup (pv 1) pe_int (fun _ _ => rfl)) (pe_tup (pa_cons pe_str (pa_cons pe_str pa_nil))) (by rfl)) (pss_one (ps_ret (pe_cmpR op_eq (pe_callB call_reprTI (by rfl) T.z_repr (by decide +kernel) (pa_cons (pe_fld (pv 0) rfl) pa_nil)) (pe_callB call_reprTI (by rfl) T.z_repr (by decide +kernel) (pa_cons (pe_ix ix_tup (pv 1) pe_int (fun _ _ => rfl)) pa_nil)) (nomark _)))) pss_nil)
      (pss_one (ps_ret (pe_or (pe_cmpR op_ne (pe_ix ix_tup (pv 1) pe_int (fun _ _ => rfl)) pe_str (nomark _)) (pe_one (pe_cmpR op_eq (pe_callB call_reprTI (by rfl) T.z_repr (by decide +kernel) (pa_cons (pe_fld (pv 0) rfl) pa_nil)) (pe_callB call_reprTI (by rfl) T.z_repr (by decide +kernel) (pa_cons (pe_ix ix_tup (pv 1) pe_int (fun _ _ => rfl)) pa_nil)) (nomark _))))))))), ?_⟩
    obtain ⟨a, C, dx, fs, rfl, ha, mC⟩ := ob.cls
    obtain ⟨oC, kT⟩ := PK.tests C mC
    have kR := IK.tr C mC
    have len : (testS t).length ≤ 1600000 := by
      have := testS_len (okT_of bok ok)
      omega
    refine seq_go ?_
    refine isi_go rfl (oC.ty ha) kT ⟨_, rfl, iteSf rfl ?_⟩
    refine isi_go rfl (oC.ty ha) kR ⟨_, rfl, iteSf rfl ?_⟩
    refine ⟨_, rfl, _, rfl, a, C, dx, fs, testS t, rfl, ha, mC, ⟨t, ob, okT_of bok ok, by omega, rfl⟩, fun H1 s1 => ?_⟩
    have s1 : Same H H1 := s1
    refine .inl ⟨testS t, rfl, testS_okS bok ok, len, ?_⟩
    refine ⟨_, rfl, y, t, B, rfl, at'.kp (TupKp.of s1), ok, bok, by omega, fun H2 s2 => ?_⟩
    have s2 : Same H1 H2 := s2
    have s12 := s1.trans s2
    refine .inl ⟨testS t, rfl, testS_okS bok ok, len, neS_go (next_go ?_)⟩
    have ob2 := ob.kp (ObKp.of s12)
    have at2 := at'.kp (TupKp.of s12)
    try dsimp only
    refine seq_go ?_
    cases t with
    | not t =>
      obtain ⟨q, u, rfl, hq, at3⟩ := at2
      obtain ⟨x, dx', u', ex, hx, ob3⟩ := ob2
      cases ex
      refine tag_go rfl hq ⟨_, rfl, iteSe (decide_eq_true rfl) ?_⟩
      have mN : p.CN ∈ p.tests := by simp [Pkg.tests]
      refine ret_go (andV_go (isi_go rfl ((PK.tests _ mN).1.ty hx) (if_pos (beq_self_eq_true _)) ⟨_, rfl, iteSe rfl ?_⟩))
      refine cons_go (fld_go rfl hx CN.cl (CN.n _ (by simp)) rfl (cons_go (ixT_go (j := 1) rfl (SqT.of hq) rfl (nil_go ?_))))
      cases k with
      | zero => exact absurd dt (Nat.not_succ_le_zero _)
      | succ k => exact ⟨u', u, t, B, rfl, ob3, at3, ok, bok, Nat.le_of_succ_le_succ dt, fun H3 s3 => ret H3 (s12.trans s3)⟩
    | cut o m =>
      obtain ⟨q, rfl, hq⟩ := at2
      obtain ⟨x, dx', ex, hx⟩ := ob2
      cases ex
      refine tag_go rfl hq ⟨_, rfl, iteSf (decide_eq_false (by cases o <;> decide +kernel)) (next_go ?_)⟩
      try dsimp only
      refine seq_go ?_
      refine in2_go rfl hq fun H3 s3 => ⟨_, rfl, iteSe (decide_eq_true (by cases o <;> decide +kernel)) ?_⟩
      have nm : numOk m := okT_of bok ok
      have cl : Cls K (if o = true then p.CO else p.CB) := by
        cases o with
        | true => exact CO.cl
        | false => exact CB.cl
      have na : NoAttr K (if o = true then p.CO else p.CB) "number" := by
        cases o with
        | true => exact CO.n _ (by simp)
        | false => exact CB.n _ (by simp)
      refine ret_go (op_go (cb_go (cons_go (fld_go rfl (s3 _ _ hx) cl na rfl (nil_go (.inr ⟨m, rfl, nm, ?_⟩))))))
      refine cb_go (cons_go (ixT_go (j := 1) rfl (SqT.of (s3 _ _ hq)) rfl (nil_go (.inr ⟨m, rfl, nm, eq_same (ret H3 (s12.trans s3))⟩))))
    | was kd =>
      obtain ⟨q, rfl, hq⟩ := at2
      obtain ⟨x, dx', ex, hx⟩ := ob2
      cases ex
      refine tag_go rfl hq ⟨_, rfl, iteSf (decide_eq_false (by decide +kernel)) (next_go ?_)⟩
      try dsimp only
      refine seq_go ?_
      refine in2_go rfl hq fun H3 s3 => ⟨_, rfl, iteSf (decide_eq_false (by decide +kernel)) (next_go ?_)⟩
      try dsimp only
      refine ret_go (orV_go (tagN_go rfl (s3 _ _ hq) ⟨_, rfl, iteSf (by rw [decide_eq_true rfl]; rfl) ?_⟩))
      have kok := okKind_of ok bok
      have lk := kok.len
      refine op_go (cb_go (cons_go (fld_go rfl (s3 _ _ hx) CW.cl (CW.n _ (by simp)) rfl (nil_go (.inl ⟨kd, rfl, strOk_kind kok, by omega, ?_⟩)))))
      refine cb_go (cons_go (ixT_go (j := 1) rfl (SqT.of (s3 _ _ hq)) rfl (nil_go (.inl ⟨kd, rfl, strOk_kind kok, by omega, eq_same (ret H3 (s12.trans s3))⟩))))
    | _ =>
      obtain ⟨q, rfl, hq⟩ := at2
      refine tag_go rfl hq ⟨_, rfl, iteSf (decide_eq_false (by decide +kernel)) (next_go ?_)⟩
      try dsimp only
      refine seq_go ?_
      refine in2_go rfl hq fun H3 s3 => ⟨_, rfl, iteSf (decide_eq_false (by decide +kernel)) (next_go ?_)⟩
      try dsimp only
      refine ret_go (orV_go (tagN_go rfl (s3 _ _ hq) ⟨_, rfl, iteSe (by rw [decide_eq_false (by decide +kernel)]; rfl) ?_⟩))
      exact ret H3 (s12.trans s3)
theorem ok_isTestAll {p : Pkg} {TS RW : Addr} (T : Txt mg) (PK : PkgK K p TS RW) (IK : IsK K p TS RW) (mTest : mg "Test" = some (.ref TS)) (mRow : mg "Row" = some (.ref RW)) (mNot : mg "Not" = some (.ref p.CN)) (CW : ClsA K mg "Was" p.CW ["kind"]) (CO : ClsA K mg "OldBelow" p.CO ["number"]) (CB : ClsA K mg "NewBelow" p.CB ["number"]) (CN : ClsA K mg "Not" p.CN ["test"])
    (ShT : Shows P w K mg base 9 p.tests (TestSh p 2)) (g_law_test_text : Has P w K mg base 5 "_law_test_text" ["_law_test_here"] (spTestText 2)) (F : DefAt K mg "_law_is_test" s_law_is_test ["_law_made", "_law_test_here"]) : ∀ k : Nat, k ≤ 2 → Has P w K mg base (12 + k) "_law_is_test" ["_law_made", "_law_test_here"] (spIsTest p k)
  | 0, _ => by
    have g0 : Has P w K mg base 11 "_law_is_test" ["_law_made", "_law_test_here"] (spIsTestK p 0) := F.has sc_law_is_test (fun vs H Q E h => h.elim) (fun f cdv A outer s H vs Q E hr h => h.elim)
    exact ok_isTestD (by omega) (by omega) T PK IK mTest mRow mNot CW CO CB CN ShT g_law_test_text g0 F
  | k + 1, h => ok_isTestD (n := 12 + k) (by omega) h T PK IK mTest mRow mNot CW CO CB CN ShT g_law_test_text (ok_isTestAll T PK IK mTest mRow mNot CW CO CB CN ShT g_law_test_text F k (by omega)) F
end
end K14

set_option pp.maxSteps 600
namespace K14
open PySem L2 RZ PySem.Spec PyProof.Rows
mutual
theorem okRow.up {B : BookD} : ∀ {r : RowD} {k : Nat}, okRow B r k → okRow B r (k + 1)
  | .ife t a b, k, h => by
    unfold okRow at h ⊢
    obtain ⟨k', rfl, h1, h2, h3, h4, h5, h6⟩ := h
    exact ⟨k' + 1, rfl, h1, h2, h3, h4, okRowL.up h5, okRowL.up h6⟩
  | .add _ _ _ _, k, h => by unfold okRow at h ⊢; exact h
  | .put _ _, k, h => by unfold okRow at h ⊢; exact h
  | .mark _, k, h => by unfold okRow at h ⊢; exact h
theorem okRowL.up {B : BookD} : ∀ {rs : List RowD} {k : Nat}, okRowL B rs k → okRowL B rs (k + 1)
  | [], k, _ => by unfold okRowL; trivial
  | r :: rs, k, h => by
    unfold okRowL at h ⊢
    exact ⟨okRow.up h.1, okRowL.up h.2⟩
end
theorem okRow.mono {B : BookD} {r : RowD} {k : Nat} (h : okRow B r k) : ∀ {j : Nat}, k ≤ j → okRow B r j := fun {j} hj => by
  induction hj with
  | refl => exact h
  | step _ ih => exact ih.up
theorem okAny.three {B : BookD} {r : RowD} (h : okAny B r) : okRow B r 3 := by
  obtain ⟨k, hk, h⟩ := h
  exact h.mono hk
theorem Tp.ty {K : PySem.W.Frag} {H : Hp} {o : Addr} {xs : List V} (h : Tp K H o xs) : TyX K H (.ref o) (.type "tuple") := by
  rcases h with h | ⟨_, ⟨o, n, l, c, _⟩⟩
  · exact .base (.tup h)
  · exact .kTuple l c
theorem isiT_go {K : PySem.W.Frag} {i : Nat} {v : V} {t : Value} {D : String} {b : Bool} {σ : L2.St} {H : Hp} {Q : VK} (e : σ[i]? = some (some v)) (ty : TyX K H v t) (k : PySem.W.kitOne K t (.type D) = some b) (q : Q (.bl b) H) : tCB (rIsi K) (tCons (tVar i) (tCons (tC (.ty D)) tNil)) σ H Q := ⟨_, e, _, _, t, _, b, rfl, .ty _, ty, k, q⟩
theorem rowS_lenB {B : BookD} (ok : BkOk B) {r : RowD} (h : okRow B r 3) : (rowS r).length ≤ 1600000 := by
  have o : okRL [r] 3 := by unfold okRL okRL; exact ⟨okR_of ok h, trivial⟩
  have := rowsS_len o r (List.mem_singleton.mpr rfl)
  have e2 : Rb 3 ≤ 522558 := by decide
  omega
theorem rowS_okS {B : BookD} (ok : BkOk B) {r : RowD} (h : okRow B r 3) : PyData.strOk (rowS r) = true := strOk_join (by decide +kernel) (rowLines_okS ok h)
theorem cut1 {a : V} {xs : List V} : cutV (a :: xs) (some 1) none = xs := by
  unfold cutV
  rw [show HT.sIx (a :: xs).length 0 (some 1) = 1 from by
    show HT.sIx (a :: xs).length 0 (some ((1 : Nat) : Int)) = 1
    rw [HT.sIx_nat, List.length_cons]
    omega]
  show (xs).take ((a :: xs).length - 1) = xs
  rw [List.length_cons]
  exact List.take_of_length_le (by omega)
theorem cut1_not {a : V} {xs : List V} (h : xs ≠ []) : ¬ (HT.sIx (a :: xs).length 0 (some 1) = 0 ∧ HT.sIx (a :: xs).length (a :: xs).length none = (a :: xs).length) := by
  rintro ⟨z, _⟩
  revert z
  show ¬ HT.sIx (a :: xs).length 0 (some ((1 : Nat) : Int)) = 0
  rw [HT.sIx_nat, List.length_cons]
  omega
/-- two reprs of the same small data -/
theorem strs_len10 {w : Str} (h : w.length ≤ 6) : w.length ≤ 10 := by omega
def spIsRow (K : PySem.W.Frag) (p : Pkg) (k : Nat) : Sp := fun vs H Q _ => ∃ (v y : V) (r : RowD) (B : BookD), vs = [v, y] ∧ RowOb K p H r v ∧ RowAt H r y ∧ okRow B r k ∧ BkOk B ∧ ∀ H', Same H H' → Q (.bl true) H'
def spAreRows (K : PySem.W.Frag) (p : Pkg) (k : Nat) : Sp := fun vs H Q _ => ∃ (o x : Addr) (xs ys : List V) (rs : List RowD) (B : BookD), vs = [.ref o, .ref x] ∧ Tp K H o xs ∧ H x = some (.tup ys) ∧ RowObL K p H rs xs ∧ RowL H rs ys ∧ okRowL B rs k ∧ BkOk B ∧ ∀ H', Same H H' → Q (.bl true) H'
def spAreRowsK (K : PySem.W.Frag) (p : Pkg) : Nat → Sp
  | 0 => fun _ _ _ _ => False
  | k + 1 => spAreRows K p k
section
variable {P : Program} {w : World} {K : PySem.W.Frag} {mg : Str → Option Value} {base : Heap}
abbrev s_law_are_rows : Stmt := top 48
abbrev n_law_are_rows : List Str := ["_law_some", "_law_rows_here", "_law_made", "_law_row_here"]
theorem sc_law_are_rows : FnScope n_law_are_rows ["_law_some", "_law_rows_here"] (defScope s_law_are_rows) := ⟨rfl, rfl, rfl, by decide +kernel, rfl, by decide +kernel, by decide +kernel⟩
theorem ok_areRows {p : Pkg} {k n : Nat} (hn : 1 ≤ n) (T : Txt mg) (g_law_is_row : HasG P w K mg base n "_law_is_row" ["_law_made", "_law_row_here"] (spIsRow K p k)) (F : DefAt K mg "_law_are_rows" s_law_are_rows ["_law_some", "_law_rows_here"]) : HasG P w K mg base (n + 1) "_law_are_rows" ["_law_some", "_law_rows_here"] (spAreRows K p k) := by
  refine F.hasG sc_law_are_rows (fun vs H Q E h => ?_) (fun f cdv A outer s H vs Q hg hr h => ?_)
  · obtain ⟨o, x, xs, ys, rs, B, rfl, _⟩ := h
    rfl
  · have hu := hr.units
    obtain ⟨o, x, xs, ys, rs, B, rfl, tp, hx, ob, at', ok, bok, ret⟩ := h
    refine ⟨_, (pss_cons (ps_if (PW.pt (pw_or (pt_not (pt_val (pe_callB call_isi (by rfl) T.z_isinstance (by decide +kernel) (pa_cons (pv 0) (pa_cons (pe_bltn (v := .ty "tuple") (by rfl) T.z_tuple (by decide +kernel) rfl) pa_nil))))) (pw_or1 (pt_cmpR op_ne (pe_callB call_len_seq (by rfl) T.z_len (by decide +kernel) (pa_cons (pv 0) pa_nil)) (pe_callB call_len_seq (by rfl) T.z_len (by decide +kernel) (pa_cons (pv 1) pa_nil)) (nomark _))))) (pss_one (ps_ret pe_bl)) pss_nil)
      (pss_one (ps_ret (pe_cmpR (op_eqD hu) (pe_lc (own := [("_law_made", 2), ("_law_row_here", 3)]) (g := gTup K 2 (gCons (gName 2) (gCons (gName 3) gNil))) (by rfl) sc_law_are_rows.nd (pi_zipA (by rfl) T.z_zip (pa_cons (pv 0) (pa_cons (pv 1) pa_nil))) (blkOk_by (own := [("_law_made", 2), ("_law_row_here", 3)]) (N := n_law_are_rows) (sc := defScope s_law_are_rows) (by decide +kernel)) (fun _ _ _ _ _ => (pg_tup rfl (pgs_cons (pg_name (i := 2) sc_law_are_rows.nd rfl (Or.inl rfl)) (pgs_cons (pg_name (i := 3) sc_law_are_rows.nd rfl (Or.inl rfl)) pgs_nil)))) (fun _ _ _ _ _ => (pts_one (pt_not (pt_val (pe_callG g_law_is_row hg (hr.mono (by omega)) rfl (pa_cons (pv 2) (pa_cons (pv 3) pa_nil))))))) (fun _ _ _ _ _ => pe_int)) (pe_lst pa_nil) (nomark _))))), ?_⟩
    have lx := ob.len
    have ly := at'.len
    refine seq_go ?_
    refine isiT_go (b := true) rfl tp.ty (kit_ty (by decide +kernel)) ⟨_, rfl, iteSf rfl ?_⟩
    refine ⟨_, rfl, o, xs, rfl, .inr tp.sq, _, rfl, x, ys, rfl, .inr (SqT.of hx), rfl, _, rfl, iteSf (by rw [lx, ly]; simp) (next_go ?_)⟩
    try dsimp only
    refine ret_go (op_go ?_)
    refine ⟨_, rfl, _, rfl, o, x, xs, ys, rfl, .inr ⟨tp.sq, SqT.of hx, fun D hD => lc_it (walk_zipT (xs := xs) (ys := ys) (n := rs.length) (by rw [lx, ly, Nat.min_self])) (fun i H' => Same H H' ∧ H' D = some (.lst [])) ⟨(new_at hD).1, upd_same⟩ (fun i H' _ z => ⟨(tp.kp (ObKp.of z.1)).sq, SqT.of (z.1 _ _ hx)⟩) ?_ ?_⟩⟩
    · rintro i y H1' H1 hi ⟨s1, hD1⟩ ⟨T', v, u, rfl, hT, rfl, ev, eu⟩
      obtain ⟨r, er, obr⟩ := ob.at' ev
      obtain ⟨r', er', atr⟩ := at'.at' eu
      rw [er] at er'
      cases er'
      obtain ⟨s2, h2⟩ := new_at (o := .tup [v, u]) hT
      have s12 := s1.trans s2
      refine ⟨T', _, rfl, SqT.of h2, rfl, _, _, rfl, _, _, rfl, rfl, ?_⟩
      refine ⟨rfl, ?_⟩
      refine ⟨_, rfl, _, rfl, v, u, r, B, rfl, obr.kp (ObKp.of s12), atr.kp (TupKp.of s12), ok.get er, bok, fun H3 s3 => ⟨_, rfl, iteSf rfl ⟨s12.trans s3, s3 _ _ (s2 _ _ hD1)⟩⟩⟩
    · rintro H1 ⟨s1, hD1⟩
      refine lst_go (xs := []) (fun Q q => nil_go q) (by show 0 ≤ 1000; omega) fun H2 l2 s2 _ h2 => ?_
      exact ⟨.list [], .list [], .lst (SqL.of (s2 _ _ hD1)) .nil, .lst (SqL.of h2) .nil, by decide +kernel, by decide +kernel, ret H2 (s1.trans s2)⟩
abbrev s_law_is_row : Stmt := top 49
abbrev n_law_is_row : List Str := ["_law_made", "_law_row_here", "_law_is_good"]
theorem sc_law_is_row : FnScope n_law_is_row ["_law_made", "_law_row_here"] (defScope s_law_is_row) := ⟨rfl, rfl, rfl, by decide +kernel, rfl, by decide +kernel, by decide +kernel⟩
theorem ok_isRowD {p : Pkg} {TS RW : Addr} {k n : Nat} (hn : 29 ≤ n) (hk : k ≤ 3) (T : Txt mg) (PK : PkgK K p TS RW) (IK : IsK K p TS RW) (mTest : mg "Test" = some (.ref TS)) (mRow : mg "Row" = some (.ref RW)) (CA : ClsA K mg "Add" p.CA ["factor", "what", "total", "place"]) (CP : ClsA K mg "Put" p.CP ["note", "what"]) (CK : ClsA K mg "Mark" p.CK ["place"]) (CI : ClsA K mg "If" p.CI ["test", "rows", "others"])
    (ShR : Shows P w K mg base 27 p.rows (RowSh K p 3)) (g_law_row_lines : Has P w K mg base 9 "_law_row_lines" ["_law_rows_here"] (spRowLines K 3)) (g_law_is_test : Has P w K mg base 14 "_law_is_test" ["_law_made", "_law_test_here"] (spIsTest p 2)) (g_law_are_rows : HasG P w K mg base n "_law_are_rows" ["_law_some", "_law_rows_here"] (spAreRowsK K p k))
    (F : DefAt K mg "_law_is_row" s_law_is_row ["_law_made", "_law_row_here"]) : HasG P w K mg base (n + 1) "_law_is_row" ["_law_made", "_law_row_here"] (spIsRow K p k) := by
  refine F.hasG sc_law_is_row (fun vs H Q E h => ?_) (fun f cdv A outer s H vs Q hg hr h => ?_)
  · obtain ⟨v, y, r, B, rfl, _⟩ := h
    rfl
  · have hu := hr.units
    obtain ⟨v, y, r, B, rfl, ob, at', ok, bok, ret⟩ := h
    refine ⟨_, (pss_cons (ps_if (PW.pt (pw_or (pt_not (pt_val (pe_callB (call_isi_in (K := K) rfl) (by rfl) T.z_isinstance (by decide +kernel) (pa_cons (pv 0) (pa_cons (pe_glob (v := .ref RW) rfl mRow rfl) pa_nil))))) (pw_or (pt_val (pe_callB (call_isi_in (K := K) rfl) (by rfl) T.z_isinstance (by decide +kernel) (pa_cons (pv 0) (pa_cons (pe_glob (v := .ref TS) rfl mTest rfl) pa_nil)))) (pw_or1 (pt_cmpR op_ne (pe_callB call_reprTI (by rfl) T.z_repr (by decide +kernel) (pa_cons (pe_callTy (call_strCK rfl rfl rfl rfl rfl ShR (hr.mono (by omega))) (by rfl) T.z_str (by decide +kernel) (pa_cons (pv 0) pa_nil)) pa_nil)) (pe_callB call_reprTI (by rfl) T.z_repr (by decide +kernel) (pa_cons (pe_join pe_str (pe_callHas g_law_row_lines (hr.mono (by omega)) rfl (pa_cons (pe_lst (pa_cons (pv 1) pa_nil)) pa_nil))) pa_nil)) (nomark _)))))) (pss_one (ps_ret pe_bl)) pss_nil)
      (pss_cons (ps_if (pt_cmpR op_eq (pe_ix ix_tup (pv 1) pe_int (fun _ _ => rfl)) pe_str (nomark _)) (pss_cons (ps_set (i := 2) sc_law_is_row.nd rfl (Or.inl rfl) (pe_and (pe_callHas g_law_is_test (hr.mono (by omega)) rfl (pa_cons (pe_fld (pv 0) rfl) (pa_cons (pe_ix ix_tup (pv 1) pe_int (fun _ _ => rfl)) pa_nil))) (pe_one (pe_callG g_law_are_rows hg (hr.mono (by omega)) rfl (pa_cons (pe_fld (pv 0) rfl) (pa_cons (pe_ix ix_tup (pv 1) pe_int (fun _ _ => rfl)) pa_nil))))))
      (pss_one (ps_ret (pe_and (pv 2) (pe_one (pe_callG g_law_are_rows hg (hr.mono (by omega)) rfl (pa_cons (pe_fld (pv 0) rfl) (pa_cons (pe_ix ix_tup (pv 1) pe_int (fun _ _ => rfl)) pa_nil)))))))) pss_nil)
      (pss_cons (ps_if (pt_cmpR op_eq (pe_ix ix_tup (pv 1) pe_int (fun _ _ => rfl)) pe_str (nomark _)) (pss_one (ps_ret (pe_cmpR op_eq (pe_callB (call_reprD hg hu) (by rfl) T.z_repr (by decide +kernel) (pa_cons (pe_tup (pa_cons (pe_fld (pv 0) rfl) (pa_cons (pe_fld (pv 0) rfl) (pa_cons (pe_fld (pv 0) rfl) (pa_cons (pe_fld (pv 0) rfl) pa_nil))))) pa_nil)) (pe_callB (call_reprD hg hu) (by rfl) T.z_repr (by decide +kernel) (pa_cons (pe_slice sl_tup (pv 1) (po_some pe_int) po_none) pa_nil)) (nomark _)))) pss_nil)
      (pss_cons (ps_if (pt_cmpR op_eq (pe_ix ix_tup (pv 1) pe_int (fun _ _ => rfl)) pe_str (nomark _)) (pss_one (ps_ret (pe_cmpR op_eq (pe_callB (call_reprD hg hu) (by rfl) T.z_repr (by decide +kernel) (pa_cons (pe_tup (pa_cons (pe_fld (pv 0) rfl) (pa_cons (pe_fld (pv 0) rfl) pa_nil))) pa_nil)) (pe_callB (call_reprD hg hu) (by rfl) T.z_repr (by decide +kernel) (pa_cons (pe_slice sl_tup (pv 1) (po_some pe_int) po_none) pa_nil)) (nomark _)))) pss_nil)
      (pss_one (ps_ret (pe_cmpR op_eq (pe_callB call_reprTI (by rfl) T.z_repr (by decide +kernel) (pa_cons (pe_fld (pv 0) rfl) pa_nil)) (pe_callB call_reprTI (by rfl) T.z_repr (by decide +kernel) (pa_cons (pe_ix ix_tup (pv 1) pe_int (fun _ _ => rfl)) pa_nil)) (nomark _)))))))), ?_⟩
    have ok3 := ok.mono hk
    obtain ⟨a, C, dx, fs, rfl, ha, mC⟩ := ob.cls
    obtain ⟨oC, kR⟩ := PK.rows C mC
    have kT := IK.rt C mC
    have len := rowS_lenB bok ok3
    have okS := rowS_okS bok ok3
    have q1000 : (1000 : Nat) < sizeLine := by decide
    refine seq_go ?_
    refine isi_go rfl (oC.ty ha) kR ⟨_, rfl, iteSf rfl ?_⟩
    refine isi_go rfl (oC.ty ha) kT ⟨_, rfl, iteSf rfl ?_⟩
    refine ⟨_, rfl, _, rfl, a, C, dx, fs, rowS r, rfl, ha, mC, ⟨r, ob, okR_of bok ok3, rfl⟩, fun H1 s1 => ?_⟩
    have s1 : Same H H1 := s1
    refine .inl ⟨rowS r, rfl, okS, len, ?_⟩
    refine cb_go (cons_go ⟨⟨_, rfl⟩, ?_⟩)
    refine cons_go (lst_go (xs := [y]) (fun Q q => cons_go ⟨_, rfl, nil_go q⟩) (by show 1 ≤ 1000; omega) fun H2 l2 s2 _ h2 => nil_go ?_)
    have s12 := s1.trans s2
    have ok1 : okRowL B [r] 3 := by unfold okRowL okRowL; exact ⟨ok3, trivial⟩
    refine ⟨l2, [y], [r], B, rfl, .inl h2, ?_, ok1, bok, by show 1 ≤ 20; omega, fun H3 l3 s3 _ h3 => ?_⟩
    · unfold RowL RowL
      exact ⟨y, [], rfl, at'.kp (TupKp.of s12), rfl⟩
    have s3 : Same H2 H3 := s3
    rw [rowsLines_one] at h3
    refine ⟨_, l3, rowLines r, rfl, rfl, .inl (SqL.of h3), ?_, nil_go (.inl ⟨rowS r, rfl, okS, len, neS_go (next_go ?_)⟩)⟩
    · have a1 := sum_le_join "\n" (rowLines r)
      have a2 := rowLines_len (okR_of bok ok3)
      have a3 : NL 3 + 1 ≤ 1999 := by decide
      have e3 : ("\n" : Str).length = 1 := rfl
      have a4 : (Txt.join "\n" (rowLines r)).length ≤ 1600000 := len
      rw [e3]
      omega
    have s13 := s12.trans s3
    have ob3 := ob.kp (ObKp.of s13)
    have at3 := at'.kp (TupKp.of s13)
    try dsimp only
    refine seq_go ?_
    cases r with
    | ife t ra rb =>
      unfold RowAt at at3
      unfold RowOb at ob3
      unfold okRow at ok
      obtain ⟨q, u, x, z, xs, ys, rfl, hq, att, hx, atx, hz, atz⟩ := at3
      obtain ⟨a', dx', u', r1, o1, xs1, ys1, ea, ha3, obt, t1, ob1, t2, ob2⟩ := ob3
      cases ea
      obtain ⟨k', rfl, h1, h2', h3', h4', h5, h6⟩ := ok
      refine tag_go rfl hq ⟨_, rfl, iteSe (decide_eq_true rfl) ?_⟩
      refine seq_asg (andV_go ?_)
      refine cons_go (fld_go rfl ha3 CI.cl (CI.n _ (by simp)) rfl (cons_go (ixT_go (j := 1) rfl (SqT.of hq) rfl (nil_go ?_))))
      refine ⟨u', u, t, B, rfl, obt, att, h1, bok, h2', fun H4 s4 => ⟨_, rfl, iteSe rfl ?_⟩⟩
      refine cons_go (fld_go rfl (s4 _ _ ha3) CI.cl (CI.n _ (by simp)) rfl (cons_go (ixT_go (j := 2) rfl (SqT.of (s4 _ _ hq)) rfl (nil_go ?_))))
      refine ⟨r1, x, xs1, xs, ra, B, rfl, t1.kp (ObKp.of s4), s4 _ _ hx, ob1.kp (ObKp.of s4), atx.kp (TupKp.of s4), h5, bok, fun H5 s5 => name_go ?_⟩
      have s45 : Same H3 H5 := Same.trans s4 s5
      try dsimp only
      refine ret_go (andV_go ⟨_, rfl, _, rfl, iteSe rfl ?_⟩)
      refine cons_go (fld_go rfl (s45 _ _ ha3) CI.cl (CI.n _ (by simp)) rfl (cons_go (ixT_go (j := 3) rfl (SqT.of (s45 _ _ hq)) rfl (nil_go ?_))))
      exact ⟨o1, z, ys1, ys, rb, B, rfl, t2.kp (ObKp.of s45), s45 _ _ hz, ob2.kp (ObKp.of s45), atz.kp (TupKp.of s45), h6, bok, fun H6 s6 => ret H6 ((s13.trans s45).trans s6)⟩
    | add fc wh tt pl =>
      unfold RowAt at at3
      unfold RowOb at ob3
      unfold okRow at ok
      obtain ⟨q, rfl, hq⟩ := at3
      obtain ⟨a', dx', ea, ha3⟩ := ob3
      cases ea
      obtain ⟨f1, f2, ow, ot, op⟩ := ok
      have lw := okWhat_len ow bok
      have lt := nameB_len (bok.toks tt (List.mem_append_left _ ot))
      have lp : pl.length ≤ 6 := mem_len op (by decide +kernel)
      have sm : Sm 1 44 (.tuple [.int fc, .str wh, .str tt, .str pl]) := by
        refine Sm.mono (Sm.tup (n := 0) (b := 10) fun d hd => ?_) (Nat.le_refl _) (by show 11 * 4 ≤ 44; omega)
        simp only [List.mem_cons, List.not_mem_nil, or_false] at hd
        rcases hd with rfl | rfl | rfl | rfl
        · exact Sm.int (numOk_of ⟨by omega, by omega⟩)
        · exact Sm.str (strOk_what ow bok) (by omega)
        · exact Sm.str (strOk_name (bok.toks tt (List.mem_append_left _ ot))) (by omega)
        · exact Sm.str (strOk_all op (by decide +kernel)) (by omega)
      refine tag_go rfl hq ⟨_, rfl, iteSf (decide_eq_false (by decide +kernel)) (next_go ?_)⟩
      try dsimp only
      refine seq_go ?_
      refine tag_go rfl hq ⟨_, rfl, iteSe (decide_eq_true rfl) ?_⟩
      refine ret_go (op_go (cb_go (cons_go (tupc_go (xs := [.int fc, .str wh, .str tt, .str pl]) (fun Q q => cons_go (fld_go rfl ha3 CA.cl (CA.n _ (by simp)) rfl (cons_go (fld_go rfl ha3 CA.cl (CA.n _ (by simp)) rfl (cons_go (fld_go rfl ha3 CA.cl (CA.n _ (by simp)) rfl (cons_go (fld_go rfl ha3 CA.cl (CA.n _ (by simp)) rfl (nil_go q))))))))) (by show 4 ≤ 1000; omega) fun H4 t4 s4 _ h4 => nil_go ?_))))
      refine Sm.repr sm (by omega) (by omega) (.tup (SqT.of h4) (.cons (.int _) (.cons (.str _) (.cons (.str _) (.cons (.str _) .nil))))) ?_
      refine cb_go (cons_go ⟨_, rfl, 1, rfl, q, _, rfl, SqT.of (s4 _ _ hq), cut1_not (fun z => nomatch z), fun t5 ht5 => nil_go ?_⟩)
      rw [cut1]
      obtain ⟨s5, h5⟩ := new_at (o := .tup [.int fc, .str wh, .str tt, .str pl]) ht5
      refine Sm.repr sm (by omega) (by omega) (.tup (SqT.of h5) (.cons (.int _) (.cons (.str _) (.cons (.str _) (.cons (.str _) .nil))))) (eq_same ?_)
      exact ret _ ((s13.trans s4).trans s5)
    | put nt wh =>
      unfold RowAt at at3
      unfold RowOb at ob3
      unfold okRow at ok
      obtain ⟨q, rfl, hq⟩ := at3
      obtain ⟨a', dx', ea, ha3⟩ := ob3
      cases ea
      obtain ⟨on, ow⟩ := ok
      have lw := okWhat_len ow bok
      have ln := nameB_len (bok.toks nt (List.mem_append_right _ on))
      have sm : Sm 1 22 (.tuple [.str nt, .str wh]) := by
        refine Sm.mono (Sm.tup (n := 0) (b := 10) fun d hd => ?_) (Nat.le_refl _) (by show 11 * 2 ≤ 22; omega)
        simp only [List.mem_cons, List.not_mem_nil, or_false] at hd
        rcases hd with rfl | rfl
        · exact Sm.str (strOk_name (bok.toks nt (List.mem_append_right _ on))) (by omega)
        · exact Sm.str (strOk_what ow bok) (by omega)
      refine tag_go rfl hq ⟨_, rfl, iteSf (decide_eq_false (by decide +kernel)) (next_go ?_)⟩
      try dsimp only
      refine seq_go ?_
      refine tag_go rfl hq ⟨_, rfl, iteSf (decide_eq_false (by decide +kernel)) (next_go ?_)⟩
      try dsimp only
      refine seq_go ?_
      refine tag_go rfl hq ⟨_, rfl, iteSe (decide_eq_true rfl) ?_⟩
      refine ret_go (op_go (cb_go (cons_go (tupc_go (xs := [.str nt, .str wh]) (fun Q q => cons_go (fld_go rfl ha3 CP.cl (CP.n _ (by simp)) rfl (cons_go (fld_go rfl ha3 CP.cl (CP.n _ (by simp)) rfl (nil_go q))))) (by show 2 ≤ 1000; omega) fun H4 t4 s4 _ h4 => nil_go ?_))))
      refine Sm.repr sm (by omega) (by omega) (.tup (SqT.of h4) (.cons (.str _) (.cons (.str _) .nil))) ?_
      refine cb_go (cons_go ⟨_, rfl, 1, rfl, q, _, rfl, SqT.of (s4 _ _ hq), cut1_not (fun z => nomatch z), fun t5 ht5 => nil_go ?_⟩)
      rw [cut1]
      obtain ⟨s5, h5⟩ := new_at (o := .tup [.str nt, .str wh]) ht5
      refine Sm.repr sm (by omega) (by omega) (.tup (SqT.of h5) (.cons (.str _) (.cons (.str _) .nil))) (eq_same ?_)
      exact ret _ ((s13.trans s4).trans s5)
    | mark pl =>
      unfold RowAt at at3
      unfold RowOb at ob3
      unfold okRow at ok
      obtain ⟨q, rfl, hq⟩ := at3
      obtain ⟨a', dx', ea, ha3⟩ := ob3
      cases ea
      have lp : pl.length ≤ 6 := mem_len ok (by decide +kernel)
      have so : PyData.strOk pl = true := strOk_all ok (by decide +kernel)
      refine tag_go rfl hq ⟨_, rfl, iteSf (decide_eq_false (by decide +kernel)) (next_go ?_)⟩
      try dsimp only
      refine seq_go ?_
      refine tag_go rfl hq ⟨_, rfl, iteSf (decide_eq_false (by decide +kernel)) (next_go ?_)⟩
      try dsimp only
      refine seq_go ?_
      refine tag_go rfl hq ⟨_, rfl, iteSf (decide_eq_false (by decide +kernel)) (next_go ?_)⟩
      try dsimp only
      refine ret_go (op_go (cb_go (cons_go (fld_go rfl ha3 CK.cl (CK.n _ (by simp)) rfl (nil_go (.inl ⟨pl, rfl, so, by omega, ?_⟩))))))
      refine cb_go (cons_go (ixT_go (j := 1) rfl (SqT.of hq) rfl (nil_go (.inl ⟨pl, rfl, so, by omega, eq_same (ret _ s13)⟩))))
theorem ok_isRowAll {p : Pkg} {TS RW : Addr} (T : Txt mg) (PK : PkgK K p TS RW) (IK : IsK K p TS RW) (mTest : mg "Test" = some (.ref TS)) (mRow : mg "Row" = some (.ref RW)) (CA : ClsA K mg "Add" p.CA ["factor", "what", "total", "place"]) (CP : ClsA K mg "Put" p.CP ["note", "what"]) (CK : ClsA K mg "Mark" p.CK ["place"]) (CI : ClsA K mg "If" p.CI ["test", "rows", "others"])
    (ShR : Shows P w K mg base 27 p.rows (RowSh K p 3)) (g_law_row_lines : Has P w K mg base 9 "_law_row_lines" ["_law_rows_here"] (spRowLines K 3)) (g_law_is_test : Has P w K mg base 14 "_law_is_test" ["_law_made", "_law_test_here"] (spIsTest p 2)) (FA : DefAt K mg "_law_are_rows" s_law_are_rows ["_law_some", "_law_rows_here"]) (F : DefAt K mg "_law_is_row" s_law_is_row ["_law_made", "_law_row_here"]) : ∀ k : Nat, k ≤ 3 → HasG P w K mg base (30 + 2 * k) "_law_is_row" ["_law_made", "_law_row_here"] (spIsRow K p k)
  | 0, _ => by
    have g0 : HasG P w K mg base 29 "_law_are_rows" ["_law_some", "_law_rows_here"] (spAreRowsK K p 0) := FA.hasG sc_law_are_rows (fun vs H Q E h => h.elim) (fun f cdv A outer s H vs Q hg hr h => h.elim)
    exact ok_isRowD (by omega) (by omega) T PK IK mTest mRow CA CP CK CI ShR g_law_row_lines g_law_is_test g0 F
  | k + 1, h => ok_isRowD (n := 30 + 2 * k + 1) (by omega) h T PK IK mTest mRow CA CP CK CI ShR g_law_row_lines g_law_is_test (ok_areRows (n := 30 + 2 * k) (by omega) T (ok_isRowAll T PK IK mTest mRow CA CP CK CI ShR g_law_row_lines g_law_is_test FA F k (by omega)) FA) F
end
end K14

set_option pp.maxSteps 600
namespace K14
open PySem L2 RZ PySem.Spec PyProof.Rows
/-! ## tests and rows written down -/
section
variable {K : PySem.W.Frag} {p : Pkg} {σ : L2.St} {H : Hp} {Q : VK} {E : XK}
theorem moved_go (q : ∀ H' x, Same H H' → TestOb p H' (.ref x) .moved → Q (.ref x) H') : tMake00 p.CM σ H Q := fun x dx hx hdx nd => q _ x (laid hx hdx nd) ⟨x, dx, rfl, upd_same⟩
theorem noted_go (q : ∀ H' x, Same H H' → TestOb p H' (.ref x) .noted → Q (.ref x) H') : tMake00 p.CT σ H Q := fun x dx hx hdx nd => q _ x (laid hx hdx nd) ⟨x, dx, rfl, upd_same⟩
theorem mark_go {pl : Str} (hp : pl ∈ mrkL) (q : ∀ H' x, Same H H' → RowOb K p H' (.mark pl) (.ref x) → Q (.ref x) H') : tMake p.CK (spMarkI p.CK) [] E (tCons (tC (.str pl)) tNil) σ H Q := fun x dx hx hdx nd => ⟨x, dx, pl, rfl, upd_same, hp, fun H1 s1 => ⟨rfl, q _ x (fun z u e => (upd_ne (ne_of_none e hx)).trans (s1 _ _ (laid (C := p.CK) hx hdx nd _ _ e))) (by unfold RowOb; exact ⟨x, dx, rfl, upd_same⟩)⟩⟩
theorem put_go {n wh : Str} (hn : nameB n = true) (hw : okW wh) (q : ∀ H' x, Same H H' → RowOb K p H' (.put n wh) (.ref x) → Q (.ref x) H') : tMake p.CP (spPutI p.CP) [] E (tCons (tC (.str n)) (tCons (tC (.str wh)) tNil)) σ H Q := fun x dx hx hdx nd => ⟨x, dx, n, wh, rfl, upd_same, hn, hw, rfl, q _ x (laid2 hx hdx nd) (by unfold RowOb; exact ⟨x, dx, rfl, upd_same⟩)⟩
theorem add_go {f : Int} {wh t pl : Str} (hw : okW wh) (ht : nameB t = true) (hp : pl ∈ plcL) (q : ∀ H' x, Same H H' → RowOb K p H' (.add f wh t pl) (.ref x) → Q (.ref x) H') : tMake p.CA (spAddI p.CA) [] E (tCons (tC (.int f)) (tCons (tC (.str wh)) (tCons (tC (.str t)) (tCons (tC (.str pl)) tNil)))) σ H Q := fun x dx hx hdx nd => ⟨x, dx, f, wh, t, pl, rfl, upd_same, hw, ht, hp, fun H1 s1 => ⟨rfl, q _ x (fun z u e => (upd_ne (ne_of_none e hx)).trans (s1 _ _ (laid (C := p.CA) hx hdx nd _ _ e))) (by unfold RowOb; exact ⟨x, dx, rfl, upd_same⟩)⟩⟩
theorem was_go {k : Str} (hk : okKind k) (q : ∀ H' x, Same H H' → TestOb p H' (.ref x) (.was k) → Q (.ref x) H') : tMake p.CW (spWasI p.CW) [] E (tCons (tC (.str k)) tNil) σ H Q := fun x dx hx hdx nd => ⟨x, dx, k, rfl, upd_same, hk, rfl, q _ x (laid2 hx hdx nd) ⟨x, dx, rfl, upd_same⟩⟩
theorem old_go {n : Int} (q : ∀ H' x, Same H H' → TestOb p H' (.ref x) (.cut true n) → Q (.ref x) H') : tMake p.CO (spNumI p.CO) [] E (tCons (tC (.int n)) tNil) σ H Q := fun x dx hx hdx nd => ⟨x, dx, n, rfl, upd_same, rfl, q _ x (laid2 hx hdx nd) ⟨x, dx, rfl, upd_same⟩⟩
theorem new_go {n : Int} (q : ∀ H' x, Same H H' → TestOb p H' (.ref x) (.cut false n) → Q (.ref x) H') : tMake p.CB (spNumI p.CB) [] E (tCons (tC (.int n)) tNil) σ H Q := fun x dx hx hdx nd => ⟨x, dx, n, rfl, upd_same, rfl, q _ x (laid2 hx hdx nd) ⟨x, dx, rfl, upd_same⟩⟩
theorem not_made {x dx : Addr} {u : V} {t : TestD} {R : Hp → Prop} (hx : H x = none) (hdx : H dx = none) (nd : dx ≠ x) (ot : TestOb p H u t) (q : ∀ H', Same H H' → TestOb p H' (.ref x) (.not t) → R H') : spNotI p [.ref x, u] (upd (upd H dx (.own x)) x (.ins p.CN dx [])) (fun v H2 => v = .non ∧ R H2) E :=
  ⟨x, dx, u, t, rfl, upd_same, ot.kp (ObKp.of (laid (C := p.CN) hx hdx nd)), rfl, q _ (laid2 hx hdx nd) ⟨x, dx, u, rfl, upd_same, ot.kp (ObKp.of (laid2 hx hdx nd))⟩⟩
theorem if_made {x dx r o : Addr} {u : V} {t : TestD} {xs ys : List V} {rs os : List RowD} {R : Hp → Prop} (hx : H x = none) (hdx : H dx = none) (nd : dx ≠ x) (ot : TestOb p H u t) (sr : Sq K H r xs) (ro : RowObL K p H rs xs) (so : Sq K H o ys) (oo : RowObL K p H os ys) (l1 : rs.length ≤ 1000) (l2 : os.length ≤ 1000)
    (q : ∀ H', Same H H' → RowOb K p H' (.ife t rs os) (.ref x) → R H') : spIfI K p [.ref x, u, .ref r, .ref o] (upd (upd H dx (.own x)) x (.ins p.CI dx [])) (fun v H2 => v = .non ∧ R H2) E := by
  have sl := laid (C := p.CI) hx hdx nd
  refine ⟨x, dx, u, t, r, o, xs, ys, rs, os, rfl, upd_same, ot.kp (ObKp.of sl), sr.same sl, ro.kp (ObKp.of sl), so.same sl, oo.kp (ObKp.of sl), l1, l2, fun H' r' o' kp tr tq h => ⟨rfl, ?_⟩⟩
  have sf : Same H H' := fun z u e => kp z u (ne_of_none e hx) (sl _ _ e)
  refine q H' sf ?_
  unfold RowOb
  exact ⟨x, dx, u, r', o', xs, ys, rfl, h, ot.kp (ObKp.of sf), tr, ro.kp (ObKp.of sf), tq, oo.kp (ObKp.of sf)⟩
end
/-- the classes' inits, as they stand -/
structure MkAll (P : Program) (w : World) (K : PySem.W.Frag) (mg : Str → Option Value) (base : Heap) (p : Pkg) : Prop where
  t : TestsMk P w K mg base p
  r : RowsMk P w K mg base p
def spKept : Sp := fun vs H Q _ => ∃ (y : V) (r : RowD) (B : BookD), vs = [y] ∧ RowAt H r y ∧ okRow B r 3 ∧ BkOk B ∧ ∀ H', Same H H' → Q (.bl true) H'
section
variable {P : Program} {w : World} {K : PySem.W.Frag} {mg : Str → Option Value} {base : Heap}
abbrev s_law_lists_kept : Stmt := top 50
abbrev n_law_lists_kept : List Str := ["_law_row_here", "_law_some", "_law_more", "_law_made"]
theorem sc_law_lists_kept : FnScope n_law_lists_kept ["_law_row_here"] (defScope s_law_lists_kept) := ⟨rfl, rfl, rfl, by decide +kernel, rfl, by decide +kernel, by decide +kernel⟩
theorem ok_kept {p : Pkg} (T : Txt mg) (MA : MkAll P w K mg base p) (g_law_test_of : Has P w K mg base 9 "_law_test_of" ["_law_test_here"] (spTestOf p 2)) (g_law_rows_of : Has P w K mg base 17 "_law_rows_of" ["_law_rows_here"] (spRowsOf K p 3)) (g_law_is_row : HasG P w K mg base 36 "_law_is_row" ["_law_made", "_law_row_here"] (spIsRow K p 3))
    (F : DefAt K mg "_law_lists_kept" s_law_lists_kept ["_law_row_here"]) : HasG P w K mg base 37 "_law_lists_kept" ["_law_row_here"] spKept := by
  obtain ⟨fI, fdI, MI, g_I, bI⟩ := MA.r.mI.ex
  have CI := MA.r.mI.cls
  obtain ⟨fK, fdK, MK, g_K, bK⟩ := MA.r.mK.ex
  have CK := MA.r.mK.cls
  refine F.hasG sc_law_lists_kept (fun vs H Q E h => ?_) (fun f cdv A outer s H vs Q hg hr h => ?_)
  · obtain ⟨y, r, B, rfl, _⟩ := h
    rfl
  · have hu := hr.units
    obtain ⟨y, r, B, rfl, at', ok, bok, ret⟩ := h
    refine ⟨_, (pss_cons (ps_if (pt_cmpR op_ne (pe_ix ix_tup (pv 0) pe_int (fun _ _ => rfl)) pe_str (nomark _)) (pss_one (ps_ret pe_bl)) pss_nil)
      (pss_cons (ps_par (i := 1) (j := 2) (by rfl) sc_law_lists_kept.nd rfl rfl (by decide) rfl rfl (pa_cons (pe_callHas g_law_rows_of (hr.mono (by omega)) rfl (pa_cons (pe_ix ix_tup (pv 0) pe_int (fun _ _ => rfl)) pa_nil)) (pa_cons (pe_callHas g_law_rows_of (hr.mono (by omega)) rfl (pa_cons (pe_ix ix_tup (pv 0) pe_int (fun _ _ => rfl)) pa_nil)) pa_nil)) (by rfl))
      (pss_cons (ps_set (i := 3) sc_law_lists_kept.nd rfl (Or.inl rfl) (pe_make MI g_I (hr.mono (by omega)) rfl CI.m bI .nil pass0 (pa_cons (pe_callHas g_law_test_of (hr.mono (by omega)) rfl (pa_cons (pe_ix ix_tup (pv 0) pe_int (fun _ _ => rfl)) pa_nil)) (pa_cons (pv 1) (pa_cons (pv 2) pa_nil)))))
      (pss_cons (ps_expr (pe_bm PySem.F.plainAttrs_list PySem.F.slot_list_append PySem.F.type_list_append mt_append (pv 1) (pa_cons (pe_make MK g_K (hr.mono (by omega)) rfl CK.m bK .nil pass0 (pa_cons pe_str pa_nil)) pa_nil)))
      (pss_cons (ps_expr (pe_bm0 PySem.F.plainAttrs_list PySem.F.slot_list_clear PySem.F.type_list_clear mt_clear (pv 2)))
      (pss_one (ps_ret (pe_callG g_law_is_row hg (hr.mono (by omega)) rfl (pa_cons (pv 3) (pa_cons (pv 0) pa_nil)))))))))), ?_⟩
    have q1000 : (1000 : Nat) < sizeLine := by decide
    refine seq_go ?_
    cases r with
    | ife t ra rb =>
      have ok0 := ok
      have at0 := at'
      unfold RowAt at at'
      unfold okRow at ok
      obtain ⟨q, u, x, z, xs, ys, rfl, hq, att, hx, atx, hz, atz⟩ := at'
      obtain ⟨k', ek, h1, h2', h3', h4', h5, h6⟩ := ok
      obtain rfl : k' = 2 := by omega
      refine tagN_go rfl hq ⟨_, rfl, iteSf (by rw [decide_eq_true rfl]; rfl) (next_go ?_)⟩
      try dsimp only
      refine seq_par (cons_go (cons_go (ixT_go (j := 2) rfl (SqT.of hq) rfl (nil_go ?_))))
      refine ⟨x, xs, ra, B, rfl, .inr (.inl hx), atx, h5.up, bok, by omega, fun H1 l1 y1 s1 n1 h1' r1 => ?_⟩
      have s1 : Same H H1 := s1
      refine cons_go (cons_go (ixT_go (j := 3) rfl (SqT.of (s1 _ _ hq)) rfl (nil_go ?_)))
      refine ⟨z, ys, rb, B, rfl, .inr (.inl (s1 _ _ hz)), atz.kp (TupKp.of s1), h6.up, bok, by omega, fun H2 l2 y2 s2 n2 h2 r2 => nil_go ⟨_, _, rfl, ?_⟩⟩
      have s2 : Same H1 H2 := s2
      have s12 := s1.trans s2
      try dsimp only
      refine seq_asg (make_go (cons_go (cons_go (ixT_go (j := 1) rfl (SqT.of (s12 _ _ hq)) rfl (nil_go ?_)))))
      refine ⟨u, t, B, rfl, att.kp (TupKp.of s12), h1, bok, h2', fun H3 u3 s3 ob3 => cons_go ⟨_, rfl, cons_go ⟨_, rfl, nil_go ?_⟩⟩⟩
      have s3 : Same H2 H3 := s3
      intro xi dxi hxi hdxi ndi
      have h13 := s3 _ _ (s2 _ _ h1')
      have h23 := s3 _ _ h2
      refine if_made hxi hdxi ndi ob3 (.inl h13) (r1.kp (ObKp.of (s2.trans s3))) (.inl h23) (r2.kp (ObKp.of s3)) (by omega) (by omega) fun H4 s4 ob4 => name_go ?_
      have h14 := s4 _ _ h13
      have h24 := s4 _ _ h23
      have s04 := (s12.trans s3).trans s4
      have n12 : l2 ≠ l1 := fun e => by rw [e, h1'] at n2; cases n2
      have n1' : H l1 = none := n1
      have n2' : H l2 = none := back s1 n2
      try dsimp only
      refine seq_go ⟨_, rfl, .inl ⟨rfl, _, SqL.of h14⟩, cons_go ?_⟩
      refine mark_go (K := K) (by decide +kernel) fun H5 xm s5 obm => nil_go ⟨l1, y1, _, rfl, rfl, s5 _ _ h14, ?_, ?_⟩
      · have := r1.len
        omega
      try dsimp only
      have h25 : upd H5 l1 (.lst (y1 ++ [V.ref xm])) l2 = some (.lst y2) := (upd_ne n12).trans (s5 _ _ h24)
      have o5 : ObKp H5 (upd H5 l1 (.lst (y1 ++ [V.ref xm]))) := ObKp.lst (s5 _ _ h14)
      have s05 : Same H (upd H5 l1 (.lst (y1 ++ [V.ref xm]))) := fun c o e => (upd_ne (ne_of_none e n1')).trans (s5 _ _ (s04 _ _ e))
      have ob5 := ((ob4.kp (ObKp.of s5)).kp o5)
      generalize upd H5 l1 (.lst (y1 ++ [V.ref xm])) = H6 at *
      refine seq_go ⟨_, rfl, .inl ⟨rfl, _, SqL.of h25⟩, l2, _, rfl, rfl, h25, ?_⟩
      have s06 : Same H (upd H6 l2 (.lst [])) := fun c o e => (upd_ne (ne_of_none e n2')).trans (s05 _ _ e)
      have ob6 := ob5.kp (ObKp.lst h25 (o := .lst []))
      try dsimp only
      refine ret_go ?_
      exact ⟨_, rfl, _, rfl, _, _, _, B, rfl, ob6, at0.kp (TupKp.of s06), ok0, bok, fun H7 s7 => ret H7 (s06.trans s7)⟩
    | _ =>
      obtain ⟨q, zs, rfl, hq⟩ := at'.tag
      refine tagN_go rfl hq ⟨_, rfl, iteSe (by rw [decide_eq_false (by simp only [tagR]; decide +kernel)]; rfl) ?_⟩
      exact ret_go (ret H (Same.refl H))
end
end K14

set_option pp.maxSteps 600
namespace K14
open PySem L2 RZ PySem.Spec PyProof.Rows
/-- a book in whose names the written tests and rows are -/
def bookW : BookD := ⟨["up"], [], [3], ["n"], ["n"], [], [], []⟩
theorem bookW_ok : BkOk bookW := ⟨by decide, by decide, by decide, by decide, by decide, by decide +kernel, by decide +kernel, by decide, by decide⟩
theorem rm (pl : Str) (h : pl ∈ mrkL) (k : Nat) : okRow bookW (.mark pl) k := by unfold okRow; exact h
theorem rl0 (k : Nat) : okRowL bookW [] k := by unfold okRowL; trivial
theorem rl1 {r : RowD} {k : Nat} (h : okRow bookW r k) : okRowL bookW [r] k := by unfold okRowL okRowL; exact ⟨h, trivial⟩
theorem ri {t : TestD} {a b : List RowD} (ht : okTest bookW t) (d : tdep t ≤ 2) (la : a.length ≤ 3) (lb : b.length ≤ 3) (ha : okRowL bookW a 2) (hb : okRowL bookW b 2) : okRow bookW (.ife t a b) 3 := by unfold okRow; exact ⟨2, rfl, ht, d, la, lb, ha, hb⟩
theorem rp : okRow bookW (.put "n" "old") 3 := by unfold okRow; exact ⟨by decide +kernel, .inl (by decide +kernel)⟩
theorem ra : okRow bookW (.add 1 "old" "n" "old") 3 := by unfold okRow; exact ⟨by decide, by decide, .inl (by decide +kernel), by decide +kernel, by decide +kernel⟩
def spUnlike : Sp := fun vs H Q _ => vs = [] ∧ ∀ H', Same H H' → Q (.bl true) H'
section
variable {P : Program} {w : World} {K : PySem.W.Frag} {mg : Str → Option Value} {base : Heap}
abbrev s_law_unlike_right : Stmt := top 51
abbrev n_law_unlike_right : List Str := []
theorem sc_law_unlike_right : FnScope n_law_unlike_right [] (defScope s_law_unlike_right) := ⟨rfl, rfl, rfl, by decide +kernel, rfl, by decide +kernel, by decide +kernel⟩
theorem ok_unlikeRight {p : Pkg} {fI tI : Addr} {fdI : FuncData} {dsI : List Value} (T : Txt mg) (MA : MkAll P w K mg base p) (CI : ClsA K mg "If" p.CI ["test", "rows", "others"]) (MI : Mk K p.CI fI) (g_I : FnOk P w K mg base CX0 3 fI fdI ["self", "test", "rows", "others"] (spIfI K p)) (bI : Binds K fdI ["self", "test", "rows", "others"] []) (bI1 : Binds K fdI ["self", "test", "rows", "others"] dsI) (vI1 : Vals [.ref tI] dsI) (N0 : NoRows K tI)
    (CM : CmpK K p) (EqT : EqCls P w K mg base 30 p.tests (spEqC K p.tests (TestSh p 2))) (EqR : EqCls P w K mg base 30 p.rows (spEqC K p.rows (RowSh K p 3))) (F : DefAt K mg "_law_unlike_right" s_law_unlike_right []) : Has P w K mg base 32 "_law_unlike_right" [] spUnlike := by
  obtain ⟨fK, fdK, MK, g_K, bK⟩ := MA.r.mK.ex
  obtain ⟨fP, fdP, MP, g_P, bP⟩ := MA.r.mP.ex
  obtain ⟨fA, fdA, MA', g_A, bA⟩ := MA.r.mA.ex
  obtain ⟨fW, fdW, MW, g_W, bW⟩ := MA.t.W.ex
  obtain ⟨fO, fdO, MO, g_O, bO⟩ := MA.t.O.ex
  obtain ⟨fB, fdB, MB, g_B, bB⟩ := MA.t.B.ex
  obtain ⟨fN, fdN, MN, g_N, bN⟩ := MA.t.N.ex
  have CK := MA.r.mK.cls
  have CP := MA.r.mP.cls
  have CA := MA.r.mA.cls
  have CW := MA.t.W.cls
  have CO := MA.t.O.cls
  have CB := MA.t.B.cls
  have CN := MA.t.N.cls
  have MMoved := MA.t.M
  have mMoved := MA.t.mM
  have MNoted := MA.t.T
  have mNoted := MA.t.mT
  have MA := MA'
  refine F.has sc_law_unlike_right (fun vs H Q E h => ?_) (fun f cdv A outer s H vs Q E hr h => ?_)
  · obtain ⟨rfl, _⟩ := h
    rfl
  · obtain ⟨rfl, ret⟩ := h
    refine ⟨_, (pss_cons (ps_if (PW.pt (pw_or (pt_cmpR (op_eqCK rfl rfl rfl rfl rfl EqR (hr.mono (by omega))) (pe_make MI g_I (hr.mono (by omega)) rfl CI.m bI1 vI1 pass0 (pa_cons (pe_make00 MMoved rfl mMoved) (pa_cons (pe_lst (pa_cons (pe_make MK g_K (hr.mono (by omega)) rfl CK.m bK .nil pass0 (pa_cons pe_str pa_nil)) pa_nil)) pa_nil))) (pe_make MI g_I (hr.mono (by omega)) rfl CI.m bI .nil pass0 (pa_cons (pe_make00 MMoved rfl mMoved) (pa_cons (pe_lst pa_nil) (pa_cons (pe_lst (pa_cons (pe_make MK g_K (hr.mono (by omega)) rfl CK.m bK .nil pass0 (pa_cons pe_str pa_nil)) pa_nil)) pa_nil)))) (nomark _)) (pw_or1 (pt_cmpR (op_neCK rfl rfl rfl rfl rfl EqR (hr.mono (by omega))) (pe_make MI g_I (hr.mono (by omega)) rfl CI.m bI1 vI1 pass0 (pa_cons (pe_make00 MNoted rfl mNoted) (pa_cons (pe_tup pa_nil) pa_nil))) (pe_make MI g_I (hr.mono (by omega)) rfl CI.m bI .nil pass0 (pa_cons (pe_make00 MNoted rfl mNoted) (pa_cons (pe_lst pa_nil) (pa_cons (pe_lst pa_nil) pa_nil)))) (nomark _))))) (pss_one (ps_ret pe_bl)) pss_nil)
      (pss_cons (ps_if (PW.pt (pw_or (pt_cmpR (op_eqCK rfl rfl rfl rfl rfl EqR (hr.mono (by omega))) (pe_make MP g_P (hr.mono (by omega)) rfl CP.m bP .nil pass0 (pa_cons pe_str (pa_cons pe_str pa_nil))) (pe_make MA g_A (hr.mono (by omega)) rfl CA.m bA .nil pass0 (pa_cons pe_int (pa_cons pe_str (pa_cons pe_str (pa_cons pe_str pa_nil))))) (nomark _)) (pw_or (pt_cmpR (op_eqCK rfl rfl rfl rfl rfl EqT (hr.mono (by omega))) (pe_make MW g_W (hr.mono (by omega)) rfl CW.m bW .nil pass0 (pa_cons pe_str pa_nil)) (pe_make MW g_W (hr.mono (by omega)) rfl CW.m bW .nil pass0 (pa_cons pe_str pa_nil)) (nomark _)) (pw_or1 (pt_cmpR (op_eqCK rfl rfl rfl rfl rfl EqT (hr.mono (by omega))) (pe_make MO g_O (hr.mono (by omega)) rfl CO.m bO .nil pass0 (pa_cons pe_int pa_nil)) (pe_make MB g_B (hr.mono (by omega)) rfl CB.m bB .nil pass0 (pa_cons pe_int pa_nil)) (nomark _)))))) (pss_one (ps_ret pe_bl)) pss_nil)
      (pss_one (ps_ret (pe_and (pe_cmpR (op_neCK rfl rfl rfl rfl rfl EqR (hr.mono (by omega))) (pe_make MK g_K (hr.mono (by omega)) rfl CK.m bK .nil pass0 (pa_cons pe_str pa_nil)) (pe_make MK g_K (hr.mono (by omega)) rfl CK.m bK .nil pass0 (pa_cons pe_str pa_nil)) (nomark _)) (pe_and (pe_cmpR (op_neCK rfl rfl rfl rfl rfl EqT (hr.mono (by omega))) (pe_make00 MMoved rfl mMoved) (pe_make00 MNoted rfl mNoted) (nomark _)) (pe_and (pe_cmpR (op_neCK rfl rfl rfl rfl rfl EqT (hr.mono (by omega))) (pe_make MN g_N (hr.mono (by omega)) rfl CN.m bN .nil pass0 (pa_cons (pe_make00 MMoved rfl mMoved) pa_nil)) (pe_make00 MMoved rfl mMoved) (nomark _)) (pe_one (pe_cmpR (op_eqCK rfl rfl rfl rfl rfl EqT (hr.mono (by omega))) (pe_make00 MMoved rfl mMoved) (pe_make00 MMoved rfl mMoved) (nomark _)))))))))), ?_⟩
    have q1000 : (1000 : Nat) < sizeLine := by decide
    have one : (1 : Nat) ≤ sizeLine := by omega
    have o3 : ∀ {r : RowD}, okRow bookW r 3 → okR r 3 := fun h => okR_of bookW_ok h
    have no : ∀ H', RowObL K p H' [] [] := fun H' => by unfold RowObL; rfl
    have mo : ∀ {H' : Hp} {x : Addr} {pl : Str}, RowOb K p H' (.mark pl) (.ref x) → RowObL K p H' [.mark pl] [.ref x] := fun h => by unfold RowObL RowObL; exact ⟨_, _, rfl, h, rfl⟩
    have r1 := ri (t := .moved) (a := [.mark "old"]) (b := []) trivial (by decide) (by decide) (by decide) (rl1 (rm _ (by decide +kernel) 2)) (rl0 2)
    have r2 := ri (t := .moved) (a := []) (b := [.mark "old"]) trivial (by decide) (by decide) (by decide) (rl0 2) (rl1 (rm _ (by decide +kernel) 2))
    have r3 := ri (t := .noted) (a := []) (b := []) trivial (by decide) (by decide) (by decide) (rl0 2) (rl0 2)
    refine seq_go ?_
    refine op_go (make_go (cons_go (moved_go fun H1 m1 s1 om1 => cons_go (lstA_go (cons_go (mark_go (K := K) (by decide +kernel) fun H2 k2 s2 ok2 => nil_go ⟨one, fun l3 hl3 => nil_go ?_⟩))))))
    obtain ⟨s3, h3⟩ := new_at (o := .lst [V.ref k2]) hl3
    intro x4 d4 hx4 hd4 n4
    refine if_made (ys := []) (os := []) hx4 hd4 n4 (om1.kp (ObKp.of (Same.trans s2 s3))) (.inl h3) (mo (ok2.kp (ObKp.of s3))) (.inr (.inr ⟨rfl, N0⟩)) (no _) (by show 1 ≤ 1000; omega) (by show 0 ≤ 1000; omega) fun H4 s4 ob4 => ?_
    refine make_go (cons_go (moved_go fun H5 m5 s5 om5 => cons_go (lst_go (xs := []) (fun Q q => nil_go q) (by show 0 ≤ 1000; omega) fun H6 l6 s6 _ h6 => cons_go (lstA_go (cons_go (mark_go (K := K) (by decide +kernel) fun H7 k7 s7 ok7 => nil_go ⟨one, fun l8 hl8 => nil_go ?_⟩))))))
    obtain ⟨s8, h8⟩ := new_at (o := .lst [V.ref k7]) hl8
    have s58 := (s6.trans s7).trans s8
    intro x9 d9 hx9 hd9 n9
    refine if_made (xs := []) (rs := []) hx9 hd9 n9 (om5.kp (ObKp.of s58)) (.inl (s8 _ _ (s7 _ _ h6))) (no _) (.inl h8) (mo (ok7.kp (ObKp.of s8))) (by show 0 ≤ 1000; omega) (by show 1 ≤ 1000; omega) fun H9 s9 ob9 => ?_
    refine row_cmp (n := false) CM bookW_ok r1 r2 (o3 r1) (o3 r2) (ob4.kp (ObKp.of ((s5.trans s58).trans s9))) ob9 fun H10 s10 => ⟨_, rfl, iteSf (by decide +kernel) ?_⟩
    have t10 : Same H H10 := (((((s1.trans s2).trans s3).trans s4).trans (s5.trans s58)).trans s9).trans s10
    refine op_go (make_go (cons_go (noted_go fun A1 a1 u1 oa1 => cons_go (tupc_go (xs := []) (fun Q q => nil_go q) (by show 0 ≤ 1000; omega) fun A2 a2 u2 _ ha2 => nil_go ?_))))
    intro b1 b2 hb1 hb2 nb
    refine if_made (rs := []) (os := []) hb1 hb2 nb (oa1.kp (ObKp.of u2)) (.inr (.inl ha2)) (no _) (.inr (.inr ⟨rfl, N0⟩)) (no _) (by show 0 ≤ 1000; omega) (by show 0 ≤ 1000; omega) fun A3 u3 ob3 => ?_
    refine make_go (cons_go (noted_go fun A4 a4 u4 oa4 => cons_go (lst_go (xs := []) (fun Q q => nil_go q) (by show 0 ≤ 1000; omega) fun A5 a5 u5 _ ha5 => cons_go (lst_go (xs := []) (fun Q q => nil_go q) (by show 0 ≤ 1000; omega) fun A6 a6 u6 _ ha6 => nil_go ?_))))
    intro c1 c2 hc1 hc2 nc
    refine if_made (rs := []) (os := []) hc1 hc2 nc (oa4.kp (ObKp.of (Same.trans u5 u6))) (.inl (u6 _ _ ha5)) (no _) (.inl ha6) (no _) (by show 0 ≤ 1000; omega) (by show 0 ≤ 1000; omega) fun A7 u7 ob7 => ?_
    refine row_cmp (n := true) CM bookW_ok r3 r3 (o3 r3) (o3 r3) (ob3.kp (ObKp.of (((Same.trans u4 u5).trans u6).trans u7))) ob7 fun A8 u8 => ⟨_, rfl, iteSf (by decide +kernel) (next_go ?_)⟩
    have t18 : Same H A8 := (((((((t10.trans u1).trans u2).trans u3).trans u4).trans u5).trans u6).trans u7).trans u8
    try dsimp only
    refine seq_go ?_
    refine op_go (put_go (K := K) (by decide +kernel) (.inl (by decide +kernel)) fun B1 e1 v1 oe1 => add_go (K := K) (.inl (by decide +kernel)) (by decide +kernel) (by decide +kernel) fun B2 e2 v2 oe2 => ?_)
    refine row_cmp (n := false) CM bookW_ok rp ra (o3 rp) (o3 ra) (oe1.kp (ObKp.of v2)) oe2 fun B3 v3 => ⟨_, rfl, iteSf (by decide +kernel) ?_⟩
    refine op_go (was_go (.inl rfl) fun B4 e4 v4 oe4 => was_go (.inr (by decide +kernel)) fun B5 e5 v5 oe5 => ?_)
    refine test_cmp (n := false) CM bookW_ok (t := .was "none") (t' := .was "up") (by unfold okTest; decide +kernel) (by unfold okTest; decide +kernel) (by decide) (by decide) (oe4.kp (ObKp.of v5)) oe5 fun B6 v6 => ⟨_, rfl, iteSf (by decide +kernel) ?_⟩
    refine op_go (old_go fun B7 e7 v7 oe7 => new_go fun B8 e8 v8 oe8 => ?_)
    refine test_cmp (n := false) CM bookW_ok (t := .cut true 3) (t' := .cut false 3) (by unfold okTest; decide) (by unfold okTest; decide) (by decide) (by decide) (oe7.kp (ObKp.of v8)) oe8 fun B9 v9 => ⟨_, rfl, iteSf (by decide +kernel) (next_go ?_)⟩
    have t29 : Same H B9 := ((((((((t18.trans v1).trans v2).trans v3).trans v4).trans v5).trans v6).trans v7).trans v8).trans v9
    try dsimp only
    refine ret_go (andV_go (op_go ?_))
    refine mark_go (K := K) (by decide +kernel) fun C1 f1 w1 of1 => mark_go (K := K) (by decide +kernel) fun C2 f2 w2 of2 => ?_
    refine row_cmp (n := true) CM bookW_ok (rm "old" (by decide +kernel) 3) (rm "new" (by decide +kernel) 3) (o3 (rm "old" (by decide +kernel) 3)) (o3 (rm "new" (by decide +kernel) 3)) (of1.kp (ObKp.of w2)) of2 fun C3 w3 => ⟨_, rfl, iteSe (by decide +kernel) ?_⟩
    refine andV_go (op_go (moved_go fun C4 f4 w4 of4 => noted_go fun C5 f5 w5 of5 => ?_))
    refine test_cmp (n := true) CM bookW_ok (t := .moved) (t' := .noted) trivial trivial (by decide) (by decide) (of4.kp (ObKp.of w5)) of5 fun C6 w6 => ⟨_, rfl, iteSe (by decide +kernel) ?_⟩
    refine andV_go (op_go (make_go (cons_go (moved_go fun C7 f7 w7 of7 => nil_go ?_))))
    intro g1 g2 hg1 hg2 ng
    refine not_made hg1 hg2 ng of7 fun C8 w8 of8 => moved_go fun C9 f9 w9 of9 => ?_
    refine test_cmp (n := true) CM bookW_ok (t := .not .moved) (t' := .moved) trivial trivial (by decide) (by decide) (of8.kp (ObKp.of w9)) of9 fun D1 w10 => ⟨_, rfl, iteSe (by decide +kernel) ?_⟩
    refine op_go (moved_go fun D2 f11 w11 of11 => moved_go fun D3 f12 w12 of12 => ?_)
    refine test_cmp (n := false) CM bookW_ok (t := .moved) (t' := .moved) trivial trivial (by decide) (by decide) (of11.kp (ObKp.of w12)) of12 fun D4 w13 => ?_
    rw [decide_eq_true rfl]
    exact ret D4 (((((((((((((t29.trans w1).trans w2).trans w3).trans w4).trans w5).trans w6).trans w7).trans w8).trans w9).trans w10).trans w11).trans w12).trans w13)
end
end K14

set_option pp.maxSteps 600
namespace L2
open PySem PySem.Spec PyProof.Rows
theorem pe_callHas0 {X : Cx} {k : Nat} {x : Str} {sp : Sp} {p pos : Pos} (G : Has X.prog X.w X.K X.mg X.base k x [] sp) (hr : Room k X.A) (hg : Gl X x) (hdb : (x == ("__debug__" : Str)) = false := by decide) : PE X (.Call (.Name x p) [] [] pos) (tCall sp [] E0 tNil) := by
  obtain ⟨f, fd, F, m, kp, b⟩ := G
  exact pe_call0 F hr hg m kp b .nil pass0 hdb
end L2
namespace K14
open PySem L2 PySem.Spec PyProof.Rows
theorem nots_go {te : TE} {σ : L2.St} {H : Hp} {Q : Bool → Hp → Prop} (h : te σ H fun v H' => ∃ c, v = .bl c ∧ Q (!c) H') : tNot (tB te) σ H Q := h
theorem sm_bools (a b : Bool) : Sm 1 10 (.list [.bool a, .bool b]) := by cases a <;> cases b <;> exact ⟨by decide +kernel, by decide +kernel, by decide +kernel, by decide +kernel, by decide +kernel, by decide +kernel⟩
theorem lines_dec {B : BookD} (ok : BkOk B) {r r' : RowD} {k k' : Nat} (h : okRow B r k) (h' : okRow B r' k') : decide (rowLines r = rowLines r') = decide (rowS r = rowS r') :=
  decide_eq_decide.mpr ⟨fun e => by unfold rowS; rw [e], fun e => rowS_inj ok h h' e⟩
section
variable {P : Program} {w : World} {K : PySem.W.Frag} {mg : Str → Option Value} {base : Heap}
abbrev s_law : Stmt := top 52
abbrev n_law : List Str := ["_law_script", "_law_k", "_law_box_here", "_law_book_here", "_law_every", "_law_built", "_law_made", "_law_row_here", "_law_other", "_law_its", "_law_is_same", "_law_tests", "_law_test_here", "_law_some", "_law_turn"]
theorem sc_law : FnScope n_law ["_law_script"] (defScope s_law) := ⟨rfl, rfl, rfl, by decide +kernel, rfl, by decide +kernel, by decide +kernel⟩
def spLaw13 (K : PySem.W.Frag) : Sp := fun vs H Q _ => ∃ (a : Addr) (ns : List Int), vs = [.ref a] ∧ SqL K H a (ns.map V.int) ∧ ns.length ≤ 63 ∧ ∀ H', Q (.bl true) H'
theorem ok_law {p : Pkg} {f : Addr} {fd : FuncData} (T : Txt mg) (MA : MkAll P w K mg base p) (CM : CmpK K p) (U : Unlike p)
    (ShT : Shows P w K mg base 9 p.tests (TestSh p 2)) (ShR : Shows P w K mg base 27 p.rows (RowSh K p 3)) (EqT : EqCls P w K mg base 30 p.tests (spEqC K p.tests (TestSh p 2))) (EqR : EqCls P w K mg base 30 p.rows (spEqC K p.rows (RowSh K p 3)))
    (F : Fun K "law" "law" s_law f fd) (hb : ∀ (s : Shared) (u : Value), K.In s.heap → BindsTo s fd ⟨[u], []⟩ [("_law_script", u)])
    (g_law_box : Has P w K mg base 1 "_law_box" ["_law_script", "_law_k", "_law_own"] (spBox K)) (g_law_book : Has P w K mg base 12 "_law_book" ["_law_box_here", "_law_sizes"] spBookD)
    (g_law_all_rows : Has P w K mg base 7 "_law_all_rows" ["_law_book_here"] spAllRows) (g_law_rows_of : Has P w K mg base 17 "_law_rows_of" ["_law_rows_here"] (spRowsOf K p 3)) (g_law_row_lines : Has P w K mg base 9 "_law_row_lines" ["_law_rows_here"] (spRowLines K 3))
    (g_law_is_row : HasG P w K mg base 36 "_law_is_row" ["_law_made", "_law_row_here"] (spIsRow K p 3)) (g_law_lists_kept : HasG P w K mg base 37 "_law_lists_kept" ["_law_row_here"] spKept) (g_law_test : Has P w K mg base 3 "_law_test" ["_law_box_here", "_law_book_here", "_law_deep"] spTest)
    (g_law_test_of : Has P w K mg base 9 "_law_test_of" ["_law_test_here"] (spTestOf p 2)) (g_law_test_text : Has P w K mg base 5 "_law_test_text" ["_law_test_here"] (spTestText 2)) (g_law_is_test : Has P w K mg base 14 "_law_is_test" ["_law_made", "_law_test_here"] (spIsTest p 2)) (g_law_unlike_right : Has P w K mg base 32 "_law_unlike_right" [] spUnlike) :
    LawOk P w K mg base 40 f (spLaw13 K) := by
  obtain ⟨fK, fdK, MK, g_K, bK⟩ := MA.r.mK.ex
  have CK := MA.r.mK.cls
  refine LawOk.of F sc_law hb fun cdv A s H v Q hg0 hr h => ?_
  have hg : (A.deeper (PyProof.Rows.envOfC "law" (defScope s_law) s.heap.objs.size f cdv)).guards = some [] := by
    first | exact hg0 | (simp [Around.deeper, hg0]) | (unfold Around.deeper; exact hg0)
  have hu : (A.deeper (PyProof.Rows.envOfC "law" (defScope s_law) s.heap.objs.size f cdv)).units + 64 < cLine := hr.units
  have hu1 := Nat.lt_of_le_of_lt (Nat.add_le_add_left (by decide : 1 ≤ 64) _) hu
  obtain ⟨a, ns, ev, hS, hlen, k⟩ := h
  cases ev
  refine ⟨_, (pss_cons (ps_for PassesOwn.never rfl (pi_range1 rfl T.z_range (pa_cons (pe_callB (call_max2 rfl) (by rfl) T.z_max (by decide +kernel) (pa_cons pe_int (pa_cons (pe_callB (call_min2 rfl) (by rfl) T.z_min (by decide +kernel) (pa_cons pe_int (pa_cons (pe_callB call_len (by rfl) T.z_len (by decide +kernel) (pa_cons (pv 0) pa_nil)) pa_nil))) pa_nil))) pa_nil)) (pg_name (i := 1) sc_law.nd rfl (Or.inl rfl)) (pss_cons (ps_set (i := 2) sc_law.nd rfl (Or.inr rfl) (pe_callHas g_law_box (hr.mono (by decide)) rfl (pa_cons (pv 0) (pa_cons (pv 1) (pa_cons pe_int pa_nil)))))
      (pss_cons (ps_set (i := 3) sc_law.nd rfl (Or.inr rfl) (pe_callHas g_law_book (hr.mono (by decide)) rfl (pa_cons (pv 2) (pa_cons (pe_tup (pa_cons pe_int (pa_cons pe_int (pa_cons pe_int (pa_cons pe_int (pa_cons pe_int (pa_cons pe_int (pa_cons pe_int (pa_cons pe_int pa_nil))))))))) pa_nil))))
      (pss_cons (ps_set (i := 4) sc_law.nd rfl (Or.inl rfl) (pe_callHas g_law_all_rows (hr.mono (by decide)) rfl (pa_cons (pv 3) pa_nil)))
      (pss_cons (ps_set (i := 5) sc_law.nd rfl (Or.inl rfl) (pe_callHas g_law_rows_of (hr.mono (by decide)) rfl (pa_cons (pv 4) pa_nil)))
      (pss_cons (ps_for PassesOwn.never rfl (pi_zip (by rfl) T.z_zip (pa_cons (pv 5) (pa_cons (pv 4) pa_nil))) (pg_tup rfl (pgs_cons (pg_name (i := 6) sc_law.nd rfl (Or.inr rfl)) (pgs_cons (pg_name (i := 7) sc_law.nd rfl (Or.inl rfl)) pgs_nil))) (pss_cons (ps_if (PW.pt (pw_or (pt_not (pt_val (pe_callG g_law_is_row hg (hr.mono (by decide)) rfl (pa_cons (pv 6) (pa_cons (pv 7) pa_nil))))) (pw_or (pt_not (pt_val (pe_callG g_law_lists_kept hg (hr.mono (by decide)) rfl (pa_cons (pv 7) pa_nil)))) (pw_or (pt_cmpR (op_eqCK rfl rfl rfl rfl rfl EqR (hr.mono (by decide))) (pv 6) (pe_callTy (call_strCK rfl rfl rfl rfl rfl ShR (hr.mono (by decide))) (by rfl) T.z_str (by decide +kernel) (pa_cons (pv 6) pa_nil)) (nomark _)) (pw_or1 (pt_cmpR (op_eqCK rfl rfl rfl rfl rfl EqR (hr.mono (by decide))) (pv 6) (pv 7) (nomark _))))))) (pss_one (ps_ret pe_bl)) pss_nil)
      (pss_one (ps_for PassesOwn.never rfl (pi_zip (by rfl) T.z_zip (pa_cons (pv 5) (pa_cons (pv 4) pa_nil))) (pg_tup rfl (pgs_cons (pg_name (i := 8) sc_law.nd rfl (Or.inl rfl)) (pgs_cons (pg_name (i := 9) sc_law.nd rfl (Or.inl rfl)) pgs_nil))) (pss_cons (ps_set (i := 10) sc_law.nd rfl (Or.inl rfl) (pe_cmpR (op_eqD hu) (pe_callHas g_law_row_lines (hr.mono (by decide)) rfl (pa_cons (pe_lst (pa_cons (pv 7) pa_nil)) pa_nil)) (pe_callHas g_law_row_lines (hr.mono (by decide)) rfl (pa_cons (pe_lst (pa_cons (pv 9) pa_nil)) pa_nil)) (nomark _)))
      (pss_one (ps_if (pt_cmpR op_ne (pe_callB (call_reprD hg hu) (by rfl) T.z_repr (by decide +kernel) (pa_cons (pe_lst (pa_cons (pe_cmpR (op_eqCK rfl rfl rfl rfl rfl EqR (hr.mono (by decide))) (pv 6) (pv 8) (nomark _)) (pa_cons (pe_cmpR (op_neCK rfl rfl rfl rfl rfl EqR (hr.mono (by decide))) (pv 6) (pv 8) (nomark _)) pa_nil))) pa_nil)) (pe_callB (call_reprD hg hu) (by rfl) T.z_repr (by decide +kernel) (pa_cons (pe_lst (pa_cons (pv 10) (pa_cons (pe_not (pv 10)) pa_nil))) pa_nil)) (nomark _)) (pss_one (ps_ret pe_bl)) pss_nil)))))))
      (pss_cons (ps_setLc (i := 11) (own := [("_law_turn", 14)]) (g := gName 14) (by rfl) sc_law.nd rfl rfl (sw_true rfl rfl rfl (by decide +kernel)) (pi_range1 rfl T.z_range (pa_cons pe_int pa_nil)) (blkOk_by (own := [("_law_turn", 14)]) (N := n_law) (sc := defScope s_law) (by decide +kernel)) (fun _ _ _ _ _ => (pg_name (i := 14) sc_law.nd rfl (Or.inl rfl))) (fun _ _ _ _ _ => pts_nil) (fun _ _ _ _ _ => (pe_callHas g_law_test (hr.mono (by decide)) rfl (pa_cons (pv 2) (pa_cons (pv 3) (pa_cons pe_int pa_nil))))))
      (pss_cons (ps_setLc (i := 13) (own := [("_law_test_here", 12)]) (g := gName 12) (by rfl) sc_law.nd rfl rfl (sw_true rfl rfl rfl (by decide +kernel)) (pi_list (pv 11)) (blkOk_by (own := [("_law_test_here", 12)]) (N := n_law) (sc := defScope s_law) (by decide +kernel)) (fun _ _ _ _ _ => (pg_name (i := 12) sc_law.nd rfl (Or.inl rfl))) (fun _ _ _ _ _ => pts_nil) (fun _ _ _ _ _ => (pe_callHas g_law_test_of (hr.mono (by decide)) rfl (pa_cons (pv 12) pa_nil))))
      (pss_one (ps_for PassesOwn.never rfl (pi_zip (by rfl) T.z_zip (pa_cons (pv 13) (pa_cons (pv 11) pa_nil))) (pg_tup rfl (pgs_cons (pg_name (i := 6) sc_law.nd rfl (Or.inr rfl)) (pgs_cons (pg_name (i := 12) sc_law.nd rfl (Or.inr rfl)) pgs_nil))) (pss_cons (ps_if (PW.pt (pw_or (pt_not (pt_val (pe_callHas g_law_is_test (hr.mono (by decide)) rfl (pa_cons (pv 6) (pa_cons (pv 12) pa_nil))))) (pw_or (pt_cmpR (op_eqCK rfl rfl rfl rfl rfl EqT (hr.mono (by decide))) (pv 6) (pe_callTy (call_strCK rfl rfl rfl rfl rfl ShT (hr.mono (by decide))) (by rfl) T.z_str (by decide +kernel) (pa_cons (pv 6) pa_nil)) (nomark _)) (pw_or1 (pt_cmpR (op_eqCK rfl rfl rfl rfl rfl EqT (hr.mono (by decide))) (pv 6) (pe_make MK g_K (hr.mono (by omega)) rfl CK.m bK .nil pass0 (pa_cons pe_str pa_nil)) (nomark _)))))) (pss_one (ps_ret pe_bl)) pss_nil)
      (pss_one (ps_if (pt_cmpR (op_neD hu) (pe_lc (own := [("_law_other", 8)]) (g := gName 8) (by rfl) sc_law.nd (pi_list (pv 13)) (blkOk_by (own := [("_law_other", 8)]) (N := n_law) (sc := defScope s_law) (by decide +kernel)) (fun _ _ _ _ _ => (pg_name (i := 8) sc_law.nd rfl (Or.inl rfl))) (fun _ _ _ _ _ => pts_nil) (fun _ _ _ _ _ => (pe_cmpR (op_eqCK rfl rfl rfl rfl rfl EqT (hr.mono (by decide))) (pv 6) (pv 8) (nomark _)))) (pe_lc (own := [("_law_its", 9)]) (g := gName 9) (by rfl) sc_law.nd (pi_list (pv 11)) (blkOk_by (own := [("_law_its", 9)]) (N := n_law) (sc := defScope s_law) (by decide +kernel)) (fun _ _ _ _ _ => (pg_name (i := 9) sc_law.nd rfl (Or.inl rfl))) (fun _ _ _ _ _ => pts_nil) (fun _ _ _ _ _ => (pe_cmpR op_eq (pe_callHas g_law_test_text (hr.mono (by decide)) rfl (pa_cons (pv 12) pa_nil)) (pe_callHas g_law_test_text (hr.mono (by decide)) rfl (pa_cons (pv 9) pa_nil)) (nomark _)))) (nomark _)) (pss_one (ps_ret pe_bl)) pss_nil)))))))))))))
      (pss_one (ps_ret (pe_callHas0 g_law_unlike_right (hr.mono (by decide)) rfl)))), ?_⟩
  have q10000 : (10000 : Nat) < sizeLine := by decide
  have hlen' : (((ns.map V.int).length : Nat) : Int) ≤ 63 := by rw [List.length_map]; omega
  refine ⟨_, rfl, _, _, rfl, .inl ⟨_, hS, rfl⟩, _, _, rfl, _, _, rfl, ?_⟩
  have hN : ∀ m : Int, 0 ≤ m → ∃ N : Int, (if (if m < 4 then m else 4) > 1 then (if m < 4 then m else 4) else 1) = N ∧ 0 ≤ N ∧ N ≤ 4 := fun m hm => ⟨_, rfl, by split <;> (try split) <;> omega, by split <;> (try split) <;> omega⟩
  obtain ⟨N, eN, N0', N3⟩ := hN (((ns.map V.int).length : Nat) : Int) (Int.natCast_nonneg _)
  refine ⟨N, by rw [← eN], by omega, by omega, for_range (lo := 0) (n := N.toNat) (fun i σ H' => Same H H' ∧ ∃ x1 x2 x3 x4 x5 x6 x7 x8 x9 x10 x11 x12 x13, σ = [some (.ref a), x1, x2, x3, x4, x5, x6, x7, x8, x9, x10, x11, x12, x13, none]) ⟨Same.refl _, _, _, _, _, _, _, _, _, _, _, _, _, _, rfl⟩ ?_ ?_⟩
  · rintro i σ H1 hi ⟨s1, x1, x2, x3, x4, x5, x6, x7, x8, x9, x10, x11, x12, x13, rfl⟩
    refine ⟨_, rfl, _, rfl, a, ns, _, _, rfl, hS.ext s1, by omega, by omega, by decide, by decide, fun H2 b s2 hb0 hbox => ?_⟩
    refine name_go ?_
    try dsimp only
    refine seq_asg ?_
    refine ⟨_, rfl, tupc_go (xs := [.int 4, .int 2, .int 2, .int 6, .int 6, .int 20, .int 10, .int 3]) (fun Q q => q) (by show 8 ≤ 1000; decide) fun H3 z s3 hz0 hz => ?_⟩
    refine nil_go ⟨b, z, _, 4, 2, 2, 6, 6, 20, 10, 3, rfl, hbox.keep s3, hz, ⟨rfl, by omega, by omega, by omega, by omega, by omega, by omega⟩, fun H4 d B kvs u4 b4 bk bok => name_go ?_⟩
    have s14 : Same H1 H4 := fun y o q => u4 _ _ (ne_of_none q hb0) (s3 _ _ (s2 _ _ q))
    try dsimp only
    refine seq_asg ⟨_, rfl, d, B, kvs, (· = b), rfl, bk, bok, fun H5 e ys s5 _ h5 r5 => name_go ?_⟩
    have s5 : Same H4 H5 := s5
    obtain ⟨oks, l6⟩ := bok.hands
    have aok : ∀ r ∈ allRows B.handlers, okAny B r := allRows_ok oks
    have al : (allRows B.handlers).length ≤ 4662 := by
      have a1 := allRows_len oks
      have a2 : B.handlers.length * 777 ≤ 6 * 777 := Nat.mul_le_mul_right _ l6
      omega
    have ly := r5.len
    generalize allRows B.handlers = rs at *
    have okl : okRowL B rs 3 := by
      clear al ly r5
      induction rs with
      | nil => unfold okRowL; trivial
      | cons r rs ih => unfold okRowL; exact ⟨(aok r List.mem_cons_self).three, ih fun x hx => aok x (List.mem_cons_of_mem _ hx)⟩
    try dsimp only
    refine seq_asg ⟨_, rfl, e, ys, rs, B, rfl, .inl h5, r5, okl, bok.bk, by omega, fun H6 bl os s6 n6 h6 r6 => name_go ?_⟩
    have s6 : Same H5 H6 := s6
    have lo := r6.len
    try dsimp only
    refine seq_go ?_
    refine ⟨_, rfl, _, rfl, bl, e, _, _, rfl, SqL.of h6, SqL.of (s6 _ _ h5), for_it (walk_zip (xs := os) (ys := ys) (n := rs.length) (by rw [lo, ly, Nat.min_self])) (fun i' σ H' => Same H6 H' ∧ ∃ y6 y7 y8 y9 y10, σ = [some (.ref a), some (.int (0 + ((i : Nat) : Int))), some (.ref b), some (.ref d), some (.ref e), some (.ref bl), y6, y7, y8, y9, y10, x11, x12, x13, none]) ⟨Same.refl _, _, _, _, _, _, rfl⟩ (fun i' σ H' _ z => ⟨SqL.of (z.1 _ _ h6), SqL.of (z.1 _ _ (s6 _ _ h5))⟩) ?_ ?_⟩
    · rintro i' x σ H7' H7 hi' ⟨s7, y6, y7, y8, y9, y10, rfl⟩ ⟨T', v, y, rfl, hT, rfl, ev, ey⟩
      obtain ⟨r, er, ob⟩ := r6.at' ev
      obtain ⟨r', er', at'⟩ := r5.at' ey
      rw [er] at er'
      cases er'
      have ok3 := (aok r (List.mem_of_getElem? er)).three
      have okr := okR_of bok.bk ok3
      obtain ⟨sT, hT'⟩ := new_at (o := .tup [v, y]) hT
      have s8 := s7.trans sT
      have ob8 := ob.kp (ObKp.of s8)
      have at8 := at'.kp (TupKp.of (s6.trans s8))
      refine ⟨T', _, rfl, SqT.of hT', rfl, _, _, rfl, _, _, rfl, rfl, ?_⟩
      generalize upd H7' T' (.tup [v, y]) = H8 at *
      refine seq_go ?_
      refine ⟨_, rfl, _, rfl, v, y, r, B, rfl, ob8, at8, ok3, bok.bk, fun H9 s9 => ⟨_, rfl, iteSf rfl ?_⟩⟩
      have s9 : Same H8 H9 := s9
      refine ⟨_, rfl, y, r, B, rfl, at8.kp (TupKp.of s9), ok3, bok.bk, fun H10 s10 => ⟨_, rfl, iteSf rfl ?_⟩⟩
      have s10 : Same H9 H10 := s10
      have s810 := s9.trans s10
      obtain ⟨av, C, dx, fs, rfl, hav, mC⟩ := (ob8.kp (ObKp.of s810)).cls
      have SKC := CM.self C (List.mem_append_right _ mC)
      have hsh : ∀ {H'}, Same H10 H' → RowSh K p 3 H' av (rowS r) := fun s' => ⟨r, ob8.kp (ObKp.of (s810.trans s')), okr, rfl⟩
      refine ⟨_, rfl, _, rfl, _, rfl, av, C, dx, fs, rowS r, rfl, hav, mC, hsh (Same.refl _), fun H11 s11 => ?_⟩
      have s11 : Same H10 H11 := s11
      refine eq_str SKC (s11 _ _ hav) mC (hsh s11) ⟨_, rfl, iteSf rfl ?_⟩
      obtain ⟨pr, zs, rfl, hpr⟩ := (at8.kp (TupKp.of (s810.trans s11))).tag
      refine ⟨_, rfl, _, rfl, eq_tup SKC (s11 _ _ hav) hpr mC (hsh s11) ⟨_, rfl, iteSf rfl (next_go ?_)⟩⟩
      have s611 := s8.trans (s810.trans s11)
      try dsimp only
      refine ⟨_, rfl, _, rfl, bl, e, _, _, rfl, SqL.of (s611 _ _ h6), SqL.of (s611 _ _ (s6 _ _ h5)), for_it (walk_zip (xs := os) (ys := ys) (n := rs.length) (by rw [lo, ly, Nat.min_self])) (fun i2 σ H' => Same H11 H' ∧ ∃ z8 z9 z10, σ = [some (.ref a), some (.int (0 + ((i : Nat) : Int))), some (.ref b), some (.ref d), some (.ref e), some (.ref bl), some (.ref av), some (.ref pr), z8, z9, z10, x11, x12, x13, none]) ⟨Same.refl _, _, _, _, rfl⟩ (fun i2 σ H' _ z => ⟨SqL.of (z.1 _ _ (s611 _ _ h6)), SqL.of (z.1 _ _ (s611 _ _ (s6 _ _ h5)))⟩) ?_ ?_⟩
      · rintro i2 x σ H12' H12 hi2 ⟨s12, z8, z9, z10, rfl⟩ ⟨T2, v2, y2, rfl, hT2, rfl, ev2, ey2⟩
        obtain ⟨r2, er2, ob2⟩ := r6.at' ev2
        obtain ⟨r2', er2', at2⟩ := r5.at' ey2
        rw [er2] at er2'
        cases er2'
        have ok2 := (aok r2 (List.mem_of_getElem? er2)).three
        have okr2 := okR_of bok.bk ok2
        obtain ⟨sT2, hT2'⟩ := new_at (o := .tup [v2, y2]) hT2
        have s13 := s12.trans sT2
        have s613 := s611.trans s13
        refine ⟨T2, _, rfl, SqT.of hT2', rfl, _, _, rfl, _, _, rfl, rfl, ?_⟩
        have ob13 := ob2.kp (ObKp.of s613)
        have at13 := at2.kp (TupKp.of (s6.trans s613))
        have atr13 := at'.kp (TupKp.of (s6.trans s613))
        have obr13 := ob.kp (ObKp.of s613)
        generalize upd H12' T2 (.tup [v2, y2]) = H13 at *
        have one : ∀ {r : RowD}, okRow B r 3 → okRowL B [r] 3 := fun h => by unfold okRowL okRowL; exact ⟨h, trivial⟩
        have oneL : ∀ {r : RowD} {v : V} {H' : Hp}, RowAt H' r v → RowL H' [r] [v] := fun h => by unfold RowL RowL; exact ⟨_, [], rfl, h, rfl⟩
        refine seq_asg (op_go ?_)
        refine cons_go (lst_go (xs := [.ref pr]) (fun Q q => cons_go ⟨_, rfl, nil_go q⟩) (by show 1 ≤ 1000; omega) fun H14 l14 s14' _ h14 => nil_go ?_)
        refine ⟨l14, _, [r], B, rfl, .inl h14, oneL (atr13.kp (TupKp.of s14')), one ok3, bok.bk, by show 1 ≤ 20; omega, fun H15 l15 s15 _ h15 => ?_⟩
        have s15 : Same H14 H15 := s15
        refine cons_go (lst_go (xs := [y2]) (fun Q q => cons_go ⟨_, rfl, nil_go q⟩) (by show 1 ≤ 1000; omega) fun H16 l16 s16 _ h16 => nil_go ?_)
        have s1316 := (s14'.trans s15).trans s16
        refine ⟨l16, _, [r2], B, rfl, .inl h16, oneL (at13.kp (TupKp.of s1316)), one ok2, bok.bk, by show 1 ≤ 20; omega, fun H17 l17 s17 _ h17 => ?_⟩
        have s17 : Same H16 H17 := s17
        have s1317 := s1316.trans s17
        rw [rowsLines_one] at h15 h17
        refine ⟨.list ((rowLines r).map PyData.str), .list ((rowLines r2).map PyData.str), .lst (SqL.of (s17 _ _ (s16 _ _ h15))) (strs_dp _), .lst (SqL.of h17) (strs_dp _), strs_shaped (rowLines_okS bok.bk ok3), strs_shaped (rowLines_okS bok.bk ok2), name_go ?_⟩
        rw [strs_eqv2, lines_dec bok.bk ok3 ok2]
        have ob17 := ob13.kp (ObKp.of s1317)
        have obr17 := obr13.kp (ObKp.of s1317)
        try dsimp only
        refine op_go (cb_go (cons_go (lstA_go (cons_go (op_go ⟨_, rfl, _, rfl, ?_⟩)))))
        refine row_cmp (n := false) CM bok.bk ok3 ok2 okr okr2 obr17 ob17 fun H18 s18 => ?_
        refine cons_go (op_go ⟨_, rfl, _, rfl, ?_⟩)
        refine row_cmp (n := true) CM bok.bk ok3 ok2 okr okr2 (obr17.kp (ObKp.of s18)) (ob17.kp (ObKp.of s18)) fun H19 s19 => nil_go ⟨(show 2 ≤ sizeLine by omega), fun l20 hl20 => nil_go ?_⟩
        obtain ⟨s20, h20⟩ := new_at (o := .lst [V.bl (false != decide (rowS r = rowS r2)), V.bl (true != decide (rowS r = rowS r2))]) hl20
        have s1320 := ((s1317.trans s18).trans s19).trans s20
        generalize decide (rowS r = rowS r2) = c at *
        refine Sm.repr (sm_bools (false != c) (true != c)) (by omega) (by omega) (.lst (SqL.of h20) (.cons (.bl _) (.cons (.bl _) .nil))) ?_
        have e1 : (false != c) = c := by cases c <;> rfl
        have e2 : (true != c) = !c := by cases c <;> rfl
        refine cb_go (cons_go (lst_go (xs := [.bl c, .bl (!c)]) (fun Q q => cons_go ⟨_, rfl, cons_go ⟨_, rfl, _, rfl, nil_go q⟩⟩) (by show 2 ≤ 1000; omega) fun H21 l21 s21 _ h21 => nil_go ?_))
        refine Sm.repr (sm_bools c (!c)) (by omega) (by omega) (.lst (SqL.of h21) (.cons (.bl _) (.cons (.bl _) .nil))) ?_
        rw [e1, e2]
        refine neS_go (next_go ?_)
        exact ⟨s13.trans (s1320.trans s21), _, _, _, rfl⟩
      · rintro σ H12 ⟨s12, z8, z9, z10, rfl⟩
        exact ⟨s611.trans s12, _, _, _, _, _, rfl⟩
    · rintro σ H7 ⟨s7, y6, y7, y8, y9, y10, rfl⟩
      try dsimp only
      refine seq_asg ?_
      have s47 := (s5.trans s6).trans s7
      have b7 := b4.keep s47
      have bk7 := bk.bk.kp (KpE.of s47)
      refine ⟨4, rfl, by decide, by decide, ?_⟩
      refine fun D hD => lc_range (lo := 0) (n := 4) (fun jj H' => KpE (· = b) H7 H' ∧ Box H' b ∧ ∃ ws ts, H' D = some (.lst ws) ∧ Paired (TestAt H') ws ts ∧ ts.length = jj ∧ ∀ t ∈ ts, okTest B t ∧ tdep t ≤ 2) ⟨KpE.of (new_at hD).1, b7.keep (new_at hD).1, [], [], upd_same, .nil, rfl, (fun _ h => nomatch h)⟩ ?_ ?_
      · rintro jj H8 hjj ⟨k8, b8, ws, ts, hD8, pw, lt, okt⟩
        have nDb : D ≠ b := fun z => by obtain ⟨x, y, w, e⟩ := b7; rw [← z, hD] at e; cases e
        refine name_go ⟨rfl, ?_⟩
        unfold tYes
        refine iteSe rfl ?_
        refine ⟨_, rfl, _, rfl, b, d, .int 1, B, kvs, rfl, b8, bk7.kp k8, bok.bk, fun H9 v t u9 b9 at9 ok9 d9 => ?_⟩
        have hD9 := u9 _ _ nDb hD8
        have t9 := tup_but b8 u9
        have tA : TupKp H9 (upd H9 D (.lst (ws ++ [v]))) := TupKp.upd' hD9 fun xs z => nomatch z
        refine ⟨ws, hD9, by rw [pw.len]; omega, fun a o na e => (upd_ne (ne_of_none e hD)).trans (u9 _ _ na (k8 _ _ na e)), b9.other nDb, ws ++ [v], ts ++ [t], upd_same, ?_, by rw [List.length_append, lt]; rfl, ?_⟩
        · exact Paired.app (pw.mapP' fun _ _ z => (z.kp t9).kp tA) (.cons (at9.kp tA) .nil)
        · intro t' ht'
          rcases List.mem_append.mp ht' with h | h
          · exact okt _ h
          · rw [List.mem_singleton.mp h]; exact ⟨ok9, d9⟩
      · rintro H8 ⟨k8, b8, ws, ts, hD8, pw, lt, okt⟩
        have s18 : Same H H8 := fun y o q => k8 _ _ (ne_of_none (s1 _ _ q) hb0) (s47 _ _ (s14 _ _ (s1 _ _ q)))
        refine name_go ?_
        try dsimp only
        refine seq_asg ?_
        have lw := pw.len
        refine ⟨_, rfl, D, rfl, ⟨_, SqL.of hD8⟩, fun D2 hD2 => lc_it (walk_list (xs := ws)) (fun jj H' => Same H8 H' ∧ ∃ ps, H' D2 = some (.lst ps) ∧ Paired (TestOb p H') ps (ts.take jj)) ⟨(new_at hD2).1, [], upd_same, by rw [List.take_zero]; exact .nil⟩ (fun jj H' _ z => SqL.of (z.1 _ _ hD8)) ?_ ?_⟩
        · rintro jj y H9' H9 hjj ⟨s9, ps, hD9, pp⟩ ⟨rfl, ey⟩
          obtain ⟨t, et, at'⟩ := pw.at' ey
          obtain ⟨okt', dt⟩ := okt t (List.mem_of_getElem? et)
          refine name_go ⟨rfl, ?_⟩
          unfold tYes
          refine iteSe rfl ⟨_, rfl, y, t, B, rfl, at'.kp (TupKp.of s9), okt', bok.bk, dt, fun H10 u s10 ob => ?_⟩
          have s10 : Same H9 H10 := s10
          have hD10 := s10 _ _ hD9
          have oA : ObKp H10 (upd H10 D2 (.lst (ps ++ [u]))) := ObKp.lst hD10
          have lp := pp.len
          rw [List.length_take] at lp
          have hit := (List.getElem?_eq_some_iff.mp et).1
          have e1 : ts.take (jj + 1) = ts.take jj ++ [t] := by
            rw [← List.take_append_getElem hit]
            rw [List.getElem?_eq_getElem hit] at et
            rw [Option.some.inj et]
          refine ⟨ps, hD10, by omega, fun c o q => (upd_ne (ne_of_none q hD2)).trans (s10 _ _ (s9 _ _ q)), ps ++ [u], upd_same, ?_⟩
          rw [e1]
          exact Paired.app (pp.mapP' fun _ _ z => (z.kp (ObKp.of s10)).kp oA) (.cons (ob.kp oA) .nil)
        · rintro H9 ⟨s9, ps, hD9, pp⟩
          rw [lw, List.take_length] at pp
          have lp := pp.len
          refine name_go ?_
          try dsimp only
          have hw9 := s9 _ _ hD8
          have pw9 : Paired (TestAt H9) ws ts := pw.mapP' fun _ _ z => z.kp (TupKp.of s9)
          refine ⟨_, rfl, _, rfl, D2, D, _, _, rfl, SqL.of hD9, SqL.of hw9, for_it (walk_zip (xs := ps) (ys := ws) (n := ts.length) (by rw [lp, lw, Nat.min_self])) (fun jj σ H' => Same H9 H' ∧ ∃ z6 z7 z8 z9 z10 z12, σ = [some (.ref a), some (.int (0 + ((i : Nat) : Int))), some (.ref b), some (.ref d), some (.ref e), some (.ref bl), z6, z7, z8, z9, z10, some (.ref D), z12, some (.ref D2), none]) ⟨Same.refl _, _, _, _, _, _, _, rfl⟩ (fun jj σ H' _ z => ⟨SqL.of (z.1 _ _ hD9), SqL.of (z.1 _ _ hw9)⟩) ?_ ?_⟩
          · rintro jj x σ H10' H10 hjj ⟨s10, z6, z7, z8, z9, z10, z12, rfl⟩ ⟨T', v, y, rfl, hT, rfl, ev, ey⟩
            obtain ⟨t, et, ob⟩ := pp.at' ev
            obtain ⟨t', et', at'⟩ := pw9.at' ey
            rw [et] at et'
            cases et'
            obtain ⟨okt', dt⟩ := okt t (List.mem_of_getElem? et)
            obtain ⟨sT, hT'⟩ := new_at (o := .tup [v, y]) hT
            have s11 := s10.trans sT
            refine ⟨T', _, rfl, SqT.of hT', rfl, _, _, rfl, _, _, rfl, rfl, ?_⟩
            have ob11 := ob.kp (ObKp.of s11)
            have at11 := at'.kp (TupKp.of s11)
            generalize upd H10' T' (.tup [v, y]) = H11 at *
            refine seq_go ?_
            refine ⟨_, rfl, _, rfl, v, y, t, B, rfl, ob11, at11, okt', bok.bk, dt, fun H12 s12 => ⟨_, rfl, iteSf rfl ?_⟩⟩
            have s12 : Same H11 H12 := s12
            have ob12 := ob11.kp (ObKp.of s12)
            obtain ⟨av, C, dx, fs, rfl, hav, mC⟩ := ob12.cls
            have SKC := CM.self C (List.mem_append_left _ mC)
            have hsh : ∀ {H'}, Same H12 H' → TestSh p 2 H' av (testS t) := fun s' => ⟨t, ob12.kp (ObKp.of s'), okT_of bok.bk okt', dt, rfl⟩
            refine ⟨_, rfl, _, rfl, _, rfl, av, C, dx, fs, testS t, rfl, hav, mC, hsh (Same.refl _), fun H13 s13 => ?_⟩
            have s13 : Same H12 H13 := s13
            refine eq_str SKC (s13 _ _ hav) mC (hsh s13) ⟨_, rfl, iteSf rfl ?_⟩
            refine op_go ⟨_, rfl, ?_⟩
            refine mark_go (K := K) (by decide +kernel) fun H14 xm s14' obm => ?_
            unfold RowOb at obm
            obtain ⟨_, dxm, em, hxm⟩ := obm
            cases em
            have mK : p.CK ∈ p.rows := by simp [Pkg.rows]
            have nCK : C ≠ p.CK := (List.nodup_append.mp U.nd).2.2 C mC p.CK mK
            have s1214 := s13.trans s14'
            refine eq_other (CM.other C (List.mem_append_left _ mC) p.CK (List.mem_append_right _ mK) nCK) (CM.self p.CK (List.mem_append_right _ mK)).obj (s1214 _ _ hav) hxm mC (hsh s1214) ⟨_, rfl, iteSf rfl (next_go ?_)⟩
            have s914 := s11.trans (s12.trans s1214)
            try dsimp only
            have lb : (ts.map fun t' => decide (testS t = testS t')).length = ps.length := by rw [List.length_map, lp]
            refine op_go (bools_go (xs := ps) (bs := ts.map fun t' => decide (testS t = testS t')) (fun _ => rfl) (fun Q q => ⟨_, rfl, q⟩) (s914 _ _ hD9) lb (by omega) (fun kk y2 c H15 Q s15 ey2 ec q => ?_) fun H16 B1 s16 _ h16 => ?_)
            · obtain ⟨t2, et2, ob2⟩ := pp.at' ey2
              rw [List.getElem?_map, et2] at ec
              cases ec
              obtain ⟨okt2, dt2⟩ := okt t2 (List.mem_of_getElem? et2)
              refine ⟨_, rfl, _, rfl, ?_⟩
              refine test_cmp (n := false) CM bok.bk okt' okt2 dt dt2 (ob12.kp (ObKp.of (s1214.trans s15))) (ob2.kp (ObKp.of (s914.trans s15))) fun H17 s17 => ?_
              have := q H17 s17
              simpa using this
            · refine bools_go (xs := ws) (bs := ts.map fun t' => decide (testS t = testS t')) (fun _ => rfl) (fun Q q => ⟨_, rfl, q⟩) (s16 _ _ (s914 _ _ hw9)) (by rw [List.length_map, lw]) (by omega) (fun kk y2 c H17 Q s17 ey2 ec q => ?_) fun H18 B2 s18' _ h18 => ?_
              · obtain ⟨t2, et2, at2⟩ := pw9.at' ey2
                rw [List.getElem?_map, et2] at ec
                cases ec
                obtain ⟨okt2, dt2⟩ := okt t2 (List.mem_of_getElem? et2)
                have s917 := s914.trans (s16.trans s17)
                refine op_go ⟨_, rfl, y, t, B, rfl, at'.kp (TupKp.of s917), okt', bok.bk, dt, fun H19 s19 => ?_⟩
                have s19 : Same H17 H19 := s19
                refine ⟨_, rfl, y2, t2, B, rfl, at2.kp (TupKp.of (s917.trans s19)), okt2, bok.bk, dt2, fun H20 s20 => ⟨rfl, ?_⟩⟩
                rw [str_dec]
                exact q H20 (s19.trans s20)
              · refine bools_same (s18' _ _ h16) h18 ⟨_, rfl, iteSf rfl (next_go ?_)⟩
                exact ⟨(s914.trans s16).trans s18', _, _, _, _, _, _, rfl⟩
          · rintro σ H10 ⟨s10, z6, z7, z8, z9, z10, z12, rfl⟩
            exact ⟨s18.trans (s9.trans s10), _, _, _, _, _, _, _, _, _, _, _, _, _, rfl⟩
  · rintro σ H' ⟨s1, x1, x2, x3, x4, x5, x6, x7, x8, x9, x10, x11, x12, x13, rfl⟩
    try dsimp only
    refine ret_go ?_
    exact ⟨rfl, fun H2 s2 => k H2⟩
end
end K14

namespace K14
open PySem L2 PySem.Spec PyProof.Rows
/-- each two unlike classes of some: what == asks of them -/
def pairsB (K : PySem.W.Frag) (cs : List Addr) : Bool := cs.all fun C => cs.all fun D => decide (C = D) || (PySem.W.notFirst K C (.ref D) && decide (PySem.W.kitOne K (.ref D) (.ref C) = some false))
theorem pairsB_ok {K : PySem.W.Frag} {cs : List Addr} (h : pairsB K cs = true) : ∀ C ∈ cs, ∀ D ∈ cs, C ≠ D → OtherK K C D := fun C hC D hD n => by
  have h1 := List.all_eq_true.mp (List.all_eq_true.mp h C hC) D hD
  rw [Bool.or_eq_true, decide_eq_true_eq, Bool.and_eq_true, decide_eq_true_eq] at h1
  rcases h1 with h1 | h1
  · exact absurd h1 n
  · exact ⟨h1.1, h1.2⟩
end K14

/-! a law's end where the top is run by the kernel at once and only facts of what it left are told -/
namespace L2
open PySem PySem.Spec PyProof.Rows PySem.W
theorem walk_lawE {l : PySem.W.OpenLaw} {n k : Nat} {q : Program} {loose : List Str} {XP : (Str → Option Value) → Heap → Prop} {YP : World → Heap → Prop} {d : DefRec} {sp : PySem.W.Frag → Sp} (hn : l.most = some n) (hn2 : n ≤ sizeLine)
    (hdf : d.params.defaults = []) (hr : Room k callerA)
    (F : ∀ (w : World) (mg : Str → Option Value) (fa : Addr) (h : Heap), YP w h → h.Ns mainGlobals mg → mg d.name = some (.ref fa) → ∃ K : PySem.W.Frag, K.In h ∧ ∀ base : Heap, K.In base → base.Ns mainGlobals mg → LawOk l.prog w K mg base k fa (sp K))
    (hsp : ∀ (K : PySem.W.Frag) (H : Hp) (a : Addr) (ns : List Int), ns.length ≤ n → SqL K H a (ns.map V.int) → sp K [.ref a] H (fun v _ => v = .bl true) E0) : PySem.W.WalkO q loose XP YP l.row.toRowW d [] (fun f vs => PySem.call f vs) := by
  refine Att.attach_call hn hdf fun w s₀ s₁ mg mb fa o pm cd doc a vs ns G Y ho hd hcd hmg hobj hints hlen hg => ?_
  obtain ⟨K, KX, F'⟩ := F w mg fa _ Y G.T.g hmg
  exact LawOk.called KX G.T.g G.T.b G.T.builtins G.T.nolimit hg hobj hints (Nat.le_trans hlen hn2) hr F' fun H hS => hsp K H a ns hlen hS
theorem Fun.ofD {K : PySem.W.Frag} {nm qual : Str} {st : Stmt} {f : Addr} {fd : FuncData} (F : FunD K nm qual (defArgs st) (defBody st) (defScope st) [] [] f fd) : Fun K nm qual st f fd := by
  obtain ⟨⟨oc, od, dV, kV, doc, pm, an, cdv, ct, osl, e, lk, hcd, hD, _⟩, kp⟩ := F
  rcases hD with ⟨_, rfl⟩ | ⟨z, _⟩
  · exact ⟨⟨oc, od, kV, doc, pm, an, cdv, ct, osl, e, lk, hcd⟩, kp⟩
  · exact absurd rfl z
theorem Binds.one {K : PySem.W.Frag} {fd : FuncData} {x : Str} (b : Binds K fd [x] []) (s : Shared) (u : Value) (k : K.In s.heap) : BindsTo s fd ⟨[u], []⟩ [(x, u)] := b s [u] k rfl
/-! the part of the heap that is looked at: the module's names, the classes' tables and methods, code, defaults -/
def valsOf (o : Obj) : List Addr := match o.data with
  | .dict es _ => es.toList.flatMap fun e => He.refV e.val
  | .seq its _ => its.toList.flatMap He.refV
  | _ => []
def fnRefs (g : Addr → Option Obj) (a : Addr) : List Addr := match g a with
  | some ⟨_, _, .func fd, _⟩ => a :: (He.refV fd.code ++ match fd.defaults with
    | .ref t => t :: (match g t with
      | some o => valsOf o
      | none => [])
    | _ => [])
  | _ => [a]
def clsRefs (g : Addr → Option Obj) (a : Addr) : List Addr := match g a with
  | some ⟨_, _, .cls cd, _⟩ => a :: cd.ns :: (match g cd.ns with
    | some o => (valsOf o).flatMap (fnRefs g)
    | none => [])
  | _ => fnRefs g a
def gather (g : Addr → Option Obj) : List Addr := mainGlobals :: (match g mainGlobals with
  | some o => (valsOf o).flatMap (clsRefs g)
  | none => [])
abbrev AlY : Type := He.AlD × Bool
def obsY (fa : List He.Fa) (fn : List He.DefD) (EXS : List (PySem.W.Frag → Bool)) (K : PySem.W.Frag) : AlY := (He.obsD fa fn K, EXS.all fun f => f K)
structure SaysY (fa : List He.Fa) (fn : List He.DefD) (EXS : List (PySem.W.Frag → Bool)) (K : PySem.W.Frag) : Prop where
  d : He.SaysD fa fn K
  more : (EXS.all fun f => f K) = true
theorem saysY_of {fa : List He.Fa} {fn : List He.DefD} {EXS : List (PySem.W.Frag → Bool)} {K : PySem.W.Frag} (e : obsY fa fn EXS K = (He.valD fn, true)) : SaysY fa fn EXS K := ⟨congrArg (fun z : AlY => z.1) e, congrArg (fun z : AlY => z.2) e⟩
def obsYG (fa : List He.Fa) (fn : List He.DefD) (EXS : List (PySem.W.Frag → Bool)) (g : Addr → Option Obj) : AlY := obsY fa fn EXS (He.frG g (gather g))
def hookY (fa : List He.Fa) (fn : List He.DefD) (EXS : List (PySem.W.Frag → Bool)) : PySem.W.Hook where
  α := AlY
  obs := fun s => obsYG fa fn EXS s.heap.get?
  val := fun _ => (He.valD fn, true)
  says := fun _ h => ∃ K : PySem.W.Frag, K.In h ∧ SaysY fa fn EXS K
  of := fun _ _ e => ⟨_, He.frG_in, saysY_of e⟩
  keeps := fun _ _ _ ⟨K, hK, c⟩ k => ⟨K, PySem.W.Frag.In.keeps hK k, c⟩
theorem obsYG_eq {fa : List He.Fa} {fn : List He.DefD} {EXS : List (PySem.W.Frag → Bool)} {g : Addr → Option Obj} {s : Shared} (h : ∀ a, g a = s.heap.get? a) : obsYG fa fn EXS g = (hookY fa fn EXS).obs s := by
  have e : g = s.heap.get? := funext h
  rw [e] <;> rfl
/-- what a list of Bools of K says -/
theorem ex_at {fa : List He.Fa} {fn : List He.DefD} {EXS : List (PySem.W.Frag → Bool)} {K : PySem.W.Frag} (c : SaysY fa fn EXS K) (i : Nat) {f : PySem.W.Frag → Bool} (e : EXS[i]? = some f) : f K = true :=
  List.all_eq_true.mp c.more f (List.mem_of_getElem? e)
end L2
namespace K14
open PySem L2 PySem.Spec PyProof.Rows
def norowsB (K : PySem.W.Frag) (a : Addr) : Bool := match K.lookup a with
  | some ⟨.type c, _, .seq its _, _⟩ => decide (c = "tuple") && its.isEmpty
  | _ => false
theorem norowsB_ok {K : PySem.W.Frag} {a : Addr} (h : norowsB K a = true) : NoRows K a := by
  unfold norowsB at h
  cases q : K.lookup a with
  | none => rw [q] at h; cases h
  | some o =>
    obtain ⟨oc, od, dt, osl⟩ := o
    rw [q] at h
    cases oc with
    | type c =>
      cases dt with
      | seq its n =>
        obtain ⟨h1, h2⟩ := He.ba (show (decide (c = "tuple") && its.isEmpty) = true from h)
        have e1 : c = "tuple" := of_decide_eq_true h1
        have e2 : its = #[] := Array.isEmpty_iff.mp h2
        subst e1 e2
        exact ⟨_, n, q, rfl, rfl⟩
      | _ => cases h
    | _ => cases dt <;> cases h
end K14

set_option pp.maxSteps 60
namespace K14
open PySem L2 PySem.Spec PyProof.Rows
theorem facts {P : Program} {w : World} {K : PySem.W.Frag} {mg : Str → Option Value} {fa : Addr} (hfa : mg "law" = some (.ref fa))
    {AM NN XW fWi fWs fWq XO fOi fOs fOq XB fBi fBs fBq XM fMs fMq XT fTs fTq XN fNi fNs fNq XA fAi fAs fAq XP fPi fPs fPq XK fKi fKs fKq XI tI fIi fIs fIq TS RW f_is_integer f_is_sequence f_is_name f_check f_is_kind f_is_what f_are_rows f_block_lines f_law_box f_law_take f_law_pick f_law_mixed f_law_names f_law_number f_law_test f_law_row f_law_rows f_law_event f_law_worth f_law_book f_law_test_text f_law_row_lines f_law_test_of f_law_row_of f_law_rows_of f_law_flat f_law_all_rows f_law_is_test f_law_are_rows f_law_is_row f_law_lists_kept f_law_unlike_right f_law : Addr} {fd_Was_init fd_Was_str fd_Was_eq fd_OldBelow_init fd_OldBelow_str fd_OldBelow_eq fd_NewBelow_init fd_NewBelow_str fd_NewBelow_eq fd_Moved_str fd_Moved_eq fd_Noted_str fd_Noted_eq fd_Not_init fd_Not_str fd_Not_eq fd_Add_init fd_Add_str fd_Add_eq fd_Put_init fd_Put_str fd_Put_eq fd_Mark_init fd_Mark_str fd_Mark_eq fd_If_init fd_If_str fd_If_eq fd_is_integer fd_is_sequence fd_is_name fd_check fd_is_kind fd_is_what fd_are_rows fd_block_lines fd_law_box fd_law_take fd_law_pick fd_law_mixed fd_law_names fd_law_number fd_law_test fd_law_row fd_law_rows fd_law_event fd_law_worth fd_law_book fd_law_test_text fd_law_row_lines fd_law_test_of fd_law_row_of fd_law_rows_of fd_law_flat fd_law_all_rows fd_law_is_test fd_law_are_rows fd_law_is_row fd_law_lists_kept fd_law_unlike_right fd_law : FuncData}
    (m_AM : mg "AMOUNTS" = some (.ref AM))
    (tAM : ∀ H, SqT K H AM (amtL.map V.str))
    (m_NN : mg "NO_NAMES" = some (.ref NN))
    (tNN : ∀ H, SqT K H NN (noNames.map V.str))
    (m_XW : mg "Was" = some (.ref XW))
    (clsW : Cls K XW)
    (cG : PySem.W.specialIn K (.builtin "object.__class__") "__get__" = some (some (.builtin "getset_descriptor.__get__")))
    (cT : PySem.W.takesIn K (.builtin "object.__class__") = some true)
    (ocW : PySem.W.findIn K (.ref XW) "__class__" = some (some (.builtin "object.__class__")))
    (omW : PySem.W.mroIn K XW (.type "object") = some true)
    (kW_str : PySem.W.kitOne K (.ref XW) (.type "str") = some false)
    (kW_int : PySem.W.kitOne K (.ref XW) (.type "int") = some false)
    (kW_bool : PySem.W.kitOne K (.ref XW) (.type "bool") = some false)
    (kW_list : PySem.W.kitOne K (.ref XW) (.type "list") = some false)
    (kW_tuple : PySem.W.kitOne K (.ref XW) (.type "tuple") = some false)
    (nW0 : NoAttr K XW "kind")
    (D_Was_init : FunD K "__init__" "Was.__init__" (defArgs s_Was_init) (defBody s_Was_init) (defScope s_Was_init) [] [] fWi fd_Was_init)
    (MW : Mk K XW fWi)
    (D_Was_str : FunD K "__str__" "Was.__str__" (defArgs s_Was_str) (defBody s_Was_str) (defScope s_Was_str) [] [] fWs fd_Was_str)
    (hsW : PySem.W.findIn K (.ref XW) "__str__" = some (some (.ref fWs)))
    (fsW : PySem.W.isFn K (.ref fWs) = true)
    (fmW : PySem.W.findIn K (.ref XW) "__format__" = some (some (.builtin "object.__format__")))
    (D_Was_eq : FunD K "__eq__" "Was.__eq__" (defArgs s_Was_eq) (defBody s_Was_eq) (defScope s_Was_eq) [] [] fWq fd_Was_eq)
    (heW : PySem.W.findIn K (.ref XW) "__eq__" = some (some (.ref fWq)))
    (feW : PySem.W.isFn K (.ref fWq) = true)
    (sfW : PySem.W.selfFirst K XW = true)
    (neW : PySem.W.findIn K (.ref XW) "__ne__" = some (some (.builtin "object.__ne__")))
    (ntW : PySem.W.notFirst K XW (.type "tuple") = true)
    (nsW : PySem.W.notFirst K XW (.type "str") = true)
    (ktW : PySem.W.kitOne K (.type "tuple") (.ref XW) = some false)
    (ksW : PySem.W.kitOne K (.type "str") (.ref XW) = some false)
    (m_XO : mg "OldBelow" = some (.ref XO))
    (clsO : Cls K XO)
    (ocO : PySem.W.findIn K (.ref XO) "__class__" = some (some (.builtin "object.__class__")))
    (omO : PySem.W.mroIn K XO (.type "object") = some true)
    (kO_str : PySem.W.kitOne K (.ref XO) (.type "str") = some false)
    (kO_int : PySem.W.kitOne K (.ref XO) (.type "int") = some false)
    (kO_bool : PySem.W.kitOne K (.ref XO) (.type "bool") = some false)
    (kO_list : PySem.W.kitOne K (.ref XO) (.type "list") = some false)
    (kO_tuple : PySem.W.kitOne K (.ref XO) (.type "tuple") = some false)
    (nO0 : NoAttr K XO "number")
    (D_OldBelow_init : FunD K "__init__" "OldBelow.__init__" (defArgs s_OldBelow_init) (defBody s_OldBelow_init) (defScope s_OldBelow_init) [] [] fOi fd_OldBelow_init)
    (MO : Mk K XO fOi)
    (D_OldBelow_str : FunD K "__str__" "OldBelow.__str__" (defArgs s_OldBelow_str) (defBody s_OldBelow_str) (defScope s_OldBelow_str) [] [] fOs fd_OldBelow_str)
    (hsO : PySem.W.findIn K (.ref XO) "__str__" = some (some (.ref fOs)))
    (fsO : PySem.W.isFn K (.ref fOs) = true)
    (fmO : PySem.W.findIn K (.ref XO) "__format__" = some (some (.builtin "object.__format__")))
    (D_OldBelow_eq : FunD K "__eq__" "OldBelow.__eq__" (defArgs s_OldBelow_eq) (defBody s_OldBelow_eq) (defScope s_OldBelow_eq) [] [] fOq fd_OldBelow_eq)
    (heO : PySem.W.findIn K (.ref XO) "__eq__" = some (some (.ref fOq)))
    (feO : PySem.W.isFn K (.ref fOq) = true)
    (sfO : PySem.W.selfFirst K XO = true)
    (neO : PySem.W.findIn K (.ref XO) "__ne__" = some (some (.builtin "object.__ne__")))
    (ntO : PySem.W.notFirst K XO (.type "tuple") = true)
    (nsO : PySem.W.notFirst K XO (.type "str") = true)
    (ktO : PySem.W.kitOne K (.type "tuple") (.ref XO) = some false)
    (ksO : PySem.W.kitOne K (.type "str") (.ref XO) = some false)
    (m_XB : mg "NewBelow" = some (.ref XB))
    (clsB : Cls K XB)
    (ocB : PySem.W.findIn K (.ref XB) "__class__" = some (some (.builtin "object.__class__")))
    (omB : PySem.W.mroIn K XB (.type "object") = some true)
    (kB_str : PySem.W.kitOne K (.ref XB) (.type "str") = some false)
    (kB_int : PySem.W.kitOne K (.ref XB) (.type "int") = some false)
    (kB_bool : PySem.W.kitOne K (.ref XB) (.type "bool") = some false)
    (kB_list : PySem.W.kitOne K (.ref XB) (.type "list") = some false)
    (kB_tuple : PySem.W.kitOne K (.ref XB) (.type "tuple") = some false)
    (nB0 : NoAttr K XB "number")
    (D_NewBelow_init : FunD K "__init__" "NewBelow.__init__" (defArgs s_NewBelow_init) (defBody s_NewBelow_init) (defScope s_NewBelow_init) [] [] fBi fd_NewBelow_init)
    (MB : Mk K XB fBi)
    (D_NewBelow_str : FunD K "__str__" "NewBelow.__str__" (defArgs s_NewBelow_str) (defBody s_NewBelow_str) (defScope s_NewBelow_str) [] [] fBs fd_NewBelow_str)
    (hsB : PySem.W.findIn K (.ref XB) "__str__" = some (some (.ref fBs)))
    (fsB : PySem.W.isFn K (.ref fBs) = true)
    (fmB : PySem.W.findIn K (.ref XB) "__format__" = some (some (.builtin "object.__format__")))
    (D_NewBelow_eq : FunD K "__eq__" "NewBelow.__eq__" (defArgs s_NewBelow_eq) (defBody s_NewBelow_eq) (defScope s_NewBelow_eq) [] [] fBq fd_NewBelow_eq)
    (heB : PySem.W.findIn K (.ref XB) "__eq__" = some (some (.ref fBq)))
    (feB : PySem.W.isFn K (.ref fBq) = true)
    (sfB : PySem.W.selfFirst K XB = true)
    (neB : PySem.W.findIn K (.ref XB) "__ne__" = some (some (.builtin "object.__ne__")))
    (ntB : PySem.W.notFirst K XB (.type "tuple") = true)
    (nsB : PySem.W.notFirst K XB (.type "str") = true)
    (ktB : PySem.W.kitOne K (.type "tuple") (.ref XB) = some false)
    (ksB : PySem.W.kitOne K (.type "str") (.ref XB) = some false)
    (m_XM : mg "Moved" = some (.ref XM))
    (clsM : Cls K XM)
    (ocM : PySem.W.findIn K (.ref XM) "__class__" = some (some (.builtin "object.__class__")))
    (omM : PySem.W.mroIn K XM (.type "object") = some true)
    (kM_str : PySem.W.kitOne K (.ref XM) (.type "str") = some false)
    (kM_int : PySem.W.kitOne K (.ref XM) (.type "int") = some false)
    (kM_bool : PySem.W.kitOne K (.ref XM) (.type "bool") = some false)
    (kM_list : PySem.W.kitOne K (.ref XM) (.type "list") = some false)
    (kM_tuple : PySem.W.kitOne K (.ref XM) (.type "tuple") = some false)
    (mkM : PySem.W.makesIn K XM = true)
    (kpM : PySem.W.keepIn K (.ref XM) = true)
    (iniM : PySem.W.findIn K (.ref XM) "__init__" = some (some (.builtin "object.__init__")))
    (D_Moved_str : FunD K "__str__" "Moved.__str__" (defArgs s_Moved_str) (defBody s_Moved_str) (defScope s_Moved_str) [] [] fMs fd_Moved_str)
    (hsM : PySem.W.findIn K (.ref XM) "__str__" = some (some (.ref fMs)))
    (fsM : PySem.W.isFn K (.ref fMs) = true)
    (fmM : PySem.W.findIn K (.ref XM) "__format__" = some (some (.builtin "object.__format__")))
    (D_Moved_eq : FunD K "__eq__" "Moved.__eq__" (defArgs s_Moved_eq) (defBody s_Moved_eq) (defScope s_Moved_eq) [] [] fMq fd_Moved_eq)
    (heM : PySem.W.findIn K (.ref XM) "__eq__" = some (some (.ref fMq)))
    (feM : PySem.W.isFn K (.ref fMq) = true)
    (sfM : PySem.W.selfFirst K XM = true)
    (neM : PySem.W.findIn K (.ref XM) "__ne__" = some (some (.builtin "object.__ne__")))
    (ntM : PySem.W.notFirst K XM (.type "tuple") = true)
    (nsM : PySem.W.notFirst K XM (.type "str") = true)
    (ktM : PySem.W.kitOne K (.type "tuple") (.ref XM) = some false)
    (ksM : PySem.W.kitOne K (.type "str") (.ref XM) = some false)
    (m_XT : mg "Noted" = some (.ref XT))
    (clsT : Cls K XT)
    (ocT : PySem.W.findIn K (.ref XT) "__class__" = some (some (.builtin "object.__class__")))
    (omT : PySem.W.mroIn K XT (.type "object") = some true)
    (kT_str : PySem.W.kitOne K (.ref XT) (.type "str") = some false)
    (kT_int : PySem.W.kitOne K (.ref XT) (.type "int") = some false)
    (kT_bool : PySem.W.kitOne K (.ref XT) (.type "bool") = some false)
    (kT_list : PySem.W.kitOne K (.ref XT) (.type "list") = some false)
    (kT_tuple : PySem.W.kitOne K (.ref XT) (.type "tuple") = some false)
    (mkT : PySem.W.makesIn K XT = true)
    (kpT : PySem.W.keepIn K (.ref XT) = true)
    (iniT : PySem.W.findIn K (.ref XT) "__init__" = some (some (.builtin "object.__init__")))
    (D_Noted_str : FunD K "__str__" "Noted.__str__" (defArgs s_Noted_str) (defBody s_Noted_str) (defScope s_Noted_str) [] [] fTs fd_Noted_str)
    (hsT : PySem.W.findIn K (.ref XT) "__str__" = some (some (.ref fTs)))
    (fsT : PySem.W.isFn K (.ref fTs) = true)
    (fmT : PySem.W.findIn K (.ref XT) "__format__" = some (some (.builtin "object.__format__")))
    (D_Noted_eq : FunD K "__eq__" "Noted.__eq__" (defArgs s_Noted_eq) (defBody s_Noted_eq) (defScope s_Noted_eq) [] [] fTq fd_Noted_eq)
    (heT : PySem.W.findIn K (.ref XT) "__eq__" = some (some (.ref fTq)))
    (feT : PySem.W.isFn K (.ref fTq) = true)
    (sfT : PySem.W.selfFirst K XT = true)
    (neT : PySem.W.findIn K (.ref XT) "__ne__" = some (some (.builtin "object.__ne__")))
    (ntT : PySem.W.notFirst K XT (.type "tuple") = true)
    (nsT : PySem.W.notFirst K XT (.type "str") = true)
    (ktT : PySem.W.kitOne K (.type "tuple") (.ref XT) = some false)
    (ksT : PySem.W.kitOne K (.type "str") (.ref XT) = some false)
    (m_XN : mg "Not" = some (.ref XN))
    (clsN : Cls K XN)
    (ocN : PySem.W.findIn K (.ref XN) "__class__" = some (some (.builtin "object.__class__")))
    (omN : PySem.W.mroIn K XN (.type "object") = some true)
    (kN_str : PySem.W.kitOne K (.ref XN) (.type "str") = some false)
    (kN_int : PySem.W.kitOne K (.ref XN) (.type "int") = some false)
    (kN_bool : PySem.W.kitOne K (.ref XN) (.type "bool") = some false)
    (kN_list : PySem.W.kitOne K (.ref XN) (.type "list") = some false)
    (kN_tuple : PySem.W.kitOne K (.ref XN) (.type "tuple") = some false)
    (nN0 : NoAttr K XN "test")
    (D_Not_init : FunD K "__init__" "Not.__init__" (defArgs s_Not_init) (defBody s_Not_init) (defScope s_Not_init) [] [] fNi fd_Not_init)
    (MN : Mk K XN fNi)
    (D_Not_str : FunD K "__str__" "Not.__str__" (defArgs s_Not_str) (defBody s_Not_str) (defScope s_Not_str) [] [] fNs fd_Not_str)
    (hsN : PySem.W.findIn K (.ref XN) "__str__" = some (some (.ref fNs)))
    (fsN : PySem.W.isFn K (.ref fNs) = true)
    (fmN : PySem.W.findIn K (.ref XN) "__format__" = some (some (.builtin "object.__format__")))
    (D_Not_eq : FunD K "__eq__" "Not.__eq__" (defArgs s_Not_eq) (defBody s_Not_eq) (defScope s_Not_eq) [] [] fNq fd_Not_eq)
    (heN : PySem.W.findIn K (.ref XN) "__eq__" = some (some (.ref fNq)))
    (feN : PySem.W.isFn K (.ref fNq) = true)
    (sfN : PySem.W.selfFirst K XN = true)
    (neN : PySem.W.findIn K (.ref XN) "__ne__" = some (some (.builtin "object.__ne__")))
    (ntN : PySem.W.notFirst K XN (.type "tuple") = true)
    (nsN : PySem.W.notFirst K XN (.type "str") = true)
    (ktN : PySem.W.kitOne K (.type "tuple") (.ref XN) = some false)
    (ksN : PySem.W.kitOne K (.type "str") (.ref XN) = some false)
    (m_XA : mg "Add" = some (.ref XA))
    (clsA : Cls K XA)
    (ocA : PySem.W.findIn K (.ref XA) "__class__" = some (some (.builtin "object.__class__")))
    (omA : PySem.W.mroIn K XA (.type "object") = some true)
    (kA_str : PySem.W.kitOne K (.ref XA) (.type "str") = some false)
    (kA_int : PySem.W.kitOne K (.ref XA) (.type "int") = some false)
    (kA_bool : PySem.W.kitOne K (.ref XA) (.type "bool") = some false)
    (kA_list : PySem.W.kitOne K (.ref XA) (.type "list") = some false)
    (kA_tuple : PySem.W.kitOne K (.ref XA) (.type "tuple") = some false)
    (nA0 : NoAttr K XA "factor")
    (nA1 : NoAttr K XA "what")
    (nA2 : NoAttr K XA "total")
    (nA3 : NoAttr K XA "place")
    (D_Add_init : FunD K "__init__" "Add.__init__" (defArgs s_Add_init) (defBody s_Add_init) (defScope s_Add_init) [] [] fAi fd_Add_init)
    (MA : Mk K XA fAi)
    (D_Add_str : FunD K "__str__" "Add.__str__" (defArgs s_Add_str) (defBody s_Add_str) (defScope s_Add_str) [] [] fAs fd_Add_str)
    (hsA : PySem.W.findIn K (.ref XA) "__str__" = some (some (.ref fAs)))
    (fsA : PySem.W.isFn K (.ref fAs) = true)
    (fmA : PySem.W.findIn K (.ref XA) "__format__" = some (some (.builtin "object.__format__")))
    (D_Add_eq : FunD K "__eq__" "Add.__eq__" (defArgs s_Add_eq) (defBody s_Add_eq) (defScope s_Add_eq) [] [] fAq fd_Add_eq)
    (heA : PySem.W.findIn K (.ref XA) "__eq__" = some (some (.ref fAq)))
    (feA : PySem.W.isFn K (.ref fAq) = true)
    (sfA : PySem.W.selfFirst K XA = true)
    (neA : PySem.W.findIn K (.ref XA) "__ne__" = some (some (.builtin "object.__ne__")))
    (ntA : PySem.W.notFirst K XA (.type "tuple") = true)
    (nsA : PySem.W.notFirst K XA (.type "str") = true)
    (ktA : PySem.W.kitOne K (.type "tuple") (.ref XA) = some false)
    (ksA : PySem.W.kitOne K (.type "str") (.ref XA) = some false)
    (m_XP : mg "Put" = some (.ref XP))
    (clsP : Cls K XP)
    (ocP : PySem.W.findIn K (.ref XP) "__class__" = some (some (.builtin "object.__class__")))
    (omP : PySem.W.mroIn K XP (.type "object") = some true)
    (kP_str : PySem.W.kitOne K (.ref XP) (.type "str") = some false)
    (kP_int : PySem.W.kitOne K (.ref XP) (.type "int") = some false)
    (kP_bool : PySem.W.kitOne K (.ref XP) (.type "bool") = some false)
    (kP_list : PySem.W.kitOne K (.ref XP) (.type "list") = some false)
    (kP_tuple : PySem.W.kitOne K (.ref XP) (.type "tuple") = some false)
    (nP0 : NoAttr K XP "note")
    (nP1 : NoAttr K XP "what")
    (D_Put_init : FunD K "__init__" "Put.__init__" (defArgs s_Put_init) (defBody s_Put_init) (defScope s_Put_init) [] [] fPi fd_Put_init)
    (MP : Mk K XP fPi)
    (D_Put_str : FunD K "__str__" "Put.__str__" (defArgs s_Put_str) (defBody s_Put_str) (defScope s_Put_str) [] [] fPs fd_Put_str)
    (hsP : PySem.W.findIn K (.ref XP) "__str__" = some (some (.ref fPs)))
    (fsP : PySem.W.isFn K (.ref fPs) = true)
    (fmP : PySem.W.findIn K (.ref XP) "__format__" = some (some (.builtin "object.__format__")))
    (D_Put_eq : FunD K "__eq__" "Put.__eq__" (defArgs s_Put_eq) (defBody s_Put_eq) (defScope s_Put_eq) [] [] fPq fd_Put_eq)
    (heP : PySem.W.findIn K (.ref XP) "__eq__" = some (some (.ref fPq)))
    (feP : PySem.W.isFn K (.ref fPq) = true)
    (sfP : PySem.W.selfFirst K XP = true)
    (neP : PySem.W.findIn K (.ref XP) "__ne__" = some (some (.builtin "object.__ne__")))
    (ntP : PySem.W.notFirst K XP (.type "tuple") = true)
    (nsP : PySem.W.notFirst K XP (.type "str") = true)
    (ktP : PySem.W.kitOne K (.type "tuple") (.ref XP) = some false)
    (ksP : PySem.W.kitOne K (.type "str") (.ref XP) = some false)
    (m_XK : mg "Mark" = some (.ref XK))
    (clsK : Cls K XK)
    (ocK : PySem.W.findIn K (.ref XK) "__class__" = some (some (.builtin "object.__class__")))
    (omK : PySem.W.mroIn K XK (.type "object") = some true)
    (kK_str : PySem.W.kitOne K (.ref XK) (.type "str") = some false)
    (kK_int : PySem.W.kitOne K (.ref XK) (.type "int") = some false)
    (kK_bool : PySem.W.kitOne K (.ref XK) (.type "bool") = some false)
    (kK_list : PySem.W.kitOne K (.ref XK) (.type "list") = some false)
    (kK_tuple : PySem.W.kitOne K (.ref XK) (.type "tuple") = some false)
    (nK0 : NoAttr K XK "place")
    (D_Mark_init : FunD K "__init__" "Mark.__init__" (defArgs s_Mark_init) (defBody s_Mark_init) (defScope s_Mark_init) [] [] fKi fd_Mark_init)
    (MK : Mk K XK fKi)
    (D_Mark_str : FunD K "__str__" "Mark.__str__" (defArgs s_Mark_str) (defBody s_Mark_str) (defScope s_Mark_str) [] [] fKs fd_Mark_str)
    (hsK : PySem.W.findIn K (.ref XK) "__str__" = some (some (.ref fKs)))
    (fsK : PySem.W.isFn K (.ref fKs) = true)
    (fmK : PySem.W.findIn K (.ref XK) "__format__" = some (some (.builtin "object.__format__")))
    (D_Mark_eq : FunD K "__eq__" "Mark.__eq__" (defArgs s_Mark_eq) (defBody s_Mark_eq) (defScope s_Mark_eq) [] [] fKq fd_Mark_eq)
    (heK : PySem.W.findIn K (.ref XK) "__eq__" = some (some (.ref fKq)))
    (feK : PySem.W.isFn K (.ref fKq) = true)
    (sfK : PySem.W.selfFirst K XK = true)
    (neK : PySem.W.findIn K (.ref XK) "__ne__" = some (some (.builtin "object.__ne__")))
    (ntK : PySem.W.notFirst K XK (.type "tuple") = true)
    (nsK : PySem.W.notFirst K XK (.type "str") = true)
    (ktK : PySem.W.kitOne K (.type "tuple") (.ref XK) = some false)
    (ksK : PySem.W.kitOne K (.type "str") (.ref XK) = some false)
    (m_XI : mg "If" = some (.ref XI))
    (clsI : Cls K XI)
    (ocI : PySem.W.findIn K (.ref XI) "__class__" = some (some (.builtin "object.__class__")))
    (omI : PySem.W.mroIn K XI (.type "object") = some true)
    (kI_str : PySem.W.kitOne K (.ref XI) (.type "str") = some false)
    (kI_int : PySem.W.kitOne K (.ref XI) (.type "int") = some false)
    (kI_bool : PySem.W.kitOne K (.ref XI) (.type "bool") = some false)
    (kI_list : PySem.W.kitOne K (.ref XI) (.type "list") = some false)
    (kI_tuple : PySem.W.kitOne K (.ref XI) (.type "tuple") = some false)
    (nI0 : NoAttr K XI "test")
    (nI1 : NoAttr K XI "rows")
    (nI2 : NoAttr K XI "others")
    (D_If_init : FunD K "__init__" "If.__init__" (defArgs s_If_init) (defBody s_If_init) (defScope s_If_init) [V.ref tI] [] fIi fd_If_init)
    (MI : Mk K XI fIi)
    (D_If_str : FunD K "__str__" "If.__str__" (defArgs s_If_str) (defBody s_If_str) (defScope s_If_str) [] [] fIs fd_If_str)
    (hsI : PySem.W.findIn K (.ref XI) "__str__" = some (some (.ref fIs)))
    (fsI : PySem.W.isFn K (.ref fIs) = true)
    (fmI : PySem.W.findIn K (.ref XI) "__format__" = some (some (.builtin "object.__format__")))
    (D_If_eq : FunD K "__eq__" "If.__eq__" (defArgs s_If_eq) (defBody s_If_eq) (defScope s_If_eq) [] [] fIq fd_If_eq)
    (heI : PySem.W.findIn K (.ref XI) "__eq__" = some (some (.ref fIq)))
    (feI : PySem.W.isFn K (.ref fIq) = true)
    (sfI : PySem.W.selfFirst K XI = true)
    (neI : PySem.W.findIn K (.ref XI) "__ne__" = some (some (.builtin "object.__ne__")))
    (ntI : PySem.W.notFirst K XI (.type "tuple") = true)
    (nsI : PySem.W.notFirst K XI (.type "str") = true)
    (ktI : PySem.W.kitOne K (.type "tuple") (.ref XI) = some false)
    (ksI : PySem.W.kitOne K (.type "str") (.ref XI) = some false)
    (m_TS : mg "Test" = some (.ref TS))
    (bTS_W : PySem.W.kitOne K (.ref XW) (.ref TS) = some true)
    (bTS_O : PySem.W.kitOne K (.ref XO) (.ref TS) = some true)
    (bTS_B : PySem.W.kitOne K (.ref XB) (.ref TS) = some true)
    (bTS_M : PySem.W.kitOne K (.ref XM) (.ref TS) = some true)
    (bTS_T : PySem.W.kitOne K (.ref XT) (.ref TS) = some true)
    (bTS_N : PySem.W.kitOne K (.ref XN) (.ref TS) = some true)
    (m_RW : mg "Row" = some (.ref RW))
    (bRW_A : PySem.W.kitOne K (.ref XA) (.ref RW) = some true)
    (bRW_P : PySem.W.kitOne K (.ref XP) (.ref RW) = some true)
    (bRW_K : PySem.W.kitOne K (.ref XK) (.ref RW) = some true)
    (bRW_I : PySem.W.kitOne K (.ref XI) (.ref RW) = some true)
    (hU : ([XW, XO, XB, XM, XT, XN, XA, XP, XK, XI] : List Addr).Nodup)
    (N_tI : NoRows K tI)
    (bRW_W : PySem.W.kitOne K (.ref XW) (.ref RW) = some false)
    (bRW_O : PySem.W.kitOne K (.ref XO) (.ref RW) = some false)
    (bRW_B : PySem.W.kitOne K (.ref XB) (.ref RW) = some false)
    (bRW_M : PySem.W.kitOne K (.ref XM) (.ref RW) = some false)
    (bRW_T : PySem.W.kitOne K (.ref XT) (.ref RW) = some false)
    (bRW_N : PySem.W.kitOne K (.ref XN) (.ref RW) = some false)
    (bTS_A : PySem.W.kitOne K (.ref XA) (.ref TS) = some false)
    (bTS_P : PySem.W.kitOne K (.ref XP) (.ref TS) = some false)
    (bTS_K : PySem.W.kitOne K (.ref XK) (.ref TS) = some false)
    (bTS_I : PySem.W.kitOne K (.ref XI) (.ref TS) = some false)
    (pairs : ∀ C ∈ ([XW, XO, XB, XM, XT, XN, XA, XP, XK, XI] : List Addr), ∀ D ∈ ([XW, XO, XB, XM, XT, XN, XA, XP, XK, XI] : List Addr), C ≠ D → OtherK K C D)
    (D_is_integer : FunD K "is_integer" "is_integer" (defArgs s_is_integer) (defBody s_is_integer) (defScope s_is_integer) [] [] f_is_integer fd_is_integer)
    (m_f_is_integer : mg "is_integer" = some (.ref f_is_integer))
    (D_is_sequence : FunD K "is_sequence" "is_sequence" (defArgs s_is_sequence) (defBody s_is_sequence) (defScope s_is_sequence) [] [] f_is_sequence fd_is_sequence)
    (m_f_is_sequence : mg "is_sequence" = some (.ref f_is_sequence))
    (D_is_name : FunD K "is_name" "is_name" (defArgs s_is_name) (defBody s_is_name) (defScope s_is_name) [] [] f_is_name fd_is_name)
    (m_f_is_name : mg "is_name" = some (.ref f_is_name))
    (D_check : FunD K "check" "check" (defArgs s_check) (defBody s_check) (defScope s_check) [] [] f_check fd_check)
    (m_f_check : mg "check" = some (.ref f_check))
    (D_is_kind : FunD K "is_kind" "is_kind" (defArgs s_is_kind) (defBody s_is_kind) (defScope s_is_kind) [] [] f_is_kind fd_is_kind)
    (m_f_is_kind : mg "is_kind" = some (.ref f_is_kind))
    (D_is_what : FunD K "is_what" "is_what" (defArgs s_is_what) (defBody s_is_what) (defScope s_is_what) [] [] f_is_what fd_is_what)
    (m_f_is_what : mg "is_what" = some (.ref f_is_what))
    (D_are_rows : FunD K "are_rows" "are_rows" (defArgs s_are_rows) (defBody s_are_rows) (defScope s_are_rows) [] [] f_are_rows fd_are_rows)
    (m_f_are_rows : mg "are_rows" = some (.ref f_are_rows))
    (D_block_lines : FunD K "block_lines" "block_lines" (defArgs s_block_lines) (defBody s_block_lines) (defScope s_block_lines) [] [] f_block_lines fd_block_lines)
    (m_f_block_lines : mg "block_lines" = some (.ref f_block_lines))
    (D_law_box : FunD K "_law_box" "_law_box" (defArgs s_law_box) (defBody s_law_box) (defScope s_law_box) [] [] f_law_box fd_law_box)
    (m_f_law_box : mg "_law_box" = some (.ref f_law_box))
    (D_law_take : FunD K "_law_take" "_law_take" (defArgs s_law_take) (defBody s_law_take) (defScope s_law_take) [] [] f_law_take fd_law_take)
    (m_f_law_take : mg "_law_take" = some (.ref f_law_take))
    (D_law_pick : FunD K "_law_pick" "_law_pick" (defArgs s_law_pick) (defBody s_law_pick) (defScope s_law_pick) [] [] f_law_pick fd_law_pick)
    (m_f_law_pick : mg "_law_pick" = some (.ref f_law_pick))
    (D_law_mixed : FunD K "_law_mixed" "_law_mixed" (defArgs s_law_mixed) (defBody s_law_mixed) (defScope s_law_mixed) [] [] f_law_mixed fd_law_mixed)
    (m_f_law_mixed : mg "_law_mixed" = some (.ref f_law_mixed))
    (D_law_names : FunD K "_law_names" "_law_names" (defArgs s_law_names) (defBody s_law_names) (defScope s_law_names) [] [] f_law_names fd_law_names)
    (m_f_law_names : mg "_law_names" = some (.ref f_law_names))
    (D_law_number : FunD K "_law_number" "_law_number" (defArgs s_law_number) (defBody s_law_number) (defScope s_law_number) [] [] f_law_number fd_law_number)
    (m_f_law_number : mg "_law_number" = some (.ref f_law_number))
    (D_law_test : FunD K "_law_test" "_law_test" (defArgs s_law_test) (defBody s_law_test) (defScope s_law_test) [] [] f_law_test fd_law_test)
    (m_f_law_test : mg "_law_test" = some (.ref f_law_test))
    (D_law_row : FunD K "_law_row" "_law_row" (defArgs s_law_row) (defBody s_law_row) (defScope s_law_row) [] [] f_law_row fd_law_row)
    (m_f_law_row : mg "_law_row" = some (.ref f_law_row))
    (D_law_rows : FunD K "_law_rows" "_law_rows" (defArgs s_law_rows) (defBody s_law_rows) (defScope s_law_rows) [] [] f_law_rows fd_law_rows)
    (m_f_law_rows : mg "_law_rows" = some (.ref f_law_rows))
    (D_law_event : FunD K "_law_event" "_law_event" (defArgs s_law_event) (defBody s_law_event) (defScope s_law_event) [] [] f_law_event fd_law_event)
    (m_f_law_event : mg "_law_event" = some (.ref f_law_event))
    (D_law_worth : FunD K "_law_worth" "_law_worth" (defArgs s_law_worth) (defBody s_law_worth) (defScope s_law_worth) [] [] f_law_worth fd_law_worth)
    (m_f_law_worth : mg "_law_worth" = some (.ref f_law_worth))
    (D_law_book : FunD K "_law_book" "_law_book" (defArgs s_law_book) (defBody s_law_book) (defScope s_law_book) [] [] f_law_book fd_law_book)
    (m_f_law_book : mg "_law_book" = some (.ref f_law_book))
    (D_law_test_text : FunD K "_law_test_text" "_law_test_text" (defArgs s_law_test_text) (defBody s_law_test_text) (defScope s_law_test_text) [] [] f_law_test_text fd_law_test_text)
    (m_f_law_test_text : mg "_law_test_text" = some (.ref f_law_test_text))
    (D_law_row_lines : FunD K "_law_row_lines" "_law_row_lines" (defArgs s_law_row_lines) (defBody s_law_row_lines) (defScope s_law_row_lines) [] [] f_law_row_lines fd_law_row_lines)
    (m_f_law_row_lines : mg "_law_row_lines" = some (.ref f_law_row_lines))
    (D_law_test_of : FunD K "_law_test_of" "_law_test_of" (defArgs s_law_test_of) (defBody s_law_test_of) (defScope s_law_test_of) [] [] f_law_test_of fd_law_test_of)
    (m_f_law_test_of : mg "_law_test_of" = some (.ref f_law_test_of))
    (D_law_row_of : FunD K "_law_row_of" "_law_row_of" (defArgs s_law_row_of) (defBody s_law_row_of) (defScope s_law_row_of) [] [] f_law_row_of fd_law_row_of)
    (m_f_law_row_of : mg "_law_row_of" = some (.ref f_law_row_of))
    (D_law_rows_of : FunD K "_law_rows_of" "_law_rows_of" (defArgs s_law_rows_of) (defBody s_law_rows_of) (defScope s_law_rows_of) [] [] f_law_rows_of fd_law_rows_of)
    (m_f_law_rows_of : mg "_law_rows_of" = some (.ref f_law_rows_of))
    (D_law_flat : FunD K "_law_flat" "_law_flat" (defArgs s_law_flat) (defBody s_law_flat) (defScope s_law_flat) [] [] f_law_flat fd_law_flat)
    (m_f_law_flat : mg "_law_flat" = some (.ref f_law_flat))
    (D_law_all_rows : FunD K "_law_all_rows" "_law_all_rows" (defArgs s_law_all_rows) (defBody s_law_all_rows) (defScope s_law_all_rows) [] [] f_law_all_rows fd_law_all_rows)
    (m_f_law_all_rows : mg "_law_all_rows" = some (.ref f_law_all_rows))
    (D_law_is_test : FunD K "_law_is_test" "_law_is_test" (defArgs s_law_is_test) (defBody s_law_is_test) (defScope s_law_is_test) [] [] f_law_is_test fd_law_is_test)
    (m_f_law_is_test : mg "_law_is_test" = some (.ref f_law_is_test))
    (D_law_are_rows : FunD K "_law_are_rows" "_law_are_rows" (defArgs s_law_are_rows) (defBody s_law_are_rows) (defScope s_law_are_rows) [] [] f_law_are_rows fd_law_are_rows)
    (m_f_law_are_rows : mg "_law_are_rows" = some (.ref f_law_are_rows))
    (D_law_is_row : FunD K "_law_is_row" "_law_is_row" (defArgs s_law_is_row) (defBody s_law_is_row) (defScope s_law_is_row) [] [] f_law_is_row fd_law_is_row)
    (m_f_law_is_row : mg "_law_is_row" = some (.ref f_law_is_row))
    (D_law_lists_kept : FunD K "_law_lists_kept" "_law_lists_kept" (defArgs s_law_lists_kept) (defBody s_law_lists_kept) (defScope s_law_lists_kept) [] [] f_law_lists_kept fd_law_lists_kept)
    (m_f_law_lists_kept : mg "_law_lists_kept" = some (.ref f_law_lists_kept))
    (D_law_unlike_right : FunD K "_law_unlike_right" "_law_unlike_right" (defArgs s_law_unlike_right) (defBody s_law_unlike_right) (defScope s_law_unlike_right) [] [] f_law_unlike_right fd_law_unlike_right)
    (m_f_law_unlike_right : mg "_law_unlike_right" = some (.ref f_law_unlike_right))
    (D_law : FunD K "law" "law" (defArgs s_law) (defBody s_law) (defScope s_law) [] [] f_law fd_law)
    (m_f_law : mg "law" = some (.ref f_law))
    (z_len : mg "len" = none)
    (z_abs : mg "abs" = none)
    (z_int : mg "int" = none)
    (z_max : mg "max" = none)
    (z_min : mg "min" = none)
    (z_range : mg "range" = none)
    (z_enumerate : mg "enumerate" = none)
    (z_isinstance : mg "isinstance" = none)
    (z_repr : mg "repr" = none)
    (z_zip : mg "zip" = none)
    (z_sum : mg "sum" = none)
    (z_all : mg "all" = none)
    (z_tuple : mg "tuple" = none)
    (z_list : mg "list" = none)
    (z_bool : mg "bool" = none)
    (z_sorted : mg "sorted" = none)
    (z_dict : mg "dict" = none)
    (z_str : mg "str" = none)
    (z_set : mg "set" = none)
    : ∀ base : Heap, LawOk P w K mg base 40 fa (spLaw13 K) := by
  intro base
  cases hfa.symm.trans m_f_law
  have T : Txt mg := ⟨z_len, z_abs, z_int, z_max, z_min, z_range, z_enumerate, z_isinstance, z_repr, z_zip, z_sum, z_all, z_tuple, z_list, z_bool, z_sorted, z_dict, z_str, z_set⟩
  have OW : ObjK K XW := ⟨clsW, ocW, cG, cT, omW, kW_str, kW_int, kW_bool, kW_list, kW_tuple⟩
  have CW : ClsA K mg "Was" XW ["kind"] := ⟨clsW, fun a ha => by
    simp only [List.mem_cons, List.not_mem_nil, or_false] at ha
    rcases ha with rfl
    · exact nW0
    , m_XW⟩
  have bW := FunD.bindsN D_Was_init (ps := ["self", "kind"]) (fun _ _ _ _ _ _ us hl => match us, hl with | [_, _], _ => rfl)
  have DSW := Fun.ofD D_Was_str
  have bSW := DSW.binds (ps := ["self"]) (fun _ _ _ _ _ _ us hl => match us, hl with | [_], _ => rfl)
  have SW : StrCls K XW fWs _ := ⟨hsW, fsW, fmW, omW, bSW⟩
  have DQW := Fun.ofD D_Was_eq
  have bQW := DQW.binds (ps := ["self", "other"]) (fun _ _ _ _ _ _ us hl => match us, hl with | [_, _], _ => rfl)
  have W2W : Two K XW := ⟨sfW, omW, neW⟩
  have kkW : PySem.W.kitOne K (.ref XW) (.ref XW) = some true := if_pos (beq_self_eq_true _)
  have SKW : SelfK K XW := ⟨OW, ntW, nsW, ktW, ksW, kkW⟩
  have OO : ObjK K XO := ⟨clsO, ocO, cG, cT, omO, kO_str, kO_int, kO_bool, kO_list, kO_tuple⟩
  have CO : ClsA K mg "OldBelow" XO ["number"] := ⟨clsO, fun a ha => by
    simp only [List.mem_cons, List.not_mem_nil, or_false] at ha
    rcases ha with rfl
    · exact nO0
    , m_XO⟩
  have bO := FunD.bindsN D_OldBelow_init (ps := ["self", "number"]) (fun _ _ _ _ _ _ us hl => match us, hl with | [_, _], _ => rfl)
  have DSO := Fun.ofD D_OldBelow_str
  have bSO := DSO.binds (ps := ["self"]) (fun _ _ _ _ _ _ us hl => match us, hl with | [_], _ => rfl)
  have SO : StrCls K XO fOs _ := ⟨hsO, fsO, fmO, omO, bSO⟩
  have DQO := Fun.ofD D_OldBelow_eq
  have bQO := DQO.binds (ps := ["self", "other"]) (fun _ _ _ _ _ _ us hl => match us, hl with | [_, _], _ => rfl)
  have W2O : Two K XO := ⟨sfO, omO, neO⟩
  have kkO : PySem.W.kitOne K (.ref XO) (.ref XO) = some true := if_pos (beq_self_eq_true _)
  have SKO : SelfK K XO := ⟨OO, ntO, nsO, ktO, ksO, kkO⟩
  have OB : ObjK K XB := ⟨clsB, ocB, cG, cT, omB, kB_str, kB_int, kB_bool, kB_list, kB_tuple⟩
  have CB : ClsA K mg "NewBelow" XB ["number"] := ⟨clsB, fun a ha => by
    simp only [List.mem_cons, List.not_mem_nil, or_false] at ha
    rcases ha with rfl
    · exact nB0
    , m_XB⟩
  have bB := FunD.bindsN D_NewBelow_init (ps := ["self", "number"]) (fun _ _ _ _ _ _ us hl => match us, hl with | [_, _], _ => rfl)
  have DSB := Fun.ofD D_NewBelow_str
  have bSB := DSB.binds (ps := ["self"]) (fun _ _ _ _ _ _ us hl => match us, hl with | [_], _ => rfl)
  have SB : StrCls K XB fBs _ := ⟨hsB, fsB, fmB, omB, bSB⟩
  have DQB := Fun.ofD D_NewBelow_eq
  have bQB := DQB.binds (ps := ["self", "other"]) (fun _ _ _ _ _ _ us hl => match us, hl with | [_, _], _ => rfl)
  have W2B : Two K XB := ⟨sfB, omB, neB⟩
  have kkB : PySem.W.kitOne K (.ref XB) (.ref XB) = some true := if_pos (beq_self_eq_true _)
  have SKB : SelfK K XB := ⟨OB, ntB, nsB, ktB, ksB, kkB⟩
  have OM : ObjK K XM := ⟨clsM, ocM, cG, cT, omM, kM_str, kM_int, kM_bool, kM_list, kM_tuple⟩
  have CM : ClsA K mg "Moved" XM [] := ⟨clsM, (fun a ha => by cases ha), m_XM⟩
  have MM : Mk00 K XM := ⟨mkM, iniM, kpM⟩
  have DSM := Fun.ofD D_Moved_str
  have bSM := DSM.binds (ps := ["self"]) (fun _ _ _ _ _ _ us hl => match us, hl with | [_], _ => rfl)
  have SM : StrCls K XM fMs _ := ⟨hsM, fsM, fmM, omM, bSM⟩
  have DQM := Fun.ofD D_Moved_eq
  have bQM := DQM.binds (ps := ["self", "other"]) (fun _ _ _ _ _ _ us hl => match us, hl with | [_, _], _ => rfl)
  have W2M : Two K XM := ⟨sfM, omM, neM⟩
  have kkM : PySem.W.kitOne K (.ref XM) (.ref XM) = some true := if_pos (beq_self_eq_true _)
  have SKM : SelfK K XM := ⟨OM, ntM, nsM, ktM, ksM, kkM⟩
  have OT : ObjK K XT := ⟨clsT, ocT, cG, cT, omT, kT_str, kT_int, kT_bool, kT_list, kT_tuple⟩
  have CT : ClsA K mg "Noted" XT [] := ⟨clsT, (fun a ha => by cases ha), m_XT⟩
  have MT : Mk00 K XT := ⟨mkT, iniT, kpT⟩
  have DST := Fun.ofD D_Noted_str
  have bST := DST.binds (ps := ["self"]) (fun _ _ _ _ _ _ us hl => match us, hl with | [_], _ => rfl)
  have ST : StrCls K XT fTs _ := ⟨hsT, fsT, fmT, omT, bST⟩
  have DQT := Fun.ofD D_Noted_eq
  have bQT := DQT.binds (ps := ["self", "other"]) (fun _ _ _ _ _ _ us hl => match us, hl with | [_, _], _ => rfl)
  have W2T : Two K XT := ⟨sfT, omT, neT⟩
  have kkT : PySem.W.kitOne K (.ref XT) (.ref XT) = some true := if_pos (beq_self_eq_true _)
  have SKT : SelfK K XT := ⟨OT, ntT, nsT, ktT, ksT, kkT⟩
  have ON : ObjK K XN := ⟨clsN, ocN, cG, cT, omN, kN_str, kN_int, kN_bool, kN_list, kN_tuple⟩
  have CN : ClsA K mg "Not" XN ["test"] := ⟨clsN, fun a ha => by
    simp only [List.mem_cons, List.not_mem_nil, or_false] at ha
    rcases ha with rfl
    · exact nN0
    , m_XN⟩
  have bN := FunD.bindsN D_Not_init (ps := ["self", "test"]) (fun _ _ _ _ _ _ us hl => match us, hl with | [_, _], _ => rfl)
  have DSN := Fun.ofD D_Not_str
  have bSN := DSN.binds (ps := ["self"]) (fun _ _ _ _ _ _ us hl => match us, hl with | [_], _ => rfl)
  have SN : StrCls K XN fNs _ := ⟨hsN, fsN, fmN, omN, bSN⟩
  have DQN := Fun.ofD D_Not_eq
  have bQN := DQN.binds (ps := ["self", "other"]) (fun _ _ _ _ _ _ us hl => match us, hl with | [_, _], _ => rfl)
  have W2N : Two K XN := ⟨sfN, omN, neN⟩
  have kkN : PySem.W.kitOne K (.ref XN) (.ref XN) = some true := if_pos (beq_self_eq_true _)
  have SKN : SelfK K XN := ⟨ON, ntN, nsN, ktN, ksN, kkN⟩
  have OA : ObjK K XA := ⟨clsA, ocA, cG, cT, omA, kA_str, kA_int, kA_bool, kA_list, kA_tuple⟩
  have CA : ClsA K mg "Add" XA ["factor", "what", "total", "place"] := ⟨clsA, fun a ha => by
    simp only [List.mem_cons, List.not_mem_nil, or_false] at ha
    rcases ha with rfl | rfl | rfl | rfl
    · exact nA0
    · exact nA1
    · exact nA2
    · exact nA3
    , m_XA⟩
  have bA := FunD.bindsN D_Add_init (ps := ["self", "factor", "what", "total", "place"]) (fun _ _ _ _ _ _ us hl => match us, hl with | [_, _, _, _, _], _ => rfl)
  have DSA := Fun.ofD D_Add_str
  have bSA := DSA.binds (ps := ["self"]) (fun _ _ _ _ _ _ us hl => match us, hl with | [_], _ => rfl)
  have SA : StrCls K XA fAs _ := ⟨hsA, fsA, fmA, omA, bSA⟩
  have DQA := Fun.ofD D_Add_eq
  have bQA := DQA.binds (ps := ["self", "other"]) (fun _ _ _ _ _ _ us hl => match us, hl with | [_, _], _ => rfl)
  have W2A : Two K XA := ⟨sfA, omA, neA⟩
  have kkA : PySem.W.kitOne K (.ref XA) (.ref XA) = some true := if_pos (beq_self_eq_true _)
  have SKA : SelfK K XA := ⟨OA, ntA, nsA, ktA, ksA, kkA⟩
  have OP : ObjK K XP := ⟨clsP, ocP, cG, cT, omP, kP_str, kP_int, kP_bool, kP_list, kP_tuple⟩
  have CP : ClsA K mg "Put" XP ["note", "what"] := ⟨clsP, fun a ha => by
    simp only [List.mem_cons, List.not_mem_nil, or_false] at ha
    rcases ha with rfl | rfl
    · exact nP0
    · exact nP1
    , m_XP⟩
  have bP := FunD.bindsN D_Put_init (ps := ["self", "note", "what"]) (fun _ _ _ _ _ _ us hl => match us, hl with | [_, _, _], _ => rfl)
  have DSP := Fun.ofD D_Put_str
  have bSP := DSP.binds (ps := ["self"]) (fun _ _ _ _ _ _ us hl => match us, hl with | [_], _ => rfl)
  have SP : StrCls K XP fPs _ := ⟨hsP, fsP, fmP, omP, bSP⟩
  have DQP := Fun.ofD D_Put_eq
  have bQP := DQP.binds (ps := ["self", "other"]) (fun _ _ _ _ _ _ us hl => match us, hl with | [_, _], _ => rfl)
  have W2P : Two K XP := ⟨sfP, omP, neP⟩
  have kkP : PySem.W.kitOne K (.ref XP) (.ref XP) = some true := if_pos (beq_self_eq_true _)
  have SKP : SelfK K XP := ⟨OP, ntP, nsP, ktP, ksP, kkP⟩
  have OK : ObjK K XK := ⟨clsK, ocK, cG, cT, omK, kK_str, kK_int, kK_bool, kK_list, kK_tuple⟩
  have CK : ClsA K mg "Mark" XK ["place"] := ⟨clsK, fun a ha => by
    simp only [List.mem_cons, List.not_mem_nil, or_false] at ha
    rcases ha with rfl
    · exact nK0
    , m_XK⟩
  have bK := FunD.bindsN D_Mark_init (ps := ["self", "place"]) (fun _ _ _ _ _ _ us hl => match us, hl with | [_, _], _ => rfl)
  have DSK := Fun.ofD D_Mark_str
  have bSK := DSK.binds (ps := ["self"]) (fun _ _ _ _ _ _ us hl => match us, hl with | [_], _ => rfl)
  have SK : StrCls K XK fKs _ := ⟨hsK, fsK, fmK, omK, bSK⟩
  have DQK := Fun.ofD D_Mark_eq
  have bQK := DQK.binds (ps := ["self", "other"]) (fun _ _ _ _ _ _ us hl => match us, hl with | [_, _], _ => rfl)
  have W2K : Two K XK := ⟨sfK, omK, neK⟩
  have kkK : PySem.W.kitOne K (.ref XK) (.ref XK) = some true := if_pos (beq_self_eq_true _)
  have SKK : SelfK K XK := ⟨OK, ntK, nsK, ktK, ksK, kkK⟩
  have OI : ObjK K XI := ⟨clsI, ocI, cG, cT, omI, kI_str, kI_int, kI_bool, kI_list, kI_tuple⟩
  have CI : ClsA K mg "If" XI ["test", "rows", "others"] := ⟨clsI, fun a ha => by
    simp only [List.mem_cons, List.not_mem_nil, or_false] at ha
    rcases ha with rfl | rfl | rfl
    · exact nI0
    · exact nI1
    · exact nI2
    , m_XI⟩
  obtain ⟨d_bI, v_bI, bI⟩ := FunD.binds1 D_If_init (ps := ["self", "test", "rows", "others"]) 4 1 (fun z => nomatch z) rfl (fun _ _ _ _ _ _ _ us its hu hi => match us, hu, its, hi with | [_, _, _, _], _, [_], _ => ⟨_, rfl, rfl⟩)
  cases v_bI
  have DSI := Fun.ofD D_If_str
  have bSI := DSI.binds (ps := ["self"]) (fun _ _ _ _ _ _ us hl => match us, hl with | [_], _ => rfl)
  have SI : StrCls K XI fIs _ := ⟨hsI, fsI, fmI, omI, bSI⟩
  have DQI := Fun.ofD D_If_eq
  have bQI := DQI.binds (ps := ["self", "other"]) (fun _ _ _ _ _ _ us hl => match us, hl with | [_, _], _ => rfl)
  have W2I : Two K XI := ⟨sfI, omI, neI⟩
  have kkI : PySem.W.kitOne K (.ref XI) (.ref XI) = some true := if_pos (beq_self_eq_true _)
  have SKI : SelfK K XI := ⟨OI, ntI, nsI, ktI, ksI, kkI⟩
  let p : Pkg := ⟨XW, XO, XB, XM, XT, XN, XA, XP, XK, XI⟩
  have U : Unlike p := ⟨hU⟩
  have pk_tests : ∀ C ∈ p.tests, ObjK K C ∧ PySem.W.kitOne K (.ref C) (.ref TS) = some true := fun C hC => by
    simp only [p, Pkg.tests, List.mem_cons, List.not_mem_nil, or_false] at hC
    rcases hC with rfl | rfl | rfl | rfl | rfl | rfl
    · exact ⟨OW, bTS_W⟩
    · exact ⟨OO, bTS_O⟩
    · exact ⟨OB, bTS_B⟩
    · exact ⟨OM, bTS_M⟩
    · exact ⟨OT, bTS_T⟩
    · exact ⟨ON, bTS_N⟩
  have pk_rows : ∀ C ∈ p.rows, ObjK K C ∧ PySem.W.kitOne K (.ref C) (.ref RW) = some true := fun C hC => by
    simp only [p, Pkg.rows, List.mem_cons, List.not_mem_nil, or_false] at hC
    rcases hC with rfl | rfl | rfl | rfl
    · exact ⟨OA, bRW_A⟩
    · exact ⟨OP, bRW_P⟩
    · exact ⟨OK, bRW_K⟩
    · exact ⟨OI, bRW_I⟩
  have PK : PkgK K p TS RW := ⟨pk_tests, pk_rows⟩
  have SK_tests : ∀ C ∈ p.tests, SelfK K C := fun C hC => by
    simp only [p, Pkg.tests, List.mem_cons, List.not_mem_nil, or_false] at hC
    rcases hC with rfl | rfl | rfl | rfl | rfl | rfl
    · exact SKW
    · exact SKO
    · exact SKB
    · exact SKM
    · exact SKT
    · exact SKN
  have SK_rows : ∀ C ∈ p.rows, SelfK K C := fun C hC => by
    simp only [p, Pkg.rows, List.mem_cons, List.not_mem_nil, or_false] at hC
    rcases hC with rfl | rfl | rfl | rfl
    · exact SKA
    · exact SKP
    · exact SKK
    · exact SKI
  have IK : IsK K p TS RW := ⟨fun C hC => by
    simp only [p, Pkg.tests, List.mem_cons, List.not_mem_nil, or_false] at hC
    rcases hC with rfl | rfl | rfl | rfl | rfl | rfl
    · exact bRW_W
    · exact bRW_O
    · exact bRW_B
    · exact bRW_M
    · exact bRW_T
    · exact bRW_N
    , fun C hC => by
    simp only [p, Pkg.rows, List.mem_cons, List.not_mem_nil, or_false] at hC
    rcases hC with rfl | rfl | rfl | rfl
    · exact bTS_A
    · exact bTS_P
    · exact bTS_K
    · exact bTS_I⟩
  have CMP : CmpK K p := ⟨fun C hC => (List.mem_append.mp hC).elim (SK_tests C) (SK_rows C), pairs⟩
  have F_is_integer := Fun.ofD D_is_integer
  have b_is_integer := F_is_integer.binds (ps := ["value"]) (fun _ _ _ _ _ _ us hl => match us, hl with | [_], _ => rfl)
  have A_is_integer : DefAt K mg "is_integer" s_is_integer ["value"] := ⟨f_is_integer, _, F_is_integer, m_f_is_integer, b_is_integer⟩
  have F_is_sequence := Fun.ofD D_is_sequence
  have b_is_sequence := F_is_sequence.binds (ps := ["value"]) (fun _ _ _ _ _ _ us hl => match us, hl with | [_], _ => rfl)
  have A_is_sequence : DefAt K mg "is_sequence" s_is_sequence ["value"] := ⟨f_is_sequence, _, F_is_sequence, m_f_is_sequence, b_is_sequence⟩
  have F_is_name := Fun.ofD D_is_name
  have b_is_name := F_is_name.binds (ps := ["value"]) (fun _ _ _ _ _ _ us hl => match us, hl with | [_], _ => rfl)
  have A_is_name : DefAt K mg "is_name" s_is_name ["value"] := ⟨f_is_name, _, F_is_name, m_f_is_name, b_is_name⟩
  have F_check := Fun.ofD D_check
  have b_check := F_check.binds (ps := ["holds", "part"]) (fun _ _ _ _ _ _ us hl => match us, hl with | [_, _], _ => rfl)
  have A_check : DefAt K mg "check" s_check ["holds", "part"] := ⟨f_check, _, F_check, m_f_check, b_check⟩
  have F_is_kind := Fun.ofD D_is_kind
  have b_is_kind := F_is_kind.binds (ps := ["value"]) (fun _ _ _ _ _ _ us hl => match us, hl with | [_], _ => rfl)
  have A_is_kind : DefAt K mg "is_kind" s_is_kind ["value"] := ⟨f_is_kind, _, F_is_kind, m_f_is_kind, b_is_kind⟩
  have F_is_what := Fun.ofD D_is_what
  have b_is_what := F_is_what.binds (ps := ["value"]) (fun _ _ _ _ _ _ us hl => match us, hl with | [_], _ => rfl)
  have A_is_what : DefAt K mg "is_what" s_is_what ["value"] := ⟨f_is_what, _, F_is_what, m_f_is_what, b_is_what⟩
  have F_are_rows := Fun.ofD D_are_rows
  have b_are_rows := F_are_rows.binds (ps := ["value"]) (fun _ _ _ _ _ _ us hl => match us, hl with | [_], _ => rfl)
  have A_are_rows : DefAt K mg "are_rows" s_are_rows ["value"] := ⟨f_are_rows, _, F_are_rows, m_f_are_rows, b_are_rows⟩
  have F_block_lines := Fun.ofD D_block_lines
  have b_block_lines := F_block_lines.binds (ps := ["block"]) (fun _ _ _ _ _ _ us hl => match us, hl with | [_], _ => rfl)
  have A_block_lines : DefAt K mg "block_lines" s_block_lines ["block"] := ⟨f_block_lines, _, F_block_lines, m_f_block_lines, b_block_lines⟩
  have F_law_box := Fun.ofD D_law_box
  have b_law_box := F_law_box.binds (ps := ["_law_script", "_law_k", "_law_own"]) (fun _ _ _ _ _ _ us hl => match us, hl with | [_, _, _], _ => rfl)
  have A_law_box : DefAt K mg "_law_box" s_law_box ["_law_script", "_law_k", "_law_own"] := ⟨f_law_box, _, F_law_box, m_f_law_box, b_law_box⟩
  have F_law_take := Fun.ofD D_law_take
  have b_law_take := F_law_take.binds (ps := ["_law_box_here", "_law_many"]) (fun _ _ _ _ _ _ us hl => match us, hl with | [_, _], _ => rfl)
  have A_law_take : DefAt K mg "_law_take" s_law_take ["_law_box_here", "_law_many"] := ⟨f_law_take, _, F_law_take, m_f_law_take, b_law_take⟩
  have F_law_pick := Fun.ofD D_law_pick
  have b_law_pick := F_law_pick.binds (ps := ["_law_box_here", "_law_items"]) (fun _ _ _ _ _ _ us hl => match us, hl with | [_, _], _ => rfl)
  have A_law_pick : DefAt K mg "_law_pick" s_law_pick ["_law_box_here", "_law_items"] := ⟨f_law_pick, _, F_law_pick, m_f_law_pick, b_law_pick⟩
  have F_law_mixed := Fun.ofD D_law_mixed
  have b_law_mixed := F_law_mixed.binds (ps := ["_law_box_here", "_law_items"]) (fun _ _ _ _ _ _ us hl => match us, hl with | [_, _], _ => rfl)
  have A_law_mixed : DefAt K mg "_law_mixed" s_law_mixed ["_law_box_here", "_law_items"] := ⟨f_law_mixed, _, F_law_mixed, m_f_law_mixed, b_law_mixed⟩
  have F_law_names := Fun.ofD D_law_names
  have b_law_names := F_law_names.binds (ps := ["_law_box_here", "_law_many"]) (fun _ _ _ _ _ _ us hl => match us, hl with | [_, _], _ => rfl)
  have A_law_names : DefAt K mg "_law_names" s_law_names ["_law_box_here", "_law_many"] := ⟨f_law_names, _, F_law_names, m_f_law_names, b_law_names⟩
  have F_law_number := Fun.ofD D_law_number
  have b_law_number := F_law_number.binds (ps := ["_law_box_here", "_law_most"]) (fun _ _ _ _ _ _ us hl => match us, hl with | [_, _], _ => rfl)
  have A_law_number : DefAt K mg "_law_number" s_law_number ["_law_box_here", "_law_most"] := ⟨f_law_number, _, F_law_number, m_f_law_number, b_law_number⟩
  have F_law_test := Fun.ofD D_law_test
  have b_law_test := F_law_test.binds (ps := ["_law_box_here", "_law_book_here", "_law_deep"]) (fun _ _ _ _ _ _ us hl => match us, hl with | [_, _, _], _ => rfl)
  have A_law_test : DefAt K mg "_law_test" s_law_test ["_law_box_here", "_law_book_here", "_law_deep"] := ⟨f_law_test, _, F_law_test, m_f_law_test, b_law_test⟩
  have F_law_row := Fun.ofD D_law_row
  have b_law_row := F_law_row.binds (ps := ["_law_box_here", "_law_book_here", "_law_left", "_law_deep"]) (fun _ _ _ _ _ _ us hl => match us, hl with | [_, _, _, _], _ => rfl)
  have A_law_row : DefAt K mg "_law_row" s_law_row ["_law_box_here", "_law_book_here", "_law_left", "_law_deep"] := ⟨f_law_row, _, F_law_row, m_f_law_row, b_law_row⟩
  have F_law_rows := Fun.ofD D_law_rows
  have b_law_rows := F_law_rows.binds (ps := ["_law_box_here", "_law_book_here", "_law_left", "_law_deep"]) (fun _ _ _ _ _ _ us hl => match us, hl with | [_, _, _, _], _ => rfl)
  have A_law_rows : DefAt K mg "_law_rows" s_law_rows ["_law_box_here", "_law_book_here", "_law_left", "_law_deep"] := ⟨f_law_rows, _, F_law_rows, m_f_law_rows, b_law_rows⟩
  have F_law_event := Fun.ofD D_law_event
  have b_law_event := F_law_event.binds (ps := ["_law_box_here", "_law_book_here", "_law_name", "_law_is_first"]) (fun _ _ _ _ _ _ us hl => match us, hl with | [_, _, _, _], _ => rfl)
  have A_law_event : DefAt K mg "_law_event" s_law_event ["_law_box_here", "_law_book_here", "_law_name", "_law_is_first"] := ⟨f_law_event, _, F_law_event, m_f_law_event, b_law_event⟩
  have F_law_worth := Fun.ofD D_law_worth
  have b_law_worth := F_law_worth.binds (ps := ["_law_box_here", "_law_book_here"]) (fun _ _ _ _ _ _ us hl => match us, hl with | [_, _], _ => rfl)
  have A_law_worth : DefAt K mg "_law_worth" s_law_worth ["_law_box_here", "_law_book_here"] := ⟨f_law_worth, _, F_law_worth, m_f_law_worth, b_law_worth⟩
  have F_law_book := Fun.ofD D_law_book
  have b_law_book := F_law_book.binds (ps := ["_law_box_here", "_law_sizes"]) (fun _ _ _ _ _ _ us hl => match us, hl with | [_, _], _ => rfl)
  have A_law_book : DefAt K mg "_law_book" s_law_book ["_law_box_here", "_law_sizes"] := ⟨f_law_book, _, F_law_book, m_f_law_book, b_law_book⟩
  have F_law_test_text := Fun.ofD D_law_test_text
  have b_law_test_text := F_law_test_text.binds (ps := ["_law_test_here"]) (fun _ _ _ _ _ _ us hl => match us, hl with | [_], _ => rfl)
  have A_law_test_text : DefAt K mg "_law_test_text" s_law_test_text ["_law_test_here"] := ⟨f_law_test_text, _, F_law_test_text, m_f_law_test_text, b_law_test_text⟩
  have F_law_row_lines := Fun.ofD D_law_row_lines
  have b_law_row_lines := F_law_row_lines.binds (ps := ["_law_rows_here"]) (fun _ _ _ _ _ _ us hl => match us, hl with | [_], _ => rfl)
  have A_law_row_lines : DefAt K mg "_law_row_lines" s_law_row_lines ["_law_rows_here"] := ⟨f_law_row_lines, _, F_law_row_lines, m_f_law_row_lines, b_law_row_lines⟩
  have F_law_test_of := Fun.ofD D_law_test_of
  have b_law_test_of := F_law_test_of.binds (ps := ["_law_test_here"]) (fun _ _ _ _ _ _ us hl => match us, hl with | [_], _ => rfl)
  have A_law_test_of : DefAt K mg "_law_test_of" s_law_test_of ["_law_test_here"] := ⟨f_law_test_of, _, F_law_test_of, m_f_law_test_of, b_law_test_of⟩
  have F_law_row_of := Fun.ofD D_law_row_of
  have b_law_row_of := F_law_row_of.binds (ps := ["_law_row_here"]) (fun _ _ _ _ _ _ us hl => match us, hl with | [_], _ => rfl)
  have A_law_row_of : DefAt K mg "_law_row_of" s_law_row_of ["_law_row_here"] := ⟨f_law_row_of, _, F_law_row_of, m_f_law_row_of, b_law_row_of⟩
  have F_law_rows_of := Fun.ofD D_law_rows_of
  have b_law_rows_of := F_law_rows_of.binds (ps := ["_law_rows_here"]) (fun _ _ _ _ _ _ us hl => match us, hl with | [_], _ => rfl)
  have A_law_rows_of : DefAt K mg "_law_rows_of" s_law_rows_of ["_law_rows_here"] := ⟨f_law_rows_of, _, F_law_rows_of, m_f_law_rows_of, b_law_rows_of⟩
  have F_law_flat := Fun.ofD D_law_flat
  have b_law_flat := F_law_flat.binds (ps := ["_law_rows_here"]) (fun _ _ _ _ _ _ us hl => match us, hl with | [_], _ => rfl)
  have A_law_flat : DefAt K mg "_law_flat" s_law_flat ["_law_rows_here"] := ⟨f_law_flat, _, F_law_flat, m_f_law_flat, b_law_flat⟩
  have F_law_all_rows := Fun.ofD D_law_all_rows
  have b_law_all_rows := F_law_all_rows.binds (ps := ["_law_book_here"]) (fun _ _ _ _ _ _ us hl => match us, hl with | [_], _ => rfl)
  have A_law_all_rows : DefAt K mg "_law_all_rows" s_law_all_rows ["_law_book_here"] := ⟨f_law_all_rows, _, F_law_all_rows, m_f_law_all_rows, b_law_all_rows⟩
  have F_law_is_test := Fun.ofD D_law_is_test
  have b_law_is_test := F_law_is_test.binds (ps := ["_law_made", "_law_test_here"]) (fun _ _ _ _ _ _ us hl => match us, hl with | [_, _], _ => rfl)
  have A_law_is_test : DefAt K mg "_law_is_test" s_law_is_test ["_law_made", "_law_test_here"] := ⟨f_law_is_test, _, F_law_is_test, m_f_law_is_test, b_law_is_test⟩
  have F_law_are_rows := Fun.ofD D_law_are_rows
  have b_law_are_rows := F_law_are_rows.binds (ps := ["_law_some", "_law_rows_here"]) (fun _ _ _ _ _ _ us hl => match us, hl with | [_, _], _ => rfl)
  have A_law_are_rows : DefAt K mg "_law_are_rows" s_law_are_rows ["_law_some", "_law_rows_here"] := ⟨f_law_are_rows, _, F_law_are_rows, m_f_law_are_rows, b_law_are_rows⟩
  have F_law_is_row := Fun.ofD D_law_is_row
  have b_law_is_row := F_law_is_row.binds (ps := ["_law_made", "_law_row_here"]) (fun _ _ _ _ _ _ us hl => match us, hl with | [_, _], _ => rfl)
  have A_law_is_row : DefAt K mg "_law_is_row" s_law_is_row ["_law_made", "_law_row_here"] := ⟨f_law_is_row, _, F_law_is_row, m_f_law_is_row, b_law_is_row⟩
  have F_law_lists_kept := Fun.ofD D_law_lists_kept
  have b_law_lists_kept := F_law_lists_kept.binds (ps := ["_law_row_here"]) (fun _ _ _ _ _ _ us hl => match us, hl with | [_], _ => rfl)
  have A_law_lists_kept : DefAt K mg "_law_lists_kept" s_law_lists_kept ["_law_row_here"] := ⟨f_law_lists_kept, _, F_law_lists_kept, m_f_law_lists_kept, b_law_lists_kept⟩
  have F_law_unlike_right := Fun.ofD D_law_unlike_right
  have b_law_unlike_right := F_law_unlike_right.binds (ps := []) (fun _ _ _ _ _ _ us hl => match us, hl with | [], _ => rfl)
  have A_law_unlike_right : DefAt K mg "_law_unlike_right" s_law_unlike_right [] := ⟨f_law_unlike_right, _, F_law_unlike_right, m_f_law_unlike_right, b_law_unlike_right⟩
  have F_law := Fun.ofD D_law
  have b_law := F_law.binds (ps := ["_law_script"]) (fun _ _ _ _ _ _ us hl => match us, hl with | [_], _ => rfl)
  obtain ⟨d_bI1, v_bI1, bI1⟩ := FunD.binds1 D_If_init (ps := ["self", "test", "rows", "others"]) 3 0 (fun z => nomatch z) rfl (fun _ _ _ _ _ _ _ us its hu hi => match us, hu, its, hi with | [_, _, _], _, [_], _ => ⟨_, rfl, rfl⟩)
  have OZ : ∀ k : Nat, ObjK K ((fun _ => XM) k) := fun _ => OM
  have g_int := ok_int (P := P) (w := w) (base := base) T OZ A_is_integer
  have g_name := ok_name (P := P) (w := w) (base := base) T OZ m_NN tNN A_is_name
  have g_check := ok_checkT (P := P) (w := w) (base := base) A_check
  have g_kind := ok_kindT (P := P) (w := w) (base := base) T g_name A_is_kind
  have g_what := ok_whatT (P := P) (w := w) (base := base) T m_AM tAM g_name A_is_what
  have g_seq := ok_seqT (P := P) (w := w) (base := base) T A_is_sequence
  have g_rows := ok_rowsT (P := P) (w := w) (base := base) T PK m_RW g_seq A_are_rows
  have g_W := ok_wasI (P := P) (w := w) (base := base) T CW g_check g_kind D_Was_init
  have g_O := ok_oldI (P := P) (w := w) (base := base) T CO g_check g_int D_OldBelow_init
  have g_B := ok_newI (P := P) (w := w) (base := base) T CB g_check g_int D_NewBelow_init
  have g_N := ok_notI (P := P) (w := w) (base := base) T PK m_TS CN g_check D_Not_init
  have g_P := ok_putI (P := P) (w := w) (base := base) T CP g_check g_name g_what D_Put_init
  have g_K := ok_markI (P := P) (w := w) (base := base) T CK g_check D_Mark_init
  have g_A := ok_addI (P := P) (w := w) (base := base) T CA g_check g_int g_name g_what D_Add_init
  have g_I := ok_ifI (P := P) (w := w) (base := base) T PK m_TS CI g_check g_rows D_If_init
  have TM : TestsMk P w K mg base p := ⟨⟨⟨fWi, _, MW, g_W, bW⟩, CW⟩, ⟨⟨fOi, _, MO, g_O, bO⟩, CO⟩, ⟨⟨fBi, _, MB, g_B, bB⟩, CB⟩, ⟨⟨fNi, _, MN, g_N, bN⟩, CN⟩, MM, m_XM, MT, m_XT⟩
  have RM : RowsMk P w K mg base p := ⟨⟨⟨fIi, _, MI, g_I, bI⟩, CI⟩, ⟨⟨fAi, _, MA, g_A, bA⟩, CA⟩, ⟨⟨fPi, _, MP, g_P, bP⟩, CP⟩, ⟨⟨fKi, _, MK, g_K, bK⟩, CK⟩⟩
  have g_take := ok_take (P := P) (w := w) (base := base) T A_law_take
  have g_box := ok_box (P := P) (w := w) (base := base) T A_law_box
  have g_pick := ok_pick (P := P) (w := w) (base := base) T g_take A_law_pick
  have g_pickS := ok_pickS (P := P) (w := w) (base := base) T g_take A_law_pick
  have g_mixed := ok_mixed (P := P) (w := w) (base := base) T g_take A_law_mixed
  have g_lnames := ok_names (P := P) (w := w) (base := base) T g_take g_pickS g_mixed A_law_names
  have g_number := ok_number (P := P) (w := w) (base := base) T g_take A_law_number
  have g_test := ok_test (P := P) (w := w) (base := base) T g_take g_pick A_law_test
  have g_lrows := ok_rowsAll (P := P) (w := w) (base := base) T g_take g_pick g_test A_law_row A_law_rows 3
  have g_ev := ok_evD (P := P) (w := w) (base := base) T g_take g_pick g_mixed A_law_event
  have g_wo := ok_woD (P := P) (w := w) (base := base) T g_pick A_law_worth
  have g_book := ok_bookD (P := P) (w := w) (base := base) T g_take g_mixed g_lnames g_number g_lrows g_ev g_wo A_law_book
  have g_testText := ok_testTextAll (P := P) (w := w) (base := base) T A_law_test_text 2 (by omega)
  have g_lines := ok_rowLinesAll (P := P) (w := w) (base := base) T g_testText A_law_row_lines 3 (by omega)
  have g_testOf := ok_testOfAll (P := P) (w := w) (base := base) T TM A_law_test_of 2
  have g_rowsOf := ok_rowsOfAll (P := P) (w := w) (base := base) T RM g_testOf A_law_row_of A_law_rows_of 3
  have g_flat := ok_flatAll (P := P) (w := w) (base := base) T A_law_flat 3 (by omega)
  have g_allRows := ok_allRows (P := P) (w := w) (base := base) T g_flat A_law_all_rows
  have ShT := shows_tests (P := P) (w := w) (base := base) U CW CO CB CN SW SO SB SM ST SN DSW DSO DSB DSM DST DSN 2 (by omega)
  have ShR := shows_rows (P := P) (w := w) (base := base) U T CA CP CK CI SA SP SK SI DSA DSP DSK DSI ShT A_block_lines 3 (by omega)
  have EqT : EqCls P w K mg base 30 p.tests (spEqC K p.tests (TestSh p 2)) := ⟨fun C hC => by
    simp only [p, Pkg.tests, List.mem_cons, List.not_mem_nil, or_false] at hC
    rcases hC with rfl | rfl | rfl | rfl | rfl | rfl
    · exact ⟨fWq, _, heW, feW, bQW, (ok_wasQ (P := P) (w := w) (base := base) T CW ShT DQW).mono (by omega)⟩
    · exact ⟨fOq, _, heO, feO, bQO, (ok_oldBelowQ (P := P) (w := w) (base := base) T CO ShT DQO).mono (by omega)⟩
    · exact ⟨fBq, _, heB, feB, bQB, (ok_newBelowQ (P := P) (w := w) (base := base) T CB ShT DQB).mono (by omega)⟩
    · exact ⟨fMq, _, heM, feM, bQM, (ok_movedQ (P := P) (w := w) (base := base) T CM ShT DQM).mono (by omega)⟩
    · exact ⟨fTq, _, heT, feT, bQT, (ok_notedQ (P := P) (w := w) (base := base) T CT ShT DQT).mono (by omega)⟩
    · exact ⟨fNq, _, heN, feN, bQN, (ok_notQ (P := P) (w := w) (base := base) T CN ShT DQN).mono (by omega)⟩
    , fun C hC => by
    simp only [p, Pkg.tests, List.mem_cons, List.not_mem_nil, or_false] at hC
    rcases hC with rfl | rfl | rfl | rfl | rfl | rfl
    · exact W2W
    · exact W2O
    · exact W2B
    · exact W2M
    · exact W2T
    · exact W2N⟩
  have EqR : EqCls P w K mg base 30 p.rows (spEqC K p.rows (RowSh K p 3)) := ⟨fun C hC => by
    simp only [p, Pkg.rows, List.mem_cons, List.not_mem_nil, or_false] at hC
    rcases hC with rfl | rfl | rfl | rfl
    · exact ⟨fAq, _, heA, feA, bQA, ok_addQ (P := P) (w := w) (base := base) T CA ShR DQA⟩
    · exact ⟨fPq, _, heP, feP, bQP, ok_putQ (P := P) (w := w) (base := base) T CP ShR DQP⟩
    · exact ⟨fKq, _, heK, feK, bQK, ok_markQ (P := P) (w := w) (base := base) T CK ShR DQK⟩
    · exact ⟨fIq, _, heI, feI, bQI, ok_ifQ (P := P) (w := w) (base := base) T CI ShR DQI⟩
    , fun C hC => by
    simp only [p, Pkg.rows, List.mem_cons, List.not_mem_nil, or_false] at hC
    rcases hC with rfl | rfl | rfl | rfl
    · exact W2A
    · exact W2P
    · exact W2K
    · exact W2I⟩
  have g_isTest := ok_isTestAll (P := P) (w := w) (base := base) T PK IK m_TS m_RW m_XN CW CO CB CN ShT g_testText A_law_is_test 2 (by omega)
  have g_isRow := ok_isRowAll (P := P) (w := w) (base := base) T PK IK m_TS m_RW CA CP CK CI ShR g_lines g_isTest A_law_are_rows A_law_is_row 3 (by omega)
  have g_kept := ok_kept (P := P) (w := w) (base := base) T ⟨TM, RM⟩ g_testOf g_rowsOf g_isRow A_law_lists_kept
  have g_unlike := ok_unlikeRight (P := P) (w := w) (base := base) T ⟨TM, RM⟩ CI MI g_I bI bI1 v_bI1 N_tI CMP EqT EqR A_law_unlike_right
  exact ok_law (P := P) (w := w) (base := base) T ⟨TM, RM⟩ CMP U ShT ShR EqT EqR F_law (fun s u k => Binds.one b_law s u k) g_box g_book g_allRows g_rowsOf g_lines g_isRow g_kept g_test g_testOf g_testText g_isTest g_unlike
def d_Was_init : He.DefD := ⟨("Was", some "__init__"), "__init__", "Was.__init__", defArgs s_Was_init, defBody s_Was_init, defScope s_Was_init, [], []⟩
def d_Was_str : He.DefD := ⟨("Was", some "__str__"), "__str__", "Was.__str__", defArgs s_Was_str, defBody s_Was_str, defScope s_Was_str, [], []⟩
def d_Was_eq : He.DefD := ⟨("Was", some "__eq__"), "__eq__", "Was.__eq__", defArgs s_Was_eq, defBody s_Was_eq, defScope s_Was_eq, [], []⟩
def d_OldBelow_init : He.DefD := ⟨("OldBelow", some "__init__"), "__init__", "OldBelow.__init__", defArgs s_OldBelow_init, defBody s_OldBelow_init, defScope s_OldBelow_init, [], []⟩
def d_OldBelow_str : He.DefD := ⟨("OldBelow", some "__str__"), "__str__", "OldBelow.__str__", defArgs s_OldBelow_str, defBody s_OldBelow_str, defScope s_OldBelow_str, [], []⟩
def d_OldBelow_eq : He.DefD := ⟨("OldBelow", some "__eq__"), "__eq__", "OldBelow.__eq__", defArgs s_OldBelow_eq, defBody s_OldBelow_eq, defScope s_OldBelow_eq, [], []⟩
def d_NewBelow_init : He.DefD := ⟨("NewBelow", some "__init__"), "__init__", "NewBelow.__init__", defArgs s_NewBelow_init, defBody s_NewBelow_init, defScope s_NewBelow_init, [], []⟩
def d_NewBelow_str : He.DefD := ⟨("NewBelow", some "__str__"), "__str__", "NewBelow.__str__", defArgs s_NewBelow_str, defBody s_NewBelow_str, defScope s_NewBelow_str, [], []⟩
def d_NewBelow_eq : He.DefD := ⟨("NewBelow", some "__eq__"), "__eq__", "NewBelow.__eq__", defArgs s_NewBelow_eq, defBody s_NewBelow_eq, defScope s_NewBelow_eq, [], []⟩
def d_Moved_str : He.DefD := ⟨("Moved", some "__str__"), "__str__", "Moved.__str__", defArgs s_Moved_str, defBody s_Moved_str, defScope s_Moved_str, [], []⟩
def d_Moved_eq : He.DefD := ⟨("Moved", some "__eq__"), "__eq__", "Moved.__eq__", defArgs s_Moved_eq, defBody s_Moved_eq, defScope s_Moved_eq, [], []⟩
def d_Noted_str : He.DefD := ⟨("Noted", some "__str__"), "__str__", "Noted.__str__", defArgs s_Noted_str, defBody s_Noted_str, defScope s_Noted_str, [], []⟩
def d_Noted_eq : He.DefD := ⟨("Noted", some "__eq__"), "__eq__", "Noted.__eq__", defArgs s_Noted_eq, defBody s_Noted_eq, defScope s_Noted_eq, [], []⟩
def d_Not_init : He.DefD := ⟨("Not", some "__init__"), "__init__", "Not.__init__", defArgs s_Not_init, defBody s_Not_init, defScope s_Not_init, [], []⟩
def d_Not_str : He.DefD := ⟨("Not", some "__str__"), "__str__", "Not.__str__", defArgs s_Not_str, defBody s_Not_str, defScope s_Not_str, [], []⟩
def d_Not_eq : He.DefD := ⟨("Not", some "__eq__"), "__eq__", "Not.__eq__", defArgs s_Not_eq, defBody s_Not_eq, defScope s_Not_eq, [], []⟩
def d_Add_init : He.DefD := ⟨("Add", some "__init__"), "__init__", "Add.__init__", defArgs s_Add_init, defBody s_Add_init, defScope s_Add_init, [], []⟩
def d_Add_str : He.DefD := ⟨("Add", some "__str__"), "__str__", "Add.__str__", defArgs s_Add_str, defBody s_Add_str, defScope s_Add_str, [], []⟩
def d_Add_eq : He.DefD := ⟨("Add", some "__eq__"), "__eq__", "Add.__eq__", defArgs s_Add_eq, defBody s_Add_eq, defScope s_Add_eq, [], []⟩
def d_Put_init : He.DefD := ⟨("Put", some "__init__"), "__init__", "Put.__init__", defArgs s_Put_init, defBody s_Put_init, defScope s_Put_init, [], []⟩
def d_Put_str : He.DefD := ⟨("Put", some "__str__"), "__str__", "Put.__str__", defArgs s_Put_str, defBody s_Put_str, defScope s_Put_str, [], []⟩
def d_Put_eq : He.DefD := ⟨("Put", some "__eq__"), "__eq__", "Put.__eq__", defArgs s_Put_eq, defBody s_Put_eq, defScope s_Put_eq, [], []⟩
def d_Mark_init : He.DefD := ⟨("Mark", some "__init__"), "__init__", "Mark.__init__", defArgs s_Mark_init, defBody s_Mark_init, defScope s_Mark_init, [], []⟩
def d_Mark_str : He.DefD := ⟨("Mark", some "__str__"), "__str__", "Mark.__str__", defArgs s_Mark_str, defBody s_Mark_str, defScope s_Mark_str, [], []⟩
def d_Mark_eq : He.DefD := ⟨("Mark", some "__eq__"), "__eq__", "Mark.__eq__", defArgs s_Mark_eq, defBody s_Mark_eq, defScope s_Mark_eq, [], []⟩
def d_If_init : He.DefD := ⟨("If", some "__init__"), "__init__", "If.__init__", defArgs s_If_init, defBody s_If_init, defScope s_If_init, [.adr (He.dflAt ("If", some "__init__") 0)], []⟩
def d_If_str : He.DefD := ⟨("If", some "__str__"), "__str__", "If.__str__", defArgs s_If_str, defBody s_If_str, defScope s_If_str, [], []⟩
def d_If_eq : He.DefD := ⟨("If", some "__eq__"), "__eq__", "If.__eq__", defArgs s_If_eq, defBody s_If_eq, defScope s_If_eq, [], []⟩
def d_is_integer : He.DefD := ⟨("is_integer", none), "is_integer", "is_integer", defArgs s_is_integer, defBody s_is_integer, defScope s_is_integer, [], []⟩
def d_is_sequence : He.DefD := ⟨("is_sequence", none), "is_sequence", "is_sequence", defArgs s_is_sequence, defBody s_is_sequence, defScope s_is_sequence, [], []⟩
def d_is_name : He.DefD := ⟨("is_name", none), "is_name", "is_name", defArgs s_is_name, defBody s_is_name, defScope s_is_name, [], []⟩
def d_check : He.DefD := ⟨("check", none), "check", "check", defArgs s_check, defBody s_check, defScope s_check, [], []⟩
def d_is_kind : He.DefD := ⟨("is_kind", none), "is_kind", "is_kind", defArgs s_is_kind, defBody s_is_kind, defScope s_is_kind, [], []⟩
def d_is_what : He.DefD := ⟨("is_what", none), "is_what", "is_what", defArgs s_is_what, defBody s_is_what, defScope s_is_what, [], []⟩
def d_are_rows : He.DefD := ⟨("are_rows", none), "are_rows", "are_rows", defArgs s_are_rows, defBody s_are_rows, defScope s_are_rows, [], []⟩
def d_block_lines : He.DefD := ⟨("block_lines", none), "block_lines", "block_lines", defArgs s_block_lines, defBody s_block_lines, defScope s_block_lines, [], []⟩
def d_law_box : He.DefD := ⟨("_law_box", none), "_law_box", "_law_box", defArgs s_law_box, defBody s_law_box, defScope s_law_box, [], []⟩
def d_law_take : He.DefD := ⟨("_law_take", none), "_law_take", "_law_take", defArgs s_law_take, defBody s_law_take, defScope s_law_take, [], []⟩
def d_law_pick : He.DefD := ⟨("_law_pick", none), "_law_pick", "_law_pick", defArgs s_law_pick, defBody s_law_pick, defScope s_law_pick, [], []⟩
def d_law_mixed : He.DefD := ⟨("_law_mixed", none), "_law_mixed", "_law_mixed", defArgs s_law_mixed, defBody s_law_mixed, defScope s_law_mixed, [], []⟩
def d_law_names : He.DefD := ⟨("_law_names", none), "_law_names", "_law_names", defArgs s_law_names, defBody s_law_names, defScope s_law_names, [], []⟩
def d_law_number : He.DefD := ⟨("_law_number", none), "_law_number", "_law_number", defArgs s_law_number, defBody s_law_number, defScope s_law_number, [], []⟩
def d_law_test : He.DefD := ⟨("_law_test", none), "_law_test", "_law_test", defArgs s_law_test, defBody s_law_test, defScope s_law_test, [], []⟩
def d_law_row : He.DefD := ⟨("_law_row", none), "_law_row", "_law_row", defArgs s_law_row, defBody s_law_row, defScope s_law_row, [], []⟩
def d_law_rows : He.DefD := ⟨("_law_rows", none), "_law_rows", "_law_rows", defArgs s_law_rows, defBody s_law_rows, defScope s_law_rows, [], []⟩
def d_law_event : He.DefD := ⟨("_law_event", none), "_law_event", "_law_event", defArgs s_law_event, defBody s_law_event, defScope s_law_event, [], []⟩
def d_law_worth : He.DefD := ⟨("_law_worth", none), "_law_worth", "_law_worth", defArgs s_law_worth, defBody s_law_worth, defScope s_law_worth, [], []⟩
def d_law_book : He.DefD := ⟨("_law_book", none), "_law_book", "_law_book", defArgs s_law_book, defBody s_law_book, defScope s_law_book, [], []⟩
def d_law_test_text : He.DefD := ⟨("_law_test_text", none), "_law_test_text", "_law_test_text", defArgs s_law_test_text, defBody s_law_test_text, defScope s_law_test_text, [], []⟩
def d_law_row_lines : He.DefD := ⟨("_law_row_lines", none), "_law_row_lines", "_law_row_lines", defArgs s_law_row_lines, defBody s_law_row_lines, defScope s_law_row_lines, [], []⟩
def d_law_test_of : He.DefD := ⟨("_law_test_of", none), "_law_test_of", "_law_test_of", defArgs s_law_test_of, defBody s_law_test_of, defScope s_law_test_of, [], []⟩
def d_law_row_of : He.DefD := ⟨("_law_row_of", none), "_law_row_of", "_law_row_of", defArgs s_law_row_of, defBody s_law_row_of, defScope s_law_row_of, [], []⟩
def d_law_rows_of : He.DefD := ⟨("_law_rows_of", none), "_law_rows_of", "_law_rows_of", defArgs s_law_rows_of, defBody s_law_rows_of, defScope s_law_rows_of, [], []⟩
def d_law_flat : He.DefD := ⟨("_law_flat", none), "_law_flat", "_law_flat", defArgs s_law_flat, defBody s_law_flat, defScope s_law_flat, [], []⟩
def d_law_all_rows : He.DefD := ⟨("_law_all_rows", none), "_law_all_rows", "_law_all_rows", defArgs s_law_all_rows, defBody s_law_all_rows, defScope s_law_all_rows, [], []⟩
def d_law_is_test : He.DefD := ⟨("_law_is_test", none), "_law_is_test", "_law_is_test", defArgs s_law_is_test, defBody s_law_is_test, defScope s_law_is_test, [], []⟩
def d_law_are_rows : He.DefD := ⟨("_law_are_rows", none), "_law_are_rows", "_law_are_rows", defArgs s_law_are_rows, defBody s_law_are_rows, defScope s_law_are_rows, [], []⟩
def d_law_is_row : He.DefD := ⟨("_law_is_row", none), "_law_is_row", "_law_is_row", defArgs s_law_is_row, defBody s_law_is_row, defScope s_law_is_row, [], []⟩
def d_law_lists_kept : He.DefD := ⟨("_law_lists_kept", none), "_law_lists_kept", "_law_lists_kept", defArgs s_law_lists_kept, defBody s_law_lists_kept, defScope s_law_lists_kept, [], []⟩
def d_law_unlike_right : He.DefD := ⟨("_law_unlike_right", none), "_law_unlike_right", "_law_unlike_right", defArgs s_law_unlike_right, defBody s_law_unlike_right, defScope s_law_unlike_right, [], []⟩
def d_law : He.DefD := ⟨("law", none), "law", "law", defArgs s_law, defBody s_law, defScope s_law, [], []⟩
def ex_tAM (K : PySem.W.Frag) : Bool := He.tupB K "AMOUNTS" [.str "old", .str "new", .str "one"]
def ex_tNN (K : PySem.W.Frag) : Bool := He.tupB K "NO_NAMES" [.str "none", .str "to", .str "old", .str "new", .str "one", .str "not"]
def ex_cG (K : PySem.W.Frag) : Bool := He.eqO (PySem.W.specialIn K (.builtin "object.__class__") "__get__") (some (some (.builtin "getset_descriptor.__get__")))
def ex_cT (K : PySem.W.Frag) : Bool := decide (PySem.W.takesIn K (.builtin "object.__class__") = some true)
def ex_ocW (K : PySem.W.Frag) : Bool := He.eqO (PySem.W.findIn K (.ref (He.ga K "Was")) "__class__") (some (some (.builtin "object.__class__")))
def ex_omW (K : PySem.W.Frag) : Bool := decide (PySem.W.mroIn K (He.ga K "Was") (.type "object") = some true)
def ex_kW_str (K : PySem.W.Frag) : Bool := decide (PySem.W.kitOne K (.ref (He.ga K "Was")) (.type "str") = some false)
def ex_kW_int (K : PySem.W.Frag) : Bool := decide (PySem.W.kitOne K (.ref (He.ga K "Was")) (.type "int") = some false)
def ex_kW_bool (K : PySem.W.Frag) : Bool := decide (PySem.W.kitOne K (.ref (He.ga K "Was")) (.type "bool") = some false)
def ex_kW_list (K : PySem.W.Frag) : Bool := decide (PySem.W.kitOne K (.ref (He.ga K "Was")) (.type "list") = some false)
def ex_kW_tuple (K : PySem.W.Frag) : Bool := decide (PySem.W.kitOne K (.ref (He.ga K "Was")) (.type "tuple") = some false)
def ex_hsW (K : PySem.W.Frag) : Bool := He.eqO (PySem.W.findIn K (.ref (He.ga K "Was")) "__str__") (some (some (.ref (He.fAd K ("Was", some "__str__")))))
def ex_fsW (K : PySem.W.Frag) : Bool := PySem.W.isFn K (.ref (He.fAd K ("Was", some "__str__")))
def ex_fmW (K : PySem.W.Frag) : Bool := He.eqO (PySem.W.findIn K (.ref (He.ga K "Was")) "__format__") (some (some (.builtin "object.__format__")))
def ex_heW (K : PySem.W.Frag) : Bool := He.eqO (PySem.W.findIn K (.ref (He.ga K "Was")) "__eq__") (some (some (.ref (He.fAd K ("Was", some "__eq__")))))
def ex_feW (K : PySem.W.Frag) : Bool := PySem.W.isFn K (.ref (He.fAd K ("Was", some "__eq__")))
def ex_sfW (K : PySem.W.Frag) : Bool := PySem.W.selfFirst K (He.ga K "Was")
def ex_neW (K : PySem.W.Frag) : Bool := He.eqO (PySem.W.findIn K (.ref (He.ga K "Was")) "__ne__") (some (some (.builtin "object.__ne__")))
def ex_ntW (K : PySem.W.Frag) : Bool := PySem.W.notFirst K (He.ga K "Was") (.type "tuple")
def ex_nsW (K : PySem.W.Frag) : Bool := PySem.W.notFirst K (He.ga K "Was") (.type "str")
def ex_ktW (K : PySem.W.Frag) : Bool := decide (PySem.W.kitOne K (.type "tuple") (.ref (He.ga K "Was")) = some false)
def ex_ksW (K : PySem.W.Frag) : Bool := decide (PySem.W.kitOne K (.type "str") (.ref (He.ga K "Was")) = some false)
def ex_ocO (K : PySem.W.Frag) : Bool := He.eqO (PySem.W.findIn K (.ref (He.ga K "OldBelow")) "__class__") (some (some (.builtin "object.__class__")))
def ex_omO (K : PySem.W.Frag) : Bool := decide (PySem.W.mroIn K (He.ga K "OldBelow") (.type "object") = some true)
def ex_kO_str (K : PySem.W.Frag) : Bool := decide (PySem.W.kitOne K (.ref (He.ga K "OldBelow")) (.type "str") = some false)
def ex_kO_int (K : PySem.W.Frag) : Bool := decide (PySem.W.kitOne K (.ref (He.ga K "OldBelow")) (.type "int") = some false)
def ex_kO_bool (K : PySem.W.Frag) : Bool := decide (PySem.W.kitOne K (.ref (He.ga K "OldBelow")) (.type "bool") = some false)
def ex_kO_list (K : PySem.W.Frag) : Bool := decide (PySem.W.kitOne K (.ref (He.ga K "OldBelow")) (.type "list") = some false)
def ex_kO_tuple (K : PySem.W.Frag) : Bool := decide (PySem.W.kitOne K (.ref (He.ga K "OldBelow")) (.type "tuple") = some false)
def ex_hsO (K : PySem.W.Frag) : Bool := He.eqO (PySem.W.findIn K (.ref (He.ga K "OldBelow")) "__str__") (some (some (.ref (He.fAd K ("OldBelow", some "__str__")))))
def ex_fsO (K : PySem.W.Frag) : Bool := PySem.W.isFn K (.ref (He.fAd K ("OldBelow", some "__str__")))
def ex_fmO (K : PySem.W.Frag) : Bool := He.eqO (PySem.W.findIn K (.ref (He.ga K "OldBelow")) "__format__") (some (some (.builtin "object.__format__")))
def ex_heO (K : PySem.W.Frag) : Bool := He.eqO (PySem.W.findIn K (.ref (He.ga K "OldBelow")) "__eq__") (some (some (.ref (He.fAd K ("OldBelow", some "__eq__")))))
def ex_feO (K : PySem.W.Frag) : Bool := PySem.W.isFn K (.ref (He.fAd K ("OldBelow", some "__eq__")))
def ex_sfO (K : PySem.W.Frag) : Bool := PySem.W.selfFirst K (He.ga K "OldBelow")
def ex_neO (K : PySem.W.Frag) : Bool := He.eqO (PySem.W.findIn K (.ref (He.ga K "OldBelow")) "__ne__") (some (some (.builtin "object.__ne__")))
def ex_ntO (K : PySem.W.Frag) : Bool := PySem.W.notFirst K (He.ga K "OldBelow") (.type "tuple")
def ex_nsO (K : PySem.W.Frag) : Bool := PySem.W.notFirst K (He.ga K "OldBelow") (.type "str")
def ex_ktO (K : PySem.W.Frag) : Bool := decide (PySem.W.kitOne K (.type "tuple") (.ref (He.ga K "OldBelow")) = some false)
def ex_ksO (K : PySem.W.Frag) : Bool := decide (PySem.W.kitOne K (.type "str") (.ref (He.ga K "OldBelow")) = some false)
def ex_ocB (K : PySem.W.Frag) : Bool := He.eqO (PySem.W.findIn K (.ref (He.ga K "NewBelow")) "__class__") (some (some (.builtin "object.__class__")))
def ex_omB (K : PySem.W.Frag) : Bool := decide (PySem.W.mroIn K (He.ga K "NewBelow") (.type "object") = some true)
def ex_kB_str (K : PySem.W.Frag) : Bool := decide (PySem.W.kitOne K (.ref (He.ga K "NewBelow")) (.type "str") = some false)
def ex_kB_int (K : PySem.W.Frag) : Bool := decide (PySem.W.kitOne K (.ref (He.ga K "NewBelow")) (.type "int") = some false)
def ex_kB_bool (K : PySem.W.Frag) : Bool := decide (PySem.W.kitOne K (.ref (He.ga K "NewBelow")) (.type "bool") = some false)
def ex_kB_list (K : PySem.W.Frag) : Bool := decide (PySem.W.kitOne K (.ref (He.ga K "NewBelow")) (.type "list") = some false)
def ex_kB_tuple (K : PySem.W.Frag) : Bool := decide (PySem.W.kitOne K (.ref (He.ga K "NewBelow")) (.type "tuple") = some false)
def ex_hsB (K : PySem.W.Frag) : Bool := He.eqO (PySem.W.findIn K (.ref (He.ga K "NewBelow")) "__str__") (some (some (.ref (He.fAd K ("NewBelow", some "__str__")))))
def ex_fsB (K : PySem.W.Frag) : Bool := PySem.W.isFn K (.ref (He.fAd K ("NewBelow", some "__str__")))
def ex_fmB (K : PySem.W.Frag) : Bool := He.eqO (PySem.W.findIn K (.ref (He.ga K "NewBelow")) "__format__") (some (some (.builtin "object.__format__")))
def ex_heB (K : PySem.W.Frag) : Bool := He.eqO (PySem.W.findIn K (.ref (He.ga K "NewBelow")) "__eq__") (some (some (.ref (He.fAd K ("NewBelow", some "__eq__")))))
def ex_feB (K : PySem.W.Frag) : Bool := PySem.W.isFn K (.ref (He.fAd K ("NewBelow", some "__eq__")))
def ex_sfB (K : PySem.W.Frag) : Bool := PySem.W.selfFirst K (He.ga K "NewBelow")
def ex_neB (K : PySem.W.Frag) : Bool := He.eqO (PySem.W.findIn K (.ref (He.ga K "NewBelow")) "__ne__") (some (some (.builtin "object.__ne__")))
def ex_ntB (K : PySem.W.Frag) : Bool := PySem.W.notFirst K (He.ga K "NewBelow") (.type "tuple")
def ex_nsB (K : PySem.W.Frag) : Bool := PySem.W.notFirst K (He.ga K "NewBelow") (.type "str")
def ex_ktB (K : PySem.W.Frag) : Bool := decide (PySem.W.kitOne K (.type "tuple") (.ref (He.ga K "NewBelow")) = some false)
def ex_ksB (K : PySem.W.Frag) : Bool := decide (PySem.W.kitOne K (.type "str") (.ref (He.ga K "NewBelow")) = some false)
def ex_ocM (K : PySem.W.Frag) : Bool := He.eqO (PySem.W.findIn K (.ref (He.ga K "Moved")) "__class__") (some (some (.builtin "object.__class__")))
def ex_omM (K : PySem.W.Frag) : Bool := decide (PySem.W.mroIn K (He.ga K "Moved") (.type "object") = some true)
def ex_kM_str (K : PySem.W.Frag) : Bool := decide (PySem.W.kitOne K (.ref (He.ga K "Moved")) (.type "str") = some false)
def ex_kM_int (K : PySem.W.Frag) : Bool := decide (PySem.W.kitOne K (.ref (He.ga K "Moved")) (.type "int") = some false)
def ex_kM_bool (K : PySem.W.Frag) : Bool := decide (PySem.W.kitOne K (.ref (He.ga K "Moved")) (.type "bool") = some false)
def ex_kM_list (K : PySem.W.Frag) : Bool := decide (PySem.W.kitOne K (.ref (He.ga K "Moved")) (.type "list") = some false)
def ex_kM_tuple (K : PySem.W.Frag) : Bool := decide (PySem.W.kitOne K (.ref (He.ga K "Moved")) (.type "tuple") = some false)
def ex_mkM (K : PySem.W.Frag) : Bool := PySem.W.makesIn K (He.ga K "Moved")
def ex_iniM (K : PySem.W.Frag) : Bool := He.eqO (PySem.W.findIn K (.ref (He.ga K "Moved")) "__init__") (some (some (.builtin "object.__init__")))
def ex_hsM (K : PySem.W.Frag) : Bool := He.eqO (PySem.W.findIn K (.ref (He.ga K "Moved")) "__str__") (some (some (.ref (He.fAd K ("Moved", some "__str__")))))
def ex_fsM (K : PySem.W.Frag) : Bool := PySem.W.isFn K (.ref (He.fAd K ("Moved", some "__str__")))
def ex_fmM (K : PySem.W.Frag) : Bool := He.eqO (PySem.W.findIn K (.ref (He.ga K "Moved")) "__format__") (some (some (.builtin "object.__format__")))
def ex_heM (K : PySem.W.Frag) : Bool := He.eqO (PySem.W.findIn K (.ref (He.ga K "Moved")) "__eq__") (some (some (.ref (He.fAd K ("Moved", some "__eq__")))))
def ex_feM (K : PySem.W.Frag) : Bool := PySem.W.isFn K (.ref (He.fAd K ("Moved", some "__eq__")))
def ex_sfM (K : PySem.W.Frag) : Bool := PySem.W.selfFirst K (He.ga K "Moved")
def ex_neM (K : PySem.W.Frag) : Bool := He.eqO (PySem.W.findIn K (.ref (He.ga K "Moved")) "__ne__") (some (some (.builtin "object.__ne__")))
def ex_ntM (K : PySem.W.Frag) : Bool := PySem.W.notFirst K (He.ga K "Moved") (.type "tuple")
def ex_nsM (K : PySem.W.Frag) : Bool := PySem.W.notFirst K (He.ga K "Moved") (.type "str")
def ex_ktM (K : PySem.W.Frag) : Bool := decide (PySem.W.kitOne K (.type "tuple") (.ref (He.ga K "Moved")) = some false)
def ex_ksM (K : PySem.W.Frag) : Bool := decide (PySem.W.kitOne K (.type "str") (.ref (He.ga K "Moved")) = some false)
def ex_ocT (K : PySem.W.Frag) : Bool := He.eqO (PySem.W.findIn K (.ref (He.ga K "Noted")) "__class__") (some (some (.builtin "object.__class__")))
def ex_omT (K : PySem.W.Frag) : Bool := decide (PySem.W.mroIn K (He.ga K "Noted") (.type "object") = some true)
def ex_kT_str (K : PySem.W.Frag) : Bool := decide (PySem.W.kitOne K (.ref (He.ga K "Noted")) (.type "str") = some false)
def ex_kT_int (K : PySem.W.Frag) : Bool := decide (PySem.W.kitOne K (.ref (He.ga K "Noted")) (.type "int") = some false)
def ex_kT_bool (K : PySem.W.Frag) : Bool := decide (PySem.W.kitOne K (.ref (He.ga K "Noted")) (.type "bool") = some false)
def ex_kT_list (K : PySem.W.Frag) : Bool := decide (PySem.W.kitOne K (.ref (He.ga K "Noted")) (.type "list") = some false)
def ex_kT_tuple (K : PySem.W.Frag) : Bool := decide (PySem.W.kitOne K (.ref (He.ga K "Noted")) (.type "tuple") = some false)
def ex_mkT (K : PySem.W.Frag) : Bool := PySem.W.makesIn K (He.ga K "Noted")
def ex_iniT (K : PySem.W.Frag) : Bool := He.eqO (PySem.W.findIn K (.ref (He.ga K "Noted")) "__init__") (some (some (.builtin "object.__init__")))
def ex_hsT (K : PySem.W.Frag) : Bool := He.eqO (PySem.W.findIn K (.ref (He.ga K "Noted")) "__str__") (some (some (.ref (He.fAd K ("Noted", some "__str__")))))
def ex_fsT (K : PySem.W.Frag) : Bool := PySem.W.isFn K (.ref (He.fAd K ("Noted", some "__str__")))
def ex_fmT (K : PySem.W.Frag) : Bool := He.eqO (PySem.W.findIn K (.ref (He.ga K "Noted")) "__format__") (some (some (.builtin "object.__format__")))
def ex_heT (K : PySem.W.Frag) : Bool := He.eqO (PySem.W.findIn K (.ref (He.ga K "Noted")) "__eq__") (some (some (.ref (He.fAd K ("Noted", some "__eq__")))))
def ex_feT (K : PySem.W.Frag) : Bool := PySem.W.isFn K (.ref (He.fAd K ("Noted", some "__eq__")))
def ex_sfT (K : PySem.W.Frag) : Bool := PySem.W.selfFirst K (He.ga K "Noted")
def ex_neT (K : PySem.W.Frag) : Bool := He.eqO (PySem.W.findIn K (.ref (He.ga K "Noted")) "__ne__") (some (some (.builtin "object.__ne__")))
def ex_ntT (K : PySem.W.Frag) : Bool := PySem.W.notFirst K (He.ga K "Noted") (.type "tuple")
def ex_nsT (K : PySem.W.Frag) : Bool := PySem.W.notFirst K (He.ga K "Noted") (.type "str")
def ex_ktT (K : PySem.W.Frag) : Bool := decide (PySem.W.kitOne K (.type "tuple") (.ref (He.ga K "Noted")) = some false)
def ex_ksT (K : PySem.W.Frag) : Bool := decide (PySem.W.kitOne K (.type "str") (.ref (He.ga K "Noted")) = some false)
def ex_ocN (K : PySem.W.Frag) : Bool := He.eqO (PySem.W.findIn K (.ref (He.ga K "Not")) "__class__") (some (some (.builtin "object.__class__")))
def ex_omN (K : PySem.W.Frag) : Bool := decide (PySem.W.mroIn K (He.ga K "Not") (.type "object") = some true)
def ex_kN_str (K : PySem.W.Frag) : Bool := decide (PySem.W.kitOne K (.ref (He.ga K "Not")) (.type "str") = some false)
def ex_kN_int (K : PySem.W.Frag) : Bool := decide (PySem.W.kitOne K (.ref (He.ga K "Not")) (.type "int") = some false)
def ex_kN_bool (K : PySem.W.Frag) : Bool := decide (PySem.W.kitOne K (.ref (He.ga K "Not")) (.type "bool") = some false)
def ex_kN_list (K : PySem.W.Frag) : Bool := decide (PySem.W.kitOne K (.ref (He.ga K "Not")) (.type "list") = some false)
def ex_kN_tuple (K : PySem.W.Frag) : Bool := decide (PySem.W.kitOne K (.ref (He.ga K "Not")) (.type "tuple") = some false)
def ex_hsN (K : PySem.W.Frag) : Bool := He.eqO (PySem.W.findIn K (.ref (He.ga K "Not")) "__str__") (some (some (.ref (He.fAd K ("Not", some "__str__")))))
def ex_fsN (K : PySem.W.Frag) : Bool := PySem.W.isFn K (.ref (He.fAd K ("Not", some "__str__")))
def ex_fmN (K : PySem.W.Frag) : Bool := He.eqO (PySem.W.findIn K (.ref (He.ga K "Not")) "__format__") (some (some (.builtin "object.__format__")))
def ex_heN (K : PySem.W.Frag) : Bool := He.eqO (PySem.W.findIn K (.ref (He.ga K "Not")) "__eq__") (some (some (.ref (He.fAd K ("Not", some "__eq__")))))
def ex_feN (K : PySem.W.Frag) : Bool := PySem.W.isFn K (.ref (He.fAd K ("Not", some "__eq__")))
def ex_sfN (K : PySem.W.Frag) : Bool := PySem.W.selfFirst K (He.ga K "Not")
def ex_neN (K : PySem.W.Frag) : Bool := He.eqO (PySem.W.findIn K (.ref (He.ga K "Not")) "__ne__") (some (some (.builtin "object.__ne__")))
def ex_ntN (K : PySem.W.Frag) : Bool := PySem.W.notFirst K (He.ga K "Not") (.type "tuple")
def ex_nsN (K : PySem.W.Frag) : Bool := PySem.W.notFirst K (He.ga K "Not") (.type "str")
def ex_ktN (K : PySem.W.Frag) : Bool := decide (PySem.W.kitOne K (.type "tuple") (.ref (He.ga K "Not")) = some false)
def ex_ksN (K : PySem.W.Frag) : Bool := decide (PySem.W.kitOne K (.type "str") (.ref (He.ga K "Not")) = some false)
def ex_ocA (K : PySem.W.Frag) : Bool := He.eqO (PySem.W.findIn K (.ref (He.ga K "Add")) "__class__") (some (some (.builtin "object.__class__")))
def ex_omA (K : PySem.W.Frag) : Bool := decide (PySem.W.mroIn K (He.ga K "Add") (.type "object") = some true)
def ex_kA_str (K : PySem.W.Frag) : Bool := decide (PySem.W.kitOne K (.ref (He.ga K "Add")) (.type "str") = some false)
def ex_kA_int (K : PySem.W.Frag) : Bool := decide (PySem.W.kitOne K (.ref (He.ga K "Add")) (.type "int") = some false)
def ex_kA_bool (K : PySem.W.Frag) : Bool := decide (PySem.W.kitOne K (.ref (He.ga K "Add")) (.type "bool") = some false)
def ex_kA_list (K : PySem.W.Frag) : Bool := decide (PySem.W.kitOne K (.ref (He.ga K "Add")) (.type "list") = some false)
def ex_kA_tuple (K : PySem.W.Frag) : Bool := decide (PySem.W.kitOne K (.ref (He.ga K "Add")) (.type "tuple") = some false)
def ex_hsA (K : PySem.W.Frag) : Bool := He.eqO (PySem.W.findIn K (.ref (He.ga K "Add")) "__str__") (some (some (.ref (He.fAd K ("Add", some "__str__")))))
def ex_fsA (K : PySem.W.Frag) : Bool := PySem.W.isFn K (.ref (He.fAd K ("Add", some "__str__")))
def ex_fmA (K : PySem.W.Frag) : Bool := He.eqO (PySem.W.findIn K (.ref (He.ga K "Add")) "__format__") (some (some (.builtin "object.__format__")))
def ex_heA (K : PySem.W.Frag) : Bool := He.eqO (PySem.W.findIn K (.ref (He.ga K "Add")) "__eq__") (some (some (.ref (He.fAd K ("Add", some "__eq__")))))
def ex_feA (K : PySem.W.Frag) : Bool := PySem.W.isFn K (.ref (He.fAd K ("Add", some "__eq__")))
def ex_sfA (K : PySem.W.Frag) : Bool := PySem.W.selfFirst K (He.ga K "Add")
def ex_neA (K : PySem.W.Frag) : Bool := He.eqO (PySem.W.findIn K (.ref (He.ga K "Add")) "__ne__") (some (some (.builtin "object.__ne__")))
def ex_ntA (K : PySem.W.Frag) : Bool := PySem.W.notFirst K (He.ga K "Add") (.type "tuple")
def ex_nsA (K : PySem.W.Frag) : Bool := PySem.W.notFirst K (He.ga K "Add") (.type "str")
def ex_ktA (K : PySem.W.Frag) : Bool := decide (PySem.W.kitOne K (.type "tuple") (.ref (He.ga K "Add")) = some false)
def ex_ksA (K : PySem.W.Frag) : Bool := decide (PySem.W.kitOne K (.type "str") (.ref (He.ga K "Add")) = some false)
def ex_ocP (K : PySem.W.Frag) : Bool := He.eqO (PySem.W.findIn K (.ref (He.ga K "Put")) "__class__") (some (some (.builtin "object.__class__")))
def ex_omP (K : PySem.W.Frag) : Bool := decide (PySem.W.mroIn K (He.ga K "Put") (.type "object") = some true)
def ex_kP_str (K : PySem.W.Frag) : Bool := decide (PySem.W.kitOne K (.ref (He.ga K "Put")) (.type "str") = some false)
def ex_kP_int (K : PySem.W.Frag) : Bool := decide (PySem.W.kitOne K (.ref (He.ga K "Put")) (.type "int") = some false)
def ex_kP_bool (K : PySem.W.Frag) : Bool := decide (PySem.W.kitOne K (.ref (He.ga K "Put")) (.type "bool") = some false)
def ex_kP_list (K : PySem.W.Frag) : Bool := decide (PySem.W.kitOne K (.ref (He.ga K "Put")) (.type "list") = some false)
def ex_kP_tuple (K : PySem.W.Frag) : Bool := decide (PySem.W.kitOne K (.ref (He.ga K "Put")) (.type "tuple") = some false)
def ex_hsP (K : PySem.W.Frag) : Bool := He.eqO (PySem.W.findIn K (.ref (He.ga K "Put")) "__str__") (some (some (.ref (He.fAd K ("Put", some "__str__")))))
def ex_fsP (K : PySem.W.Frag) : Bool := PySem.W.isFn K (.ref (He.fAd K ("Put", some "__str__")))
def ex_fmP (K : PySem.W.Frag) : Bool := He.eqO (PySem.W.findIn K (.ref (He.ga K "Put")) "__format__") (some (some (.builtin "object.__format__")))
def ex_heP (K : PySem.W.Frag) : Bool := He.eqO (PySem.W.findIn K (.ref (He.ga K "Put")) "__eq__") (some (some (.ref (He.fAd K ("Put", some "__eq__")))))
def ex_feP (K : PySem.W.Frag) : Bool := PySem.W.isFn K (.ref (He.fAd K ("Put", some "__eq__")))
def ex_sfP (K : PySem.W.Frag) : Bool := PySem.W.selfFirst K (He.ga K "Put")
def ex_neP (K : PySem.W.Frag) : Bool := He.eqO (PySem.W.findIn K (.ref (He.ga K "Put")) "__ne__") (some (some (.builtin "object.__ne__")))
def ex_ntP (K : PySem.W.Frag) : Bool := PySem.W.notFirst K (He.ga K "Put") (.type "tuple")
def ex_nsP (K : PySem.W.Frag) : Bool := PySem.W.notFirst K (He.ga K "Put") (.type "str")
def ex_ktP (K : PySem.W.Frag) : Bool := decide (PySem.W.kitOne K (.type "tuple") (.ref (He.ga K "Put")) = some false)
def ex_ksP (K : PySem.W.Frag) : Bool := decide (PySem.W.kitOne K (.type "str") (.ref (He.ga K "Put")) = some false)
def ex_ocK (K : PySem.W.Frag) : Bool := He.eqO (PySem.W.findIn K (.ref (He.ga K "Mark")) "__class__") (some (some (.builtin "object.__class__")))
def ex_omK (K : PySem.W.Frag) : Bool := decide (PySem.W.mroIn K (He.ga K "Mark") (.type "object") = some true)
def ex_kK_str (K : PySem.W.Frag) : Bool := decide (PySem.W.kitOne K (.ref (He.ga K "Mark")) (.type "str") = some false)
def ex_kK_int (K : PySem.W.Frag) : Bool := decide (PySem.W.kitOne K (.ref (He.ga K "Mark")) (.type "int") = some false)
def ex_kK_bool (K : PySem.W.Frag) : Bool := decide (PySem.W.kitOne K (.ref (He.ga K "Mark")) (.type "bool") = some false)
def ex_kK_list (K : PySem.W.Frag) : Bool := decide (PySem.W.kitOne K (.ref (He.ga K "Mark")) (.type "list") = some false)
def ex_kK_tuple (K : PySem.W.Frag) : Bool := decide (PySem.W.kitOne K (.ref (He.ga K "Mark")) (.type "tuple") = some false)
def ex_hsK (K : PySem.W.Frag) : Bool := He.eqO (PySem.W.findIn K (.ref (He.ga K "Mark")) "__str__") (some (some (.ref (He.fAd K ("Mark", some "__str__")))))
def ex_fsK (K : PySem.W.Frag) : Bool := PySem.W.isFn K (.ref (He.fAd K ("Mark", some "__str__")))
def ex_fmK (K : PySem.W.Frag) : Bool := He.eqO (PySem.W.findIn K (.ref (He.ga K "Mark")) "__format__") (some (some (.builtin "object.__format__")))
def ex_heK (K : PySem.W.Frag) : Bool := He.eqO (PySem.W.findIn K (.ref (He.ga K "Mark")) "__eq__") (some (some (.ref (He.fAd K ("Mark", some "__eq__")))))
def ex_feK (K : PySem.W.Frag) : Bool := PySem.W.isFn K (.ref (He.fAd K ("Mark", some "__eq__")))
def ex_sfK (K : PySem.W.Frag) : Bool := PySem.W.selfFirst K (He.ga K "Mark")
def ex_neK (K : PySem.W.Frag) : Bool := He.eqO (PySem.W.findIn K (.ref (He.ga K "Mark")) "__ne__") (some (some (.builtin "object.__ne__")))
def ex_ntK (K : PySem.W.Frag) : Bool := PySem.W.notFirst K (He.ga K "Mark") (.type "tuple")
def ex_nsK (K : PySem.W.Frag) : Bool := PySem.W.notFirst K (He.ga K "Mark") (.type "str")
def ex_ktK (K : PySem.W.Frag) : Bool := decide (PySem.W.kitOne K (.type "tuple") (.ref (He.ga K "Mark")) = some false)
def ex_ksK (K : PySem.W.Frag) : Bool := decide (PySem.W.kitOne K (.type "str") (.ref (He.ga K "Mark")) = some false)
def ex_ocI (K : PySem.W.Frag) : Bool := He.eqO (PySem.W.findIn K (.ref (He.ga K "If")) "__class__") (some (some (.builtin "object.__class__")))
def ex_omI (K : PySem.W.Frag) : Bool := decide (PySem.W.mroIn K (He.ga K "If") (.type "object") = some true)
def ex_kI_str (K : PySem.W.Frag) : Bool := decide (PySem.W.kitOne K (.ref (He.ga K "If")) (.type "str") = some false)
def ex_kI_int (K : PySem.W.Frag) : Bool := decide (PySem.W.kitOne K (.ref (He.ga K "If")) (.type "int") = some false)
def ex_kI_bool (K : PySem.W.Frag) : Bool := decide (PySem.W.kitOne K (.ref (He.ga K "If")) (.type "bool") = some false)
def ex_kI_list (K : PySem.W.Frag) : Bool := decide (PySem.W.kitOne K (.ref (He.ga K "If")) (.type "list") = some false)
def ex_kI_tuple (K : PySem.W.Frag) : Bool := decide (PySem.W.kitOne K (.ref (He.ga K "If")) (.type "tuple") = some false)
def ex_hsI (K : PySem.W.Frag) : Bool := He.eqO (PySem.W.findIn K (.ref (He.ga K "If")) "__str__") (some (some (.ref (He.fAd K ("If", some "__str__")))))
def ex_fsI (K : PySem.W.Frag) : Bool := PySem.W.isFn K (.ref (He.fAd K ("If", some "__str__")))
def ex_fmI (K : PySem.W.Frag) : Bool := He.eqO (PySem.W.findIn K (.ref (He.ga K "If")) "__format__") (some (some (.builtin "object.__format__")))
def ex_heI (K : PySem.W.Frag) : Bool := He.eqO (PySem.W.findIn K (.ref (He.ga K "If")) "__eq__") (some (some (.ref (He.fAd K ("If", some "__eq__")))))
def ex_feI (K : PySem.W.Frag) : Bool := PySem.W.isFn K (.ref (He.fAd K ("If", some "__eq__")))
def ex_sfI (K : PySem.W.Frag) : Bool := PySem.W.selfFirst K (He.ga K "If")
def ex_neI (K : PySem.W.Frag) : Bool := He.eqO (PySem.W.findIn K (.ref (He.ga K "If")) "__ne__") (some (some (.builtin "object.__ne__")))
def ex_ntI (K : PySem.W.Frag) : Bool := PySem.W.notFirst K (He.ga K "If") (.type "tuple")
def ex_nsI (K : PySem.W.Frag) : Bool := PySem.W.notFirst K (He.ga K "If") (.type "str")
def ex_ktI (K : PySem.W.Frag) : Bool := decide (PySem.W.kitOne K (.type "tuple") (.ref (He.ga K "If")) = some false)
def ex_ksI (K : PySem.W.Frag) : Bool := decide (PySem.W.kitOne K (.type "str") (.ref (He.ga K "If")) = some false)
def ex_bTS_W (K : PySem.W.Frag) : Bool := decide (PySem.W.kitOne K (.ref (He.ga K "Was")) (.ref (He.ga K "Test")) = some true)
def ex_bTS_O (K : PySem.W.Frag) : Bool := decide (PySem.W.kitOne K (.ref (He.ga K "OldBelow")) (.ref (He.ga K "Test")) = some true)
def ex_bTS_B (K : PySem.W.Frag) : Bool := decide (PySem.W.kitOne K (.ref (He.ga K "NewBelow")) (.ref (He.ga K "Test")) = some true)
def ex_bTS_M (K : PySem.W.Frag) : Bool := decide (PySem.W.kitOne K (.ref (He.ga K "Moved")) (.ref (He.ga K "Test")) = some true)
def ex_bTS_T (K : PySem.W.Frag) : Bool := decide (PySem.W.kitOne K (.ref (He.ga K "Noted")) (.ref (He.ga K "Test")) = some true)
def ex_bTS_N (K : PySem.W.Frag) : Bool := decide (PySem.W.kitOne K (.ref (He.ga K "Not")) (.ref (He.ga K "Test")) = some true)
def ex_bRW_A (K : PySem.W.Frag) : Bool := decide (PySem.W.kitOne K (.ref (He.ga K "Add")) (.ref (He.ga K "Row")) = some true)
def ex_bRW_P (K : PySem.W.Frag) : Bool := decide (PySem.W.kitOne K (.ref (He.ga K "Put")) (.ref (He.ga K "Row")) = some true)
def ex_bRW_K (K : PySem.W.Frag) : Bool := decide (PySem.W.kitOne K (.ref (He.ga K "Mark")) (.ref (He.ga K "Row")) = some true)
def ex_bRW_I (K : PySem.W.Frag) : Bool := decide (PySem.W.kitOne K (.ref (He.ga K "If")) (.ref (He.ga K "Row")) = some true)
def ex_hU (K : PySem.W.Frag) : Bool := decide (([(He.ga K "Was"), (He.ga K "OldBelow"), (He.ga K "NewBelow"), (He.ga K "Moved"), (He.ga K "Noted"), (He.ga K "Not"), (He.ga K "Add"), (He.ga K "Put"), (He.ga K "Mark"), (He.ga K "If")] : List Addr).Nodup)
def ex_N_tI (K : PySem.W.Frag) : Bool := norowsB K (He.dflAt ("If", some "__init__") 0 K)
def ex_bRW_W (K : PySem.W.Frag) : Bool := decide (PySem.W.kitOne K (.ref (He.ga K "Was")) (.ref (He.ga K "Row")) = some false)
def ex_bRW_O (K : PySem.W.Frag) : Bool := decide (PySem.W.kitOne K (.ref (He.ga K "OldBelow")) (.ref (He.ga K "Row")) = some false)
def ex_bRW_B (K : PySem.W.Frag) : Bool := decide (PySem.W.kitOne K (.ref (He.ga K "NewBelow")) (.ref (He.ga K "Row")) = some false)
def ex_bRW_M (K : PySem.W.Frag) : Bool := decide (PySem.W.kitOne K (.ref (He.ga K "Moved")) (.ref (He.ga K "Row")) = some false)
def ex_bRW_T (K : PySem.W.Frag) : Bool := decide (PySem.W.kitOne K (.ref (He.ga K "Noted")) (.ref (He.ga K "Row")) = some false)
def ex_bRW_N (K : PySem.W.Frag) : Bool := decide (PySem.W.kitOne K (.ref (He.ga K "Not")) (.ref (He.ga K "Row")) = some false)
def ex_bTS_A (K : PySem.W.Frag) : Bool := decide (PySem.W.kitOne K (.ref (He.ga K "Add")) (.ref (He.ga K "Test")) = some false)
def ex_bTS_P (K : PySem.W.Frag) : Bool := decide (PySem.W.kitOne K (.ref (He.ga K "Put")) (.ref (He.ga K "Test")) = some false)
def ex_bTS_K (K : PySem.W.Frag) : Bool := decide (PySem.W.kitOne K (.ref (He.ga K "Mark")) (.ref (He.ga K "Test")) = some false)
def ex_bTS_I (K : PySem.W.Frag) : Bool := decide (PySem.W.kitOne K (.ref (He.ga K "If")) (.ref (He.ga K "Test")) = some false)
def ex_pairs (K : PySem.W.Frag) : Bool := pairsB K [(He.ga K "Was"), (He.ga K "OldBelow"), (He.ga K "NewBelow"), (He.ga K "Moved"), (He.ga K "Noted"), (He.ga K "Not"), (He.ga K "Add"), (He.ga K "Put"), (He.ga K "Mark"), (He.ga K "If")]
def FA0 : List He.Fa := [(.glo "AMOUNTS"), (.glo "NO_NAMES"), (.glo "Was"), (.cls "Was"), (.noat "Was" "kind"), (.mkr "Was"), (.glo "OldBelow"), (.cls "OldBelow"), (.noat "OldBelow" "number"), (.mkr "OldBelow"), (.glo "NewBelow"), (.cls "NewBelow"), (.noat "NewBelow" "number"), (.mkr "NewBelow"), (.glo "Moved"), (.cls "Moved"), (.keep "Moved"), (.glo "Noted"), (.cls "Noted"), (.keep "Noted"), (.glo "Not"), (.cls "Not"), (.noat "Not" "test"), (.mkr "Not"), (.glo "Add")]
def FA1 : List He.Fa := [(.cls "Add"), (.noat "Add" "factor"), (.noat "Add" "what"), (.noat "Add" "total"), (.noat "Add" "place"), (.mkr "Add"), (.glo "Put"), (.cls "Put"), (.noat "Put" "note"), (.noat "Put" "what"), (.mkr "Put"), (.glo "Mark"), (.cls "Mark"), (.noat "Mark" "place"), (.mkr "Mark"), (.glo "If"), (.cls "If"), (.noat "If" "test"), (.noat "If" "rows"), (.noat "If" "others"), (.mkr "If"), (.glo "Test"), (.glo "Row"), (.glo "is_integer"), (.glo "is_sequence")]
def FA2 : List He.Fa := [(.glo "is_name"), (.glo "check"), (.glo "is_kind"), (.glo "is_what"), (.glo "are_rows"), (.glo "block_lines"), (.glo "_law_box"), (.glo "_law_take"), (.glo "_law_pick"), (.glo "_law_mixed"), (.glo "_law_names"), (.glo "_law_number"), (.glo "_law_test"), (.glo "_law_row"), (.glo "_law_rows"), (.glo "_law_event"), (.glo "_law_worth"), (.glo "_law_book"), (.glo "_law_test_text"), (.glo "_law_row_lines"), (.glo "_law_test_of"), (.glo "_law_row_of"), (.glo "_law_rows_of"), (.glo "_law_flat"), (.glo "_law_all_rows")]
def FA3 : List He.Fa := [(.glo "_law_is_test"), (.glo "_law_are_rows"), (.glo "_law_is_row"), (.glo "_law_lists_kept"), (.glo "_law_unlike_right"), (.glo "law"), (.free "len"), (.free "abs"), (.free "int"), (.free "max"), (.free "min"), (.free "range"), (.free "enumerate"), (.free "isinstance"), (.free "repr"), (.free "zip"), (.free "sum"), (.free "all"), (.free "tuple"), (.free "list"), (.free "bool"), (.free "sorted"), (.free "dict"), (.free "str"), (.free "set")]
def FA : List He.Fa := FA0 ++ FA1 ++ FA2 ++ FA3
def FN0 : List He.DefD := [d_Was_init, d_Was_str, d_Was_eq, d_OldBelow_init, d_OldBelow_str, d_OldBelow_eq, d_NewBelow_init, d_NewBelow_str, d_NewBelow_eq, d_Moved_str, d_Moved_eq, d_Noted_str, d_Noted_eq, d_Not_init, d_Not_str, d_Not_eq, d_Add_init, d_Add_str, d_Add_eq, d_Put_init, d_Put_str, d_Put_eq, d_Mark_init, d_Mark_str, d_Mark_eq]
def FN1 : List He.DefD := [d_If_init, d_If_str, d_If_eq, d_is_integer, d_is_sequence, d_is_name, d_check, d_is_kind, d_is_what, d_are_rows, d_block_lines, d_law_box, d_law_take, d_law_pick, d_law_mixed, d_law_names, d_law_number, d_law_test, d_law_row, d_law_rows, d_law_event, d_law_worth, d_law_book, d_law_test_text, d_law_row_lines]
def FN2 : List He.DefD := [d_law_test_of, d_law_row_of, d_law_rows_of, d_law_flat, d_law_all_rows, d_law_is_test, d_law_are_rows, d_law_is_row, d_law_lists_kept, d_law_unlike_right, d_law]
def FN : List He.DefD := FN0 ++ FN1 ++ FN2
def EXS0 : List (PySem.W.Frag → Bool) := [ex_tAM, ex_tNN, ex_cG, ex_cT, ex_ocW, ex_omW, ex_kW_str, ex_kW_int, ex_kW_bool, ex_kW_list, ex_kW_tuple, ex_hsW, ex_fsW, ex_fmW, ex_heW, ex_feW, ex_sfW, ex_neW, ex_ntW, ex_nsW, ex_ktW, ex_ksW, ex_ocO, ex_omO, ex_kO_str]
def EXS1 : List (PySem.W.Frag → Bool) := [ex_kO_int, ex_kO_bool, ex_kO_list, ex_kO_tuple, ex_hsO, ex_fsO, ex_fmO, ex_heO, ex_feO, ex_sfO, ex_neO, ex_ntO, ex_nsO, ex_ktO, ex_ksO, ex_ocB, ex_omB, ex_kB_str, ex_kB_int, ex_kB_bool, ex_kB_list, ex_kB_tuple, ex_hsB, ex_fsB, ex_fmB]
def EXS2 : List (PySem.W.Frag → Bool) := [ex_heB, ex_feB, ex_sfB, ex_neB, ex_ntB, ex_nsB, ex_ktB, ex_ksB, ex_ocM, ex_omM, ex_kM_str, ex_kM_int, ex_kM_bool, ex_kM_list, ex_kM_tuple, ex_mkM, ex_iniM, ex_hsM, ex_fsM, ex_fmM, ex_heM, ex_feM, ex_sfM, ex_neM, ex_ntM]
def EXS3 : List (PySem.W.Frag → Bool) := [ex_nsM, ex_ktM, ex_ksM, ex_ocT, ex_omT, ex_kT_str, ex_kT_int, ex_kT_bool, ex_kT_list, ex_kT_tuple, ex_mkT, ex_iniT, ex_hsT, ex_fsT, ex_fmT, ex_heT, ex_feT, ex_sfT, ex_neT, ex_ntT, ex_nsT, ex_ktT, ex_ksT, ex_ocN, ex_omN]
def EXS4 : List (PySem.W.Frag → Bool) := [ex_kN_str, ex_kN_int, ex_kN_bool, ex_kN_list, ex_kN_tuple, ex_hsN, ex_fsN, ex_fmN, ex_heN, ex_feN, ex_sfN, ex_neN, ex_ntN, ex_nsN, ex_ktN, ex_ksN, ex_ocA, ex_omA, ex_kA_str, ex_kA_int, ex_kA_bool, ex_kA_list, ex_kA_tuple, ex_hsA, ex_fsA]
def EXS5 : List (PySem.W.Frag → Bool) := [ex_fmA, ex_heA, ex_feA, ex_sfA, ex_neA, ex_ntA, ex_nsA, ex_ktA, ex_ksA, ex_ocP, ex_omP, ex_kP_str, ex_kP_int, ex_kP_bool, ex_kP_list, ex_kP_tuple, ex_hsP, ex_fsP, ex_fmP, ex_heP, ex_feP, ex_sfP, ex_neP, ex_ntP, ex_nsP]
def EXS6 : List (PySem.W.Frag → Bool) := [ex_ktP, ex_ksP, ex_ocK, ex_omK, ex_kK_str, ex_kK_int, ex_kK_bool, ex_kK_list, ex_kK_tuple, ex_hsK, ex_fsK, ex_fmK, ex_heK, ex_feK, ex_sfK, ex_neK, ex_ntK, ex_nsK, ex_ktK, ex_ksK, ex_ocI, ex_omI, ex_kI_str, ex_kI_int, ex_kI_bool]
def EXS7 : List (PySem.W.Frag → Bool) := [ex_kI_list, ex_kI_tuple, ex_hsI, ex_fsI, ex_fmI, ex_heI, ex_feI, ex_sfI, ex_neI, ex_ntI, ex_nsI, ex_ktI, ex_ksI, ex_bTS_W, ex_bTS_O, ex_bTS_B, ex_bTS_M, ex_bTS_T, ex_bTS_N, ex_bRW_A, ex_bRW_P, ex_bRW_K, ex_bRW_I, ex_hU, ex_N_tI]
def EXS8 : List (PySem.W.Frag → Bool) := [ex_bRW_W, ex_bRW_O, ex_bRW_B, ex_bRW_M, ex_bRW_T, ex_bRW_N, ex_bTS_A, ex_bTS_P, ex_bTS_K, ex_bTS_I, ex_pairs]
def EXS : List (PySem.W.Frag → Bool) := EXS0 ++ EXS1 ++ EXS2 ++ EXS3 ++ EXS4 ++ EXS5 ++ EXS6 ++ EXS7 ++ EXS8
theorem facts2 {P : Program} {w : World} {K : PySem.W.Frag} {mg : Str → Option Value} {h : Heap} {fa : Addr} (X : K.In h) (G : h.Ns mainGlobals mg) (hfa : mg "law" = some (.ref fa)) (c : SaysY FA FN EXS K) : ∀ base : Heap, LawOk P w K mg base 40 fa (spLaw13 K) := by
  obtain ⟨fd_Was_init, E_Was_init⟩ := c.d.def_ 0 (d := d_Was_init) rfl
  obtain ⟨fd_Was_str, E_Was_str⟩ := c.d.def_ 1 (d := d_Was_str) rfl
  obtain ⟨fd_Was_eq, E_Was_eq⟩ := c.d.def_ 2 (d := d_Was_eq) rfl
  obtain ⟨fd_OldBelow_init, E_OldBelow_init⟩ := c.d.def_ 3 (d := d_OldBelow_init) rfl
  obtain ⟨fd_OldBelow_str, E_OldBelow_str⟩ := c.d.def_ 4 (d := d_OldBelow_str) rfl
  obtain ⟨fd_OldBelow_eq, E_OldBelow_eq⟩ := c.d.def_ 5 (d := d_OldBelow_eq) rfl
  obtain ⟨fd_NewBelow_init, E_NewBelow_init⟩ := c.d.def_ 6 (d := d_NewBelow_init) rfl
  obtain ⟨fd_NewBelow_str, E_NewBelow_str⟩ := c.d.def_ 7 (d := d_NewBelow_str) rfl
  obtain ⟨fd_NewBelow_eq, E_NewBelow_eq⟩ := c.d.def_ 8 (d := d_NewBelow_eq) rfl
  obtain ⟨fd_Moved_str, E_Moved_str⟩ := c.d.def_ 9 (d := d_Moved_str) rfl
  obtain ⟨fd_Moved_eq, E_Moved_eq⟩ := c.d.def_ 10 (d := d_Moved_eq) rfl
  obtain ⟨fd_Noted_str, E_Noted_str⟩ := c.d.def_ 11 (d := d_Noted_str) rfl
  obtain ⟨fd_Noted_eq, E_Noted_eq⟩ := c.d.def_ 12 (d := d_Noted_eq) rfl
  obtain ⟨fd_Not_init, E_Not_init⟩ := c.d.def_ 13 (d := d_Not_init) rfl
  obtain ⟨fd_Not_str, E_Not_str⟩ := c.d.def_ 14 (d := d_Not_str) rfl
  obtain ⟨fd_Not_eq, E_Not_eq⟩ := c.d.def_ 15 (d := d_Not_eq) rfl
  obtain ⟨fd_Add_init, E_Add_init⟩ := c.d.def_ 16 (d := d_Add_init) rfl
  obtain ⟨fd_Add_str, E_Add_str⟩ := c.d.def_ 17 (d := d_Add_str) rfl
  obtain ⟨fd_Add_eq, E_Add_eq⟩ := c.d.def_ 18 (d := d_Add_eq) rfl
  obtain ⟨fd_Put_init, E_Put_init⟩ := c.d.def_ 19 (d := d_Put_init) rfl
  obtain ⟨fd_Put_str, E_Put_str⟩ := c.d.def_ 20 (d := d_Put_str) rfl
  obtain ⟨fd_Put_eq, E_Put_eq⟩ := c.d.def_ 21 (d := d_Put_eq) rfl
  obtain ⟨fd_Mark_init, E_Mark_init⟩ := c.d.def_ 22 (d := d_Mark_init) rfl
  obtain ⟨fd_Mark_str, E_Mark_str⟩ := c.d.def_ 23 (d := d_Mark_str) rfl
  obtain ⟨fd_Mark_eq, E_Mark_eq⟩ := c.d.def_ 24 (d := d_Mark_eq) rfl
  obtain ⟨fd_If_init, E_If_init⟩ := c.d.def_ 25 (d := d_If_init) rfl
  obtain ⟨fd_If_str, E_If_str⟩ := c.d.def_ 26 (d := d_If_str) rfl
  obtain ⟨fd_If_eq, E_If_eq⟩ := c.d.def_ 27 (d := d_If_eq) rfl
  obtain ⟨fd_is_integer, E_is_integer⟩ := c.d.def_ 28 (d := d_is_integer) rfl
  obtain ⟨fd_is_sequence, E_is_sequence⟩ := c.d.def_ 29 (d := d_is_sequence) rfl
  obtain ⟨fd_is_name, E_is_name⟩ := c.d.def_ 30 (d := d_is_name) rfl
  obtain ⟨fd_check, E_check⟩ := c.d.def_ 31 (d := d_check) rfl
  obtain ⟨fd_is_kind, E_is_kind⟩ := c.d.def_ 32 (d := d_is_kind) rfl
  obtain ⟨fd_is_what, E_is_what⟩ := c.d.def_ 33 (d := d_is_what) rfl
  obtain ⟨fd_are_rows, E_are_rows⟩ := c.d.def_ 34 (d := d_are_rows) rfl
  obtain ⟨fd_block_lines, E_block_lines⟩ := c.d.def_ 35 (d := d_block_lines) rfl
  obtain ⟨fd_law_box, E_law_box⟩ := c.d.def_ 36 (d := d_law_box) rfl
  obtain ⟨fd_law_take, E_law_take⟩ := c.d.def_ 37 (d := d_law_take) rfl
  obtain ⟨fd_law_pick, E_law_pick⟩ := c.d.def_ 38 (d := d_law_pick) rfl
  obtain ⟨fd_law_mixed, E_law_mixed⟩ := c.d.def_ 39 (d := d_law_mixed) rfl
  obtain ⟨fd_law_names, E_law_names⟩ := c.d.def_ 40 (d := d_law_names) rfl
  obtain ⟨fd_law_number, E_law_number⟩ := c.d.def_ 41 (d := d_law_number) rfl
  obtain ⟨fd_law_test, E_law_test⟩ := c.d.def_ 42 (d := d_law_test) rfl
  obtain ⟨fd_law_row, E_law_row⟩ := c.d.def_ 43 (d := d_law_row) rfl
  obtain ⟨fd_law_rows, E_law_rows⟩ := c.d.def_ 44 (d := d_law_rows) rfl
  obtain ⟨fd_law_event, E_law_event⟩ := c.d.def_ 45 (d := d_law_event) rfl
  obtain ⟨fd_law_worth, E_law_worth⟩ := c.d.def_ 46 (d := d_law_worth) rfl
  obtain ⟨fd_law_book, E_law_book⟩ := c.d.def_ 47 (d := d_law_book) rfl
  obtain ⟨fd_law_test_text, E_law_test_text⟩ := c.d.def_ 48 (d := d_law_test_text) rfl
  obtain ⟨fd_law_row_lines, E_law_row_lines⟩ := c.d.def_ 49 (d := d_law_row_lines) rfl
  obtain ⟨fd_law_test_of, E_law_test_of⟩ := c.d.def_ 50 (d := d_law_test_of) rfl
  obtain ⟨fd_law_row_of, E_law_row_of⟩ := c.d.def_ 51 (d := d_law_row_of) rfl
  obtain ⟨fd_law_rows_of, E_law_rows_of⟩ := c.d.def_ 52 (d := d_law_rows_of) rfl
  obtain ⟨fd_law_flat, E_law_flat⟩ := c.d.def_ 53 (d := d_law_flat) rfl
  obtain ⟨fd_law_all_rows, E_law_all_rows⟩ := c.d.def_ 54 (d := d_law_all_rows) rfl
  obtain ⟨fd_law_is_test, E_law_is_test⟩ := c.d.def_ 55 (d := d_law_is_test) rfl
  obtain ⟨fd_law_are_rows, E_law_are_rows⟩ := c.d.def_ 56 (d := d_law_are_rows) rfl
  obtain ⟨fd_law_is_row, E_law_is_row⟩ := c.d.def_ 57 (d := d_law_is_row) rfl
  obtain ⟨fd_law_lists_kept, E_law_lists_kept⟩ := c.d.def_ 58 (d := d_law_lists_kept) rfl
  obtain ⟨fd_law_unlike_right, E_law_unlike_right⟩ := c.d.def_ 59 (d := d_law_unlike_right) rfl
  obtain ⟨fd_law, E_law⟩ := c.d.def_ 60 (d := d_law) rfl
  exact facts (P := P) (w := w) hfa (AM := (He.ga K "AMOUNTS")) (NN := (He.ga K "NO_NAMES")) (XW := (He.ga K "Was")) (fWi := (He.fAd K ("Was", some "__init__"))) (fWs := (He.fAd K ("Was", some "__str__"))) (fWq := (He.fAd K ("Was", some "__eq__"))) (XO := (He.ga K "OldBelow")) (fOi := (He.fAd K ("OldBelow", some "__init__"))) (fOs := (He.fAd K ("OldBelow", some "__str__"))) (fOq := (He.fAd K ("OldBelow", some "__eq__"))) (XB := (He.ga K "NewBelow")) (fBi := (He.fAd K ("NewBelow", some "__init__"))) (fBs := (He.fAd K ("NewBelow", some "__str__"))) (fBq := (He.fAd K ("NewBelow", some "__eq__"))) (XM := (He.ga K "Moved")) (fMs := (He.fAd K ("Moved", some "__str__"))) (fMq := (He.fAd K ("Moved", some "__eq__"))) (XT := (He.ga K "Noted")) (fTs := (He.fAd K ("Noted", some "__str__"))) (fTq := (He.fAd K ("Noted", some "__eq__"))) (XN := (He.ga K "Not")) (fNi := (He.fAd K ("Not", some "__init__"))) (fNs := (He.fAd K ("Not", some "__str__"))) (fNq := (He.fAd K ("Not", some "__eq__"))) (XA := (He.ga K "Add")) (fAi := (He.fAd K ("Add", some "__init__"))) (fAs := (He.fAd K ("Add", some "__str__"))) (fAq := (He.fAd K ("Add", some "__eq__"))) (XP := (He.ga K "Put")) (fPi := (He.fAd K ("Put", some "__init__"))) (fPs := (He.fAd K ("Put", some "__str__"))) (fPq := (He.fAd K ("Put", some "__eq__"))) (XK := (He.ga K "Mark")) (fKi := (He.fAd K ("Mark", some "__init__"))) (fKs := (He.fAd K ("Mark", some "__str__"))) (fKq := (He.fAd K ("Mark", some "__eq__"))) (XI := (He.ga K "If")) (tI := (He.dflAt ("If", some "__init__") 0 K)) (fIi := (He.fAd K ("If", some "__init__"))) (fIs := (He.fAd K ("If", some "__str__"))) (fIq := (He.fAd K ("If", some "__eq__"))) (TS := (He.ga K "Test")) (RW := (He.ga K "Row")) (f_is_integer := (He.fAd K ("is_integer", none))) (f_is_sequence := (He.fAd K ("is_sequence", none))) (f_is_name := (He.fAd K ("is_name", none))) (f_check := (He.fAd K ("check", none))) (f_is_kind := (He.fAd K ("is_kind", none))) (f_is_what := (He.fAd K ("is_what", none))) (f_are_rows := (He.fAd K ("are_rows", none))) (f_block_lines := (He.fAd K ("block_lines", none))) (f_law_box := (He.fAd K ("_law_box", none))) (f_law_take := (He.fAd K ("_law_take", none))) (f_law_pick := (He.fAd K ("_law_pick", none))) (f_law_mixed := (He.fAd K ("_law_mixed", none))) (f_law_names := (He.fAd K ("_law_names", none))) (f_law_number := (He.fAd K ("_law_number", none))) (f_law_test := (He.fAd K ("_law_test", none))) (f_law_row := (He.fAd K ("_law_row", none))) (f_law_rows := (He.fAd K ("_law_rows", none))) (f_law_event := (He.fAd K ("_law_event", none))) (f_law_worth := (He.fAd K ("_law_worth", none))) (f_law_book := (He.fAd K ("_law_book", none))) (f_law_test_text := (He.fAd K ("_law_test_text", none))) (f_law_row_lines := (He.fAd K ("_law_row_lines", none))) (f_law_test_of := (He.fAd K ("_law_test_of", none))) (f_law_row_of := (He.fAd K ("_law_row_of", none))) (f_law_rows_of := (He.fAd K ("_law_rows_of", none))) (f_law_flat := (He.fAd K ("_law_flat", none))) (f_law_all_rows := (He.fAd K ("_law_all_rows", none))) (f_law_is_test := (He.fAd K ("_law_is_test", none))) (f_law_are_rows := (He.fAd K ("_law_are_rows", none))) (f_law_is_row := (He.fAd K ("_law_is_row", none))) (f_law_lists_kept := (He.fAd K ("_law_lists_kept", none))) (f_law_unlike_right := (He.fAd K ("_law_unlike_right", none))) (f_law := (He.fAd K ("law", none))) (m_AM := (He.glo_ok X G (c.d.fact 0 (f := (.glo "AMOUNTS")) rfl))) (tAM := (fun H => He.tupB_ok (vs := [.str "old", .str "new", .str "one"]) (H := H) (ex_at c 0 (f := ex_tAM) rfl))) (m_NN := (He.glo_ok X G (c.d.fact 1 (f := (.glo "NO_NAMES")) rfl))) (tNN := (fun H => He.tupB_ok (vs := [.str "none", .str "to", .str "old", .str "new", .str "one", .str "not"]) (H := H) (ex_at c 1 (f := ex_tNN) rfl))) (m_XW := (He.glo_ok X G (c.d.fact 2 (f := (.glo "Was")) rfl))) (clsW := (He.cls_ok (c.d.fact 3 (f := (.cls "Was")) rfl))) (cG := (He.eqO_ok (ex_at c 2 (f := ex_cG) rfl))) (cT := (of_decide_eq_true (ex_at c 3 (f := ex_cT) rfl))) (ocW := (He.eqO_ok (ex_at c 4 (f := ex_ocW) rfl))) (omW := (of_decide_eq_true (ex_at c 5 (f := ex_omW) rfl))) (kW_str := (of_decide_eq_true (ex_at c 6 (f := ex_kW_str) rfl))) (kW_int := (of_decide_eq_true (ex_at c 7 (f := ex_kW_int) rfl))) (kW_bool := (of_decide_eq_true (ex_at c 8 (f := ex_kW_bool) rfl))) (kW_list := (of_decide_eq_true (ex_at c 9 (f := ex_kW_list) rfl))) (kW_tuple := (of_decide_eq_true (ex_at c 10 (f := ex_kW_tuple) rfl))) (nW0 := (He.noat_ok (c.d.fact 4 (f := (.noat "Was" "kind")) rfl))) (D_Was_init := E_Was_init) (MW := (He.mkr_ok (c.d.fact 5 (f := (.mkr "Was")) rfl))) (D_Was_str := E_Was_str) (hsW := (He.eqO_ok (ex_at c 11 (f := ex_hsW) rfl))) (fsW := (ex_at c 12 (f := ex_fsW) rfl)) (fmW := (He.eqO_ok (ex_at c 13 (f := ex_fmW) rfl))) (D_Was_eq := E_Was_eq) (heW := (He.eqO_ok (ex_at c 14 (f := ex_heW) rfl))) (feW := (ex_at c 15 (f := ex_feW) rfl)) (sfW := (ex_at c 16 (f := ex_sfW) rfl)) (neW := (He.eqO_ok (ex_at c 17 (f := ex_neW) rfl))) (ntW := (ex_at c 18 (f := ex_ntW) rfl)) (nsW := (ex_at c 19 (f := ex_nsW) rfl)) (ktW := (of_decide_eq_true (ex_at c 20 (f := ex_ktW) rfl))) (ksW := (of_decide_eq_true (ex_at c 21 (f := ex_ksW) rfl))) (m_XO := (He.glo_ok X G (c.d.fact 6 (f := (.glo "OldBelow")) rfl))) (clsO := (He.cls_ok (c.d.fact 7 (f := (.cls "OldBelow")) rfl))) (ocO := (He.eqO_ok (ex_at c 22 (f := ex_ocO) rfl))) (omO := (of_decide_eq_true (ex_at c 23 (f := ex_omO) rfl))) (kO_str := (of_decide_eq_true (ex_at c 24 (f := ex_kO_str) rfl))) (kO_int := (of_decide_eq_true (ex_at c 25 (f := ex_kO_int) rfl))) (kO_bool := (of_decide_eq_true (ex_at c 26 (f := ex_kO_bool) rfl))) (kO_list := (of_decide_eq_true (ex_at c 27 (f := ex_kO_list) rfl))) (kO_tuple := (of_decide_eq_true (ex_at c 28 (f := ex_kO_tuple) rfl))) (nO0 := (He.noat_ok (c.d.fact 8 (f := (.noat "OldBelow" "number")) rfl))) (D_OldBelow_init := E_OldBelow_init) (MO := (He.mkr_ok (c.d.fact 9 (f := (.mkr "OldBelow")) rfl))) (D_OldBelow_str := E_OldBelow_str) (hsO := (He.eqO_ok (ex_at c 29 (f := ex_hsO) rfl))) (fsO := (ex_at c 30 (f := ex_fsO) rfl)) (fmO := (He.eqO_ok (ex_at c 31 (f := ex_fmO) rfl))) (D_OldBelow_eq := E_OldBelow_eq) (heO := (He.eqO_ok (ex_at c 32 (f := ex_heO) rfl))) (feO := (ex_at c 33 (f := ex_feO) rfl)) (sfO := (ex_at c 34 (f := ex_sfO) rfl)) (neO := (He.eqO_ok (ex_at c 35 (f := ex_neO) rfl))) (ntO := (ex_at c 36 (f := ex_ntO) rfl)) (nsO := (ex_at c 37 (f := ex_nsO) rfl)) (ktO := (of_decide_eq_true (ex_at c 38 (f := ex_ktO) rfl))) (ksO := (of_decide_eq_true (ex_at c 39 (f := ex_ksO) rfl))) (m_XB := (He.glo_ok X G (c.d.fact 10 (f := (.glo "NewBelow")) rfl))) (clsB := (He.cls_ok (c.d.fact 11 (f := (.cls "NewBelow")) rfl))) (ocB := (He.eqO_ok (ex_at c 40 (f := ex_ocB) rfl))) (omB := (of_decide_eq_true (ex_at c 41 (f := ex_omB) rfl))) (kB_str := (of_decide_eq_true (ex_at c 42 (f := ex_kB_str) rfl))) (kB_int := (of_decide_eq_true (ex_at c 43 (f := ex_kB_int) rfl))) (kB_bool := (of_decide_eq_true (ex_at c 44 (f := ex_kB_bool) rfl))) (kB_list := (of_decide_eq_true (ex_at c 45 (f := ex_kB_list) rfl))) (kB_tuple := (of_decide_eq_true (ex_at c 46 (f := ex_kB_tuple) rfl))) (nB0 := (He.noat_ok (c.d.fact 12 (f := (.noat "NewBelow" "number")) rfl))) (D_NewBelow_init := E_NewBelow_init) (MB := (He.mkr_ok (c.d.fact 13 (f := (.mkr "NewBelow")) rfl))) (D_NewBelow_str := E_NewBelow_str) (hsB := (He.eqO_ok (ex_at c 47 (f := ex_hsB) rfl))) (fsB := (ex_at c 48 (f := ex_fsB) rfl)) (fmB := (He.eqO_ok (ex_at c 49 (f := ex_fmB) rfl))) (D_NewBelow_eq := E_NewBelow_eq) (heB := (He.eqO_ok (ex_at c 50 (f := ex_heB) rfl))) (feB := (ex_at c 51 (f := ex_feB) rfl)) (sfB := (ex_at c 52 (f := ex_sfB) rfl)) (neB := (He.eqO_ok (ex_at c 53 (f := ex_neB) rfl))) (ntB := (ex_at c 54 (f := ex_ntB) rfl)) (nsB := (ex_at c 55 (f := ex_nsB) rfl)) (ktB := (of_decide_eq_true (ex_at c 56 (f := ex_ktB) rfl))) (ksB := (of_decide_eq_true (ex_at c 57 (f := ex_ksB) rfl))) (m_XM := (He.glo_ok X G (c.d.fact 14 (f := (.glo "Moved")) rfl))) (clsM := (He.cls_ok (c.d.fact 15 (f := (.cls "Moved")) rfl))) (ocM := (He.eqO_ok (ex_at c 58 (f := ex_ocM) rfl))) (omM := (of_decide_eq_true (ex_at c 59 (f := ex_omM) rfl))) (kM_str := (of_decide_eq_true (ex_at c 60 (f := ex_kM_str) rfl))) (kM_int := (of_decide_eq_true (ex_at c 61 (f := ex_kM_int) rfl))) (kM_bool := (of_decide_eq_true (ex_at c 62 (f := ex_kM_bool) rfl))) (kM_list := (of_decide_eq_true (ex_at c 63 (f := ex_kM_list) rfl))) (kM_tuple := (of_decide_eq_true (ex_at c 64 (f := ex_kM_tuple) rfl))) (mkM := (ex_at c 65 (f := ex_mkM) rfl)) (kpM := (He.keep_ok (c.d.fact 16 (f := (.keep "Moved")) rfl))) (iniM := (He.eqO_ok (ex_at c 66 (f := ex_iniM) rfl))) (D_Moved_str := E_Moved_str) (hsM := (He.eqO_ok (ex_at c 67 (f := ex_hsM) rfl))) (fsM := (ex_at c 68 (f := ex_fsM) rfl)) (fmM := (He.eqO_ok (ex_at c 69 (f := ex_fmM) rfl))) (D_Moved_eq := E_Moved_eq) (heM := (He.eqO_ok (ex_at c 70 (f := ex_heM) rfl))) (feM := (ex_at c 71 (f := ex_feM) rfl)) (sfM := (ex_at c 72 (f := ex_sfM) rfl)) (neM := (He.eqO_ok (ex_at c 73 (f := ex_neM) rfl))) (ntM := (ex_at c 74 (f := ex_ntM) rfl)) (nsM := (ex_at c 75 (f := ex_nsM) rfl)) (ktM := (of_decide_eq_true (ex_at c 76 (f := ex_ktM) rfl))) (ksM := (of_decide_eq_true (ex_at c 77 (f := ex_ksM) rfl))) (m_XT := (He.glo_ok X G (c.d.fact 17 (f := (.glo "Noted")) rfl))) (clsT := (He.cls_ok (c.d.fact 18 (f := (.cls "Noted")) rfl))) (ocT := (He.eqO_ok (ex_at c 78 (f := ex_ocT) rfl))) (omT := (of_decide_eq_true (ex_at c 79 (f := ex_omT) rfl))) (kT_str := (of_decide_eq_true (ex_at c 80 (f := ex_kT_str) rfl))) (kT_int := (of_decide_eq_true (ex_at c 81 (f := ex_kT_int) rfl))) (kT_bool := (of_decide_eq_true (ex_at c 82 (f := ex_kT_bool) rfl))) (kT_list := (of_decide_eq_true (ex_at c 83 (f := ex_kT_list) rfl))) (kT_tuple := (of_decide_eq_true (ex_at c 84 (f := ex_kT_tuple) rfl))) (mkT := (ex_at c 85 (f := ex_mkT) rfl)) (kpT := (He.keep_ok (c.d.fact 19 (f := (.keep "Noted")) rfl))) (iniT := (He.eqO_ok (ex_at c 86 (f := ex_iniT) rfl))) (D_Noted_str := E_Noted_str) (hsT := (He.eqO_ok (ex_at c 87 (f := ex_hsT) rfl))) (fsT := (ex_at c 88 (f := ex_fsT) rfl)) (fmT := (He.eqO_ok (ex_at c 89 (f := ex_fmT) rfl))) (D_Noted_eq := E_Noted_eq) (heT := (He.eqO_ok (ex_at c 90 (f := ex_heT) rfl))) (feT := (ex_at c 91 (f := ex_feT) rfl)) (sfT := (ex_at c 92 (f := ex_sfT) rfl)) (neT := (He.eqO_ok (ex_at c 93 (f := ex_neT) rfl))) (ntT := (ex_at c 94 (f := ex_ntT) rfl)) (nsT := (ex_at c 95 (f := ex_nsT) rfl)) (ktT := (of_decide_eq_true (ex_at c 96 (f := ex_ktT) rfl))) (ksT := (of_decide_eq_true (ex_at c 97 (f := ex_ksT) rfl))) (m_XN := (He.glo_ok X G (c.d.fact 20 (f := (.glo "Not")) rfl))) (clsN := (He.cls_ok (c.d.fact 21 (f := (.cls "Not")) rfl))) (ocN := (He.eqO_ok (ex_at c 98 (f := ex_ocN) rfl))) (omN := (of_decide_eq_true (ex_at c 99 (f := ex_omN) rfl))) (kN_str := (of_decide_eq_true (ex_at c 100 (f := ex_kN_str) rfl))) (kN_int := (of_decide_eq_true (ex_at c 101 (f := ex_kN_int) rfl))) (kN_bool := (of_decide_eq_true (ex_at c 102 (f := ex_kN_bool) rfl))) (kN_list := (of_decide_eq_true (ex_at c 103 (f := ex_kN_list) rfl))) (kN_tuple := (of_decide_eq_true (ex_at c 104 (f := ex_kN_tuple) rfl))) (nN0 := (He.noat_ok (c.d.fact 22 (f := (.noat "Not" "test")) rfl))) (D_Not_init := E_Not_init) (MN := (He.mkr_ok (c.d.fact 23 (f := (.mkr "Not")) rfl))) (D_Not_str := E_Not_str) (hsN := (He.eqO_ok (ex_at c 105 (f := ex_hsN) rfl))) (fsN := (ex_at c 106 (f := ex_fsN) rfl)) (fmN := (He.eqO_ok (ex_at c 107 (f := ex_fmN) rfl))) (D_Not_eq := E_Not_eq) (heN := (He.eqO_ok (ex_at c 108 (f := ex_heN) rfl))) (feN := (ex_at c 109 (f := ex_feN) rfl)) (sfN := (ex_at c 110 (f := ex_sfN) rfl)) (neN := (He.eqO_ok (ex_at c 111 (f := ex_neN) rfl))) (ntN := (ex_at c 112 (f := ex_ntN) rfl)) (nsN := (ex_at c 113 (f := ex_nsN) rfl)) (ktN := (of_decide_eq_true (ex_at c 114 (f := ex_ktN) rfl))) (ksN := (of_decide_eq_true (ex_at c 115 (f := ex_ksN) rfl))) (m_XA := (He.glo_ok X G (c.d.fact 24 (f := (.glo "Add")) rfl))) (clsA := (He.cls_ok (c.d.fact 25 (f := (.cls "Add")) rfl))) (ocA := (He.eqO_ok (ex_at c 116 (f := ex_ocA) rfl))) (omA := (of_decide_eq_true (ex_at c 117 (f := ex_omA) rfl))) (kA_str := (of_decide_eq_true (ex_at c 118 (f := ex_kA_str) rfl))) (kA_int := (of_decide_eq_true (ex_at c 119 (f := ex_kA_int) rfl))) (kA_bool := (of_decide_eq_true (ex_at c 120 (f := ex_kA_bool) rfl))) (kA_list := (of_decide_eq_true (ex_at c 121 (f := ex_kA_list) rfl))) (kA_tuple := (of_decide_eq_true (ex_at c 122 (f := ex_kA_tuple) rfl))) (nA0 := (He.noat_ok (c.d.fact 26 (f := (.noat "Add" "factor")) rfl))) (nA1 := (He.noat_ok (c.d.fact 27 (f := (.noat "Add" "what")) rfl))) (nA2 := (He.noat_ok (c.d.fact 28 (f := (.noat "Add" "total")) rfl))) (nA3 := (He.noat_ok (c.d.fact 29 (f := (.noat "Add" "place")) rfl))) (D_Add_init := E_Add_init) (MA := (He.mkr_ok (c.d.fact 30 (f := (.mkr "Add")) rfl))) (D_Add_str := E_Add_str) (hsA := (He.eqO_ok (ex_at c 123 (f := ex_hsA) rfl))) (fsA := (ex_at c 124 (f := ex_fsA) rfl)) (fmA := (He.eqO_ok (ex_at c 125 (f := ex_fmA) rfl))) (D_Add_eq := E_Add_eq) (heA := (He.eqO_ok (ex_at c 126 (f := ex_heA) rfl))) (feA := (ex_at c 127 (f := ex_feA) rfl)) (sfA := (ex_at c 128 (f := ex_sfA) rfl)) (neA := (He.eqO_ok (ex_at c 129 (f := ex_neA) rfl))) (ntA := (ex_at c 130 (f := ex_ntA) rfl)) (nsA := (ex_at c 131 (f := ex_nsA) rfl)) (ktA := (of_decide_eq_true (ex_at c 132 (f := ex_ktA) rfl))) (ksA := (of_decide_eq_true (ex_at c 133 (f := ex_ksA) rfl))) (m_XP := (He.glo_ok X G (c.d.fact 31 (f := (.glo "Put")) rfl))) (clsP := (He.cls_ok (c.d.fact 32 (f := (.cls "Put")) rfl))) (ocP := (He.eqO_ok (ex_at c 134 (f := ex_ocP) rfl))) (omP := (of_decide_eq_true (ex_at c 135 (f := ex_omP) rfl))) (kP_str := (of_decide_eq_true (ex_at c 136 (f := ex_kP_str) rfl))) (kP_int := (of_decide_eq_true (ex_at c 137 (f := ex_kP_int) rfl))) (kP_bool := (of_decide_eq_true (ex_at c 138 (f := ex_kP_bool) rfl))) (kP_list := (of_decide_eq_true (ex_at c 139 (f := ex_kP_list) rfl))) (kP_tuple := (of_decide_eq_true (ex_at c 140 (f := ex_kP_tuple) rfl))) (nP0 := (He.noat_ok (c.d.fact 33 (f := (.noat "Put" "note")) rfl))) (nP1 := (He.noat_ok (c.d.fact 34 (f := (.noat "Put" "what")) rfl))) (D_Put_init := E_Put_init) (MP := (He.mkr_ok (c.d.fact 35 (f := (.mkr "Put")) rfl))) (D_Put_str := E_Put_str) (hsP := (He.eqO_ok (ex_at c 141 (f := ex_hsP) rfl))) (fsP := (ex_at c 142 (f := ex_fsP) rfl)) (fmP := (He.eqO_ok (ex_at c 143 (f := ex_fmP) rfl))) (D_Put_eq := E_Put_eq) (heP := (He.eqO_ok (ex_at c 144 (f := ex_heP) rfl))) (feP := (ex_at c 145 (f := ex_feP) rfl)) (sfP := (ex_at c 146 (f := ex_sfP) rfl)) (neP := (He.eqO_ok (ex_at c 147 (f := ex_neP) rfl))) (ntP := (ex_at c 148 (f := ex_ntP) rfl)) (nsP := (ex_at c 149 (f := ex_nsP) rfl)) (ktP := (of_decide_eq_true (ex_at c 150 (f := ex_ktP) rfl))) (ksP := (of_decide_eq_true (ex_at c 151 (f := ex_ksP) rfl))) (m_XK := (He.glo_ok X G (c.d.fact 36 (f := (.glo "Mark")) rfl))) (clsK := (He.cls_ok (c.d.fact 37 (f := (.cls "Mark")) rfl))) (ocK := (He.eqO_ok (ex_at c 152 (f := ex_ocK) rfl))) (omK := (of_decide_eq_true (ex_at c 153 (f := ex_omK) rfl))) (kK_str := (of_decide_eq_true (ex_at c 154 (f := ex_kK_str) rfl))) (kK_int := (of_decide_eq_true (ex_at c 155 (f := ex_kK_int) rfl))) (kK_bool := (of_decide_eq_true (ex_at c 156 (f := ex_kK_bool) rfl))) (kK_list := (of_decide_eq_true (ex_at c 157 (f := ex_kK_list) rfl))) (kK_tuple := (of_decide_eq_true (ex_at c 158 (f := ex_kK_tuple) rfl))) (nK0 := (He.noat_ok (c.d.fact 38 (f := (.noat "Mark" "place")) rfl))) (D_Mark_init := E_Mark_init) (MK := (He.mkr_ok (c.d.fact 39 (f := (.mkr "Mark")) rfl))) (D_Mark_str := E_Mark_str) (hsK := (He.eqO_ok (ex_at c 159 (f := ex_hsK) rfl))) (fsK := (ex_at c 160 (f := ex_fsK) rfl)) (fmK := (He.eqO_ok (ex_at c 161 (f := ex_fmK) rfl))) (D_Mark_eq := E_Mark_eq) (heK := (He.eqO_ok (ex_at c 162 (f := ex_heK) rfl))) (feK := (ex_at c 163 (f := ex_feK) rfl)) (sfK := (ex_at c 164 (f := ex_sfK) rfl)) (neK := (He.eqO_ok (ex_at c 165 (f := ex_neK) rfl))) (ntK := (ex_at c 166 (f := ex_ntK) rfl)) (nsK := (ex_at c 167 (f := ex_nsK) rfl)) (ktK := (of_decide_eq_true (ex_at c 168 (f := ex_ktK) rfl))) (ksK := (of_decide_eq_true (ex_at c 169 (f := ex_ksK) rfl))) (m_XI := (He.glo_ok X G (c.d.fact 40 (f := (.glo "If")) rfl))) (clsI := (He.cls_ok (c.d.fact 41 (f := (.cls "If")) rfl))) (ocI := (He.eqO_ok (ex_at c 170 (f := ex_ocI) rfl))) (omI := (of_decide_eq_true (ex_at c 171 (f := ex_omI) rfl))) (kI_str := (of_decide_eq_true (ex_at c 172 (f := ex_kI_str) rfl))) (kI_int := (of_decide_eq_true (ex_at c 173 (f := ex_kI_int) rfl))) (kI_bool := (of_decide_eq_true (ex_at c 174 (f := ex_kI_bool) rfl))) (kI_list := (of_decide_eq_true (ex_at c 175 (f := ex_kI_list) rfl))) (kI_tuple := (of_decide_eq_true (ex_at c 176 (f := ex_kI_tuple) rfl))) (nI0 := (He.noat_ok (c.d.fact 42 (f := (.noat "If" "test")) rfl))) (nI1 := (He.noat_ok (c.d.fact 43 (f := (.noat "If" "rows")) rfl))) (nI2 := (He.noat_ok (c.d.fact 44 (f := (.noat "If" "others")) rfl))) (D_If_init := E_If_init) (MI := (He.mkr_ok (c.d.fact 45 (f := (.mkr "If")) rfl))) (D_If_str := E_If_str) (hsI := (He.eqO_ok (ex_at c 177 (f := ex_hsI) rfl))) (fsI := (ex_at c 178 (f := ex_fsI) rfl)) (fmI := (He.eqO_ok (ex_at c 179 (f := ex_fmI) rfl))) (D_If_eq := E_If_eq) (heI := (He.eqO_ok (ex_at c 180 (f := ex_heI) rfl))) (feI := (ex_at c 181 (f := ex_feI) rfl)) (sfI := (ex_at c 182 (f := ex_sfI) rfl)) (neI := (He.eqO_ok (ex_at c 183 (f := ex_neI) rfl))) (ntI := (ex_at c 184 (f := ex_ntI) rfl)) (nsI := (ex_at c 185 (f := ex_nsI) rfl)) (ktI := (of_decide_eq_true (ex_at c 186 (f := ex_ktI) rfl))) (ksI := (of_decide_eq_true (ex_at c 187 (f := ex_ksI) rfl))) (m_TS := (He.glo_ok X G (c.d.fact 46 (f := (.glo "Test")) rfl))) (bTS_W := (of_decide_eq_true (ex_at c 188 (f := ex_bTS_W) rfl))) (bTS_O := (of_decide_eq_true (ex_at c 189 (f := ex_bTS_O) rfl))) (bTS_B := (of_decide_eq_true (ex_at c 190 (f := ex_bTS_B) rfl))) (bTS_M := (of_decide_eq_true (ex_at c 191 (f := ex_bTS_M) rfl))) (bTS_T := (of_decide_eq_true (ex_at c 192 (f := ex_bTS_T) rfl))) (bTS_N := (of_decide_eq_true (ex_at c 193 (f := ex_bTS_N) rfl))) (m_RW := (He.glo_ok X G (c.d.fact 47 (f := (.glo "Row")) rfl))) (bRW_A := (of_decide_eq_true (ex_at c 194 (f := ex_bRW_A) rfl))) (bRW_P := (of_decide_eq_true (ex_at c 195 (f := ex_bRW_P) rfl))) (bRW_K := (of_decide_eq_true (ex_at c 196 (f := ex_bRW_K) rfl))) (bRW_I := (of_decide_eq_true (ex_at c 197 (f := ex_bRW_I) rfl))) (hU := (of_decide_eq_true (ex_at c 198 (f := ex_hU) rfl))) (N_tI := (norowsB_ok (ex_at c 199 (f := ex_N_tI) rfl))) (bRW_W := (of_decide_eq_true (ex_at c 200 (f := ex_bRW_W) rfl))) (bRW_O := (of_decide_eq_true (ex_at c 201 (f := ex_bRW_O) rfl))) (bRW_B := (of_decide_eq_true (ex_at c 202 (f := ex_bRW_B) rfl))) (bRW_M := (of_decide_eq_true (ex_at c 203 (f := ex_bRW_M) rfl))) (bRW_T := (of_decide_eq_true (ex_at c 204 (f := ex_bRW_T) rfl))) (bRW_N := (of_decide_eq_true (ex_at c 205 (f := ex_bRW_N) rfl))) (bTS_A := (of_decide_eq_true (ex_at c 206 (f := ex_bTS_A) rfl))) (bTS_P := (of_decide_eq_true (ex_at c 207 (f := ex_bTS_P) rfl))) (bTS_K := (of_decide_eq_true (ex_at c 208 (f := ex_bTS_K) rfl))) (bTS_I := (of_decide_eq_true (ex_at c 209 (f := ex_bTS_I) rfl))) (pairs := (pairsB_ok (ex_at c 210 (f := ex_pairs) rfl))) (D_is_integer := E_is_integer) (m_f_is_integer := (He.glo_ok X G (c.d.fact 48 (f := (.glo "is_integer")) rfl))) (D_is_sequence := E_is_sequence) (m_f_is_sequence := (He.glo_ok X G (c.d.fact 49 (f := (.glo "is_sequence")) rfl))) (D_is_name := E_is_name) (m_f_is_name := (He.glo_ok X G (c.d.fact 50 (f := (.glo "is_name")) rfl))) (D_check := E_check) (m_f_check := (He.glo_ok X G (c.d.fact 51 (f := (.glo "check")) rfl))) (D_is_kind := E_is_kind) (m_f_is_kind := (He.glo_ok X G (c.d.fact 52 (f := (.glo "is_kind")) rfl))) (D_is_what := E_is_what) (m_f_is_what := (He.glo_ok X G (c.d.fact 53 (f := (.glo "is_what")) rfl))) (D_are_rows := E_are_rows) (m_f_are_rows := (He.glo_ok X G (c.d.fact 54 (f := (.glo "are_rows")) rfl))) (D_block_lines := E_block_lines) (m_f_block_lines := (He.glo_ok X G (c.d.fact 55 (f := (.glo "block_lines")) rfl))) (D_law_box := E_law_box) (m_f_law_box := (He.glo_ok X G (c.d.fact 56 (f := (.glo "_law_box")) rfl))) (D_law_take := E_law_take) (m_f_law_take := (He.glo_ok X G (c.d.fact 57 (f := (.glo "_law_take")) rfl))) (D_law_pick := E_law_pick) (m_f_law_pick := (He.glo_ok X G (c.d.fact 58 (f := (.glo "_law_pick")) rfl))) (D_law_mixed := E_law_mixed) (m_f_law_mixed := (He.glo_ok X G (c.d.fact 59 (f := (.glo "_law_mixed")) rfl))) (D_law_names := E_law_names) (m_f_law_names := (He.glo_ok X G (c.d.fact 60 (f := (.glo "_law_names")) rfl))) (D_law_number := E_law_number) (m_f_law_number := (He.glo_ok X G (c.d.fact 61 (f := (.glo "_law_number")) rfl))) (D_law_test := E_law_test) (m_f_law_test := (He.glo_ok X G (c.d.fact 62 (f := (.glo "_law_test")) rfl))) (D_law_row := E_law_row) (m_f_law_row := (He.glo_ok X G (c.d.fact 63 (f := (.glo "_law_row")) rfl))) (D_law_rows := E_law_rows) (m_f_law_rows := (He.glo_ok X G (c.d.fact 64 (f := (.glo "_law_rows")) rfl))) (D_law_event := E_law_event) (m_f_law_event := (He.glo_ok X G (c.d.fact 65 (f := (.glo "_law_event")) rfl))) (D_law_worth := E_law_worth) (m_f_law_worth := (He.glo_ok X G (c.d.fact 66 (f := (.glo "_law_worth")) rfl))) (D_law_book := E_law_book) (m_f_law_book := (He.glo_ok X G (c.d.fact 67 (f := (.glo "_law_book")) rfl))) (D_law_test_text := E_law_test_text) (m_f_law_test_text := (He.glo_ok X G (c.d.fact 68 (f := (.glo "_law_test_text")) rfl))) (D_law_row_lines := E_law_row_lines) (m_f_law_row_lines := (He.glo_ok X G (c.d.fact 69 (f := (.glo "_law_row_lines")) rfl))) (D_law_test_of := E_law_test_of) (m_f_law_test_of := (He.glo_ok X G (c.d.fact 70 (f := (.glo "_law_test_of")) rfl))) (D_law_row_of := E_law_row_of) (m_f_law_row_of := (He.glo_ok X G (c.d.fact 71 (f := (.glo "_law_row_of")) rfl))) (D_law_rows_of := E_law_rows_of) (m_f_law_rows_of := (He.glo_ok X G (c.d.fact 72 (f := (.glo "_law_rows_of")) rfl))) (D_law_flat := E_law_flat) (m_f_law_flat := (He.glo_ok X G (c.d.fact 73 (f := (.glo "_law_flat")) rfl))) (D_law_all_rows := E_law_all_rows) (m_f_law_all_rows := (He.glo_ok X G (c.d.fact 74 (f := (.glo "_law_all_rows")) rfl))) (D_law_is_test := E_law_is_test) (m_f_law_is_test := (He.glo_ok X G (c.d.fact 75 (f := (.glo "_law_is_test")) rfl))) (D_law_are_rows := E_law_are_rows) (m_f_law_are_rows := (He.glo_ok X G (c.d.fact 76 (f := (.glo "_law_are_rows")) rfl))) (D_law_is_row := E_law_is_row) (m_f_law_is_row := (He.glo_ok X G (c.d.fact 77 (f := (.glo "_law_is_row")) rfl))) (D_law_lists_kept := E_law_lists_kept) (m_f_law_lists_kept := (He.glo_ok X G (c.d.fact 78 (f := (.glo "_law_lists_kept")) rfl))) (D_law_unlike_right := E_law_unlike_right) (m_f_law_unlike_right := (He.glo_ok X G (c.d.fact 79 (f := (.glo "_law_unlike_right")) rfl))) (D_law := E_law) (m_f_law := (He.glo_ok X G (c.d.fact 80 (f := (.glo "law")) rfl))) (z_len := (He.free_ok X G (c.d.fact 81 (f := (.free "len")) rfl))) (z_abs := (He.free_ok X G (c.d.fact 82 (f := (.free "abs")) rfl))) (z_int := (He.free_ok X G (c.d.fact 83 (f := (.free "int")) rfl))) (z_max := (He.free_ok X G (c.d.fact 84 (f := (.free "max")) rfl))) (z_min := (He.free_ok X G (c.d.fact 85 (f := (.free "min")) rfl))) (z_range := (He.free_ok X G (c.d.fact 86 (f := (.free "range")) rfl))) (z_enumerate := (He.free_ok X G (c.d.fact 87 (f := (.free "enumerate")) rfl))) (z_isinstance := (He.free_ok X G (c.d.fact 88 (f := (.free "isinstance")) rfl))) (z_repr := (He.free_ok X G (c.d.fact 89 (f := (.free "repr")) rfl))) (z_zip := (He.free_ok X G (c.d.fact 90 (f := (.free "zip")) rfl))) (z_sum := (He.free_ok X G (c.d.fact 91 (f := (.free "sum")) rfl))) (z_all := (He.free_ok X G (c.d.fact 92 (f := (.free "all")) rfl))) (z_tuple := (He.free_ok X G (c.d.fact 93 (f := (.free "tuple")) rfl))) (z_list := (He.free_ok X G (c.d.fact 94 (f := (.free "list")) rfl))) (z_bool := (He.free_ok X G (c.d.fact 95 (f := (.free "bool")) rfl))) (z_sorted := (He.free_ok X G (c.d.fact 96 (f := (.free "sorted")) rfl))) (z_dict := (He.free_ok X G (c.d.fact 97 (f := (.free "dict")) rfl))) (z_str := (He.free_ok X G (c.d.fact 98 (f := (.free "str")) rfl))) (z_set := (He.free_ok X G (c.d.fact 99 (f := (.free "set")) rfl)))
end K14

set_option maxHeartbeats 0
namespace K14
open PySem PySem.W PySem.Calls PyProof.Rows
abbrev RWL : OpenRow := OpenLaw.row PySem.Challenge.rw_sumlives_k13_rows_and_tests_made
abbrev QV : Program := view RWL.prog [52]
def topNames0 : List PySem.Str := ["__name__", "NO_NAMES", "is_integer", "is_sequence", "is_name", "SumError", "InvalidRow", "AMOUNTS", "check", "is_what", "is_kind", "are_rows", "Test", "Was", "OldBelow", "NewBelow", "Moved", "Noted", "Not", "Row", "Add", "Put", "Mark", "If", "block_lines", "_law_box", "_law_take", "_law_pick", "_law_mixed", "_law_names"]
def topNames1 : List PySem.Str := ["_law_number", "_law_test", "_law_row", "_law_rows", "_law_event", "_law_worth", "_law_book", "_law_test_text", "_law_row_lines", "_law_flat", "_law_all_rows", "_law_test_of", "_law_row_of", "_law_rows_of", "_law_is_test", "_law_are_rows", "_law_is_row", "_law_lists_kept", "_law_unlike_right"]
def topNames : List PySem.Str := topNames0 ++ topNames1
abbrev hook : Hook := L2.hookY FA FN EXS
def looked (s : SharedT) : L2.AlY := L2.obsYG FA FN EXS (HandSHeadRun.getT s)
theorem looked_eq (s : SharedT) : looked s = hook.obs s.abs := L2.obsYG_eq (HandSHeadRun.getT_eq s)
theorem topRun (w : World) : HandSHeadRun.RunEq RWL QV hook looked 7000 topNames w := by
  intro os
  kernel_rfl
end K14
open PySem PySem.W PySem.Calls PyProof.Rows in
set_option maxRecDepth 100000 in
set_option maxHeartbeats 0 in
theorem PySem.Challenge.cw_sumlives_k13_rows_and_tests_made_holds : PySem.Challenge.rw_sumlives_k13_rows_and_tests_made.Holds := by
  w_on; o_law
  refine HandSHeadRun.head_any (r := OpenLaw.row PySem.Challenge.rw_sumlives_k13_rows_and_tests_made) (q := K14.QV) (H := K14.hook) (ob := K14.looked) (M := 7000) (loose := K14.topNames) (d := HandSHeadRun.topDef (OpenLaw.row PySem.Challenge.rw_sumlives_k13_rows_and_tests_made).prog 52) (kwd := []) K14.looked_eq
    (by kernel_rfl) (fun s => by kernel_rfl) K14.topRun (by kernel_rfl) (by kernel_rfl) (by kernel_rfl) (by rfl) (by first | assumption | decide +kernel) (by decide +kernel) ⟨rfl, rfl, rfl, rfl, rfl, by decide +kernel⟩ ?hw ?hc
  case hw => w_witness2
  case hc =>
    refine L2.walk_lawE (l := PySem.Challenge.rw_sumlives_k13_rows_and_tests_made) (n := 63) (k := 40) (sp := K14.spLaw13) rfl (by decide) (by kernel_rfl) ⟨rfl, by decide, by decide⟩ ?F (fun K H a ns hl hS => ⟨a, ns, rfl, hS, hl, fun _ => rfl⟩)
    intro w mg fa h Y G hmg0
    obtain ⟨K, KX, c⟩ := Y
    have hmg : mg ("law" : PySem.Str) = some (.ref fa) := by
      rw [← (show (HandSHeadRun.topDef (OpenLaw.row PySem.Challenge.rw_sumlives_k13_rows_and_tests_made).prog 52).name = ("law" : PySem.Str) by kernel_rfl)]
      exact hmg0
    exact ⟨K, KX, fun base _ _ => K14.facts2 KX G hmg c base⟩
