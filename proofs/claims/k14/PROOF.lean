import PyProof.Rows.All
import Wide.All
import OpenK.AllK
import Wide.FinOn
import HandS.ForMost
import HandS.Zip
import HandS.Walk
import HandS.Star
import HandS.Style
import HandS.Gcd
import HandS.WideBits
import HandS.IsInst
import HandS.Defaults
import HandS.RaiseMore
import KE.GoesMore
import HandS.Deep
import HandS.Wide
import HandS.ForExc
import HandS.ExcIs
import HandS.ExcField
import HandS.Lambda
import HandS.ExcInit
import HandS.Text
import HandS.StrMore
import HandS.OwnEq
import HandS.Iter
import HandS.Dict
import HandS.SetKeys
import PyProof.DictUpdate
import HandS.EndOwn
import KE.KNestM
import PySem.Challenge.RW_sumlives_k14_rows_refused
set_option Elab.async false
set_option maxRecDepth 100000
set_option maxHeartbeats 8000000
namespace L2
open PySem PySem.Spec PyProof.Rows RZ
section
variable {X : Cx}
/-- // by any number but 0 that the model divides itself -/
def CDivZ (i j : Int) : Prop := j ≠ 0 ∧ Builtin.divisionGoesByPylong i j = false
theorem op_fdivZ : OpR X (binaryOp .FloorDiv) (rI CDivZ fun i j => .int (i.fdiv j)) := opI fun _ _ _ _ _ _ _ hc q => floordiv_int hc.1 q (.inl hc.2)
/-- a for over a list or a tuple -/
def iSeq (K : PySem.W.Frag) (t : TE) : TI := fun σ H R => iList K t σ H R ∨ iTup K t σ H R
theorem pi_seq {tg l : Expr} {tl : TE} (h : PE X l tl) : PI X tg l (iSeq X.K tl) := ⟨fun pins s σ H R I q => q.elim ((pi_list h).run pins s σ H R I) ((pi_tup h).run pins s σ H R I)⟩
end
/-! ### enumerate(tuple) -/
def IteT (K : PySem.W.Frag) (a : Addr) : It :=
  ⟨fun i H => ∃ (ys : List V) (y : V), SqT K H a ys ∧ ys[i]? = some y,
   fun i H v H' => ∃ T y, v = .ref T ∧ H T = none ∧ H' = upd H T (.tup [.int (i : Nat), y]) ∧ ∀ ys, SqT K H a ys → ys[i]? = some y,
   fun i H => ∃ ys : List V, SqT K H a ys ∧ ys.length = i⟩
theorem turn_enumT {P : Program} {w : World} {K : PySem.W.Frag} {elts : List Expr} {kk : Nat} {tpos : Pos} (a e it : Addr) (hia : a ≠ it) (hea : a ≠ e) :
    Turn P w K (.Tuple elts kk tpos) (IteT K a) [e, it] e (fun i h => (∃ old, IsEnum h e it ((i : Nat) : Int) old) ∧ h.IsTupleIter it a i ∧ e ≠ it) where
  mem := List.mem_cons_self
  obj := fun i h st b hb => by
    obtain ⟨⟨old, he⟩, ⟨o, ho, _, hd⟩, _⟩ := st
    rcases List.mem_cons.mp hb with z | z
    · rw [z]
      exact ⟨_, he, fun v q => nomatch q⟩
    · rw [List.mem_singleton.mp z]
      exact ⟨o, ho, fun v q => by rw [hd] at q; cases q⟩
  keep := fun i h h' st k => by
    obtain ⟨⟨old, he⟩, hi, hne⟩ := st
    exact ⟨⟨old, k e (by simp) _ he⟩, hi.at fun o q => k it (by simp) o q, hne⟩
  item := by
    intro X hP hw hK hc i pins s σ H E I hf st hg
    subst hP hw hK
    obtain ⟨⟨old, he⟩, hit, hne⟩ := st
    obtain ⟨ys, y, hq, hy⟩ := hg
    obtain ⟨its, rv, p, hz⟩ := I.tuple hq
    obtain ⟨u, hu, ru⟩ := rv.get hy
    have hel : e < s.heap.objs.size := Heap.lt_size he
    have hil : it < s.heap.objs.size := by
      obtain ⟨_, q, _⟩ := id hit
      exact Heap.lt_size q
    have hsz : i < its.toArray.size := by
      rw [List.size_toArray]
      exact (List.getElem?_eq_some_iff.mp hu).1
    refine wpAny_pyNext_enum_itemD (Draws.tuple (A := X.A.in1) (I.ok.hd hc) it a hia its.toArray) he ⟨hit, p⟩ hsz hne (fun z => ?_) fun x h' tk hx ho st' hT hs1 hk => ?_
    · rcases List.mem_cons.mp z with z | z
      · exact hne z
      · exact hea (List.mem_singleton.mp z).symm
    have ex : x = u := by
      have z : its.toArray[i]? = some x := hx
      rw [show its.toArray[i]? = its[i]? by simp, hu] at z
      exact (Option.some.inj z).symm
    subst ex
    refine ⟨_, rfl, wpAny_letOwnedTupleGo_enum (s := { s with heap := h', toks := tk + 1 }) ho fun h'' he' sb => ?_⟩
    have hT2 : h''.get? s.heap.objs.size = some { cls := .type "tuple", data := .seq #[.int i tk, x] } := (sb.2 _ (Nat.ne_of_gt hel)).trans hT
    have new : ObjOk X.prog X.w (upd H s.heap.objs.size (.tup [.int (i : Nat), y])) h'' s.heap.objs.size (.tup [.int (i : Nat), y]) :=
      ⟨by show 2 ≤ sizeLine; decide, [.int i tk, x], .cons ⟨_, rfl⟩ (.cons ru .nil), _, hT2, rfl, _, rfl⟩
    have J : Inv X pins σ (upd H s.heap.objs.size (.tup [.int (i : Nat), y])) { s with heap := h'', toks := tk + 1 } :=
      I.turnedNew (ch := [e, it]) (fun b ob hb q => (sb.2 b fun z => hb (by simp [z])).trans (hk b ob (fun z => hb (by simp [z])) (fun z => hb (by simp [z])) q)) hf (Nat.le_refl _) new
    refine ⟨.ref s.heap.objs.size, _, J, rfl, ⟨_, y, rfl, I.hok.fresh (Nat.le_refl _), rfl, fun l hl => by rw [I.tuple_inj hl hq]; exact hy⟩, ⟨⟨x, ?_⟩, st'.1.at fun o q => (sb.2 it (Ne.symm hne)).trans q, hne⟩, fun b hb => ?_⟩
    · rw [show ((i + 1 : Nat) : Int) = (i : Int) + 1 by omega]
      exact he'
    · have hlt : b < s.heap.objs.size := by
        rcases List.mem_cons.mp hb with z | z
        · rw [z]; exact hel
        · rw [List.mem_singleton.mp z]; exact hil
      rw [upd_ne (Nat.ne_of_lt hlt)]
      exact (hf b hb).1
  done := by
    intro X hP hw hK hc i pins s σ H E I hf st hg
    subst hP hw hK
    obtain ⟨⟨old, he⟩, hit, hne⟩ := st
    obtain ⟨ys, hq, hy⟩ := hg
    obtain ⟨its, rv, p, hz⟩ := I.tuple hq
    obtain ⟨f0, f1, f2, f3, f4, f5⟩ := hf it (by simp)
    have hl := rv.length
    have hn : i = its.toArray.size := by rw [List.size_toArray]; omega
    subst hn
    exact wpAny_pyNext_enum_endD (Draws.tuple (A := X.A.in1) (I.ok.hd hc) it a hia its.toArray) he ⟨hit, p⟩ fun h' eb => ⟨rfl, I.turned (t' := s.toks) (fun b o hb q => eb b o hb q) f0 f1 f3 f4 f5⟩
  self := fun A i s Q E st h => by
    obtain ⟨⟨_, he⟩, _⟩ := st
    exact wpAny_pyIter_enum he h
theorem meets_enum_tup (t : Addr) (items : Array Value) : Meets (Builtin.«enumerate.__new__» ⟨[.type "enumerate", .ref t], []⟩) (fun _ R s => s.heap.IsTuple t items ∧
    R (.ok (.ret (.ref (s.heap.objs.size + 1)))) { s with heap := (s.heap.push { cls := .type "tuple_iterator", data := .fields #[.ref t, .int 0 0] }).push { cls := .type "enumerate", data := .fields #[.none, .bool false, .ref s.heap.objs.size, rawInt 0, .none, .none] } }) :=
  .of_wp fun prog w A R s h => by
    obtain ⟨hp, g, d, tk, os⟩ := s
    obtain ⟨ht, h⟩ := h
    have hsub := sub_enumerate
    have e1 : (hp.push { cls := .type "tuple_iterator", data := .fields #[.ref t, .int 0 0] }).objs.size = hp.objs.size + 1 := Heap.size_push ..
    have q1 : ∀ {A' : Around} {E : Value → Shared → Prop} {Q : Value → Shared → Prop}, Q (.ref hp.objs.size) ⟨hp.push { cls := .type "tuple_iterator", data := .fields #[.ref t, .int 0 0] }, g, d, tk, os⟩ →
        wpAny (model prog w) A' (pyIter (.ref t)) Q E ⟨hp, g, d, tk, os⟩ := fun q => wpAny_pyIter_tuple ht q
    wp_walk using q1
    refine wpAny_stack_any fun st => wpAny_pure ?_
    split
    · rename_i c _ _ _ _ _
      cases (c == Value.type "enumerate") <;> (wp_walk using q1; rw [e1]; exact ⟨_, rfl, h⟩)
    · wp_walk using q1
      rw [e1]; exact ⟨_, rfl, h⟩
theorem call_enum_tup {prog : Program} {w : World} {A : Around} {E : Value → Shared → Prop} {s : Shared} {t : Addr} {items : Array Value} {Q : Value → Shared → Prop} (ht : s.heap.IsTuple t items)
    (h : ∀ h', IsEnum h' (s.heap.objs.size + 1) s.heap.objs.size 0 .none → h'.IsTupleIter s.heap.objs.size t 0 → (∀ b o, s.heap.get? b = some o → h'.get? b = some o) → Q (.ref (s.heap.objs.size + 1)) { s with heap := h' }) :
    wpAny (model prog w) A (call (.type "enumerate") [.ref t]) Q E s := by
  refine callType_new F.called_enumerate (by decide) (F.typeCall_enumerate_1 _) (F.newCall_enumerate_1 _) (fun obj => F.args_object_init_2 obj _) F.entry_enumerate_new (meets_enum_tup t items) ⟨ht, ?_⟩
  have he : IsEnum ((s.heap.push { cls := .type "tuple_iterator", data := .fields #[.ref t, .int 0 0] }).push { cls := .type "enumerate", data := .fields #[.none, .bool false, .ref s.heap.objs.size, rawInt 0, .none, .none] }) (s.heap.objs.size + 1) s.heap.objs.size 0 .none := by
    heap_get
  exact ⟨⟨_, he, rfl⟩, h _ he ⟨_, Heap.get?_push_of_some _ (Heap.get?_push_size _ rfl), rfl, rfl⟩ fun b o x => Heap.get?_push_of_some _ (Heap.get?_push_of_some _ x)⟩
def iEnumT (K : PySem.W.Frag) (ta : TA) : TI := fun σ H R => ta σ H fun vs H1 => ∃ a ys, vs = [.ref a] ∧ SqT K H1 a ys ∧ R (IteT K a) H1
theorem pi_enumT {X : Cx} {e : Expr} {ta : TA} {p pos tpos : Pos} {elts : List Expr} {kk : Nat} (hg : Gl X "enumerate") (hm : X.mg "enumerate" = none) (ha : PA X [e] ta) (hs : starEach [e] X.env = [(false, eval e X.env)] := by rfl) :
    PI X (.Tuple elts kk tpos) (.Call (.Name "enumerate" p) [e] [] pos) (iEnumT X.K ta) := by
  refine ⟨fun pins s σ H R I h => Call_ (ld_blt I hg hm boot_enumerate (PyProof.Rows.callWith_type1 (thn (ha.run pos pins s σ H _ I h) fun us s1 z => ?_) hs rfl))⟩
  obtain ⟨vs, H1, I1, r1, a, ys, ex, hq, q⟩ := z
  subst ex
  match us, r1 with
  | [u], .cons r .nil =>
    obtain rfl : u = Value.ref a := r
    obtain ⟨its, rv, pt, hz⟩ := I1.tuple hq
    have la : a < s1.heap.objs.size := by
      obtain ⟨o, ho, _⟩ := id pt
      exact Heap.lt_size ho
    refine call_enum_tup (items := its.toArray) pt fun h' he hit hk => wpAny_pyIter_enum he ?_
    have I2 : Inv X pins σ H1 { s1 with heap := h' } := I1.kept (t' := s1.toks) hk
    refine ⟨s1.heap.objs.size + 1, [s1.heap.objs.size + 1, s1.heap.objs.size], _, _, H1, rfl, I2, turn_enumT a (s1.heap.objs.size + 1) s1.heap.objs.size (Nat.ne_of_lt la) (Nat.ne_of_lt (Nat.lt_succ_of_lt la)), ⟨⟨.none, he⟩, hit, Nat.succ_ne_self _⟩, fun b hb => ?_, q⟩
    have hle : s1.heap.objs.size ≤ b := by
      rcases List.mem_cons.mp hb with z | z
      · rw [z]; exact Nat.le_succ _
      · rw [List.mem_singleton.mp z]; exact Nat.le_refl _
    exact I1.fpOk hle (I1.hok.fresh hle)
theorem walk_enumT {K : PySem.W.Frag} {a : Addr} {ys : List V} : Walk (IteT K a) ys.length (fun H => SqT K H a ys) (YPair (fun i => some (.int (i : Nat))) (fun i => ys[i]?)) := by
  refine ⟨fun i H hi h => ⟨ys, ys[i], h, List.getElem?_eq_getElem hi⟩, fun H h => ⟨ys, h, rfl⟩, fun i H x H' hi h y => ?_⟩
  obtain ⟨T, z, e1, e2, e3, e4⟩ := y
  exact ⟨T, _, z, e1, e2, e3, rfl, e4 ys h⟩
theorem walk_zipT {K : PySem.W.Frag} {a b : Addr} {xs ys : List V} {n : Nat} (hn : n = min xs.length ys.length) : Walk (ItzT K a b) n (fun H => SqT K H a xs ∧ SqT K H b ys) (YPair (fun i => xs[i]?) (fun i => ys[i]?)) := by
  refine ⟨fun i H hi h => ⟨xs, ys, xs[i]'(by omega), ys[i]'(by omega), h.1, h.2, List.getElem?_eq_getElem _, List.getElem?_eq_getElem _⟩, fun H h => ⟨xs, ys, h.1, h.2, by omega⟩, fun i H x H' hi h y => ?_⟩
  obtain ⟨T, z, z2, e1, e2, e3, e4, e5⟩ := y
  exact ⟨T, z, z2, e1, e2, e3, e4 xs h.1, e5 ys h.2⟩
end L2

namespace L2
open PySem PySem.Spec PyProof.Rows
/-! ### a def that a def calls, by its name -/
def Has (P : Program) (w : World) (K : PySem.W.Frag) (mg : Str → Option Value) (base : Heap) (k : Nat) (nm : Str) (ps : List Str) (sp : Sp) : Prop :=
  ∃ (f : Addr) (fd : FuncData), FnOk P w K mg base CX0 k f fd ps sp ∧ mg nm = some (.ref f) ∧ PySem.W.keepIn K (.ref f) = true ∧ Binds K fd ps []
theorem pe_callHas {X : Cx} {k : Nat} {x : Str} {ps : List Str} {sp : Sp} {p pos : Pos} {e : Expr} {es : List Expr} {t : TA} (G : Has X.prog X.w X.K X.mg X.base k x ps sp) (hr : Room k X.A) (hg : Gl X x) (ha : PA X (e :: es) t)
    (hdb : (x == ("__debug__" : Str)) = false := by decide) (he : starEach (e :: es) X.env = (false, eval e X.env) :: starEach es X.env := by rfl) (hpl : (backTo pos (starEach es X.env)).any (·.1) = false := by rfl) :
    PE X (.Call (.Name x p) (e :: es) [] pos) (tCall sp [] E0 t) := by
  obtain ⟨f, fd, F, m, kp, b⟩ := G
  exact pe_call F hr hg m kp b .nil pass0 ha hdb he hpl
/-- where a def of the text stands behind the top -/
def DefAt (K : PySem.W.Frag) (mg : Str → Option Value) (nm : Str) (st : Stmt) (ps : List Str) : Prop :=
  ∃ (f : Addr) (fd : FuncData), Fun K nm nm st f fd ∧ mg nm = some (.ref f) ∧ Binds K fd ps []
theorem DefAt.has {P : Program} {w : World} {K : PySem.W.Frag} {mg : Str → Option Value} {base : Heap} {k : Nat} {nm : Str} {st : Stmt} {N ps : List Str} {sp : Sp} (F : DefAt K mg nm st ps) (S : FnScope N ps (defScope st)) (len : ∀ vs H Q E, sp vs H Q E → vs.length = ps.length)
    (hbody : ∀ (f : Addr) (cdv : Value) (A : Around) (outer : List Env) (s : Shared) (H : Hp) (vs : List V) (Q : VK) (E : XK), Room k (A.deeper (envOfC nm (defScope st) s.heap.objs.size f cdv)) → sp vs H Q E →
      ∃ t, PSs (cxOf CX0 P w K mg base N nm (defScope st) f cdv A outer s H E).nox (defBody st) t ∧ t { nx := fun _ H' => Q .non H', rt := Q } (start N vs) H) : Has P w K mg base (k + 1) nm ps sp := by
  obtain ⟨f, fd, F, m, b⟩ := F
  exact ⟨f, fd, F.ok S len (hbody f), m, F.kp, b⟩
end L2

set_option pp.maxSteps 600
namespace K14
open PySem L2 PySem.Spec PyProof.Rows
/-! ## the ground of the laws over rows and books -/
structure Txt (mg : Str → Option Value) : Prop where
  z_len : mg "len" = none
  z_abs : mg "abs" = none
  z_int : mg "int" = none
  z_max : mg "max" = none
  z_min : mg "min" = none
  z_range : mg "range" = none
  z_enumerate : mg "enumerate" = none
  z_isinstance : mg "isinstance" = none
  z_repr : mg "repr" = none
  z_zip : mg "zip" = none
  z_sum : mg "sum" = none
  z_all : mg "all" = none
  z_tuple : mg "tuple" = none
  z_list : mg "list" = none
  z_bool : mg "bool" = none
  z_sorted : mg "sorted" = none
  z_dict : mg "dict" = none
  z_str : mg "str" = none
  z_set : mg "set" = none
theorem new_at {H : Hp} {p : Addr} {o : HO} (h : H p = none) : Same H (upd H p o) ∧ upd H p o p = some o :=
  ⟨fun b u z => by rw [upd_ne (ne_of_none z h)]; exact z, upd_same⟩
theorem iteSe {b : Bool} {A B : Prop} (h : b = true) (k : A) : if b = true then A else B := by rw [if_pos h]; exact k
theorem iteSf {b : Bool} {A B : Prop} (h : b = false) (k : B) : if b = true then A else B := by rw [h, if_neg (by decide)]; exact k
theorem ne_of {H : Hp} {a b : Addr} {o u : HO} (ha : H a = some o) (hb : H b = some u) (d : o ≠ u) : a ≠ b := fun e => by
  rw [e, hb] at ha
  exact d (Option.some.inj ha).symm
/-! ### what is kept: all but the box at b and the tables of code objects -/
def Kp (b : Addr) (H H' : Hp) : Prop := ∀ a o, a ≠ b → H a = some o → (∀ ps, o ≠ .tbl ps) → H' a = some o
theorem Kp.refl (b : Addr) (H : Hp) : Kp b H H := fun _ _ _ h _ => h
theorem Kp.trans {b : Addr} {H H1 H2 : Hp} (s : Kp b H H1) (t : Kp b H1 H2) : Kp b H H2 := fun a o n h z => t a o n (s a o n h z) z
theorem Kp.of {b : Addr} {H H' : Hp} (s : Same H H') : Kp b H H' := fun a o _ h _ => s a o h
theorem Kp.upd' {b : Addr} {H : Hp} {o : HO} : Kp b H (upd H b o) := fun a u n h _ => by rw [upd_ne n]; exact h
/-! ### values, two deep, with instances of own classes among them (their classes: Z 0, Z 1, ..) -/
inductive Atom where
  | non
  | bl (b : Bool)
  | int (i : Int)
  | str (s : Str)
  | obj (k : Nat)
inductive D1 where
  | a (x : Atom)
  | s (isT : Bool) (xs : List Atom)
inductive D2 where
  | a (x : Atom)
  | s (isT : Bool) (xs : List D1)
def D1.up : D1 → D2
  | .a x => .a x
  | .s t xs => .s t (xs.map .a)
def seqO (isT : Bool) (xs : List V) : HO := if isT then .tup xs else .lst xs
theorem seqO_tbl {t : Bool} {xs : List V} (ps : Array Value) : seqO t xs ≠ .tbl ps := by cases t <;> exact fun z => nomatch z
def Rel0 (Z : Nat → Addr) (b : Addr) (H : Hp) (v : V) : Atom → Prop
  | .non => v = .non
  | .bl c => v = .bl c
  | .int i => v = .int i
  | .str s => v = .str s
  | .obj k => ∃ (a dx : Addr) (fs : List (Str × V)), v = .ref a ∧ a ≠ b ∧ H a = some (.ins (Z k) dx fs)
def Rel1 (Z : Nat → Addr) (b : Addr) (H : Hp) (v : V) : D1 → Prop
  | .a x => Rel0 Z b H v x
  | .s t xs => ∃ p as, v = .ref p ∧ p ≠ b ∧ H p = some (seqO t as) ∧ Paired (Rel0 Z b H) as xs
def Rel2 (Z : Nat → Addr) (b : Addr) (H : Hp) (v : V) : D2 → Prop
  | .a x => Rel0 Z b H v x
  | .s t xs => ∃ p as, v = .ref p ∧ p ≠ b ∧ H p = some (seqO t as) ∧ Paired (Rel1 Z b H) as xs
theorem _root_.PySem.Paired.mapP' {α β : Type} {R S : α → β → Prop} {as : List α} {bs : List β} (h : Paired R as bs) (f : ∀ a b, R a b → S a b) : Paired S as bs := by
  induction h with
  | nil => exact .nil
  | cons r _ ih => exact .cons (f _ _ r) ih
theorem _root_.PySem.Paired.mapR {α β γ : Type} {R : α → β → Prop} {S : α → γ → Prop} {g : β → γ} {as : List α} {bs : List β} (h : Paired R as bs) (f : ∀ a b, R a b → S a (g b)) : Paired S as (bs.map g) := by
  induction h with
  | nil => exact .nil
  | cons r _ ih => exact .cons (f _ _ r) ih
theorem _root_.PySem.Paired.app {α β : Type} {R : α → β → Prop} {as cs : List α} {bs ds : List β} (h : Paired R as bs) (g : Paired R cs ds) : Paired R (as ++ cs) (bs ++ ds) := by
  induction h with
  | nil => exact g
  | cons r _ ih => exact .cons r ih
theorem _root_.PySem.Paired.at' {α β : Type} {R : α → β → Prop} {as : List α} {bs : List β} (h : Paired R as bs) {i : Nat} {a : α} (e : as[i]? = some a) : ∃ b, bs[i]? = some b ∧ R a b := by
  induction h generalizing i with
  | nil => simp at e
  | cons r _ ih =>
    cases i with
    | zero => simp only [List.getElem?_cons_zero, Option.some.injEq] at e; subst e; exact ⟨_, rfl, r⟩
    | succ i => simp only [List.getElem?_cons_succ] at e ⊢; exact ih e
theorem _root_.PySem.Paired.len {α β : Type} {R : α → β → Prop} {as : List α} {bs : List β} (h : Paired R as bs) : as.length = bs.length := by
  induction h with
  | nil => rfl
  | cons _ _ ih => rw [List.length_cons, List.length_cons, ih]
section
variable {Z : Nat → Addr} {b : Addr} {H H' : Hp} {v : V}
theorem Rel0.kp {x : Atom} (s : Kp b H H') (h : Rel0 Z b H v x) : Rel0 Z b H' v x := by
  cases x with
  | obj k => obtain ⟨a, dx, fs, e, n, q⟩ := h; exact ⟨a, dx, fs, e, n, s _ _ n q fun ps z => nomatch z⟩
  | _ => exact h
theorem Rel1.kp {d : D1} (s : Kp b H H') (h : Rel1 Z b H v d) : Rel1 Z b H' v d := by
  cases d with
  | a x => exact Rel0.kp s h
  | s t xs => obtain ⟨p, as, e, n, q, r⟩ := h; exact ⟨p, as, e, n, s _ _ n q seqO_tbl, r.mapP' fun _ _ z => z.kp s⟩
theorem Rel2.kp {d : D2} (s : Kp b H H') (h : Rel2 Z b H v d) : Rel2 Z b H' v d := by
  cases d with
  | a x => exact Rel0.kp s h
  | s t xs => obtain ⟨p, as, e, n, q, r⟩ := h; exact ⟨p, as, e, n, s _ _ n q seqO_tbl, r.mapP' fun _ _ z => z.kp s⟩
theorem Rel1.up {d : D1} (h : Rel1 Z b H v d) : Rel2 Z b H v d.up := by
  cases d with
  | a x => exact h
  | s t xs => obtain ⟨p, as, e, n, q, r⟩ := h; exact ⟨p, as, e, n, q, r.mapR fun _ _ z => z⟩
end
/-! ### values that are written down -/
def G0 (Z : Nat → Addr) (b : Addr) (te : TE) (x : Atom) : Prop := ∀ σ H Q, H b ≠ none → (∀ H' v, Same H H' → Rel0 Z b H' v x → Q v H') → te σ H Q
def GA (Z : Nat → Addr) (b : Addr) (ta : TA) (xs : List Atom) : Prop := ∀ σ H Q, H b ≠ none → (∀ H' vs, Same H H' → Paired (Rel0 Z b H') vs xs → Q vs H') → ta σ H Q
def G1 (Z : Nat → Addr) (b : Addr) (te : TE) (d : D1) : Prop := ∀ σ H Q, H b ≠ none → (∀ H' v, Same H H' → Rel1 Z b H' v d → Q v H') → te σ H Q
def GA1 (Z : Nat → Addr) (b : Addr) (ta : TA) (ds : List D1) : Prop := ∀ σ H Q, H b ≠ none → (∀ H' vs, Same H H' → Paired (Rel1 Z b H') vs ds → Q vs H') → ta σ H Q
def G2 (Z : Nat → Addr) (b : Addr) (te : TE) (d : D2) : Prop := ∀ σ H Q, H b ≠ none → (∀ H' v, Same H H' → Rel2 Z b H' v d → Q v H') → te σ H Q
def GA2 (Z : Nat → Addr) (b : Addr) (ta : TA) (ds : List D2) : Prop := ∀ σ H Q, H b ≠ none → (∀ H' vs, Same H H' → Paired (Rel2 Z b H') vs ds → Q vs H') → ta σ H Q
section
variable {Z : Nat → Addr} {b : Addr}
theorem some_keep {H H' : Hp} (s : Same H H') (h : H b ≠ none) : H' b ≠ none := fun e => by
  cases q : H b with
  | none => exact h q
  | some o => rw [s _ _ q] at e; cases e
theorem new_ne {H : Hp} {p : Addr} (h : H b ≠ none) (hp : H p = none) : p ≠ b := fun e => h (e ▸ hp)
theorem g_int (i : Int) : G0 Z b (tC (.int i)) (.int i) := fun _ H _ _ q => q H _ (Same.refl H) rfl
theorem g_bl (c : Bool) : G0 Z b (tC (.bl c)) (.bl c) := fun _ H _ _ q => q H _ (Same.refl H) rfl
theorem g_non : G0 Z b (tC .non) .non := fun _ H _ _ q => q H _ (Same.refl H) rfl
theorem g_str (s : Str) : G0 Z b (tC (.str s)) (.str s) := fun _ H _ _ q => q H _ (Same.refl H) rfl
theorem g_neg (i : Int) : G0 Z b (tUn (rU fun i => .int (-i)) (tC (.int i))) (.int (-i)) := fun _ H _ _ q => ⟨i, rfl, q H _ (Same.refl H) rfl⟩
theorem ga_nil : GA Z b tNil [] := fun _ H _ _ q => q H [] (Same.refl H) .nil
theorem ga_cons {te : TE} {ta : TA} {x : Atom} {xs : List Atom} (h : G0 Z b te x) (t : GA Z b ta xs) : GA Z b (tCons te ta) (x :: xs) := fun σ H Q n q => h σ H _ n fun H1 v s1 r1 => t σ H1 _ (some_keep s1 n) fun H2 vs s2 r2 => q H2 (v :: vs) (s1.trans s2) (.cons (r1.kp (Kp.of s2)) r2)
theorem g1_a {te : TE} {x : Atom} (h : G0 Z b te x) : G1 Z b te (.a x) := fun σ H Q n q => h σ H _ n fun H' v s r => q H' v s r
theorem le_line {n : Nat} (h : n ≤ 1000) : n ≤ sizeLine := Nat.le_trans h (by decide)
theorem g1_tup {ta : TA} {xs : List Atom} (h : GA Z b ta xs) (l : xs.length ≤ 1000) : G1 Z b (tTup ta) (.s true xs) := fun σ H Q n q => h σ H _ n fun H1 vs s1 r1 => ⟨by rw [r1.len]; exact le_line l, fun p hp => q _ _ (s1.trans (new_at hp).1) ⟨p, vs, rfl, new_ne (some_keep s1 n) hp, (new_at hp).2, r1.mapP' fun _ _ z => z.kp (Kp.of (new_at hp).1)⟩⟩
theorem g1_lst {ta : TA} {xs : List Atom} (h : GA Z b ta xs) (l : xs.length ≤ 1000) : G1 Z b (tLst ta) (.s false xs) := fun σ H Q n q => h σ H _ n fun H1 vs s1 r1 => ⟨by rw [r1.len]; exact le_line l, fun p hp => q _ _ (s1.trans (new_at hp).1) ⟨p, vs, rfl, new_ne (some_keep s1 n) hp, (new_at hp).2, r1.mapP' fun _ _ z => z.kp (Kp.of (new_at hp).1)⟩⟩
theorem ga1_nil : GA1 Z b tNil [] := fun _ H _ _ q => q H [] (Same.refl H) .nil
theorem ga1_cons {te : TE} {ta : TA} {d : D1} {ds : List D1} (h : G1 Z b te d) (t : GA1 Z b ta ds) : GA1 Z b (tCons te ta) (d :: ds) := fun σ H Q n q => h σ H _ n fun H1 v s1 r1 => t σ H1 _ (some_keep s1 n) fun H2 vs s2 r2 => q H2 (v :: vs) (s1.trans s2) (.cons (r1.kp (Kp.of s2)) r2)
theorem g2_a {te : TE} {x : Atom} (h : G0 Z b te x) : G2 Z b te (.a x) := fun σ H Q n q => h σ H _ n fun H' v s r => q H' v s r
theorem g2_tup {ta : TA} {ds : List D1} (h : GA1 Z b ta ds) (l : ds.length ≤ 1000) : G2 Z b (tTup ta) (.s true ds) := fun σ H Q n q => h σ H _ n fun H1 vs s1 r1 => ⟨by rw [r1.len]; exact le_line l, fun p hp => q _ _ (s1.trans (new_at hp).1) ⟨p, vs, rfl, new_ne (some_keep s1 n) hp, (new_at hp).2, r1.mapP' fun _ _ z => z.kp (Kp.of (new_at hp).1)⟩⟩
theorem g2_lst {ta : TA} {ds : List D1} (h : GA1 Z b ta ds) (l : ds.length ≤ 1000) : G2 Z b (tLst ta) (.s false ds) := fun σ H Q n q => h σ H _ n fun H1 vs s1 r1 => ⟨by rw [r1.len]; exact le_line l, fun p hp => q _ _ (s1.trans (new_at hp).1) ⟨p, vs, rfl, new_ne (some_keep s1 n) hp, (new_at hp).2, r1.mapP' fun _ _ z => z.kp (Kp.of (new_at hp).1)⟩⟩
theorem ga2_nil : GA2 Z b tNil [] := fun _ H _ _ q => q H [] (Same.refl H) .nil
theorem ga2_cons {te : TE} {ta : TA} {d : D2} {ds : List D2} (h : G2 Z b te d) (t : GA2 Z b ta ds) : GA2 Z b (tCons te ta) (d :: ds) := fun σ H Q n q => h σ H _ n fun H1 v s1 r1 => t σ H1 _ (some_keep s1 n) fun H2 vs s2 r2 => q H2 (v :: vs) (s1.trans s2) (.cons (r1.kp (Kp.of s2)) r2)
theorem l_lst1 {ta : TA} {ds : List D1} (h : GA1 Z b ta ds) (l : ds.length ≤ 1000) {σ : L2.St} {H : Hp} {Q : VK} (n : H b ≠ none) (q : ∀ (H' : Hp) (p : Addr) (as : List V), Same H H' → p ≠ b → H' p = some (.lst as) → Paired (Rel1 Z b H') as ds → Q (.ref p) H') : tLst ta σ H Q := h σ H _ n fun H1 vs s1 r1 => ⟨by rw [r1.len]; exact le_line l, fun p hp => q _ p vs (s1.trans (new_at hp).1) (new_ne (some_keep s1 n) hp) (new_at hp).2 (r1.mapP' fun _ _ z => z.kp (Kp.of (new_at hp).1))⟩
theorem l_lst2 {ta : TA} {ds : List D2} (h : GA2 Z b ta ds) (l : ds.length ≤ 1000) {σ : L2.St} {H : Hp} {Q : VK} (n : H b ≠ none) (q : ∀ (H' : Hp) (p : Addr) (as : List V), Same H H' → p ≠ b → H' p = some (.lst as) → Paired (Rel2 Z b H') as ds → Q (.ref p) H') : tLst ta σ H Q := h σ H _ n fun H1 vs s1 r1 => ⟨by rw [r1.len]; exact le_line l, fun p hp => q _ p vs (s1.trans (new_at hp).1) (new_ne (some_keep s1 n) hp) (new_at hp).2 (r1.mapP' fun _ _ z => z.kp (Kp.of (new_at hp).1))⟩
end
end K14

namespace K14
open PySem L2 PySem.Spec PyProof.Rows
def top (i : Nat) : Stmt := PySem.Challenge.pw_sumlives_k14_rows_refused.main.body.getD i (.Pass ⟨0, 0, 0, 0⟩)
theorem two_at (c : Int) (b : Prop) [Decidable b] : ∃ v, atI [V.int 0, V.int c] (if decide b = true then 1 else 0) = some (V.int v) := by
  by_cases h : b
  · exact ⟨c, by rw [decide_eq_true h]; rfl⟩
  · exact ⟨0, by rw [decide_eq_false h]; rfl⟩
/-- a box: three ints -/
def Box (H : Hp) (b : Addr) : Prop := ∃ x y z : Int, H b = some (.lst [.int x, .int y, .int z])
section
variable {P : Program} {w : World} {K : PySem.W.Frag} {mg : Str → Option Value} {base : Heap}
abbrev s_law_take : Stmt := top 50
abbrev n_law_take : List Str := ["_law_box_here", "_law_many", "_law_digit", "_law_raw", "_law_wide"]
theorem sc_law_take : FnScope n_law_take ["_law_box_here", "_law_many"] (defScope s_law_take) := ⟨rfl, rfl, rfl, by decide +kernel, rfl, by decide +kernel, by decide +kernel⟩
def spTake : Sp := fun vs H Q _ => ∃ (b : Addr) (n : Int), vs = [.ref b, .int n] ∧ Box H b ∧ 0 < n ∧ n < 10000000000 ∧ ∀ (d x y z : Int), 0 ≤ d → d < n → Q (.int d) (upd H b (.lst [.int x, .int y, .int z]))
theorem ok_take (T : Txt mg) (F : DefAt K mg "_law_take" s_law_take ["_law_box_here", "_law_many"]) : Has P w K mg base 1 "_law_take" ["_law_box_here", "_law_many"] spTake := by
  refine F.has sc_law_take (fun vs H Q E h => ?_) (fun f cdv A outer s H vs Q E hr h => ?_)
  · obtain ⟨b, n, rfl, _⟩ := h
    rfl
  · obtain ⟨b, n, rfl, ⟨x, y, z, hb⟩, n0, n1, k⟩ := h
    refine ⟨_, (pss_cons (ps_if (pt_cmpR op_gt (pe_ix ix_list (pv 0) pe_int (fun _ _ => rfl)) pe_int (nomark _)) (pss_cons (ps_set (i := 2) sc_law_take.nd rfl (Or.inl rfl) (pe_op op_mod (pe_callTy call_int1 (by rfl) T.z_int (by decide +kernel) (pa_cons (pe_ix ix_list (pv 0) pe_int (fun _ _ => rfl)) pa_nil)) (pv 1)))
      (pss_cons (ps_asg (pe_op op_fdivW (pe_ix ix_list (pv 0) pe_int (fun _ _ => rfl)) (pv 1)) (pg_sub (pv 0) pe_int set_list))
      (pss_one (ps_ret (pv 2))))) pss_nil)
      (pss_cons (ps_asg (pe_op op_add (pe_ix ix_list (pv 0) pe_int (fun _ _ => rfl)) pe_int) (pg_sub (pv 0) pe_int set_list))
      (pss_cons (ps_set (i := 3) sc_law_take.nd rfl (Or.inl rfl) (pe_op op_mod (pe_callTy call_int1 (by rfl) T.z_int (by decide +kernel) (pa_cons (pe_op op_mul (pe_op op_add (pe_ix ix_list (pv 0) pe_int (fun _ _ => rfl)) (pe_op op_mul pe_int (pe_ix ix_list (pv 0) pe_int (fun _ _ => rfl)))) pe_int) pa_nil)) pe_int))
      (pss_cons (ps_asg (pe_op op_add (pe_op op_mod (pe_callTy call_int1 (by rfl) T.z_int (by decide +kernel) (pa_cons (pe_op op_add (pe_op op_mul (pv 3) pe_int) pe_int) pa_nil)) pe_int) pe_int) (pg_sub (pv 0) pe_int set_list))
      (pss_cons (ps_if (pt_cmpR op_lt (pv 1) (pe_op op_pow pe_int pe_int) (nomark _)) (pss_one (ps_ret (pe_op op_mod (pe_callTy call_int1 (by rfl) T.z_int (by decide +kernel) (pa_cons (pe_op op_fdiv (pe_op op_add (pe_op op_mul (pv 3) pe_int) (pe_ix ix_list (pv 0) pe_int (fun _ _ => rfl))) pe_int) pa_nil)) (pv 1)))) pss_nil)
      (pss_cons (ps_set (i := 4) sc_law_take.nd rfl (Or.inl rfl) (pe_op op_mul (pe_op op_add (pe_op op_mul (pv 3) pe_int) (pe_ix ix_list (pv 0) pe_int (fun _ _ => rfl))) (pe_op op_pow pe_int pe_int)))
      (pss_one (ps_ret (pe_op op_mod (pe_callTy call_int1 (by rfl) T.z_int (by decide +kernel) (pa_cons (pe_op op_add (pe_op op_add (pv 4) (pe_op op_mul (pe_op op_pow (pe_ix ix_list (pv 0) pe_int (fun _ _ => rfl)) pe_int) pe_int)) (pv 3)) pa_nil)) (pv 1)))))))))), ?_⟩
    -- if box[0] > 0: the digit; else the next number
    refine ⟨_, rfl, b, _, _, _, rfl, rfl, SqL.of hb, rfl, _, _, rfl, rfl, _, rfl, ite2 (fun _ => ?_) (fun _ => ?_)⟩
    · refine ⟨_, rfl, b, _, _, _, rfl, rfl, SqL.of hb, rfl, .inl ⟨_, rfl, _, rfl, _, _, rfl, rfl, n0, ?_⟩⟩
      refine ⟨_, rfl, b, _, _, _, rfl, rfl, SqL.of hb, rfl, _, rfl, _, _, rfl, rfl, wide_div n0 (show n.natAbs < 2 ^ 40 by omega) (by decide) (by decide), _, rfl, b, _, _, _, rfl, rfl, hb, rfl, _, rfl, ?_⟩
      exact k _ _ _ _ (Int.emod_nonneg _ (by omega)) (Int.emod_lt_of_pos _ n0)
    · refine ⟨_, rfl, b, _, _, _, rfl, rfl, SqL.of hb, rfl, _, _, rfl, rfl, _, rfl, b, _, _, _, rfl, rfl, hb, rfl, ?_⟩
      have h1 : upd H b (.lst [.int x, .int y, .int (z + 1)]) b = some (.lst [.int x, .int y, .int (z + 1)]) := upd_same
      refine ⟨_, rfl, b, _, _, _, rfl, rfl, SqL.of h1, rfl, _, rfl, b, _, _, _, rfl, rfl, SqL.of h1, rfl, _, _, rfl, rfl, .inl ⟨by decide, by decide⟩, _, _, rfl, rfl, _, _, rfl, rfl, .inr ⟨by decide, by decide⟩, .inl ⟨_, rfl, _, _, rfl, rfl, (by show (0 : Int) < 2147483647; decide), ?_⟩⟩
      generalize (y + 104729 * (z + 1)) * 69623 % 2147483647 = r
      refine ⟨_, rfl, _, _, rfl, rfl, .inr ⟨by decide, by decide⟩, _, _, rfl, rfl, .inl ⟨_, rfl, _, _, rfl, rfl, (by show (0 : Int) < 2147483629; decide), _, _, rfl, rfl, _, rfl, b, _, _, _, rfl, rfl, h1, rfl, ?_⟩⟩
      rw [upd_upd]
      refine ⟨_, rfl, _, _, rfl, rfl, ⟨by decide, by decide, by decide⟩, _, _, rfl, rfl, _, rfl, ?_⟩
      have e : decide (n < 2 ^ (40 : Int).toNat) = true := decide_eq_true (by
        have q : (2 : Int) ^ (40 : Int).toNat = 1099511627776 := by decide +kernel
        omega)
      rw [e]
      refine iteT ⟨_, rfl, _, _, rfl, rfl, .inr ⟨by decide, by decide⟩, _, rfl, b, _, _, _, rfl, rfl, SqL.of upd_same, rfl, _, _, rfl, rfl, _, _, rfl, rfl, ⟨by decide, by decide⟩, .inl ⟨_, rfl, _, rfl, _, _, rfl, rfl, n0, ?_⟩⟩
      exact k _ _ _ _ (Int.emod_nonneg _ (by omega)) (Int.emod_lt_of_pos _ n0)
abbrev s_law_box : Stmt := top 49
abbrev n_law_box : List Str := ["_law_script", "_law_k", "_law_own", "_law_cell", "_law_seed"]
theorem sc_law_box : FnScope n_law_box ["_law_script", "_law_k", "_law_own"] (defScope s_law_box) := ⟨rfl, rfl, rfl, by decide +kernel, rfl, by decide +kernel, by decide +kernel⟩
def spBox (K : PySem.W.Frag) : Sp := fun vs H Q _ => ∃ (a : Addr) (ns : List Int) (k o : Int), vs = [.ref a, .int k, .int o] ∧ SqL K H a (ns.map V.int) ∧ 0 ≤ k ∧ k < 1000 ∧ 0 ≤ o ∧ o < 1000 ∧ ∀ (H' : Hp) (p : Addr), Same H H' → H p = none → Box H' p → Q (.ref p) H'
theorem ok_box (T : Txt mg) (F : DefAt K mg "_law_box" s_law_box ["_law_script", "_law_k", "_law_own"]) : Has P w K mg base 1 "_law_box" ["_law_script", "_law_k", "_law_own"] (spBox K) := by
  refine F.has sc_law_box (fun vs H Q E h => ?_) (fun f cdv A outer s H vs Q E hr h => ?_)
  · obtain ⟨a, ns, k, o, rfl, _⟩ := h
    rfl
  · obtain ⟨a, ns, i, o, rfl, hS, i0, i1, o0, o1, k⟩ := h
    refine ⟨_, (pss_cons (ps_set (i := 3) sc_law_box.nd rfl (Or.inl rfl) (pe_op op_add (pe_op op_add (pe_op op_mul pe_int (pv 1)) (pe_op op_mul pe_int (pv 2))) pe_int))
      (pss_cons (ps_if (pt_cmpR op_lt (pv 1) (pe_callB call_len (by rfl) T.z_len (by decide +kernel) (pa_cons (pv 0) pa_nil)) (nomark _)) (pss_one (ps_set (i := 3) sc_law_box.nd rfl (Or.inl rfl) (pe_callB call_abs (by rfl) T.z_abs (by decide +kernel) (pa_cons (pe_ix ix_list (pv 0) (pv 1) (fun _ _ => rfl)) pa_nil)))) (pss_one (ps_if (pt_cmpR op_gt (pe_callB call_len (by rfl) T.z_len (by decide +kernel) (pa_cons (pv 0) pa_nil)) pe_int (nomark _)) (pss_one (ps_set (i := 3) sc_law_box.nd rfl (Or.inl rfl) (pe_op op_add (pv 3) (pe_op op_mul (pe_op op_mod (pe_callTy call_int1 (by rfl) T.z_int (by decide +kernel) (pa_cons (pe_callB call_abs (by rfl) T.z_abs (by decide +kernel) (pa_cons (pe_ix ix_list (pv 0) (pe_op op_mod (pe_callTy call_int1 (by rfl) T.z_int (by decide +kernel) (pa_cons (pv 1) pa_nil)) (pe_callB call_len (by rfl) T.z_len (by decide +kernel) (pa_cons (pv 0) pa_nil))) (fun _ _ => rfl)) pa_nil)) pa_nil)) pe_int) pe_int)))) pss_nil)))
      (pss_cons (ps_set (i := 4) sc_law_box.nd rfl (Or.inl rfl) (pe_op op_add (pe_op op_mod (pe_callTy call_int1 (by rfl) T.z_int (by decide +kernel) (pa_cons (pe_op op_add (pe_op op_mul (pe_op op_mod (pe_callTy call_int1 (by rfl) T.z_int (by decide +kernel) (pa_cons (pv 3) pa_nil)) pe_int) pe_int) (pe_op op_mul pe_int (pe_op op_add (pv 1) (pe_op op_mul pe_int (pv 2))))) pa_nil)) pe_int) pe_int))
      (pss_one (ps_ret (pe_lst (pa_cons (pe_ix ix_list (pe_lst (pa_cons pe_int (pa_cons (pv 3) pa_nil))) (pe_callTy call_int1 (by rfl) T.z_int (by decide +kernel) (pa_cons (pe_cmpR op_ge (pv 3) (pe_op op_pow pe_int pe_int) (nomark _)) pa_nil)) (fun _ _ => rfl)) (pa_cons (pv 4) (pa_cons pe_int pa_nil))))))))), ?_⟩
    refine ⟨_, rfl, _, _, rfl, rfl, .inl ⟨by decide, by decide⟩, _, rfl, _, _, rfl, rfl, .inl ⟨by decide, by decide⟩, _, _, rfl, rfl, _, _, rfl, rfl, ?_⟩
    have hlen : (ns.map V.int).length = ns.length := List.length_map ..
    -- the cell by three ways; what follows is the same
    refine ⟨_, rfl, _, rfl, _, _, rfl, .inl ⟨_, hS, rfl⟩, _, _, rfl, rfl, _, rfl, ite2 (fun h1 => ?_) (fun h1 => ?_)⟩
    · have h1' : i < ((ns.map V.int).length : Int) := of_decide_eq_true h1
      obtain ⟨j, rfl⟩ : ∃ j : Nat, i = (j : Int) := ⟨i.toNat, by omega⟩
      have hj : j < ns.length := by omega
      have ej : (ns.map V.int)[j]? = some (V.int ns[j]) := by rw [List.getElem?_map, List.getElem?_eq_getElem hj]; rfl
      refine ⟨_, rfl, _, rfl, a, _, _, _, rfl, rfl, hS, atI_nat ej, _, rfl, ?_⟩
      refine ⟨_, rfl, .inl ⟨_, rfl, _, _, rfl, rfl, (by show (0 : Int) < 2147483629; decide), _, _, rfl, rfl, .inr ⟨by decide, by decide⟩, _, rfl, _, rfl, _, _, rfl, rfl, .inl ⟨by decide, by decide⟩, _, _, rfl, rfl, _, _, rfl, rfl, .inl ⟨by decide, by decide⟩, _, _, rfl, rfl, .inl ⟨_, rfl, _, _, rfl, rfl, (by show (0 : Int) < 2147483629; decide), _, _, rfl, rfl, ?_⟩⟩⟩
      refine ⟨_, rfl, (by decide : 2 ≤ sizeLine), fun q hq => ⟨_, rfl, _, _, rfl, rfl, ⟨by decide, by decide, by decide⟩, _, _, rfl, rfl, .inr ⟨_, rfl, ?_⟩⟩⟩
      refine ⟨q, _, _, _, rfl, rfl, SqL.of upd_same, (two_at _ _).choose_spec, _, rfl, (by decide : 3 ≤ sizeLine), fun p hp => ?_⟩
      have npq : p ≠ q := fun z => by rw [z, upd_same] at hp; cases hp
      have hp0 : H p = none := by rw [upd_ne npq] at hp; exact hp
      refine k _ p (fun b o z => ?_) hp0 ⟨_, _, _, upd_same⟩
      rw [upd_ne (ne_of_none z hp0), upd_ne (ne_of_none z hq)]
      exact z
    · refine ⟨_, rfl, _, _, rfl, .inl ⟨_, hS, rfl⟩, _, _, rfl, rfl, _, rfl, ite2 (fun h2 => ?_) (fun h2 => ?_)⟩
      · have h2' : (0 : Int) < ((ns.map V.int).length : Int) := of_decide_eq_true h2
        have m0 := Int.emod_nonneg i (b := ((ns.map V.int).length : Int)) (by omega)
        have m1 := Int.emod_lt_of_pos i h2'
        obtain ⟨j, ej0⟩ : ∃ j : Nat, i % ((ns.map V.int).length : Int) = (j : Int) := ⟨(i % ((ns.map V.int).length : Int)).toNat, by omega⟩
        have hj : j < ns.length := by omega
        have ej : (ns.map V.int)[j]? = some (V.int ns[j]) := by rw [List.getElem?_map, List.getElem?_eq_getElem hj]; rfl
        refine ⟨_, rfl, _, rfl, _, rfl, .inl ⟨_, rfl, _, rfl, _, _, rfl, .inl ⟨_, hS, rfl⟩, _, _, rfl, rfl, h2', a, _, _, _, rfl, rfl, hS, (by rw [ej0]; exact atI_nat ej), _, rfl, .inl ⟨_, rfl, _, _, rfl, rfl, (by show (0 : Int) < 2147483629; decide), _, _, rfl, rfl, .inr ⟨by decide, by decide⟩, _, _, rfl, rfl, ?_⟩⟩⟩
        refine ⟨_, rfl, .inl ⟨_, rfl, _, _, rfl, rfl, (by show (0 : Int) < 2147483629; decide), _, _, rfl, rfl, .inr ⟨by decide, by decide⟩, _, rfl, _, rfl, _, _, rfl, rfl, .inl ⟨by decide, by decide⟩, _, _, rfl, rfl, _, _, rfl, rfl, .inl ⟨by decide, by decide⟩, _, _, rfl, rfl, .inl ⟨_, rfl, _, _, rfl, rfl, (by show (0 : Int) < 2147483629; decide), _, _, rfl, rfl, ?_⟩⟩⟩
        refine ⟨_, rfl, (by decide : 2 ≤ sizeLine), fun q hq => ⟨_, rfl, _, _, rfl, rfl, ⟨by decide, by decide, by decide⟩, _, _, rfl, rfl, .inr ⟨_, rfl, ?_⟩⟩⟩
        refine ⟨q, _, _, _, rfl, rfl, SqL.of upd_same, (two_at _ _).choose_spec, _, rfl, (by decide : 3 ≤ sizeLine), fun p hp => ?_⟩
        have npq : p ≠ q := fun z => by rw [z, upd_same] at hp; cases hp
        have hp0 : H p = none := by rw [upd_ne npq] at hp; exact hp
        refine k _ p (fun b o z => ?_) hp0 ⟨_, _, _, upd_same⟩
        rw [upd_ne (ne_of_none z hp0), upd_ne (ne_of_none z hq)]
        exact z
      · show tSeq _ _ _ _ _
        refine ⟨_, rfl, .inl ⟨_, rfl, _, _, rfl, rfl, (by show (0 : Int) < 2147483629; decide), _, _, rfl, rfl, .inr ⟨by decide, by decide⟩, _, rfl, _, rfl, _, _, rfl, rfl, .inl ⟨by decide, by decide⟩, _, _, rfl, rfl, _, _, rfl, rfl, .inl ⟨by decide, by decide⟩, _, _, rfl, rfl, .inl ⟨_, rfl, _, _, rfl, rfl, (by show (0 : Int) < 2147483629; decide), _, _, rfl, rfl, ?_⟩⟩⟩
        refine ⟨_, rfl, (by decide : 2 ≤ sizeLine), fun q hq => ⟨_, rfl, _, _, rfl, rfl, ⟨by decide, by decide, by decide⟩, _, _, rfl, rfl, .inr ⟨_, rfl, ?_⟩⟩⟩
        refine ⟨q, _, _, _, rfl, rfl, SqL.of upd_same, (two_at _ _).choose_spec, _, rfl, (by decide : 3 ≤ sizeLine), fun p hp => ?_⟩
        have npq : p ≠ q := fun z => by rw [z, upd_same] at hp; cases hp
        have hp0 : H p = none := by rw [upd_ne npq] at hp; exact hp
        refine k _ p (fun b o z => ?_) hp0 ⟨_, _, _, upd_same⟩
        rw [upd_ne (ne_of_none z hp0), upd_ne (ne_of_none z hq)]
        exact z
/-- but for the box all stands as before -/
def But (b : Addr) (H H' : Hp) : Prop := ∀ a o, a ≠ b → H a = some o → H' a = some o
theorem But.trans {b : Addr} {H H1 H2 : Hp} (s : But b H H1) (t : But b H1 H2) : But b H H2 := fun a o n z => t a o n (s a o n z)
theorem But.upd' {b : Addr} {H : Hp} {o : HO} : But b H (upd H b o) := fun a u n z => by rw [upd_ne n]; exact z
theorem Same.but {b : Addr} {H H' : Hp} (s : Same H H') : But b H H' := fun a o _ z => s a o z
theorem Box.keep {b : Addr} {H H' : Hp} (s : Same H H') (h : Box H b) : Box H' b := by
  obtain ⟨x, y, z, h⟩ := h
  exact ⟨x, y, z, s _ _ h⟩
theorem Box.upd' {b : Addr} {H : Hp} {x y z : Int} : Box (upd H b (.lst [.int x, .int y, .int z])) b := ⟨x, y, z, upd_same⟩
end
end K14

namespace PySem.W
open PySem PySem.Spec PySem.Calls PyProof.Rows
/-- what isinstance asks of the class D of an own error -/
structure ErrIs (K : Frag) (D : Addr) : Prop where
  ga : findIn K (.ref D) "__getattribute__" = some (some (.builtin "BaseException.__getattribute__"))
  gg : findIn K (.ref D) "__getattr__" = some none
  sb : subIn K (.ref D) (.type "BaseException") = some true
  hd : hasDictIn K D = true
  cl : findIn K (.ref D) "__class__" = some (some (.builtin "object.__class__"))
  gt : specialIn K (.builtin "object.__class__") "__get__" = some (some (.builtin "getset_descriptor.__get__"))
  tk : takesIn K (.builtin "object.__class__") = some true
  mo : mroIn K D (.type "object") = some true
theorem ErrIs.is {K : Frag} {D : Addr} (Z : ErrIs K D) : (clsIn K D).isSome = true := by
  obtain ⟨cd, e, _⟩ := any_some Z.hd
  rw [e]; rfl
theorem ErrIs.found {K : Frag} {D : Addr} (Z : ErrIs K D) (od : Option Obj) : findObj K D od "__class__" = some (.bind (.builtin "getset_descriptor.__get__") (.builtin "object.__class__")) := by
  cases od with
  | none => exact findObj_dataN Z.is Z.cl Z.gt Z.tk
  | some o => exact findObj_data Z.is Z.cl Z.gt Z.tk
theorem ErrIs.asked {prog : Program} {w : World} {G : Around} {Ex : Value → Shared → Prop} {s : Shared} {K : Frag} {x D : Addr} {ox : Obj} {od : Option Obj} {Q : Option Value → Shared → Prop} (Z : ErrIs K D) (KI : K.In s.heap) (I : InstAt s.heap x ox D od)
    (h : Q (some (.ref D)) { s with toks := s.toks + 1 }) : wpAny (model prog w) G (getAttr? (.ref x) "__class__") Q Ex s := by
  obtain ⟨hp, g, d, t, os⟩ := s
  have a0 := I.type (M := model prog w)
  have a1 := looks_findIn (M := model prog w) KI Z.ga
  have a2 := looks_findIn (M := model prog w) KI Z.gg
  have a3 := looks_find (M := model prog w) KI I (Z.found od)
  have a4 : Looks (model prog w) hp (isInstance (.ref x) (.type "BaseException")) true := a0.andThen (looks_subIn KI Z.sb)
  have n1 : (Value.builtin "BaseException.__getattribute__" == Value.builtin "object.__getattribute__") = false := by decide +kernel
  have n2 : (onTheHeap (Value.ref D) && Value.builtin "BaseException.__getattribute__" == Value.builtin "object.__getattribute__") = false := by rw [n1, Bool.and_false]
  have n3 : (false && onTheHeap (Value.builtin "BaseException.__getattribute__")) = false := rfl
  unfold getAttr? getAttrBy? getAttrBy
  refine wpAny_bind (wpAny_mkText (wpAny_bind (wpAny_attempt (wpAny_holding (wpAny_bind (a0.at (wpAny_bind (a1.at ?_))))))))
  show wpAny _ _ (if (onTheHeap (Value.ref D) && Value.builtin "BaseException.__getattribute__" == Value.builtin "object.__getattribute__") = true then _ else _) _ _ _
  rw [n2, if_neg Bool.false_ne_true]; unfold getAttrByItsOwn hookBefore; refine wpAny_bind ?_
  rw [if_pos (show onTheHeap (Value.ref D) = true from rfl)]; refine a2.at (wpAny_bind (wpAny_attempt (wpAny_holding ?_)))
  unfold callGetattribute; rw [n3, if_neg Bool.false_ne_true]; unfold boundAndCalled; rw [PySem.F.excAttr_ValueError.ga.bind (.ref x)]
  refine wpAny_bind (wpAny_pure ?_); show wpAny _ _ (call (.builtin "BaseException.__getattribute__") [.ref x, .str "__class__" t]) _ _ _
  refine wpAny_call (codeAny_call_builtin PySem.F.excAttr_ValueError.ga.plain PySem.F.entry_bexc_ga (@check_slot (model prog w) _ _ ⟨hp, g, d, t + 1, os⟩ "BaseException.__getattribute__" "BaseException" "__getattribute__" (.ref x) [.str "__class__" t] [] _ (by decide +kernel) (by decide +kernel) a4 (PySem.F.args_bexc_ga (.ref x) (.str "__class__" t)) ?_))
  unfold Builtin.«object.__getattribute__»; refine wpAny_bind (wpAny_of_eq (a := ((Value.ref x : Value), [Value.str "__class__" t])) (by first | rfl | (simp only [slotArgs]; rfl)) (wpAny_bind (wpAny_pure (wpAny_bind (a0.at (wpAny_bind (a3.at ?_)))))))
  show wpAny _ _ (holding [Value.builtin "object.__class__"] (call (.builtin "getset_descriptor.__get__") [.builtin "object.__class__", .ref x, .ref D]) >>= ret) _ _ _
  refine wpAny_bind (wpAny_holding (wpAny_call (class_get (s := ⟨hp, g, d, t + 1, os⟩) (ox := ox) (od := od) KI I Z.mo (wpAny_pure ?_))))
  show wpAny _ _ (handedOut (.ref D)) _ _ _; rw [handedOut_of (v := .ref D) rfl]
  first | exact wpAny_pure (wpAny_pure h) | exact wpAny_pure h | exact wpAny_pure (wpAny_bind (wpAny_pure (wpAny_pure h)))
theorem ErrIs.kit {K : Frag} {D x : Addr} {ox : Obj} {od : Option Obj} (Z : ErrIs K D) : KitX K (.ref x) (.ref D) (fun h => InstAt h x ox D od) := by
  obtain ⟨cd, hc, _⟩ := any_some Z.hd
  have at_ : ∃ c' d' k' sl', K.lookup D = some ⟨c', d', .cls k', sl'⟩ := by
    unfold clsIn at hc
    split at hc
    · exact ⟨_, _, _, _, by assumption⟩
    · cases hc
  obtain ⟨c', d', k', sl', ho⟩ := at_
  refine ⟨fun _ _ _ I => I.type, fun _ _ KI _ => ?_, fun h tp dd its n sl KI ht => Bool.eq_false_iff.mpr fun q => ?_, fun KI I k => Z.asked KI I k⟩
  · intro A' Q' E' s' k q
    unfold isType loadHead; exact wpAny_bind (wpAny_loadPart (k _ _ (KI _ _ ho)) (wpAny_pure q))
  · have e : D = tp := Value.ref.inj (beq_iff_eq.mp q)
    rw [← e] at ht
    cases (KI _ _ ho).symm.trans ht
end PySem.W

set_option pp.maxSteps 600
namespace L2
open PySem PySem.Spec PyProof.Rows
/-! ### isinstance of the caught error, where it has fields -/
theorem pin_inst {X : Cx} {a D dd : Addr} {oe : Obj} {pn pins : List (Addr × Obj)} {σ : St} {H : Hp} {s : Shared} {fs : List (Str × V)} (hz : Zc (.ref D) (some dd) oe) (hf : ∃ vs, oe.data = .fields vs) (I : Inv (X.suite a ((a, oe) :: pn)) pins σ H s) (ed : H dd = some (.xd fs)) :
    ∃ od, PySem.W.InstAt s.heap a oe D (some od) := by
  obtain ⟨ha, _⟩ := I.pin (a, oe) (List.mem_append_left _ List.mem_cons_self)
  obtain ⟨vs, hd⟩ := hf
  have hx : ObjOk X.prog X.w H s.heap dd (.xd fs) := I.hok dd _ ed
  obtain ⟨mA, hns, hr⟩ := hx
  obtain ⟨od, ho, hl⟩ := lookIn_ns hns
  exact ⟨od, ha, hz.1, by unfold PySem.W.notCls; rw [hd] <;> rfl, by rw [hz.2]; exact ho⟩
theorem call_isES {X : Cx} {a D : Addr} {oe : Obj} {cls : Value} {d : Option Addr} {pn : List (Addr × Obj)} (T : ExcC X.K D) (hz : Zc cls d oe) (hf : ∃ vs, oe.data = .fields vs) : CallR (X.suite a ((a, oe) :: pn)) (.builtin "isinstance") (fun xs H Q => cls = .ref D ∧ (∃ dd fs, d = some dd ∧ H dd = some (.xd fs)) ∧ rIsE X.K D a xs H Q) := by
  intro pins s σ H xs us Q I r h
  obtain ⟨rfl, ⟨dd, fs, rfl, ed⟩, c, cv, b, rfl, hcv, e, q⟩ := h
  cases r with
  | cons rx rr =>
    cases rr with
    | cons rt rr =>
      cases rr
      cases rx
      have ec := hcv _ rt
      subst ec
      obtain ⟨od, J⟩ := pin_inst hz hf I ed
      exact PySem.W.kia_one (PySem.W.ErrIs.kit ⟨T.hg, T.hk, T.hs, T.hd, T.ha, T.hn, T.ht, T.hm⟩) I.kIn J e (fun z => nomatch z) fun tk => ⟨.bl b, H, I.kept (t' := tk) fun _ _ z => z, rfl, q⟩
theorem call_isEST {X : Cx} {a D : Addr} {oe : Obj} {cls : Value} {d : Option Addr} {pn : List (Addr × Obj)} (T : ExcC X.K D) (hz : Zc cls d oe) (hf : ∃ vs, oe.data = .fields vs) : CallR (X.suite a ((a, oe) :: pn)) (.builtin "isinstance") (fun xs H Q => cls = .ref D ∧ (∃ dd fs, d = some dd ∧ H dd = some (.xd fs)) ∧
    ∃ (tp : Addr) (cs : List V) (us : List Value) (b : Bool), xs = [.ref a, .ref tp] ∧ H tp = some (.tup cs) ∧ Paired ClsV cs us ∧ PySem.W.kitAny X.K (.ref D) us = some b ∧ Q (.bl b) H) := by
  intro pins s σ H xs us Q I r h
  obtain ⟨rfl, ⟨dd, fs, rfl, ed⟩, tp, cs, ws, b, rfl, hT, k, e, q⟩ := h
  obtain ⟨u1, u2, rfl, r1, r2⟩ := vals2 r
  cases (show u1 = Value.ref a from r1)
  cases (show u2 = Value.ref tp from r2)
  obtain ⟨od, J⟩ := pin_inst hz hf I ed
  obtain ⟨_, its, rv, o, h1, h2, n, h3⟩ := (show ObjOk X.prog X.w H s.heap tp (.tup cs) from I.hok tp _ hT)
  have e3 := ClsV.all k rv
  subst e3
  obtain ⟨oc, od', dt, sl⟩ := o
  simp only at h2 h3
  subst h2 h3
  exact PySem.W.kia_tup (PySem.W.ErrIs.kit ⟨T.hg, T.hk, T.hs, T.hd, T.ha, T.hn, T.ht, T.hm⟩) I.kIn J h1 e (fun z => nomatch z) fun tk => ⟨.bl b, H, I.kept (t' := tk) fun _ _ z => z, rfl, q⟩
/-- what is raised is raised where as many slots stand as the def has names -/
theorem takesLen {X : Cx} {W : WX} (n : Nat) (hn : X.N.length = n) (tk : Takes X W) : Takes X (fun cls d σ H => σ.length = n → W cls d σ H) := fun e s' x => by
  obtain ⟨a, B, sI, pins', σ', H', cls, d, h1, J', h3, h4, h5, h6, h7, h8, hW⟩ := x
  exact tk e s' ⟨a, B, sI, pins', σ', H', cls, d, h1, J', h3, h4, h5, h6, h7, h8, hW (J'.len.trans hn)⟩
end L2
namespace K14
open PySem L2 LamX PySem.Spec PyProof.Rows
/-- what is heard of an error of a row: its part -/
def EchR (IR : Addr) (Q : VK) : XK := fun cls d H' => cls = .ref IR ∧ ∃ (dd : Addr) (p : Str), d = some dd ∧ H' dd = some (.xd [("part", .str p)]) ∧ ∀ H'', Same H' H'' → Q (.str p) H''
/-- what the def of the law that hears an error makes of the work it is handed -/
def TRef (IR : Addr) : (XK → Hp → VK → Prop) → Hp → VK → Prop := fun tl H Q => tl (EchR IR Q) H (fun _ H' => ∃ v : V, some (some (V.str "made")) = some (some v) ∧ Q v H')
def tbR (f c' : Addr) (q : Str) (tl : XK → Hp → VK → Prop) : WX → TS := fun W D σ H => ∃ Ech : XK, (∀ cls d σ' H', Ech cls d H' → σ'.length = 3 → W cls d σ' H') ∧ σ[0]? = some (some (.ref f)) ∧ H c' = some (CodeO c' q) ∧ tl Ech H (fun _ H' => D.nx σ H')
abbrev s_law_refused : Stmt := top 53
abbrev n_law_refused : List Str := ["_law_work", "_law_found", "e"]
theorem sc_law_refused : FnScope n_law_refused ["_law_work"] (defScope s_law_refused) := ⟨rfl, rfl, rfl, by decide +kernel, rfl, by decide +kernel, by decide +kernel⟩
theorem refused_gives {X : Cx} {q : Str} {g SE IR IT IB : Addr} {cdg : Value} (T : Txt X.mg) (EX : ExcC X.K IR) (XR : XfC X.K IR) (nPart : PySem.W.findIn X.K (.ref IR) "part" = some none) (te : PySem.W.exmOne X.K (.ref IR) (.ref SE) = some true) (mSE : X.mg "SumError" = some (.ref SE)) (mIR : X.mg "InvalidRow" = some (.ref IR)) (mIT : X.mg "InvalidText" = some (.ref IT)) (mIB : X.mg "InvalidBook" = some (.ref IB))
    (kRR : PySem.W.kitOne X.K (.ref IR) (.ref IR) = some true) (kRT : PySem.W.kitAny X.K (.ref IR) [.ref IT, .ref IB] = some false) :
    GivesTo X n_law_refused "_law_refused" (defScope s_law_refused) g cdg (defBody s_law_refused) "_law_work" q (TRef IR) := by
  intro f c' s H Q tl act hc h
  refine ⟨_, (pss_cons (ps_set (i := 1) sc_law_refused.nd rfl (Or.inl rfl) pe_str)
      (pss_cons (ps_try_as (i := 2) (c := .ref SE) (tb := tbR f c' q tl) (Wout := fun _ _ _ _ => False) rfl rfl sc_law_refused.nd rfl rfl ⟨rfl, by decide, Or.inl mSE⟩ LamX.takes0 (fun W pn xe tk _ => ?_) (fun a oe cls d pn hz hf => (pss_cons (ps_set (i := 1) sc_law_refused.nd rfl (Or.inl rfl) pe_str)
      (pss_one (ps_if (PW.pt (pw_and (pt_val (pe_callB (call_isES EX hz hf) (by rfl) T.z_isinstance (by decide +kernel) (pa_cons (pv 2) (pa_cons (pe_glob (v := .ref IR) rfl mIR rfl) pa_nil)))) (pw_and1 (pt_not (pt_val (pe_callB (call_isEST EX hz hf) (by rfl) T.z_isinstance (by decide +kernel) (pa_cons (pv 2) (pa_cons (pe_tup (pa_cons (pe_glob (v := .ref IT) rfl mIT rfl) (pa_cons (pe_glob (v := .ref IB) rfl mIB rfl) pa_nil))) pa_nil)))))))) (pss_one (ps_set (i := 1) sc_law_refused.nd rfl (Or.inl rfl) (pe_xf XR nPart hz hf (pv 2)))) pss_nil)))))
      (pss_one (ps_ret (pv 1))))), ?_⟩
  · refine ⟨fun pins s' σ H' D I h' => ?_⟩
    obtain ⟨Ech, hW, h1, h2, h3⟩ := h'
    exact (pss_one (ps_expr (act _ pn xe Ech _ _ (takesLen 3 rfl tk) hW))).run pins s' σ H' D I ⟨h1, h2, h3⟩
  refine ⟨EchR IR Q, fun cls d σ' H' hE lσ => ?_, rfl, hc, h⟩
  match σ', lσ with
  | [x0, x1, x2], _ =>
    obtain ⟨rfl, dd, p, rfl, hd, k⟩ := hE
    refine ⟨true, te, fun _ a ha => ?_, fun z => nomatch z⟩
    refine ⟨_, rfl, rfl, ⟨dd, _, rfl, hd⟩, .ref IR, .ref IR, true, rfl, (fun u h => h), kRR, _, rfl, iteSe rfl ?_⟩
    refine ⟨_, rfl, (by decide : 2 ≤ sizeLine), fun tp htp => ?_⟩
    obtain ⟨s1, h1⟩ := new_at (o := .tup [V.ref IT, V.ref IB]) htp
    refine ⟨rfl, ⟨dd, _, rfl, s1 _ _ hd⟩, tp, _, _, false, rfl, h1, .cons (.own _) (.cons (.own _) .nil), kRT, _, rfl, iteSe rfl ?_⟩
    exact ⟨_, rfl, rfl, rfl, dd, _, _, rfl, s1 _ _ hd, rfl, _, rfl, k _ s1⟩
end K14

set_option pp.maxSteps 600
namespace K14
open PySem L2 PySem.Spec PyProof.Rows
/-- what isinstance asks of an own class of the package -/
structure ObjK (K : PySem.W.Frag) (C : Addr) : Prop where
  cl : Cls K C
  ha : PySem.W.findIn K (.ref C) "__class__" = some (some (.builtin "object.__class__"))
  hn : PySem.W.specialIn K (.builtin "object.__class__") "__get__" = some (some (.builtin "getset_descriptor.__get__"))
  htk : PySem.W.takesIn K (.builtin "object.__class__") = some true
  hm : PySem.W.mroIn K C (.type "object") = some true
  str : PySem.W.kitOne K (.ref C) (.type "str") = some false
  int : PySem.W.kitOne K (.ref C) (.type "int") = some false
  bool : PySem.W.kitOne K (.ref C) (.type "bool") = some false
  lst : PySem.W.kitOne K (.ref C) (.type "list") = some false
  tup : PySem.W.kitOne K (.ref C) (.type "tuple") = some false
def isStr0 : Atom → Bool
  | .str _ => true
  | _ => false
def isInt0 : Atom → Bool
  | .int _ => true
  | .bl _ => true
  | _ => false
def isBl0 : Atom → Bool
  | .bl _ => true
  | _ => false
def at2 (f : Atom → Bool) : D2 → Bool
  | .a x => f x
  | _ => false
def isSeq2 : D2 → Bool
  | .s _ _ => true
  | _ => false
section
variable {K : PySem.W.Frag} {Z : Nat → Addr} {b : Addr} {H : Hp} {v : V}
theorem ty_obj (OZ : ∀ k, ObjK K (Z k)) {k : Nat} (h : Rel0 Z b H v (.obj k)) : TyX K H v (.ref (Z k)) := by
  obtain ⟨a, dx, fs, rfl, _, e⟩ := h
  have o := OZ k
  exact .base (.ins e o.cl o.ha o.hn o.htk o.hm)
theorem ty_seq {t : Bool} {xs : List D1} (h : Rel2 Z b H v (.s t xs)) : TyX K H v (.type (if t then "tuple" else "list")) := by
  obtain ⟨p, as, rfl, _, e, _⟩ := h
  cases t
  · exact .base (.lst e)
  · exact .base (.tup e)
theorem ty_of (OZ : ∀ k, ObjK K (Z k)) {d : D2} (h : Rel2 Z b H v d) {T : String} {f : Atom → Bool} (h0 : PySem.W.kitOne K (.type "NoneType") (.type T) = some (f .non)) (h1 : ∀ c, PySem.W.kitOne K (.type "bool") (.type T) = some (f (.bl c))) (h2 : ∀ i, PySem.W.kitOne K (.type "int") (.type T) = some (f (.int i))) (h3 : ∀ s, PySem.W.kitOne K (.type "str") (.type T) = some (f (.str s)))
    (h4 : ∀ k, PySem.W.kitOne K (.ref (Z k)) (.type T) = some (f (.obj k))) (h5 : PySem.W.kitOne K (.type "list") (.type T) = some false) (h6 : PySem.W.kitOne K (.type "tuple") (.type T) = some false) : ∃ t, TyX K H v t ∧ PySem.W.kitOne K t (.type T) = some (at2 f d) := by
  cases d with
  | a x =>
    cases x with
    | non => cases (show v = .non from h); exact ⟨_, .base .non, h0⟩
    | bl c => cases (show v = .bl c from h); exact ⟨_, .base (.bl c), h1 c⟩
    | int i => cases (show v = .int i from h); exact ⟨_, .base (.int i), h2 i⟩
    | str s => cases (show v = .str s from h); exact ⟨_, .base (.str s), h3 s⟩
    | obj k => exact ⟨_, ty_obj OZ (k := k) h, h4 k⟩
  | s t xs =>
    refine ⟨_, ty_seq h, ?_⟩
    cases t
    · exact h5
    · exact h6
theorem ty_str (OZ : ∀ k, ObjK K (Z k)) {d : D2} (h : Rel2 Z b H v d) : ∃ t, TyX K H v t ∧ PySem.W.kitOne K t (.type "str") = some (at2 isStr0 d) :=
  ty_of OZ h (kit_ty (by decide +kernel)) (fun _ => by first | exact kit_ty (show kitB _ _ = some false by decide +kernel) | exact kit_ty (show kitB _ _ = some true by decide +kernel)) (fun _ => by first | exact kit_ty (show kitB _ _ = some false by decide +kernel) | exact kit_ty (show kitB _ _ = some true by decide +kernel)) (fun _ => by first | exact kit_ty (show kitB _ _ = some false by decide +kernel) | exact kit_ty (show kitB _ _ = some true by decide +kernel)) (fun k => (OZ k).str) (kit_ty (by decide +kernel)) (kit_ty (by decide +kernel))
theorem ty_int (OZ : ∀ k, ObjK K (Z k)) {d : D2} (h : Rel2 Z b H v d) : ∃ t, TyX K H v t ∧ PySem.W.kitOne K t (.type "int") = some (at2 isInt0 d) :=
  ty_of OZ h (kit_ty (by decide +kernel)) (fun _ => by first | exact kit_ty (show kitB _ _ = some false by decide +kernel) | exact kit_ty (show kitB _ _ = some true by decide +kernel)) (fun _ => by first | exact kit_ty (show kitB _ _ = some false by decide +kernel) | exact kit_ty (show kitB _ _ = some true by decide +kernel)) (fun _ => by first | exact kit_ty (show kitB _ _ = some false by decide +kernel) | exact kit_ty (show kitB _ _ = some true by decide +kernel)) (fun k => (OZ k).int) (kit_ty (by decide +kernel)) (kit_ty (by decide +kernel))
theorem ty_bool (OZ : ∀ k, ObjK K (Z k)) {d : D2} (h : Rel2 Z b H v d) : ∃ t, TyX K H v t ∧ PySem.W.kitOne K t (.type "bool") = some (at2 isBl0 d) :=
  ty_of OZ h (kit_ty (by decide +kernel)) (fun _ => by first | exact kit_ty (show kitB _ _ = some false by decide +kernel) | exact kit_ty (show kitB _ _ = some true by decide +kernel)) (fun _ => by first | exact kit_ty (show kitB _ _ = some false by decide +kernel) | exact kit_ty (show kitB _ _ = some true by decide +kernel)) (fun _ => by first | exact kit_ty (show kitB _ _ = some false by decide +kernel) | exact kit_ty (show kitB _ _ = some true by decide +kernel)) (fun k => (OZ k).bool) (kit_ty (by decide +kernel)) (kit_ty (by decide +kernel))
theorem ty_seqs (OZ : ∀ k, ObjK K (Z k)) {d : D2} (h : Rel2 Z b H v d) : ∃ t, TyX K H v t ∧ PySem.W.kitAny K t [.type "list", .type "tuple"] = some (isSeq2 d) := by
  have no : ∀ {t : Value}, PySem.W.kitOne K t (.type "list") = some false → PySem.W.kitOne K t (.type "tuple") = some false → PySem.W.kitAny K t [.type "list", .type "tuple"] = some false := fun a b => kitAny_cons (b := false) a (fun _ => kitAny_cons (b := false) b (fun _ => rfl) (fun z => nomatch z)) (fun z => nomatch z)
  cases d with
  | a x =>
    cases x with
    | non => cases (show v = .non from h); exact ⟨_, .base .non, no (kit_ty (by decide +kernel)) (kit_ty (by decide +kernel))⟩
    | bl c => cases (show v = .bl c from h); exact ⟨_, .base (.bl c), no (kit_ty (by decide +kernel)) (kit_ty (by decide +kernel))⟩
    | int i => cases (show v = .int i from h); exact ⟨_, .base (.int i), no (kit_ty (by decide +kernel)) (kit_ty (by decide +kernel))⟩
    | str s => cases (show v = .str s from h); exact ⟨_, .base (.str s), no (kit_ty (by decide +kernel)) (kit_ty (by decide +kernel))⟩
    | obj k => exact ⟨_, ty_obj OZ (k := k) h, no (OZ k).lst (OZ k).tup⟩
  | s t xs =>
    refine ⟨_, ty_seq h, ?_⟩
    cases t
    · exact kitAny_cons (b := true) (kit_ty (by decide +kernel)) (fun z => nomatch z) (fun _ => rfl)
    · exact kitAny_cons (b := false) (kit_ty (by decide +kernel)) (fun _ => kitAny_cons (b := true) (kit_ty (by decide +kernel)) (fun z => nomatch z) (fun _ => rfl)) (fun z => nomatch z)
end
theorem inV_strs (s : Str) : ∀ l : List Str, inV (.str s) (l.map V.str) = decide (s ∈ l)
  | [] => rfl
  | a :: l => by
    have ih := inV_strs s l
    have e : inV (.str s) ((a :: l).map V.str) = (eqV (.str a) (.str s) || inV (.str s) (l.map V.str)) := rfl
    have e2 : eqV (.str a) (.str s) = decide (s = a) := by
      show decide _ = _
      exact decide_eq_decide.mpr ⟨fun q => by cases q; rfl, fun q => by rw [q]⟩
    rw [e, e2, ih]
    by_cases h : s = a
    · subst h; simp
    · simp [h]
def noNames : List Str := ["none", "to", "old", "new", "one", "not"]
def nameB (s : Str) : Bool := decide (s.length ≤ 4) && (Txt.isascii s && (Txt.isalpha s && (Txt.islower s && !decide (s ∈ noNames))))
def name0 : Atom → Bool
  | .str s => nameB s
  | _ => false
def int0 : Atom → Bool
  | .int _ => true
  | _ => false
theorem int_bl (d : D2) : (at2 isInt0 d && !at2 isBl0 d) = at2 int0 d := by
  cases d with
  | a x => cases x <;> rfl
  | s t xs => rfl
section
variable {P : Program} {w : World} {K : PySem.W.Frag} {mg : Str → Option Value} {base : Heap}
abbrev s_is_integer : Stmt := top 3
abbrev n_is_integer : List Str := ["value"]
theorem sc_is_integer : FnScope n_is_integer ["value"] (defScope s_is_integer) := ⟨rfl, rfl, rfl, by decide +kernel, rfl, by decide +kernel, by decide +kernel⟩
def spInt (Z : Nat → Addr) : Sp := fun vs H Q _ => ∃ (b : Addr) (x : V) (d : D2), vs = [x] ∧ Rel2 Z b H x d ∧ Q (.bl (at2 int0 d)) H
theorem ok_int {Z : Nat → Addr} (T : Txt mg) (OZ : ∀ k, ObjK K (Z k)) (F : DefAt K mg "is_integer" s_is_integer ["value"]) : Has P w K mg base 1 "is_integer" ["value"] (spInt Z) := by
  refine F.has sc_is_integer (fun vs H Q E h => ?_) (fun f cdv A outer s H vs Q E hr h => ?_)
  · obtain ⟨b, x, d, rfl, _⟩ := h
    rfl
  · obtain ⟨b, x, d, rfl, r, k⟩ := h
    refine ⟨_, (pss_one (ps_ret (pe_and (pe_callB call_isi (by rfl) T.z_isinstance (by decide +kernel) (pa_cons (pv 0) (pa_cons (pe_bltn (v := .ty "int") (by rfl) T.z_int (by decide +kernel) rfl) pa_nil))) (pe_one (pe_not (pe_callB call_isi (by rfl) T.z_isinstance (by decide +kernel) (pa_cons (pv 0) (pa_cons (pe_bltn (v := .ty "bool") (by rfl) T.z_bool (by decide +kernel) rfl) pa_nil)))))))), ?_⟩
    obtain ⟨t1, h1, k1⟩ := ty_int OZ r
    obtain ⟨t2, h2, k2⟩ := ty_bool OZ r
    rw [← int_bl] at k
    refine ⟨_, rfl, _, _, t1, _, _, rfl, .ty _, h1, k1, _, rfl, ?_⟩
    cases hi : at2 isInt0 d with
    | false =>
      rw [hi] at k
      exact iteSf rfl k
    | true =>
      rw [hi] at k
      exact iteSe rfl ⟨_, rfl, _, _, t2, _, _, rfl, .ty _, h2, k2, _, rfl, k⟩
abbrev s_is_sequence : Stmt := top 4
abbrev n_is_sequence : List Str := ["value"]
theorem sc_is_sequence : FnScope n_is_sequence ["value"] (defScope s_is_sequence) := ⟨rfl, rfl, rfl, by decide +kernel, rfl, by decide +kernel, by decide +kernel⟩
def spSeq (Z : Nat → Addr) : Sp := fun vs H Q _ => ∃ (b : Addr) (x : V) (d : D2), vs = [x] ∧ Rel2 Z b H x d ∧ ∀ H', Same H H' → Q (.bl (isSeq2 d)) H'
theorem ok_seq {Z : Nat → Addr} (T : Txt mg) (OZ : ∀ k, ObjK K (Z k)) (F : DefAt K mg "is_sequence" s_is_sequence ["value"]) : Has P w K mg base 1 "is_sequence" ["value"] (spSeq Z) := by
  refine F.has sc_is_sequence (fun vs H Q E h => ?_) (fun f cdv A outer s H vs Q E hr h => ?_)
  · obtain ⟨b, x, d, rfl, _⟩ := h
    rfl
  · obtain ⟨b, x, d, rfl, r, k⟩ := h
    refine ⟨_, (pss_one (ps_ret (pe_callB call_isiT (by rfl) T.z_isinstance (by decide +kernel) (pa_cons (pv 0) (pa_cons (pe_tup (pa_cons (pe_bltn (v := .ty "list") (by rfl) T.z_list (by decide +kernel) rfl) (pa_cons (pe_bltn (v := .ty "tuple") (by rfl) T.z_tuple (by decide +kernel) rfl) pa_nil))) pa_nil))))), ?_⟩
    refine ⟨_, rfl, (by decide : 2 ≤ sizeLine), fun t ht => ?_⟩
    obtain ⟨s1, h1⟩ := new_at (o := .tup [.ty "list", .ty "tuple"]) ht
    obtain ⟨tv, ht2, kt⟩ := ty_seqs OZ (r.kp (Kp.of s1))
    exact ⟨_, t, _, _, _, _, rfl, h1, .cons (.ty _) (.cons (.ty _) .nil), ht2, kt, k _ s1⟩
abbrev s_is_name : Stmt := top 5
abbrev n_is_name : List Str := ["value"]
theorem sc_is_name : FnScope n_is_name ["value"] (defScope s_is_name) := ⟨rfl, rfl, rfl, by decide +kernel, rfl, by decide +kernel, by decide +kernel⟩
def spName (Z : Nat → Addr) : Sp := fun vs H Q _ => ∃ (b : Addr) (x : V) (d : D2), vs = [x] ∧ Rel2 Z b H x d ∧ (∀ s, d = .a (.str s) → s.length ≤ 1000) ∧ Q (.bl (at2 name0 d)) H
theorem ok_name {Z : Nat → Addr} {NN : Addr} (T : Txt mg) (OZ : ∀ k, ObjK K (Z k)) (mNN : mg "NO_NAMES" = some (.ref NN)) (tNN : ∀ H, SqT K H NN (noNames.map V.str)) (F : DefAt K mg "is_name" s_is_name ["value"]) : Has P w K mg base 1 "is_name" ["value"] (spName Z) := by
  refine F.has sc_is_name (fun vs H Q E h => ?_) (fun f cdv A outer s H vs Q E hr h => ?_)
  · obtain ⟨b, x, d, rfl, _⟩ := h
    rfl
  · obtain ⟨b, x, d, rfl, r, l, k⟩ := h
    refine ⟨_, (pss_one (ps_ret (pe_and (pe_callB call_isi (by rfl) T.z_isinstance (by decide +kernel) (pa_cons (pv 0) (pa_cons (pe_bltn (v := .ty "str") (by rfl) T.z_str (by decide +kernel) rfl) pa_nil))) (pe_and (pe_cmpR op_le (pe_callB call_len (by rfl) T.z_len (by decide +kernel) (pa_cons (pv 0) pa_nil)) pe_int (nomark _)) (pe_and (pe_m0 PySem.F.slot_str_isascii PySem.F.type_str_isascii mt_isascii (pv 0)) (pe_and (pe_m0 PySem.F.slot_str_isalpha PySem.F.type_str_isalpha mt_isalpha (pv 0)) (pe_and (pe_m0 PySem.F.slot_str_islower PySem.F.type_str_islower mt_islower (pv 0)) (pe_one (pe_cmpR op_notIn_seq (pv 0) (pe_glob (v := .ref NN) rfl mNN rfl) (by rfl)))))))))), ?_⟩
    obtain ⟨t1, h1, k1⟩ := ty_str OZ r
    refine ⟨_, rfl, _, _, t1, _, _, rfl, .ty _, h1, k1, _, rfl, ?_⟩
    cases d with
    | s t xs => exact iteSf rfl k
    | a y =>
      cases y with
      | non => exact iteSf rfl k
      | bl c => exact iteSf rfl k
      | int i => exact iteSf rfl k
      | obj j => exact iteSf rfl k
      | str s =>
        have ls := l s rfl
        cases (show x = .str s from r)
        refine iteSe rfl ?_
        have k' : Q (.bl (nameB s)) H := k
        unfold nameB at k'
        have ls' : s.length ≤ sizeLine := Nat.le_trans ls (by decide)
        refine ⟨_, rfl, _, _, rfl, ⟨ls', rfl⟩, _, _, rfl, rfl, _, rfl, ?_⟩
        by_cases h4 : s.length ≤ 4
        · rw [decide_eq_true h4] at k'
          refine iteSe (decide_eq_true (by omega)) ⟨_, rfl, ⟨_, rfl⟩, _, rfl, rfl, trivial, _, rfl, ?_⟩
          cases hA : Txt.isascii s with
          | false => rw [hA] at k'; exact iteSf rfl k'
          | true =>
          rw [hA] at k'
          refine iteSe rfl ⟨_, rfl, ⟨_, rfl⟩, _, rfl, rfl, trivial, _, rfl, ?_⟩
          cases hB : Txt.isalpha s with
          | false => rw [hB] at k'; exact iteSf rfl k'
          | true =>
          rw [hB] at k'
          refine iteSe rfl ⟨_, rfl, ⟨_, rfl⟩, _, rfl, rfl, trivial, _, rfl, ?_⟩
          cases hC : Txt.islower s with
          | false => rw [hC] at k'; exact iteSf rfl k'
          | true =>
          rw [hC] at k'
          refine iteSe rfl ⟨_, rfl, NN, noNames.map V.str, rfl, .inr (tNN _), rfl, rfl, ?_⟩
          rw [if_pos rfl, inV_strs]
          exact k'
        · rw [decide_eq_false h4] at k'
          exact iteSf (decide_eq_false (by omega)) k'
end
end K14

namespace L2
open PySem PySem.Spec PyProof.Rows
/-! ### an error with nothing in it; what a sign lets out within a try; defs that raise, by their names -/
theorem pmk_own0 {X : Cx} {C : Addr} {bmB : List Value} {B newId initId : String} {x : Str} {p pos : Pos} (F : ExcBaseFacts B newId initId bmB) (q : PySem.W.excIn X.K C bmB newId = true) (gC : X.mg x = some (.ref C)) (kC : PySem.W.keepIn X.K (.ref C) = true) (r : Raises X (.ref C)) (hg : Gl X x)
    (hdb : (x == ("__debug__" : Str)) = false := by decide) : PMk X (.Call (.Name x p) [] [] pos) (fun _ H Q => Q (.ref C) none H) := by
  intro pins s σ H Q I h
  refine wpAny_Call_Name_kw (ld_glob I hg gC ?_ hdb)
  refine PySem.W.callWith_K0 I.kIn kC ?_
  show wpAny _ _ (call (.ref C) []) _ _ _
  obtain ⟨bm, N, nm, qn, bs, hdct, sn, sub, ab, col, dd, k0, k1, k2, k3, k5, mN, hC, hN, hni, T⟩ := exc_obj I.kIn q
  refine wpAny_call_exc_subT F T hC hN hni (fun h' e hm => ?_) (by show 0 ≤ sizeLine; exact Nat.zero_le _)
  exact mk_of I hm r h (I.hok.gone hm.new)
theorem passLen {X : Cx} {W : WX} (n : Nat) (hn : X.N.length = n) (tk : Takes X W) : Passes (L2.CX X.prog X.w) X (fun cls d H => ∀ σ : St, σ.length = n → W cls d σ H) := fun _ σ _ _ e s' I c => tk e s' (XE.of_call I (fun _ _ _ h => h σ (I.len.trans hn)) c)
theorem passOut {X : Cx} {E : XK} (hs : X.stack = X.env :: X.outer) (hf : X.env.frame = some X.env.locals) (hex : X.ex = []) {E₁ : Value → Shared → Prop}
    (hx : X.xe = fun e s' => wpAny (model X.prog X.w) X.A (leaving X.env e) (fun _ s'' => L2.CX X.prog X.w X.outer X.H_0 X.s_0 E e s'') E₁ s') : Passes (L2.CX X.prog X.w) X E := passes_call (takes_of hs hf hex hx) fun _ _ _ _ h => h
def HasX (P : Program) (w : World) (K : PySem.W.Frag) (mg : Str → Option Value) (base : Heap) (k : Nat) (nm : Str) (ps : List Str) (sp : Sp) : Prop :=
  ∃ (f : Addr) (fd : FuncData), FnOk P w K mg base (L2.CX P w) k f fd ps sp ∧ mg nm = some (.ref f) ∧ PySem.W.keepIn K (.ref f) = true ∧ Binds K fd ps []
theorem pe_callHasX {X : Cx} {k : Nat} {x : Str} {ps : List Str} {sp : Sp} {E : XK} {p pos : Pos} {e : Expr} {es : List Expr} {t : TA} (G : HasX X.prog X.w X.K X.mg X.base k x ps sp) (hr : Room k X.A) (hg : Gl X x) (hx : Passes (L2.CX X.prog X.w) X E) (ha : PA X (e :: es) t)
    (hdb : (x == ("__debug__" : Str)) = false := by decide) (he : starEach (e :: es) X.env = (false, eval e X.env) :: starEach es X.env := by rfl) (hpl : (backTo pos (starEach es X.env)).any (·.1) = false := by rfl) :
    PE X (.Call (.Name x p) (e :: es) [] pos) (tCall sp [] E t) := by
  obtain ⟨f, fd, F, m, kp, b⟩ := G
  exact pe_call F hr hg m kp b .nil hx ha hdb he hpl
theorem DefAt.hasX {P : Program} {w : World} {K : PySem.W.Frag} {mg : Str → Option Value} {base : Heap} {k : Nat} {nm : Str} {st : Stmt} {N ps : List Str} {sp : Sp} (F : DefAt K mg nm st ps) (S : FnScope N ps (defScope st)) (len : ∀ vs H Q E, sp vs H Q E → vs.length = ps.length)
    (hbody : ∀ (f : Addr) (cdv : Value) (A : Around) (outer : List Env) (s : Shared) (H : Hp) (vs : List V) (Q : VK) (E : XK), Room k (A.deeper (envOfC nm (defScope st) s.heap.objs.size f cdv)) → sp vs H Q E →
      ∃ t, PSs (cxOf (L2.CX P w) P w K mg base N nm (defScope st) f cdv A outer s H E) (defBody st) t ∧ t { nx := fun _ H' => Q .non H', rt := Q } (start N vs) H) : HasX P w K mg base (k + 1) nm ps sp := by
  obtain ⟨f, fd, F, m, b⟩ := F
  exact ⟨f, fd, F.okX S len (hbody f), m, F.kp, b⟩
/-- an error class of the text with no __init__ -/
structure ErrC (K : PySem.W.Frag) (mg : Str → Option Value) (x : Str) (M : Addr) : Prop where
  m : mg x = some (.ref M)
  ex : PySem.W.excIn K M [.type "ValueError", .type "Exception", .type "BaseException", .type "object"] "ValueError.__new__" = true
  kp : PySem.W.keepIn K (.ref M) = true
  sb : PySem.W.subIn K (.ref M) (.type "BaseException") = some true
  ty : PySem.W.typeIn K (.ref M) = some (.type "type")
theorem pmk_err {X : Cx} {x : Str} {M : Addr} {p pos : Pos} (T : ErrC X.K X.mg x M) (hg : Gl X x) (hdb : (x == ("__debug__" : Str)) = false := by decide) : PMk X (.Call (.Name x p) [] [] pos) (fun _ H Q => Q (.ref M) none H) :=
  pmk_own0 PySem.F.excBase_ValueError T.ex T.m T.kp (raises_own T.sb T.ty) hg hdb
end L2

set_option pp.maxSteps 600
namespace L2
open PySem PySem.Spec PyProof.Rows
/-- x in t, t a tuple of data of any depth -/
def rInTD (K : PySem.W.Frag) : R2 := fun x y H Q => ∃ d ds, Dp K H x d ∧ Dp K H y (.tuple ds) ∧ SeqAt.shaped d = true ∧ SeqAt.shaped (.tuple ds) = true ∧ Q (.bl (ds.any fun z => PyData.eqv z d)) H
theorem op_inTD {X : Cx} (hu : X.A.units + 65 < cLine) : OpR X (compareOp .In) (rInTD X.K) := by
  intro pins s σ H x y v u Q I rx ry h
  obtain ⟨d, ds, hd, he, sd, se, q⟩ := h
  obtain ⟨as, r1⟩ := Dp.reads I d x v hd rx
  obtain ⟨bs, r2⟩ := Dp.reads I (.tuple ds) y u he ry
  exact SeqAt.in_tuple_reads r2 r1 (SeqAt.canLay_of_shaped se) (SeqAt.canLay_of_shaped sd) (room_in_shaped sd hu) ⟨.bl _, H, I, rfl, q⟩
end L2
namespace K14
open PySem L2 PySem.Spec PyProof.Rows
/-! ### values as data -/
def py0 : Atom → PyData
  | .non => .none
  | .bl b => .bool b
  | .int i => .int i
  | .str s => .str s
  | .obj _ => .none
def py1 : D1 → PyData
  | .a x => py0 x
  | .s t xs => if t then .tuple (xs.map py0) else .list (xs.map py0)
def py2 : D2 → PyData
  | .a x => py0 x
  | .s t xs => if t then .tuple (xs.map py1) else .list (xs.map py1)
def pl0 : Atom → Bool
  | .obj _ => false
  | _ => true
def pl1 : D1 → Bool
  | .a x => pl0 x
  | .s _ xs => xs.all pl0
def pl2 : D2 → Bool
  | .a x => pl0 x
  | .s _ xs => xs.all pl1
section
variable {K : PySem.W.Frag} {Z : Nat → Addr} {b : Addr} {H : Hp} {v : V}
theorem dp0 {x : Atom} (h : Rel0 Z b H v x) (p : pl0 x = true) : Dp K H v (py0 x) := by
  cases x with
  | non => cases (show v = .non from h); exact .non
  | bl c => cases (show v = .bl c from h); exact .bl c
  | int i => cases (show v = .int i from h); exact .int i
  | str s => cases (show v = .str s from h); exact .str s
  | obj k => cases p
theorem dps {α : Type} {R : V → α → Prop} {f : α → PyData} {p : α → Bool} {as : List V} {xs : List α} (h : Paired R as xs) (hp : xs.all p = true) (k : ∀ a x, R a x → p x = true → Dp K H a (f x)) : DpAll K H as (xs.map f) := by
  induction h with
  | nil => exact .nil
  | cons r _ ih =>
    rw [List.all_cons, Bool.and_eq_true] at hp
    exact .cons (k _ _ r hp.1) (ih hp.2)
theorem dp1 {d : D1} (h : Rel1 Z b H v d) (p : pl1 d = true) : Dp K H v (py1 d) := by
  cases d with
  | a x => exact dp0 h p
  | s t xs =>
    obtain ⟨q, as, rfl, _, e, r⟩ := h
    cases t
    · exact .lst (SqL.of e) (dps r p fun _ _ => dp0)
    · exact .tup (SqT.of e) (dps r p fun _ _ => dp0)
theorem dp2 {d : D2} (h : Rel2 Z b H v d) (p : pl2 d = true) : Dp K H v (py2 d) := by
  cases d with
  | a x => exact dp0 h p
  | s t xs =>
    obtain ⟨q, as, rfl, _, e, r⟩ := h
    cases t
    · exact .lst (SqL.of e) (dps r p fun _ _ => dp1)
    · exact .tup (SqT.of e) (dps r p fun _ _ => dp1)
end
/-- data that may be compared -/
def ok2 (d : D2) : Bool := pl2 d && SeqAt.shaped (py2 d)
theorem eqv_str (d : D2) (z : Str) : PyData.eqv (py2 d) (.str z) = at2 (fun x => match x with | .str s => decide (s = z) | _ => false) d := by
  cases d with
  | a x =>
    cases x with
    | str s =>
      show PyData.eqv (.str s) (.str z) = decide (s = z)
      by_cases h : s = z
      · subst h; simp [PyData.eqv]
      · simp [PyData.eqv, h]
    | _ => rfl
  | s t xs => cases t <;> rfl
def isStrA (z : Str) : Atom → Bool := fun x => match x with | .str s => decide (s = z) | _ => false
def kindB (d : D2) : Bool := at2 (isStrA "none") d || at2 name0 d
def mayB (d : D2) (comes goes : Bool) : Bool := match d with
  | .a (.bl v) => (v || !comes) && !(v && goes)
  | _ => false
/-- the way out of a raise -/
theorem raise_part {C : Addr} {H H0 : Hp} {k : V} {Q : XK} {sp : Sp} (s : Same H H0) (hsp : ∀ (a : Addr) (H1 : Hp) (Q' : VK) (E' : XK), H1 a = some (exo a C none) → (∀ dx, H1 dx = none → dx ≠ a → Q' .non (upd (upd H1 dx (exd dx [("part", k)])) a (exo a C (some dx)))) → sp [.ref a, k] H1 Q' E')
    (q : ∀ (H' : Hp) (d : Addr), Same H H' → H d = none → H' d = some (.xd [("part", k)]) → Q (.ref C) (some d) H') (a : Addr) (ha : H0 a = none) : sp [.ref a, k] (upd H0 a (exo a C none)) (fun v H2 => v = .non ∧ ∃ (d : Addr) (fs : List (Str × V)), H2 a = some (exo a C (some d)) ∧ H2 d = some (exd d fs) ∧ H0 d = none ∧ Q (.ref C) (some d) (upd (del H2 a) d (.xd fs))) (fun _ _ _ => False) := by
  refine hsp a _ _ _ upd_same fun dx hdx ne => ⟨rfl, dx, [("part", k)], upd_same, (upd_ne ne).trans upd_same, ?_, ?_⟩
  · rw [upd_ne ne] at hdx; exact hdx
  · have h0 : H0 dx = none := by rw [upd_ne ne] at hdx; exact hdx
    have hd : H dx = none := by
      cases e : H dx with
      | none => rfl
      | some o => rw [s _ _ e] at h0; cases h0
    refine q _ dx (fun y o hy => ?_) hd upd_same
    have y0 := s _ _ hy
    have nya : y ≠ a := ne_of_none y0 ha
    have nyd : y ≠ dx := ne_of_none y0 h0
    rw [upd_ne nyd, del_ne nya, upd_ne nya, upd_ne nyd, upd_ne nya]; exact y0
section
variable {P : Program} {w : World} {K : PySem.W.Frag} {mg : Str → Option Value} {base : Heap}
abbrev s_InvalidRow_init : Stmt := inClass (top 17) 0
abbrev n_InvalidRow_init : List Str := ["self", "part"]
theorem sc_InvalidRow_init : FnScope n_InvalidRow_init ["self", "part"] (defScope s_InvalidRow_init) := ⟨rfl, rfl, rfl, by decide +kernel, rfl, by decide +kernel, by decide +kernel⟩
def spInitR (C : Addr) : Sp := fun vs H Q _ => ∃ (a : Addr) (y : V), vs = [.ref a, y] ∧ H a = some (exo a C none) ∧ ∀ dx, H dx = none → dx ≠ a → Q .non (upd (upd H dx (exd dx [("part", y)])) a (exo a C (some dx)))
theorem ok_initR {C fI : Addr} {fd : FuncData} (OX : OexC K C) (no : PySem.W.findIn K (.ref C) "part" = some none) (F : Fun K "__init__" "InvalidRow.__init__" s_InvalidRow_init fI fd) : FnOk P w K mg base CX0 1 fI fd ["self", "part"] (spInitR C) := by
  refine F.ok sc_InvalidRow_init (fun vs H Q E h => ?_) (fun cdv A outer s H vs Q E hr h => ?_)
  · obtain ⟨a, y, rfl, _⟩ := h
    rfl
  · obtain ⟨a, y, rfl, ha, k⟩ := h
    refine ⟨_, (pss_one (ps_ost (pv 0) (pv 1))), ?_⟩
    exact ⟨_, rfl, _, rfl, a, C, rfl, OX, no, .inl ⟨ha, fun dx hdx ne => k dx hdx ne⟩⟩
theorem initR_sp {C : Addr} {k : V} (a : Addr) (H1 : Hp) (Q' : VK) (E' : XK) (ha : H1 a = some (exo a C none)) (h : ∀ dx, H1 dx = none → dx ≠ a → Q' .non (upd (upd H1 dx (exd dx [("part", k)])) a (exo a C (some dx)))) : spInitR C [.ref a, k] H1 Q' E' := ⟨a, k, rfl, ha, h⟩
abbrev s_check : Stmt := top 22
abbrev n_check : List Str := ["holds", "part"]
theorem sc_check : FnScope n_check ["holds", "part"] (defScope s_check) := ⟨rfl, rfl, rfl, by decide +kernel, rfl, by decide +kernel, by decide +kernel⟩
def spCheck (IR : Addr) : Sp := fun vs H Q E => ∃ (c : Bool) (p : Str), vs = [.bl c, .str p] ∧ (c = true → Q .non H) ∧ (c = false → ∀ (H' : Hp) (d : Addr), Same H H' → H d = none → H' d = some (.xd [("part", .str p)]) → E (.ref IR) (some d) H')
theorem ok_check {IR fR : Addr} {fdR : FuncData} (T : Txt mg) (OXR : OexC K IR) (iR : PySem.W.findIn K (.ref IR) "__init__" = some (some (.ref fR))) (tR : PySem.W.typeIn K (.ref fR) = some (.type "function")) (g_initR : FnOk P w K mg base CX0 1 fR fdR ["self", "part"] (spInitR IR)) (bR : Binds K fdR ["self", "part"] []) (mIR : mg "InvalidRow" = some (.ref IR))
    (F : DefAt K mg "check" s_check ["holds", "part"]) : HasX P w K mg base 3 "check" ["holds", "part"] (spCheck IR) := by
  refine F.hasX sc_check (fun vs H Q E h => ?_) (fun f cdv A outer s H vs Q E hr h => ?_)
  · obtain ⟨c, p, rfl, _⟩ := h
    rfl
  · obtain ⟨c, p, rfl, k1, k2⟩ := h
    refine ⟨_, (pss_one (ps_if (pt_not (pt_val (pv 0))) (pss_one (ps_raise rfl (takes_of rfl rfl rfl rfl) (pmk_oex OXR iR tR g_initR (hr.mono (by decide)) bR .nil pass0 rfl mIR (pa_cons (pv 1) pa_nil)))) pss_nil)), ?_⟩
    cases c with
    | true => exact ⟨_, rfl, _, rfl, iteSf rfl (k1 rfl)⟩
    | false => exact ⟨_, rfl, _, rfl, iteSe rfl ⟨_, rfl, (by decide : 1 ≤ 1000), fun a ha => raise_part (sp := spInitR IR) (Same.refl H) initR_sp (fun H9 d9 q1 q2 q3 => k2 rfl H9 d9 q1 q2 q3) a ha⟩⟩
abbrev s_is_kind : Stmt := top 24
abbrev n_is_kind : List Str := ["value"]
theorem sc_is_kind : FnScope n_is_kind ["value"] (defScope s_is_kind) := ⟨rfl, rfl, rfl, by decide +kernel, rfl, by decide +kernel, by decide +kernel⟩
def spKind (Z : Nat → Addr) : Sp := fun vs H Q _ => ∃ (b : Addr) (x : V) (d : D2), vs = [x] ∧ Rel2 Z b H x d ∧ ok2 d = true ∧ (∀ s, d = .a (.str s) → s.length ≤ 1000) ∧ Q (.bl (kindB d)) H
theorem ok_kind {Z : Nat → Addr} (T : Txt mg) (g_is_name : Has P w K mg base 1 "is_name" ["value"] (spName Z)) (F : DefAt K mg "is_kind" s_is_kind ["value"]) : Has P w K mg base 2 "is_kind" ["value"] (spKind Z) := by
  refine F.has sc_is_kind (fun vs H Q E h => ?_) (fun f cdv A outer s H vs Q E hr h => ?_)
  · obtain ⟨b, x, d, rfl, _⟩ := h
    rfl
  · have hu := hr.units
    obtain ⟨b, x, d, rfl, r, ok, l, k⟩ := h
    obtain ⟨p1, p2⟩ := Bool.and_eq_true_iff.mp ok
    refine ⟨_, (pss_one (ps_ret (pe_or (pe_cmpR (op_eqD hu) (pv 0) pe_str (nomark _)) (pe_one (pe_callHas g_is_name (hr.mono (by decide)) rfl (pa_cons (pv 0) pa_nil)))))), ?_⟩
    refine ⟨_, rfl, py2 d, .str "none", dp2 r p1, .str _, p2, by decide +kernel, ?_⟩
    rw [eqv_str]
    have k' : Q (.bl (at2 (isStrA "none") d || at2 name0 d)) H := k
    refine ⟨_, rfl, ?_⟩
    cases hn : at2 (isStrA "none") d with
    | true => rw [hn] at k'; exact iteSe hn k'
    | false => rw [hn] at k'; exact iteSf hn ⟨_, rfl, b, x, d, rfl, r, l, k'⟩
end
end K14

set_option pp.maxSteps 600
namespace L2
open PySem PySem.Spec PyProof.Rows
theorem call_isi_in {X : Cx} {K : PySem.W.Frag} (e : X.K = K) : CallR X (.builtin "isinstance") (rIsi K) := by
  subst e; exact call_isi
end L2
namespace K14
open PySem L2 PySem.Spec PyProof.Rows
def at1 (f : Atom → Bool) : D1 → Bool
  | .a x => f x
  | _ => false
theorem at1_up (f : Atom → Bool) (d : D1) : at2 f d.up = at1 f d := by cases d <;> rfl
def strA : Atom → Str
  | .str s => s
  | _ => ""
def str1 : D1 → Str
  | .a x => strA x
  | _ => ""
/-- names, none of them twice -/
def namesB : D2 → Bool
  | .s _ xs => xs.all (at1 name0) && decide ((xs.map str1).Nodup)
  | _ => false
def noneB : D2 → Bool
  | .s _ xs => decide (xs.length = 1) && xs.all (at1 (isStrA "none"))
  | _ => false
def itemsD : D2 → List D1
  | .s _ xs => xs
  | _ => []
def lenB : D2 → Nat
  | .s _ xs => xs.length
  | _ => 0
def origB (d : D2) : Bool := isSeq2 d && (noneB d || (decide (0 < lenB d) && namesB d))
/-- the classes of instances: 0 Moved, 1 Mark, 2 Not, 3 Was, 4 Put, 5 If, 6 Noted, 7 Lattice -/
def isRow (k : Nat) : Bool := k == 1 || k == 4 || k == 5
/-- an instance of a row -/
def rowA : Atom → Bool
  | .obj k => isRow k
  | _ => false
def rowsB : D2 → Bool
  | .s _ xs => xs.all (at1 rowA)
  | _ => false
theorem eqv_none1 (d : D1) : PyData.eqv (py1 d) (.str "none") = at1 (isStrA "none") d := by
  cases d with
  | a x =>
    cases x with
    | str s =>
      show PyData.eqv (.str s) (.str "none") = decide (s = "none")
      by_cases h : s = "none"
      · subst h; simp [PyData.eqv]
      · simp [PyData.eqv, h]
    | _ => rfl
  | s t xs => cases t <;> rfl
theorem none_eqv (t : Bool) (xs : List D1) : PyData.eqv (.tuple (xs.map py1)) (.tuple [.str "none"]) = noneB (.s t xs) := by
  show _ = (decide (xs.length = 1) && xs.all (at1 (isStrA "none")))
  match xs with
  | [] => rfl
  | [x] =>
    have e := eqv_none1 x
    simp only [List.map_cons, List.map_nil, PyData.eqv, PyData.eqvAll, e, List.length_cons, List.length_nil, List.all_cons, List.all_nil, Bool.and_true]
    simp
  | x :: y :: zs => simp [PyData.eqv, PyData.eqvAll]
structure RowK (K : PySem.W.Frag) (Z : Nat → Addr) (RW : Addr) : Prop where
  nn : PySem.W.kitOne K (.type "NoneType") (.ref RW) = some false
  bl : PySem.W.kitOne K (.type "bool") (.ref RW) = some false
  int : PySem.W.kitOne K (.type "int") (.ref RW) = some false
  str : PySem.W.kitOne K (.type "str") (.ref RW) = some false
  lst : PySem.W.kitOne K (.type "list") (.ref RW) = some false
  tup : PySem.W.kitOne K (.type "tuple") (.ref RW) = some false
  obj : ∀ k, PySem.W.kitOne K (.ref (Z k)) (.ref RW) = some (isRow k)
theorem ty_row {K : PySem.W.Frag} {Z : Nat → Addr} {RW b : Addr} {H : Hp} {v : V} (OZ : ∀ k, ObjK K (Z k)) (R : RowK K Z RW) {d : D1} (h : Rel1 Z b H v d) : ∃ t, TyX K H v t ∧ PySem.W.kitOne K t (.ref RW) = some (at1 rowA d) := by
  cases d with
  | a x =>
    cases x with
    | non => cases (show v = .non from h); exact ⟨_, .base .non, R.nn⟩
    | bl c => cases (show v = .bl c from h); exact ⟨_, .base (.bl c), R.bl⟩
    | int i => cases (show v = .int i from h); exact ⟨_, .base (.int i), R.int⟩
    | str s => cases (show v = .str s from h); exact ⟨_, .base (.str s), R.str⟩
    | obj k => exact ⟨_, ty_obj OZ (k := k) h, R.obj k⟩
  | s t xs =>
    obtain ⟨p, as, rfl, _, e, _⟩ := h
    cases t
    · exact ⟨_, .base (.lst e), R.lst⟩
    · exact ⟨_, .base (.tup e), R.tup⟩
section
variable {P : Program} {w : World} {K : PySem.W.Frag} {mg : Str → Option Value} {base : Heap}
abbrev s_are_rows : Stmt := top 25
abbrev n_are_rows : List Str := ["value", "part"]
theorem sc_are_rows : FnScope n_are_rows ["value"] (defScope s_are_rows) := ⟨rfl, rfl, rfl, by decide +kernel, rfl, by decide +kernel, by decide +kernel⟩
def spRows (Z : Nat → Addr) : Sp := fun vs H Q _ => ∃ (b : Addr) (x : V) (d : D2), vs = [x] ∧ Rel2 Z b H x d ∧ lenB d ≤ 100 ∧ ∀ H', Same H H' → Q (.bl (rowsB d)) H'
theorem ok_rows {Z : Nat → Addr} {RW : Addr} (T : Txt mg) (OZ : ∀ k, ObjK K (Z k)) (R : RowK K Z RW) (mRow : mg "Row" = some (.ref RW)) (g_is_sequence : Has P w K mg base 1 "is_sequence" ["value"] (spSeq Z)) (F : DefAt K mg "are_rows" s_are_rows ["value"]) : Has P w K mg base 2 "are_rows" ["value"] (spRows Z) := by
  refine F.has sc_are_rows (fun vs H Q E h => ?_) (fun f cdv A outer s H vs Q E hr h => ?_)
  · obtain ⟨b, x, d, rfl, _⟩ := h
    rfl
  · obtain ⟨b, x, d, rfl, r, l, k⟩ := h
    refine ⟨_, (pss_one (ps_ret (pe_and (pe_callHas g_is_sequence (hr.mono (by decide)) rfl (pa_cons (pv 0) pa_nil)) (pe_one (pe_callB (cr_all rfl) (by rfl) T.z_all (by decide +kernel) (pa_cons (pe_lc (own := [("part", 1)]) (g := gName 1) (by rfl) sc_are_rows.nd (pi_seq (pv 0)) (blkOk_by (own := [("part", 1)]) (N := n_are_rows) (sc := defScope s_are_rows) (by decide +kernel)) (fun _ _ _ _ _ => (pg_name (i := 1) sc_are_rows.nd rfl (Or.inl rfl))) (fun _ _ _ _ _ => pts_nil) (fun _ _ _ _ _ => (pe_callB (call_isi_in (K := K) rfl) (by rfl) T.z_isinstance (by decide +kernel) (pa_cons (pv 1) (pa_cons (pe_glob (v := .ref RW) rfl mRow rfl) pa_nil))))) pa_nil)))))), ?_⟩
    refine ⟨_, rfl, b, x, d, rfl, r, fun H1 s1 => ⟨_, rfl, ?_⟩⟩
    cases d with
    | a y => exact iteSf rfl (k _ s1)
    | s t xs =>
      obtain ⟨a, as, rfl, na, ha, ps⟩ := id r
      have l1 : xs.length ≤ 100 := l
      have las := ps.len
      have k' : ∀ H', Same H H' → Q (.bl (xs.all (at1 rowA))) H' := k
      refine iteSe rfl ?_
      have el : (xs.map (at1 rowA)).length = xs.length := List.length_map _
      have st : ∀ (D : Addr) (i : Nat) (y : V) (H' : Hp), H1 D = none → Same H1 H' → H' D = some (.lst (((xs.map (at1 rowA)).take i).map V.bl)) → as[i]? = some y → ∃ t0, TyX K H' y t0 ∧ ∃ c, PySem.W.kitOne K t0 (.ref RW) = some c ∧ ∃ acc, H' D = some (.lst acc) ∧ acc.length < sizeLine ∧ Same H1 (upd H' D (.lst (acc ++ [V.bl c]))) ∧ upd H' D (.lst (acc ++ [V.bl c])) D = some (.lst (((xs.map (at1 rowA)).take (i + 1)).map V.bl)) := fun D i y H' hD sm hD' e1 => by
        obtain ⟨z, ez, fz⟩ := ps.at' e1
        obtain ⟨t0, h0, k0⟩ := ty_row OZ R (fz.kp (Kp.of (s1.trans sm)))
        refine ⟨t0, h0, _, k0, _, hD', ?_, fun y o w => by rw [upd_ne (ne_of_none w hD)]; exact sm _ _ w, ?_⟩
        · rw [List.length_map, List.length_take, el]; exact Nat.lt_of_le_of_lt (Nat.le_trans (Nat.min_le_right _ _) l1) (by decide)
        · rw [upd_same, List.take_add_one, List.getElem?_map, ez, List.map_append]; rfl
      have fin : ∀ (D : Addr) (H' : Hp), Same H1 H' → H' D = some (.lst (((xs.map (at1 rowA)).take as.length).map V.bl)) → SqL K H' D ((xs.map (at1 rowA)).map V.bl) ∧ Q (.bl ((xs.map (at1 rowA)).all id)) H' := fun D H' sm hD' => by
        rw [show as.length = (xs.map (at1 rowA)).length by rw [el]; exact las, List.take_length] at hD'
        refine ⟨SqL.of hD', ?_⟩
        have := k' _ (s1.trans sm)
        rw [List.all_map]
        exact this
      have ha1 := s1 _ _ ha
      cases t with
      | false =>
        have ha1 : H1 a = some (.lst as) := ha1
        refine .inl ⟨_, rfl, a, rfl, ⟨_, SqL.of ha1⟩, fun D hD => lc_it (walk_list (xs := as)) (fun i H' => Same H1 H' ∧ H' D = some (.lst (((xs.map (at1 rowA)).take i).map V.bl))) ⟨(new_at hD).1, upd_same⟩ (fun i H' _ z => SqL.of (z.1 _ _ ha1)) ?_ ?_⟩
        · rintro i y H' H'' hi ⟨sm, hD'⟩ ⟨rfl, e1⟩
          obtain ⟨t0, h0, c, k0, q⟩ := st D i y _ hD sm hD' e1
          exact ⟨rfl, _, rfl, _, _, t0, _, c, rfl, .own _, h0, k0, q⟩
        · rintro H' ⟨sm, hD'⟩
          obtain ⟨f1, f2⟩ := fin D H' sm hD'
          exact ⟨_, _, rfl, f1, f2⟩
      | true =>
        have ha1 : H1 a = some (.tup as) := ha1
        refine .inr ⟨_, rfl, a, rfl, ⟨_, SqT.of ha1⟩, fun D hD => lc_it (walk_tup (xs := as)) (fun i H' => Same H1 H' ∧ H' D = some (.lst (((xs.map (at1 rowA)).take i).map V.bl))) ⟨(new_at hD).1, upd_same⟩ (fun i H' _ z => SqT.of (z.1 _ _ ha1)) ?_ ?_⟩
        · rintro i y H' H'' hi ⟨sm, hD'⟩ ⟨rfl, e1⟩
          obtain ⟨t0, h0, c, k0, q⟩ := st D i y _ hD sm hD' e1
          exact ⟨rfl, _, rfl, _, _, t0, _, c, rfl, .own _, h0, k0, q⟩
        · rintro H' ⟨sm, hD'⟩
          obtain ⟨f1, f2⟩ := fin D H' sm hD'
          exact ⟨_, _, rfl, f1, f2⟩
/-- names, none twice: what the def that asks for them promises -/
def spNames (Z : Nat → Addr) : Sp := fun vs H Q _ => ∃ (b : Addr) (x : V) (d : D2), vs = [x] ∧ Rel2 Z b H x d ∧ lenB d ≤ 100 ∧ (∀ t xs, d = .s t xs → ∀ e ∈ xs, ∀ s, e = .a (.str s) → s.length ≤ 1000) ∧ ∀ H', Same H H' → Q (.bl (namesB d)) H'
end
end K14

/-! x not in a list of texts, x an instance of a class whose own __eq__ says False to each -/
namespace OE
open PySem PySem.W PySem.SeqAt
open AutoSeq1 (wpAny_loadPart')
open MeetsSeq MeetsSeq2 MeetsSeq3 SeqRoads2
theorem str_eq_declines_plain (b : Str) (u : Tok) (l C dx : Addr) :
    Meets (Builtin.«str.__eq__» ⟨[.str b u, .ref l], []⟩) (fun _ R s => s.heap.get? l = some (instObj C dx) ∧ R (.ok (.ret .notImplemented)) s) :=
  .of_wp fun prog w A R s h => by obtain ⟨hp, g, d, tk, os⟩ := s; obtain ⟨hl, h⟩ := h; wp_walk using wpAny_loadPart' hl, wpAny_load hl; exact ⟨_, rfl, h⟩
section
variable {prog : Program} {w : World} {A : Around} {E : Value → Shared → Prop} {s : Shared} {K : Frag} {x C f dx : Addr} {od : Option Obj} {y : Str} {t : Tok}
theorem str_eq_own {Q : Value → Shared → Prop} (hu : A.units < cLine) (X : K.In s.heap) (J : InstAt s.heap x (instObj C dx) C od) (hst : subIn K (.ref C) (.type "str") = some false) (hs : findIn K (.ref C) "__eq__" = some (some (.ref f))) (hf : isFn K (.ref f) = true)
    (h : wpAny (model prog w) A (call (.ref f) [.ref x, .str y t]) (fun v s' => ∃ r, v = .bool r ∧ Q (.bool r) s') E s) : wpAny (model prog w) A (richCompare .Eq (.str y t) (.ref x)) Q E s := by
  have nots : ∀ Q' : Value → Shared → Prop, Q' .notImplemented s → wpAny (model prog w) A (call (.builtin "str.__eq__") [.str y t, .ref x]) Q' E s := fun Q' q => call_meets PySem.F.slot_str_eq (typeIs_str s y t) PySem.F.entry_str_eq (PySem.F.args_str_eq_2 _ _) (str_eq_declines_plain y t x C dx) ⟨J.at_, q⟩
  have one : wpAny (model prog w) A (tryCompare (.ref x) (cmpInfo .Eq).2.2 (.str y t)) (fun r s' => ∃ v, r = some v ∧ Q v s') E s := by
    unfold tryCompare
    refine wpAny_bind (ifBound_K X J hs hf (wpAny_mono h (fun v s' z => ?_) fun _ _ e => e))
    obtain ⟨r, rfl, q⟩ := z
    exact wpAny_pure ⟨_, rfl, q⟩
  have nt : (Value.type "str" != Value.ref C) = true := rfl
  unfold richCompare
  simp only [(typeIs_str s y t).oneThing_none]
  refine wpAny_holding (wpAny_bind (wpAny_cRoomFor hu ?_))
  refine wpAny_bind (wpAny_typeOf (typeIs_str s y t) (wpAny_bind (J.type.here ?_)))
  simp only [nt, if_true]
  refine wpAny_bind ((looks_subIn X hst).here ?_)
  simp only [Bool.false_eq_true, if_false, Bool.not_false, if_true]
  refine wpAny_bind (m := tryCompare (.str y t) _ (.ref x)) (wpAny_tryCompare_declines (typeIs_str s y t) PySem.F.slot_str_eq (nots _ ⟨rfl, ?_⟩))
  refine wpAny_bind (m := tryCompare (.ref x) _ (.str y t)) (wpAny_mono one (fun r s' z => ?_) fun _ _ e => e)
  obtain ⟨v, rfl, q⟩ := z
  exact wpAny_pure q
theorem eqBool_str_own {Q : Bool → Shared → Prop} (hu : A.units < cLine) (X : K.In s.heap) (J : InstAt s.heap x (instObj C dx) C od) (hst : subIn K (.ref C) (.type "str") = some false) (hs : findIn K (.ref C) "__eq__" = some (some (.ref f))) (hf : isFn K (.ref f) = true)
    (h : wpAny (model prog w) A (call (.ref f) [.ref x, .str y t]) (fun v s' => ∃ r, v = .bool r ∧ Q r s') E s) : wpAny (model prog w) A (eqBool (.str y t) (.ref x)) Q E s := by
  unfold eqBool
  refine wpAny_holding ?_
  have ne : (Value.str y t == Value.ref x) = false := rfl
  simp only [ne, Bool.false_eq_true, if_false]
  refine wpAny_bind (str_eq_own hu X J hst hs hf (wpAny_mono h (fun v s' z => ?_) fun _ _ e => e))
  obtain ⟨r, rfl, q⟩ := z
  exact ⟨r, rfl, wpAny_truthy_bool q⟩
end
end OE
namespace L2
open PySem PySem.Spec PyProof.Rows
section
variable {X : Cx} {CX : CXT} {C g : Addr} {k : Nat} {fd : FuncData} {ps : List Str} {sp : Sp} {E : XK}
theorem run_own2 {pins : List (Addr × Obj)} {s : Shared} {σ : St} {H : Hp} {vs : List V} {us : List Value} {Q : VK} {R : Value → Shared → Prop} {A : Around} (F : FnOk X.prog X.w X.K X.mg X.base CX k g fd ps sp) (hr : Room k A) (hA : A.frames = X.A.frames) (hb : Binds X.K fd ps []) (hx : Passes CX X E)
    (I : Inv X pins σ H s) (r : Vals vs us) (q : sp vs H Q E) (hR : ∀ (w : Value) (z : V) (s' : Shared) (H' : Hp), Inv X pins σ H' s' → RelV z w → Q z H' → R w s') : wpAny (model X.prog X.w) A (call (.ref g) us) R X.xe s := by
  have hl := F.len _ _ _ _ q
  have e0 : Env0 X.prog X.w X.K X.mg X.base A X.stack s H := by
    have e := I.env0
    exact ⟨hA.trans e.frames, e.mod, e.bs, e.bsz, e.funs, e.frf, e.hok, e.bare⟩
  refine wpAny_call (codeAny_mono (F.run A X.stack s H ⟨us, []⟩ us vs _ E hr e0 (by
    have := hb s us I.kIn (by rw [List.append_nil, ← r.length]; exact hl)
    simpa using this) r q) fun r' s' hq => ?_)
  cases r' with
  | error e => exact hx pins σ H s e s' I hq
  | ok fl =>
    cases fl with
    | ret w =>
      obtain ⟨z, H', I', rz, q'⟩ := I.after hq
      exact hR w z s' H' I' rz q'
    | next => exact False.elim hq
    | brk => exact False.elim hq
    | cont => exact False.elim hq
open AutoSeq1 (wpAny_loadPart') in
open MeetsSeq MeetsSeq2 MeetsSeq3 SeqRoads2 PySem.SeqAt in
theorem notIn_loop {pins : List (Addr × Obj)} {σ : St} {H : Hp} {A : Around} {R : Result → Shared → Prop} {l x : Addr} {ws : List Str} (hl : SqL X.K H l (ws.map V.str))
    (step : ∀ (y : Str) (t : Tok) (s : Shared), y ∈ ws → Inv X pins σ H s → wpAny (model X.prog X.w) A.in1 (eqBool (.str y t) (.ref x)) (fun r s' => r = false ∧ Inv X pins σ H s') (fun e s' => R (.error e) s') s)
    (fin : ∀ s, Inv X pins σ H s → R (.ok (.ret (.bool false))) s) : ∀ (k i : Nat) (s : Shared), ws.length - i = k → Inv X pins σ H s →
      wpAny (model X.prog X.w) A.in1 (Builtin.«list.__contains__.loop» ⟨[.ref l, .ref x, rawInt i], []⟩) (GQ.FinOf X.prog X.w A R) (fun e s' => R (.error e) s') s := by
  intro k
  induction k with
  | zero =>
    intro i s hk I
    obtain ⟨its, r, pl, _⟩ := I.list hl
    obtain ⟨⟨oc, od, dt, sl⟩, ho, hc, n, hd⟩ := pl.isList
    simp only at hc hd
    subst hc hd
    have sz : its.length = ws.length := by rw [← r.length, List.length_map]
    have e : its.toArray[((i : Nat) : Int).toNat]? = none := by simp; omega
    have q := fin s I
    obtain ⟨hp, g, d, tk, os⟩ := s
    wp_walk using wpAny_loadPart' ho
    rw [e]
    wp_walk
    exact q
  | succ k ih =>
    intro i s hk I
    obtain ⟨its, r, pl, _⟩ := I.list hl
    obtain ⟨⟨oc, od, dt, sl⟩, ho, hc, n, hd⟩ := pl.isList
    simp only at hc hd
    subst hc hd
    have sz : its.length = ws.length := by rw [← r.length, List.length_map]
    have hi : i < ws.length := by omega
    obtain ⟨u, eu, t, hu⟩ := r.get (i := i) (x := .str ws[i]) (by simp [hi])
    subst hu
    have e : its.toArray[((i : Nat) : Int).toNat]? = some (Value.str ws[i] t) := by simp [eu]
    have st := step ws[i] t s (List.getElem_mem hi) I
    have up : ((i : Int) + 1) = ((i + 1 : Nat) : Int) := by omega
    obtain ⟨hp, g, d, tk, os⟩ := s
    wp_walk using wpAny_loadPart' ho
    rw [e]
    refine wpAny_bind (wpAny_mono st (fun b s2 z => ?_) fun _ _ z => z)
    obtain ⟨rfl, I2⟩ := z
    have go := ih (i + 1) s2 (by omega) I2
    obtain ⟨hp2, g2, d2, tk2, os2⟩ := s2
    wp_walk
    rw [up]
    exact ⟨plainId_quiet plain_contains_loop _, codeAny_builtin entry_contains_loop (by
      rw [Around.under_plainId plain_contains_loop _]
      exact go)⟩
/-- x not in a list of texts, x of the own class C, whose own == with a text says False -/
def rNotInO (K : PySem.W.Frag) (C : Addr) (sp : Sp) (E : XK) : R2 := fun x y H Q => ∃ a dx fs l, ∃ ws : List Str, x = .ref a ∧ H a = some (.ins C dx fs) ∧ y = .ref l ∧ SqL K H l (ws.map V.str) ∧ (∀ w ∈ ws, ∀ Q' : VK, Q' (.bl false) H → sp [.ref a, .str w] H Q' E) ∧ Q (.bl true) H
open AutoSeq1 (wpAny_loadPart') in
open MeetsSeq MeetsSeq2 MeetsSeq3 SeqRoads2 PySem.SeqAt in
theorem op_notInO (hst : PySem.W.subIn X.K (.ref C) (.type "str") = some false) (hs : PySem.W.findIn X.K (.ref C) "__eq__" = some (some (.ref g))) (hf : PySem.W.isFn X.K (.ref g) = true) (F : FnOk X.prog X.w X.K X.mg X.base CX k g fd ps sp) (hr : Room (k + 3) X.A) (hb : Binds X.K fd ps []) (hx : Passes CX X E) :
    OpR X (compareOp .NotIn) (rNotInO X.K C sp E) := by
  intro pins s σ H x y v u Q I rx ry h
  obtain ⟨a, dx, fs, l, ws, rfl, ha, rfl, hl, hq, q⟩ := h
  cases rx
  cases ry
  obtain ⟨its, r, pl, _⟩ := I.list hl
  obtain ⟨⟨oc, od, dt, sl⟩, ho, hc, n, hd⟩ := pl.isList
  simp only at hc hd
  subst hc hd
  have step : ∀ {A : Around} (_ : Room k A) (_ : A.frames = X.A.frames) (y : Str) (t : Tok) (s : Shared), y ∈ ws → Inv X pins σ H s → wpAny (model X.prog X.w) A (eqBool (.str y t) (.ref a)) (fun r s' => r = false ∧ Inv X pins σ H s') X.xe s := fun rm fr y t s m I => by
    obtain ⟨mA, J, _⟩ := ins_get I.hok ha
    obtain ⟨od, J, _⟩ := J.look
    refine OE.eqBool_str_own rm.units0 I.kIn J hst hs hf ?_
    refine run_own2 F rm fr hb hx I (show Vals [V.ref a, V.str y] [Value.ref a, Value.str y t] from .cons rfl (.cons ⟨t, rfl⟩ .nil)) (hq y m (fun z H' => z = .bl false ∧ H' = H) ⟨rfl, rfl⟩) fun w z s' H' I' rz qz => ?_
    obtain ⟨rfl, rfl⟩ := qz
    exact ⟨false, rz, rfl, I'⟩
  show wpAny _ _ (do return Value.bool (!(← contains (.ref l) (.ref a)))) _ _ _
  refine wpAny_bind (wpAny_contains_slot ⟨_, ho, rfl⟩ PySem.F.slot_list_contains ?_)
  refine wpAny_call (codeAny_call_builtin PySem.F.slot_list_contains.plain PySem.F.entry_list_contains (PySem.F.slot_list_contains.check _ _ _ _ _ _ _ _ ⟨_, ho, rfl⟩ (PySem.F.args_list_contains_2 _ _) ?_))
  obtain ⟨hp, g0, d0, tk, os⟩ := s
  wp_walk using wpAny_loadPart' ho
  refine ⟨plainId_quiet plain_contains_loop _, codeAny_builtin entry_contains_loop ?_⟩
  rw [Around.under_plainId plain_contains_loop _]
  refine notIn_loop (A := X.A) (R := fun r s' => match r with | .ok (.ret v) => wpAny (model X.prog X.w) X.A (truthy v) (fun b s' => wpAny (model X.prog X.w) X.A (pure (Value.bool !b)) (EP X pins σ Q) X.xe s') X.xe s' | .ok _ => False | .error e => X.xe e s') hl (fun y t s m I => step ((hr.in1).mono (by omega)) rfl y t s m I) (fun s I => ?_) _ 0 _ rfl I
  exact wpAny_truthy_bool (wpAny_pure ⟨.bl true, H, I, rfl, q⟩)
end
end L2

/-! x in a tuple of texts, x an instance of a class whose own __eq__ says False to each -/
namespace L2
open PySem PySem.Spec PyProof.Rows
section
variable {X : Cx} {CX : CXT} {C g : Addr} {k : Nat} {fd : FuncData} {ps : List Str} {sp : Sp} {E : XK}
open AutoSeq1 (wpAny_loadPart') in
open MeetsSeq MeetsSeq2 MeetsSeq3 SeqRoads2 PySem.SeqAt in
theorem inTup_run {pins : List (Addr × Obj)} {σ : St} {H : Hp} {A : Around} {R : Result → Shared → Prop} {l x : Addr} {items : Array Value} {n : Nat} {dd : Option Addr} {sl : Array (Option Value)} {s : Shared} (hl : s.heap.get? l = some { cls := .type "tuple", dict := dd, data := .seq items n, slots := sl })
    (step : ∀ (y : Value) (s : Shared), y ∈ items → Inv X pins σ H s → wpAny (model X.prog X.w) A.in1 (eqBool y (.ref x)) (fun r s' => r = false ∧ Inv X pins σ H s') (fun e s' => R (.error e) s') s)
    (fin : ∀ s, Inv X pins σ H s → R (.ok (.ret (.bool false))) s) (I : Inv X pins σ H s) : wpAny (model X.prog X.w) A.in1 (Builtin.«tuple.__contains__» ⟨[.ref l, .ref x], []⟩) (GQ.FinOf X.prog X.w A R) (fun e s' => R (.error e) s') s := by
  have I0 := I
  obtain ⟨hp, g, d, tk, os⟩ := s
  wp_walk using wpAny_loadPart' hl, wpAny_forIn_array _ (fun rest b s' => b.1 = none ∧ Inv X pins σ H s' ∧ ∀ y, y ∈ rest → y ∈ items) _
  case turn =>
    rintro y rest b s' ⟨hb, J, hm⟩
    refine wpAny_bind (wpAny_mono (step y s' (hm y (List.mem_cons_self ..)) J) (fun r s2 z => ?_) fun _ _ z => z)
    obtain ⟨rfl, J2⟩ := z
    obtain ⟨hp2, g2, d2, tk2, os2⟩ := s2
    wp_walk
    exact ⟨rfl, J2, fun z hz => hm z (List.mem_cons_of_mem _ hz)⟩
  case fin =>
    rintro ⟨b1, b2⟩ s' ⟨hb, J, -⟩
    simp only at hb
    subst hb
    have q := fin s' J
    obtain ⟨hp2, g2, d2, tk2, os2⟩ := s'
    wp_walk
    exact q
  case h => exact ⟨rfl, I0, fun _ h => by simpa using h⟩
/-- x in a tuple of texts, x of the own class C, whose own == with a text says False -/
def rInTO (K : PySem.W.Frag) (C : Addr) (sp : Sp) (E : XK) : R2 := fun x y H Q => ∃ a dx fs l, ∃ ws : List Str, x = .ref a ∧ H a = some (.ins C dx fs) ∧ y = .ref l ∧ SqT K H l (ws.map V.str) ∧ (∀ w ∈ ws, ∀ Q' : VK, Q' (.bl false) H → sp [.ref a, .str w] H Q' E) ∧ Q (.bl false) H
theorem op_inTO (hst : PySem.W.subIn X.K (.ref C) (.type "str") = some false) (hs : PySem.W.findIn X.K (.ref C) "__eq__" = some (some (.ref g))) (hf : PySem.W.isFn X.K (.ref g) = true) (F : FnOk X.prog X.w X.K X.mg X.base CX k g fd ps sp) (hr : Room (k + 3) X.A) (hb : Binds X.K fd ps []) (hx : Passes CX X E) :
    OpR X (compareOp .In) (rInTO X.K C sp E) := by
  intro pins s σ H x y v u Q I rx ry h
  obtain ⟨a, dx, fs, l, ws, rfl, ha, rfl, hl, hq, q⟩ := h
  cases rx
  cases ry
  obtain ⟨its, r, pl, _⟩ := I.tuple hl
  obtain ⟨⟨oc, od, dt, sl⟩, ho, hc, n, hd⟩ := pl
  simp only at hc hd
  subst hc hd
  have at' : ∀ y ∈ its, ∃ (z : Str) (t : Tok), z ∈ ws ∧ y = .str z t := fun y hy => by
    obtain ⟨i, hi, e⟩ := List.mem_iff_getElem.mp hy
    have sz : its.length = ws.length := by rw [← r.length, List.length_map]
    have hw : i < ws.length := by omega
    obtain ⟨u, eu, t, hu⟩ := r.get (i := i) (x := .str ws[i]) (by simp [hw])
    rw [List.getElem?_eq_getElem hi] at eu
    exact ⟨ws[i], t, List.getElem_mem hw, by rw [← e, Option.some.inj eu]; exact hu⟩
  have step : ∀ {A : Around} (_ : Room k A) (_ : A.frames = X.A.frames) (y : Value) (s : Shared), y ∈ its → Inv X pins σ H s → wpAny (model X.prog X.w) A (eqBool y (.ref a)) (fun r s' => r = false ∧ Inv X pins σ H s') X.xe s := fun rm fr y s m I => by
    obtain ⟨z, t, mz, rfl⟩ := at' y m
    obtain ⟨mA, J, _⟩ := ins_get I.hok ha
    obtain ⟨od, J, _⟩ := J.look
    refine OE.eqBool_str_own rm.units0 I.kIn J hst hs hf ?_
    refine run_own2 F rm fr hb hx I (show Vals [V.ref a, V.str z] [Value.ref a, Value.str z t] from .cons rfl (.cons ⟨t, rfl⟩ .nil)) (hq z mz (fun z H' => z = .bl false ∧ H' = H) ⟨rfl, rfl⟩) fun w z s' H' I' rz qz => ?_
    obtain ⟨rfl, rfl⟩ := qz
    exact ⟨false, rz, rfl, I'⟩
  show wpAny _ _ (do return Value.bool (← contains (.ref l) (.ref a))) _ _ _
  refine wpAny_bind (wpAny_contains_slot ⟨_, ho, rfl⟩ PySem.F.slot_tuple_contains ?_)
  refine wpAny_call (codeAny_call_builtin PySem.F.slot_tuple_contains.plain PySem.F.entry_tuple_contains (PySem.F.slot_tuple_contains.check _ _ _ _ _ _ _ _ ⟨_, ho, rfl⟩ (PySem.F.args_tuple_contains_2 _ _) ?_))
  refine inTup_run (A := X.A) (R := fun r s' => match r with | .ok (.ret v) => wpAny (model X.prog X.w) X.A (truthy v) (fun b s' => wpAny (model X.prog X.w) X.A (pure (Value.bool b)) (EP X pins σ Q) X.xe s') X.xe s' | .ok _ => False | .error e => X.xe e s') ho (fun y s m I => step ((hr.in1).mono (by omega)) rfl y s (by simpa using m) I) (fun s I => ?_) I
  exact wpAny_truthy_bool (wpAny_pure ⟨.bl false, H, I, rfl, q⟩)
end
end L2

set_option pp.maxSteps 600
namespace L2
open PySem PySem.Spec PyProof.Rows
theorem op_both {X : Cx} {o : Value → Value → Sem Value} {R S : R2} (a : OpR X o R) (b : OpR X o S) : OpR X o (fun x y H Q => R x y H Q ∨ S x y H Q) := fun pins s σ H x y v u Q I rx ry h => h.elim (fun h => a pins s σ H x y v u Q I rx ry h) (fun h => b pins s σ H x y v u Q I rx ry h)
def eNever : TE := fun _ _ _ => False
theorem pe_nev {X : Cx} {e : Expr} : PE X e eNever := ⟨fun _ _ _ _ _ _ h => h.elim⟩
end L2
namespace K14
open PySem L2 PySem.Spec PyProof.Rows
theorem units5 {k : Nat} {A : Around} (r : Room (k + 1) A) : A.units + 65 < cLine := by have := r.un; omega
/-- an own class with these attributes of its instances alone -/
structure ClsA (K : PySem.W.Frag) (mg : Str → Option Value) (nm : Str) (C : Addr) (as : List Str) : Prop where
  cl : Cls K C
  n : ∀ a ∈ as, NoAttr K C a
  m : mg nm = some (.ref C)
/-- one argument, right or refused by its part -/
def spOne (Z : Nat → Addr) (C IR : Addr) (part : Str) (ok : D2 → Bool) (cond : D2 → Prop) : Sp := fun vs H Q E => ∃ (b x dx : Addr) (v : V) (d : D2), vs = [.ref x, v] ∧ H x = some (.ins C dx []) ∧ Rel2 Z b H v d ∧ cond d ∧
  (ok d = true → ∀ H', (∀ y o, y ≠ x → H y = some o → H' y = some o) → (∃ fs, H' x = some (.ins C dx fs)) → Q .non H') ∧
  (ok d = false → ∀ (H' : Hp) (e : Addr), Same H H' → H e = none → H' e = some (.xd [("part", .str part)]) → E (.ref IR) (some e) H')
def sh0 (d : D2) : Prop := ∀ s, d = .a (.str s) → s.length ≤ 1000
section
variable {P : Program} {w : World} {K : PySem.W.Frag} {mg : Str → Option Value} {base : Heap}
abbrev s_Was_init : Stmt := inClass (top 27) 0
abbrev n_Was_init : List Str := ["self", "kind"]
theorem sc_Was_init : FnScope n_Was_init ["self", "kind"] (defScope s_Was_init) := ⟨rfl, rfl, rfl, by decide +kernel, rfl, by decide +kernel, by decide +kernel⟩
theorem ok_was {Z : Nat → Addr} {C IR fI : Addr} {fd : FuncData} (T : Txt mg) (CE : ClsA K mg "Was" C ["kind"]) (g_check : HasX P w K mg base 3 "check" ["holds", "part"] (spCheck IR)) (g_is_kind : Has P w K mg base 2 "is_kind" ["value"] (spKind Z))
    (F : FunD K "__init__" "Was.__init__" (defArgs s_Was_init) (defBody s_Was_init) (defScope s_Was_init) [] [] fI fd) : FnOk P w K mg base (L2.CX P w) 4 fI fd ["self", "kind"] (spOne Z C IR "kind" kindB fun d => ok2 d = true ∧ sh0 d) := by
  refine F.ok sc_Was_init (fun vs H Q E h => ?_) (fun cdv A outer s H vs Q E hr h => ?_)
  · obtain ⟨b, x, dx, v, d, rfl, _⟩ := h
    rfl
  · obtain ⟨b, x, dx, v, d, rfl, hx, r, ⟨c1, c2⟩, kQ, kE⟩ := h
    refine ⟨_, (pss_cons (ps_expr (pe_callHasX g_check (hr.mono (by decide)) rfl (passOut rfl rfl rfl rfl) (pa_cons (pe_callHas g_is_kind (hr.mono (by decide)) rfl (pa_cons (pv 1) pa_nil)) (pa_cons pe_str pa_nil))))
      (pss_one (ps_fld (pv 0) (pv 1) rfl))), ?_⟩
    refine ⟨_, rfl, b, _, d, rfl, r, c1, c2, _, _, rfl, fun c => ?_, fun c => kE c⟩
    refine ⟨_, rfl, _, rfl, x, C, dx, _, rfl, hx, CE.cl, CE.n _ (by simp), (by show 0 < 1000; decide), ?_⟩
    exact kQ c _ (fun y o hy h0 => (upd_ne hy).trans h0) ⟨_, upd_same⟩
abbrev s_OldBelow_init : Stmt := inClass (top 28) 0
abbrev n_OldBelow_init : List Str := ["self", "number"]
theorem sc_OldBelow_init : FnScope n_OldBelow_init ["self", "number"] (defScope s_OldBelow_init) := ⟨rfl, rfl, rfl, by decide +kernel, rfl, by decide +kernel, by decide +kernel⟩
theorem ok_oldBelow {Z : Nat → Addr} {C IR fI : Addr} {fd : FuncData} (T : Txt mg) (CE : ClsA K mg "OldBelow" C ["number"]) (g_check : HasX P w K mg base 3 "check" ["holds", "part"] (spCheck IR)) (g_is_integer : Has P w K mg base 1 "is_integer" ["value"] (spInt Z))
    (F : FunD K "__init__" "OldBelow.__init__" (defArgs s_OldBelow_init) (defBody s_OldBelow_init) (defScope s_OldBelow_init) [] [] fI fd) : FnOk P w K mg base (L2.CX P w) 4 fI fd ["self", "number"] (spOne Z C IR "number" (at2 int0) fun _ => True) := by
  refine F.ok sc_OldBelow_init (fun vs H Q E h => ?_) (fun cdv A outer s H vs Q E hr h => ?_)
  · obtain ⟨b, x, dx, v, d, rfl, _⟩ := h
    rfl
  · obtain ⟨b, x, dx, v, d, rfl, hx, r, _, kQ, kE⟩ := h
    refine ⟨_, (pss_cons (ps_expr (pe_callHasX g_check (hr.mono (by decide)) rfl (passOut rfl rfl rfl rfl) (pa_cons (pe_callHas g_is_integer (hr.mono (by decide)) rfl (pa_cons (pv 1) pa_nil)) (pa_cons pe_str pa_nil))))
      (pss_one (ps_fld (pv 0) (pv 1) rfl))), ?_⟩
    refine ⟨_, rfl, b, _, d, rfl, r, _, _, rfl, fun c => ?_, fun c => kE c⟩
    refine ⟨_, rfl, _, rfl, x, C, dx, _, rfl, hx, CE.cl, CE.n _ (by simp), (by show 0 < 1000; decide), ?_⟩
    exact kQ c _ (fun y o hy h0 => (upd_ne hy).trans h0) ⟨_, upd_same⟩
abbrev s_NewBelow_init : Stmt := inClass (top 29) 0
abbrev n_NewBelow_init : List Str := ["self", "number"]
theorem sc_NewBelow_init : FnScope n_NewBelow_init ["self", "number"] (defScope s_NewBelow_init) := ⟨rfl, rfl, rfl, by decide +kernel, rfl, by decide +kernel, by decide +kernel⟩
theorem ok_newBelow {Z : Nat → Addr} {C IR fI : Addr} {fd : FuncData} (T : Txt mg) (CE : ClsA K mg "NewBelow" C ["number"]) (g_check : HasX P w K mg base 3 "check" ["holds", "part"] (spCheck IR)) (g_is_integer : Has P w K mg base 1 "is_integer" ["value"] (spInt Z))
    (F : FunD K "__init__" "NewBelow.__init__" (defArgs s_NewBelow_init) (defBody s_NewBelow_init) (defScope s_NewBelow_init) [] [] fI fd) : FnOk P w K mg base (L2.CX P w) 4 fI fd ["self", "number"] (spOne Z C IR "number" (at2 int0) fun _ => True) := by
  refine F.ok sc_NewBelow_init (fun vs H Q E h => ?_) (fun cdv A outer s H vs Q E hr h => ?_)
  · obtain ⟨b, x, dx, v, d, rfl, _⟩ := h
    rfl
  · obtain ⟨b, x, dx, v, d, rfl, hx, r, _, kQ, kE⟩ := h
    refine ⟨_, (pss_cons (ps_expr (pe_callHasX g_check (hr.mono (by decide)) rfl (passOut rfl rfl rfl rfl) (pa_cons (pe_callHas g_is_integer (hr.mono (by decide)) rfl (pa_cons (pv 1) pa_nil)) (pa_cons pe_str pa_nil))))
      (pss_one (ps_fld (pv 0) (pv 1) rfl))), ?_⟩
    refine ⟨_, rfl, b, _, d, rfl, r, _, _, rfl, fun c => ?_, fun c => kE c⟩
    refine ⟨_, rfl, _, rfl, x, C, dx, _, rfl, hx, CE.cl, CE.n _ (by simp), (by show 0 < 1000; decide), ?_⟩
    exact kQ c _ (fun y o hy h0 => (upd_ne hy).trans h0) ⟨_, upd_same⟩
abbrev s_Mark_eq : Stmt := inClass (top 36) 1
abbrev n_Mark_eq : List Str := ["self", "other"]
theorem sc_Mark_eq : FnScope n_Mark_eq ["self", "other"] (defScope s_Mark_eq) := ⟨rfl, rfl, rfl, by decide +kernel, rfl, by decide +kernel, by decide +kernel⟩
/-- == with a text, which is never so -/
def spOwnEq : Sp := fun vs H Q _ => ∃ (a : Addr) (s : Str), vs = [.ref a, .str s] ∧ Q (.bl false) H
theorem ok_markEq {CK fI : Addr} {fd : FuncData} (T : Txt mg) (mMark : mg "Mark" = some (.ref CK)) (kS : PySem.W.kitOne K (.type "str") (.ref CK) = some false) (F : Fun K "__eq__" "Mark.__eq__" s_Mark_eq fI fd) : FnOk P w K mg base CX0 1 fI fd ["self", "other"] spOwnEq := by
  refine F.ok sc_Mark_eq (fun vs H Q E h => ?_) (fun cdv A outer s H vs Q E hr h => ?_)
  · obtain ⟨a, s, rfl, _⟩ := h
    rfl
  · obtain ⟨a, s, rfl, k⟩ := h
    refine ⟨_, (pss_one (ps_ret (pe_and (pe_callB call_isi (by rfl) T.z_isinstance (by decide +kernel) (pa_cons (pv 1) (pa_cons (pe_glob (v := .ref CK) rfl mMark rfl) pa_nil))) (pe_one pe_nev)))), ?_⟩
    exact ⟨_, rfl, _, _, .type "str", _, false, rfl, .own _, .base (.str s), kS, _, rfl, iteSf rfl k⟩
end
end K14

set_option pp.maxSteps 600
namespace K14
open PySem L2 PySem.Spec PyProof.Rows
theorem back {H H' : Hp} (s : Same H H') {d : Addr} (h : H' d = none) : H d = none := by
  cases e : H d with
  | none => rfl
  | some o => rw [s _ _ e] at h; cases h
def inStrs (L : List Str) (d : D2) : Bool := at2 (fun x => match x with | .str s => decide (s ∈ L) | _ => false) d
theorem eqv_str2 (z : Str) (d : D2) : PyData.eqv (.str z) (py2 d) = at2 (fun x => match x with | .str s => decide (s = z) | _ => false) d := by
  cases d with
  | a x =>
    cases x with
    | str s =>
      show PyData.eqv (.str z) (.str s) = decide (s = z)
      by_cases h : s = z
      · subst h; simp [PyData.eqv]
      · have h' : ¬ z = s := fun e => h e.symm
        simp [PyData.eqv, h, h']
    | _ => rfl
  | s t xs => cases t <;> rfl
theorem any_strs (d : D2) : ∀ L : List Str, ((L.map PyData.str).any fun z => PyData.eqv z (py2 d)) = inStrs L d
  | [] => by cases d with
    | a x => cases x <;> rfl
    | s t xs => rfl
  | z :: L => by
    rw [List.map_cons, List.any_cons, any_strs d L, eqv_str2]
    cases d with
    | a x =>
      cases x with
      | str s => simp [inStrs, at2, Bool.decide_or]
      | _ => rfl
    | s t xs => rfl
theorem dps_strs {K : PySem.W.Frag} {H : Hp} : ∀ L : List Str, DpAll K H (L.map V.str) (L.map PyData.str)
  | [] => .nil
  | _ :: L => .cons (.str _) (dps_strs L)
/-- data that may be looked for among texts: plain, or of the own class C -/
def Among (Z : Nat → Addr) (C : Addr) (d : D2) : Prop := ok2 d = true ∨ ∃ k, d = .a (.obj k) ∧ Z k = C
theorem in_op {K : PySem.W.Frag} {Z : Nat → Addr} {C b p : Addr} {H : Hp} {v : V} {d : D2} {L : List Str} {Q : VK} (r : Rel2 Z b H v d) (m : Among Z C d) (hp : SqT K H p (L.map V.str)) (sh : SeqAt.shaped (.tuple (L.map PyData.str)) = true) (q : Q (.bl (inStrs L d)) H) : rInTD K v (.ref p) H Q ∨ rInTO K C spOwnEq E0 v (.ref p) H Q := by
  rcases m with m | ⟨k, rfl, e⟩
  · obtain ⟨p1, p2⟩ := Bool.and_eq_true_iff.mp m
    rw [← any_strs] at q
    exact .inl ⟨py2 d, L.map PyData.str, dp2 r p1, .tup hp (dps_strs L), p2, sh, q⟩
  · obtain ⟨a, dx, fs, rfl, _, h⟩ := r
    rw [e] at h
    exact .inr ⟨a, dx, fs, p, L, rfl, h, rfl, hp, (fun w _ Q' q' => ⟨a, w, rfl, q'⟩), q⟩
section
variable {P : Program} {w : World} {K : PySem.W.Frag} {mg : Str → Option Value} {base : Heap}
def amounts : List Str := ["old", "new", "one"]
def whatB (d : D2) : Bool := inStrs amounts d || at2 name0 d
abbrev s_is_what : Stmt := top 23
abbrev n_is_what : List Str := ["value"]
theorem sc_is_what : FnScope n_is_what ["value"] (defScope s_is_what) := ⟨rfl, rfl, rfl, by decide +kernel, rfl, by decide +kernel, by decide +kernel⟩
def spWhat (Z : Nat → Addr) (CK : Addr) : Sp := fun vs H Q _ => ∃ (b : Addr) (x : V) (d : D2), vs = [x] ∧ Rel2 Z b H x d ∧ Among Z CK d ∧ sh0 d ∧ Q (.bl (whatB d)) H
theorem ok_what {Z : Nat → Addr} {AM CK fK : Addr} {fdK : FuncData} (T : Txt mg) (mAM : mg "AMOUNTS" = some (.ref AM)) (tAM : ∀ H, SqT K H AM (amounts.map V.str)) (stK : PySem.W.subIn K (.ref CK) (.type "str") = some false) (hsK : PySem.W.findIn K (.ref CK) "__eq__" = some (some (.ref fK))) (fnK : PySem.W.isFn K (.ref fK) = true) (g_markEq : FnOk P w K mg base CX0 1 fK fdK ["self", "other"] spOwnEq) (bK : Binds K fdK ["self", "other"] [])
    (g_is_name : Has P w K mg base 1 "is_name" ["value"] (spName Z)) (F : DefAt K mg "is_what" s_is_what ["value"]) : Has P w K mg base 5 "is_what" ["value"] (spWhat Z CK) := by
  refine F.has sc_is_what (fun vs H Q E h => ?_) (fun f cdv A outer s H vs Q E hr h => ?_)
  · obtain ⟨b, x, d, rfl, _⟩ := h
    rfl
  · have hu := units5 (k := 3) hr
    obtain ⟨b, x, d, rfl, r, m, l, k⟩ := h
    refine ⟨_, (pss_one (ps_ret (pe_or (pe_cmpR (op_both (op_inTD hu) (op_inTO stK hsK fnK g_markEq (hr.mono (by decide)) bK pass0)) (pv 0) (pe_glob (v := .ref AM) rfl mAM rfl) (by rfl)) (pe_one (pe_callHas g_is_name (hr.mono (by decide)) rfl (pa_cons (pv 0) pa_nil)))))), ?_⟩
    refine ⟨_, rfl, in_op r m (tAM _) (by decide +kernel) ⟨_, rfl, ?_⟩⟩
    have k' : Q (.bl (inStrs amounts d || at2 name0 d)) H := k
    cases hc : inStrs amounts d with
    | true => rw [hc] at k'; exact iteSe rfl k'
    | false => rw [hc] at k'; exact iteSf rfl ⟨_, rfl, b, x, d, rfl, r, l, k'⟩
abbrev s_Moved_eq : Stmt := inClass (top 30) 0
abbrev n_Moved_eq : List Str := ["self", "other"]
theorem sc_Moved_eq : FnScope n_Moved_eq ["self", "other"] (defScope s_Moved_eq) := ⟨rfl, rfl, rfl, by decide +kernel, rfl, by decide +kernel, by decide +kernel⟩
theorem ok_movedEq {CM fI : Addr} {fd : FuncData} (T : Txt mg) (mMoved : mg "Moved" = some (.ref CM)) (kS : PySem.W.kitOne K (.type "str") (.ref CM) = some false) (F : Fun K "__eq__" "Moved.__eq__" s_Moved_eq fI fd) : FnOk P w K mg base CX0 1 fI fd ["self", "other"] spOwnEq := by
  refine F.ok sc_Moved_eq (fun vs H Q E h => ?_) (fun cdv A outer s H vs Q E hr h => ?_)
  · obtain ⟨a, s, rfl, _⟩ := h
    rfl
  · obtain ⟨a, s, rfl, k⟩ := h
    refine ⟨_, (pss_one (ps_ret (pe_and (pe_callB call_isi (by rfl) T.z_isinstance (by decide +kernel) (pa_cons (pv 1) (pa_cons (pe_glob (v := .ref CM) rfl mMoved rfl) pa_nil))) (pe_one pe_nev)))), ?_⟩
    exact ⟨_, rfl, _, _, .type "str", _, false, rfl, .own _, .base (.str s), kS, _, rfl, iteSf rfl k⟩
def marks : List Str := ["old", "new", "none"]
abbrev s_Mark_init : Stmt := inClass (top 36) 0
abbrev n_Mark_init : List Str := ["self", "place"]
theorem sc_Mark_init : FnScope n_Mark_init ["self", "place"] (defScope s_Mark_init) := ⟨rfl, rfl, rfl, by decide +kernel, rfl, by decide +kernel, by decide +kernel⟩
theorem ok_mark {Z : Nat → Addr} {C IR CM fM fI : Addr} {fd fdM : FuncData} (T : Txt mg) (CE : ClsA K mg "Mark" C ["place"]) (g_check : HasX P w K mg base 3 "check" ["holds", "part"] (spCheck IR)) (stM : PySem.W.subIn K (.ref CM) (.type "str") = some false) (hsM : PySem.W.findIn K (.ref CM) "__eq__" = some (some (.ref fM))) (fnM : PySem.W.isFn K (.ref fM) = true) (g_movedEq : FnOk P w K mg base CX0 1 fM fdM ["self", "other"] spOwnEq) (bM : Binds K fdM ["self", "other"] [])
    (F : FunD K "__init__" "Mark.__init__" (defArgs s_Mark_init) (defBody s_Mark_init) (defScope s_Mark_init) [] [] fI fd) : FnOk P w K mg base (L2.CX P w) 5 fI fd ["self", "place"] (spOne Z C IR "place" (inStrs marks) fun d => Among Z CM d) := by
  refine F.ok sc_Mark_init (fun vs H Q E h => ?_) (fun cdv A outer s H vs Q E hr h => ?_)
  · obtain ⟨b, x, dx, v, d, rfl, _⟩ := h
    rfl
  · have hu := units5 (k := 3) hr
    obtain ⟨b, x, dx, v, d, rfl, hx, r, m, kQ, kE⟩ := h
    refine ⟨_, (pss_cons (ps_expr (pe_callHasX g_check (hr.mono (by decide)) rfl (passOut rfl rfl rfl rfl) (pa_cons (pe_cmpR (op_both (op_inTD hu) (op_inTO stM hsM fnM g_movedEq (hr.mono (by decide)) bM pass0)) (pv 1) (pe_tup (pa_cons pe_str (pa_cons pe_str (pa_cons pe_str pa_nil)))) (by rfl)) (pa_cons pe_str pa_nil))))
      (pss_one (ps_fld (pv 0) (pv 1) rfl))), ?_⟩
    refine ⟨_, rfl, (by decide : 3 ≤ sizeLine), fun t ht => ?_⟩
    obtain ⟨s1, h1⟩ := new_at (o := .tup (marks.map V.str)) ht
    refine in_op (L := marks) (r.kp (Kp.of s1)) m (SqT.of h1) (by decide +kernel) ⟨_, _, rfl, fun c => ?_, fun c H' e q1 q2 q3 => ?_⟩
    · refine ⟨_, rfl, _, rfl, x, C, dx, _, rfl, s1 _ _ hx, CE.cl, CE.n _ (by simp), (by show 0 < 1000; decide), ?_⟩
      exact kQ c _ (fun y o hy h0 => (upd_ne hy).trans (s1 _ _ h0)) ⟨_, upd_same⟩
    · exact kE c H' e (s1.trans q1) (back s1 q2) q3
end
end K14

set_option pp.maxSteps 600
namespace K14
open PySem L2 PySem.Spec PyProof.Rows
def isTest (k : Nat) : Bool := k == 0 || k == 2 || k == 3 || k == 6
def testA : Atom → Bool
  | .obj k => isTest k
  | _ => false
structure TestK (K : PySem.W.Frag) (Z : Nat → Addr) (TS : Addr) : Prop where
  nn : PySem.W.kitOne K (.type "NoneType") (.ref TS) = some false
  bl : PySem.W.kitOne K (.type "bool") (.ref TS) = some false
  int : PySem.W.kitOne K (.type "int") (.ref TS) = some false
  str : PySem.W.kitOne K (.type "str") (.ref TS) = some false
  lst : PySem.W.kitOne K (.type "list") (.ref TS) = some false
  tup : PySem.W.kitOne K (.type "tuple") (.ref TS) = some false
  obj : ∀ k, PySem.W.kitOne K (.ref (Z k)) (.ref TS) = some (isTest k)
theorem ty_test {K : PySem.W.Frag} {Z : Nat → Addr} {TS b : Addr} {H : Hp} {v : V} (OZ : ∀ k, ObjK K (Z k)) (R : TestK K Z TS) {d : D2} (h : Rel2 Z b H v d) : ∃ t, TyX K H v t ∧ PySem.W.kitOne K t (.ref TS) = some (at2 testA d) := by
  cases d with
  | a x =>
    cases x with
    | non => cases (show v = .non from h); exact ⟨_, .base .non, R.nn⟩
    | bl c => cases (show v = .bl c from h); exact ⟨_, .base (.bl c), R.bl⟩
    | int i => cases (show v = .int i from h); exact ⟨_, .base (.int i), R.int⟩
    | str s => cases (show v = .str s from h); exact ⟨_, .base (.str s), R.str⟩
    | obj k => exact ⟨_, ty_obj OZ (k := k) h, R.obj k⟩
  | s t xs =>
    obtain ⟨p, as, rfl, _, e, _⟩ := h
    cases t
    · exact ⟨_, .base (.lst e), R.lst⟩
    · exact ⟨_, .base (.tup e), R.tup⟩
section
variable {P : Program} {w : World} {K : PySem.W.Frag} {mg : Str → Option Value} {base : Heap}
abbrev s_Not_init : Stmt := inClass (top 32) 0
abbrev n_Not_init : List Str := ["self", "test"]
theorem sc_Not_init : FnScope n_Not_init ["self", "test"] (defScope s_Not_init) := ⟨rfl, rfl, rfl, by decide +kernel, rfl, by decide +kernel, by decide +kernel⟩
theorem ok_not {Z : Nat → Addr} {C IR TS fI : Addr} {fd : FuncData} (T : Txt mg) (OZ : ∀ k, ObjK K (Z k)) (TK : TestK K Z TS) (mTest : mg "Test" = some (.ref TS)) (CE : ClsA K mg "Not" C ["test"]) (g_check : HasX P w K mg base 3 "check" ["holds", "part"] (spCheck IR))
    (F : FunD K "__init__" "Not.__init__" (defArgs s_Not_init) (defBody s_Not_init) (defScope s_Not_init) [] [] fI fd) : FnOk P w K mg base (L2.CX P w) 4 fI fd ["self", "test"] (spOne Z C IR "test" (at2 testA) fun _ => True) := by
  refine F.ok sc_Not_init (fun vs H Q E h => ?_) (fun cdv A outer s H vs Q E hr h => ?_)
  · obtain ⟨b, x, dx, v, d, rfl, _⟩ := h
    rfl
  · obtain ⟨b, x, dx, v, d, rfl, hx, r, _, kQ, kE⟩ := h
    refine ⟨_, (pss_cons (ps_expr (pe_callHasX g_check (hr.mono (by decide)) rfl (passOut rfl rfl rfl rfl) (pa_cons (pe_callB (call_isi_in (K := K) rfl) (by rfl) T.z_isinstance (by decide +kernel) (pa_cons (pv 1) (pa_cons (pe_glob (v := .ref TS) rfl mTest rfl) pa_nil))) (pa_cons pe_str pa_nil))))
      (pss_one (ps_fld (pv 0) (pv 1) rfl))), ?_⟩
    obtain ⟨t1, h1, k1⟩ := ty_test OZ TK r
    refine ⟨_, rfl, _, _, t1, _, _, rfl, .own _, h1, k1, _, _, rfl, fun c => ?_, fun c => kE c⟩
    refine ⟨_, rfl, _, rfl, x, C, dx, _, rfl, hx, CE.cl, CE.n _ (by simp), (by show 0 < 1000; decide), ?_⟩
    exact kQ c _ (fun y o hy h0 => (upd_ne hy).trans h0) ⟨_, upd_same⟩
def putDue (dn dw : D2) : Str := if at2 name0 dn then (if whatB dw then "made" else "what") else "note"
abbrev s_Put_init : Stmt := inClass (top 35) 0
abbrev n_Put_init : List Str := ["self", "note", "what"]
theorem sc_Put_init : FnScope n_Put_init ["self", "note", "what"] (defScope s_Put_init) := ⟨rfl, rfl, rfl, by decide +kernel, rfl, by decide +kernel, by decide +kernel⟩
def spPut (Z : Nat → Addr) (C IR CK : Addr) : Sp := fun vs H Q E => ∃ (b x dx : Addr) (vn vw : V) (dn dw : D2), vs = [.ref x, vn, vw] ∧ H x = some (.ins C dx []) ∧ Rel2 Z b H vn dn ∧ Rel2 Z b H vw dw ∧ sh0 dn ∧ sh0 dw ∧ Among Z CK dw ∧
  (putDue dn dw = "made" → ∀ H', (∀ y o, y ≠ x → H y = some o → H' y = some o) → (∃ fs, H' x = some (.ins C dx fs)) → Q .non H') ∧
  ∀ p, putDue dn dw = p → p ≠ "made" → ∀ (H' : Hp) (d : Addr), Same H H' → H d = none → H' d = some (.xd [("part", .str p)]) → E (.ref IR) (some d) H'
theorem ok_put {Z : Nat → Addr} {C IR CK fI : Addr} {fd : FuncData} (T : Txt mg) (CE : ClsA K mg "Put" C ["note", "what"]) (g_check : HasX P w K mg base 3 "check" ["holds", "part"] (spCheck IR)) (g_is_name : Has P w K mg base 1 "is_name" ["value"] (spName Z)) (g_is_what : Has P w K mg base 5 "is_what" ["value"] (spWhat Z CK))
    (F : FunD K "__init__" "Put.__init__" (defArgs s_Put_init) (defBody s_Put_init) (defScope s_Put_init) [] [] fI fd) : FnOk P w K mg base (L2.CX P w) 6 fI fd ["self", "note", "what"] (spPut Z C IR CK) := by
  refine F.ok sc_Put_init (fun vs H Q E h => ?_) (fun cdv A outer s H vs Q E hr h => ?_)
  · obtain ⟨b, x, dx, vn, vw, dn, dw, rfl, _⟩ := h
    rfl
  · obtain ⟨b, x, dx, vn, vw, dn, dw, rfl, hx, rn, rw', sn, sw, am, kQ, kE⟩ := h
    refine ⟨_, (pss_cons (ps_expr (pe_callHasX g_check (hr.mono (by decide)) rfl (passOut rfl rfl rfl rfl) (pa_cons (pe_callHas g_is_name (hr.mono (by decide)) rfl (pa_cons (pv 1) pa_nil)) (pa_cons pe_str pa_nil))))
      (pss_cons (ps_expr (pe_callHasX g_check (hr.mono (by decide)) rfl (passOut rfl rfl rfl rfl) (pa_cons (pe_callHas g_is_what (hr.mono (by decide)) rfl (pa_cons (pv 2) pa_nil)) (pa_cons pe_str pa_nil))))
      (pss_cons (ps_fld (pv 0) (pv 1) rfl)
      (pss_one (ps_fld (pv 0) (pv 2) rfl))))), ?_⟩
    refine ⟨_, rfl, b, _, dn, rfl, rn, sn, _, _, rfl, fun c1 => ?_, fun c1 H' d q1 q2 q3 => kE "note" (by unfold putDue; rw [c1]; rfl) (by decide +kernel) H' d q1 q2 q3⟩
    refine ⟨_, rfl, b, _, dw, rfl, rw', am, sw, _, _, rfl, fun c2 => ?_, fun c2 H' d q1 q2 q3 => kE "what" (by unfold putDue; rw [c1, c2]; rfl) (by decide +kernel) H' d q1 q2 q3⟩
    refine ⟨_, rfl, _, rfl, x, C, dx, _, rfl, hx, CE.cl, CE.n _ (by simp), (by show 0 < 1000; decide), ?_⟩
    refine ⟨_, rfl, _, rfl, x, C, dx, _, rfl, upd_same, CE.cl, CE.n _ (by simp), (by show 1 < 1000; decide), ?_⟩
    exact kQ (by unfold putDue; rw [c1, c2]; rfl) _ (fun y o hy h0 => (upd_ne hy).trans ((upd_ne hy).trans h0)) ⟨_, upd_same⟩
def places : List Str := ["old", "new", "noted"]
def addDue (df dw dt dp : D2) : Str := if at2 int0 df then (if whatB dw then (if at2 name0 dt then (if inStrs places dp then "made" else "place") else "total") else "what") else "factor"
abbrev s_Add_init : Stmt := inClass (top 34) 0
abbrev n_Add_init : List Str := ["self", "factor", "what", "total", "place"]
theorem sc_Add_init : FnScope n_Add_init ["self", "factor", "what", "total", "place"] (defScope s_Add_init) := ⟨rfl, rfl, rfl, by decide +kernel, rfl, by decide +kernel, by decide +kernel⟩
def spAdd (Z : Nat → Addr) (C IR CK CM : Addr) : Sp := fun vs H Q E => ∃ (b x dx : Addr) (vf vw vt vp : V) (df dw dt dp : D2), vs = [.ref x, vf, vw, vt, vp] ∧ H x = some (.ins C dx []) ∧ Rel2 Z b H vf df ∧ Rel2 Z b H vw dw ∧ Rel2 Z b H vt dt ∧ Rel2 Z b H vp dp ∧ sh0 dw ∧ Among Z CK dw ∧ sh0 dt ∧ Among Z CM dp ∧
  (addDue df dw dt dp = "made" → ∀ H', (∀ y o, y ≠ x → H y = some o → H' y = some o) → (∃ fs, H' x = some (.ins C dx fs)) → Q .non H') ∧
  ∀ p, addDue df dw dt dp = p → p ≠ "made" → ∀ (H' : Hp) (d : Addr), Same H H' → H d = none → H' d = some (.xd [("part", .str p)]) → E (.ref IR) (some d) H'
theorem ok_add {Z : Nat → Addr} {C IR CK CM fM fI : Addr} {fd fdM : FuncData} (T : Txt mg) (CE : ClsA K mg "Add" C ["factor", "what", "total", "place"]) (g_check : HasX P w K mg base 3 "check" ["holds", "part"] (spCheck IR)) (g_is_integer : Has P w K mg base 1 "is_integer" ["value"] (spInt Z)) (g_is_name : Has P w K mg base 1 "is_name" ["value"] (spName Z)) (g_is_what : Has P w K mg base 5 "is_what" ["value"] (spWhat Z CK))
    (stM : PySem.W.subIn K (.ref CM) (.type "str") = some false) (hsM : PySem.W.findIn K (.ref CM) "__eq__" = some (some (.ref fM))) (fnM : PySem.W.isFn K (.ref fM) = true) (g_movedEq : FnOk P w K mg base CX0 1 fM fdM ["self", "other"] spOwnEq) (bM : Binds K fdM ["self", "other"] [])
    (F : FunD K "__init__" "Add.__init__" (defArgs s_Add_init) (defBody s_Add_init) (defScope s_Add_init) [] [] fI fd) : FnOk P w K mg base (L2.CX P w) 6 fI fd ["self", "factor", "what", "total", "place"] (spAdd Z C IR CK CM) := by
  refine F.ok sc_Add_init (fun vs H Q E h => ?_) (fun cdv A outer s H vs Q E hr h => ?_)
  · obtain ⟨b, x, dx, vf, vw, vt, vp, df, dw, dt, dp, rfl, _⟩ := h
    rfl
  · have hu := units5 (k := 4) hr
    obtain ⟨b, x, dx, vf, vw, vt, vp, df, dw, dt, dp, rfl, hx, rf, rw', rt, rp, sw, aw, st, ap, kQ, kE⟩ := h
    refine ⟨_, (pss_cons (ps_expr (pe_callHasX g_check (hr.mono (by decide)) rfl (passOut rfl rfl rfl rfl) (pa_cons (pe_callHas g_is_integer (hr.mono (by decide)) rfl (pa_cons (pv 1) pa_nil)) (pa_cons pe_str pa_nil))))
      (pss_cons (ps_expr (pe_callHasX g_check (hr.mono (by decide)) rfl (passOut rfl rfl rfl rfl) (pa_cons (pe_callHas g_is_what (hr.mono (by decide)) rfl (pa_cons (pv 2) pa_nil)) (pa_cons pe_str pa_nil))))
      (pss_cons (ps_expr (pe_callHasX g_check (hr.mono (by decide)) rfl (passOut rfl rfl rfl rfl) (pa_cons (pe_callHas g_is_name (hr.mono (by decide)) rfl (pa_cons (pv 3) pa_nil)) (pa_cons pe_str pa_nil))))
      (pss_cons (ps_expr (pe_callHasX g_check (hr.mono (by decide)) rfl (passOut rfl rfl rfl rfl) (pa_cons (pe_cmpR (op_both (op_inTD hu) (op_inTO stM hsM fnM g_movedEq (hr.mono (by decide)) bM pass0)) (pv 4) (pe_tup (pa_cons pe_str (pa_cons pe_str (pa_cons pe_str pa_nil)))) (by rfl)) (pa_cons pe_str pa_nil))))
      (pss_cons (ps_fld (pv 0) (pv 1) rfl)
      (pss_cons (ps_fld (pv 0) (pv 2) rfl)
      (pss_cons (ps_fld (pv 0) (pv 3) rfl)
      (pss_one (ps_fld (pv 0) (pv 4) rfl))))))))), ?_⟩
    refine ⟨_, rfl, b, _, df, rfl, rf, _, _, rfl, fun c1 => ?_, fun c1 H' d q1 q2 q3 => kE "factor" (by unfold addDue; rw [c1]; rfl) (by decide +kernel) H' d q1 q2 q3⟩
    refine ⟨_, rfl, b, _, dw, rfl, rw', aw, sw, _, _, rfl, fun c2 => ?_, fun c2 H' d q1 q2 q3 => kE "what" (by unfold addDue; rw [c1, c2]; rfl) (by decide +kernel) H' d q1 q2 q3⟩
    refine ⟨_, rfl, b, _, dt, rfl, rt, st, _, _, rfl, fun c3 => ?_, fun c3 H' d q1 q2 q3 => kE "total" (by unfold addDue; rw [c1, c2, c3]; rfl) (by decide +kernel) H' d q1 q2 q3⟩
    refine ⟨_, rfl, (by decide : 3 ≤ sizeLine), fun t ht => ?_⟩
    obtain ⟨s1, h1⟩ := new_at (o := .tup (places.map V.str)) ht
    refine in_op (L := places) (rp.kp (Kp.of s1)) ap (SqT.of h1) (by decide +kernel) ⟨_, _, rfl, fun c4 => ?_, fun c4 H' d q1 q2 q3 => kE "place" (by unfold addDue; rw [c1, c2, c3, c4]; rfl) (by decide +kernel) H' d (s1.trans q1) (back s1 q2) q3⟩
    refine ⟨_, rfl, _, rfl, x, C, dx, _, rfl, s1 _ _ hx, CE.cl, CE.n _ (by simp), (by show 0 < 1000; decide), ?_⟩
    refine ⟨_, rfl, _, rfl, x, C, dx, _, rfl, upd_same, CE.cl, CE.n _ (by simp), (by show 1 < 1000; decide), ?_⟩
    refine ⟨_, rfl, _, rfl, x, C, dx, _, rfl, upd_same, CE.cl, CE.n _ (by simp), (by show 2 < 1000; decide), ?_⟩
    refine ⟨_, rfl, _, rfl, x, C, dx, _, rfl, upd_same, CE.cl, CE.n _ (by simp), (by show 3 < 1000; decide), ?_⟩
    exact kQ (by unfold addDue; rw [c1, c2, c3, c4]; rfl) _ (fun y o hy h0 => (upd_ne hy).trans ((upd_ne hy).trans ((upd_ne hy).trans ((upd_ne hy).trans (s1 _ _ h0))))) ⟨_, upd_same⟩
end
end K14

namespace L2
open PySem PySem.Spec PyProof.Rows
/-- a def with two promises: which one is asked may hang on the arguments -/
theorem pe_callEither {X : Cx} {k : Nat} {x : Str} {ps : List Str} {sp1 sp2 : Sp} {p pos : Pos} {e : Expr} {es : List Expr} {t : TA} (G1 : Has X.prog X.w X.K X.mg X.base k x ps sp1) (G2 : Has X.prog X.w X.K X.mg X.base k x ps sp2) (hr : Room k X.A) (hg : Gl X x) (ha : PA X (e :: es) t)
    (hdb : (x == ("__debug__" : Str)) = false := by decide) (he : starEach (e :: es) X.env = (false, eval e X.env) :: starEach es X.env := by rfl) (hpl : (backTo pos (starEach es X.env)).any (·.1) = false := by rfl) :
    PE X (.Call (.Name x p) (e :: es) [] pos) (tCall (fun vs H Q E => sp1 vs H Q E ∨ sp2 vs H Q E) [] E0 t) := by
  obtain ⟨f, fd, F, m, kp, b⟩ := G1
  obtain ⟨f', fd', F', m', _, b'⟩ := G2
  obtain rfl : f = f' := Value.ref.inj (Option.some.inj (m.symm.trans m'))
  refine ⟨fun pins s σ H Q I h => wpAny_Call_Name_kw (ld_glob I hg m ?_ hdb)⟩
  refine PySem.W.callWith_K (h₀ := X.base) I.ok.mod.kin kp (thn (ha.run pos pins s σ H _ I h) fun us s1 q => ?_) he hpl
  obtain ⟨vs, H1, I1, r, q⟩ := q
  refine ⟨I1.kIn, ?_⟩
  rcases q with q | q
  · exact run_fn F hr b .nil pass0 I1 r q
  · exact run_fn F' hr b' .nil pass0 I1 r q
end L2

set_option pp.maxSteps 600
namespace K14
open PySem L2 PySem.Spec PyProof.Rows
/-- the empty tuple of the text at t -/
structure NoRows (K : PySem.W.Frag) (t : Addr) : Prop where
  ex : ∃ (o : Obj) (n : Nat), K.lookup t = some o ∧ o.cls = .type "tuple" ∧ o.data = .seq #[] n
theorem NoRows.sq {K : PySem.W.Frag} {t : Addr} (h : NoRows K t) (H : Hp) : SqT K H t [] := by
  obtain ⟨o, n, l, c, d⟩ := h.ex
  exact .inr ⟨o, _, n, l, c, d, Nat.zero_le _, .nil⟩
section
variable {P : Program} {w : World} {K : PySem.W.Frag} {mg : Str → Option Value} {base : Heap}
def spNoRows (t0 : Addr) : Sp := fun vs H Q _ => vs = [.ref t0] ∧ ∀ H', Same H H' → Q (.bl true) H'
theorem ok_seqK {t0 : Addr} (T : Txt mg) (N : NoRows K t0) (F : DefAt K mg "is_sequence" s_is_sequence ["value"]) : Has P w K mg base 1 "is_sequence" ["value"] (spNoRows t0) := by
  refine F.has sc_is_sequence (fun vs H Q E h => ?_) (fun f cdv A outer s H vs Q E hr h => ?_)
  · obtain ⟨rfl, _⟩ := h
    rfl
  · obtain ⟨rfl, k⟩ := h
    refine ⟨_, (pss_one (ps_ret (pe_callB call_isiT (by rfl) T.z_isinstance (by decide +kernel) (pa_cons (pv 0) (pa_cons (pe_tup (pa_cons (pe_bltn (v := .ty "list") (by rfl) T.z_list (by decide +kernel) rfl) (pa_cons (pe_bltn (v := .ty "tuple") (by rfl) T.z_tuple (by decide +kernel) rfl) pa_nil))) pa_nil))))), ?_⟩
    refine ⟨_, rfl, (by decide : 2 ≤ sizeLine), fun t ht => ?_⟩
    obtain ⟨s1, h1⟩ := new_at (o := .tup [.ty "list", .ty "tuple"]) ht
    obtain ⟨o, n, l, c, d⟩ := N.ex
    exact ⟨_, t, _, _, _, _, rfl, h1, .cons (.ty _) (.cons (.ty _) .nil), .kTuple l c, kitAny_cons (b := false) (kit_ty (by decide +kernel)) (fun _ => kitAny_cons (b := true) (kit_ty (by decide +kernel)) (fun z => nomatch z) (fun _ => rfl)) (fun z => nomatch z), k _ s1⟩
theorem ok_rowsK {RW t0 : Addr} (T : Txt mg) (N : NoRows K t0) (mRow : mg "Row" = some (.ref RW)) (g_is_sequence : Has P w K mg base 1 "is_sequence" ["value"] (spNoRows t0)) (F : DefAt K mg "are_rows" s_are_rows ["value"]) : Has P w K mg base 2 "are_rows" ["value"] (spNoRows t0) := by
  refine F.has sc_are_rows (fun vs H Q E h => ?_) (fun f cdv A outer s H vs Q E hr h => ?_)
  · obtain ⟨rfl, _⟩ := h
    rfl
  · obtain ⟨rfl, k⟩ := h
    refine ⟨_, (pss_one (ps_ret (pe_and (pe_callHas g_is_sequence (hr.mono (by decide)) rfl (pa_cons (pv 0) pa_nil)) (pe_one (pe_callB (cr_all rfl) (by rfl) T.z_all (by decide +kernel) (pa_cons (pe_lc (own := [("part", 1)]) (g := gName 1) (by rfl) sc_are_rows.nd (pi_seq (pv 0)) (blkOk_by (own := [("part", 1)]) (N := n_are_rows) (sc := defScope s_are_rows) (by decide +kernel)) (fun _ _ _ _ _ => (pg_name (i := 1) sc_are_rows.nd rfl (Or.inl rfl))) (fun _ _ _ _ _ => pts_nil) (fun _ _ _ _ _ => (pe_callB (call_isi_in (K := K) rfl) (by rfl) T.z_isinstance (by decide +kernel) (pa_cons (pv 1) (pa_cons (pe_glob (v := .ref RW) rfl mRow rfl) pa_nil))))) pa_nil)))))), ?_⟩
    refine ⟨_, rfl, rfl, fun H1 s1 => ⟨_, rfl, iteSe rfl ?_⟩⟩
    refine .inr ⟨_, rfl, t0, rfl, ⟨_, N.sq _⟩, fun D hD => lc_it (walk_tup (xs := [])) (fun i H' => Same H1 H' ∧ H' D = some (.lst [])) ⟨(new_at hD).1, upd_same⟩ (fun i H' _ z => N.sq _) ?_ ?_⟩
    · rintro i y H' H'' hi _ _
      exact absurd hi (Nat.not_lt_zero _)
    · rintro H' ⟨sm, hD'⟩
      exact ⟨_, [], rfl, SqL.of hD', k _ (s1.trans sm)⟩
/-- rows as they are handed in, or the default -/
def RowsArg (Z : Nat → Addr) (t0 b : Addr) (H : Hp) (v : V) (ok : Bool) : Prop := (∃ d, Rel2 Z b H v d ∧ lenB d ≤ 100 ∧ rowsB d = ok) ∨ (v = .ref t0 ∧ ok = true)
theorem RowsArg.kp {Z : Nat → Addr} {t0 b : Addr} {H H' : Hp} {v : V} {ok : Bool} (h : RowsArg Z t0 b H v ok) (s : Kp b H H') : RowsArg Z t0 b H' v ok := by
  rcases h with ⟨d, r, l, e⟩ | h
  · exact .inl ⟨d, r.kp s, l, e⟩
  · exact .inr h
theorem RowsArg.call {Z : Nat → Addr} {t0 b : Addr} {H : Hp} {v : V} {ok : Bool} {Q : VK} (h : RowsArg Z t0 b H v ok) (q : ∀ H', Same H H' → Q (.bl ok) H') : spRows Z [v] H Q E0 ∨ spNoRows t0 [v] H Q E0 := by
  rcases h with ⟨d, r, l, e⟩ | ⟨rfl, rfl⟩
  · subst e
    exact .inl ⟨b, v, d, rfl, r, l, q⟩
  · exact .inr ⟨rfl, q⟩
/-- what tuple(rows) reads, behind the writes at x -/
theorem RowsArg.tup {K : PySem.W.Frag} {Z : Nat → Addr} {t0 b : Addr} {H : Hp} {v : V} (N : NoRows K t0) (h : RowsArg Z t0 b H v true) {H' : Hp} {x C dx : Addr} {fs : List (Str × V)} (hx : H x = some (.ins C dx fs)) (kp : ∀ y o, y ≠ x → H y = some o → H' y = some o) : ∃ a ys, v = V.ref a ∧ (SqL K H' a ys ∨ SqT K H' a ys) := by
  rcases h with ⟨d, r, l, e⟩ | ⟨rfl, _⟩
  · obtain ⟨t, xs, rfl⟩ : ∃ t xs, d = .s t xs := by
      cases d with
      | a y => cases e
      | s t xs => exact ⟨t, xs, rfl⟩
    obtain ⟨a, as, rfl, na, ha, _⟩ := r
    cases t with
    | false =>
      have ha : H a = some (.lst as) := ha
      exact ⟨a, as, rfl, .inl (SqL.of (kp _ _ (ne_of ha hx fun z => nomatch z) ha))⟩
    | true =>
      have ha : H a = some (.tup as) := ha
      exact ⟨a, as, rfl, .inr (SqT.of (kp _ _ (ne_of ha hx fun z => nomatch z) ha))⟩
  · exact ⟨t0, [], rfl, .inr (N.sq _)⟩
def ifDue (t r o : Bool) : Str := if t then (if r && o then "made" else "row") else "test"
abbrev s_If_init : Stmt := inClass (top 37) 0
abbrev n_If_init : List Str := ["self", "test", "rows", "others"]
theorem sc_If_init : FnScope n_If_init ["self", "test", "rows", "others"] (defScope s_If_init) := ⟨rfl, rfl, rfl, by decide +kernel, rfl, by decide +kernel, by decide +kernel⟩
def spIf (Z : Nat → Addr) (C IR t0 : Addr) : Sp := fun vs H Q E => ∃ (b x dx : Addr) (vt vr vo : V) (dt dr : D2) (o : Bool), vs = [.ref x, vt, vr, vo] ∧ H x = some (.ins C dx []) ∧ Rel2 Z b H vt dt ∧ Rel2 Z b H vr dr ∧ lenB dr ≤ 100 ∧ RowsArg Z t0 b H vo o ∧
  (ifDue (at2 testA dt) (rowsB dr) o = "made" → ∀ H', (∀ y o, y ≠ x → H y = some o → H' y = some o) → (∃ fs, H' x = some (.ins C dx fs)) → Q .non H') ∧
  ∀ p, ifDue (at2 testA dt) (rowsB dr) o = p → p ≠ "made" → ∀ (H' : Hp) (d : Addr), Same H H' → H d = none → H' d = some (.xd [("part", .str p)]) → E (.ref IR) (some d) H'
theorem ok_if {Z : Nat → Addr} {C IR TS t0 fI : Addr} {fd : FuncData} {d1 : V} (T : Txt mg) (OZ : ∀ k, ObjK K (Z k)) (TK : TestK K Z TS) (N : NoRows K t0) (mTest : mg "Test" = some (.ref TS)) (CE : ClsA K mg "If" C ["test", "rows", "others"]) (g_check : HasX P w K mg base 3 "check" ["holds", "part"] (spCheck IR)) (g_are_rows : Has P w K mg base 2 "are_rows" ["value"] (spRows Z)) (g_are_rowsK : Has P w K mg base 2 "are_rows" ["value"] (spNoRows t0))
    (F : FunD K "__init__" "If.__init__" (defArgs s_If_init) (defBody s_If_init) (defScope s_If_init) [d1] [] fI fd) : FnOk P w K mg base (L2.CX P w) 4 fI fd ["self", "test", "rows", "others"] (spIf Z C IR t0) := by
  refine F.ok sc_If_init (fun vs H Q E h => ?_) (fun cdv A outer s H vs Q E hr h => ?_)
  · obtain ⟨b, x, dx, vt, vr, vo, dt, dr, o, rfl, _⟩ := h
    rfl
  · obtain ⟨b, x, dx, vt, vr, vo, dt, dr, o, rfl, hx, rt, rr, lr, ao, kQ, kE⟩ := h
    refine ⟨_, (pss_cons (ps_expr (pe_callHasX g_check (hr.mono (by decide)) rfl (passOut rfl rfl rfl rfl) (pa_cons (pe_callB (call_isi_in (K := K) rfl) (by rfl) T.z_isinstance (by decide +kernel) (pa_cons (pv 1) (pa_cons (pe_glob (v := .ref TS) rfl mTest rfl) pa_nil))) (pa_cons pe_str pa_nil))))
      (pss_cons (ps_expr (pe_callHasX g_check (hr.mono (by decide)) rfl (passOut rfl rfl rfl rfl) (pa_cons (pe_callHas g_are_rows (hr.mono (by decide)) rfl (pa_cons (pv 2) pa_nil)) (pa_cons pe_str pa_nil))))
      (pss_cons (ps_expr (pe_callHasX g_check (hr.mono (by decide)) rfl (passOut rfl rfl rfl rfl) (pa_cons (pe_callEither g_are_rows g_are_rowsK (hr.mono (by decide)) rfl (pa_cons (pv 3) pa_nil)) (pa_cons pe_str pa_nil))))
      (pss_cons (ps_fld (pv 0) (pv 1) rfl)
      (pss_cons (ps_fld (pv 0) (pe_callTy call_tuple_of (by rfl) T.z_tuple (by decide +kernel) (pa_cons (pv 2) pa_nil)) rfl)
      (pss_one (ps_fld (pv 0) (pe_callTy call_tuple_of (by rfl) T.z_tuple (by decide +kernel) (pa_cons (pv 3) pa_nil)) rfl))))))), ?_⟩
    obtain ⟨t1, h1, k1⟩ := ty_test OZ TK rt
    refine ⟨_, rfl, _, _, t1, _, _, rfl, .own _, h1, k1, _, _, rfl, fun c1 => ?_, fun c1 H' d q1 q2 q3 => kE "test" (by rw [c1]; rfl) (by decide +kernel) H' d q1 q2 q3⟩
    refine ⟨_, rfl, b, _, dr, rfl, rr, lr, fun H1 s1 => ⟨_, _, rfl, fun c2 => ?_, fun c2 H' d q1 q2 q3 => kE "row" (by rw [c1, c2]; rfl) (by decide +kernel) H' d (s1.trans q1) (back s1 q2) q3⟩⟩
    refine ⟨_, rfl, (ao.kp (Kp.of s1)).call fun H2 s2 => ⟨_, _, rfl, fun c3 => ?_, fun c3 H' d q1 q2 q3 => kE "row" (by rw [c1, c2, c3]; rfl) (by decide +kernel) H' d ((s1.trans s2).trans q1) (back (s1.trans s2) q2) q3⟩⟩
    have s12 := s1.trans s2
    have hx2 := s12 _ _ hx
    have kq := kQ (by rw [c1, c2, c3]; rfl)
    have ar : RowsArg Z t0 b H2 vr true := .inl ⟨dr, rr.kp (Kp.of s12), lr, c2⟩
    have ao2 : RowsArg Z t0 b H2 vo true := by
      have := ao.kp (Kp.of s12)
      rw [c3] at this
      exact this
    refine ⟨_, rfl, _, rfl, x, C, dx, _, rfl, hx2, CE.cl, CE.n _ (by simp), (by show 0 < 1000; decide), ?_⟩
    have eo : ∀ H' : Hp, (∀ y o, y ≠ x → H2 y = some o → H' y = some o) → ∃ a ys, vo = V.ref a ∧ (SqL K H' a ys ∨ SqT K H' a ys) := fun H' kp => ao2.tup N hx2 kp
    obtain ⟨a, ys, rfl, sq⟩ := ar.tup (H' := upd H2 x (.ins C dx (putF "test" vt []))) N hx2 (fun y o n h => (upd_ne n).trans h)
    rcases sq with sq | sq
    · refine ⟨_, rfl, a, ys, rfl, .inl ⟨sq, fun l hl => ?_⟩⟩
      have s3 := (new_at (o := .tup ys) hl).1
      refine ⟨_, rfl, x, C, dx, _, rfl, s3 _ _ upd_same, CE.cl, CE.n _ (by simp), (by show 1 < 1000; decide), ?_⟩
      obtain ⟨a2, ys2, rfl, sq2⟩ := eo _ (fun y o n h => (upd_ne n).trans (s3 _ _ ((upd_ne n).trans h)))
      rcases sq2 with sq2 | sq2
      · refine ⟨_, rfl, a2, ys2, rfl, .inl ⟨sq2, fun l2 hl2 => ?_⟩⟩
        have s4 := (new_at (o := .tup ys2) hl2).1
        refine ⟨_, rfl, x, C, dx, _, rfl, s4 _ _ upd_same, CE.cl, CE.n _ (by simp), (by show 2 < 1000; decide), ?_⟩
        exact kq _ (fun y o n h => (upd_ne n).trans (s4 _ _ ((upd_ne n).trans (s3 _ _ ((upd_ne n).trans (s12 _ _ h)))))) ⟨_, upd_same⟩
      · refine ⟨_, rfl, a2, ys2, rfl, .inr ⟨sq2, ?_⟩⟩
        have s4 : ∀ {A : Hp}, Same A A := Same.refl _
        refine ⟨_, rfl, x, C, dx, _, rfl, upd_same, CE.cl, CE.n _ (by simp), (by show 2 < 1000; decide), ?_⟩
        exact kq _ (fun y o n h => (upd_ne n).trans ((upd_ne n).trans (s3 _ _ ((upd_ne n).trans (s12 _ _ h))))) ⟨_, upd_same⟩
    · refine ⟨_, rfl, a, ys, rfl, .inr ⟨sq, ?_⟩⟩
      have s3 := Same.refl (upd H2 x (.ins C dx (putF "test" vt [])))
      refine ⟨_, rfl, x, C, dx, _, rfl, s3 _ _ upd_same, CE.cl, CE.n _ (by simp), (by show 1 < 1000; decide), ?_⟩
      obtain ⟨a2, ys2, rfl, sq2⟩ := eo _ (fun y o n h => (upd_ne n).trans (s3 _ _ ((upd_ne n).trans h)))
      rcases sq2 with sq2 | sq2
      · refine ⟨_, rfl, a2, ys2, rfl, .inl ⟨sq2, fun l2 hl2 => ?_⟩⟩
        have s4 := (new_at (o := .tup ys2) hl2).1
        refine ⟨_, rfl, x, C, dx, _, rfl, s4 _ _ upd_same, CE.cl, CE.n _ (by simp), (by show 2 < 1000; decide), ?_⟩
        exact kq _ (fun y o n h => (upd_ne n).trans (s4 _ _ ((upd_ne n).trans (s3 _ _ ((upd_ne n).trans (s12 _ _ h)))))) ⟨_, upd_same⟩
      · refine ⟨_, rfl, a2, ys2, rfl, .inr ⟨sq2, ?_⟩⟩
        have s4 : ∀ {A : Hp}, Same A A := Same.refl _
        refine ⟨_, rfl, x, C, dx, _, rfl, upd_same, CE.cl, CE.n _ (by simp), (by show 2 < 1000; decide), ?_⟩
        exact kq _ (fun y o n h => (upd_ne n).trans ((upd_ne n).trans (s3 _ _ ((upd_ne n).trans (s12 _ _ h))))) ⟨_, upd_same⟩
end
end K14

set_option pp.maxSteps 600
namespace K14
open PySem L2 PySem.Spec PyProof.Rows
/-- what is due, by the parts and whether each argument is right -/
def dueP : List Str → List Bool → Str
  | p :: ps, g :: gs => if g then dueP ps gs else (if p = "mark" then "place" else p)
  | _, _ => "made"
section
variable {P : Program} {w : World} {K : PySem.W.Frag} {mg : Str → Option Value} {base : Heap}
abbrev s_law_due : Stmt := top 54
abbrev n_law_due : List Str := ["_law_parts", "_law_heard", "_law_part", "_law_argument_here"]
theorem sc_law_due : FnScope n_law_due ["_law_parts", "_law_heard"] (defScope s_law_due) := ⟨rfl, rfl, rfl, by decide +kernel, rfl, by decide +kernel, by decide +kernel⟩
def spDueP : Sp := fun vs H Q _ => ∃ (p h : Addr) (parts : List Str) (as : List V) (gs : List Bool), vs = [.ref p, .ref h] ∧ H p = some (.lst (parts.map V.str)) ∧ H h = some (.lst as) ∧ Paired (fun v g => ∃ a u, v = V.ref a ∧ H a = some (.tup [u, .bl g])) as gs ∧ parts.length = gs.length ∧ ∀ H', Same H H' → Q (.str (dueP parts gs)) H'
theorem ok_dueP (T : Txt mg) (F : DefAt K mg "_law_due" s_law_due ["_law_parts", "_law_heard"]) : Has P w K mg base 1 "_law_due" ["_law_parts", "_law_heard"] spDueP := by
  refine F.has sc_law_due (fun vs H Q E h => ?_) (fun f cdv A outer s H vs Q E hr h => ?_)
  · obtain ⟨p, h, parts, as, gs, rfl, _⟩ := h
    rfl
  · obtain ⟨p, h, parts, as, gs, rfl, hp, hh, ps, lg, k⟩ := h
    refine ⟨_, (pss_cons (ps_for PassesOwn.never rfl (pi_zip (by rfl) T.z_zip (pa_cons (pv 0) (pa_cons (pv 1) pa_nil))) (pg_tup rfl (pgs_cons (pg_name (i := 2) sc_law_due.nd rfl (Or.inl rfl)) (pgs_cons (pg_name (i := 3) sc_law_due.nd rfl (Or.inl rfl)) pgs_nil))) (pss_one (ps_if (pt_not (pt_val (pe_ix ix_tup (pv 3) pe_int (fun _ _ => rfl)))) (pss_one (ps_ret (pe_ifExp (pt_cmpR op_eq (pv 2) pe_str (nomark _)) pe_str (pv 2)))) pss_nil)))
      (pss_one (ps_ret pe_str))), ?_⟩
    have la := ps.len
    refine ⟨_, rfl, _, rfl, p, h, _, _, rfl, SqL.of hp, SqL.of hh, for_it (walk_zip (xs := parts.map V.str) (ys := as) (n := parts.length) (by rw [List.length_map, la, lg, Nat.min_self])) (fun i σ H' => Same H H' ∧ dueP (parts.drop i) (gs.drop i) = dueP parts gs ∧ ∃ x2 x3, σ = [some (.ref p), some (.ref h), x2, x3]) ⟨Same.refl _, rfl, _, _, rfl⟩ (fun i σ H' _ z => ⟨SqL.of (z.1 _ _ hp), SqL.of (z.1 _ _ hh)⟩) ?_ ?_⟩
    · rintro i x σ H' H'' hi ⟨sm, ed, x2, x3, rfl⟩ ⟨T', x0, y0, rfl, hT, rfl, ex, ey⟩
      have ex : (parts.map V.str)[i]? = some x0 := ex
      obtain ⟨g, eg, a, u, rfl, ha⟩ := ps.at' ey
      have hg : i < gs.length := by omega
      have ep : x0 = V.str parts[i] := by
        rw [List.getElem?_map, List.getElem?_eq_getElem hi] at ex
        exact (Option.some.inj ex).symm
      have eg' : gs[i] = g := by
        rw [List.getElem?_eq_getElem hg] at eg
        exact Option.some.inj eg
      subst ep
      rw [List.drop_eq_getElem_cons hi, List.drop_eq_getElem_cons hg, eg'] at ed
      obtain ⟨sT, hT'⟩ := new_at (o := .tup [V.str parts[i], V.ref a]) hT
      have sm' := sm.trans sT
      refine ⟨T', _, rfl, SqT.of hT', rfl, _, _, rfl, _, _, rfl, rfl, ?_⟩
      refine ⟨_, rfl, a, [u, .bl g], _, .bl g, rfl, rfl, SqT.of (sm' _ _ ha), rfl, _, rfl, ?_⟩
      cases g with
      | true => exact iteSf rfl ⟨sm', ed, _, _, rfl⟩
      | false =>
        refine iteSe rfl ⟨_, rfl, rfl, _, rfl, ?_⟩
        have kk := k _ sm'
        rw [← ed] at kk
        have e0 : dueP (parts[i] :: parts.drop (i + 1)) (false :: gs.drop (i + 1)) = if parts[i] = "mark" then ("place" : Str) else parts[i] := rfl
        rw [e0] at kk
        by_cases hm : parts[i] = "mark"
        · rw [if_pos hm] at kk
          exact iteSe (decide_eq_true (by rw [hm])) kk
        · rw [if_neg hm] at kk
          exact iteSf (decide_eq_false fun z => hm (by injection z)) ⟨_, rfl, kk⟩
    · rintro σ H' ⟨sm, ed, x2, x3, rfl⟩
      have kk := k _ sm
      rw [← ed, List.drop_length] at kk
      exact kk
end
end K14

set_option pp.maxSteps 600
namespace K14
open PySem L2 PySem.Spec PyProof.Rows
section
variable {Z : Nat → Addr} {C IR CK CM t0 b x dx : Addr} {H : Hp} {Q : VK} {E : XK}
theorem laid (hx : H x = none) (hdx : H dx = none) (nd : dx ≠ x) : Same H (upd (upd H dx (.own x)) x (.ins C dx [])) := by
  have hx1 : upd H dx (.own x) x = none := by rw [upd_ne (fun z => nd z.symm)]; exact hx
  exact (new_at hdx).1.trans (new_at hx1).1
theorem one_made {v : V} {d : D2} {part : Str} {ok : D2 → Bool} {cond : D2 → Prop} (hx : H x = none) (hdx : H dx = none) (nd : dx ≠ x) (r : Rel2 Z b H v d) (c : cond d) (kQ : ok d = true → ∀ H', Same H H' → Q (.ref x) H') (kE : ok d = false → ∀ (H' : Hp) (e : Addr), Same H H' → H e = none → H' e = some (.xd [("part", .str part)]) → E (.ref IR) (some e) H') :
    spOne Z C IR part ok cond [.ref x, v] (upd (upd H dx (.own x)) x (.ins C dx [])) (fun u H2 => u = .non ∧ Q (.ref x) H2) E := by
  have s2 := laid (C := C) hx hdx nd
  exact ⟨b, x, dx, v, d, rfl, upd_same, r.kp (Kp.of s2), c, fun o H' kp _ => ⟨rfl, kQ o H' fun y o h => kp y o (ne_of_none h hx) (s2 _ _ h)⟩, fun o H' e s he hp => kE o H' e (s2.trans s) (back s2 he) hp⟩
theorem put_made {vn vw : V} {dn dw : D2} (hx : H x = none) (hdx : H dx = none) (nd : dx ≠ x) (rn : Rel2 Z b H vn dn) (rw' : Rel2 Z b H vw dw) (sn : sh0 dn) (sw : sh0 dw) (am : Among Z CK dw) (kQ : putDue dn dw = "made" → ∀ H', Same H H' → Q (.ref x) H') (kE : ∀ p, putDue dn dw = p → p ≠ "made" → ∀ (H' : Hp) (e : Addr), Same H H' → H e = none → H' e = some (.xd [("part", .str p)]) → E (.ref IR) (some e) H') :
    spPut Z C IR CK [.ref x, vn, vw] (upd (upd H dx (.own x)) x (.ins C dx [])) (fun u H2 => u = .non ∧ Q (.ref x) H2) E := by
  have s2 := laid (C := C) hx hdx nd
  exact ⟨b, x, dx, vn, vw, dn, dw, rfl, upd_same, rn.kp (Kp.of s2), rw'.kp (Kp.of s2), sn, sw, am, fun o H' kp _ => ⟨rfl, kQ o H' fun y o h => kp y o (ne_of_none h hx) (s2 _ _ h)⟩, fun p o np H' e s he hp => kE p o np H' e (s2.trans s) (back s2 he) hp⟩
theorem add_made {vf vw vt vp : V} {df dw dt dp : D2} (hx : H x = none) (hdx : H dx = none) (nd : dx ≠ x) (rf : Rel2 Z b H vf df) (rw' : Rel2 Z b H vw dw) (rt : Rel2 Z b H vt dt) (rp : Rel2 Z b H vp dp) (sw : sh0 dw) (aw : Among Z CK dw) (st : sh0 dt) (ap : Among Z CM dp) (kQ : addDue df dw dt dp = "made" → ∀ H', Same H H' → Q (.ref x) H') (kE : ∀ p, addDue df dw dt dp = p → p ≠ "made" → ∀ (H' : Hp) (e : Addr), Same H H' → H e = none → H' e = some (.xd [("part", .str p)]) → E (.ref IR) (some e) H') :
    spAdd Z C IR CK CM [.ref x, vf, vw, vt, vp] (upd (upd H dx (.own x)) x (.ins C dx [])) (fun u H2 => u = .non ∧ Q (.ref x) H2) E := by
  have s2 := laid (C := C) hx hdx nd
  exact ⟨b, x, dx, vf, vw, vt, vp, df, dw, dt, dp, rfl, upd_same, rf.kp (Kp.of s2), rw'.kp (Kp.of s2), rt.kp (Kp.of s2), rp.kp (Kp.of s2), sw, aw, st, ap, fun o H' kp _ => ⟨rfl, kQ o H' fun y o h => kp y o (ne_of_none h hx) (s2 _ _ h)⟩, fun p o np H' e s he hp => kE p o np H' e (s2.trans s) (back s2 he) hp⟩
theorem if_made {vt vr vo : V} {dt dr : D2} {o : Bool} (hx : H x = none) (hdx : H dx = none) (nd : dx ≠ x) (rt : Rel2 Z b H vt dt) (rr : Rel2 Z b H vr dr) (lr : lenB dr ≤ 100) (ao : RowsArg Z t0 b H vo o) (kQ : ifDue (at2 testA dt) (rowsB dr) o = "made" → ∀ H', Same H H' → Q (.ref x) H') (kE : ∀ p, ifDue (at2 testA dt) (rowsB dr) o = p → p ≠ "made" → ∀ (H' : Hp) (e : Addr), Same H H' → H e = none → H' e = some (.xd [("part", .str p)]) → E (.ref IR) (some e) H') :
    spIf Z C IR t0 [.ref x, vt, vr, vo] (upd (upd H dx (.own x)) x (.ins C dx [])) (fun u H2 => u = .non ∧ Q (.ref x) H2) E := by
  have s2 := laid (C := C) hx hdx nd
  exact ⟨b, x, dx, vt, vr, vo, dt, dr, o, rfl, upd_same, rt.kp (Kp.of s2), rr.kp (Kp.of s2), lr, ao.kp (Kp.of s2), fun c H' kp _ => ⟨rfl, kQ c H' fun y o h => kp y o (ne_of_none h hx) (s2 _ _ h)⟩, fun p c np H' e s he hp => kE p c np H' e (s2.trans s) (back s2 he) hp⟩
end
end K14

set_option pp.maxSteps 600
namespace K14
open PySem L2 PySem.Spec PyProof.Rows
/-- what a word makes of its arguments: "made", or the part that is wrong -/
inductive Makes (Z : Nat → Addr) (CK CM t0 b : Addr) (H : Hp) : Str → V → V → V → V → Str → Prop where
  | add {vf vw vt vp : V} {df dw dt dp : D2} (rf : Rel2 Z b H vf df) (rw' : Rel2 Z b H vw dw) (rt : Rel2 Z b H vt dt) (rp : Rel2 Z b H vp dp) (sw : sh0 dw) (aw : Among Z CK dw) (st : sh0 dt) (ap : Among Z CM dp) : Makes Z CK CM t0 b H "add" vf vw vt vp (addDue df dw dt dp)
  | if_ {vt vr vo u : V} {dt dr : D2} {o : Bool} (rt : Rel2 Z b H vt dt) (rr : Rel2 Z b H vr dr) (lr : lenB dr ≤ 100) (ao : RowsArg Z t0 b H vo o) : Makes Z CK CM t0 b H "if" vt vr vo u (ifDue (at2 testA dt) (rowsB dr) o)
  | put {vn vw u u2 : V} {dn dw : D2} (rn : Rel2 Z b H vn dn) (rw' : Rel2 Z b H vw dw) (sn : sh0 dn) (sw : sh0 dw) (am : Among Z CK dw) : Makes Z CK CM t0 b H "put" vn vw u u2 (putDue dn dw)
  | mark {v u u2 u3 : V} {d : D2} (r : Rel2 Z b H v d) (a : Among Z CM d) : Makes Z CK CM t0 b H "mark" v u u2 u3 (if inStrs marks d then "made" else "place")
  | was {v u u2 u3 : V} {d : D2} (r : Rel2 Z b H v d) (c1 : ok2 d = true) (c2 : sh0 d) : Makes Z CK CM t0 b H "was" v u u2 u3 (if kindB d then "made" else "kind")
  | not {v u u2 u3 : V} {d : D2} (r : Rel2 Z b H v d) : Makes Z CK CM t0 b H "not" v u u2 u3 (if at2 testA d then "made" else "test")
  | old {v u u2 u3 : V} {d : D2} (r : Rel2 Z b H v d) : Makes Z CK CM t0 b H "old" v u u2 u3 (if at2 int0 d then "made" else "number")
  | new {v u u2 u3 : V} {d : D2} (r : Rel2 Z b H v d) : Makes Z CK CM t0 b H "new" v u u2 u3 (if at2 int0 d then "made" else "number")
section
variable {P : Program} {w : World} {K : PySem.W.Frag} {mg : Str → Option Value} {base : Heap}
abbrev s_law_made : Stmt := top 55
abbrev n_law_made : List Str := ["_law_word", "_law_a", "_law_b", "_law_c", "_law_d"]
theorem sc_law_made : FnScope n_law_made ["_law_word", "_law_a", "_law_b", "_law_c", "_law_d"] (defScope s_law_made) := ⟨rfl, rfl, rfl, by decide +kernel, rfl, by decide +kernel, by decide +kernel⟩
def spMade (Z : Nat → Addr) (CK CM t0 IR : Addr) : Sp := fun vs H Q E => ∃ (b : Addr) (word due : Str) (va vb vc vd : V), vs = [.str word, va, vb, vc, vd] ∧ Makes Z CK CM t0 b H word va vb vc vd due ∧ (due = "made" → ∀ (v : V) (H' : Hp), Same H H' → Q v H') ∧
  ∀ p, due = p → p ≠ "made" → ∀ (H' : Hp) (d : Addr), Same H H' → H d = none → H' d = some (.xd [("part", .str p)]) → E (.ref IR) (some d) H'
theorem ok_made {Z : Nat → Addr} {CK CM t0 IR CA CI CP CW CN CO CB fA fI fP fK fW fN fO fB : Addr} {fdA fdI fdP fdK fdW fdN fdO fdB : FuncData} {d1 : List Value} (T : Txt mg)
    (CAdd : ClsA K mg "Add" CA ["factor", "what", "total", "place"]) (MAdd : Mk K CA fA) (g_Add : FnOk P w K mg base (L2.CX P w) 6 fA fdA ["self", "factor", "what", "total", "place"] (spAdd Z CA IR CK CM)) (bAdd : Binds K fdA ["self", "factor", "what", "total", "place"] [])
    (CIf : ClsA K mg "If" CI ["test", "rows", "others"]) (MIf : Mk K CI fI) (g_If : FnOk P w K mg base (L2.CX P w) 4 fI fdI ["self", "test", "rows", "others"] (spIf Z CI IR t0)) (bIf : Binds K fdI ["self", "test", "rows", "others"] [])
    (CPut : ClsA K mg "Put" CP ["note", "what"]) (MPut : Mk K CP fP) (g_Put : FnOk P w K mg base (L2.CX P w) 6 fP fdP ["self", "note", "what"] (spPut Z CP IR CK)) (bPut : Binds K fdP ["self", "note", "what"] [])
    (CMark : ClsA K mg "Mark" CK ["place"]) (MMark : Mk K CK fK) (g_Mark : FnOk P w K mg base (L2.CX P w) 5 fK fdK ["self", "place"] (spOne Z CK IR "place" (inStrs marks) fun d => Among Z CM d)) (bMark : Binds K fdK ["self", "place"] [])
    (CWas : ClsA K mg "Was" CW ["kind"]) (MWas : Mk K CW fW) (g_Was : FnOk P w K mg base (L2.CX P w) 4 fW fdW ["self", "kind"] (spOne Z CW IR "kind" kindB fun d => ok2 d = true ∧ sh0 d)) (bWas : Binds K fdW ["self", "kind"] [])
    (CNot : ClsA K mg "Not" CN ["test"]) (MNot : Mk K CN fN) (g_Not : FnOk P w K mg base (L2.CX P w) 4 fN fdN ["self", "test"] (spOne Z CN IR "test" (at2 testA) fun _ => True)) (bNot : Binds K fdN ["self", "test"] [])
    (COld : ClsA K mg "OldBelow" CO ["number"]) (MOld : Mk K CO fO) (g_Old : FnOk P w K mg base (L2.CX P w) 4 fO fdO ["self", "number"] (spOne Z CO IR "number" (at2 int0) fun _ => True)) (bOld : Binds K fdO ["self", "number"] [])
    (CNew : ClsA K mg "NewBelow" CB ["number"]) (MNew : Mk K CB fB) (g_New : FnOk P w K mg base (L2.CX P w) 4 fB fdB ["self", "number"] (spOne Z CB IR "number" (at2 int0) fun _ => True)) (bNew : Binds K fdB ["self", "number"] [])
    (F : DefAt K mg "_law_made" s_law_made ["_law_word", "_law_a", "_law_b", "_law_c", "_law_d"]) : HasX P w K mg base 8 "_law_made" ["_law_word", "_law_a", "_law_b", "_law_c", "_law_d"] (spMade Z CK CM t0 IR) := by
  refine F.hasX sc_law_made (fun vs H Q E h => ?_) (fun f cdv A outer s H vs Q E hr h => ?_)
  · obtain ⟨b, word, due, va, vb, vc, vd, rfl, _⟩ := h
    rfl
  · obtain ⟨b, word, due, va, vb, vc, vd, rfl, mk, kQ, kE⟩ := h
    refine ⟨_, (pss_cons (ps_if (pt_cmpR op_eq (pv 0) pe_str (nomark _)) (pss_one (ps_ret (pe_make MAdd g_Add (hr.mono (by decide)) rfl CAdd.m bAdd .nil (passOut rfl rfl rfl rfl) (pa_cons (pv 1) (pa_cons (pv 2) (pa_cons (pv 3) (pa_cons (pv 4) pa_nil))))))) pss_nil)
      (pss_cons (ps_if (pt_cmpR op_eq (pv 0) pe_str (nomark _)) (pss_one (ps_ret (pe_make MIf g_If (hr.mono (by decide)) rfl CIf.m bIf .nil (passOut rfl rfl rfl rfl) (pa_cons (pv 1) (pa_cons (pv 2) (pa_cons (pv 3) pa_nil)))))) pss_nil)
      (pss_cons (ps_if (pt_cmpR op_in_seq (pv 0) (pe_tup (pa_cons pe_str (pa_cons pe_str pa_nil))) (by rfl)) (pss_one (ps_ret (pe_ifExp (pt_cmpR op_eq (pv 0) pe_str (nomark _)) (pe_make MPut g_Put (hr.mono (by decide)) rfl CPut.m bPut .nil (passOut rfl rfl rfl rfl) (pa_cons (pv 1) (pa_cons (pv 2) pa_nil))) (pe_make MMark g_Mark (hr.mono (by decide)) rfl CMark.m bMark .nil (passOut rfl rfl rfl rfl) (pa_cons (pv 1) pa_nil))))) pss_nil)
      (pss_cons (ps_if (pt_cmpR op_eq (pv 0) pe_str (nomark _)) (pss_one (ps_ret (pe_make MWas g_Was (hr.mono (by decide)) rfl CWas.m bWas .nil (passOut rfl rfl rfl rfl) (pa_cons (pv 1) pa_nil)))) pss_nil)
      (pss_cons (ps_if (pt_cmpR op_eq (pv 0) pe_str (nomark _)) (pss_one (ps_ret (pe_make MNot g_Not (hr.mono (by decide)) rfl CNot.m bNot .nil (passOut rfl rfl rfl rfl) (pa_cons (pv 1) pa_nil)))) pss_nil)
      (pss_one (ps_ret (pe_ifExp (pt_cmpR op_eq (pv 0) pe_str (nomark _)) (pe_make MOld g_Old (hr.mono (by decide)) rfl COld.m bOld .nil (passOut rfl rfl rfl rfl) (pa_cons (pv 1) pa_nil)) (pe_make MNew g_New (hr.mono (by decide)) rfl CNew.m bNew .nil (passOut rfl rfl rfl rfl) (pa_cons (pv 1) pa_nil)))))))))), ?_⟩
    cases mk with
    | add rf rw' rt rp sw aw st ap =>
      refine ⟨_, rfl, rfl, _, rfl, iteSe (by decide +kernel) ?_⟩
      exact ⟨_, rfl, _, rfl, _, rfl, _, rfl, fun x dx hx hdx nd => add_made hx hdx nd rf rw' rt rp sw aw st ap (fun e H' s => kQ e _ H' s) (fun p e np H' d s hd hp => kE p e np H' d s hd hp)⟩
    | if_ rt rr lr ao =>
      refine ⟨_, rfl, rfl, _, rfl, iteSf (by decide +kernel) ?_⟩
      refine ⟨_, rfl, rfl, _, rfl, iteSe (by decide +kernel) ?_⟩
      exact ⟨_, rfl, _, rfl, _, rfl, fun x dx hx hdx nd => if_made hx hdx nd rt rr lr ao (fun e H' s => kQ e _ H' s) (fun p e np H' d s hd hp => kE p e np H' d s hd hp)⟩
    | put rn rw' sn sw am =>
      refine ⟨_, rfl, rfl, _, rfl, iteSf (by decide +kernel) ?_⟩
      refine ⟨_, rfl, rfl, _, rfl, iteSf (by decide +kernel) ?_⟩
      refine ⟨_, rfl, (by decide : 2 ≤ sizeLine), fun t ht => ?_⟩
      obtain ⟨s1, h1⟩ := new_at (o := .tup [V.str "put", V.str "mark"]) ht
      refine ⟨t, _, rfl, .inr (SqT.of h1), rfl, rfl, _, rfl, iteSe (by decide +kernel) ?_⟩
      refine ⟨_, rfl, rfl, _, rfl, iteSe (by decide +kernel) ?_⟩
      exact ⟨_, rfl, _, rfl, fun x dx hx hdx nd => put_made hx hdx nd (rn.kp (Kp.of s1)) (rw'.kp (Kp.of s1)) sn sw am (fun e H' s => kQ e _ H' (s1.trans s)) (fun p e np H' d s hd hp => kE p e np H' d (s1.trans s) (back s1 hd) hp)⟩
    | mark r a =>
      refine ⟨_, rfl, rfl, _, rfl, iteSf (by decide +kernel) ?_⟩
      refine ⟨_, rfl, rfl, _, rfl, iteSf (by decide +kernel) ?_⟩
      refine ⟨_, rfl, (by decide : 2 ≤ sizeLine), fun t ht => ?_⟩
      obtain ⟨s1, h1⟩ := new_at (o := .tup [V.str "put", V.str "mark"]) ht
      refine ⟨t, _, rfl, .inr (SqT.of h1), rfl, rfl, _, rfl, iteSe (by decide +kernel) ?_⟩
      refine ⟨_, rfl, rfl, _, rfl, iteSf (by decide +kernel) ?_⟩
      refine ⟨_, rfl, fun x dx hx hdx nd => one_made hx hdx nd (r.kp (Kp.of s1)) a (fun c H' s => kQ (by rw [c]; rfl) _ H' (s1.trans s)) (fun c H' e s he hp => kE "place" (by rw [c]; rfl) (by decide +kernel) H' e (s1.trans s) (back s1 he) hp)⟩
    | was r c1 c2 =>
      refine ⟨_, rfl, rfl, _, rfl, iteSf (by decide +kernel) ?_⟩
      refine ⟨_, rfl, rfl, _, rfl, iteSf (by decide +kernel) ?_⟩
      refine ⟨_, rfl, (by decide : 2 ≤ sizeLine), fun t ht => ?_⟩
      obtain ⟨s1, h1⟩ := new_at (o := .tup [V.str "put", V.str "mark"]) ht
      refine ⟨t, _, rfl, .inr (SqT.of h1), rfl, rfl, _, rfl, iteSf (by decide +kernel) ?_⟩
      refine ⟨_, rfl, rfl, _, rfl, iteSe (by decide +kernel) ?_⟩
      refine ⟨_, rfl, fun x dx hx hdx nd => one_made hx hdx nd (r.kp (Kp.of s1)) ⟨c1, c2⟩ (fun c H' s => kQ (by rw [c]; rfl) _ H' (s1.trans s)) (fun c H' e s he hp => kE "kind" (by rw [c]; rfl) (by decide +kernel) H' e (s1.trans s) (back s1 he) hp)⟩
    | not r =>
      refine ⟨_, rfl, rfl, _, rfl, iteSf (by decide +kernel) ?_⟩
      refine ⟨_, rfl, rfl, _, rfl, iteSf (by decide +kernel) ?_⟩
      refine ⟨_, rfl, (by decide : 2 ≤ sizeLine), fun t ht => ?_⟩
      obtain ⟨s1, h1⟩ := new_at (o := .tup [V.str "put", V.str "mark"]) ht
      refine ⟨t, _, rfl, .inr (SqT.of h1), rfl, rfl, _, rfl, iteSf (by decide +kernel) ?_⟩
      refine ⟨_, rfl, rfl, _, rfl, iteSf (by decide +kernel) ?_⟩
      refine ⟨_, rfl, rfl, _, rfl, iteSe (by decide +kernel) ?_⟩
      refine ⟨_, rfl, fun x dx hx hdx nd => one_made hx hdx nd (r.kp (Kp.of s1)) trivial (fun c H' s => kQ (by rw [c]; rfl) _ H' (s1.trans s)) (fun c H' e s he hp => kE "test" (by rw [c]; rfl) (by decide +kernel) H' e (s1.trans s) (back s1 he) hp)⟩
    | old r =>
      refine ⟨_, rfl, rfl, _, rfl, iteSf (by decide +kernel) ?_⟩
      refine ⟨_, rfl, rfl, _, rfl, iteSf (by decide +kernel) ?_⟩
      refine ⟨_, rfl, (by decide : 2 ≤ sizeLine), fun t ht => ?_⟩
      obtain ⟨s1, h1⟩ := new_at (o := .tup [V.str "put", V.str "mark"]) ht
      refine ⟨t, _, rfl, .inr (SqT.of h1), rfl, rfl, _, rfl, iteSf (by decide +kernel) ?_⟩
      refine ⟨_, rfl, rfl, _, rfl, iteSf (by decide +kernel) ?_⟩
      refine ⟨_, rfl, rfl, _, rfl, iteSf (by decide +kernel) ?_⟩
      refine ⟨_, rfl, rfl, _, rfl, iteSe (by decide +kernel) ?_⟩
      refine ⟨_, rfl, fun x dx hx hdx nd => one_made hx hdx nd (r.kp (Kp.of s1)) trivial (fun c H' s => kQ (by rw [c]; rfl) _ H' (s1.trans s)) (fun c H' e s he hp => kE "number" (by rw [c]; rfl) (by decide +kernel) H' e (s1.trans s) (back s1 he) hp)⟩
    | new r =>
      refine ⟨_, rfl, rfl, _, rfl, iteSf (by decide +kernel) ?_⟩
      refine ⟨_, rfl, rfl, _, rfl, iteSf (by decide +kernel) ?_⟩
      refine ⟨_, rfl, (by decide : 2 ≤ sizeLine), fun t ht => ?_⟩
      obtain ⟨s1, h1⟩ := new_at (o := .tup [V.str "put", V.str "mark"]) ht
      refine ⟨t, _, rfl, .inr (SqT.of h1), rfl, rfl, _, rfl, iteSf (by decide +kernel) ?_⟩
      refine ⟨_, rfl, rfl, _, rfl, iteSf (by decide +kernel) ?_⟩
      refine ⟨_, rfl, rfl, _, rfl, iteSf (by decide +kernel) ?_⟩
      refine ⟨_, rfl, rfl, _, rfl, iteSf (by decide +kernel) ?_⟩
      refine ⟨_, rfl, fun x dx hx hdx nd => one_made hx hdx nd (r.kp (Kp.of s1)) trivial (fun c H' s => kQ (by rw [c]; rfl) _ H' (s1.trans s)) (fun c H' e s he hp => kE "number" (by rw [c]; rfl) (by decide +kernel) H' e (s1.trans s) (back s1 he) hp)⟩
end
end K14

namespace L2
open PySem PySem.Spec PySem.Calls PyProof.Rows
/-- an instance of a class that has no __init__ but object's -/
def tMake00 (C : Addr) : TE := fun _ H Q => ∀ x dx, H x = none → H dx = none → dx ≠ x → Q (.ref x) (upd (upd H dx (.own x)) x (.ins C dx []))
structure Mk00 (K : PySem.W.Frag) (C : Addr) : Prop where
  makes : PySem.W.makesIn K C = true
  init : PySem.W.findIn K (.ref C) "__init__" = some (some (.builtin "object.__init__"))
  kp : PySem.W.keepIn K (.ref C) = true
theorem pe_make00 {X : Cx} {C : Addr} {x : Str} {p pos : Pos} (M : Mk00 X.K C) (hg : Gl X x) (hm : X.mg x = some (.ref C)) (hdb : (x == ("__debug__" : Str)) = false := by decide) : PE X (.Call (.Name x p) [] [] pos) (tMake00 C) := by
  refine ⟨fun pins s σ H Q I h => ?_⟩
  refine wpAny_Call_Name_kw (ld_glob I hg hm ?_ hdb)
  refine PySem.W.callWith_K0 I.kIn M.kp ?_
  have hq := h (s.heap.objs.size + 1) s.heap.objs.size (I.hok.fresh (Nat.le_succ _)) (I.hok.fresh (Nat.le_refl _)) (Nat.ne_of_lt (Nat.lt_succ_self _))
  have I2 := Inv.made (C := C) I
  have Y := PySem.W.makes_of (M := model X.prog X.w) I.kIn M.makes
  refine wpAny_call (make_map0 I.kIn M.makes M.init (fun self => PySem.W.Looks.of_pure (PySem.W.oi_bind self)) ?_)
  have hx : ((s.heap.push PySem.W.emptyDict).push (PySem.W.instObj C s.heap.objs.size)).get? (s.heap.objs.size + 1) = some (PySem.W.instObj C s.heap.objs.size) := by
    rw [show s.heap.objs.size + 1 = (s.heap.push PySem.W.emptyDict).objs.size from (Heap.size_push ..).symm]
    first | exact Heap.get?_push_size .. | exact Heap.get?_push_self .. | heap_get
  have t1 : PySem.W.Looks (model X.prog X.w) ((s.heap.push PySem.W.emptyDict).push (PySem.W.instObj C s.heap.objs.size)) (typeOf (.ref (s.heap.objs.size + 1))) (.ref C) := (PySem.W.Looks.ld hx).andThen .now
  have t2 : PySem.W.Looks (model X.prog X.w) ((s.heap.push PySem.W.emptyDict).push (PySem.W.instObj C s.heap.objs.size)) (isInstance (.ref (s.heap.objs.size + 1)) (.type "object")) true := t1.andThen (Y.top.keeps fun b o e => Heap.get?_push_of_some _ (Heap.get?_push_of_some _ e))
  refine codeAny_call_builtin PySem.W.oi_plain PySem.W.entry_oi (@PySem.W.check_slot (model X.prog X.w) _ _ { s with heap := (s.heap.push PySem.W.emptyDict).push (PySem.W.instObj C s.heap.objs.size) } "object.__init__" "object" "__init__" (.ref (s.heap.objs.size + 1)) [] [] _ PySem.W.oi_kind PySem.W.oi_split t2 (PySem.W.oi_args (.ref (s.heap.objs.size + 1))) ?_)
  rw [PySem.W.oi_run]
  exact wpAny_pure (And.intro rfl ⟨V.ref (s.heap.objs.size + 1), _, I2, rfl, hq⟩)
end L2

set_option pp.maxSteps 600
namespace K14
open PySem L2 PySem.Spec PyProof.Rows
theorem cons_go {te : TE} {tr : TA} {σ : L2.St} {H : Hp} {Q : List V → Hp → Prop} (h : te σ H fun x H1 => tr σ H1 fun xs H2 => Q (x :: xs) H2) : tCons te tr σ H Q := h
theorem make_go {C : Addr} {sp : Sp} {dvs : List V} {E : XK} {t : TA} {σ : L2.St} {H : Hp} {Q : VK} (h : t σ H fun vs H1 => ∀ x dx, H1 x = none → H1 dx = none → dx ≠ x → sp (.ref x :: (vs ++ dvs)) (upd (upd H1 dx (.own x)) x (.ins C dx [])) (fun v H2 => v = .non ∧ Q (.ref x) H2) E) : tMake C sp dvs E t σ H Q := h
section
variable {Z : Nat → Addr} {b C IR CK t0 : Addr} {E : XK} {k : Nat}
theorem passN {X : Cx} : Passes (L2.CX X.prog X.w) X (fun _ _ _ => False) := fun _ _ _ _ _ _ _ c => by
  obtain ⟨_, _, _, _, _, _, _, _, _, _, _, _, h⟩ := c
  exact h.elim
/-- an instance of a class with no __init__ -/
theorem g_new (e : Z k = C) : G0 Z b (tMake00 C) (.obj k) := fun σ H Q n q x dx hx hdx nd => q _ _ (laid hx hdx nd) ⟨x, dx, [], rfl, new_ne n hx, by rw [e]; exact upd_same⟩
theorem g_one {te : TE} {d : Atom} {part : Str} {ok : D2 → Bool} {cond : D2 → Prop} (e : Z k = C) (h : G0 Z b te d) (o : ok (.a d) = true) (c : cond (.a d)) : G0 Z b (tMake C (spOne Z C IR part ok cond) [] E (tCons te tNil)) (.obj k) := fun σ H Q n q => by
  refine make_go (cons_go (h σ H _ n fun H1 v s1 r1 => ?_))
  intro x dx hx hdx nd
  have s2 := laid (C := C) hx hdx nd
  refine ⟨b, x, dx, v, .a d, rfl, upd_same, r1.kp (Kp.of s2), c, fun _ H' kp hf => ?_, fun z => by rw [o] at z; cases z⟩
  obtain ⟨fs, hf⟩ := hf
  exact ⟨rfl, q H' _ (s1.trans fun y u w => kp y u (ne_of_none w hx) (s2 _ _ w)) ⟨x, dx, fs, rfl, new_ne (some_keep s1 n) hx, by rw [e]; exact hf⟩⟩
theorem g_put {te tw : TE} {d1 d2 : Atom} (e : Z k = C) (h1 : G0 Z b te d1) (h2 : G0 Z b tw d2) (o : putDue (.a d1) (.a d2) = "made") (s1 : sh0 (.a d1)) (s2 : sh0 (.a d2)) (am : Among Z CK (.a d2)) : G0 Z b (tMake C (spPut Z C IR CK) [] E (tCons te (tCons tw tNil))) (.obj k) := fun σ H Q n q => by
  refine make_go (cons_go (h1 σ H _ n fun H1 v1 z1 r1 => cons_go (h2 σ H1 _ (some_keep z1 n) fun H2 v2 z2 r2 => ?_)))
  intro x dx hx hdx nd
  have s3 := laid (C := C) hx hdx nd
  refine ⟨b, x, dx, v1, v2, .a d1, .a d2, rfl, upd_same, r1.kp ((Kp.of z2).trans (Kp.of s3)), r2.kp (Kp.of s3), s1, s2, am, fun _ H' kp hf => ?_, fun p ep np => absurd (ep.symm.trans o) np⟩
  obtain ⟨fs, hf⟩ := hf
  exact ⟨rfl, q H' _ ((z1.trans z2).trans fun y u w => kp y u (ne_of_none w hx) (s3 _ _ w)) ⟨x, dx, fs, rfl, new_ne (some_keep (z1.trans z2) n) hx, by rw [e]; exact hf⟩⟩
/-- If(test, rows) -/
theorem g_if {te tw : TE} {d1 : Atom} {ds : D1} (e : Z k = C) (h1 : G0 Z b te d1) (h2 : G1 Z b tw ds) (o : ifDue (testA d1) (rowsB ds.up) true = "made") (l : lenB ds.up ≤ 100) : G0 Z b (tMake C (spIf Z C IR t0) [.ref t0] E (tCons te (tCons tw tNil))) (.obj k) := fun σ H Q n q => by
  refine make_go (cons_go (h1 σ H _ n fun H1 v1 z1 r1 => cons_go (h2 σ H1 _ (some_keep z1 n) fun H2 v2 z2 r2 => ?_)))
  intro x dx hx hdx nd
  have s3 := laid (C := C) hx hdx nd
  refine ⟨b, x, dx, v1, v2, .ref t0, .a d1, ds.up, true, rfl, upd_same, r1.kp ((Kp.of z2).trans (Kp.of s3)), (r2.kp (Kp.of s3)).up, l, .inr ⟨rfl, rfl⟩, fun _ H' kp hf => ?_, fun p ep np => absurd (ep.symm.trans o) np⟩
  obtain ⟨fs, hf⟩ := hf
  exact ⟨rfl, q H' _ ((z1.trans z2).trans fun y u w => kp y u (ne_of_none w hx) (s3 _ _ w)) ⟨x, dx, fs, rfl, new_ne (some_keep (z1.trans z2) n) hx, by rw [e]; exact hf⟩⟩
end
end K14

/-! d.update(o): o's pairs put into d one behind the other -/
namespace L2
open PySem PySem.Spec PyProof.Rows
/-- d.update(o) -/
def rDUpd : V → List V → Hp → VK → Prop := fun x xs H Q => ∃ (a o : Addr) (kvs more : List (Key × V)), x = .ref a ∧ xs = [.ref o] ∧ H a = some (.dK kvs) ∧ H o = some (.dK more) ∧ a ≠ o ∧ kvs.length + more.length ≤ sizeLine ∧ Q .non (upd H a (.dK (mergeK kvs more)))
theorem mt_dupd {X : Cx} : MtR X "dict.update" rDUpd := by
  intro pins s σ H x xs v us Q I rx rxs h
  obtain ⟨a, o, kvs, more, rfl, rfl, ha, ho, ne, hz, q⟩ := h
  cases rx
  rw [Vals.ref1 rxs]
  obtain ⟨z1, hd1, vs, r1, d1⟩ := dk_of I.hok ha
  obtain ⟨z2, hd2, ms, r2, d2⟩ := dk_of I.hok ho
  refine call_meetsIn PySem.F.slot_dict_update d1.typeIs PySem.F.entry_dict_update (PySem.F.args_dict_update_2 _ _) (meets_dict_update (mixKind X.prog X.w) a o ne hd2) ⟨vs, ms, d1, d2, by rw [← r1.length, ← r2.length]; exact hz, fun h' e1 e2 sb => ?_⟩
  have ex : ∃ q, h'.get? a = some q := let ⟨q, _, _, hq, _⟩ := e1; ⟨q, hq⟩
  exact ⟨.non, _, d_write (t' := s.toks) I (by rw [ha]; exact True.intro) sb ex (dk_new (Nat.le_trans (length_mergeK more kvs) hz) hd1 (r2.merge r1) e1), rfl, q⟩
end L2

set_option pp.maxSteps 600
namespace K14
open PySem L2 PySem.Spec PyProof.Rows
/-! ### tables of lists -/
theorem But.kp {b : Addr} {H H' : Hp} (s : But b H H') : Kp b H H' := fun a o n h _ => s a o n h
theorem Rel0.updD {Z : Nat → Addr} {b p : Addr} {H : Hp} {v : V} {x : Atom} {l : List (Key × V)} {o : HO} (hp : H p = some (.dK l)) (h : Rel0 Z b H v x) : Rel0 Z b (upd H p o) v x := by
  cases x with
  | obj k => obtain ⟨a, dx, fs, e, n, q⟩ := h; exact ⟨a, dx, fs, e, n, by rw [upd_ne (ne_of q hp fun z => nomatch z)]; exact q⟩
  | _ => exact h
theorem seqO_dk {t : Bool} {xs : List V} {l : List (Key × V)} : seqO t xs ≠ .dK l := by cases t <;> exact fun z => nomatch z
theorem Rel1.updD {Z : Nat → Addr} {b p : Addr} {H : Hp} {v : V} {d : D1} {l : List (Key × V)} {o : HO} (hp : H p = some (.dK l)) (h : Rel1 Z b H v d) : Rel1 Z b (upd H p o) v d := by
  cases d with
  | a x => exact Rel0.updD hp h
  | s t xs => obtain ⟨q, as, e, n, f, r⟩ := h; exact ⟨q, as, e, n, by rw [upd_ne (ne_of f hp seqO_dk)]; exact f, r.mapP' fun _ _ z => z.updD hp⟩
theorem Rel2.updD {Z : Nat → Addr} {b p : Addr} {H : Hp} {v : V} {d : D2} {l : List (Key × V)} {o : HO} (hp : H p = some (.dK l)) (h : Rel2 Z b H v d) : Rel2 Z b (upd H p o) v d := by
  cases d with
  | a x => exact Rel0.updD hp h
  | s t xs => obtain ⟨q, as, e, n, f, r⟩ := h; exact ⟨q, as, e, n, by rw [upd_ne (ne_of f hp seqO_dk)]; exact f, r.mapP' fun _ _ z => z.updD hp⟩
/-- a list of these -/
def Lst2 (Z : Nat → Addr) (b : Addr) (H : Hp) (v : V) (ds : List D2) : Prop := ∃ p as, v = .ref p ∧ p ≠ b ∧ H p = some (.lst as) ∧ Paired (Rel2 Z b H) as ds
theorem Lst2.kp {Z : Nat → Addr} {b : Addr} {H H' : Hp} {v : V} {ds : List D2} (s : Kp b H H') (h : Lst2 Z b H v ds) : Lst2 Z b H' v ds := by
  obtain ⟨p, as, e, n, f, r⟩ := h
  exact ⟨p, as, e, n, s _ _ n f (fun ps z => nomatch z), r.mapP' fun _ _ z => z.kp s⟩
theorem Lst2.updD {Z : Nat → Addr} {b p : Addr} {H : Hp} {v : V} {ds : List D2} {l : List (Key × V)} {o : HO} (hp : H p = some (.dK l)) (h : Lst2 Z b H v ds) : Lst2 Z b (upd H p o) v ds := by
  obtain ⟨q, as, e, n, f, r⟩ := h
  exact ⟨q, as, e, n, by rw [upd_ne (ne_of f hp fun z => nomatch z)]; exact f, r.mapP' fun _ _ z => z.updD hp⟩
/-- the pairs of a table -/
def TabL (Z : Nat → Addr) (b : Addr) (H : Hp) : List (Key × V) → List (Str × List D2) → Prop := Paired fun kv e => kv.1 = .inr e.1 ∧ Lst2 Z b H kv.2 e.2
theorem TabL.val {Z : Nat → Addr} {b : Addr} {H : Hp} {kvs : List (Key × V)} {L : List (Str × List D2)} (h : TabL Z b H kvs L) (k : Str) : match L.lookup k with
    | some ds => ∃ v, valV kvs (.inr k) = some v ∧ Lst2 Z b H v ds
    | none => valV kvs (.inr k) = none := by
  unfold TabL at h
  induction h with
  | nil => rfl
  | @cons p e ps es r t ih =>
    obtain ⟨r1, r2⟩ := r
    obtain ⟨e1, e2⟩ := e
    by_cases q : k = e1
    · subst q
      have : List.lookup k ((k, e2) :: es) = some e2 := by simp [List.lookup]
      rw [this]
      exact ⟨p.2, valV_pos r1, r2⟩
    · have : List.lookup k ((e1, e2) :: es) = List.lookup k es := by
        have : (k == e1) = false := by simpa using q
        simp [List.lookup, this]
      rw [this]
      have nv : ¬ p.1 = .inr k := fun z => by rw [r1] at z; injection z with z; exact q z.symm
      rw [valV_neg nv]
      exact ih
theorem TabL.merge {Z : Nat → Addr} {b : Addr} {H : Hp} {more : List (Key × V)} {M : List (Str × List D2)} (h : TabL Z b H more M) : ∀ {kvs : List (Key × V)} {L : List (Str × List D2)}, TabL Z b H kvs L → ((L ++ M).map (·.1)).Nodup → TabL Z b H (mergeK kvs more) (L ++ M) := by
  unfold TabL at h
  induction h with
  | nil => intro kvs L g _; rw [List.append_nil]; exact g
  | @cons p e ps es r t ih =>
    intro kvs L g nd
    obtain ⟨r1, r2⟩ := r
    have hn : L.lookup e.1 = none := by
      rw [List.lookup_eq_none_iff]
      intro q hq
      have nd' := nd
      rw [List.map_append, List.nodup_append] at nd'
      have := nd'.2.2 q.1 (List.mem_map_of_mem hq) e.1 (by simp)
      simpa using fun z => this z.symm
    have hv := g.val e.1
    rw [hn] at hv
    have e0 : putK kvs p.1 p.2 = kvs ++ [p] := by rw [r1]; rw [putK_new p.2 hv, ← r1]
    show TabL Z b H (mergeK (putK kvs p.1 p.2) ps) _
    rw [e0]
    have := ih (kvs := kvs ++ [p]) (L := L ++ [e]) (Paired.app g (.cons ⟨r1, r2⟩ .nil)) (by rw [List.append_assoc]; exact nd)
    rw [List.append_assoc] at this
    exact this
/-- a dict of lists, new since H0 -/
def DL (Z : Nat → Addr) (b : Addr) (H0 H : Hp) (p : Addr) (L : List (Str × List D2)) : Prop := H0 p = none ∧ p ≠ b ∧ ∃ kvs, H p = some (.dK kvs) ∧ TabL Z b H kvs L
theorem DL.same {Z : Nat → Addr} {b p : Addr} {H0 H H' : Hp} {L : List (Str × List D2)} (h : DL Z b H0 H p L) (s : Same H H') : DL Z b H0 H' p L := by
  obtain ⟨h0, n, kvs, e, t⟩ := h
  exact ⟨h0, n, kvs, s _ _ e, Paired.mapP' t fun _ _ z => ⟨z.1, z.2.kp (Kp.of s)⟩⟩
theorem DL.but {Z : Nat → Addr} {b p : Addr} {H0 H H' : Hp} {L : List (Str × List D2)} (h : DL Z b H0 H p L) (s : But b H H') : DL Z b H0 H' p L := by
  obtain ⟨h0, n, kvs, e, t⟩ := h
  exact ⟨h0, n, kvs, s _ _ n e, Paired.mapP' t fun _ _ z => ⟨z.1, z.2.kp s.kp⟩⟩
theorem DL.other {Z : Nat → Addr} {b p q : Addr} {H0 H : Hp} {L : List (Str × List D2)} {l : List (Key × V)} {o : HO} (h : DL Z b H0 H p L) (hq : H q = some (.dK l)) (n : p ≠ q) : DL Z b H0 (upd H q o) p L := by
  obtain ⟨h0, nb, kvs, e, t⟩ := h
  exact ⟨h0, nb, kvs, by rw [upd_ne n]; exact e, Paired.mapP' t fun _ _ z => ⟨z.1, z.2.updD hq⟩⟩
theorem same_new {H0 H : Hp} {p : Addr} {o : HO} (s : Same H0 H) (h : H0 p = none) : Same H0 (upd H p o) := fun y u e => by
  rw [upd_ne (ne_of_none e h)]; exact s _ _ e
theorem DL.at' {Z : Nat → Addr} {b p : Addr} {H0 H : Hp} {L : List (Str × List D2)} {k : Str} {ds : List D2} (h : DL Z b H0 H p L) (e : L.lookup k = some ds) : ∃ v, DGet H p (.str k) (some v) ∧ Lst2 Z b H v ds := by
  obtain ⟨_, _, kvs, f, t⟩ := h
  have := t.val k
  rw [e] at this
  obtain ⟨v, hv, r⟩ := this
  exact ⟨v, by rw [← hv]; exact DGet.k (k := .inr k) f, r⟩
theorem DL.since {Z : Nat → Addr} {b p : Addr} {H0 H1 H : Hp} {L : List (Str × List D2)} (h : DL Z b H1 H p L) (h0 : H0 p = none) (_ : Same H0 H) : DL Z b H0 H p L := by
  obtain ⟨_, n, r⟩ := h
  exact ⟨h0, n, r⟩
/-! values of a display, under a condition C that new objects leave as it is -/
def GL (Z : Nat → Addr) (b : Addr) (C : L2.St → Hp → Prop) (te : TE) (ds : List D2) : Prop := ∀ σ H Q, C σ H → H b ≠ none → (∀ H' v, Same H H' → Lst2 Z b H' v ds → Q v H') → te σ H Q
def GP (Z : Nat → Addr) (b : Addr) (C : L2.St → Hp → Prop) (tp : List (TE × TE)) (L : List (Str × List D2)) : Prop := ∀ σ H Q, C σ H → H b ≠ none → (∀ H' ps, Same H H' → Paired (fun kv e => kv.1 = V.str e.1 ∧ Lst2 Z b H' kv.2 e.2) ps L → Q ps H') → tPairs tp σ H Q
theorem gl_lst {Z : Nat → Addr} {b : Addr} {C : L2.St → Hp → Prop} {ta : TA} {ds : List D2} (h : GA2 Z b ta ds) (l : ds.length ≤ 1000) : GL Z b C (tLst ta) ds := fun σ H Q _ n q => l_lst2 h l n fun H' p as s np hp ps => q H' _ s ⟨p, as, rfl, np, hp, ps⟩
theorem gp_nil {Z : Nat → Addr} {b : Addr} {C : L2.St → Hp → Prop} : GP Z b C [] [] := fun _ H _ _ _ q => q H [] (Same.refl H) .nil
theorem gp_cons {Z : Nat → Addr} {b : Addr} {C : L2.St → Hp → Prop} {te : TE} {tp : List (TE × TE)} {k : Str} {ds : List D2} {L : List (Str × List D2)} (kp : ∀ σ H H', Same H H' → C σ H → C σ H') (h : GL Z b C te ds) (t : GP Z b C tp L) : GP Z b C ((tC (.str k), te) :: tp) ((k, ds) :: L) := fun σ H Q c n q =>
  h σ H _ c n fun H1 v s1 r1 => t σ H1 _ (kp _ _ _ s1 c) (some_keep s1 n) fun H2 ps s2 r2 => q H2 _ (s1.trans s2) (.cons ⟨rfl, r1.kp (Kp.of s2)⟩ r2)
def CT : L2.St → Hp → Prop := fun _ _ => True
theorem kpT : ∀ σ H H', Same H H' → CT σ H → CT σ H' := fun _ _ _ _ h => h
theorem disp_go {Z : Nat → Addr} {b : Addr} {C : L2.St → Hp → Prop} {tp : List (TE × TE)} {L : List (Str × List D2)} {σ : L2.St} {H : Hp} {Q : VK} (g : GP Z b C tp L) (kp : ∀ σ H H', Same H H' → C σ H → C σ H') (c : C σ H) (n : H b ≠ none) (l : L.length ≤ 15) (nd : (L.map (·.1)).Nodup)
    (q : ∀ (H' : Hp) (p : Addr), Same H H' → H p = none → DL Z b H H' p L → Q (.ref p) H') : tDisp tp σ H Q := fun p hp => by
  obtain ⟨s1, h1⟩ := new_at (o := .dK []) hp
  refine g σ _ _ (kp _ _ _ s1 c) (some_keep s1 n) fun H2 ps s2 r => ?_
  have h2 := s2 _ _ h1
  obtain ⟨kvs, ek, rk⟩ : ∃ kvs : List (Key × V), ps = kvs.map (fun kv => (kV kv.1, kv.2)) ∧ TabL Z b H2 kvs L := by
    clear q nd l h2 s2 g c
    unfold TabL
    induction r with
    | nil => exact ⟨[], rfl, .nil⟩
    | @cons a e as es ha t ih =>
      obtain ⟨kvs, e1, e2⟩ := ih
      obtain ⟨a1, a2⟩ := a
      obtain ⟨rfl, h'⟩ := ha
      exact ⟨(.inr e.1, a2) :: kvs, by rw [e1]; rfl, .cons ⟨rfl, h'⟩ e2⟩
  subst ek
  refine ⟨h2, kvs, rfl, by rw [Paired.len rk]; exact l, ?_⟩
  have s12 := s1.trans s2
  refine q _ p (same_new s12 hp) hp ⟨hp, new_ne n hp, _, upd_same, ?_⟩
  have m := TabL.merge (kvs := []) (L := []) rk .nil nd
  exact Paired.mapP' m fun _ _ z => ⟨z.1, z.2.updD h2⟩
/-- d.update({..}) -/
theorem updL {Z : Nat → Addr} {b p q : Addr} {H0 H1 H : Hp} {L M : List (Str × List D2)} {Q : VK} (h : DL Z b H0 H p L) (g : DL Z b H1 H q M) (n : p ≠ q) (l : L.length + M.length ≤ 1000) (nd : ((L ++ M).map (·.1)).Nodup) (s : Same H0 H)
    (k : ∀ H', Same H0 H' → DL Z b H0 H' p (L ++ M) → (∀ y o, y ≠ p → H y = some o → H' y = some o) → (∃ l, H p = some (.dK l) ∧ ∃ o, H' = upd H p o) → Q .non H') : rDUpd (.ref p) [.ref q] H Q := by
  obtain ⟨h0, nb, kvs, e, t⟩ := h
  obtain ⟨_, _, more, f, u⟩ := g
  refine ⟨p, q, kvs, more, rfl, rfl, e, f, n, by rw [Paired.len t, Paired.len u]; exact le_line l, ?_⟩
  exact k _ (same_new s h0) ⟨h0, nb, _, upd_same, Paired.mapP' (TabL.merge u t nd) fun _ _ z => ⟨z.1, z.2.updD e⟩⟩ (fun y o hy hh => (upd_ne hy).trans hh) ⟨_, e, _, rfl⟩
/-- d[k] = v -/
theorem putL {Z : Nat → Addr} {b p : Addr} {H0 H : Hp} {L : List (Str × List D2)} {v : V} {k : Str} {ds : List D2} (h : DL Z b H0 H p L) (g : Lst2 Z b H v ds) (nd : ((L ++ [(k, ds)]).map (·.1)).Nodup) (s : Same H0 H) : ∃ kvs, H p = some (.dK kvs) ∧ Same H0 (upd H p (.dK (putK kvs (.inr k) v))) ∧ DL Z b H0 (upd H p (.dK (putK kvs (.inr k) v))) p (L ++ [(k, ds)]) := by
  obtain ⟨h0, nb, kvs, e, t⟩ := h
  refine ⟨kvs, e, same_new s h0, h0, nb, _, upd_same, ?_⟩
  have u : TabL Z b H [(.inr k, v)] [(k, ds)] := .cons ⟨rfl, g⟩ .nil
  exact Paired.mapP' (TabL.merge u t nd) fun _ _ z => ⟨z.1, z.2.updD e⟩
def shB : D2 → Bool
  | .a (.str s) => decide (s.length ≤ 1000)
  | _ => true
theorem sh0_of {d : D2} (h : shB d = true) : sh0 d := fun s e => by subst e; exact of_decide_eq_true h
def wordsL : List D2 := [.a (.str ""), .a (.str "abcde"), .a (.str "A"), .a (.str "a1"), .a (.str "a "), .a (.str "a\n"), .a (.str "none"), .a (.str "to"), .a (.str "not"), .a (.non), .a (.int 0), .a (.bl true), .s false [.a (.str "a")], .s true [.a (.str "a")], .a (.obj 1)]
def right0 : List (Str × List D2) := [("factor", [.a (.int 0), .a (.int (-7)), .a (.int 999)]), ("what", [.a (.str "old"), .a (.str "new"), .a (.str "one"), .a (.str "n"), .a (.str "zzzz")]), ("total", [.a (.str "sum"), .a (.str "on")])]
def right1 : List (Str × List D2) := [("place", [.a (.str "old"), .a (.str "new"), .a (.str "noted")]), ("mark", [.a (.str "old"), .a (.str "new"), .a (.str "none")]), ("note", [.a (.str "n"), .a (.str "end")])]
def right2 : List (Str × List D2) := [("kind", [.a (.str "up"), .a (.str "none")]), ("number", [.a (.int 0), .a (.int (-1)), .a (.int 999999)]), ("test", [.a (.obj 0), .a (.obj 2)])]
def right3 : List (Str × List D2) := [("row", [.s false [], .s true [], .s false [.a (.obj 1)], .s true [.a (.obj 4), .a (.obj 5)]])]
def wrong0 : List (Str × List D2) := [("factor", [.a (.non), .a (.bl true), .a (.str "1"), .s false [.a (.int 1)], .s true [.a (.int 1)], .a (.obj 7)]), ("what", wordsL ++ [.a (.str "noted"), .a (.str "amount")]), ("total", wordsL)]
def wrong1 : List (Str × List D2) := [("place", [.a (.str "none"), .a (.str ""), .a (.str "n"), .a (.non), .a (.int 0), .s false [.a (.str "old")], .a (.obj 0)]), ("note", wordsL ++ [.a (.str "old"), .a (.str "one")])]
def wrong2 : List (Str × List D2) := [("mark", [.a (.str "noted"), .a (.str ""), .a (.str "n"), .a (.non), .a (.int 0), .s true [.a (.str "new")]]), ("kind", wordsL.take 6 ++ [.a (.str "to"), .a (.non), .a (.int 0), .s false [.a (.str "up")]])]
def wrong3 : List (Str × List D2) := [("number", [.a (.non), .a (.bl false), .a (.str "0"), .s false [.a (.int 0)], .a (.obj 1)])]
def wrong4 : List (Str × List D2) := [("test", [.a (.str "moved"), .a (.non), .a (.obj 1), .a (.bl true), .s false [.a (.obj 0)]])]
def wrong5 : List (Str × List D2) := [("row", [.a (.non), .a (.str ""), .a (.obj 1), .s false [.a (.obj 0)], .s true [.a (.obj 1), .a (.non)], .a (.int 0), .s false [.s false [.obj 1]], .s false [.a (.str "mark old")]])]
def rightL : List (Str × List D2) := right0 ++ right1 ++ right2 ++ right3
def wrongL : List (Str × List D2) := wrong0 ++ wrong1 ++ wrong2 ++ wrong3 ++ wrong4 ++ wrong5
/-- the list at slot i -/
def CWd (Z : Nat → Addr) (b : Addr) (i : Nat) (ds : List D2) : L2.St → Hp → Prop := fun σ H => ∃ v, σ[i]? = some (some v) ∧ Lst2 Z b H v ds
theorem kpW {Z : Nat → Addr} {b : Addr} {i : Nat} {ds : List D2} : ∀ σ H H', Same H H' → CWd Z b i ds σ H → CWd Z b i ds σ H' := fun _ _ _ s ⟨v, e, l⟩ => ⟨v, e, l.kp (Kp.of s)⟩
theorem gl_var {Z : Nat → Addr} {b : Addr} {i : Nat} {ds : List D2} : GL Z b (CWd Z b i ds) (tVar i) ds := fun σ H Q ⟨v, e, l⟩ _ q => ⟨v, e, q H v (Same.refl H) l⟩
theorem cat_go {Z : Nat → Addr} {b : Addr} {H : Hp} {v u : V} {ds es : List D2} {Q : VK} (n : H b ≠ none) (h : Lst2 Z b H v ds) (g : Lst2 Z b H u es) (l : ds.length + es.length ≤ 1000) (q : ∀ H' w, Same H H' → Lst2 Z b H' w (ds ++ es) → Q w H') : rCat v u H Q := by
  obtain ⟨p, as, rfl, np, hp, r⟩ := h
  obtain ⟨p2, as2, rfl, np2, hp2, r2⟩ := g
  refine ⟨p, p2, as, as2, rfl, rfl, hp, hp2, by rw [r.len, r2.len]; exact le_line l, fun t ht => ?_⟩
  obtain ⟨s, e⟩ := new_at (o := .lst (as ++ as2)) ht
  exact q _ _ s ⟨t, _, rfl, new_ne n ht, e, (r.app r2).mapP' fun _ _ z => z.kp (Kp.of s)⟩
theorem gl_cat {Z : Nat → Addr} {b : Addr} {i : Nat} {ds es : List D2} {ta : TA} (h : GA2 Z b ta es) (l : ds.length + es.length ≤ 1000) : GL Z b (CWd Z b i ds) (tOp rCat (tVar i) (tLst ta)) (ds ++ es) := fun σ H Q ⟨v, e, d⟩ n q =>
  ⟨v, e, l_lst2 h (by omega) n fun H1 p as s1 np hp ps => cat_go (some_keep s1 n) (d.kp (Kp.of s1)) ⟨p, as, rfl, np, hp, ps⟩ l fun H2 w s2 r => q H2 w (s1.trans s2) r⟩
theorem paired_take {α β : Type} {R : α → β → Prop} {as : List α} {bs : List β} (h : Paired R as bs) : ∀ n, Paired R (as.take n) (bs.take n) := by
  induction h with
  | nil => intro n; rw [List.take_nil, List.take_nil]; exact .nil
  | cons r _ ih => intro n; cases n with
    | zero => exact .nil
    | succ n => exact .cons r (ih n)
theorem paired_drop {α β : Type} {R : α → β → Prop} {as : List α} {bs : List β} (h : Paired R as bs) : ∀ n, Paired R (as.drop n) (bs.drop n) := by
  induction h with
  | nil => intro n; rw [List.drop_nil, List.drop_nil]; exact .nil
  | cons r t ih => intro n; cases n with
    | zero => exact .cons r t
    | succ n => exact ih n
theorem gl_cut {K : PySem.W.Frag} {Z : Nat → Addr} {b : Addr} {i : Nat} {es : List D2} {ta : TA} (h : GA2 Z b ta es) (l : 6 + es.length ≤ 1000) : GL Z b (CWd Z b i wordsL) (tOp rCat (tSl (rSlL K) (tVar i) tNoPart (tPart (tC (.int 6)))) (tLst ta)) (wordsL.take 6 ++ es) := fun σ H Q ⟨v, e, d⟩ n q => by
  obtain ⟨p, as, rfl, np, hp, r⟩ := d
  have la : as.length = 15 := r.len
  refine ⟨_, e, 6, rfl, p, as, rfl, SqL.of hp, fun t ht => ?_⟩
  have ec : cutV as none (some 6) = as.take 6 := by unfold cutV; rw [la]; rfl
  rw [ec]
  obtain ⟨s0, e0⟩ := new_at (o := .lst (as.take 6)) ht
  refine l_lst2 h (by omega) (some_keep s0 n) fun H1 p1 as1 s1 np1 hp1 ps1 => ?_
  refine cat_go (ds := wordsL.take 6) (some_keep (s0.trans s1) n) ⟨t, _, rfl, new_ne n ht, s1 _ _ e0, (paired_take r 6).mapP' fun _ _ z => z.kp (Kp.of (s0.trans s1))⟩ ⟨p1, as1, rfl, np1, hp1, ps1⟩ ?_ fun H2 w s2 r2 => q H2 w ((s0.trans s1).trans s2) r2
  exact l
end K14

set_option pp.maxSteps 600
namespace K14
open PySem L2 PySem.Spec PyProof.Rows
theorem ne_of_none' {H : Hp} {a b : Addr} {o : HO} (h : H a = none) (g : H b = some o) : a ≠ b := fun e => by rw [e, g] at h; cases h
def spNo : Sp := fun _ _ _ _ => False
section
variable {P : Program} {w : World} {K : PySem.W.Frag} {mg : Str → Option Value} {base : Heap}
abbrev s_is_vector : Stmt := top 7
abbrev n_is_vector : List Str := ["value", "width", "part"]
theorem sc_is_vector : FnScope n_is_vector ["value", "width"] (defScope s_is_vector) := ⟨rfl, rfl, rfl, by decide +kernel, rfl, by decide +kernel, by decide +kernel⟩
theorem ok_vectorNo (F : DefAt K mg "is_vector" s_is_vector ["value", "width"]) : Has P w K mg base 1 "is_vector" ["value", "width"] spNo :=
  F.has sc_is_vector (fun vs H Q E h => h.elim) (fun f cdv A outer s H vs Q E hr h => h.elim)
abbrev s_grown : Stmt := top 45
abbrev n_grown : List Str := ["basis", "vector", "rest"]
theorem sc_grown : FnScope n_grown ["basis", "vector"] (defScope s_grown) := ⟨rfl, rfl, rfl, by decide +kernel, rfl, by decide +kernel, by decide +kernel⟩
theorem ok_grownNo (F : DefAt K mg "grown" s_grown ["basis", "vector"]) : Has P w K mg base 1 "grown" ["basis", "vector"] spNo :=
  F.has sc_grown (fun vs H Q E h => h.elim) (fun f cdv A outer s H vs Q E hr h => h.elim)
abbrev s_is_width : Stmt := top 6
abbrev n_is_width : List Str := ["value"]
theorem sc_is_width : FnScope n_is_width ["value"] (defScope s_is_width) := ⟨rfl, rfl, rfl, by decide +kernel, rfl, by decide +kernel, by decide +kernel⟩
def spW1 : Sp := fun vs H Q _ => vs = [.int 1] ∧ Q (.bl true) H
theorem ok_w1 {Z : Nat → Addr} (T : Txt mg) (g_is_integer : Has P w K mg base 1 "is_integer" ["value"] (spInt Z)) (F : DefAt K mg "is_width" s_is_width ["value"]) : Has P w K mg base 2 "is_width" ["value"] spW1 := by
  refine F.has sc_is_width (fun vs H Q E h => ?_) (fun f cdv A outer s H vs Q E hr h => ?_)
  · obtain ⟨rfl, _⟩ := h
    rfl
  · obtain ⟨rfl, k⟩ := h
    refine ⟨_, (pss_one (ps_ret (pe_and (pe_callHas g_is_integer (hr.mono (by decide)) rfl (pa_cons (pv 0) pa_nil)) (pe_one (pe_cmpR op_ge (pv 0) pe_int (nomark _)))))), ?_⟩
    exact ⟨_, rfl, 0, _, .a (.int 1), rfl, rfl, ⟨_, rfl, iteSe rfl ⟨_, rfl, _, _, rfl, rfl, k⟩⟩⟩
abbrev s_are_vectors : Stmt := top 8
abbrev n_are_vectors : List Str := ["value", "width", "part"]
theorem sc_are_vectors : FnScope n_are_vectors ["value", "width"] (defScope s_are_vectors) := ⟨rfl, rfl, rfl, by decide +kernel, rfl, by decide +kernel, by decide +kernel⟩
def spV1 (t1 : Addr) : Sp := fun vs H Q _ => vs = [.ref t1, .int 1] ∧ ∀ H', Same H H' → Q (.bl true) H'
theorem ok_v1 {t1 : Addr} (T : Txt mg) (N : NoRows K t1) (g_is_sequence : Has P w K mg base 1 "is_sequence" ["value"] (spNoRows t1)) (g_is_vector : Has P w K mg base 1 "is_vector" ["value", "width"] spNo) (F : DefAt K mg "are_vectors" s_are_vectors ["value", "width"]) : Has P w K mg base 2 "are_vectors" ["value", "width"] (spV1 t1) := by
  refine F.has sc_are_vectors (fun vs H Q E h => ?_) (fun f cdv A outer s H vs Q E hr h => ?_)
  · obtain ⟨rfl, _⟩ := h
    rfl
  · obtain ⟨rfl, k⟩ := h
    refine ⟨_, (pss_one (ps_ret (pe_and (pe_callHas g_is_sequence (hr.mono (by decide)) rfl (pa_cons (pv 0) pa_nil)) (pe_one (pe_callB (cr_all rfl) (by rfl) T.z_all (by decide +kernel) (pa_cons (pe_lc (own := [("part", 2)]) (g := gName 2) (by rfl) sc_are_vectors.nd (pi_seq (pv 0)) (blkOk_by (own := [("part", 2)]) (N := n_are_vectors) (sc := defScope s_are_vectors) (by decide +kernel)) (fun _ _ _ _ _ => (pg_name (i := 2) sc_are_vectors.nd rfl (Or.inl rfl))) (fun _ _ _ _ _ => pts_nil) (fun _ _ _ _ _ => (pe_callHas g_is_vector (hr.mono (by decide)) rfl (pa_cons (pv 2) (pa_cons (pv 1) pa_nil))))) pa_nil)))))), ?_⟩
    refine ⟨_, rfl, rfl, fun H1 s1 => ⟨_, rfl, iteSe rfl ?_⟩⟩
    refine .inr ⟨_, rfl, t1, rfl, ⟨_, N.sq _⟩, fun D hD => lc_it (walk_tup (xs := [])) (fun i H' => Same H1 H' ∧ H' D = some (.lst [])) ⟨(new_at hD).1, upd_same⟩ (fun i H' _ z => N.sq _) ?_ ?_⟩
    · rintro i y H' H'' hi _ _
      exact absurd hi (Nat.not_lt_zero _)
    · rintro H' ⟨sm, hD'⟩
      exact ⟨_, [], rfl, SqL.of hD', k _ (s1.trans sm)⟩
abbrev s_Lattice_init : Stmt := inClass (top 47) 0
abbrev n_Lattice_init : List Str := ["self", "width", "rows", "basis", "row"]
theorem sc_Lattice_init : FnScope n_Lattice_init ["self", "width", "rows"] (defScope s_Lattice_init) := ⟨rfl, rfl, rfl, by decide +kernel, rfl, by decide +kernel, by decide +kernel⟩
/-- Lattice(1) -/
def spLat (C t1 : Addr) : Sp := fun vs H Q _ => ∃ (x dx : Addr), vs = [.ref x, .int 1, .ref t1] ∧ H x = some (.ins C dx []) ∧ ∀ H', (∀ y o, y ≠ x → H y = some o → H' y = some o) → (∃ fs, H' x = some (.ins C dx fs)) → Q .non H'
theorem ok_lat {C t1 fI : Addr} {fd : FuncData} {d1 : V} (T : Txt mg) (N : NoRows K t1) (CE : ClsA K mg "Lattice" C ["width", "basis"]) (g_is_width : Has P w K mg base 2 "is_width" ["value"] spW1) (g_are_vectors : Has P w K mg base 2 "are_vectors" ["value", "width"] (spV1 t1)) (g_grown : Has P w K mg base 1 "grown" ["basis", "vector"] spNo)
    (F : FunD K "__init__" "Lattice.__init__" (defArgs s_Lattice_init) (defBody s_Lattice_init) (defScope s_Lattice_init) [d1] [] fI fd) : FnOk P w K mg base (L2.CX P w) 4 fI fd ["self", "width", "rows"] (spLat C t1) := by
  refine F.ok sc_Lattice_init (fun vs H Q E h => ?_) (fun cdv A outer s H vs Q E hr h => ?_)
  · obtain ⟨x, dx, rfl, _⟩ := h
    rfl
  · obtain ⟨x, dx, rfl, hx, k⟩ := h
    refine ⟨_, (pss_cons (ps_if (PW.pt (pw_or (pt_not (pt_val (pe_callHas g_is_width (hr.mono (by decide)) rfl (pa_cons (pv 1) pa_nil)))) (pw_or1 (pt_not (pt_val (pe_callHas g_are_vectors (hr.mono (by decide)) rfl (pa_cons (pv 2) (pa_cons (pv 1) pa_nil)))))))) (pss_one ps_never) pss_nil)
      (pss_cons (ps_set (i := 3) sc_Lattice_init.nd rfl (Or.inl rfl) (pe_tup pa_nil))
      (pss_cons (ps_for (passes_of rfl) rfl (pi_tup (pv 2)) (pg_name (i := 4) sc_Lattice_init.nd rfl (Or.inl rfl)) (pss_one (ps_set (i := 3) sc_Lattice_init.nd rfl (Or.inl rfl) (pe_callHas g_grown (hr.mono (by decide)) rfl (pa_cons (pv 3) (pa_cons (pv 4) pa_nil))))))
      (pss_cons (ps_fld (pv 0) (pv 1) rfl)
      (pss_one (ps_fld (pv 0) (pv 3) rfl)))))), ?_⟩
    refine ⟨_, rfl, rfl, _, rfl, iteSf rfl ⟨_, rfl, _, rfl, rfl, fun H1 s1 => ⟨_, rfl, iteSf rfl ?_⟩⟩⟩
    refine ⟨Nat.zero_le _, fun b0 hb0 => ?_⟩
    obtain ⟨s2, hb1⟩ := new_at (o := .tup []) hb0
    have hx2 := (s1.trans s2) _ _ hx
    have nb : b0 ≠ x := ne_of_none' hb0 (s1 _ _ hx)
    refine ⟨_, rfl, t1, rfl, ⟨_, N.sq _⟩, for_it (walk_tup (xs := [])) (fun i σ H' => H' = upd H1 b0 (.tup []) ∧ σ = [some (.ref x), some (.int 1), some (.ref t1), some (.ref b0), none]) ⟨rfl, rfl⟩ (fun i σ H' _ z => N.sq _) ?_ ?_⟩
    · rintro i y σ H' H'' hi _ _
      exact absurd hi (Nat.not_lt_zero _)
    · rintro σ H' ⟨rfl, rfl⟩
      refine ⟨_, rfl, _, rfl, x, C, dx, _, rfl, s2 _ _ (s1 _ _ hx), CE.cl, CE.n _ (by simp), (by show 0 < 1000; decide), ?_⟩
      refine ⟨_, rfl, _, rfl, x, C, dx, _, rfl, upd_same, CE.cl, CE.n _ (by simp), (by show 1 < 1000; decide), ?_⟩
      exact k _ (fun y o ny z => (upd_ne ny).trans ((upd_ne ny).trans (s2 _ _ (s1 _ _ z)))) ⟨_, upd_same⟩
end
end K14

set_option pp.maxSteps 300
namespace K14
open PySem L2 PySem.Spec PyProof.Rows
section
variable {P : Program} {w : World} {K : PySem.W.Frag} {mg : Str → Option Value} {base : Heap}
abbrev s_law_pick : Stmt := top 51
abbrev n_law_pick : List Str := ["_law_box_here", "_law_items"]
theorem sc_law_pick : FnScope n_law_pick ["_law_box_here", "_law_items"] (defScope s_law_pick) := ⟨rfl, rfl, rfl, by decide +kernel, rfl, by decide +kernel, by decide +kernel⟩
def spPick : Sp := fun vs H Q _ => ∃ (b l : Addr) (as : List V), vs = [.ref b, .ref l] ∧ Box H b ∧ H l = some (.lst as) ∧ l ≠ b ∧ 0 < as.length ∧ as.length ≤ 1000 ∧ ∀ (i : Nat) (v : V) (x y z : Int), as[i]? = some v → Q v (upd H b (.lst [.int x, .int y, .int z]))
theorem ok_pick (T : Txt mg) (g_law_take : Has P w K mg base 1 "_law_take" ["_law_box_here", "_law_many"] spTake) (F : DefAt K mg "_law_pick" s_law_pick ["_law_box_here", "_law_items"]) : Has P w K mg base 2 "_law_pick" ["_law_box_here", "_law_items"] spPick := by
  refine F.has sc_law_pick (fun vs H Q E h => ?_) (fun f cdv A outer s H vs Q E hr h => ?_)
  · obtain ⟨b, l, as, rfl, _⟩ := h
    rfl
  · obtain ⟨b, l, as, rfl, hb, hl, nb, l0, l1, k⟩ := h
    refine ⟨_, (pss_one (ps_ret (pe_ix ix_list (pv 1) (pe_callHas g_law_take (hr.mono (by decide)) rfl (pa_cons (pv 0) (pa_cons (pe_callB call_len (by rfl) T.z_len (by decide +kernel) (pa_cons (pv 1) pa_nil)) pa_nil))) (fun _ _ => rfl)))), ?_⟩
    refine ⟨_, rfl, _, rfl, _, rfl, _, _, rfl, .inl ⟨as, SqL.of hl, rfl⟩, b, (as.length : Int), rfl, hb, by omega, by omega, fun d x y z d0 d1 => ?_⟩
    obtain ⟨i, rfl⟩ : ∃ i : Nat, d = ((i : Nat) : Int) := ⟨d.toNat, by omega⟩
    have hi : i < as.length := by omega
    have e := List.getElem?_eq_getElem hi
    refine ⟨l, as, _, _, rfl, rfl, SqL.of (by rw [upd_ne nb]; exact hl), atI_nat e, ?_⟩
    exact k i _ x y z e
abbrev s_law_argument : Stmt := top 52
abbrev n_law_argument : List Str := ["_law_box_here", "_law_part", "_law_right", "_law_words", "_law_wrong", "_law_is_good"]
theorem sc_law_argument : FnScope n_law_argument ["_law_box_here", "_law_part"] (defScope s_law_argument) := ⟨rfl, rfl, rfl, by decide +kernel, rfl, by decide +kernel, by decide +kernel⟩
def spArg (Z : Nat → Addr) : Sp := fun vs H Q _ => ∃ (b : Addr) (part : Str) (rs ws : List D2), vs = [.ref b, .str part] ∧ rightL.lookup part = some rs ∧ wrongL.lookup part = some ws ∧ Box H b ∧
  ∀ (H' : Hp) (p : Addr) (v : V) (d : D2) (g : Bool), But b H H' → Box H' b → p ≠ b → H' p = some (.tup [v, .bl g]) → Rel2 Z b H' v d → d ∈ (if g then rs else ws) → Q (.ref p) H'
theorem Box.ne {H : Hp} {b : Addr} (h : Box H b) : H b ≠ none := by obtain ⟨x, y, z, e⟩ := h; rw [e]; exact fun z => nomatch z
theorem seq_asg {te : TE} {g : TG} {u : TS} {D : Ends} {σ : L2.St} {H : Hp} (h : te σ H fun x H1 => g x σ H1 fun σ2 H2 => u D σ2 H2) : tSeq (tAsg te g) u D σ H := h
theorem name_go {i : Nat} {v : V} {σ : L2.St} {H : Hp} {Q : L2.St → Hp → Prop} (h : Q (σ.set i (some v)) H) : gName i v σ H Q := h
/-- only the dict at p is written, behind new objects -/
def Tch (p : Addr) (H H' : Hp) : Prop := ∃ (H1 : Hp) (l : List (Key × V)) (o : HO), Same H H1 ∧ H1 p = some (.dK l) ∧ H' = upd H1 p o
theorem Tch.dl {Z : Nat → Addr} {b p q : Addr} {H0 H H' : Hp} {L : List (Str × List D2)} (t : Tch p H H') (h : DL Z b H0 H q L) (n : q ≠ p) : DL Z b H0 H' q L := by
  obtain ⟨H1, l, o, s, e, rfl⟩ := t
  exact (h.same s).other e n
theorem Tch.lst {Z : Nat → Addr} {b p : Addr} {H H' : Hp} {v : V} {ds : List D2} (t : Tch p H H') (h : Lst2 Z b H v ds) : Lst2 Z b H' v ds := by
  obtain ⟨H1, l, o, s, e, rfl⟩ := t
  exact (h.kp (Kp.of s)).updD e
theorem Tch.same {p : Addr} {H0 H H' : Hp} (t : Tch p H H') (h0 : H0 p = none) (s : Same H0 H) : Same H0 H' := by
  obtain ⟨H1, l, o, s1, e, rfl⟩ := t
  exact same_new (s.trans s1) h0
theorem upd_go {K : PySem.W.Frag} {Z : Nat → Addr} {b p : Addr} {C : L2.St → Hp → Prop} {i : Nat} {tp : List (TE × TE)} {L M : List (Str × List D2)} {σ : L2.St} {H0 H : Hp} {D : Ends} {u : TS} (hi : σ[i]? = some (some (.ref p))) (d : DL Z b H0 H p L) (g : GP Z b C tp M) (kp : ∀ σ H H', Same H H' → C σ H → C σ H') (c : C σ H) (nb : H b ≠ none) (s : Same H0 H) (l : M.length ≤ 15) (l2 : L.length + M.length ≤ 1000) (nd : (M.map (·.1)).Nodup) (nd2 : ((L ++ M).map (·.1)).Nodup)
    (k : ∀ H', Same H0 H' → DL Z b H0 H' p (L ++ M) → Tch p H H' → u D σ H') : tSeq (tDrop (tBM K "dict" rDUpd (tVar i) (tCons (tDisp tp) tNil))) u D σ H := by
  have hd := d
  obtain ⟨h0, np, kvs, e, _⟩ := hd
  refine ⟨_, hi, .inr (.inr (.inl ⟨rfl, .inl ⟨_, e⟩⟩)), cons_go (disp_go g kp c nb l nd fun H1 q s1 hq d1 => ?_)⟩
  have n : p ≠ q := fun z => by rw [z, hq] at e; cases e
  refine updL (d.same s1) d1 n l2 nd2 (s.trans s1) fun H2 s2 d2 _ ⟨l, el, o, eo⟩ => k H2 s2 d2 ⟨H1, l, o, s1, el, eo⟩
theorem put_go {Z : Nat → Addr} {b p : Addr} {C : L2.St → Hp → Prop} {i : Nat} {te : TE} {ds : List D2} {x : Str} {L : List (Str × List D2)} {σ : L2.St} {H0 H : Hp} {D : Ends} {u : TS} (hi : σ[i]? = some (some (.ref p))) (d : DL Z b H0 H p L) (g : GL Z b C te ds) (c : C σ H) (nb : H b ≠ none) (s : Same H0 H) (l2 : L.length ≤ 1000) (nd2 : ((L ++ [(x, ds)]).map (·.1)).Nodup)
    (k : ∀ H', Same H0 H' → DL Z b H0 H' p (L ++ [(x, ds)]) → Tch p H H' → u D σ H') : tSeq (sDPut (tVar i) (tC (.str x)) te) u D σ H := by
  refine g σ H _ c nb fun H1 v s1 r => ?_
  have d1 := d.same s1
  have lk : ∀ kvs, H1 p = some (.dK kvs) → kvs.length < sizeLine := fun kvs e => by
    obtain ⟨_, _, kvs', e', t⟩ := d1
    rw [e] at e'
    cases e'
    have := Paired.len t
    have q : (1000 : Nat) < sizeLine := by decide
    omega
  obtain ⟨kvs, e, s2, d2⟩ := putL d1 r nd2 (s.trans s1)
  exact ⟨_, hi, p, _, rfl, DPut.k (k := .inr x) e (lk _ e), k _ s2 d2 ⟨H1, _, _, s1, e, rfl⟩⟩
theorem bl_go {i : Nat} {c : Bool} {σ : L2.St} {H : Hp} {Q : L2.St → Hp → Prop} (h : ∀ g : Bool, Q (σ.set i (some (.bl g))) H) : gName i (.bl c) σ H Q := h c
theorem ret_go {te : TE} {D : Ends} {σ : L2.St} {H : Hp} (h : te σ H D.rt) : tRet te D σ H := h
theorem tup_go {ta : TA} {σ : L2.St} {H : Hp} {Q : VK} (h : ta σ H fun vs H1 => vs.length ≤ sizeLine ∧ ∀ p, H1 p = none → Q (.ref p) (upd H1 p (.tup vs))) : tTup ta σ H Q := h
theorem look_len {k : Str} {ds : List D2} : ∀ {L : List (Str × List D2)}, L.all (fun e => decide (0 < e.2.length) && decide (e.2.length ≤ 1000)) = true → L.lookup k = some ds → 0 < ds.length ∧ ds.length ≤ 1000
  | [], _, e => by cases e
  | (k', es) :: L, h, e => by
    rw [List.all_cons] at h
    obtain ⟨h1, h2⟩ := Bool.and_eq_true_iff.mp h
    obtain ⟨h3, h4⟩ := Bool.and_eq_true_iff.mp h1
    rw [List.lookup_cons] at e
    split at e
    · cases e
      exact ⟨of_decide_eq_true h3, of_decide_eq_true h4⟩
    · exact look_len h2 e
theorem pickL {Z : Nat → Addr} {b : Addr} {H : Hp} {v : V} {ds : List D2} {Q : VK} (h : Lst2 Z b H v ds) (hb : Box H b) (l0 : 0 < ds.length) (l1 : ds.length ≤ 1000) (q : ∀ (H' : Hp) (v : V) (d : D2), But b H H' → Box H' b → d ∈ ds → Rel2 Z b H' v d → Q v H') : spPick [.ref b, v] H Q E0 := by
  obtain ⟨p, as, rfl, n, hp, ps⟩ := h
  refine ⟨b, p, as, rfl, hb, hp, n, by rw [ps.len]; exact l0, by rw [ps.len]; exact l1, fun i v x y z e => ?_⟩
  obtain ⟨d, ed, rd⟩ := ps.at' e
  exact q _ v d But.upd' Box.upd' (List.mem_of_getElem? ed) (rd.kp Kp.upd')
theorem g_lat {Z : Nat → Addr} {b C t1 : Addr} {E : XK} {k : Nat} (e : Z k = C) : G0 Z b (tMake C (spLat C t1) [.ref t1] E (tCons (tC (.int 1)) tNil)) (.obj k) := fun σ H Q n q => by
  refine make_go ?_
  intro x dx hx hdx nd
  have s2 := laid (C := C) hx hdx nd
  refine ⟨x, dx, rfl, upd_same, fun H' kp hf => ?_⟩
  obtain ⟨fs, hf⟩ := hf
  exact ⟨rfl, q H' _ (fun y u w => kp y u (ne_of_none w hx) (s2 _ _ w)) ⟨x, dx, fs, rfl, new_ne n hx, by rw [e]; exact hf⟩⟩

theorem ok_arg {Z : Nat → Addr} {CK CM t0 t1 IR CI CP CW CN VC NT CL fI fP fK fW fN fL : Addr} {fdI fdP fdK fdW fdN fdL : FuncData} {ds1 dsL : List Value} (T : Txt mg)
    (CIf : ClsA K mg "If" CI ["test", "rows", "others"]) (MIf : Mk K CI fI) (g_If : FnOk P w K mg base (L2.CX P w) 4 fI fdI ["self", "test", "rows", "others"] (spIf Z CI IR t0)) (bIf1 : Binds K fdI ["self", "test", "rows", "others"] ds1) (vIf1 : Vals [.ref t0] ds1)
    (CPut : ClsA K mg "Put" CP ["note", "what"]) (MPut : Mk K CP fP) (g_Put : FnOk P w K mg base (L2.CX P w) 6 fP fdP ["self", "note", "what"] (spPut Z CP IR CK)) (bPut : Binds K fdP ["self", "note", "what"] [])
    (CMark : ClsA K mg "Mark" CK ["place"]) (MMark : Mk K CK fK) (g_Mark : FnOk P w K mg base (L2.CX P w) 5 fK fdK ["self", "place"] (spOne Z CK IR "place" (inStrs marks) fun d => Among Z CM d)) (bMark : Binds K fdK ["self", "place"] [])
    (CWas : ClsA K mg "Was" CW ["kind"]) (MWas : Mk K CW fW) (g_Was : FnOk P w K mg base (L2.CX P w) 4 fW fdW ["self", "kind"] (spOne Z CW IR "kind" kindB fun d => ok2 d = true ∧ sh0 d)) (bWas : Binds K fdW ["self", "kind"] [])
    (CNot : ClsA K mg "Not" CN ["test"]) (MNot : Mk K CN fN) (g_Not : FnOk P w K mg base (L2.CX P w) 4 fN fdN ["self", "test"] (spOne Z CN IR "test" (at2 testA) fun _ => True)) (bNot : Binds K fdN ["self", "test"] [])
    (CLat : ClsA K mg "Lattice" CL ["width", "basis"]) (MLat : Mk K CL fL) (g_Lat : FnOk P w K mg base (L2.CX P w) 4 fL fdL ["self", "width", "rows"] (spLat CL t1)) (bLat1 : Binds K fdL ["self", "width", "rows"] dsL) (vLat1 : Vals [.ref t1] dsL)
    (MV : Mk00 K VC) (mMoved : mg "Moved" = some (.ref VC)) (MNt : Mk00 K NT) (mNoted : mg "Noted" = some (.ref NT))
    (g_law_take : Has P w K mg base 1 "_law_take" ["_law_box_here", "_law_many"] spTake) (g_law_pick : Has P w K mg base 2 "_law_pick" ["_law_box_here", "_law_items"] spPick)
    (eZ0 : Z 0 = VC) (eZ1 : Z 1 = CK) (eZ2 : Z 2 = CN) (eZ3 : Z 3 = CW) (eZ4 : Z 4 = CP) (eZ5 : Z 5 = CI) (eZ6 : Z 6 = NT) (eZ7 : Z 7 = CL)
    (F : DefAt K mg "_law_argument" s_law_argument ["_law_box_here", "_law_part"]) : Has P w K mg base 9 "_law_argument" ["_law_box_here", "_law_part"] (spArg Z) := by
  refine F.has sc_law_argument (fun vs H Q E h => ?_) (fun f cdv A outer s H vs Q E hr h => ?_)
  · obtain ⟨b, part, rs, ws, rfl, _⟩ := h
    rfl
  · have hu := hr.units
    have hu1 := Nat.lt_of_le_of_lt (Nat.add_le_add_left (by decide : 1 ≤ 64) _) hu
    obtain ⟨b, part, rs, ws, rfl, er, ew, hb, k⟩ := h
    refine ⟨_, (pss_cons (ps_set (i := 2) sc_law_argument.nd rfl (Or.inl rfl) (pe_disp (pps_cons pe_str (pe_lst (pa_cons pe_int (pa_cons (pe_un un_neg pe_int) (pa_cons pe_int pa_nil)))) (pps_cons pe_str (pe_lst (pa_cons pe_str (pa_cons pe_str (pa_cons pe_str (pa_cons pe_str (pa_cons pe_str pa_nil)))))) (pps_cons pe_str (pe_lst (pa_cons pe_str (pa_cons pe_str pa_nil))) pps_nil))) (by rfl) (by rfl) (fun z => nomatch z) (by decide)))
      (pss_cons (ps_expr (pe_bm PySem.F.plainAttrs_dict PySem.F.slot_dict_update PySem.F.type_dict_update mt_dupd (pv 2) (pa_cons (pe_disp (pps_cons pe_str (pe_lst (pa_cons pe_str (pa_cons pe_str (pa_cons pe_str pa_nil)))) (pps_cons pe_str (pe_lst (pa_cons pe_str (pa_cons pe_str (pa_cons pe_str pa_nil)))) (pps_cons pe_str (pe_lst (pa_cons pe_str (pa_cons pe_str pa_nil))) pps_nil))) (by rfl) (by rfl) (fun z => nomatch z) (by decide)) pa_nil)))
      (pss_cons (ps_expr (pe_bm PySem.F.plainAttrs_dict PySem.F.slot_dict_update PySem.F.type_dict_update mt_dupd (pv 2) (pa_cons (pe_disp (pps_cons pe_str (pe_lst (pa_cons pe_str (pa_cons pe_str pa_nil))) (pps_cons pe_str (pe_lst (pa_cons pe_int (pa_cons (pe_un un_neg pe_int) (pa_cons pe_int pa_nil)))) (pps_cons pe_str (pe_lst (pa_cons (pe_make00 MV rfl mMoved) (pa_cons (pe_make MNot g_Not (hr.mono (by decide)) rfl CNot.m bNot .nil passN (pa_cons (pe_make MWas g_Was (hr.mono (by decide)) rfl CWas.m bWas .nil passN (pa_cons pe_str pa_nil)) pa_nil)) pa_nil))) pps_nil))) (by rfl) (by rfl) (fun z => nomatch z) (by decide)) pa_nil)))
      (pss_cons (ps_dput hu1 (pv 2) pe_str (pe_lst (pa_cons (pe_lst pa_nil) (pa_cons (pe_tup pa_nil) (pa_cons (pe_lst (pa_cons (pe_make MMark g_Mark (hr.mono (by decide)) rfl CMark.m bMark .nil passN (pa_cons pe_str pa_nil)) pa_nil)) (pa_cons (pe_tup (pa_cons (pe_make MPut g_Put (hr.mono (by decide)) rfl CPut.m bPut .nil passN (pa_cons pe_str (pa_cons pe_str pa_nil))) (pa_cons (pe_make MIf g_If (hr.mono (by decide)) rfl CIf.m bIf1 vIf1 passN (pa_cons (pe_make00 MNt rfl mNoted) (pa_cons (pe_lst pa_nil) pa_nil))) pa_nil))) pa_nil))))) rfl)
      (pss_cons (ps_set (i := 3) sc_law_argument.nd rfl (Or.inl rfl) (pe_lst (pa_cons pe_str (pa_cons pe_str (pa_cons pe_str (pa_cons pe_str (pa_cons pe_str (pa_cons pe_str (pa_cons pe_str (pa_cons pe_str (pa_cons pe_str (pa_cons pe_non (pa_cons pe_int (pa_cons pe_bl (pa_cons (pe_lst (pa_cons pe_str pa_nil)) (pa_cons (pe_tup (pa_cons pe_str pa_nil)) (pa_cons (pe_make MMark g_Mark (hr.mono (by decide)) rfl CMark.m bMark .nil passN (pa_cons pe_str pa_nil)) pa_nil)))))))))))))))))
      (pss_cons (ps_set (i := 4) sc_law_argument.nd rfl (Or.inl rfl) (pe_disp (pps_cons pe_str (pe_lst (pa_cons pe_non (pa_cons pe_bl (pa_cons pe_str (pa_cons (pe_lst (pa_cons pe_int pa_nil)) (pa_cons (pe_tup (pa_cons pe_int pa_nil)) (pa_cons (pe_make MLat g_Lat (hr.mono (by decide)) rfl CLat.m bLat1 vLat1 passN (pa_cons pe_int pa_nil)) pa_nil))))))) (pps_cons pe_str (pe_op op_cat (pv 3) (pe_lst (pa_cons pe_str (pa_cons pe_str pa_nil)))) (pps_cons pe_str (pv 3) pps_nil))) (by rfl) (by rfl) (fun z => nomatch z) (by decide)))
      (pss_cons (ps_expr (pe_bm PySem.F.plainAttrs_dict PySem.F.slot_dict_update PySem.F.type_dict_update mt_dupd (pv 4) (pa_cons (pe_disp (pps_cons pe_str (pe_lst (pa_cons pe_str (pa_cons pe_str (pa_cons pe_str (pa_cons pe_non (pa_cons pe_int (pa_cons (pe_lst (pa_cons pe_str pa_nil)) (pa_cons (pe_make00 MV rfl mMoved) pa_nil)))))))) (pps_cons pe_str (pe_op op_cat (pv 3) (pe_lst (pa_cons pe_str (pa_cons pe_str pa_nil)))) pps_nil)) (by rfl) (by rfl) (fun z => nomatch z) (by decide)) pa_nil)))
      (pss_cons (ps_expr (pe_bm PySem.F.plainAttrs_dict PySem.F.slot_dict_update PySem.F.type_dict_update mt_dupd (pv 4) (pa_cons (pe_disp (pps_cons pe_str (pe_lst (pa_cons pe_str (pa_cons pe_str (pa_cons pe_str (pa_cons pe_non (pa_cons pe_int (pa_cons (pe_tup (pa_cons pe_str pa_nil)) pa_nil))))))) (pps_cons pe_str (pe_op op_cat (pe_slice sl_list (pv 3) po_none (po_some pe_int)) (pe_lst (pa_cons pe_str (pa_cons pe_non (pa_cons pe_int (pa_cons (pe_lst (pa_cons pe_str pa_nil)) pa_nil)))))) pps_nil)) (by rfl) (by rfl) (fun z => nomatch z) (by decide)) pa_nil)))
      (pss_cons (ps_expr (pe_bm PySem.F.plainAttrs_dict PySem.F.slot_dict_update PySem.F.type_dict_update mt_dupd (pv 4) (pa_cons (pe_disp (pps_cons pe_str (pe_lst (pa_cons pe_non (pa_cons pe_bl (pa_cons pe_str (pa_cons (pe_lst (pa_cons pe_int pa_nil)) (pa_cons (pe_make MMark g_Mark (hr.mono (by decide)) rfl CMark.m bMark .nil passN (pa_cons pe_str pa_nil)) pa_nil)))))) pps_nil) (by rfl) (by rfl) (fun z => nomatch z) (by decide)) pa_nil)))
      (pss_cons (ps_dput hu1 (pv 4) pe_str (pe_lst (pa_cons pe_str (pa_cons pe_non (pa_cons (pe_make MMark g_Mark (hr.mono (by decide)) rfl CMark.m bMark .nil passN (pa_cons pe_str pa_nil)) (pa_cons pe_bl (pa_cons (pe_lst (pa_cons (pe_make00 MV rfl mMoved) pa_nil)) pa_nil)))))) rfl)
      (pss_cons (ps_dput hu1 (pv 4) pe_str (pe_lst (pa_cons pe_non (pa_cons pe_str (pa_cons (pe_make MMark g_Mark (hr.mono (by decide)) rfl CMark.m bMark .nil passN (pa_cons pe_str pa_nil)) (pa_cons (pe_lst (pa_cons (pe_make00 MV rfl mMoved) pa_nil)) (pa_cons (pe_tup (pa_cons (pe_make MMark g_Mark (hr.mono (by decide)) rfl CMark.m bMark .nil passN (pa_cons pe_str pa_nil)) (pa_cons pe_non pa_nil))) (pa_cons pe_int (pa_cons (pe_lst (pa_cons (pe_lst (pa_cons (pe_make MMark g_Mark (hr.mono (by decide)) rfl CMark.m bMark .nil passN (pa_cons pe_str pa_nil)) pa_nil)) pa_nil)) (pa_cons (pe_lst (pa_cons pe_str pa_nil)) pa_nil))))))))) rfl)
      (pss_cons (ps_set (i := 5) sc_law_argument.nd rfl (Or.inl rfl) (pe_cmpR op_gt (pe_callHas g_law_take (hr.mono (by decide)) rfl (pa_cons (pv 0) (pa_cons pe_int pa_nil))) pe_int (nomark _)))
      (pss_one (ps_ret (pe_tup (pa_cons (pe_callHas g_law_pick (hr.mono (by decide)) rfl (pa_cons (pv 0) (pa_cons (pe_ifExp (pt_val (pv 5)) (pe_dget hu1 (pv 2) (pv 1) (fun _ _ => rfl)) (pe_dget hu1 (pv 4) (pv 1) (fun _ _ => rfl))) pa_nil))) (pa_cons (pv 5) pa_nil))))))))))))))))), ?_⟩
    have nb := hb.ne
    -- what is right
    refine seq_asg ?_
    refine disp_go (C := CT) (L := right0) (Z := Z) (b := b) (gp_cons kpT (gl_lst (ga2_cons (g2_a (g_int 0)) (ga2_cons (g2_a (g_neg 7)) (ga2_cons (g2_a (g_int 999)) ga2_nil))) (by decide)) (gp_cons kpT (gl_lst (ga2_cons (g2_a (g_str "old")) (ga2_cons (g2_a (g_str "new")) (ga2_cons (g2_a (g_str "one")) (ga2_cons (g2_a (g_str "n")) (ga2_cons (g2_a (g_str "zzzz")) ga2_nil))))) (by decide)) (gp_cons kpT (gl_lst (ga2_cons (g2_a (g_str "sum")) (ga2_cons (g2_a (g_str "on")) ga2_nil)) (by decide)) gp_nil))) kpT trivial nb (by decide) (by decide +kernel) fun H1 p s1 hp d1 => ?_
    refine name_go ?_
    try dsimp only
    refine upd_go (C := CT) (M := right1) rfl (d1.since hp s1) (gp_cons kpT (gl_lst (ga2_cons (g2_a (g_str "old")) (ga2_cons (g2_a (g_str "new")) (ga2_cons (g2_a (g_str "noted")) ga2_nil))) (by decide)) (gp_cons kpT (gl_lst (ga2_cons (g2_a (g_str "old")) (ga2_cons (g2_a (g_str "new")) (ga2_cons (g2_a (g_str "none")) ga2_nil))) (by decide)) (gp_cons kpT (gl_lst (ga2_cons (g2_a (g_str "n")) (ga2_cons (g2_a (g_str "end")) ga2_nil)) (by decide)) gp_nil))) kpT trivial (some_keep s1 nb) s1 (by decide) (by decide) (by decide +kernel) (by decide +kernel) fun H2 s2 d2 _ => ?_
    refine upd_go (C := CT) (M := right2) rfl d2 (gp_cons kpT (gl_lst (ga2_cons (g2_a (g_str "up")) (ga2_cons (g2_a (g_str "none")) ga2_nil)) (by decide)) (gp_cons kpT (gl_lst (ga2_cons (g2_a (g_int 0)) (ga2_cons (g2_a (g_neg 1)) (ga2_cons (g2_a (g_int 999999)) ga2_nil))) (by decide)) (gp_cons kpT (gl_lst (ga2_cons (g2_a (g_new eZ0)) (ga2_cons (g2_a (g_one eZ2 (g_one eZ3 (g_str "none") (by decide +kernel) ⟨(by decide +kernel), sh0_of (by decide +kernel)⟩) (by decide +kernel) trivial)) ga2_nil)) (by decide)) gp_nil))) kpT trivial (some_keep s2 nb) s2 (by decide) (by decide) (by decide +kernel) (by decide +kernel) fun H3 s3 d3 _ => ?_
    refine put_go (C := CT) rfl d3 (gl_lst (ga2_cons (g2_lst ga1_nil (by decide)) (ga2_cons (g2_tup ga1_nil (by decide)) (ga2_cons (g2_lst (ga1_cons (g1_a (g_one eZ1 (g_str "old") (by decide +kernel) (.inl (by decide +kernel)))) ga1_nil) (by decide)) (ga2_cons (g2_tup (ga1_cons (g1_a (g_put eZ4 (g_str "n") (g_str "one") (by decide +kernel) (sh0_of (by decide +kernel)) (sh0_of (by decide +kernel)) (.inl (by decide +kernel)))) (ga1_cons (g1_a (g_if eZ5 (g_new eZ6) (g1_lst ga_nil (by decide)) (by decide +kernel) (by decide))) ga1_nil)) (by decide)) ga2_nil)))) (by decide)) trivial (some_keep s3 nb) s3 (by decide) (by decide +kernel) fun H4 s4 d4 _ => ?_
    have d4 : DL Z b H H4 p rightL := d4
    -- words
    refine seq_asg (l_lst2 (Z := Z) (b := b) (ds := wordsL) (ga2_cons (g2_a (g_str "")) (ga2_cons (g2_a (g_str "abcde")) (ga2_cons (g2_a (g_str "A")) (ga2_cons (g2_a (g_str "a1")) (ga2_cons (g2_a (g_str "a ")) (ga2_cons (g2_a (g_str "a\n")) (ga2_cons (g2_a (g_str "none")) (ga2_cons (g2_a (g_str "to")) (ga2_cons (g2_a (g_str "not")) (ga2_cons (g2_a g_non) (ga2_cons (g2_a (g_int 0)) (ga2_cons (g2_a (g_bl true)) (ga2_cons (g2_lst (ga1_cons (g1_a (g_str "a")) ga1_nil) (by decide)) (ga2_cons (g2_tup (ga1_cons (g1_a (g_str "a")) ga1_nil) (by decide)) (ga2_cons (g2_a (g_one eZ1 (g_str "old") (by decide +kernel) (.inl (by decide +kernel)))) ga2_nil))))))))))))))) (by decide) (some_keep s4 nb) fun H5 pw asw s5 npw hpw psw => ?_)
    refine name_go ?_
    try dsimp only
    have w5 : Lst2 Z b H5 (.ref pw) wordsL := ⟨pw, asw, rfl, npw, hpw, psw⟩
    have d5 := d4.same s5
    have s05 := s4.trans s5
    clear d1 d2 d3 d4 hpw psw
    -- what is wrong
    refine seq_asg ?_
    refine disp_go (C := CWd Z b 3 wordsL) (L := wrong0) (Z := Z) (b := b) (gp_cons kpW (gl_lst (ga2_cons (g2_a g_non) (ga2_cons (g2_a (g_bl true)) (ga2_cons (g2_a (g_str "1")) (ga2_cons (g2_lst (ga1_cons (g1_a (g_int 1)) ga1_nil) (by decide)) (ga2_cons (g2_tup (ga1_cons (g1_a (g_int 1)) ga1_nil) (by decide)) (ga2_cons (g2_a (g_lat eZ7)) ga2_nil)))))) (by decide)) (gp_cons kpW (gl_cat (ds := wordsL) (ga2_cons (g2_a (g_str "noted")) (ga2_cons (g2_a (g_str "amount")) ga2_nil)) (by decide)) (gp_cons kpW gl_var gp_nil))) kpW ⟨_, rfl, w5⟩ (some_keep s05 nb) (by decide) (by decide +kernel) fun H6 q s6 hq e6 => ?_
    refine name_go ?_
    try dsimp only
    have npq : p ≠ q := fun z => by obtain ⟨_, _, kvs, e, _⟩ := d5; rw [z, hq] at e; cases e
    have hq0 : H q = none := back s05 hq
    have s06 := s05.trans s6
    have d6 := d5.same s6
    have w6 := w5.kp (Kp.of s6)
    refine upd_go (C := CWd Z b 3 wordsL) (M := wrong1) rfl (e6.since hq0 s06) (gp_cons kpW (gl_lst (ga2_cons (g2_a (g_str "none")) (ga2_cons (g2_a (g_str "")) (ga2_cons (g2_a (g_str "n")) (ga2_cons (g2_a g_non) (ga2_cons (g2_a (g_int 0)) (ga2_cons (g2_lst (ga1_cons (g1_a (g_str "old")) ga1_nil) (by decide)) (ga2_cons (g2_a (g_new eZ0)) ga2_nil))))))) (by decide)) (gp_cons kpW (gl_cat (ds := wordsL) (ga2_cons (g2_a (g_str "old")) (ga2_cons (g2_a (g_str "one")) ga2_nil)) (by decide)) gp_nil)) kpW ⟨_, rfl, w6⟩ (some_keep s06 nb) s06 (by decide) (by decide) (by decide +kernel) (by decide +kernel) fun H7 s7 e7 t7 => ?_
    have d7 := t7.dl d6 npq
    have w7 := t7.lst w6
    refine upd_go (C := CWd Z b 3 wordsL) (M := wrong2) rfl e7 (gp_cons kpW (gl_lst (ga2_cons (g2_a (g_str "noted")) (ga2_cons (g2_a (g_str "")) (ga2_cons (g2_a (g_str "n")) (ga2_cons (g2_a g_non) (ga2_cons (g2_a (g_int 0)) (ga2_cons (g2_tup (ga1_cons (g1_a (g_str "new")) ga1_nil) (by decide)) ga2_nil)))))) (by decide)) (gp_cons kpW (gl_cut (ga2_cons (g2_a (g_str "to")) (ga2_cons (g2_a g_non) (ga2_cons (g2_a (g_int 0)) (ga2_cons (g2_lst (ga1_cons (g1_a (g_str "up")) ga1_nil) (by decide)) ga2_nil)))) (by decide)) gp_nil)) kpW ⟨_, rfl, w7⟩ (some_keep s7 nb) s7 (by decide) (by decide) (by decide +kernel) (by decide +kernel) fun H8 s8 e8 t8 => ?_
    have d8 := t8.dl d7 npq
    refine upd_go (C := CT) (M := wrong3) rfl e8 (gp_cons kpT (gl_lst (ga2_cons (g2_a g_non) (ga2_cons (g2_a (g_bl false)) (ga2_cons (g2_a (g_str "0")) (ga2_cons (g2_lst (ga1_cons (g1_a (g_int 0)) ga1_nil) (by decide)) (ga2_cons (g2_a (g_one eZ1 (g_str "old") (by decide +kernel) (.inl (by decide +kernel)))) ga2_nil))))) (by decide)) gp_nil) kpT trivial (some_keep s8 nb) s8 (by decide) (by decide) (by decide +kernel) (by decide +kernel) fun H9 s9 e9 t9 => ?_
    have d9 := t9.dl d8 npq
    refine put_go (C := CT) rfl e9 (gl_lst (ga2_cons (g2_a (g_str "moved")) (ga2_cons (g2_a g_non) (ga2_cons (g2_a (g_one eZ1 (g_str "old") (by decide +kernel) (.inl (by decide +kernel)))) (ga2_cons (g2_a (g_bl true)) (ga2_cons (g2_lst (ga1_cons (g1_a (g_new eZ0)) ga1_nil) (by decide)) ga2_nil))))) (by decide)) trivial (some_keep s9 nb) s9 (by decide) (by decide +kernel) fun HA sA eA tA => ?_
    have dA := tA.dl d9 npq
    refine put_go (C := CT) rfl eA (gl_lst (ga2_cons (g2_a g_non) (ga2_cons (g2_a (g_str "")) (ga2_cons (g2_a (g_one eZ1 (g_str "old") (by decide +kernel) (.inl (by decide +kernel)))) (ga2_cons (g2_lst (ga1_cons (g1_a (g_new eZ0)) ga1_nil) (by decide)) (ga2_cons (g2_tup (ga1_cons (g1_a (g_one eZ1 (g_str "old") (by decide +kernel) (.inl (by decide +kernel)))) (ga1_cons (g1_a g_non) ga1_nil)) (by decide)) (ga2_cons (g2_a (g_int 0)) (ga2_cons (g2_lst (ga1_cons (g1_lst (ga_cons (g_one eZ1 (g_str "old") (by decide +kernel) (.inl (by decide +kernel))) ga_nil) (by decide)) ga1_nil) (by decide)) (ga2_cons (g2_lst (ga1_cons (g1_a (g_str "mark old")) ga1_nil) (by decide)) ga2_nil)))))))) (by decide)) trivial (some_keep sA nb) sA (by decide) (by decide +kernel) fun HB sB eB tB => ?_
    have dB := tB.dl dA npq
    have eB : DL Z b H HB q wrongL := eB
    have hbB : Box HB b := hb.keep sB
    refine seq_asg ⟨_, rfl, b, 3, rfl, hbB, by decide, by decide, fun d x y z d0 d1 => ⟨_, _, rfl, rfl, bl_go fun good => ?_⟩⟩
    have uC : But b H (upd HB b (.lst [.int x, .int y, .int z])) := (Same.but sB).trans But.upd'
    have bC : Box (upd HB b (.lst [.int x, .int y, .int z])) b := Box.upd'
    have dC := dB.but (But.upd' (o := .lst [.int x, .int y, .int z]))
    have eC := eB.but (But.upd' (o := .lst [.int x, .int y, .int z]))
    generalize upd HB b (.lst [.int x, .int y, .int z]) = HC at *
    try dsimp only
    obtain ⟨vr, gr, lr⟩ := dC.at' er
    obtain ⟨vw, gw, lw⟩ := eC.at' ew
    obtain ⟨r0, r1⟩ := look_len (by decide +kernel) er
    obtain ⟨w0, w1⟩ := look_len (by decide +kernel) ew
    refine ret_go (tup_go (cons_go ?_))
    refine ⟨_, rfl, _, rfl, _, rfl, ?_⟩
    cases good with
    | true =>
      refine iteSe rfl ⟨_, rfl, _, rfl, p, vr, rfl, gr, ?_⟩
      unfold tNil
      dsimp only
      show spPick [.ref b, vr] HC _ E0
      refine pickL lr bC r0 r1 fun HD v d uD bD md rd => ⟨_, rfl, (by decide : 2 ≤ sizeLine), fun t ht => ?_⟩
      obtain ⟨sT, hT⟩ := new_at (o := .tup [v, .bl true]) ht
      exact k _ t v d true (uC.trans (uD.trans (Same.but sT))) (bD.keep sT) (new_ne bD.ne ht) hT (rd.kp (Kp.of sT)) md
    | false =>
      refine iteSf rfl ⟨_, rfl, _, rfl, q, vw, rfl, gw, ?_⟩
      unfold tNil
      dsimp only
      show spPick [.ref b, vw] HC _ E0
      refine pickL lw bC w0 w1 fun HD v d uD bD md rd => ⟨_, rfl, (by decide : 2 ≤ sizeLine), fun t ht => ?_⟩
      obtain ⟨sT, hT⟩ := new_at (o := .tup [v, .bl false]) ht
      exact k _ t v d false (uC.trans (uD.trans (Same.but sT))) (bD.keep sT) (new_ne bD.ne ht) hT (rd.kp (Kp.of sT)) md
end
end K14

set_option pp.maxSteps 600
namespace K14
open PySem L2 PySem.Spec PyProof.Rows
/-! ### the words, and what is due of their arguments -/
def shapesS : List (Str × List Str) := [("add", ["factor", "what", "total", "place"]), ("put", ["note", "what"]), ("mark", ["mark"]), ("was", ["kind"]), ("old", ["number"]), ("new", ["number"]), ("not", ["test"]), ("if", ["test", "row", "row"])]
def strsD (l : List Str) : List D2 := l.map fun s => .a (.str s)
def shapesD : List (Str × List D2) := shapesS.map fun e => (e.1, strsD e.2)
def shape0 : List (Str × List D2) := [("add", [.a (.str "factor"), .a (.str "what"), .a (.str "total"), .a (.str "place")]), ("put", [.a (.str "note"), .a (.str "what")]), ("mark", [.a (.str "mark")])]
def shape1 : List (Str × List D2) := [("was", [.a (.str "kind")]), ("old", [.a (.str "number")]), ("new", [.a (.str "number")]), ("not", [.a (.str "test")])]
def shape2 : List (Str × List D2) := [("if", [.a (.str "test"), .a (.str "row"), .a (.str "row")])]
theorem shapes_eq : shape0 ++ shape1 ++ shape2 = shapesD := rfl
/-- an argument of a part -/
def InPart (part : Str) (d : D2) (g : Bool) : Prop := ∃ rs ws, rightL.lookup part = some rs ∧ wrongL.lookup part = some ws ∧ d ∈ (if g then rs else ws)
def allPart (part : Str) (f : D2 → Bool → Bool) : Bool := match rightL.lookup part, wrongL.lookup part with
  | some rs, some ws => rs.all (fun d => f d true) && ws.all (fun d => f d false)
  | _, _ => false
theorem InPart.fact {part : Str} {d : D2} {g : Bool} (h : InPart part d g) (f : D2 → Bool → Bool) (c : allPart part f = true) : f d g = true := by
  obtain ⟨rs, ws, e1, e2, m⟩ := h
  unfold allPart at c
  rw [e1, e2] at c
  obtain ⟨c1, c2⟩ := Bool.and_eq_true_iff.mp c
  cases g with
  | true => exact List.all_eq_true.mp c1 d m
  | false => exact List.all_eq_true.mp c2 d m
def isObj (k : Nat) : D2 → Bool
  | .a (.obj j) => j == k
  | _ => false
theorem among {Z : Nat → Addr} {C : Addr} {k : Nat} {d : D2} (e : Z k = C) (h : (ok2 d || isObj k d) = true) : Among Z C d := by
  rcases Bool.or_eq_true_iff.mp h with h | h
  · exact .inl h
  · cases d with
    | a x =>
      cases x with
      | obj j =>
        have : j = k := by simpa [isObj] using h
        subst this
        exact .inr ⟨j, rfl, e⟩
      | _ => cases h
    | s t xs => cases h
theorem InPart.is {part : Str} {d : D2} {g : Bool} (h : InPart part d g) (f : D2 → Bool) (c : allPart part (fun d g => f d == g) = true) : f d = g := eq_of_beq (h.fact _ c)
theorem unc {α β : Type} {f : α → β} {es : List α} {p : β} {ps : List β} (h : es.map f = p :: ps) : ∃ e t, es = e :: t ∧ f e = p ∧ t.map f = ps := by
  cases es with
  | nil => simp at h
  | cons e t => rw [List.map_cons] at h; injection h with h1 h2; exact ⟨e, t, rfl, h1, h2⟩
theorem unn {α β : Type} {f : α → β} {es : List α} (h : es.map f = []) : es = [] := List.map_eq_nil_iff.mp h
theorem pun {α β : Type} {R : α → β → Prop} {vs : List α} {e : β} {t : List β} (h : Paired R vs (e :: t)) : ∃ v us, vs = v :: us ∧ R v e ∧ Paired R us t := by
  cases h with
  | cons a b => exact ⟨_, _, rfl, a, b⟩
theorem pnn {α β : Type} {R : α → β → Prop} {vs : List α} (h : Paired R vs ([] : List β)) : vs = [] := by cases h; rfl
abbrev Hd := Str × D2 × Bool
theorem makes_of {Z : Nat → Addr} {CK CM t0 b : Addr} {H : Hp} (e0 : Z 0 = CM) (e1 : Z 1 = CK) {word : Str} {parts : List Str} {es : List Hd} {vals : List V} (m : (word, parts) ∈ shapesS) (ee : es.map (·.1) = parts) (rel : Paired (fun v e => Rel2 Z b H v e.2.1) vals es) (ok : ∀ e ∈ es, InPart e.1 e.2.1 e.2.2) :
    ∃ va vb vc vd, (vals ++ [V.non, .non, .non, .non]).take 4 = [va, vb, vc, vd] ∧ Makes Z CK CM t0 b H word va vb vc vd (dueP parts (es.map (·.2.2))) := by
  have one : ∀ p : Str, parts = [p] → ∃ v d g, es = [(p, d, g)] ∧ vals = [v] ∧ Rel2 Z b H v d ∧ InPart p d g := fun p ep => by
    subst ep
    obtain ⟨⟨p1, d1, g1⟩, t, rfl, q1, ee⟩ := unc ee
    obtain rfl := unn ee
    obtain ⟨v1, us, rfl, r1, rel⟩ := pun rel
    obtain rfl := pnn rel
    cases q1
    exact ⟨v1, d1, g1, rfl, rfl, r1, ok _ (.head _)⟩
  simp only [shapesS, List.mem_cons, List.not_mem_nil, or_false, Prod.mk.injEq] at m
  rcases m with ⟨rfl, rfl⟩ | ⟨rfl, rfl⟩ | ⟨rfl, rfl⟩ | ⟨rfl, rfl⟩ | ⟨rfl, rfl⟩ | ⟨rfl, rfl⟩ | ⟨rfl, rfl⟩ | ⟨rfl, rfl⟩
  · obtain ⟨⟨p1, d1, g1⟩, t, rfl, q1, ee⟩ := unc ee
    obtain ⟨⟨p2, d2, g2⟩, t, rfl, q2, ee⟩ := unc ee
    obtain ⟨⟨p3, d3, g3⟩, t, rfl, q3, ee⟩ := unc ee
    obtain ⟨⟨p4, d4, g4⟩, t, rfl, q4, ee⟩ := unc ee
    obtain rfl := unn ee
    obtain ⟨v1, us, rfl, r1, rel⟩ := pun rel
    obtain ⟨v2, us, rfl, r2, rel⟩ := pun rel
    obtain ⟨v3, us, rfl, r3, rel⟩ := pun rel
    obtain ⟨v4, us, rfl, r4, rel⟩ := pun rel
    obtain rfl := pnn rel
    cases q1; cases q2; cases q3; cases q4
    have i1 : InPart "factor" d1 g1 := ok _ (.head _)
    have i2 : InPart "what" d2 g2 := ok _ (.tail _ (.head _))
    have i3 : InPart "total" d3 g3 := ok _ (.tail _ (.tail _ (.head _)))
    have i4 : InPart "place" d4 g4 := ok _ (.tail _ (.tail _ (.tail _ (.head _))))
    have f1 := i1.is (at2 int0) (by decide +kernel)
    have f2 := i2.is whatB (by decide +kernel)
    have f3 := i3.is (at2 name0) (by decide +kernel)
    have f4 := i4.is (inStrs places) (by decide +kernel)
    refine ⟨v1, v2, v3, v4, rfl, ?_⟩
    have mk := Makes.add (t0 := t0) r1 r2 r3 r4 (sh0_of (i2.fact (fun d _ => shB d) (by decide +kernel))) (among e1 (i2.fact (fun d _ => ok2 d || isObj 1 d) (by decide +kernel))) (sh0_of (i3.fact (fun d _ => shB d) (by decide +kernel))) (among e0 (i4.fact (fun d _ => ok2 d || isObj 0 d) (by decide +kernel)))
    have ed : addDue d1 d2 d3 d4 = dueP ["factor", "what", "total", "place"] [g1, g2, g3, g4] := by
      unfold addDue
      rw [f1, f2, f3, f4]
      cases g1 <;> cases g2 <;> cases g3 <;> cases g4 <;> decide +kernel
    rw [ed] at mk
    exact mk
  · obtain ⟨⟨p1, d1, g1⟩, t, rfl, q1, ee⟩ := unc ee
    obtain ⟨⟨p2, d2, g2⟩, t, rfl, q2, ee⟩ := unc ee
    obtain rfl := unn ee
    obtain ⟨v1, us, rfl, r1, rel⟩ := pun rel
    obtain ⟨v2, us, rfl, r2, rel⟩ := pun rel
    obtain rfl := pnn rel
    cases q1; cases q2
    have i1 : InPart "note" d1 g1 := ok _ (.head _)
    have i2 : InPart "what" d2 g2 := ok _ (.tail _ (.head _))
    have f1 := i1.is (at2 name0) (by decide +kernel)
    have f2 := i2.is whatB (by decide +kernel)
    refine ⟨v1, v2, .non, .non, rfl, ?_⟩
    have mk := Makes.put (CM := CM) (t0 := t0) (u := .non) (u2 := .non) r1 r2 (sh0_of (i1.fact (fun d _ => shB d) (by decide +kernel))) (sh0_of (i2.fact (fun d _ => shB d) (by decide +kernel))) (among e1 (i2.fact (fun d _ => ok2 d || isObj 1 d) (by decide +kernel)))
    have ed : putDue d1 d2 = dueP ["note", "what"] [g1, g2] := by
      unfold putDue
      rw [f1, f2]
      cases g1 <;> cases g2 <;> decide +kernel
    rw [ed] at mk
    exact mk
  · obtain ⟨v, d, g, rfl, rfl, r, i⟩ := one _ rfl
    have f1 := i.is (inStrs marks) (by decide +kernel)
    refine ⟨v, .non, .non, .non, rfl, ?_⟩
    have mk := Makes.mark (CK := CK) (t0 := t0) (u := .non) (u2 := .non) (u3 := .non) r (among e0 (i.fact (fun d _ => ok2 d || isObj 0 d) (by decide +kernel)))
    rw [f1] at mk
    have ed : (if g = true then ("made" : Str) else "place") = dueP ["mark"] [g] := by cases g <;> decide +kernel
    rw [ed] at mk
    exact mk
  · obtain ⟨v, d, g, rfl, rfl, r, i⟩ := one _ rfl
    have f1 := i.is kindB (by decide +kernel)
    refine ⟨v, .non, .non, .non, rfl, ?_⟩
    have mk := Makes.was (CK := CK) (CM := CM) (t0 := t0) (u := .non) (u2 := .non) (u3 := .non) r (i.fact (fun d _ => ok2 d) (by decide +kernel)) (sh0_of (i.fact (fun d _ => shB d) (by decide +kernel)))
    rw [f1] at mk
    have ed : (if g = true then ("made" : Str) else "kind") = dueP ["kind"] [g] := by cases g <;> decide +kernel
    rw [ed] at mk
    exact mk
  · obtain ⟨v, d, g, rfl, rfl, r, i⟩ := one _ rfl
    have f1 := i.is (at2 int0) (by decide +kernel)
    refine ⟨v, .non, .non, .non, rfl, ?_⟩
    have mk := Makes.old (CK := CK) (CM := CM) (t0 := t0) (u := .non) (u2 := .non) (u3 := .non) r
    rw [f1] at mk
    have ed : (if g = true then ("made" : Str) else "number") = dueP ["number"] [g] := by cases g <;> decide +kernel
    rw [ed] at mk
    exact mk
  · obtain ⟨v, d, g, rfl, rfl, r, i⟩ := one _ rfl
    have f1 := i.is (at2 int0) (by decide +kernel)
    refine ⟨v, .non, .non, .non, rfl, ?_⟩
    have mk := Makes.new (CK := CK) (CM := CM) (t0 := t0) (u := .non) (u2 := .non) (u3 := .non) r
    rw [f1] at mk
    have ed : (if g = true then ("made" : Str) else "number") = dueP ["number"] [g] := by cases g <;> decide +kernel
    rw [ed] at mk
    exact mk
  · obtain ⟨v, d, g, rfl, rfl, r, i⟩ := one _ rfl
    have f1 := i.is (at2 testA) (by decide +kernel)
    refine ⟨v, .non, .non, .non, rfl, ?_⟩
    have mk := Makes.not (CK := CK) (CM := CM) (t0 := t0) (u := .non) (u2 := .non) (u3 := .non) r
    rw [f1] at mk
    have ed : (if g = true then ("made" : Str) else "test") = dueP ["test"] [g] := by cases g <;> decide +kernel
    rw [ed] at mk
    exact mk
  · obtain ⟨⟨p1, d1, g1⟩, t, rfl, q1, ee⟩ := unc ee
    obtain ⟨⟨p2, d2, g2⟩, t, rfl, q2, ee⟩ := unc ee
    obtain ⟨⟨p3, d3, g3⟩, t, rfl, q3, ee⟩ := unc ee
    obtain rfl := unn ee
    obtain ⟨v1, us, rfl, r1, rel⟩ := pun rel
    obtain ⟨v2, us, rfl, r2, rel⟩ := pun rel
    obtain ⟨v3, us, rfl, r3, rel⟩ := pun rel
    obtain rfl := pnn rel
    cases q1; cases q2; cases q3
    have i1 : InPart "test" d1 g1 := ok _ (.head _)
    have i2 : InPart "row" d2 g2 := ok _ (.tail _ (.head _))
    have i3 : InPart "row" d3 g3 := ok _ (.tail _ (.tail _ (.head _)))
    have f1 := i1.is (at2 testA) (by decide +kernel)
    have f2 := i2.is rowsB (by decide +kernel)
    have f3 := i3.is rowsB (by decide +kernel)
    have l2 := of_decide_eq_true (i2.fact (fun d _ => decide (lenB d ≤ 100)) (by decide +kernel))
    have l3 := of_decide_eq_true (i3.fact (fun d _ => decide (lenB d ≤ 100)) (by decide +kernel))
    refine ⟨v1, v2, v3, .non, rfl, ?_⟩
    have mk := Makes.if_ (CK := CK) (CM := CM) (t0 := t0) (u := .non) (o := g3) r1 r2 l2 (.inl ⟨d3, r3, l3, f3⟩)
    have ed : ifDue (at2 testA d1) (rowsB d2) g3 = dueP ["test", "row", "row"] [g1, g2, g3] := by
      unfold ifDue
      rw [f1, f2]
      cases g1 <;> cases g2 <;> cases g3 <;> decide +kernel
    rw [ed] at mk
    exact mk
theorem lookup_of {β : Type} {k : Str} {v : β} : ∀ {L : List (Str × β)}, (L.map (·.1)).Nodup → (k, v) ∈ L → L.lookup k = some v
  | [], _, h => by cases h
  | (k', v') :: L, nd, h => by
    rw [List.map_cons, List.nodup_cons] at nd
    rw [List.lookup_cons]
    rcases List.mem_cons.mp h with h | h
    · cases h
      simp
    · have : k ≠ k' := fun z => nd.1 (by rw [← z]; exact List.mem_map_of_mem (f := (·.1)) h)
      have q : (k == k') = false := by simpa using this
      rw [q]
      exact lookup_of nd.2 h
theorem shape_at {i : Nat} {word : Str} {ds : List D2} (e : shapesD[i]? = some (word, ds)) : ∃ parts, (word, parts) ∈ shapesS ∧ ds = strsD parts ∧ shapesD.lookup word = some ds := by
  have m := List.mem_of_getElem? e
  have l := lookup_of (by decide +kernel) m
  unfold shapesD at m
  obtain ⟨q, hq, eq⟩ := List.mem_map.mp m
  cases eq
  exact ⟨q.2, hq, rfl, l⟩
theorem look_all {k : Str} {ds : List D2} {f : D2 → Bool} : ∀ {L : List (Str × List D2)}, L.all (fun e => e.2.all f) = true → L.lookup k = some ds → ds.all f = true
  | [], _, e => by cases e
  | (k', es) :: L, h, e => by
    rw [List.all_cons] at h
    obtain ⟨h1, h2⟩ := Bool.and_eq_true_iff.mp h
    rw [List.lookup_cons] at e
    split at e
    · cases e
      exact h1
    · exact look_all h2 e
theorem InPart.every {part : Str} {d : D2} {g : Bool} (h : InPart part d g) (f : D2 → Bool) (c1 : rightL.all (fun e => e.2.all f) = true) (c2 : wrongL.all (fun e => e.2.all f) = true) : f d = true := by
  obtain ⟨rs, ws, e1, e2, m⟩ := h
  cases g with
  | true => exact List.all_eq_true.mp (look_all c1 e1) d m
  | false => exact List.all_eq_true.mp (look_all c2 e2) d m
theorem part_look {word part : Str} {parts : List Str} (m : (word, parts) ∈ shapesS) (h : part ∈ parts) : ∃ rs ws, rightL.lookup part = some rs ∧ wrongL.lookup part = some ws := by
  have c : shapesS.all (fun e => e.2.all fun p => (rightL.lookup p).isSome && (wrongL.lookup p).isSome) = true := by decide +kernel
  have c1 := List.all_eq_true.mp (List.all_eq_true.mp c _ m) _ h
  obtain ⟨c2, c3⟩ := Bool.and_eq_true_iff.mp c1
  obtain ⟨rs, e1⟩ := Option.isSome_iff_exists.mp c2
  obtain ⟨ws, e2⟩ := Option.isSome_iff_exists.mp c3
  exact ⟨rs, ws, e1, e2⟩
/-! a list under way that such values are put into, and the lists of the values -/
def no1 : D1 → Bool
  | .s false [] => false
  | _ => true
def no1t : D1 → Bool
  | .s true _ => false
  | _ => true
def okD (e : Bool) : D2 → Bool
  | .a _ => true
  | .s t xs => xs.all no1 && (t || (if e then !xs.isEmpty else xs.all no1t))
def Under (H : Hp) (acc : List V) : Prop := acc = [] ∨ ∃ p0 v0 g0 rest, acc = .ref p0 :: rest ∧ H p0 = some (.tup [v0, .bl g0])
theorem Rel0.at' {Z : Nat → Addr} {b D : Addr} {H : Hp} {v : V} {x : Atom} {acc : List V} {o : HO} (hD : H D = some (.lst acc)) (h : Rel0 Z b H v x) : Rel0 Z b (upd H D o) v x := by
  cases x with
  | obj k => obtain ⟨a, dx, fs, e, n, q⟩ := h; exact ⟨a, dx, fs, e, n, by rw [upd_ne (ne_of q hD fun z => nomatch z)]; exact q⟩
  | _ => exact h
theorem Rel1.at' {Z : Nat → Addr} {b D : Addr} {H : Hp} {v : V} {d : D1} {acc : List V} {o : HO} (hD : H D = some (.lst acc)) (u : Under H acc) (ok : no1 d = true) (h : Rel1 Z b H v d) : Rel1 Z b (upd H D o) v d := by
  cases d with
  | a x => exact Rel0.at' hD h
  | s t xs =>
    obtain ⟨p, as, e, n, q, r⟩ := h
    have np : p ≠ D := fun z => by
      rw [z, hD] at q
      cases t with
      | true => cases q
      | false =>
        cases q
        rcases u with rfl | ⟨p0, v0, g0, rest, rfl, h0⟩
        · cases r; cases ok
        · cases r with
          | @cons _ y _ ys ra rb =>
            cases y with
            | obj k =>
              obtain ⟨a, dx, fs, e, _, q2⟩ := ra
              cases e
              rw [h0] at q2
              cases q2
            | _ => cases (show V.ref p0 = _ from ra)
    exact ⟨p, as, e, n, by rw [upd_ne np]; exact q, r.mapP' fun _ _ z => Rel0.at' hD z⟩
theorem Rel2.at' {Z : Nat → Addr} {b D : Addr} {H : Hp} {v : V} {d : D2} {acc : List V} {o : HO} (hD : H D = some (.lst acc)) (u : Under H acc) (ok : okD acc.isEmpty d = true) (h : Rel2 Z b H v d) : Rel2 Z b (upd H D o) v d := by
  cases d with
  | a x => exact Rel0.at' hD h
  | s t xs =>
    obtain ⟨p, as, e, n, q, r⟩ := h
    obtain ⟨ok1, ok2⟩ := Bool.and_eq_true_iff.mp ok
    have np : p ≠ D := fun z => by
      rw [z, hD] at q
      cases t with
      | true => cases q
      | false =>
        cases q
        rcases u with rfl | ⟨p0, v0, g0, rest, rfl, h0⟩
        · cases r; cases ok2
        · have ok2 : xs.all no1t = true := ok2
          cases r with
          | @cons _ y _ ys ra rb =>
            have oky : no1t y = true := List.all_eq_true.mp ok2 y (.head _)
            cases y with
            | a y =>
              cases y with
              | obj k =>
                obtain ⟨a, dx, fs, e, _, q2⟩ := ra
                cases e
                rw [h0] at q2
                cases q2
              | _ => cases (show V.ref p0 = _ from ra)
            | s t ys =>
              cases t with
              | true => cases oky
              | false =>
                obtain ⟨p1, as1, e1, _, q1, _⟩ := ra
                cases e1
                rw [h0] at q1
                cases q1
    refine ⟨p, as, e, n, by rw [upd_ne np]; exact q, ?_⟩
    have go : ∀ {as : List V} {xs : List D1}, Paired (Rel1 Z b H) as xs → xs.all no1 = true → Paired (Rel1 Z b (upd H D o)) as xs := by
      intro as xs r
      induction r with
      | nil => intro _; exact .nil
      | cons ra _ ih =>
        intro a
        rw [List.all_cons] at a
        obtain ⟨a1, a2⟩ := Bool.and_eq_true_iff.mp a
        exact .cons (ra.at' hD u a1) (ih a2)
    exact go r ok1
theorem InPart.okD {part : Str} {d : D2} {g : Bool} (h : InPart part d g) : okD false d = true := h.every _ (by decide +kernel) (by decide +kernel)
theorem InPart.okE {word part : Str} {parts : List Str} {d : D2} {g : Bool} (m : (word, part :: parts) ∈ shapesS) (h : InPart part d g) : K14.okD true d = true := by
  have : part = "factor" ∨ part = "note" ∨ part = "mark" ∨ part = "kind" ∨ part = "number" ∨ part = "test" := by
    simp only [shapesS, List.mem_cons, List.not_mem_nil, or_false, Prod.mk.injEq, List.cons.injEq] at m
    rcases m with ⟨_, e, _⟩ | ⟨_, e, _⟩ | ⟨_, e, _⟩ | ⟨_, e, _⟩ | ⟨_, e, _⟩ | ⟨_, e, _⟩ | ⟨_, e, _⟩ | ⟨_, e, _⟩ <;> subst e <;> simp
  rcases this with rfl | rfl | rfl | rfl | rfl | rfl <;> exact h.fact (fun d _ => K14.okD true d) (by decide +kernel)
/-- an argument that is heard: its tuple -/
def HdAt (Z : Nat → Addr) (b : Addr) (H : Hp) (x : V) (e : Hd) : Prop := ∃ p v, x = .ref p ∧ H p = some (.tup [v, .bl e.2.2]) ∧ p ≠ b ∧ Rel2 Z b H v e.2.1
theorem HdAt.kp {Z : Nat → Addr} {b : Addr} {H H' : Hp} {x : V} {e : Hd} (s : Kp b H H') (h : HdAt Z b H x e) : HdAt Z b H' x e := by
  obtain ⟨p, v, e1, e2, n, r⟩ := h
  exact ⟨p, v, e1, s _ _ n e2 (fun ps z => nomatch z), n, r.kp s⟩
theorem HdAt.app {Z : Nat → Addr} {b D : Addr} {H : Hp} {x : V} {e : Hd} {acc : List V} {o : HO} (hD : H D = some (.lst acc)) (u : Under H acc) (ok : okD acc.isEmpty e.2.1 = true) (h : HdAt Z b H x e) : HdAt Z b (upd H D o) x e := by
  obtain ⟨p, v, e1, e2, n, r⟩ := h
  exact ⟨p, v, e1, by rw [upd_ne (ne_of e2 hD fun z => nomatch z)]; exact e2, n, r.at' hD u ok⟩
theorem under_of {Z : Nat → Addr} {b : Addr} {H : Hp} {acc : List V} {es : List Hd} (h : Paired (HdAt Z b H) acc es) : Under H acc := by
  cases h with
  | nil => exact .inl rfl
  | cons r t => obtain ⟨p, v, e1, e2, _, _⟩ := r; subst e1; exact .inr ⟨p, v, _, _, rfl, e2⟩
/-- one more is heard -/
theorem heard_app {Z : Nat → Addr} {b D : Addr} {H : Hp} {x : V} {e : Hd} {acc : List V} {es : List Hd} {word : Str} {parts : List Str} {i : Nat} (hD : H D = some (.lst acc)) (m : (word, parts) ∈ shapesS) (hi : i < parts.length) (pe : Paired (HdAt Z b H) acc es) (ee : es.map (·.1) = parts.take i) (ok : ∀ e ∈ es, InPart e.1 e.2.1 e.2.2) (h : HdAt Z b H x e) (e1 : e.1 = parts[i]) (o1 : InPart e.1 e.2.1 e.2.2) :
    Paired (HdAt Z b (upd H D (.lst (acc ++ [x])))) (acc ++ [x]) (es ++ [e]) ∧ (es ++ [e]).map (·.1) = parts.take (i + 1) ∧ ∀ e' ∈ es ++ [e], InPart e'.1 e'.2.1 e'.2.2 := by
  have u := under_of pe
  refine ⟨?_, ?_, ?_⟩
  · have okx : K14.okD acc.isEmpty e.2.1 = true := by
      cases acc with
      | cons _ _ => exact o1.okD
      | nil =>
        cases pe
        have i0 : i = 0 := by
          have : (parts.take i).length = 0 := by rw [← ee]; rfl
          rw [List.length_take] at this
          omega
        subst i0
        cases parts with
        | nil => simp at hi
        | cons q qs =>
          have : e.1 = q := e1
          rw [this] at o1
          exact o1.okE m
    have old : ∀ {as : List V} {fs : List Hd}, Paired (HdAt Z b H) as fs → (∀ e ∈ fs, InPart e.1 e.2.1 e.2.2) → acc.isEmpty = false → Paired (HdAt Z b (upd H D (.lst (acc ++ [x])))) as fs := by
      intro as fs r
      induction r with
      | nil => intro _ _; exact .nil
      | cons ra _ ih =>
        intro o n
        exact .cons (ra.app hD u (by rw [n]; exact (o _ (.head _)).okD)) (ih (fun e m => o e (.tail _ m)) n)
    refine Paired.app ?_ (.cons (h.app hD u okx) .nil)
    cases acc with
    | nil => cases pe; exact .nil
    | cons _ _ => exact old pe ok rfl
  · rw [List.map_append, ee, List.map_cons, List.map_nil, e1]
    exact (List.take_append_getElem hi)
  · intro e' me
    rcases List.mem_append.mp me with me | me
    · exact ok _ me
    · cases List.mem_singleton.mp me; exact o1
theorem part_len {word : Str} {parts : List Str} (m : (word, parts) ∈ shapesS) : parts.length ≤ 4 := by
  have c : shapesS.all (fun e => decide (e.2.length ≤ 4)) = true := by decide +kernel
  exact of_decide_eq_true (List.all_eq_true.mp c _ m)
theorem heard_split {Z : Nat → Addr} {b : Addr} {H : Hp} {acc : List V} {es : List Hd} (h : Paired (HdAt Z b H) acc es) : ∃ vals, Paired (fun x v => ∃ p g, x = V.ref p ∧ p ≠ b ∧ H p = some (.tup [v, .bl g])) acc vals ∧ Paired (fun v e => Rel2 Z b H v e.2.1) vals es ∧ Paired (fun v g => ∃ a u, v = V.ref a ∧ a ≠ b ∧ H a = some (.tup [u, .bl g])) acc (es.map (·.2.2)) := by
  induction h with
  | nil => exact ⟨[], .nil, .nil, .nil⟩
  | @cons x e _ _ r _ ih =>
    obtain ⟨vals, h1, h2, h3⟩ := ih
    obtain ⟨p, v, e1, e2, n, rv⟩ := r
    exact ⟨v :: vals, .cons ⟨p, e.2.2, e1, n, e2⟩ h1, .cons rv h2, .cons ⟨p, v, e1, n, e2⟩ h3⟩
theorem cut4 {xs : List V} (h : 4 ≤ xs.length) : cutV xs none (some 4) = xs.take 4 := by
  unfold cutV
  rw [show HT.sIx xs.length xs.length (some (4 : Int)) = 4 from by
    have := HT.sIx_nat xs.length xs.length 4
    rw [Nat.min_eq_left h] at this
    exact this]
  rfl
theorem Box.other {H : Hp} {b D : Addr} {o : HO} (h : Box H b) (n : D ≠ b) : Box (upd H D o) b := by
  obtain ⟨x, y, z, q⟩ := h
  exact ⟨x, y, z, by rw [upd_ne n.symm]; exact q⟩
end K14

set_option pp.maxSteps 600
namespace L2
open PySem PySem.Spec PyProof.Rows
/-- a def of the text whose code object is known -/
def DefC (K : PySem.W.Frag) (mg : Str → Option Value) (nm : Str) (st : Stmt) (ps : List Str) (c : Addr) : Prop :=
  ∃ (f : Addr) (oc kV doc pm ct : Value) (od an : Option Addr) (osl : Array (Option Value)), K.lookup f = some ⟨oc, od, .func (PySem.W.fnOf nm nm (defArgs st) (defBody st) (defScope st) .none kV doc pm an (.ref c) ct), osl⟩ ∧ PySem.W.codeIn K (.ref c) nm = true ∧ PySem.W.keepIn K (.ref f) = true ∧ mg nm = some (.ref f) ∧ Binds K (PySem.W.fnOf nm nm (defArgs st) (defBody st) (defScope st) .none kV doc pm an (.ref c) ct) ps []
end L2
namespace K14
open PySem L2 LamX PySem.Spec PyProof.Rows
theorem Kp.ext {b : Addr} {H H' : Hp} (s : ExtN H H') : Kp b H H' := fun a o _ h n => s a o h n
/-- what the defs ask of the def that hears an error -/
structure RefK (K : PySem.W.Frag) (mg : Str → Option Value) (gR : Addr) (ocR kVR dcR pmR cdvR ctR : Value) (odR anR : Option Addr) (oslR : Array (Option Value)) : Prop where
  m : mg "_law_refused" = some (.ref gR)
  kp : PySem.W.keepIn K (.ref gR) = true
  lk : K.lookup gR = some ⟨ocR, odR, .func (PySem.W.fnOf "_law_refused" "_law_refused" (defArgs s_law_refused) (defBody s_law_refused) (defScope s_law_refused) .none kVR dcR pmR anR cdvR ctR), oslR⟩
  cd : PySem.W.codeIn K cdvR "_law_refused" = true
  b : L2.Binds K (PySem.W.fnOf "_law_refused" "_law_refused" (defArgs s_law_refused) (defBody s_law_refused) (defScope s_law_refused) .none kVR dcR pmR anR cdvR ctR) ["_law_work"] []
/-- what they ask of the classes of errors -/
structure ErrK (K : PySem.W.Frag) (mg : Str → Option Value) (SE IR IT IB : Addr) : Prop where
  ex : ExcC K IR
  xr : XfC K IR
  nPart : PySem.W.findIn K (.ref IR) "part" = some none
  te : PySem.W.exmOne K (.ref IR) (.ref SE) = some true
  mSE : mg "SumError" = some (.ref SE)
  mIR : mg "InvalidRow" = some (.ref IR)
  mIT : mg "InvalidText" = some (.ref IT)
  mIB : mg "InvalidBook" = some (.ref IB)
  kRR : PySem.W.kitOne K (.ref IR) (.ref IR) = some true
  kRT : PySem.W.kitAny K (.ref IR) [.ref IT, .ref IB] = some false
theorem Box.ext {H H' : Hp} {b : Addr} (h : Box H b) (e : ExtN H H') : Box H' b := by
  obtain ⟨x, y, z, q⟩ := h
  exact ⟨x, y, z, e _ _ q fun ps z => nomatch z⟩
theorem Tabs.but {TT : List (Addr × Str)} {H H' : Hp} {b : Addr} (t : Tabs TT H) (hb : Box H b) (s : But b H H') : Tabs TT H' := fun p hp => by
  obtain ⟨x, y, z, e⟩ := hb
  obtain ⟨ps, h1, h2, h3⟩ := t p hp
  refine ⟨ps, s _ _ (fun q => by rw [q, e] at h1; cases h1) h1, h2, fun pos cv hc => ?_⟩
  obtain ⟨c, e1, e2⟩ := h3 pos cv hc
  exact ⟨c, e1, s _ _ (fun q => by rw [q, e] at e2; cases e2) e2⟩
theorem made_ref {Z : Nat → Addr} {CK CM t0 b IR : Addr} {H : Hp} {word due : Str} {va vb vc vd : V} {Q : VK} (mk : Makes Z CK CM t0 b H word va vb vc vd due) (ret : ∀ H', Same H H' → Q (.str due) H') : spMade Z CK CM t0 IR [.str word, va, vb, vc, vd] H (fun v H2 => ∃ u : V, some (some (V.str "made")) = some (some u) ∧ Q u H2) (EchR IR Q) :=
  ⟨b, word, due, va, vb, vc, vd, rfl, mk, fun m v H' s => ⟨_, rfl, by rw [m] at ret; exact ret H' s⟩, fun p ep np H' d s hd hp => ⟨rfl, d, p, rfl, hp, fun H'' s'' => by subst ep; exact ret H'' (s.trans s'')⟩⟩
theorem if_ref {Z : Nat → Addr} {CI IR t0 b x dx : Addr} {H : Hp} {vt vr vo : V} {dt dr : D2} {o : Bool} {Q : VK} {r : Str} (hx : H x = none) (hdx : H dx = none) (nd : dx ≠ x) (rt : Rel2 Z b H vt dt) (rr : Rel2 Z b H vr dr) (lr : lenB dr ≤ 100) (ao : RowsArg Z t0 b H vo o) (er : ifDue (at2 testA dt) (rowsB dr) o = r)
    (ret : ∀ H', Same H H' → Q (.str r) H') : spIf Z CI IR t0 [.ref x, vt, vr, vo] (upd (upd H dx (.own x)) x (.ins CI dx [])) (fun v H2 => v = .non ∧ ∃ u : V, some (some (V.str "made")) = some (some u) ∧ Q u H2) (EchR IR Q) := by
  subst er
  exact if_made (Q := fun _ H2 => ∃ u : V, some (some (V.str "made")) = some (some u) ∧ Q u H2) hx hdx nd rt rr lr ao (fun m H' s => ⟨_, rfl, by have := ret H' s; rw [m] at this; exact this⟩) (fun p ep np H' d s hd hp => ⟨rfl, d, p, rfl, hp, fun H'' s'' => by have := ret H'' (s.trans s''); rw [ep] at this; exact this⟩)
theorem Makes.kp {Z : Nat → Addr} {CK CM t0 b : Addr} {H H' : Hp} {word due : Str} {va vb vc vd : V} (s : Kp b H H') (mk : Makes Z CK CM t0 b H word va vb vc vd due) : Makes Z CK CM t0 b H' word va vb vc vd due := by
  cases mk with
  | add r1 r2 r3 r4 s1 a1 s2 a2 => exact .add (r1.kp s) (r2.kp s) (r3.kp s) (r4.kp s) s1 a1 s2 a2
  | if_ r1 r2 l ao => exact .if_ (r1.kp s) (r2.kp s) l (ao.kp s)
  | put r1 r2 s1 s2 a => exact .put (r1.kp s) (r2.kp s) s1 s2 a
  | mark r a => exact .mark (r.kp s) a
  | was r c1 c2 => exact .was (r.kp s) c1 c2
  | not r => exact .not (r.kp s)
  | old r => exact .old (r.kp s)
  | new r => exact .new (r.kp s)
theorem Tabs.dk {TT : List (Addr × Str)} {H : Hp} {p : Addr} {l : List (Key × V)} {o : HO} (t : Tabs TT H) (hp : H p = some (.dK l)) : Tabs TT (upd H p o) := fun q hq => by
  obtain ⟨ps, h1, h2, h3⟩ := t q hq
  refine ⟨ps, by rw [upd_ne (ne_of h1 hp fun z => nomatch z)]; exact h1, h2, fun pos cv hc => ?_⟩
  obtain ⟨c, e1, e2⟩ := h3 pos cv hc
  exact ⟨c, e1, by rw [upd_ne (ne_of e2 hp fun z => nomatch z)]; exact e2⟩
theorem Tabs.frz {TT : List (Addr × Str)} {H : Hp} {p : Addr} {od : Obj} {u o : HO} (t : Tabs TT H) (hp : H p = some (.frz od u)) : Tabs TT (upd H p o) := fun q hq => by
  obtain ⟨ps, h1, h2, h3⟩ := t q hq
  refine ⟨ps, by rw [upd_ne (ne_of h1 hp fun z => nomatch z)]; exact h1, h2, fun pos cv hc => ?_⟩
  obtain ⟨c, e1, e2⟩ := h3 pos cv hc
  exact ⟨c, e1, by rw [upd_ne (ne_of e2 hp fun z => nomatch z)]; exact e2⟩
theorem Tabs.new {TT : List (Addr × Str)} {H : Hp} {p : Addr} {xs : List V} {o : HO} (t : Tabs TT H) (hp : H p = some (.lst xs)) : Tabs TT (upd H p o) := fun q hq => by
  obtain ⟨ps, h1, h2, h3⟩ := t q hq
  refine ⟨ps, by rw [upd_ne (ne_of h1 hp fun z => nomatch z)]; exact h1, h2, fun pos cv hc => ?_⟩
  obtain ⟨c, e1, e2⟩ := h3 pos cv hc
  exact ⟨c, e1, by rw [upd_ne (ne_of e2 hp fun z => nomatch z)]; exact e2⟩
theorem SqL.extN {K : PySem.W.Frag} {H H' : Hp} {a : Addr} {xs : List V} (e : ExtN H H') (h : SqL K H a xs) : SqL K H' a xs := by
  rcases h with (h | ⟨o, h⟩) | h
  · exact .inl (.inl (e _ _ h fun ps z => nomatch z))
  · exact .inl (.inr ⟨o, e _ _ h fun ps z => nomatch z⟩)
  · exact .inr h
section
variable {P : Program} {w : World} {K : PySem.W.Frag} {mg : Str → Option Value} {base : Heap}
abbrev s_law : Stmt := top 56
abbrev n_law : List Str := ["_law_script", "_law_k", "_law_box_here", "_law_shapes", "_law_heard", "_law_is_good", "_law_has_rows", "_law_a", "_law_b", "_law_c", "_law_d", "_law_rows", "_law_test", "_law_word", "_law_part", "_law_one"]
theorem sc_law : FnScope n_law ["_law_script"] (defScope s_law) := ⟨rfl, rfl, rfl, by decide +kernel, rfl, by decide +kernel, by decide +kernel⟩
def lamL : Str := "law.<locals>.<lambda>"
def spLawT (K : PySem.W.Frag) (TT : List (Addr × Str)) : Sp := fun vs H Q _ => ∃ (a : Addr) (ns : List Int), vs = [.ref a] ∧ SqL K H a (ns.map V.int) ∧ ns.length ≤ 63 ∧ Tabs TT H ∧ ∀ H', Q (.bl true) H'
theorem ok_law {Z : Nat → Addr} {TT : List (Addr × Str)} {f cL tL CI CK CM SE IR IT IB gR fI t0 : Addr} {fdI : FuncData} {ds1 : List Value} {oc kV doc pm ct : Value} {od an : Option Addr} {osl : Array (Option Value)} {ocR kVR dcR pmR cdvR ctR : Value} {odR anR : Option Addr} {oslR : Array (Option Value)} (T : Txt mg) (RK : RefK K mg gR ocR kVR dcR pmR cdvR ctR odR anR oslR) (EK : ErrK K mg SE IR IT IB)
    (CIf : ClsA K mg "If" CI ["test", "rows", "others"]) (MIf : Mk K CI fI) (g_If : FnOk P w K mg base (L2.CX P w) 4 fI fdI ["self", "test", "rows", "others"] (spIf Z CI IR t0)) (bIf1 : Binds K fdI ["self", "test", "rows", "others"] ds1) (vIf1 : Vals [.ref t0] ds1)
    (eZ0 : Z 0 = CM) (eZ1 : Z 1 = CK)
    (TB : TabB base mg cL tL) (hmT : (tL, lamL) ∈ TT) (huT : ∀ p ∈ TT, p.1 = tL → p.2 = lamL)
    (g_law_box : Has P w K mg base 1 "_law_box" ["_law_script", "_law_k", "_law_own"] (spBox K)) (g_law_argument : Has P w K mg base 9 "_law_argument" ["_law_box_here", "_law_part"] (spArg Z))
    (g_law_due : Has P w K mg base 1 "_law_due" ["_law_parts", "_law_heard"] spDueP) (g_law_made : HasX P w K mg base 8 "_law_made" ["_law_word", "_law_a", "_law_b", "_law_c", "_law_d"] (spMade Z CK CM t0 IR))
    (lkL : K.lookup f = some ⟨oc, od, .func (PySem.W.fnOf "law" "law" (defArgs s_law) (defBody s_law) (defScope s_law) .none kV doc pm an (.ref cL) ct), osl⟩) (cdL : PySem.W.codeIn K (.ref cL) "law" = true) :
    FnOk P w K mg base CX0 14 f (PySem.W.fnOf "law" "law" (defArgs s_law) (defBody s_law) (defScope s_law) .none kV doc pm an (.ref cL) ct) ["_law_script"] (spLawT K TT) := by
  have mRef := RK.m; have kpR := RK.kp; have lkR := RK.lk; have cdR := RK.cd; have bR := RK.b
  have EX := EK.ex; have XR := EK.xr; have nPart := EK.nPart; have te := EK.te; have mSE := EK.mSE; have mIR := EK.mIR; have mIT := EK.mIT; have mIB := EK.mIB; have kRR := EK.kRR; have kRT := EK.kRT
  refine fn_of lkL cdL sc_law (fun vs H Q E h => ?_) fun A outer s H vs Q E hr h => ?_
  · obtain ⟨a, ns, rfl, _⟩ := h
    rfl
  · have hu := hr.units
    have hu1 := Nat.lt_of_le_of_lt (Nat.add_le_add_left (by decide : 1 ≤ 64) _) hu
    obtain ⟨a, ns, rfl, hS, hlen, hT, k⟩ := h
    suffices hh : ∃ t, PSs (cxOf CX0 P w K mg base n_law "law" (defScope s_law) f (.ref cL) A outer s H E).nox (defBody s_law) t ∧ t { nx := fun _ H' => Q .non H', rt := Q } (L2.start n_law [.ref a]) H by
      obtain ⟨t, h, q⟩ := hh
      exact ⟨t, h.nox, q⟩
    refine ⟨_, (pss_cons (ps_for PassesOwn.never rfl (pi_range1 rfl T.z_range (pa_cons (pe_callB (call_max2 rfl) (by rfl) T.z_max (by decide +kernel) (pa_cons pe_int (pa_cons (pe_callB (call_min2 rfl) (by rfl) T.z_min (by decide +kernel) (pa_cons pe_int (pa_cons (pe_callB call_len (by rfl) T.z_len (by decide +kernel) (pa_cons (pv 0) pa_nil)) pa_nil))) pa_nil))) pa_nil)) (pg_name (i := 1) sc_law.nd rfl (Or.inl rfl)) (pss_cons (ps_set (i := 2) sc_law.nd rfl (Or.inr rfl) (pe_callHas g_law_box (hr.mono (by decide)) rfl (pa_cons (pv 0) (pa_cons (pv 1) (pa_cons pe_int pa_nil)))))
      (pss_cons (ps_set (i := 3) sc_law.nd rfl (Or.inl rfl) (pe_disp (pps_cons pe_str (pe_lst (pa_cons pe_str (pa_cons pe_str (pa_cons pe_str (pa_cons pe_str pa_nil))))) (pps_cons pe_str (pe_lst (pa_cons pe_str (pa_cons pe_str pa_nil))) (pps_cons pe_str (pe_lst (pa_cons pe_str pa_nil)) pps_nil))) (by rfl) (by rfl) (fun z => nomatch z) (by decide)))
      (pss_cons (ps_expr (pe_bm PySem.F.plainAttrs_dict PySem.F.slot_dict_update PySem.F.type_dict_update mt_dupd (pv 3) (pa_cons (pe_disp (pps_cons pe_str (pe_lst (pa_cons pe_str pa_nil)) (pps_cons pe_str (pe_lst (pa_cons pe_str pa_nil)) (pps_cons pe_str (pe_lst (pa_cons pe_str pa_nil)) (pps_cons pe_str (pe_lst (pa_cons pe_str pa_nil)) pps_nil)))) (by rfl) (by rfl) (fun z => nomatch z) (by decide)) pa_nil)))
      (pss_cons (ps_dput hu1 (pv 3) pe_str (pe_lst (pa_cons pe_str (pa_cons pe_str (pa_cons pe_str pa_nil)))) rfl)
      (pss_cons (ps_lock (ps_for PassesOwn.never rfl (pi_keys (pv 3)) (pg_name (i := 13) sc_law.nd rfl (Or.inr rfl)) (pss_cons (ps_setLc (i := 4) (own := [("_law_part", 14)]) (g := gName 14) (by rfl) sc_law.nd rfl rfl (sw_true rfl rfl rfl (by decide +kernel)) (pi_list (pe_dget hu1 (pv 3) (pv 13) (fun _ _ => rfl))) (blkOk_by (own := [("_law_part", 14)]) (N := n_law) (sc := defScope s_law) (by decide +kernel)) (fun _ _ _ _ _ => (pg_name (i := 14) sc_law.nd rfl (Or.inl rfl))) (fun _ _ _ _ _ => pts_nil) (fun _ _ _ _ _ => (pe_callHas g_law_argument (hr.mono (by decide)) rfl (pa_cons (pv 2) (pa_cons (pv 14) pa_nil)))))
      (pss_cons (ps_asg (pe_slice sl_list (pe_op op_cat (pe_lc (own := [("_law_one", 15), ("_law_is_good", 5)]) (g := gTup K 2 (gCons (gName 15) (gCons (gName 5) gNil))) (by rfl) sc_law.nd (pi_list (pv 4)) (blkOk_by (own := [("_law_one", 15), ("_law_is_good", 5)]) (N := n_law) (sc := defScope s_law) (by decide +kernel)) (fun _ _ _ _ _ => (pg_tup rfl (pgs_cons (pg_name (i := 15) sc_law.nd rfl (Or.inl rfl)) (pgs_cons (pg_name (i := 5) sc_law.nd rfl (Or.inl rfl)) pgs_nil)))) (fun _ _ _ _ _ => pts_nil) (fun _ _ _ _ _ => (pv 15))) (pe_op op_rep (pe_lst (pa_cons pe_non pa_nil)) pe_int)) po_none (po_some pe_int)) (pg_lst rfl (pgs_cons (pg_name (i := 7) sc_law.nd rfl (Or.inr rfl)) (pgs_cons (pg_name (i := 8) sc_law.nd rfl (Or.inr rfl)) (pgs_cons (pg_name (i := 9) sc_law.nd rfl (Or.inr rfl)) (pgs_cons (pg_name (i := 10) sc_law.nd rfl (Or.inr rfl)) pgs_nil))))))
      (pss_one (ps_if (pt_cmpR op_ne (LamX.pe_lamcall (T := TT) rfl mRef kpR lkR cdR bR sc_law_refused rfl (Or.inl rfl) (refused_gives T EX XR nPart te mSE mIR mIT mIB kRR kRT) TB rfl hmT huT (hr.mono (by decide)) (LamX.lamS_by (by show LamX.lamSB (defScope s_law) _ = true; decide +kernel)) rfl (fun _ _ _ _ _ => rfl) (fun A outer s H E f c' hr => (pe_callHasX g_law_made hr rfl (passOut rfl rfl rfl rfl) (pa_cons (pv 13) (pa_cons (pv 7) (pa_cons (pv 8) (pa_cons (pv 9) (pa_cons (pv 10) pa_nil)))))))) (pe_callHas g_law_due (hr.mono (by decide)) rfl (pa_cons (pe_dget hu1 (pv 3) (pv 13) (fun _ _ => rfl)) (pa_cons (pv 4) pa_nil))) (nomark _)) (pss_one (ps_ret pe_bl)) pss_nil))))))
      (pss_cons (ps_asg (pe_callHas g_law_argument (hr.mono (by decide)) rfl (pa_cons (pv 2) (pa_cons pe_str pa_nil))) (pg_tup rfl (pgs_cons (pg_name (i := 12) sc_law.nd rfl (Or.inr rfl)) (pgs_cons (pg_name (i := 5) sc_law.nd rfl (Or.inl rfl)) pgs_nil))))
      (pss_cons (ps_asg (pe_callHas g_law_argument (hr.mono (by decide)) rfl (pa_cons (pv 2) (pa_cons pe_str pa_nil))) (pg_tup rfl (pgs_cons (pg_name (i := 11) sc_law.nd rfl (Or.inr rfl)) (pgs_cons (pg_name (i := 6) sc_law.nd rfl (Or.inl rfl)) pgs_nil))))
      (pss_one (ps_if (pt_cmpR op_ne (LamX.pe_lamcall (T := TT) rfl mRef kpR lkR cdR bR sc_law_refused rfl (Or.inl rfl) (refused_gives T EX XR nPart te mSE mIR mIT mIB kRR kRT) TB rfl hmT huT (hr.mono (by decide)) (LamX.lamS_by (by show LamX.lamSB (defScope s_law) _ = true; decide +kernel)) rfl (fun _ _ _ _ _ => rfl) (fun A outer s H E f c' hr => (pe_make MIf g_If hr rfl CIf.m bIf1 vIf1 (passOut rfl rfl rfl rfl) (pa_cons (pv 12) (pa_cons (pv 11) pa_nil))))) (pe_ifExp (pt_not (pt_val (pv 5))) pe_str (pe_ifExp (pt_val (pv 6)) pe_str pe_str)) (nomark _)) (pss_one (ps_ret pe_bl)) pss_nil))))))))))
      (pss_one (ps_ret pe_bl))), ?_⟩
    have hlen' : (((ns.map V.int).length : Nat) : Int) ≤ 63 := by rw [List.length_map]; omega
    refine ⟨_, rfl, _, _, rfl, .inl ⟨_, hS, rfl⟩, _, _, rfl, _, _, rfl, ?_⟩
    have hN : ∀ m : Int, 0 ≤ m → ∃ N : Int, (if (if m < 4 then m else 4) > 1 then (if m < 4 then m else 4) else 1) = N ∧ 0 ≤ N ∧ N ≤ 4 := fun m hm => ⟨_, rfl, by split <;> (try split) <;> omega, by split <;> (try split) <;> omega⟩
    obtain ⟨N, eN, N0, N3⟩ := hN (((ns.map V.int).length : Nat) : Int) (Int.natCast_nonneg _)
    refine ⟨N, by rw [← eN], by omega, by omega, for_range (lo := 0) (n := N.toNat) (fun i σ H' => ExtN H H' ∧ Tabs TT H' ∧ ∃ x1 x2 x3 x4 x5 x6 x7 x8 x9 x10 x11 x12 x13 x14 x15, σ = [some (.ref a), x1, x2, x3, x4, x5, x6, x7, x8, x9, x10, x11, x12, x13, x14, x15]) ⟨ExtN.refl _, hT, _, _, _, _, _, _, _, _, _, _, _, _, _, _, _, rfl⟩ ?_ ?_⟩
    · rintro i σ H1 hi ⟨e1, t1, x1, x2, x3, x4, x5, x6, x7, x8, x9, x10, x11, x12, x13, x14, x15, rfl⟩
      refine ⟨_, rfl, _, rfl, a, ns, _, _, rfl, SqL.extN e1 hS, by omega, by omega, by decide, by decide, fun H2 b s2 hb0 hbox => ?_⟩
      refine name_go ?_
      try dsimp only
      have nb := hbox.ne
      refine seq_asg ?_
      refine disp_go (C := CT) (L := shape0) (Z := Z) (b := b) (gp_cons kpT (gl_lst (ga2_cons (g2_a (g_str "factor")) (ga2_cons (g2_a (g_str "what")) (ga2_cons (g2_a (g_str "total")) (ga2_cons (g2_a (g_str "place")) ga2_nil)))) (by decide)) (gp_cons kpT (gl_lst (ga2_cons (g2_a (g_str "note")) (ga2_cons (g2_a (g_str "what")) ga2_nil)) (by decide)) (gp_cons kpT (gl_lst (ga2_cons (g2_a (g_str "mark")) ga2_nil) (by decide)) gp_nil))) kpT trivial nb (by decide) (by decide +kernel) fun H3 p s3 hp d3 => ?_
      refine name_go ?_
      try dsimp only
      refine upd_go (C := CT) (M := shape1) rfl (d3.since hp s3) (gp_cons kpT (gl_lst (ga2_cons (g2_a (g_str "kind")) ga2_nil) (by decide)) (gp_cons kpT (gl_lst (ga2_cons (g2_a (g_str "number")) ga2_nil) (by decide)) (gp_cons kpT (gl_lst (ga2_cons (g2_a (g_str "number")) ga2_nil) (by decide)) (gp_cons kpT (gl_lst (ga2_cons (g2_a (g_str "test")) ga2_nil) (by decide)) gp_nil)))) kpT trivial (some_keep s3 nb) s3 (by decide) (by decide) (by decide +kernel) (by decide +kernel) fun H4 s4 d4 _ => ?_
      refine put_go (C := CT) rfl d4 (gl_lst (ga2_cons (g2_a (g_str "test")) (ga2_cons (g2_a (g_str "row")) (ga2_cons (g2_a (g_str "row")) ga2_nil))) (by decide)) trivial (some_keep s4 nb) s4 (by decide) (by decide +kernel) fun H5 s5 d5 _ => ?_
      have d5 : DL Z b H2 H5 p shapesD := by rw [← shapes_eq]; exact d5
      have b5 := hbox.keep s5
      obtain ⟨hp2, npb, kvs, hkv, tkv⟩ := d5
      have t5 := LamX.Tabs.ext t1 (s2.trans s5)
      have e5 : ExtN H H5 := e1.trans fun y o h _ => s5 _ _ (s2 _ _ h)
      have hb1 : H1 b = none := hb0
      have hp1 : H1 p = none := back s2 hp2
      clear d3 d4
      refine ⟨p, .dK kvs, hkv, trivial, fun od => ?_⟩
      have tkv6 : TabL Z b (upd H5 p (.frz od (.dK kvs))) kvs shapesD := Paired.mapP' tkv fun _ _ z => ⟨z.1, z.2.updD hkv⟩
      have hp6 : upd H5 p (.frz od (.dK kvs)) p = some (.frz od (.dK kvs)) := upd_same
      have same5 : ∀ y o, y ≠ p → H5 y = some o → upd H5 p (.frz od (.dK kvs)) y = some o := fun y o n h => (upd_ne n).trans h
      have b6 : Box (upd H5 p (.frz od (.dK kvs))) b := by obtain ⟨x, y, z, q⟩ := b5; exact ⟨x, y, z, same5 _ _ npb.symm q⟩
      have t6 : Tabs TT (upd H5 p (.frz od (.dK kvs))) := Tabs.dk t5 hkv
      have s56 : ExtN H5 (upd H5 p (.frz od (.dK kvs))) ∨ True := .inr trivial
      generalize hH6 : upd H5 p (.frz od (.dK kvs)) = H6 at *
      refine ⟨_, rfl, p, od, rfl, .inl ⟨kvs, hp6, for_it walk_keys (fun i2 σ H' => Kp b H6 H' ∧ Box H' b ∧ Tabs TT H' ∧ ∃ x4 x5 x6 x7 x8 x9 x10 x11 x12 x13 x14 x15, σ = [some (.ref a), some (.int (0 + ((i : Nat) : Int))), some (.ref b), some (.ref p), x4, x5, x6, x7, x8, x9, x10, x11, x12, x13, x14, x15]) ⟨Kp.refl _ _, b6, t6, _, _, _, _, _, _, _, _, _, _, _, _, rfl⟩ (fun i2 σ H' _ z => z.1 _ _ npb hp6 fun ps q => nomatch q) ?_ ?_⟩⟩
      · rintro j x σ H7' H7 hj ⟨k7, b7, t7, x4, x5, x6, x7, x8, x9, x10, x11, x12, x13, x14, x15, rfl⟩ ⟨rfl, key, v0, ekv, rfl⟩
        obtain ⟨⟨word, ds⟩, ee, ek, _⟩ := Paired.at' tkv6 ekv
        have ek : key = .inr word := ek
        subst ek
        obtain ⟨parts, mw, rfl, lw⟩ := shape_at ee
        refine name_go ?_
        try dsimp only
        have hp7 := k7 _ _ npb hp6 fun ps q => nomatch q
        have val := tkv6.val word
        rw [lw] at val
        obtain ⟨vL, evL, lL⟩ := val
        obtain ⟨pL, asL, rfl, nL, hL6, psL⟩ := lL
        have hL7 := k7 _ _ nL hL6 fun ps q => nomatch q
        have gd : ∀ {H' : Hp}, H' p = some (.frz od (.dK kvs)) → DGet H' p (.str word) (some (.ref pL)) := fun {H'} e => .inl ⟨kvs, .inr word, .inr ⟨od, e⟩, rfl, evL.symm⟩
        have lenL : asL.length = parts.length := by rw [Paired.len psL]; exact List.length_map _
        have atL : ∀ (i : Nat) (y : V), asL[i]? = some y → ∃ hi : i < parts.length, y = .str parts[i] := fun i y e => by
          obtain ⟨d, ed, rd⟩ := Paired.at' psL e
          unfold strsD at ed
          rw [List.getElem?_map] at ed
          obtain ⟨q, eq, rfl⟩ := Option.map_eq_some_iff.mp ed
          obtain ⟨hi, eq⟩ := List.getElem?_eq_some_iff.mp eq
          subst eq
          exact ⟨hi, rd⟩
        refine seq_asg ?_
        refine ⟨_, rfl, _, rfl, p, _, rfl, gd hp7, pL, rfl, ⟨_, SqL.of hL7⟩, fun D hD => lc_it (walk_list (xs := asL)) (fun i2 H' => Kp b H7 H' ∧ Box H' b ∧ Tabs TT H' ∧ ∃ acc es, H' D = some (.lst acc) ∧ Paired (HdAt Z b H') acc es ∧ es.map (·.1) = parts.take i2 ∧ ∀ e ∈ es, InPart e.1 e.2.1 e.2.2) ⟨Kp.of (new_at hD).1, b7.keep (new_at hD).1, LamX.Tabs.ext t7 (new_at hD).1, [], [], upd_same, .nil, rfl, fun e h => nomatch h⟩ (fun i2 H' _ z => SqL.of (z.1 _ _ nL hL7 fun ps q => nomatch q)) ?_ ?_⟩
        · rintro i2 y H8' H8 hi2 ⟨k8, b8, t8, acc, es, hD8, pe, ee8, ok8⟩ ⟨rfl, ey⟩
          obtain ⟨hi3, rfl⟩ := atL i2 y ey
          obtain ⟨rs, ws, er, ew⟩ := part_look mw (List.getElem_mem hi3)
          have nDb : D ≠ b := fun z => by obtain ⟨x, y, z', q⟩ := b7; rw [← z, hD] at q; cases q
          refine name_go ⟨rfl, ?_⟩
          unfold tYes
          refine iteSe rfl ?_
          refine ⟨_, rfl, _, rfl, b, parts[i2], rs, ws, rfl, er, ew, b8, fun H9 pt v d g u9 b9 npt hpt rd md => ?_⟩
          have hD9 := u9 _ _ nDb hD8
          have lacc : acc.length < sizeLine := by
            have q := congrArg List.length ee8
            rw [List.length_map, List.length_take] at q
            have q2 := part_len mw
            have q3 : (1000 : Nat) < sizeLine := by decide
            rw [pe.len]
            omega
          obtain ⟨q1, q2, q3⟩ := heard_app (e := (parts[i2], d, g)) hD9 mw hi3 (pe.mapP' fun _ _ z => z.kp u9.kp) ee8 ok8 ⟨pt, v, rfl, hpt, npt, rd⟩ rfl ⟨rs, ws, er, ew, md⟩
          exact ⟨acc, hD9, lacc, fun y o n h z => (upd_ne (ne_of_none h hD)).trans ((k8.trans u9.kp) y o n h z), b9.other nDb, Tabs.new (Tabs.but t8 b8 u9) hD9, _, _, upd_same, q1, q2, q3⟩
        · rintro H8 ⟨k8, b8, t8, acc, es, hD8, pe, ee8, ok8⟩
          rw [lenL, List.take_length] at ee8
          have nDb : D ≠ b := fun z => by obtain ⟨x, y, z', q⟩ := b7; rw [← z, hD] at q; cases q
          obtain ⟨vals, pv, pr, pg⟩ := heard_split pe
          have lv : vals.length = parts.length := by rw [pr.len, ← ee8, List.length_map]
          have lp := part_len mw
          have l1000 : (1000 : Nat) < sizeLine := by decide
          refine name_go ?_
          try dsimp only
          refine seq_asg ?_
          refine ⟨_, rfl, D, rfl, ⟨_, SqL.of hD8⟩, fun D2 hD2 => lc_it (walk_list (xs := acc)) (fun i2 H' => Kp b H8 H' ∧ Box H' b ∧ Tabs TT H' ∧ H' D2 = some (.lst (vals.take i2))) ⟨Kp.of (new_at hD2).1, b8.keep (new_at hD2).1, LamX.Tabs.ext t8 (new_at hD2).1, upd_same⟩ (fun i2 H' _ z => SqL.of (z.1 _ _ nDb hD8 fun ps q => nomatch q)) ?_ ?_⟩
          · rintro i2 y H9' H9 hi2 ⟨k9, b9, t9, hD9⟩ ⟨rfl, ey⟩
            have nDb2 : D2 ≠ b := fun z => by obtain ⟨x, y, z', q⟩ := b8; rw [← z, hD2] at q; cases q
            obtain ⟨v, ev, pt, g, rfl, npt, hpt⟩ := pv.at' ey
            obtain ⟨hi3, rfl⟩ := List.getElem?_eq_some_iff.mp ev
            refine ⟨pt, _, rfl, SqT.of (k9 _ _ npt hpt fun ps q => nomatch q), rfl, _, _, rfl, _, _, rfl, rfl, ?_⟩
            refine ⟨rfl, ?_⟩
            unfold tYes
            refine iteSe rfl ⟨_, rfl, _, hD9, ?_, ?_⟩
            · rw [List.length_take]; omega
            · rw [List.take_append_getElem hi3]
              exact ⟨fun y o n h z => (upd_ne (ne_of_none h hD2)).trans (k9 y o n h z), b9.other nDb2, Tabs.new t9 hD9, upd_same⟩
          · rintro H9 ⟨k9, b9, t9, hD9⟩
            have la : acc.length = vals.length := pv.len
            rw [la, List.take_length] at hD9
            obtain ⟨va, vb, vc, vd, ev, mk⟩ := makes_of (t0 := t0) eZ0 eZ1 mw ee8 pr ok8
            have nD2b : D2 ≠ b := fun z => by obtain ⟨x, y, z', q⟩ := b8; rw [← z, hD2] at q; cases q
            refine ⟨(by decide : 1 ≤ sizeLine), fun l1 hl1 => ?_⟩
            obtain ⟨s10, h10⟩ := new_at (o := .lst [V.non]) hl1
            refine ⟨l1, 4, [V.non], rfl, rfl, h10, by decide, by decide, (by decide : 1 * 4 ≤ sizeLine), fun l2 hl2 => ?_⟩
            obtain ⟨s11, h11⟩ := new_at (o := .lst [V.non, .non, .non, .non]) hl2
            refine ⟨D2, l2, vals, [V.non, .non, .non, .non], rfl, rfl, s11 _ _ (s10 _ _ hD9), h11, by show vals.length + 4 ≤ sizeLine; omega, fun l3 hl3 => ?_⟩
            obtain ⟨s12, h12⟩ := new_at (o := .lst (vals ++ [V.non, .non, .non, .non])) hl3
            refine ⟨4, rfl, l3, _, rfl, SqL.of h12, fun l4 hl4 => ?_⟩
            rw [cut4 (by rw [List.length_append]; show 4 ≤ vals.length + 4; omega), ev]
            obtain ⟨s13, h13⟩ := new_at (o := .lst [va, vb, vc, vd]) hl4
            refine ⟨l4, _, rfl, SqL.of h13, rfl, _, _, rfl, _, _, rfl, _, _, rfl, _, _, rfl, rfl, ?_⟩
            have sA : Same H9 (upd (upd (upd (upd H9 l1 (HO.lst [V.non])) l2 (HO.lst [V.non, .non, .non, .non])) l3 (HO.lst (vals ++ [V.non, V.non, V.non, V.non]))) l4 (HO.lst [va, vb, vc, vd])) := s10.trans (s11.trans (s12.trans s13))
            have kA := k9.trans (Kp.of sA)
            have bA := b9.keep sA
            have tA := LamX.Tabs.ext t9 sA
            change tIfS _ _ _ _ _ (upd (upd (upd (upd H9 l1 (HO.lst [V.non])) l2 (HO.lst [V.non, .non, .non, .non])) l3 (HO.lst (vals ++ [V.non, V.non, V.non, V.non]))) l4 (HO.lst [va, vb, vc, vd]))
            generalize upd (upd (upd (upd H9 l1 (HO.lst [V.non])) l2 (HO.lst [V.non, .non, .non, .non])) l3 (HO.lst (vals ++ [V.non, V.non, V.non, V.non]))) l4 (HO.lst [va, vb, vc, vd]) = HA at *
            try dsimp only
            refine ⟨tA, fun HC eC tC => ?_⟩
            refine ⟨_, rfl, _, rfl, _, rfl, _, rfl, _, rfl, ?_⟩
            unfold tNil
            dsimp only
            show spMade Z CK CM t0 IR [.str word, va, vb, vc, vd] HC _ (EchR IR _)
            refine made_ref (mk.kp (kA.trans (Kp.ext eC))) fun HD sD => ?_
            have kD : Kp b H8 HD := kA.trans ((Kp.ext eC).trans (Kp.of sD))
            have k6D : Kp b H6 HD := k7.trans (k8.trans kD)
            have eL : asL = parts.map V.str := by
              refine List.ext_getElem (by rw [lenL, List.length_map]) fun i h1 h2 => ?_
              obtain ⟨hi, e⟩ := atL i _ (List.getElem?_eq_getElem h1)
              rw [e, List.getElem_map]
            refine ⟨_, rfl, _, rfl, p, _, rfl, gd (k6D _ _ npb hp6 fun ps q => nomatch q), _, rfl, ?_⟩
            have hLD := k6D _ _ nL hL6 fun ps q => nomatch q
            have hDD := kD _ _ nDb hD8 fun ps q => nomatch q
            refine ⟨pL, D, parts, acc, es.map (·.2.2), rfl, by rw [← eL]; exact hLD, hDD, pg.mapP' fun _ _ ⟨q, u, q1, q2, q3⟩ => ⟨q, u, q1, kD _ _ q2 q3 fun ps z => nomatch z⟩, by rw [List.length_map, ← ee8, List.length_map], fun HE sE => ?_⟩
            refine ⟨rfl, _, rfl, iteSf (by rw [decide_eq_true rfl]; rfl) ?_⟩
            exact ⟨k6D.trans (Kp.of sE), ((bA.ext eC).keep sD).keep sE, LamX.Tabs.ext (LamX.Tabs.ext tC sD) sE, _, _, _, _, _, _, _, _, _, _, _, _, rfl⟩
      rintro σ H8 ⟨k8, b8, t8, x4, x5, x6, x7, x8, x9, x10, x11, x12, x13, x14, x15, rfl⟩
      have hp8 := k8 _ _ npb hp6 fun ps q => nomatch q
      refine ⟨hp8, ?_⟩
      have e8 : ExtN H (upd H8 p (.dK kvs)) := fun y o h n => by
        have h1 := e1 _ _ h n
        have np : y ≠ p := ne_of_none h1 hp1
        have nb' : y ≠ b := ne_of_none h1 hb1
        exact (upd_ne np).trans (k8 _ _ nb' (same5 _ _ np (s5 _ _ (s2 _ _ h1))) n)
      have b9 : Box (upd H8 p (.dK kvs)) b := b8.other npb
      have t9 := Tabs.frz (o := .dK kvs) t8 hp8
      generalize upd H8 p (.dK kvs) = H9 at *
      have fin : ∀ HZ, Kp b H9 HZ → ExtN H HZ := fun HZ kz y o h n => kz y o (ne_of_none (e1 _ _ h n) hb1) (e8 _ _ h n) n
      try dsimp only
      refine seq_asg ⟨_, rfl, b, "test", _, _, rfl, rfl, rfl, b9, fun HA pt v d g uA bA npt hpt rd md => ?_⟩
      refine ⟨pt, _, rfl, SqT.of hpt, rfl, _, _, rfl, _, _, rfl, rfl, ?_⟩
      refine seq_asg ⟨_, rfl, b, "row", _, _, rfl, rfl, rfl, bA, fun HB pt2 v2 d2 g2 uB bB npt2 hpt2 rd2 md2 => ?_⟩
      refine ⟨pt2, _, rfl, SqT.of hpt2, rfl, _, _, rfl, _, _, rfl, rfl, ?_⟩
      try dsimp only
      have i1 : InPart "test" d g := ⟨_, _, rfl, rfl, md⟩
      have i2 : InPart "row" d2 g2 := ⟨_, _, rfl, rfl, md2⟩
      have f1 := i1.is (at2 testA) (by decide +kernel)
      have f2 := i2.is rowsB (by decide +kernel)
      have l2 := of_decide_eq_true (i2.fact (fun d _ => decide (lenB d ≤ 100)) (by decide +kernel))
      have tB := Tabs.but (Tabs.but t9 b9 uA) bA uB
      have kB : Kp b H9 HB := uA.kp.trans uB.kp
      refine ⟨tB, fun HC eC tC => ⟨_, rfl, _, rfl, fun x dx hx hdx nd => ?_⟩⟩
      refine if_ref (b := b) (dt := d) (dr := d2) (o := true) (r := ifDue g g2 true) hx hdx nd ((rd.kp uB.kp).kp (Kp.ext eC)) (rd2.kp (Kp.ext eC)) l2 (.inr ⟨rfl, rfl⟩) (by rw [f1, f2]) fun HD sD => ?_
      have kD : Kp b H9 HD := kB.trans ((Kp.ext eC).trans (Kp.of sD))
      have tD := LamX.Tabs.ext tC sD
      cases g with
      | true =>
        refine ⟨_, rfl, _, rfl, iteSf rfl ⟨_, rfl, _, rfl, ?_⟩⟩
        cases g2 with
        | true => exact iteSe rfl ⟨rfl, _, rfl, iteSf (by decide +kernel) ⟨fin _ kD, tD, _, _, _, _, _, _, _, _, _, _, _, _, _, _, _, rfl⟩⟩
        | false => exact iteSf rfl ⟨rfl, _, rfl, iteSf (by decide +kernel) ⟨fin _ kD, tD, _, _, _, _, _, _, _, _, _, _, _, _, _, _, _, rfl⟩⟩
      | false => exact ⟨_, rfl, _, rfl, iteSe rfl ⟨rfl, _, rfl, iteSf (by cases g2 <;> decide +kernel) ⟨fin _ kD, tD, _, _, _, _, _, _, _, _, _, _, _, _, _, _, _, rfl⟩⟩⟩
    · rintro σ H' ⟨_, _, _⟩
      exact k H'
end
end K14

namespace K14
open PySem L2 LamX PySem.Spec PyProof.Rows
theorem walk_tabs {l : PySem.W.OpenLaw} {n k : Nat} {q : Program} {loose : List Str} {XP : (Str → Option Value) → Heap → Prop} {YP : World → Heap → Prop} {d : DefRec} {K : Params → PySem.W.Frag} {CX : World → CXT} {x : Str}
    (hn : l.most = some n) (hn2 : n ≤ sizeLine) (hdf : d.params.defaults = []) (hr : Room k callerA) (hY : ∀ (w : World) (h : Heap), YP w h → (K w.params).In h)
    (F : ∀ (w : World) (mg : Str → Option Value) (fa : Addr) (h : Heap), (K w.params).In h → h.Ns mainGlobals mg → mg d.name = some (.ref fa) →
      (∀ (nm : Str) (a' : Addr), ((recsOf q).any fun e => e.name == nm) = true → mg nm = some (.ref a') → OwnTab (K w.params) a' h) → LawAtS l w (K w.params) (CX w) k n x mg fa h)
    (hCX : ∀ (w : World) (H : Hp) (s : Shared) (e : Value) (s' : Shared), CX w [] H s (fun _ _ _ => False) e s' → False) : PySem.W.WalkO q loose XP YP l.row.toRowW d [] (fun f vs => PySem.call f vs) := by
  refine Att.attach_callB hn hdf fun w s₀ s₁ mg mb fa o pm cd doc a vs ns G Y ho hd hcd hmg hobj hints hlen hbits hg => ?_
  have KX := hY w _ Y
  obtain ⟨fd, cs, sp, y1, y2, y3, y4, y5, y6⟩ := F w mg fa _ KX G.T.g hmg fun nm a' hr hm c P o1 fd1 e dd us sl k1 k2 k3 k4 k5 => by
    obtain ⟨r, r1, r2⟩ := List.any_eq_true.mp hr
    obtain ⟨b1, o2, fd2, c2, P2, j1, j2, j3, j4, j5, ⟨oc, vc, j6, _, j7, j8⟩, j9⟩ := G.T.tab r r1
    rw [beq_iff_eq.mp r2, hm] at j1
    cases j1
    rw [KX _ _ k1] at j2
    cases j2
    rw [k2] at j3
    cases j3
    rw [k3] at j4
    cases j4
    rw [KX _ _ k4] at j6
    cases j6
    cases j7
    rw [k5] at j8
    cases j8
    exact j9
  exact law_callTs KX G.T.g G.T.b G.T.builtins G.T.nolimit hg y1 y2 y3 G.T.bmain hobj hints (Nat.le_trans hlen hn2) hr y6 y4 (fun H hH hS => y5 H a ns hlen hbits hH hS) fun H e s' => hCX w H s₁ e s'
theorem facts {l : PySem.W.OpenLaw} {w : World} {K : PySem.W.Frag} {mg : Str → Option Value} {h : Heap} {fa : Addr} (X : K.In h) (G : h.Ns mainGlobals mg) (hfa : mg "law" = some (.ref fa))
    {XV XK XN XW XP XI XT XL XA XO XB RW TS SE IR IT IB fK fN fW fP fI fL fA fO fB fVe fKe fR NN AM TI TL t0 t1 cL tL f_is_integer f_is_sequence f_is_name f_check f_is_kind f_are_rows f_is_what f_is_vector f_is_width f_are_vectors f_grown f_law_box f_law_take f_law_pick f_law_argument f_law_refused f_law_due f_law_made f_law : Addr}
    {nmT qnT : Str} {NT : Addr} {bsT bmT : List Value} {snT : List Str} {suT : List Value} {abT : Bool} {coT : Option Bool} {ddT : Option Addr} {kaT kbT kcT kdT kfT : Option Value}
    {m0 m1 m2 : Tok} {odA : Option Addr} {nA : Nat} {slA : Array (Option Value)}
    {k0 k1 k2 k3 k4 k5 : Tok} {odN : Option Addr} {nN : Nat} {slN : Array (Option Value)}
    {oc_Mark_init kV_Mark_init dc_Mark_init pm_Mark_init cd_Mark_init ct_Mark_init : Value} {od_Mark_init an_Mark_init : Option Addr} {sl_Mark_init : Array (Option Value)}
    {oc_Not_init kV_Not_init dc_Not_init pm_Not_init cd_Not_init ct_Not_init : Value} {od_Not_init an_Not_init : Option Addr} {sl_Not_init : Array (Option Value)}
    {oc_Was_init kV_Was_init dc_Was_init pm_Was_init cd_Was_init ct_Was_init : Value} {od_Was_init an_Was_init : Option Addr} {sl_Was_init : Array (Option Value)}
    {oc_Put_init kV_Put_init dc_Put_init pm_Put_init cd_Put_init ct_Put_init : Value} {od_Put_init an_Put_init : Option Addr} {sl_Put_init : Array (Option Value)}
    {oc_If_init kV_If_init dc_If_init pm_If_init cd_If_init ct_If_init : Value} {od_If_init an_If_init : Option Addr} {sl_If_init : Array (Option Value)}
    {oc_Lattice_init kV_Lattice_init dc_Lattice_init pm_Lattice_init cd_Lattice_init ct_Lattice_init : Value} {od_Lattice_init an_Lattice_init : Option Addr} {sl_Lattice_init : Array (Option Value)}
    {oc_Add_init kV_Add_init dc_Add_init pm_Add_init cd_Add_init ct_Add_init : Value} {od_Add_init an_Add_init : Option Addr} {sl_Add_init : Array (Option Value)}
    {oc_OldBelow_init kV_OldBelow_init dc_OldBelow_init pm_OldBelow_init cd_OldBelow_init ct_OldBelow_init : Value} {od_OldBelow_init an_OldBelow_init : Option Addr} {sl_OldBelow_init : Array (Option Value)}
    {oc_NewBelow_init kV_NewBelow_init dc_NewBelow_init pm_NewBelow_init cd_NewBelow_init ct_NewBelow_init : Value} {od_NewBelow_init an_NewBelow_init : Option Addr} {sl_NewBelow_init : Array (Option Value)}
    {oc_Moved_eq kV_Moved_eq dc_Moved_eq pm_Moved_eq cd_Moved_eq ct_Moved_eq : Value} {od_Moved_eq an_Moved_eq : Option Addr} {sl_Moved_eq : Array (Option Value)}
    {oc_Mark_eq kV_Mark_eq dc_Mark_eq pm_Mark_eq cd_Mark_eq ct_Mark_eq : Value} {od_Mark_eq an_Mark_eq : Option Addr} {sl_Mark_eq : Array (Option Value)}
    {oc_InvalidRow_init kV_InvalidRow_init dc_InvalidRow_init pm_InvalidRow_init cd_InvalidRow_init ct_InvalidRow_init : Value} {od_InvalidRow_init an_InvalidRow_init : Option Addr} {sl_InvalidRow_init : Array (Option Value)}
    {tcI tcL : Value} {tdI tdL : Option Addr} {tnI tnL : Nat} {tsI tsL : Array (Option Value)} {od0 od1 : Option Addr} {n0 n1 : Nat} {sl0 sl1 : Array (Option Value)}
    {oc_is_integer kV_is_integer dc_is_integer pm_is_integer cd_is_integer ct_is_integer : Value} {od_is_integer an_is_integer : Option Addr} {sl_is_integer : Array (Option Value)}
    {oc_is_sequence kV_is_sequence dc_is_sequence pm_is_sequence cd_is_sequence ct_is_sequence : Value} {od_is_sequence an_is_sequence : Option Addr} {sl_is_sequence : Array (Option Value)}
    {oc_is_name kV_is_name dc_is_name pm_is_name cd_is_name ct_is_name : Value} {od_is_name an_is_name : Option Addr} {sl_is_name : Array (Option Value)}
    {oc_check kV_check dc_check pm_check cd_check ct_check : Value} {od_check an_check : Option Addr} {sl_check : Array (Option Value)}
    {oc_is_kind kV_is_kind dc_is_kind pm_is_kind cd_is_kind ct_is_kind : Value} {od_is_kind an_is_kind : Option Addr} {sl_is_kind : Array (Option Value)}
    {oc_are_rows kV_are_rows dc_are_rows pm_are_rows cd_are_rows ct_are_rows : Value} {od_are_rows an_are_rows : Option Addr} {sl_are_rows : Array (Option Value)}
    {oc_is_what kV_is_what dc_is_what pm_is_what cd_is_what ct_is_what : Value} {od_is_what an_is_what : Option Addr} {sl_is_what : Array (Option Value)}
    {oc_is_vector kV_is_vector dc_is_vector pm_is_vector cd_is_vector ct_is_vector : Value} {od_is_vector an_is_vector : Option Addr} {sl_is_vector : Array (Option Value)}
    {oc_is_width kV_is_width dc_is_width pm_is_width cd_is_width ct_is_width : Value} {od_is_width an_is_width : Option Addr} {sl_is_width : Array (Option Value)}
    {oc_are_vectors kV_are_vectors dc_are_vectors pm_are_vectors cd_are_vectors ct_are_vectors : Value} {od_are_vectors an_are_vectors : Option Addr} {sl_are_vectors : Array (Option Value)}
    {oc_grown kV_grown dc_grown pm_grown cd_grown ct_grown : Value} {od_grown an_grown : Option Addr} {sl_grown : Array (Option Value)}
    {oc_law_box kV_law_box dc_law_box pm_law_box cd_law_box ct_law_box : Value} {od_law_box an_law_box : Option Addr} {sl_law_box : Array (Option Value)}
    {oc_law_take kV_law_take dc_law_take pm_law_take cd_law_take ct_law_take : Value} {od_law_take an_law_take : Option Addr} {sl_law_take : Array (Option Value)}
    {oc_law_pick kV_law_pick dc_law_pick pm_law_pick cd_law_pick ct_law_pick : Value} {od_law_pick an_law_pick : Option Addr} {sl_law_pick : Array (Option Value)}
    {oc_law_argument kV_law_argument dc_law_argument pm_law_argument cd_law_argument ct_law_argument : Value} {od_law_argument an_law_argument : Option Addr} {sl_law_argument : Array (Option Value)}
    {oc_law_refused kV_law_refused dc_law_refused pm_law_refused cd_law_refused ct_law_refused : Value} {od_law_refused an_law_refused : Option Addr} {sl_law_refused : Array (Option Value)}
    {oc_law_due kV_law_due dc_law_due pm_law_due cd_law_due ct_law_due : Value} {od_law_due an_law_due : Option Addr} {sl_law_due : Array (Option Value)}
    {oc_law_made kV_law_made dc_law_made pm_law_made cd_law_made ct_law_made : Value} {od_law_made an_law_made : Option Addr} {sl_law_made : Array (Option Value)}
    {oc_law kV_law dc_law pm_law ct_law : Value} {od_law an_law : Option Addr} {sl_law : Array (Option Value)}
    {eL : Value} {dL : Option Addr} {vL : Array Value} {sL : Array (Option Value)}
    (aV : PySem.W.nsIn K mainGlobals "Moved" = some (some (.ref XV)))
    (pgV : PySem.W.plainGet K XV Str.empty = true)
    (hdV : PySem.W.hasDictIn K XV = true)
    (poV : PySem.W.plainOver K XV = true)
    (saV : PySem.W.findIn K (.ref XV) "__setattr__" = some (some (.builtin "object.__setattr__")))
    (mkV : PySem.W.makesIn K XV = true)
    (kpV : PySem.W.keepIn K (.ref XV) = true)
    (iniV : PySem.W.findIn K (.ref XV) "__init__" = some (some (.builtin "object.__init__")))
    (aK : PySem.W.nsIn K mainGlobals "Mark" = some (some (.ref XK)))
    (pgK : PySem.W.plainGet K XK Str.empty = true)
    (hdK : PySem.W.hasDictIn K XK = true)
    (poK : PySem.W.plainOver K XK = true)
    (saK : PySem.W.findIn K (.ref XK) "__setattr__" = some (some (.builtin "object.__setattr__")))
    (mkK : PySem.W.makesIn K XK = true)
    (kpK : PySem.W.keepIn K (.ref XK) = true)
    (iniK : PySem.W.findIn K (.ref XK) "__init__" = some (some (.ref fK)))
    (fnK : PySem.W.isFn K (.ref fK) = true)
    (nK0 : PySem.W.findIn K (.ref XK) "place" = some none)
    (aN : PySem.W.nsIn K mainGlobals "Not" = some (some (.ref XN)))
    (pgN : PySem.W.plainGet K XN Str.empty = true)
    (hdN : PySem.W.hasDictIn K XN = true)
    (poN : PySem.W.plainOver K XN = true)
    (saN : PySem.W.findIn K (.ref XN) "__setattr__" = some (some (.builtin "object.__setattr__")))
    (mkN : PySem.W.makesIn K XN = true)
    (kpN : PySem.W.keepIn K (.ref XN) = true)
    (iniN : PySem.W.findIn K (.ref XN) "__init__" = some (some (.ref fN)))
    (fnN : PySem.W.isFn K (.ref fN) = true)
    (nN0 : PySem.W.findIn K (.ref XN) "test" = some none)
    (aW : PySem.W.nsIn K mainGlobals "Was" = some (some (.ref XW)))
    (pgW : PySem.W.plainGet K XW Str.empty = true)
    (hdW : PySem.W.hasDictIn K XW = true)
    (poW : PySem.W.plainOver K XW = true)
    (saW : PySem.W.findIn K (.ref XW) "__setattr__" = some (some (.builtin "object.__setattr__")))
    (mkW : PySem.W.makesIn K XW = true)
    (kpW : PySem.W.keepIn K (.ref XW) = true)
    (iniW : PySem.W.findIn K (.ref XW) "__init__" = some (some (.ref fW)))
    (fnW : PySem.W.isFn K (.ref fW) = true)
    (nW0 : PySem.W.findIn K (.ref XW) "kind" = some none)
    (aP : PySem.W.nsIn K mainGlobals "Put" = some (some (.ref XP)))
    (pgP : PySem.W.plainGet K XP Str.empty = true)
    (hdP : PySem.W.hasDictIn K XP = true)
    (poP : PySem.W.plainOver K XP = true)
    (saP : PySem.W.findIn K (.ref XP) "__setattr__" = some (some (.builtin "object.__setattr__")))
    (mkP : PySem.W.makesIn K XP = true)
    (kpP : PySem.W.keepIn K (.ref XP) = true)
    (iniP : PySem.W.findIn K (.ref XP) "__init__" = some (some (.ref fP)))
    (fnP : PySem.W.isFn K (.ref fP) = true)
    (nP0 : PySem.W.findIn K (.ref XP) "note" = some none)
    (nP1 : PySem.W.findIn K (.ref XP) "what" = some none)
    (aI : PySem.W.nsIn K mainGlobals "If" = some (some (.ref XI)))
    (pgI : PySem.W.plainGet K XI Str.empty = true)
    (hdI : PySem.W.hasDictIn K XI = true)
    (poI : PySem.W.plainOver K XI = true)
    (saI : PySem.W.findIn K (.ref XI) "__setattr__" = some (some (.builtin "object.__setattr__")))
    (mkI : PySem.W.makesIn K XI = true)
    (kpI : PySem.W.keepIn K (.ref XI) = true)
    (iniI : PySem.W.findIn K (.ref XI) "__init__" = some (some (.ref fI)))
    (fnI : PySem.W.isFn K (.ref fI) = true)
    (nI0 : PySem.W.findIn K (.ref XI) "test" = some none)
    (nI1 : PySem.W.findIn K (.ref XI) "rows" = some none)
    (nI2 : PySem.W.findIn K (.ref XI) "others" = some none)
    (aT : PySem.W.nsIn K mainGlobals "Noted" = some (some (.ref XT)))
    (pgT : PySem.W.plainGet K XT Str.empty = true)
    (hdT : PySem.W.hasDictIn K XT = true)
    (poT : PySem.W.plainOver K XT = true)
    (saT : PySem.W.findIn K (.ref XT) "__setattr__" = some (some (.builtin "object.__setattr__")))
    (mkT : PySem.W.makesIn K XT = true)
    (kpT : PySem.W.keepIn K (.ref XT) = true)
    (iniT : PySem.W.findIn K (.ref XT) "__init__" = some (some (.builtin "object.__init__")))
    (aL : PySem.W.nsIn K mainGlobals "Lattice" = some (some (.ref XL)))
    (pgL : PySem.W.plainGet K XL Str.empty = true)
    (hdL : PySem.W.hasDictIn K XL = true)
    (poL : PySem.W.plainOver K XL = true)
    (saL : PySem.W.findIn K (.ref XL) "__setattr__" = some (some (.builtin "object.__setattr__")))
    (mkL : PySem.W.makesIn K XL = true)
    (kpL : PySem.W.keepIn K (.ref XL) = true)
    (iniL : PySem.W.findIn K (.ref XL) "__init__" = some (some (.ref fL)))
    (fnL : PySem.W.isFn K (.ref fL) = true)
    (nL0 : PySem.W.findIn K (.ref XL) "width" = some none)
    (nL1 : PySem.W.findIn K (.ref XL) "basis" = some none)
    (aA : PySem.W.nsIn K mainGlobals "Add" = some (some (.ref XA)))
    (pgA : PySem.W.plainGet K XA Str.empty = true)
    (hdA : PySem.W.hasDictIn K XA = true)
    (poA : PySem.W.plainOver K XA = true)
    (saA : PySem.W.findIn K (.ref XA) "__setattr__" = some (some (.builtin "object.__setattr__")))
    (mkA : PySem.W.makesIn K XA = true)
    (kpA : PySem.W.keepIn K (.ref XA) = true)
    (iniA : PySem.W.findIn K (.ref XA) "__init__" = some (some (.ref fA)))
    (fnA : PySem.W.isFn K (.ref fA) = true)
    (nA0 : PySem.W.findIn K (.ref XA) "factor" = some none)
    (nA1 : PySem.W.findIn K (.ref XA) "what" = some none)
    (nA2 : PySem.W.findIn K (.ref XA) "total" = some none)
    (nA3 : PySem.W.findIn K (.ref XA) "place" = some none)
    (aO : PySem.W.nsIn K mainGlobals "OldBelow" = some (some (.ref XO)))
    (pgO : PySem.W.plainGet K XO Str.empty = true)
    (hdO : PySem.W.hasDictIn K XO = true)
    (poO : PySem.W.plainOver K XO = true)
    (saO : PySem.W.findIn K (.ref XO) "__setattr__" = some (some (.builtin "object.__setattr__")))
    (mkO : PySem.W.makesIn K XO = true)
    (kpO : PySem.W.keepIn K (.ref XO) = true)
    (iniO : PySem.W.findIn K (.ref XO) "__init__" = some (some (.ref fO)))
    (fnO : PySem.W.isFn K (.ref fO) = true)
    (nO0 : PySem.W.findIn K (.ref XO) "number" = some none)
    (aB : PySem.W.nsIn K mainGlobals "NewBelow" = some (some (.ref XB)))
    (pgB : PySem.W.plainGet K XB Str.empty = true)
    (hdB : PySem.W.hasDictIn K XB = true)
    (poB : PySem.W.plainOver K XB = true)
    (saB : PySem.W.findIn K (.ref XB) "__setattr__" = some (some (.builtin "object.__setattr__")))
    (mkB : PySem.W.makesIn K XB = true)
    (kpB : PySem.W.keepIn K (.ref XB) = true)
    (iniB : PySem.W.findIn K (.ref XB) "__init__" = some (some (.ref fB)))
    (fnB : PySem.W.isFn K (.ref fB) = true)
    (nB0 : PySem.W.findIn K (.ref XB) "number" = some none)
    (cG : PySem.W.specialIn K (.builtin "object.__class__") "__get__" = some (some (.builtin "getset_descriptor.__get__")))
    (cT : PySem.W.takesIn K (.builtin "object.__class__") = some true)
    (ocV : PySem.W.findIn K (.ref XV) "__class__" = some (some (.builtin "object.__class__")))
    (omV : PySem.W.mroIn K XV (.type "object") = some true)
    (kV_str : PySem.W.kitOne K (.ref XV) (.type "str") = some false)
    (kV_int : PySem.W.kitOne K (.ref XV) (.type "int") = some false)
    (kV_bool : PySem.W.kitOne K (.ref XV) (.type "bool") = some false)
    (kV_list : PySem.W.kitOne K (.ref XV) (.type "list") = some false)
    (kV_tuple : PySem.W.kitOne K (.ref XV) (.type "tuple") = some false)
    (ocK : PySem.W.findIn K (.ref XK) "__class__" = some (some (.builtin "object.__class__")))
    (omK : PySem.W.mroIn K XK (.type "object") = some true)
    (kK_str : PySem.W.kitOne K (.ref XK) (.type "str") = some false)
    (kK_int : PySem.W.kitOne K (.ref XK) (.type "int") = some false)
    (kK_bool : PySem.W.kitOne K (.ref XK) (.type "bool") = some false)
    (kK_list : PySem.W.kitOne K (.ref XK) (.type "list") = some false)
    (kK_tuple : PySem.W.kitOne K (.ref XK) (.type "tuple") = some false)
    (ocN : PySem.W.findIn K (.ref XN) "__class__" = some (some (.builtin "object.__class__")))
    (omN : PySem.W.mroIn K XN (.type "object") = some true)
    (kN_str : PySem.W.kitOne K (.ref XN) (.type "str") = some false)
    (kN_int : PySem.W.kitOne K (.ref XN) (.type "int") = some false)
    (kN_bool : PySem.W.kitOne K (.ref XN) (.type "bool") = some false)
    (kN_list : PySem.W.kitOne K (.ref XN) (.type "list") = some false)
    (kN_tuple : PySem.W.kitOne K (.ref XN) (.type "tuple") = some false)
    (ocW : PySem.W.findIn K (.ref XW) "__class__" = some (some (.builtin "object.__class__")))
    (omW : PySem.W.mroIn K XW (.type "object") = some true)
    (kW_str : PySem.W.kitOne K (.ref XW) (.type "str") = some false)
    (kW_int : PySem.W.kitOne K (.ref XW) (.type "int") = some false)
    (kW_bool : PySem.W.kitOne K (.ref XW) (.type "bool") = some false)
    (kW_list : PySem.W.kitOne K (.ref XW) (.type "list") = some false)
    (kW_tuple : PySem.W.kitOne K (.ref XW) (.type "tuple") = some false)
    (ocP : PySem.W.findIn K (.ref XP) "__class__" = some (some (.builtin "object.__class__")))
    (omP : PySem.W.mroIn K XP (.type "object") = some true)
    (kP_str : PySem.W.kitOne K (.ref XP) (.type "str") = some false)
    (kP_int : PySem.W.kitOne K (.ref XP) (.type "int") = some false)
    (kP_bool : PySem.W.kitOne K (.ref XP) (.type "bool") = some false)
    (kP_list : PySem.W.kitOne K (.ref XP) (.type "list") = some false)
    (kP_tuple : PySem.W.kitOne K (.ref XP) (.type "tuple") = some false)
    (ocI : PySem.W.findIn K (.ref XI) "__class__" = some (some (.builtin "object.__class__")))
    (omI : PySem.W.mroIn K XI (.type "object") = some true)
    (kI_str : PySem.W.kitOne K (.ref XI) (.type "str") = some false)
    (kI_int : PySem.W.kitOne K (.ref XI) (.type "int") = some false)
    (kI_bool : PySem.W.kitOne K (.ref XI) (.type "bool") = some false)
    (kI_list : PySem.W.kitOne K (.ref XI) (.type "list") = some false)
    (kI_tuple : PySem.W.kitOne K (.ref XI) (.type "tuple") = some false)
    (ocT : PySem.W.findIn K (.ref XT) "__class__" = some (some (.builtin "object.__class__")))
    (omT : PySem.W.mroIn K XT (.type "object") = some true)
    (kT_str : PySem.W.kitOne K (.ref XT) (.type "str") = some false)
    (kT_int : PySem.W.kitOne K (.ref XT) (.type "int") = some false)
    (kT_bool : PySem.W.kitOne K (.ref XT) (.type "bool") = some false)
    (kT_list : PySem.W.kitOne K (.ref XT) (.type "list") = some false)
    (kT_tuple : PySem.W.kitOne K (.ref XT) (.type "tuple") = some false)
    (ocL : PySem.W.findIn K (.ref XL) "__class__" = some (some (.builtin "object.__class__")))
    (omL : PySem.W.mroIn K XL (.type "object") = some true)
    (kL_str : PySem.W.kitOne K (.ref XL) (.type "str") = some false)
    (kL_int : PySem.W.kitOne K (.ref XL) (.type "int") = some false)
    (kL_bool : PySem.W.kitOne K (.ref XL) (.type "bool") = some false)
    (kL_list : PySem.W.kitOne K (.ref XL) (.type "list") = some false)
    (kL_tuple : PySem.W.kitOne K (.ref XL) (.type "tuple") = some false)
    (aRW : PySem.W.nsIn K mainGlobals "Row" = some (some (.ref RW)))
    (aTS : PySem.W.nsIn K mainGlobals "Test" = some (some (.ref TS)))
    (kR_NoneType : PySem.W.kitOne K (.type "NoneType") (.ref RW) = some false)
    (kR_bool : PySem.W.kitOne K (.type "bool") (.ref RW) = some false)
    (kR_int : PySem.W.kitOne K (.type "int") (.ref RW) = some false)
    (kR_str : PySem.W.kitOne K (.type "str") (.ref RW) = some false)
    (kR_list : PySem.W.kitOne K (.type "list") (.ref RW) = some false)
    (kR_tuple : PySem.W.kitOne K (.type "tuple") (.ref RW) = some false)
    (kR_V : PySem.W.kitOne K (.ref XV) (.ref RW) = some false)
    (kR_K : PySem.W.kitOne K (.ref XK) (.ref RW) = some true)
    (kR_N : PySem.W.kitOne K (.ref XN) (.ref RW) = some false)
    (kR_W : PySem.W.kitOne K (.ref XW) (.ref RW) = some false)
    (kR_P : PySem.W.kitOne K (.ref XP) (.ref RW) = some true)
    (kR_I : PySem.W.kitOne K (.ref XI) (.ref RW) = some true)
    (kR_T : PySem.W.kitOne K (.ref XT) (.ref RW) = some false)
    (kR_L : PySem.W.kitOne K (.ref XL) (.ref RW) = some false)
    (kS_NoneType : PySem.W.kitOne K (.type "NoneType") (.ref TS) = some false)
    (kS_bool : PySem.W.kitOne K (.type "bool") (.ref TS) = some false)
    (kS_int : PySem.W.kitOne K (.type "int") (.ref TS) = some false)
    (kS_str : PySem.W.kitOne K (.type "str") (.ref TS) = some false)
    (kS_list : PySem.W.kitOne K (.type "list") (.ref TS) = some false)
    (kS_tuple : PySem.W.kitOne K (.type "tuple") (.ref TS) = some false)
    (kS_V : PySem.W.kitOne K (.ref XV) (.ref TS) = some true)
    (kS_K : PySem.W.kitOne K (.ref XK) (.ref TS) = some false)
    (kS_N : PySem.W.kitOne K (.ref XN) (.ref TS) = some true)
    (kS_W : PySem.W.kitOne K (.ref XW) (.ref TS) = some true)
    (kS_P : PySem.W.kitOne K (.ref XP) (.ref TS) = some false)
    (kS_I : PySem.W.kitOne K (.ref XI) (.ref TS) = some false)
    (kS_T : PySem.W.kitOne K (.ref XT) (.ref TS) = some true)
    (kS_L : PySem.W.kitOne K (.ref XL) (.ref TS) = some false)
    (stV : PySem.W.subIn K (.ref XV) (.type "str") = some false)
    (hsV : PySem.W.findIn K (.ref XV) "__eq__" = some (some (.ref fVe)))
    (feV : PySem.W.isFn K (.ref fVe) = true)
    (ksV : PySem.W.kitOne K (.type "str") (.ref XV) = some false)
    (stK : PySem.W.subIn K (.ref XK) (.type "str") = some false)
    (hsK : PySem.W.findIn K (.ref XK) "__eq__" = some (some (.ref fKe)))
    (feK : PySem.W.isFn K (.ref fKe) = true)
    (ksK : PySem.W.kitOne K (.type "str") (.ref XK) = some false)
    (aSE : PySem.W.nsIn K mainGlobals "SumError" = some (some (.ref SE)))
    (aIR : PySem.W.nsIn K mainGlobals "InvalidRow" = some (some (.ref IR)))
    (aIT : PySem.W.nsIn K mainGlobals "InvalidText" = some (some (.ref IT)))
    (aIB : PySem.W.nsIn K mainGlobals "InvalidBook" = some (some (.ref IB)))
    (lIR : K.lookup IR = some (excClassObj nmT qnT IR NT bsT bmT true snT suT abT coT ddT kaT kbT kcT kdT kfT "ValueError.__new__"))
    (rIR : PySem.HandSPX.refsVE bmT = true)
    (saR : PySem.W.findIn K (.ref IR) "__setattr__" = some (some (.builtin "object.__setattr__")))
    (inR : PySem.W.findIn K (.ref IR) "__init__" = some (some (.ref fR)))
    (tiR : PySem.W.typeIn K (.ref fR) = some (.type "function"))
    (noR : PySem.W.findIn K (.ref IR) "part" = some none)
    (kIR : PySem.W.keepIn K (.ref IR) = true)
    (exR : PySem.W.subIn K (.ref IR) (.type "BaseException") = some true)
    (tyR : PySem.W.typeIn K (.ref IR) = some (.type "type"))
    (gaR : PySem.W.findIn K (.ref IR) "__getattribute__" = some (some (.builtin "BaseException.__getattribute__")))
    (ggR : PySem.W.findIn K (.ref IR) "__getattr__" = some none)
    (hdR : PySem.W.hasDictIn K IR = true)
    (clR : PySem.W.findIn K (.ref IR) "__class__" = some (some (.builtin "object.__class__")))
    (obR : PySem.W.mroIn K IR (.type "object") = some true)
    (tSE : PySem.W.typeIn K (.ref SE) = some (.type "type"))
    (sSE : PySem.W.subIn K (.ref SE) (.type "BaseException") = some true)
    (dSE : PySem.W.hasDictIn K SE = true)
    (mRS : PySem.W.subIn K (.ref IR) (.ref SE) = some true)
    (kRR : PySem.W.kitOne K (.ref IR) (.ref IR) = some true)
    (kRT : PySem.W.kitOne K (.ref IR) (.ref IT) = some false)
    (kRB : PySem.W.kitOne K (.ref IR) (.ref IB) = some false)
    (aAM : PySem.W.nsIn K mainGlobals "AMOUNTS" = some (some (.ref AM)))
    (lAM : K.lookup AM = some ⟨.type "tuple", odA, .seq #[.str "old" m0, .str "new" m1, .str "one" m2] nA, slA⟩)
    (aNN : PySem.W.nsIn K mainGlobals "NO_NAMES" = some (some (.ref NN)))
    (lNN : K.lookup NN = some ⟨.type "tuple", odN, .seq #[.str "none" k0, .str "to" k1, .str "old" k2, .str "new" k3, .str "one" k4, .str "not" k5] nN, slN⟩)
    (l_Mark_init : K.lookup fK = some ⟨oc_Mark_init, od_Mark_init, .func (PySem.W.fnOf "__init__" "Mark.__init__" (defArgs s_Mark_init) (defBody s_Mark_init) (defScope s_Mark_init) .none kV_Mark_init dc_Mark_init pm_Mark_init an_Mark_init cd_Mark_init ct_Mark_init), sl_Mark_init⟩)
    (c_Mark_init : PySem.W.codeIn K cd_Mark_init "Mark.__init__" = true)
    (k_Mark_init : PySem.W.keepIn K (.ref fK) = true)
    (l_Not_init : K.lookup fN = some ⟨oc_Not_init, od_Not_init, .func (PySem.W.fnOf "__init__" "Not.__init__" (defArgs s_Not_init) (defBody s_Not_init) (defScope s_Not_init) .none kV_Not_init dc_Not_init pm_Not_init an_Not_init cd_Not_init ct_Not_init), sl_Not_init⟩)
    (c_Not_init : PySem.W.codeIn K cd_Not_init "Not.__init__" = true)
    (k_Not_init : PySem.W.keepIn K (.ref fN) = true)
    (l_Was_init : K.lookup fW = some ⟨oc_Was_init, od_Was_init, .func (PySem.W.fnOf "__init__" "Was.__init__" (defArgs s_Was_init) (defBody s_Was_init) (defScope s_Was_init) .none kV_Was_init dc_Was_init pm_Was_init an_Was_init cd_Was_init ct_Was_init), sl_Was_init⟩)
    (c_Was_init : PySem.W.codeIn K cd_Was_init "Was.__init__" = true)
    (k_Was_init : PySem.W.keepIn K (.ref fW) = true)
    (l_Put_init : K.lookup fP = some ⟨oc_Put_init, od_Put_init, .func (PySem.W.fnOf "__init__" "Put.__init__" (defArgs s_Put_init) (defBody s_Put_init) (defScope s_Put_init) .none kV_Put_init dc_Put_init pm_Put_init an_Put_init cd_Put_init ct_Put_init), sl_Put_init⟩)
    (c_Put_init : PySem.W.codeIn K cd_Put_init "Put.__init__" = true)
    (k_Put_init : PySem.W.keepIn K (.ref fP) = true)
    (l_If_init : K.lookup fI = some ⟨oc_If_init, od_If_init, .func (PySem.W.fnOf "__init__" "If.__init__" (defArgs s_If_init) (defBody s_If_init) (defScope s_If_init) (.ref TI) kV_If_init dc_If_init pm_If_init an_If_init cd_If_init ct_If_init), sl_If_init⟩)
    (c_If_init : PySem.W.codeIn K cd_If_init "If.__init__" = true)
    (k_If_init : PySem.W.keepIn K (.ref fI) = true)
    (l_Lattice_init : K.lookup fL = some ⟨oc_Lattice_init, od_Lattice_init, .func (PySem.W.fnOf "__init__" "Lattice.__init__" (defArgs s_Lattice_init) (defBody s_Lattice_init) (defScope s_Lattice_init) (.ref TL) kV_Lattice_init dc_Lattice_init pm_Lattice_init an_Lattice_init cd_Lattice_init ct_Lattice_init), sl_Lattice_init⟩)
    (c_Lattice_init : PySem.W.codeIn K cd_Lattice_init "Lattice.__init__" = true)
    (k_Lattice_init : PySem.W.keepIn K (.ref fL) = true)
    (l_Add_init : K.lookup fA = some ⟨oc_Add_init, od_Add_init, .func (PySem.W.fnOf "__init__" "Add.__init__" (defArgs s_Add_init) (defBody s_Add_init) (defScope s_Add_init) .none kV_Add_init dc_Add_init pm_Add_init an_Add_init cd_Add_init ct_Add_init), sl_Add_init⟩)
    (c_Add_init : PySem.W.codeIn K cd_Add_init "Add.__init__" = true)
    (k_Add_init : PySem.W.keepIn K (.ref fA) = true)
    (l_OldBelow_init : K.lookup fO = some ⟨oc_OldBelow_init, od_OldBelow_init, .func (PySem.W.fnOf "__init__" "OldBelow.__init__" (defArgs s_OldBelow_init) (defBody s_OldBelow_init) (defScope s_OldBelow_init) .none kV_OldBelow_init dc_OldBelow_init pm_OldBelow_init an_OldBelow_init cd_OldBelow_init ct_OldBelow_init), sl_OldBelow_init⟩)
    (c_OldBelow_init : PySem.W.codeIn K cd_OldBelow_init "OldBelow.__init__" = true)
    (k_OldBelow_init : PySem.W.keepIn K (.ref fO) = true)
    (l_NewBelow_init : K.lookup fB = some ⟨oc_NewBelow_init, od_NewBelow_init, .func (PySem.W.fnOf "__init__" "NewBelow.__init__" (defArgs s_NewBelow_init) (defBody s_NewBelow_init) (defScope s_NewBelow_init) .none kV_NewBelow_init dc_NewBelow_init pm_NewBelow_init an_NewBelow_init cd_NewBelow_init ct_NewBelow_init), sl_NewBelow_init⟩)
    (c_NewBelow_init : PySem.W.codeIn K cd_NewBelow_init "NewBelow.__init__" = true)
    (k_NewBelow_init : PySem.W.keepIn K (.ref fB) = true)
    (l_Moved_eq : K.lookup fVe = some ⟨oc_Moved_eq, od_Moved_eq, .func (PySem.W.fnOf "__eq__" "Moved.__eq__" (defArgs s_Moved_eq) (defBody s_Moved_eq) (defScope s_Moved_eq) .none kV_Moved_eq dc_Moved_eq pm_Moved_eq an_Moved_eq cd_Moved_eq ct_Moved_eq), sl_Moved_eq⟩)
    (c_Moved_eq : PySem.W.codeIn K cd_Moved_eq "Moved.__eq__" = true)
    (k_Moved_eq : PySem.W.keepIn K (.ref fVe) = true)
    (l_Mark_eq : K.lookup fKe = some ⟨oc_Mark_eq, od_Mark_eq, .func (PySem.W.fnOf "__eq__" "Mark.__eq__" (defArgs s_Mark_eq) (defBody s_Mark_eq) (defScope s_Mark_eq) .none kV_Mark_eq dc_Mark_eq pm_Mark_eq an_Mark_eq cd_Mark_eq ct_Mark_eq), sl_Mark_eq⟩)
    (c_Mark_eq : PySem.W.codeIn K cd_Mark_eq "Mark.__eq__" = true)
    (k_Mark_eq : PySem.W.keepIn K (.ref fKe) = true)
    (l_InvalidRow_init : K.lookup fR = some ⟨oc_InvalidRow_init, od_InvalidRow_init, .func (PySem.W.fnOf "__init__" "InvalidRow.__init__" (defArgs s_InvalidRow_init) (defBody s_InvalidRow_init) (defScope s_InvalidRow_init) .none kV_InvalidRow_init dc_InvalidRow_init pm_InvalidRow_init an_InvalidRow_init cd_InvalidRow_init ct_InvalidRow_init), sl_InvalidRow_init⟩)
    (c_InvalidRow_init : PySem.W.codeIn K cd_InvalidRow_init "InvalidRow.__init__" = true)
    (k_InvalidRow_init : PySem.W.keepIn K (.ref fR) = true)
    (lTI : K.lookup TI = some ⟨tcI, tdI, .seq #[.ref t0] tnI, tsI⟩)
    (lTL : K.lookup TL = some ⟨tcL, tdL, .seq #[.ref t1] tnL, tsL⟩)
    (lt0 : K.lookup t0 = some ⟨.type "tuple", od0, .seq #[] n0, sl0⟩)
    (lt1 : K.lookup t1 = some ⟨.type "tuple", od1, .seq #[] n1, sl1⟩)
    (a_is_integer : PySem.W.nsIn K mainGlobals "is_integer" = some (some (.ref f_is_integer)))
    (l_is_integer : K.lookup f_is_integer = some ⟨oc_is_integer, od_is_integer, .func (PySem.W.fnOf "is_integer" "is_integer" (defArgs s_is_integer) (defBody s_is_integer) (defScope s_is_integer) .none kV_is_integer dc_is_integer pm_is_integer an_is_integer cd_is_integer ct_is_integer), sl_is_integer⟩)
    (c_is_integer : PySem.W.codeIn K cd_is_integer "is_integer" = true)
    (k_is_integer : PySem.W.keepIn K (.ref f_is_integer) = true)
    (a_is_sequence : PySem.W.nsIn K mainGlobals "is_sequence" = some (some (.ref f_is_sequence)))
    (l_is_sequence : K.lookup f_is_sequence = some ⟨oc_is_sequence, od_is_sequence, .func (PySem.W.fnOf "is_sequence" "is_sequence" (defArgs s_is_sequence) (defBody s_is_sequence) (defScope s_is_sequence) .none kV_is_sequence dc_is_sequence pm_is_sequence an_is_sequence cd_is_sequence ct_is_sequence), sl_is_sequence⟩)
    (c_is_sequence : PySem.W.codeIn K cd_is_sequence "is_sequence" = true)
    (k_is_sequence : PySem.W.keepIn K (.ref f_is_sequence) = true)
    (a_is_name : PySem.W.nsIn K mainGlobals "is_name" = some (some (.ref f_is_name)))
    (l_is_name : K.lookup f_is_name = some ⟨oc_is_name, od_is_name, .func (PySem.W.fnOf "is_name" "is_name" (defArgs s_is_name) (defBody s_is_name) (defScope s_is_name) .none kV_is_name dc_is_name pm_is_name an_is_name cd_is_name ct_is_name), sl_is_name⟩)
    (c_is_name : PySem.W.codeIn K cd_is_name "is_name" = true)
    (k_is_name : PySem.W.keepIn K (.ref f_is_name) = true)
    (a_check : PySem.W.nsIn K mainGlobals "check" = some (some (.ref f_check)))
    (l_check : K.lookup f_check = some ⟨oc_check, od_check, .func (PySem.W.fnOf "check" "check" (defArgs s_check) (defBody s_check) (defScope s_check) .none kV_check dc_check pm_check an_check cd_check ct_check), sl_check⟩)
    (c_check : PySem.W.codeIn K cd_check "check" = true)
    (k_check : PySem.W.keepIn K (.ref f_check) = true)
    (a_is_kind : PySem.W.nsIn K mainGlobals "is_kind" = some (some (.ref f_is_kind)))
    (l_is_kind : K.lookup f_is_kind = some ⟨oc_is_kind, od_is_kind, .func (PySem.W.fnOf "is_kind" "is_kind" (defArgs s_is_kind) (defBody s_is_kind) (defScope s_is_kind) .none kV_is_kind dc_is_kind pm_is_kind an_is_kind cd_is_kind ct_is_kind), sl_is_kind⟩)
    (c_is_kind : PySem.W.codeIn K cd_is_kind "is_kind" = true)
    (k_is_kind : PySem.W.keepIn K (.ref f_is_kind) = true)
    (a_are_rows : PySem.W.nsIn K mainGlobals "are_rows" = some (some (.ref f_are_rows)))
    (l_are_rows : K.lookup f_are_rows = some ⟨oc_are_rows, od_are_rows, .func (PySem.W.fnOf "are_rows" "are_rows" (defArgs s_are_rows) (defBody s_are_rows) (defScope s_are_rows) .none kV_are_rows dc_are_rows pm_are_rows an_are_rows cd_are_rows ct_are_rows), sl_are_rows⟩)
    (c_are_rows : PySem.W.codeIn K cd_are_rows "are_rows" = true)
    (k_are_rows : PySem.W.keepIn K (.ref f_are_rows) = true)
    (a_is_what : PySem.W.nsIn K mainGlobals "is_what" = some (some (.ref f_is_what)))
    (l_is_what : K.lookup f_is_what = some ⟨oc_is_what, od_is_what, .func (PySem.W.fnOf "is_what" "is_what" (defArgs s_is_what) (defBody s_is_what) (defScope s_is_what) .none kV_is_what dc_is_what pm_is_what an_is_what cd_is_what ct_is_what), sl_is_what⟩)
    (c_is_what : PySem.W.codeIn K cd_is_what "is_what" = true)
    (k_is_what : PySem.W.keepIn K (.ref f_is_what) = true)
    (a_is_vector : PySem.W.nsIn K mainGlobals "is_vector" = some (some (.ref f_is_vector)))
    (l_is_vector : K.lookup f_is_vector = some ⟨oc_is_vector, od_is_vector, .func (PySem.W.fnOf "is_vector" "is_vector" (defArgs s_is_vector) (defBody s_is_vector) (defScope s_is_vector) .none kV_is_vector dc_is_vector pm_is_vector an_is_vector cd_is_vector ct_is_vector), sl_is_vector⟩)
    (c_is_vector : PySem.W.codeIn K cd_is_vector "is_vector" = true)
    (k_is_vector : PySem.W.keepIn K (.ref f_is_vector) = true)
    (a_is_width : PySem.W.nsIn K mainGlobals "is_width" = some (some (.ref f_is_width)))
    (l_is_width : K.lookup f_is_width = some ⟨oc_is_width, od_is_width, .func (PySem.W.fnOf "is_width" "is_width" (defArgs s_is_width) (defBody s_is_width) (defScope s_is_width) .none kV_is_width dc_is_width pm_is_width an_is_width cd_is_width ct_is_width), sl_is_width⟩)
    (c_is_width : PySem.W.codeIn K cd_is_width "is_width" = true)
    (k_is_width : PySem.W.keepIn K (.ref f_is_width) = true)
    (a_are_vectors : PySem.W.nsIn K mainGlobals "are_vectors" = some (some (.ref f_are_vectors)))
    (l_are_vectors : K.lookup f_are_vectors = some ⟨oc_are_vectors, od_are_vectors, .func (PySem.W.fnOf "are_vectors" "are_vectors" (defArgs s_are_vectors) (defBody s_are_vectors) (defScope s_are_vectors) .none kV_are_vectors dc_are_vectors pm_are_vectors an_are_vectors cd_are_vectors ct_are_vectors), sl_are_vectors⟩)
    (c_are_vectors : PySem.W.codeIn K cd_are_vectors "are_vectors" = true)
    (k_are_vectors : PySem.W.keepIn K (.ref f_are_vectors) = true)
    (a_grown : PySem.W.nsIn K mainGlobals "grown" = some (some (.ref f_grown)))
    (l_grown : K.lookup f_grown = some ⟨oc_grown, od_grown, .func (PySem.W.fnOf "grown" "grown" (defArgs s_grown) (defBody s_grown) (defScope s_grown) .none kV_grown dc_grown pm_grown an_grown cd_grown ct_grown), sl_grown⟩)
    (c_grown : PySem.W.codeIn K cd_grown "grown" = true)
    (k_grown : PySem.W.keepIn K (.ref f_grown) = true)
    (a_law_box : PySem.W.nsIn K mainGlobals "_law_box" = some (some (.ref f_law_box)))
    (l_law_box : K.lookup f_law_box = some ⟨oc_law_box, od_law_box, .func (PySem.W.fnOf "_law_box" "_law_box" (defArgs s_law_box) (defBody s_law_box) (defScope s_law_box) .none kV_law_box dc_law_box pm_law_box an_law_box cd_law_box ct_law_box), sl_law_box⟩)
    (c_law_box : PySem.W.codeIn K cd_law_box "_law_box" = true)
    (k_law_box : PySem.W.keepIn K (.ref f_law_box) = true)
    (a_law_take : PySem.W.nsIn K mainGlobals "_law_take" = some (some (.ref f_law_take)))
    (l_law_take : K.lookup f_law_take = some ⟨oc_law_take, od_law_take, .func (PySem.W.fnOf "_law_take" "_law_take" (defArgs s_law_take) (defBody s_law_take) (defScope s_law_take) .none kV_law_take dc_law_take pm_law_take an_law_take cd_law_take ct_law_take), sl_law_take⟩)
    (c_law_take : PySem.W.codeIn K cd_law_take "_law_take" = true)
    (k_law_take : PySem.W.keepIn K (.ref f_law_take) = true)
    (a_law_pick : PySem.W.nsIn K mainGlobals "_law_pick" = some (some (.ref f_law_pick)))
    (l_law_pick : K.lookup f_law_pick = some ⟨oc_law_pick, od_law_pick, .func (PySem.W.fnOf "_law_pick" "_law_pick" (defArgs s_law_pick) (defBody s_law_pick) (defScope s_law_pick) .none kV_law_pick dc_law_pick pm_law_pick an_law_pick cd_law_pick ct_law_pick), sl_law_pick⟩)
    (c_law_pick : PySem.W.codeIn K cd_law_pick "_law_pick" = true)
    (k_law_pick : PySem.W.keepIn K (.ref f_law_pick) = true)
    (a_law_argument : PySem.W.nsIn K mainGlobals "_law_argument" = some (some (.ref f_law_argument)))
    (l_law_argument : K.lookup f_law_argument = some ⟨oc_law_argument, od_law_argument, .func (PySem.W.fnOf "_law_argument" "_law_argument" (defArgs s_law_argument) (defBody s_law_argument) (defScope s_law_argument) .none kV_law_argument dc_law_argument pm_law_argument an_law_argument cd_law_argument ct_law_argument), sl_law_argument⟩)
    (c_law_argument : PySem.W.codeIn K cd_law_argument "_law_argument" = true)
    (k_law_argument : PySem.W.keepIn K (.ref f_law_argument) = true)
    (a_law_refused : PySem.W.nsIn K mainGlobals "_law_refused" = some (some (.ref f_law_refused)))
    (l_law_refused : K.lookup f_law_refused = some ⟨oc_law_refused, od_law_refused, .func (PySem.W.fnOf "_law_refused" "_law_refused" (defArgs s_law_refused) (defBody s_law_refused) (defScope s_law_refused) .none kV_law_refused dc_law_refused pm_law_refused an_law_refused cd_law_refused ct_law_refused), sl_law_refused⟩)
    (c_law_refused : PySem.W.codeIn K cd_law_refused "_law_refused" = true)
    (k_law_refused : PySem.W.keepIn K (.ref f_law_refused) = true)
    (a_law_due : PySem.W.nsIn K mainGlobals "_law_due" = some (some (.ref f_law_due)))
    (l_law_due : K.lookup f_law_due = some ⟨oc_law_due, od_law_due, .func (PySem.W.fnOf "_law_due" "_law_due" (defArgs s_law_due) (defBody s_law_due) (defScope s_law_due) .none kV_law_due dc_law_due pm_law_due an_law_due cd_law_due ct_law_due), sl_law_due⟩)
    (c_law_due : PySem.W.codeIn K cd_law_due "_law_due" = true)
    (k_law_due : PySem.W.keepIn K (.ref f_law_due) = true)
    (a_law_made : PySem.W.nsIn K mainGlobals "_law_made" = some (some (.ref f_law_made)))
    (l_law_made : K.lookup f_law_made = some ⟨oc_law_made, od_law_made, .func (PySem.W.fnOf "_law_made" "_law_made" (defArgs s_law_made) (defBody s_law_made) (defScope s_law_made) .none kV_law_made dc_law_made pm_law_made an_law_made cd_law_made ct_law_made), sl_law_made⟩)
    (c_law_made : PySem.W.codeIn K cd_law_made "_law_made" = true)
    (k_law_made : PySem.W.keepIn K (.ref f_law_made) = true)
    (a_law : PySem.W.nsIn K mainGlobals "law" = some (some (.ref f_law)))
    (l_law : K.lookup f_law = some ⟨oc_law, od_law, .func (PySem.W.fnOf "law" "law" (defArgs s_law) (defBody s_law) (defScope s_law) .none kV_law dc_law pm_law an_law (.ref cL) ct_law), sl_law⟩)
    (c_law : PySem.W.codeIn K (.ref cL) "law" = true)
    (k_law : PySem.W.keepIn K (.ref f_law) = true)
    (lcL : K.lookup cL = some ⟨eL, dL, .fields vL, sL⟩)
    (vtL : vL[11]? = some (.ref tL))
    (chL : PySem.W.codeHdIn K cL tL = true)
    (ntL : K.lookup tL = none)
    (owL : LamX.OwnTab K f_law h)
    (z_len : PySem.W.nsIn K mainGlobals "len" = some none)
    (z_abs : PySem.W.nsIn K mainGlobals "abs" = some none)
    (z_int : PySem.W.nsIn K mainGlobals "int" = some none)
    (z_max : PySem.W.nsIn K mainGlobals "max" = some none)
    (z_min : PySem.W.nsIn K mainGlobals "min" = some none)
    (z_range : PySem.W.nsIn K mainGlobals "range" = some none)
    (z_enumerate : PySem.W.nsIn K mainGlobals "enumerate" = some none)
    (z_isinstance : PySem.W.nsIn K mainGlobals "isinstance" = some none)
    (z_repr : PySem.W.nsIn K mainGlobals "repr" = some none)
    (z_zip : PySem.W.nsIn K mainGlobals "zip" = some none)
    (z_sum : PySem.W.nsIn K mainGlobals "sum" = some none)
    (z_all : PySem.W.nsIn K mainGlobals "all" = some none)
    (z_tuple : PySem.W.nsIn K mainGlobals "tuple" = some none)
    (z_list : PySem.W.nsIn K mainGlobals "list" = some none)
    (z_bool : PySem.W.nsIn K mainGlobals "bool" = some none)
    (z_sorted : PySem.W.nsIn K mainGlobals "sorted" = some none)
    (z_dict : PySem.W.nsIn K mainGlobals "dict" = some none)
    (z_str : PySem.W.nsIn K mainGlobals "str" = some none)
    (z_set : PySem.W.nsIn K mainGlobals "set" = some none)
    : LawAtS l w K L2.CX0 14 63 "_law_script" mg fa h := by
  cases hfa.symm.trans (PySem.W.mg_of X G a_law)
  have T : Txt mg := ⟨PySem.W.mg_none_of X G z_len, PySem.W.mg_none_of X G z_abs, PySem.W.mg_none_of X G z_int, PySem.W.mg_none_of X G z_max, PySem.W.mg_none_of X G z_min, PySem.W.mg_none_of X G z_range, PySem.W.mg_none_of X G z_enumerate, PySem.W.mg_none_of X G z_isinstance, PySem.W.mg_none_of X G z_repr, PySem.W.mg_none_of X G z_zip, PySem.W.mg_none_of X G z_sum, PySem.W.mg_none_of X G z_all, PySem.W.mg_none_of X G z_tuple, PySem.W.mg_none_of X G z_list, PySem.W.mg_none_of X G z_bool, PySem.W.mg_none_of X G z_sorted, PySem.W.mg_none_of X G z_dict, PySem.W.mg_none_of X G z_str, PySem.W.mg_none_of X G z_set⟩
  have clsV : Cls K XV := ⟨pgV, hdV, poV, saV⟩
  have MV : Mk00 K XV := ⟨mkV, iniV, kpV⟩
  have clsK : Cls K XK := ⟨pgK, hdK, poK, saK⟩
  have CK : ClsA K mg "Mark" XK ["place"] := ⟨clsK, fun a ha => by
    simp only [List.mem_cons, List.not_mem_nil, or_false] at ha
    rcases ha with rfl
    · exact nK0
    , PySem.W.mg_of X G aK⟩
  have MK : Mk K XK fK := ⟨mkK, iniK, fnK, kpK⟩
  have clsN : Cls K XN := ⟨pgN, hdN, poN, saN⟩
  have CN : ClsA K mg "Not" XN ["test"] := ⟨clsN, fun a ha => by
    simp only [List.mem_cons, List.not_mem_nil, or_false] at ha
    rcases ha with rfl
    · exact nN0
    , PySem.W.mg_of X G aN⟩
  have MN : Mk K XN fN := ⟨mkN, iniN, fnN, kpN⟩
  have clsW : Cls K XW := ⟨pgW, hdW, poW, saW⟩
  have CW : ClsA K mg "Was" XW ["kind"] := ⟨clsW, fun a ha => by
    simp only [List.mem_cons, List.not_mem_nil, or_false] at ha
    rcases ha with rfl
    · exact nW0
    , PySem.W.mg_of X G aW⟩
  have MW : Mk K XW fW := ⟨mkW, iniW, fnW, kpW⟩
  have clsP : Cls K XP := ⟨pgP, hdP, poP, saP⟩
  have CP : ClsA K mg "Put" XP ["note", "what"] := ⟨clsP, fun a ha => by
    simp only [List.mem_cons, List.not_mem_nil, or_false] at ha
    rcases ha with rfl | rfl
    · exact nP0
    · exact nP1
    , PySem.W.mg_of X G aP⟩
  have MP : Mk K XP fP := ⟨mkP, iniP, fnP, kpP⟩
  have clsI : Cls K XI := ⟨pgI, hdI, poI, saI⟩
  have CI : ClsA K mg "If" XI ["test", "rows", "others"] := ⟨clsI, fun a ha => by
    simp only [List.mem_cons, List.not_mem_nil, or_false] at ha
    rcases ha with rfl | rfl | rfl
    · exact nI0
    · exact nI1
    · exact nI2
    , PySem.W.mg_of X G aI⟩
  have MI : Mk K XI fI := ⟨mkI, iniI, fnI, kpI⟩
  have clsT : Cls K XT := ⟨pgT, hdT, poT, saT⟩
  have MT : Mk00 K XT := ⟨mkT, iniT, kpT⟩
  have clsL : Cls K XL := ⟨pgL, hdL, poL, saL⟩
  have CL : ClsA K mg "Lattice" XL ["width", "basis"] := ⟨clsL, fun a ha => by
    simp only [List.mem_cons, List.not_mem_nil, or_false] at ha
    rcases ha with rfl | rfl
    · exact nL0
    · exact nL1
    , PySem.W.mg_of X G aL⟩
  have ML : Mk K XL fL := ⟨mkL, iniL, fnL, kpL⟩
  have clsA : Cls K XA := ⟨pgA, hdA, poA, saA⟩
  have CA : ClsA K mg "Add" XA ["factor", "what", "total", "place"] := ⟨clsA, fun a ha => by
    simp only [List.mem_cons, List.not_mem_nil, or_false] at ha
    rcases ha with rfl | rfl | rfl | rfl
    · exact nA0
    · exact nA1
    · exact nA2
    · exact nA3
    , PySem.W.mg_of X G aA⟩
  have MA : Mk K XA fA := ⟨mkA, iniA, fnA, kpA⟩
  have clsO : Cls K XO := ⟨pgO, hdO, poO, saO⟩
  have CO : ClsA K mg "OldBelow" XO ["number"] := ⟨clsO, fun a ha => by
    simp only [List.mem_cons, List.not_mem_nil, or_false] at ha
    rcases ha with rfl
    · exact nO0
    , PySem.W.mg_of X G aO⟩
  have MO : Mk K XO fO := ⟨mkO, iniO, fnO, kpO⟩
  have clsB : Cls K XB := ⟨pgB, hdB, poB, saB⟩
  have CB : ClsA K mg "NewBelow" XB ["number"] := ⟨clsB, fun a ha => by
    simp only [List.mem_cons, List.not_mem_nil, or_false] at ha
    rcases ha with rfl
    · exact nB0
    , PySem.W.mg_of X G aB⟩
  have MB : Mk K XB fB := ⟨mkB, iniB, fnB, kpB⟩
  have OV : ObjK K XV := ⟨clsV, ocV, cG, cT, omV, kV_str, kV_int, kV_bool, kV_list, kV_tuple⟩
  have OK : ObjK K XK := ⟨clsK, ocK, cG, cT, omK, kK_str, kK_int, kK_bool, kK_list, kK_tuple⟩
  have ON : ObjK K XN := ⟨clsN, ocN, cG, cT, omN, kN_str, kN_int, kN_bool, kN_list, kN_tuple⟩
  have OW : ObjK K XW := ⟨clsW, ocW, cG, cT, omW, kW_str, kW_int, kW_bool, kW_list, kW_tuple⟩
  have OP : ObjK K XP := ⟨clsP, ocP, cG, cT, omP, kP_str, kP_int, kP_bool, kP_list, kP_tuple⟩
  have OI : ObjK K XI := ⟨clsI, ocI, cG, cT, omI, kI_str, kI_int, kI_bool, kI_list, kI_tuple⟩
  have OT : ObjK K XT := ⟨clsT, ocT, cG, cT, omT, kT_str, kT_int, kT_bool, kT_list, kT_tuple⟩
  have OL : ObjK K XL := ⟨clsL, ocL, cG, cT, omL, kL_str, kL_int, kL_bool, kL_list, kL_tuple⟩
  let Z : Nat → Addr := fun k => match k with | 0 => XV | 1 => XK | 2 => XN | 3 => XW | 4 => XP | 5 => XI | 6 => XT | _ => XL
  have OZ : ∀ k, ObjK K (Z k) := fun k => match k with | 0 => OV | 1 => OK | 2 => ON | 3 => OW | 4 => OP | 5 => OI | 6 => OT | n + 7 => OL
  have RR : RowK K Z RW := ⟨kR_NoneType, kR_bool, kR_int, kR_str, kR_list, kR_tuple, fun k => match k with | 0 => kR_V | 1 => kR_K | 2 => kR_N | 3 => kR_W | 4 => kR_P | 5 => kR_I | 6 => kR_T | n + 7 => (by rw [show isRow (n + 7) = false from by simp [isRow]]; exact kR_L)⟩
  have TK : TestK K Z TS := ⟨kS_NoneType, kS_bool, kS_int, kS_str, kS_list, kS_tuple, fun k => match k with | 0 => kS_V | 1 => kS_K | 2 => kS_N | 3 => kS_W | 4 => kS_P | 5 => kS_I | 6 => kS_T | n + 7 => (by rw [show isTest (n + 7) = false from by simp [isTest]]; exact kS_L)⟩
  have N0 : NoRows K t0 := ⟨_, _, lt0, rfl, rfl⟩
  have N1 : NoRows K t1 := ⟨_, _, lt1, rfl, rfl⟩
  have tAM : ∀ H, SqT K H AM (amounts.map V.str) := fun H => .inr ⟨_, _, _, lAM, rfl, rfl, (by show 3 ≤ sizeLine; decide), .cons ⟨_, rfl⟩ (.cons ⟨_, rfl⟩ (.cons ⟨_, rfl⟩ .nil))⟩
  have OXR : OexC K IR := ⟨⟨_, _, _, _, _, _, _, _, _, _, _, _, _, _, _, lIR, rIR⟩, saR, exR, tyR, kIR⟩
  have te : PySem.W.exmOne K (.ref IR) (.ref SE) = some true := PySem.W.exm_ref sSE dSE tSE mRS
  have EK : ErrK K mg SE IR IT IB := ⟨⟨gaR, ggR, exR, hdR, clR, cG, cT, obR⟩, ⟨gaR, ggR, exR, hdR⟩, noR, te, PySem.W.mg_of X G aSE, PySem.W.mg_of X G aIR, PySem.W.mg_of X G aIT, PySem.W.mg_of X G aIB, kRR, kitAny_cons (b := false) kRT (fun _ => kitAny_cons (b := false) kRB (fun _ => rfl) (fun z => nomatch z)) (fun z => nomatch z)⟩
  have tNN : ∀ H, SqT K H NN (noNames.map V.str) := fun H => .inr ⟨_, _, _, lNN, rfl, rfl, (by show 6 ≤ sizeLine; decide), .cons ⟨_, rfl⟩ (.cons ⟨_, rfl⟩ (.cons ⟨_, rfl⟩ (.cons ⟨_, rfl⟩ (.cons ⟨_, rfl⟩ (.cons ⟨_, rfl⟩ .nil)))))⟩
  have D_is_integer := fun_mk (st := s_is_integer) l_is_integer c_is_integer k_is_integer
  have b_is_integer := D_is_integer.binds (ps := ["value"]) (fun _ _ _ _ _ _ us hl => match us, hl with | [_], _ => rfl)
  have A_is_integer : DefAt K mg "is_integer" s_is_integer ["value"] := ⟨f_is_integer, _, D_is_integer, PySem.W.mg_of X G a_is_integer, b_is_integer⟩
  have D_is_sequence := fun_mk (st := s_is_sequence) l_is_sequence c_is_sequence k_is_sequence
  have b_is_sequence := D_is_sequence.binds (ps := ["value"]) (fun _ _ _ _ _ _ us hl => match us, hl with | [_], _ => rfl)
  have A_is_sequence : DefAt K mg "is_sequence" s_is_sequence ["value"] := ⟨f_is_sequence, _, D_is_sequence, PySem.W.mg_of X G a_is_sequence, b_is_sequence⟩
  have D_is_name := fun_mk (st := s_is_name) l_is_name c_is_name k_is_name
  have b_is_name := D_is_name.binds (ps := ["value"]) (fun _ _ _ _ _ _ us hl => match us, hl with | [_], _ => rfl)
  have A_is_name : DefAt K mg "is_name" s_is_name ["value"] := ⟨f_is_name, _, D_is_name, PySem.W.mg_of X G a_is_name, b_is_name⟩
  have D_check := fun_mk (st := s_check) l_check c_check k_check
  have b_check := D_check.binds (ps := ["holds", "part"]) (fun _ _ _ _ _ _ us hl => match us, hl with | [_, _], _ => rfl)
  have A_check : DefAt K mg "check" s_check ["holds", "part"] := ⟨f_check, _, D_check, PySem.W.mg_of X G a_check, b_check⟩
  have D_is_kind := fun_mk (st := s_is_kind) l_is_kind c_is_kind k_is_kind
  have b_is_kind := D_is_kind.binds (ps := ["value"]) (fun _ _ _ _ _ _ us hl => match us, hl with | [_], _ => rfl)
  have A_is_kind : DefAt K mg "is_kind" s_is_kind ["value"] := ⟨f_is_kind, _, D_is_kind, PySem.W.mg_of X G a_is_kind, b_is_kind⟩
  have D_are_rows := fun_mk (st := s_are_rows) l_are_rows c_are_rows k_are_rows
  have b_are_rows := D_are_rows.binds (ps := ["value"]) (fun _ _ _ _ _ _ us hl => match us, hl with | [_], _ => rfl)
  have A_are_rows : DefAt K mg "are_rows" s_are_rows ["value"] := ⟨f_are_rows, _, D_are_rows, PySem.W.mg_of X G a_are_rows, b_are_rows⟩
  have D_is_what := fun_mk (st := s_is_what) l_is_what c_is_what k_is_what
  have b_is_what := D_is_what.binds (ps := ["value"]) (fun _ _ _ _ _ _ us hl => match us, hl with | [_], _ => rfl)
  have A_is_what : DefAt K mg "is_what" s_is_what ["value"] := ⟨f_is_what, _, D_is_what, PySem.W.mg_of X G a_is_what, b_is_what⟩
  have D_is_vector := fun_mk (st := s_is_vector) l_is_vector c_is_vector k_is_vector
  have b_is_vector := D_is_vector.binds (ps := ["value", "width"]) (fun _ _ _ _ _ _ us hl => match us, hl with | [_, _], _ => rfl)
  have A_is_vector : DefAt K mg "is_vector" s_is_vector ["value", "width"] := ⟨f_is_vector, _, D_is_vector, PySem.W.mg_of X G a_is_vector, b_is_vector⟩
  have D_is_width := fun_mk (st := s_is_width) l_is_width c_is_width k_is_width
  have b_is_width := D_is_width.binds (ps := ["value"]) (fun _ _ _ _ _ _ us hl => match us, hl with | [_], _ => rfl)
  have A_is_width : DefAt K mg "is_width" s_is_width ["value"] := ⟨f_is_width, _, D_is_width, PySem.W.mg_of X G a_is_width, b_is_width⟩
  have D_are_vectors := fun_mk (st := s_are_vectors) l_are_vectors c_are_vectors k_are_vectors
  have b_are_vectors := D_are_vectors.binds (ps := ["value", "width"]) (fun _ _ _ _ _ _ us hl => match us, hl with | [_, _], _ => rfl)
  have A_are_vectors : DefAt K mg "are_vectors" s_are_vectors ["value", "width"] := ⟨f_are_vectors, _, D_are_vectors, PySem.W.mg_of X G a_are_vectors, b_are_vectors⟩
  have D_grown := fun_mk (st := s_grown) l_grown c_grown k_grown
  have b_grown := D_grown.binds (ps := ["basis", "vector"]) (fun _ _ _ _ _ _ us hl => match us, hl with | [_, _], _ => rfl)
  have A_grown : DefAt K mg "grown" s_grown ["basis", "vector"] := ⟨f_grown, _, D_grown, PySem.W.mg_of X G a_grown, b_grown⟩
  have D_law_box := fun_mk (st := s_law_box) l_law_box c_law_box k_law_box
  have b_law_box := D_law_box.binds (ps := ["_law_script", "_law_k", "_law_own"]) (fun _ _ _ _ _ _ us hl => match us, hl with | [_, _, _], _ => rfl)
  have A_law_box : DefAt K mg "_law_box" s_law_box ["_law_script", "_law_k", "_law_own"] := ⟨f_law_box, _, D_law_box, PySem.W.mg_of X G a_law_box, b_law_box⟩
  have D_law_take := fun_mk (st := s_law_take) l_law_take c_law_take k_law_take
  have b_law_take := D_law_take.binds (ps := ["_law_box_here", "_law_many"]) (fun _ _ _ _ _ _ us hl => match us, hl with | [_, _], _ => rfl)
  have A_law_take : DefAt K mg "_law_take" s_law_take ["_law_box_here", "_law_many"] := ⟨f_law_take, _, D_law_take, PySem.W.mg_of X G a_law_take, b_law_take⟩
  have D_law_pick := fun_mk (st := s_law_pick) l_law_pick c_law_pick k_law_pick
  have b_law_pick := D_law_pick.binds (ps := ["_law_box_here", "_law_items"]) (fun _ _ _ _ _ _ us hl => match us, hl with | [_, _], _ => rfl)
  have A_law_pick : DefAt K mg "_law_pick" s_law_pick ["_law_box_here", "_law_items"] := ⟨f_law_pick, _, D_law_pick, PySem.W.mg_of X G a_law_pick, b_law_pick⟩
  have D_law_argument := fun_mk (st := s_law_argument) l_law_argument c_law_argument k_law_argument
  have b_law_argument := D_law_argument.binds (ps := ["_law_box_here", "_law_part"]) (fun _ _ _ _ _ _ us hl => match us, hl with | [_, _], _ => rfl)
  have A_law_argument : DefAt K mg "_law_argument" s_law_argument ["_law_box_here", "_law_part"] := ⟨f_law_argument, _, D_law_argument, PySem.W.mg_of X G a_law_argument, b_law_argument⟩
  have D_law_refused := fun_mk (st := s_law_refused) l_law_refused c_law_refused k_law_refused
  have b_law_refused := D_law_refused.binds (ps := ["_law_work"]) (fun _ _ _ _ _ _ us hl => match us, hl with | [_], _ => rfl)
  have A_law_refused : DefAt K mg "_law_refused" s_law_refused ["_law_work"] := ⟨f_law_refused, _, D_law_refused, PySem.W.mg_of X G a_law_refused, b_law_refused⟩
  have D_law_due := fun_mk (st := s_law_due) l_law_due c_law_due k_law_due
  have b_law_due := D_law_due.binds (ps := ["_law_parts", "_law_heard"]) (fun _ _ _ _ _ _ us hl => match us, hl with | [_, _], _ => rfl)
  have A_law_due : DefAt K mg "_law_due" s_law_due ["_law_parts", "_law_heard"] := ⟨f_law_due, _, D_law_due, PySem.W.mg_of X G a_law_due, b_law_due⟩
  have D_law_made := fun_mk (st := s_law_made) l_law_made c_law_made k_law_made
  have b_law_made := D_law_made.binds (ps := ["_law_word", "_law_a", "_law_b", "_law_c", "_law_d"]) (fun _ _ _ _ _ _ us hl => match us, hl with | [_, _, _, _, _], _ => rfl)
  have A_law_made : DefAt K mg "_law_made" s_law_made ["_law_word", "_law_a", "_law_b", "_law_c", "_law_d"] := ⟨f_law_made, _, D_law_made, PySem.W.mg_of X G a_law_made, b_law_made⟩
  have D_law := fun_mk (st := s_law) l_law c_law k_law
  have b_law := D_law.binds (ps := ["_law_script"]) (fun _ _ _ _ _ _ us hl => match us, hl with | [_], _ => rfl)
  have A_law : DefC K mg "law" s_law ["_law_script"] cL := ⟨_, _, _, _, _, _, _, _, _, l_law, c_law, k_law, PySem.W.mg_of X G a_law, b_law⟩
  have DVe := fun_mk (st := s_Moved_eq) l_Moved_eq c_Moved_eq k_Moved_eq
  have bVe := DVe.binds (ps := ["self", "other"]) (fun _ _ _ _ _ _ us hl => match us, hl with | [_, _], _ => rfl)
  have DKe := fun_mk (st := s_Mark_eq) l_Mark_eq c_Mark_eq k_Mark_eq
  have bKe := DKe.binds (ps := ["self", "other"]) (fun _ _ _ _ _ _ us hl => match us, hl with | [_, _], _ => rfl)
  have DR := fun_mk (st := s_InvalidRow_init) l_InvalidRow_init c_InvalidRow_init k_InvalidRow_init
  have bR := DR.binds (ps := ["self", "part"]) (fun _ _ _ _ _ _ us hl => match us, hl with | [_, _], _ => rfl)
  have FK : FunD K "__init__" "Mark.__init__" (defArgs s_Mark_init) (defBody s_Mark_init) (defScope s_Mark_init) [] [] fK _ := ⟨⟨_, _, _, _, _, _, _, _, _, _, rfl, l_Mark_init, c_Mark_init, .inl ⟨rfl, rfl⟩, .inl rfl⟩, k_Mark_init⟩
  have FN : FunD K "__init__" "Not.__init__" (defArgs s_Not_init) (defBody s_Not_init) (defScope s_Not_init) [] [] fN _ := ⟨⟨_, _, _, _, _, _, _, _, _, _, rfl, l_Not_init, c_Not_init, .inl ⟨rfl, rfl⟩, .inl rfl⟩, k_Not_init⟩
  have FW : FunD K "__init__" "Was.__init__" (defArgs s_Was_init) (defBody s_Was_init) (defScope s_Was_init) [] [] fW _ := ⟨⟨_, _, _, _, _, _, _, _, _, _, rfl, l_Was_init, c_Was_init, .inl ⟨rfl, rfl⟩, .inl rfl⟩, k_Was_init⟩
  have FP : FunD K "__init__" "Put.__init__" (defArgs s_Put_init) (defBody s_Put_init) (defScope s_Put_init) [] [] fP _ := ⟨⟨_, _, _, _, _, _, _, _, _, _, rfl, l_Put_init, c_Put_init, .inl ⟨rfl, rfl⟩, .inl rfl⟩, k_Put_init⟩
  have FI : FunD K "__init__" "If.__init__" (defArgs s_If_init) (defBody s_If_init) (defScope s_If_init) [V.ref t0] [] fI _ := ⟨⟨_, _, _, _, _, _, _, _, _, _, rfl, l_If_init, c_If_init, .inr ⟨(fun z => nomatch z), TI, _, [.ref t0], tnI, rfl, lTI, rfl, .cons rfl .nil⟩, .inl rfl⟩, k_If_init⟩
  have FL : FunD K "__init__" "Lattice.__init__" (defArgs s_Lattice_init) (defBody s_Lattice_init) (defScope s_Lattice_init) [V.ref t1] [] fL _ := ⟨⟨_, _, _, _, _, _, _, _, _, _, rfl, l_Lattice_init, c_Lattice_init, .inr ⟨(fun z => nomatch z), TL, _, [.ref t1], tnL, rfl, lTL, rfl, .cons rfl .nil⟩, .inl rfl⟩, k_Lattice_init⟩
  have FA : FunD K "__init__" "Add.__init__" (defArgs s_Add_init) (defBody s_Add_init) (defScope s_Add_init) [] [] fA _ := ⟨⟨_, _, _, _, _, _, _, _, _, _, rfl, l_Add_init, c_Add_init, .inl ⟨rfl, rfl⟩, .inl rfl⟩, k_Add_init⟩
  have FO : FunD K "__init__" "OldBelow.__init__" (defArgs s_OldBelow_init) (defBody s_OldBelow_init) (defScope s_OldBelow_init) [] [] fO _ := ⟨⟨_, _, _, _, _, _, _, _, _, _, rfl, l_OldBelow_init, c_OldBelow_init, .inl ⟨rfl, rfl⟩, .inl rfl⟩, k_OldBelow_init⟩
  have FB : FunD K "__init__" "NewBelow.__init__" (defArgs s_NewBelow_init) (defBody s_NewBelow_init) (defScope s_NewBelow_init) [] [] fB _ := ⟨⟨_, _, _, _, _, _, _, _, _, _, rfl, l_NewBelow_init, c_NewBelow_init, .inl ⟨rfl, rfl⟩, .inl rfl⟩, k_NewBelow_init⟩
  obtain ⟨d2, u2, bI⟩ := FI.binds1 (ps := ["self", "test", "rows", "others"]) 4 1 (fun z => nomatch z) rfl (fun _ _ _ _ _ _ _ us its hu hi => match us, hu, its, hi with | [_, _, _, _], _, [_], _ => ⟨_, rfl, rfl⟩)
  obtain ⟨d3, u3, bI1⟩ := FI.binds1 (ps := ["self", "test", "rows", "others"]) 3 0 (fun z => nomatch z) rfl (fun _ _ _ _ _ _ _ us its hu hi => match us, hu, its, hi with | [_, _, _], _, [_], _ => ⟨_, rfl, rfl⟩)
  obtain ⟨d4, u4, bL1⟩ := FL.binds1 (ps := ["self", "width", "rows"]) 2 0 (fun z => nomatch z) rfl (fun _ _ _ _ _ _ _ us its hu hi => match us, hu, its, hi with | [_, _], _, [_], _ => ⟨_, rfl, rfl⟩)
  have bK := FK.bindsN (ps := ["self", "place"]) (fun _ _ _ _ _ _ us hl => match us, hl with | [_, _], _ => rfl)
  have bN := FN.bindsN (ps := ["self", "test"]) (fun _ _ _ _ _ _ us hl => match us, hl with | [_, _], _ => rfl)
  have bW := FW.bindsN (ps := ["self", "kind"]) (fun _ _ _ _ _ _ us hl => match us, hl with | [_, _], _ => rfl)
  have bP := FP.bindsN (ps := ["self", "note", "what"]) (fun _ _ _ _ _ _ us hl => match us, hl with | [_, _, _], _ => rfl)
  have bA := FA.bindsN (ps := ["self", "factor", "what", "total", "place"]) (fun _ _ _ _ _ _ us hl => match us, hl with | [_, _, _, _, _], _ => rfl)
  have bO := FO.bindsN (ps := ["self", "number"]) (fun _ _ _ _ _ _ us hl => match us, hl with | [_, _], _ => rfl)
  have bB := FB.bindsN (ps := ["self", "number"]) (fun _ _ _ _ _ _ us hl => match us, hl with | [_, _], _ => rfl)
  cases u2
  have RK : RefK K mg f_law_refused oc_law_refused kV_law_refused dc_law_refused pm_law_refused cd_law_refused ct_law_refused od_law_refused an_law_refused sl_law_refused := ⟨PySem.W.mg_of X G a_law_refused, k_law_refused, l_law_refused, c_law_refused, b_law_refused⟩
  let TT : List (Addr × Str) := [(tL, lamL)]
  refine ⟨PySem.W.fnOf "law" "law" (defArgs s_law) (defBody s_law) (defScope s_law) .none kV_law dc_law pm_law an_law (.ref cL) ct_law, [(cL, tL)], spLawT K TT, ?_, ?_, ?_, (fun s u => .of_eq rfl), ?_, ?_⟩
  · intro p hp
    obtain rfl : p = (cL, tL) := by simpa using hp
    exact owL cL tL _ _ _ _ _ _ l_law rfl rfl lcL vtL
  · intro p hp
    obtain rfl : p = (cL, tL) := by simpa using hp
    exact ntL
  · intro p hp
    obtain rfl : p = (cL, tL) := by simpa using hp
    exact PySem.W.codeHd_of_K X chL
  · intro H a ns hl _ hT hS
    refine ⟨a, ns, rfl, hS, hl, fun p hp => ?_, fun _ => rfl⟩
    obtain rfl : p = (tL, lamL) := by simpa [TT] using hp
    exact TabS.nil (hT (cL, tL) (by simp))
  · intro base _ _ TB
    have TBL : TabB base mg cL tL := TB (cL, tL) (by simp)
    have huL : ∀ p ∈ TT, p.1 = tL → p.2 = lamL := fun p hp _ => by
      obtain rfl : p = (tL, lamL) := by simpa [TT] using hp
      rfl
    have g_int := ok_int (P := l.prog) (w := w) (base := base) T OZ A_is_integer
    have g_seq := ok_seq (P := l.prog) (w := w) (base := base) T OZ A_is_sequence
    have g_name := ok_name (P := l.prog) (w := w) (base := base) T OZ (PySem.W.mg_of X G aNN) tNN A_is_name
    have g_initR := ok_initR (mg := mg) (P := l.prog) (w := w) (base := base) OXR noR DR
    have g_check := ok_check (P := l.prog) (w := w) (base := base) T OXR inR tiR g_initR bR (PySem.W.mg_of X G aIR) A_check
    have g_kind := ok_kind (P := l.prog) (w := w) (base := base) T g_name A_is_kind
    have g_rows := ok_rows (P := l.prog) (w := w) (base := base) T OZ RR (PySem.W.mg_of X G aRW) g_seq A_are_rows
    have g_seqK := ok_seqK (P := l.prog) (w := w) (base := base) T N0 A_is_sequence
    have g_rowsK := ok_rowsK (P := l.prog) (w := w) (base := base) T N0 (PySem.W.mg_of X G aRW) g_seqK A_are_rows
    have g_movedEq := ok_movedEq (P := l.prog) (w := w) (base := base) T (PySem.W.mg_of X G aV) ksV DVe
    have g_markEq := ok_markEq (P := l.prog) (w := w) (base := base) T (PySem.W.mg_of X G aK) ksK DKe
    have g_what := ok_what (P := l.prog) (w := w) (base := base) (Z := Z) T (PySem.W.mg_of X G aAM) tAM stK hsK feK g_markEq bKe g_name A_is_what
    have g_Was := ok_was (P := l.prog) (w := w) (base := base) T CW g_check g_kind FW
    have g_Old := ok_oldBelow (P := l.prog) (w := w) (base := base) T CO g_check g_int FO
    have g_New := ok_newBelow (P := l.prog) (w := w) (base := base) T CB g_check g_int FB
    have g_Mark := ok_mark (P := l.prog) (w := w) (base := base) (Z := Z) T CK g_check stV hsV feV g_movedEq bVe FK
    have g_Not := ok_not (P := l.prog) (w := w) (base := base) T OZ TK (PySem.W.mg_of X G aTS) CN g_check FN
    have g_Put := ok_put (P := l.prog) (w := w) (base := base) T CP g_check g_name g_what FP
    have g_Add := ok_add (P := l.prog) (w := w) (base := base) T CA g_check g_int g_name g_what stV hsV feV g_movedEq bVe FA
    have g_If := ok_if (P := l.prog) (w := w) (base := base) T OZ TK N0 (PySem.W.mg_of X G aTS) CI g_check g_rows g_rowsK FI
    have g_seq1 := ok_seqK (P := l.prog) (w := w) (base := base) T N1 A_is_sequence
    have g_vec := ok_vectorNo (P := l.prog) (w := w) (base := base) A_is_vector
    have g_grown := ok_grownNo (P := l.prog) (w := w) (base := base) A_grown
    have g_w1 := ok_w1 (P := l.prog) (w := w) (base := base) (Z := Z) T g_int A_is_width
    have g_v1 := ok_v1 (P := l.prog) (w := w) (base := base) T N1 g_seq1 g_vec A_are_vectors
    have g_lat := ok_lat (P := l.prog) (w := w) (base := base) T N1 CL g_w1 g_v1 g_grown FL
    have g_take := ok_take (P := l.prog) (w := w) (base := base) T A_law_take
    have g_box := ok_box (P := l.prog) (w := w) (base := base) T A_law_box
    have g_pick := ok_pick (P := l.prog) (w := w) (base := base) T g_take A_law_pick
    have g_due := ok_dueP (P := l.prog) (w := w) (base := base) T A_law_due
    have g_made := ok_made (P := l.prog) (w := w) (base := base) (d1 := []) T CA MA g_Add bA CI MI g_If bI CP MP g_Put bP CK MK g_Mark bK CW MW g_Was bW CN MN g_Not bN CO MO g_Old bO CB MB g_New bB A_law_made
    have g_arg := ok_arg (P := l.prog) (w := w) (base := base) T CI MI g_If bI1 u3 CP MP g_Put bP CK MK g_Mark bK CW MW g_Was bW CN MN g_Not bN CL ML g_lat bL1 u4 MV (PySem.W.mg_of X G aV) MT (PySem.W.mg_of X G aT) g_take g_pick rfl rfl rfl rfl rfl rfl rfl rfl A_law_argument
    exact ok_law (P := l.prog) (w := w) (base := base) T RK EK CI MI g_If bI1 u3 rfl rfl TBL (by simp [TT]) huL g_box g_arg g_due g_made l_law c_law
end K14

open PySem PySem.W PyProof.Rows in
set_option maxRecDepth 100000 in
set_option maxHeartbeats 0 in
set_option pp.maxSteps 120 in
theorem PySem.Challenge.cw_sumlives_k14_rows_refused_holds : PySem.Challenge.rw_sumlives_k14_rows_refused.Holds := by
  w_on; o_law; k_head; (case hw => w_witness2)
  k_fill
  refine K14.walk_tabs (l := PySem.Challenge.rw_sumlives_k14_rows_refused) (n := 63) (k := 14) (x := "_law_script") (CX := fun _ => L2.CX0) rfl (by decide) rfl ⟨rfl, by decide, by decide⟩ (fun w h Y => PySem.W.km_in_of Y) ?F (fun _ _ _ _ _ z => z.elim)
  case F =>
    intro w mg fa h KX G hmg tabs
    replace hmg : mg "law" = some (.ref fa) := hmg
    refine' K14.facts KX G hmg ?aV ?pgV ?hdV ?poV ?saV ?mkV ?kpV ?iniV ?aK ?pgK ?hdK ?poK ?saK ?mkK ?kpK ?iniK ?fnK ?nK0 ?aN ?pgN ?hdN ?poN ?saN ?mkN ?kpN ?iniN ?fnN ?nN0 ?aW ?pgW ?hdW ?poW ?saW ?mkW ?kpW ?iniW ?fnW ?nW0 ?aP ?pgP ?hdP ?poP ?saP ?mkP ?kpP ?iniP ?fnP ?nP0 ?nP1 ?aI ?pgI ?hdI ?poI ?saI ?mkI ?kpI ?iniI ?fnI ?nI0 ?nI1 ?nI2 ?aT ?pgT ?hdT ?poT ?saT ?mkT ?kpT ?iniT ?aL ?pgL ?hdL ?poL ?saL ?mkL ?kpL ?iniL ?fnL ?nL0 ?nL1 ?aA ?pgA ?hdA ?poA ?saA ?mkA ?kpA ?iniA ?fnA ?nA0 ?nA1 ?nA2 ?nA3 ?aO ?pgO ?hdO ?poO ?saO ?mkO ?kpO ?iniO ?fnO ?nO0 ?aB ?pgB ?hdB ?poB ?saB ?mkB ?kpB ?iniB ?fnB ?nB0 ?cG ?cT ?ocV ?omV ?kV_str ?kV_int ?kV_bool ?kV_list ?kV_tuple ?ocK ?omK ?kK_str ?kK_int ?kK_bool ?kK_list ?kK_tuple ?ocN ?omN ?kN_str ?kN_int ?kN_bool ?kN_list ?kN_tuple ?ocW ?omW ?kW_str ?kW_int ?kW_bool ?kW_list ?kW_tuple ?ocP ?omP ?kP_str ?kP_int ?kP_bool ?kP_list ?kP_tuple ?ocI ?omI ?kI_str ?kI_int ?kI_bool ?kI_list ?kI_tuple ?ocT ?omT ?kT_str ?kT_int ?kT_bool ?kT_list ?kT_tuple ?ocL ?omL ?kL_str ?kL_int ?kL_bool ?kL_list ?kL_tuple ?aRW ?aTS ?kR_NoneType ?kR_bool ?kR_int ?kR_str ?kR_list ?kR_tuple ?kR_V ?kR_K ?kR_N ?kR_W ?kR_P ?kR_I ?kR_T ?kR_L ?kS_NoneType ?kS_bool ?kS_int ?kS_str ?kS_list ?kS_tuple ?kS_V ?kS_K ?kS_N ?kS_W ?kS_P ?kS_I ?kS_T ?kS_L ?stV ?hsV ?feV ?ksV ?stK ?hsK ?feK ?ksK ?aSE ?aIR ?aIT ?aIB ?lIR ?rIR ?saR ?inR ?tiR ?noR ?kIR ?exR ?tyR ?gaR ?ggR ?hdR ?clR ?obR ?tSE ?sSE ?dSE ?mRS ?kRR ?kRT ?kRB ?aAM ?lAM ?aNN ?lNN ?l_Mark_init ?c_Mark_init ?k_Mark_init ?l_Not_init ?c_Not_init ?k_Not_init ?l_Was_init ?c_Was_init ?k_Was_init ?l_Put_init ?c_Put_init ?k_Put_init ?l_If_init ?c_If_init ?k_If_init ?l_Lattice_init ?c_Lattice_init ?k_Lattice_init ?l_Add_init ?c_Add_init ?k_Add_init ?l_OldBelow_init ?c_OldBelow_init ?k_OldBelow_init ?l_NewBelow_init ?c_NewBelow_init ?k_NewBelow_init ?l_Moved_eq ?c_Moved_eq ?k_Moved_eq ?l_Mark_eq ?c_Mark_eq ?k_Mark_eq ?l_InvalidRow_init ?c_InvalidRow_init ?k_InvalidRow_init ?lTI ?lTL ?lt0 ?lt1 ?a_is_integer ?l_is_integer ?c_is_integer ?k_is_integer ?a_is_sequence ?l_is_sequence ?c_is_sequence ?k_is_sequence ?a_is_name ?l_is_name ?c_is_name ?k_is_name ?a_check ?l_check ?c_check ?k_check ?a_is_kind ?l_is_kind ?c_is_kind ?k_is_kind ?a_are_rows ?l_are_rows ?c_are_rows ?k_are_rows ?a_is_what ?l_is_what ?c_is_what ?k_is_what ?a_is_vector ?l_is_vector ?c_is_vector ?k_is_vector ?a_is_width ?l_is_width ?c_is_width ?k_is_width ?a_are_vectors ?l_are_vectors ?c_are_vectors ?k_are_vectors ?a_grown ?l_grown ?c_grown ?k_grown ?a_law_box ?l_law_box ?c_law_box ?k_law_box ?a_law_take ?l_law_take ?c_law_take ?k_law_take ?a_law_pick ?l_law_pick ?c_law_pick ?k_law_pick ?a_law_argument ?l_law_argument ?c_law_argument ?k_law_argument ?a_law_refused ?l_law_refused ?c_law_refused ?k_law_refused ?a_law_due ?l_law_due ?c_law_due ?k_law_due ?a_law_made ?l_law_made ?c_law_made ?k_law_made ?a_law ?l_law ?c_law ?k_law ?lcL ?vtL ?chL ?ntL ?owL ?z_len ?z_abs ?z_int ?z_max ?z_min ?z_range ?z_enumerate ?z_isinstance ?z_repr ?z_zip ?z_sum ?z_all ?z_tuple ?z_list ?z_bool ?z_sorted ?z_dict ?z_str ?z_set
    (case aV => k_is)
    (case pgV => k_is)
    (case hdV => k_is)
    (case poV => k_is)
    (case saV => k_is)
    (case mkV => k_is)
    (case kpV => k_is)
    (case iniV => k_is)
    (case aK => k_is)
    (case pgK => k_is)
    (case hdK => k_is)
    (case poK => k_is)
    (case saK => k_is)
    (case mkK => k_is)
    (case kpK => k_is)
    (case iniK => k_is)
    (case fnK => k_is)
    (case nK0 => k_is)
    (case aN => k_is)
    (case pgN => k_is)
    (case hdN => k_is)
    (case poN => k_is)
    (case saN => k_is)
    (case mkN => k_is)
    (case kpN => k_is)
    (case iniN => k_is)
    (case fnN => k_is)
    (case nN0 => k_is)
    (case aW => k_is)
    (case pgW => k_is)
    (case hdW => k_is)
    (case poW => k_is)
    (case saW => k_is)
    (case mkW => k_is)
    (case kpW => k_is)
    (case iniW => k_is)
    (case fnW => k_is)
    (case nW0 => k_is)
    (case aP => k_is)
    (case pgP => k_is)
    (case hdP => k_is)
    (case poP => k_is)
    (case saP => k_is)
    (case mkP => k_is)
    (case kpP => k_is)
    (case iniP => k_is)
    (case fnP => k_is)
    (case nP0 => k_is)
    (case nP1 => k_is)
    (case aI => k_is)
    (case pgI => k_is)
    (case hdI => k_is)
    (case poI => k_is)
    (case saI => k_is)
    (case mkI => k_is)
    (case kpI => k_is)
    (case iniI => k_is)
    (case fnI => k_is)
    (case nI0 => k_is)
    (case nI1 => k_is)
    (case nI2 => k_is)
    (case aT => k_is)
    (case pgT => k_is)
    (case hdT => k_is)
    (case poT => k_is)
    (case saT => k_is)
    (case mkT => k_is)
    (case kpT => k_is)
    (case iniT => k_is)
    (case aL => k_is)
    (case pgL => k_is)
    (case hdL => k_is)
    (case poL => k_is)
    (case saL => k_is)
    (case mkL => k_is)
    (case kpL => k_is)
    (case iniL => k_is)
    (case fnL => k_is)
    (case nL0 => k_is)
    (case nL1 => k_is)
    (case aA => k_is)
    (case pgA => k_is)
    (case hdA => k_is)
    (case poA => k_is)
    (case saA => k_is)
    (case mkA => k_is)
    (case kpA => k_is)
    (case iniA => k_is)
    (case fnA => k_is)
    (case nA0 => k_is)
    (case nA1 => k_is)
    (case nA2 => k_is)
    (case nA3 => k_is)
    (case aO => k_is)
    (case pgO => k_is)
    (case hdO => k_is)
    (case poO => k_is)
    (case saO => k_is)
    (case mkO => k_is)
    (case kpO => k_is)
    (case iniO => k_is)
    (case fnO => k_is)
    (case nO0 => k_is)
    (case aB => k_is)
    (case pgB => k_is)
    (case hdB => k_is)
    (case poB => k_is)
    (case saB => k_is)
    (case mkB => k_is)
    (case kpB => k_is)
    (case iniB => k_is)
    (case fnB => k_is)
    (case nB0 => k_is)
    (case cG => k_is)
    (case cT => k_is)
    (case ocV => k_is)
    (case omV => k_is)
    (case kV_str => kit_is)
    (case kV_int => kit_is)
    (case kV_bool => kit_is)
    (case kV_list => kit_is)
    (case kV_tuple => kit_is)
    (case ocK => k_is)
    (case omK => k_is)
    (case kK_str => kit_is)
    (case kK_int => kit_is)
    (case kK_bool => kit_is)
    (case kK_list => kit_is)
    (case kK_tuple => kit_is)
    (case ocN => k_is)
    (case omN => k_is)
    (case kN_str => kit_is)
    (case kN_int => kit_is)
    (case kN_bool => kit_is)
    (case kN_list => kit_is)
    (case kN_tuple => kit_is)
    (case ocW => k_is)
    (case omW => k_is)
    (case kW_str => kit_is)
    (case kW_int => kit_is)
    (case kW_bool => kit_is)
    (case kW_list => kit_is)
    (case kW_tuple => kit_is)
    (case ocP => k_is)
    (case omP => k_is)
    (case kP_str => kit_is)
    (case kP_int => kit_is)
    (case kP_bool => kit_is)
    (case kP_list => kit_is)
    (case kP_tuple => kit_is)
    (case ocI => k_is)
    (case omI => k_is)
    (case kI_str => kit_is)
    (case kI_int => kit_is)
    (case kI_bool => kit_is)
    (case kI_list => kit_is)
    (case kI_tuple => kit_is)
    (case ocT => k_is)
    (case omT => k_is)
    (case kT_str => kit_is)
    (case kT_int => kit_is)
    (case kT_bool => kit_is)
    (case kT_list => kit_is)
    (case kT_tuple => kit_is)
    (case ocL => k_is)
    (case omL => k_is)
    (case kL_str => kit_is)
    (case kL_int => kit_is)
    (case kL_bool => kit_is)
    (case kL_list => kit_is)
    (case kL_tuple => kit_is)
    (case aRW => k_is)
    (case aTS => k_is)
    (case kR_NoneType => kit_is)
    (case kR_bool => kit_is)
    (case kR_int => kit_is)
    (case kR_str => kit_is)
    (case kR_list => kit_is)
    (case kR_tuple => kit_is)
    (case kR_V => kit_is)
    (case kR_K => kit_is)
    (case kR_N => kit_is)
    (case kR_W => kit_is)
    (case kR_P => kit_is)
    (case kR_I => kit_is)
    (case kR_T => kit_is)
    (case kR_L => kit_is)
    (case kS_NoneType => kit_is)
    (case kS_bool => kit_is)
    (case kS_int => kit_is)
    (case kS_str => kit_is)
    (case kS_list => kit_is)
    (case kS_tuple => kit_is)
    (case kS_V => kit_is)
    (case kS_K => kit_is)
    (case kS_N => kit_is)
    (case kS_W => kit_is)
    (case kS_P => kit_is)
    (case kS_I => kit_is)
    (case kS_T => kit_is)
    (case kS_L => kit_is)
    (case stV => k_is)
    (case hsV => k_is)
    (case feV => k_is)
    (case ksV => kit_is)
    (case stK => k_is)
    (case hsK => k_is)
    (case feK => k_is)
    (case ksK => kit_is)
    (case aSE => k_is)
    (case aIR => k_is)
    (case aIT => k_is)
    (case aIB => k_is)
    (case lIR => k_is)
    (case rIR => exact (by decide +kernel))
    (case saR => k_is)
    (case inR => k_is)
    (case tiR => k_is)
    (case noR => k_is)
    (case kIR => k_is)
    (case exR => k_is)
    (case tyR => k_is)
    (case gaR => k_is)
    (case ggR => k_is)
    (case hdR => k_is)
    (case clR => k_is)
    (case obR => k_is)
    (case tSE => k_is)
    (case sSE => k_is)
    (case dSE => k_is)
    (case mRS => first | rfl | k_is)
    (case kRR => exact if_pos (beq_self_eq_true _))
    (case kRT => kit_is)
    (case kRB => kit_is)
    (case aAM => k_is)
    (case lAM => k_is)
    (case aNN => k_is)
    (case lNN => k_is)
    (case l_Mark_init => k_is)
    (case c_Mark_init => k_is)
    (case k_Mark_init => k_is)
    (case l_Not_init => k_is)
    (case c_Not_init => k_is)
    (case k_Not_init => k_is)
    (case l_Was_init => k_is)
    (case c_Was_init => k_is)
    (case k_Was_init => k_is)
    (case l_Put_init => k_is)
    (case c_Put_init => k_is)
    (case k_Put_init => k_is)
    (case l_If_init => k_is)
    (case c_If_init => k_is)
    (case k_If_init => k_is)
    (case l_Lattice_init => k_is)
    (case c_Lattice_init => k_is)
    (case k_Lattice_init => k_is)
    (case l_Add_init => k_is)
    (case c_Add_init => k_is)
    (case k_Add_init => k_is)
    (case l_OldBelow_init => k_is)
    (case c_OldBelow_init => k_is)
    (case k_OldBelow_init => k_is)
    (case l_NewBelow_init => k_is)
    (case c_NewBelow_init => k_is)
    (case k_NewBelow_init => k_is)
    (case l_Moved_eq => k_is)
    (case c_Moved_eq => k_is)
    (case k_Moved_eq => k_is)
    (case l_Mark_eq => k_is)
    (case c_Mark_eq => k_is)
    (case k_Mark_eq => k_is)
    (case l_InvalidRow_init => k_is)
    (case c_InvalidRow_init => k_is)
    (case k_InvalidRow_init => k_is)
    (case lTI => k_is)
    (case lTL => k_is)
    (case lt0 => k_is)
    (case lt1 => k_is)
    (case a_is_integer => k_is)
    (case l_is_integer => k_is)
    (case c_is_integer => k_is)
    (case k_is_integer => k_is)
    (case a_is_sequence => k_is)
    (case l_is_sequence => k_is)
    (case c_is_sequence => k_is)
    (case k_is_sequence => k_is)
    (case a_is_name => k_is)
    (case l_is_name => k_is)
    (case c_is_name => k_is)
    (case k_is_name => k_is)
    (case a_check => k_is)
    (case l_check => k_is)
    (case c_check => k_is)
    (case k_check => k_is)
    (case a_is_kind => k_is)
    (case l_is_kind => k_is)
    (case c_is_kind => k_is)
    (case k_is_kind => k_is)
    (case a_are_rows => k_is)
    (case l_are_rows => k_is)
    (case c_are_rows => k_is)
    (case k_are_rows => k_is)
    (case a_is_what => k_is)
    (case l_is_what => k_is)
    (case c_is_what => k_is)
    (case k_is_what => k_is)
    (case a_is_vector => k_is)
    (case l_is_vector => k_is)
    (case c_is_vector => k_is)
    (case k_is_vector => k_is)
    (case a_is_width => k_is)
    (case l_is_width => k_is)
    (case c_is_width => k_is)
    (case k_is_width => k_is)
    (case a_are_vectors => k_is)
    (case l_are_vectors => k_is)
    (case c_are_vectors => k_is)
    (case k_are_vectors => k_is)
    (case a_grown => k_is)
    (case l_grown => k_is)
    (case c_grown => k_is)
    (case k_grown => k_is)
    (case a_law_box => k_is)
    (case l_law_box => k_is)
    (case c_law_box => k_is)
    (case k_law_box => k_is)
    (case a_law_take => k_is)
    (case l_law_take => k_is)
    (case c_law_take => k_is)
    (case k_law_take => k_is)
    (case a_law_pick => k_is)
    (case l_law_pick => k_is)
    (case c_law_pick => k_is)
    (case k_law_pick => k_is)
    (case a_law_argument => k_is)
    (case l_law_argument => k_is)
    (case c_law_argument => k_is)
    (case k_law_argument => k_is)
    (case a_law_refused => k_is)
    (case l_law_refused => k_is)
    (case c_law_refused => k_is)
    (case k_law_refused => k_is)
    (case a_law_due => k_is)
    (case l_law_due => k_is)
    (case c_law_due => k_is)
    (case k_law_due => k_is)
    (case a_law_made => k_is)
    (case l_law_made => k_is)
    (case c_law_made => k_is)
    (case k_law_made => k_is)
    (case a_law => k_is)
    (case l_law => k_is)
    (case c_law => k_is)
    (case k_law => k_is)
    (case lcL => k_is)
    (case vtL => exact rfl)
    (case chL => first | rfl | k_is | decide +kernel)
    (case ntL => first | rfl | k_is | decide +kernel)
    (case owL => exact tabs "law" _ (by rfl) (PySem.W.mg_of KX G (by k_is)))
    (case z_len => k_is)
    (case z_abs => k_is)
    (case z_int => k_is)
    (case z_max => k_is)
    (case z_min => k_is)
    (case z_range => k_is)
    (case z_enumerate => k_is)
    (case z_isinstance => k_is)
    (case z_repr => k_is)
    (case z_zip => k_is)
    (case z_sum => k_is)
    (case z_all => k_is)
    (case z_tuple => k_is)
    (case z_list => k_is)
    (case z_bool => k_is)
    (case z_sorted => k_is)
    (case z_dict => k_is)
    (case z_str => k_is)
    (case z_set => k_is)
