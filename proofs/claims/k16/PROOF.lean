import PyProof.Rows.All
import Wide.All
import OpenK.AllK
import Wide.FinOn
import HandS.ForMost
import HandS.Zip
import HandS.Walk
import HandS.Star
import HandS.Style
import HandS.Gcd
import HandS.WideBits
import HandS.IsInst
import HandS.Defaults
import HandS.RaiseMore
import KE.GoesMore
import HandS.Deep
import HandS.Wide
import HandS.ForExc
import HandS.ExcIs
import HandS.ExcField
import HandS.Lambda
import HandS.ExcInit
import HandS.Text
import HandS.StrMore
import HandS.Strs
import HandS.OwnEq
import HandS.EndOwn
import KE.KNestM
import PySem.Challenge.RW_sumlives_k16_parts_of_books_refused
set_option Elab.async false
set_option maxRecDepth 100000
set_option maxHeartbeats 8000000
namespace L2
open PySem PySem.Spec PyProof.Rows RZ
section
variable {X : Cx}
/-- // by any number but 0 that the model divides itself -/
def CDivZ (i j : Int) : Prop := j ≠ 0 ∧ Builtin.divisionGoesByPylong i j = false
theorem op_fdivZ : OpR X (binaryOp .FloorDiv) (rI CDivZ fun i j => .int (i.fdiv j)) := opI fun _ _ _ _ _ _ _ hc q => floordiv_int hc.1 q (.inl hc.2)
/-- a for over a list or a tuple -/
def iSeq (K : PySem.W.Frag) (t : TE) : TI := fun σ H R => iList K t σ H R ∨ iTup K t σ H R
theorem pi_seq {tg l : Expr} {tl : TE} (h : PE X l tl) : PI X tg l (iSeq X.K tl) := ⟨fun pins s σ H R I q => q.elim ((pi_list h).run pins s σ H R I) ((pi_tup h).run pins s σ H R I)⟩
end
/-! ### enumerate(tuple) -/
def IteT (K : PySem.W.Frag) (a : Addr) : It :=
  ⟨fun i H => ∃ (ys : List V) (y : V), SqT K H a ys ∧ ys[i]? = some y,
   fun i H v H' => ∃ T y, v = .ref T ∧ H T = none ∧ H' = upd H T (.tup [.int (i : Nat), y]) ∧ ∀ ys, SqT K H a ys → ys[i]? = some y,
   fun i H => ∃ ys : List V, SqT K H a ys ∧ ys.length = i⟩
theorem turn_enumT {P : Program} {w : World} {K : PySem.W.Frag} {elts : List Expr} {kk : Nat} {tpos : Pos} (a e it : Addr) (hia : a ≠ it) (hea : a ≠ e) :
    Turn P w K (.Tuple elts kk tpos) (IteT K a) [e, it] e (fun i h => (∃ old, IsEnum h e it ((i : Nat) : Int) old) ∧ h.IsTupleIter it a i ∧ e ≠ it) where
  mem := List.mem_cons_self
  obj := fun i h st b hb => by
    obtain ⟨⟨old, he⟩, ⟨o, ho, _, hd⟩, _⟩ := st
    rcases List.mem_cons.mp hb with z | z
    · rw [z]
      exact ⟨_, he, fun v q => nomatch q⟩
    · rw [List.mem_singleton.mp z]
      exact ⟨o, ho, fun v q => by rw [hd] at q; cases q⟩
  keep := fun i h h' st k => by
    obtain ⟨⟨old, he⟩, hi, hne⟩ := st
    exact ⟨⟨old, k e (by simp) _ he⟩, hi.at fun o q => k it (by simp) o q, hne⟩
  item := by
    intro X hP hw hK hc i pins s σ H E I hf st hg
    subst hP hw hK
    obtain ⟨⟨old, he⟩, hit, hne⟩ := st
    obtain ⟨ys, y, hq, hy⟩ := hg
    obtain ⟨its, rv, p, hz⟩ := I.tuple hq
    obtain ⟨u, hu, ru⟩ := rv.get hy
    have hel : e < s.heap.objs.size := Heap.lt_size he
    have hil : it < s.heap.objs.size := by
      obtain ⟨_, q, _⟩ := id hit
      exact Heap.lt_size q
    have hsz : i < its.toArray.size := by
      rw [List.size_toArray]
      exact (List.getElem?_eq_some_iff.mp hu).1
    refine wpAny_pyNext_enum_itemD (Draws.tuple (A := X.A.in1) (I.ok.hd hc) it a hia its.toArray) he ⟨hit, p⟩ hsz hne (fun z => ?_) fun x h' tk hx ho st' hT hs1 hk => ?_
    · rcases List.mem_cons.mp z with z | z
      · exact hne z
      · exact hea (List.mem_singleton.mp z).symm
    have ex : x = u := by
      have z : its.toArray[i]? = some x := hx
      rw [show its.toArray[i]? = its[i]? by simp, hu] at z
      exact (Option.some.inj z).symm
    subst ex
    refine ⟨_, rfl, wpAny_letOwnedTupleGo_enum (s := { s with heap := h', toks := tk + 1 }) ho fun h'' he' sb => ?_⟩
    have hT2 : h''.get? s.heap.objs.size = some { cls := .type "tuple", data := .seq #[.int i tk, x] } := (sb.2 _ (Nat.ne_of_gt hel)).trans hT
    have new : ObjOk X.prog X.w (upd H s.heap.objs.size (.tup [.int (i : Nat), y])) h'' s.heap.objs.size (.tup [.int (i : Nat), y]) :=
      ⟨by show 2 ≤ sizeLine; decide, [.int i tk, x], .cons ⟨_, rfl⟩ (.cons ru .nil), _, hT2, rfl, _, rfl⟩
    have J : Inv X pins σ (upd H s.heap.objs.size (.tup [.int (i : Nat), y])) { s with heap := h'', toks := tk + 1 } :=
      I.turnedNew (ch := [e, it]) (fun b ob hb q => (sb.2 b fun z => hb (by simp [z])).trans (hk b ob (fun z => hb (by simp [z])) (fun z => hb (by simp [z])) q)) hf (Nat.le_refl _) new
    refine ⟨.ref s.heap.objs.size, _, J, rfl, ⟨_, y, rfl, I.hok.fresh (Nat.le_refl _), rfl, fun l hl => by rw [I.tuple_inj hl hq]; exact hy⟩, ⟨⟨x, ?_⟩, st'.1.at fun o q => (sb.2 it (Ne.symm hne)).trans q, hne⟩, fun b hb => ?_⟩
    · rw [show ((i + 1 : Nat) : Int) = (i : Int) + 1 by omega]
      exact he'
    · have hlt : b < s.heap.objs.size := by
        rcases List.mem_cons.mp hb with z | z
        · rw [z]; exact hel
        · rw [List.mem_singleton.mp z]; exact hil
      rw [upd_ne (Nat.ne_of_lt hlt)]
      exact (hf b hb).1
  done := by
    intro X hP hw hK hc i pins s σ H E I hf st hg
    subst hP hw hK
    obtain ⟨⟨old, he⟩, hit, hne⟩ := st
    obtain ⟨ys, hq, hy⟩ := hg
    obtain ⟨its, rv, p, hz⟩ := I.tuple hq
    obtain ⟨f0, f1, f2, f3, f4, f5⟩ := hf it (by simp)
    have hl := rv.length
    have hn : i = its.toArray.size := by rw [List.size_toArray]; omega
    subst hn
    exact wpAny_pyNext_enum_endD (Draws.tuple (A := X.A.in1) (I.ok.hd hc) it a hia its.toArray) he ⟨hit, p⟩ fun h' eb => ⟨rfl, I.turned (t' := s.toks) (fun b o hb q => eb b o hb q) f0 f1 f3 f4 f5⟩
  self := fun A i s Q E st h => by
    obtain ⟨⟨_, he⟩, _⟩ := st
    exact wpAny_pyIter_enum he h
theorem meets_enum_tup (t : Addr) (items : Array Value) : Meets (Builtin.«enumerate.__new__» ⟨[.type "enumerate", .ref t], []⟩) (fun _ R s => s.heap.IsTuple t items ∧
    R (.ok (.ret (.ref (s.heap.objs.size + 1)))) { s with heap := (s.heap.push { cls := .type "tuple_iterator", data := .fields #[.ref t, .int 0 0] }).push { cls := .type "enumerate", data := .fields #[.none, .bool false, .ref s.heap.objs.size, rawInt 0, .none, .none] } }) :=
  .of_wp fun prog w A R s h => by
    obtain ⟨hp, g, d, tk, os⟩ := s
    obtain ⟨ht, h⟩ := h
    have hsub := sub_enumerate
    have e1 : (hp.push { cls := .type "tuple_iterator", data := .fields #[.ref t, .int 0 0] }).objs.size = hp.objs.size + 1 := Heap.size_push ..
    have q1 : ∀ {A' : Around} {E : Value → Shared → Prop} {Q : Value → Shared → Prop}, Q (.ref hp.objs.size) ⟨hp.push { cls := .type "tuple_iterator", data := .fields #[.ref t, .int 0 0] }, g, d, tk, os⟩ →
        wpAny (model prog w) A' (pyIter (.ref t)) Q E ⟨hp, g, d, tk, os⟩ := fun q => wpAny_pyIter_tuple ht q
    wp_walk using q1
    refine wpAny_stack_any fun st => wpAny_pure ?_
    split
    · rename_i c _ _ _ _ _
      cases (c == Value.type "enumerate") <;> (wp_walk using q1; rw [e1]; exact ⟨_, rfl, h⟩)
    · wp_walk using q1
      rw [e1]; exact ⟨_, rfl, h⟩
theorem call_enum_tup {prog : Program} {w : World} {A : Around} {E : Value → Shared → Prop} {s : Shared} {t : Addr} {items : Array Value} {Q : Value → Shared → Prop} (ht : s.heap.IsTuple t items)
    (h : ∀ h', IsEnum h' (s.heap.objs.size + 1) s.heap.objs.size 0 .none → h'.IsTupleIter s.heap.objs.size t 0 → (∀ b o, s.heap.get? b = some o → h'.get? b = some o) → Q (.ref (s.heap.objs.size + 1)) { s with heap := h' }) :
    wpAny (model prog w) A (call (.type "enumerate") [.ref t]) Q E s := by
  refine callType_new F.called_enumerate (by decide) (F.typeCall_enumerate_1 _) (F.newCall_enumerate_1 _) (fun obj => F.args_object_init_2 obj _) F.entry_enumerate_new (meets_enum_tup t items) ⟨ht, ?_⟩
  have he : IsEnum ((s.heap.push { cls := .type "tuple_iterator", data := .fields #[.ref t, .int 0 0] }).push { cls := .type "enumerate", data := .fields #[.none, .bool false, .ref s.heap.objs.size, rawInt 0, .none, .none] }) (s.heap.objs.size + 1) s.heap.objs.size 0 .none := by
    heap_get
  exact ⟨⟨_, he, rfl⟩, h _ he ⟨_, Heap.get?_push_of_some _ (Heap.get?_push_size _ rfl), rfl, rfl⟩ fun b o x => Heap.get?_push_of_some _ (Heap.get?_push_of_some _ x)⟩
def iEnumT (K : PySem.W.Frag) (ta : TA) : TI := fun σ H R => ta σ H fun vs H1 => ∃ a ys, vs = [.ref a] ∧ SqT K H1 a ys ∧ R (IteT K a) H1
theorem pi_enumT {X : Cx} {e : Expr} {ta : TA} {p pos tpos : Pos} {elts : List Expr} {kk : Nat} (hg : Gl X "enumerate") (hm : X.mg "enumerate" = none) (ha : PA X [e] ta) (hs : starEach [e] X.env = [(false, eval e X.env)] := by rfl) :
    PI X (.Tuple elts kk tpos) (.Call (.Name "enumerate" p) [e] [] pos) (iEnumT X.K ta) := by
  refine ⟨fun pins s σ H R I h => Call_ (ld_blt I hg hm boot_enumerate (PyProof.Rows.callWith_type1 (thn (ha.run pos pins s σ H _ I h) fun us s1 z => ?_) hs rfl))⟩
  obtain ⟨vs, H1, I1, r1, a, ys, ex, hq, q⟩ := z
  subst ex
  match us, r1 with
  | [u], .cons r .nil =>
    obtain rfl : u = Value.ref a := r
    obtain ⟨its, rv, pt, hz⟩ := I1.tuple hq
    have la : a < s1.heap.objs.size := by
      obtain ⟨o, ho, _⟩ := id pt
      exact Heap.lt_size ho
    refine call_enum_tup (items := its.toArray) pt fun h' he hit hk => wpAny_pyIter_enum he ?_
    have I2 : Inv X pins σ H1 { s1 with heap := h' } := I1.kept (t' := s1.toks) hk
    refine ⟨s1.heap.objs.size + 1, [s1.heap.objs.size + 1, s1.heap.objs.size], _, _, H1, rfl, I2, turn_enumT a (s1.heap.objs.size + 1) s1.heap.objs.size (Nat.ne_of_lt la) (Nat.ne_of_lt (Nat.lt_succ_of_lt la)), ⟨⟨.none, he⟩, hit, Nat.succ_ne_self _⟩, fun b hb => ?_, q⟩
    have hle : s1.heap.objs.size ≤ b := by
      rcases List.mem_cons.mp hb with z | z
      · rw [z]; exact Nat.le_succ _
      · rw [List.mem_singleton.mp z]; exact Nat.le_refl _
    exact I1.fpOk hle (I1.hok.fresh hle)
theorem walk_enumT {K : PySem.W.Frag} {a : Addr} {ys : List V} : Walk (IteT K a) ys.length (fun H => SqT K H a ys) (YPair (fun i => some (.int (i : Nat))) (fun i => ys[i]?)) := by
  refine ⟨fun i H hi h => ⟨ys, ys[i], h, List.getElem?_eq_getElem hi⟩, fun H h => ⟨ys, h, rfl⟩, fun i H x H' hi h y => ?_⟩
  obtain ⟨T, z, e1, e2, e3, e4⟩ := y
  exact ⟨T, _, z, e1, e2, e3, rfl, e4 ys h⟩
theorem walk_zipT {K : PySem.W.Frag} {a b : Addr} {xs ys : List V} {n : Nat} (hn : n = min xs.length ys.length) : Walk (ItzT K a b) n (fun H => SqT K H a xs ∧ SqT K H b ys) (YPair (fun i => xs[i]?) (fun i => ys[i]?)) := by
  refine ⟨fun i H hi h => ⟨xs, ys, xs[i]'(by omega), ys[i]'(by omega), h.1, h.2, List.getElem?_eq_getElem _, List.getElem?_eq_getElem _⟩, fun H h => ⟨xs, ys, h.1, h.2, by omega⟩, fun i H x H' hi h y => ?_⟩
  obtain ⟨T, z, z2, e1, e2, e3, e4, e5⟩ := y
  exact ⟨T, z, z2, e1, e2, e3, e4 xs h.1, e5 ys h.2⟩
end L2

namespace L2
open PySem PySem.Spec PyProof.Rows
/-! ### a def that a def calls, by its name -/
def Has (P : Program) (w : World) (K : PySem.W.Frag) (mg : Str → Option Value) (base : Heap) (k : Nat) (nm : Str) (ps : List Str) (sp : Sp) : Prop :=
  ∃ (f : Addr) (fd : FuncData), FnOk P w K mg base CX0 k f fd ps sp ∧ mg nm = some (.ref f) ∧ PySem.W.keepIn K (.ref f) = true ∧ Binds K fd ps []
theorem pe_callHas {X : Cx} {k : Nat} {x : Str} {ps : List Str} {sp : Sp} {p pos : Pos} {e : Expr} {es : List Expr} {t : TA} (G : Has X.prog X.w X.K X.mg X.base k x ps sp) (hr : Room k X.A) (hg : Gl X x) (ha : PA X (e :: es) t)
    (hdb : (x == ("__debug__" : Str)) = false := by decide) (he : starEach (e :: es) X.env = (false, eval e X.env) :: starEach es X.env := by rfl) (hpl : (backTo pos (starEach es X.env)).any (·.1) = false := by rfl) :
    PE X (.Call (.Name x p) (e :: es) [] pos) (tCall sp [] E0 t) := by
  obtain ⟨f, fd, F, m, kp, b⟩ := G
  exact pe_call F hr hg m kp b .nil pass0 ha hdb he hpl
/-- where a def of the text stands behind the top -/
def DefAt (K : PySem.W.Frag) (mg : Str → Option Value) (nm : Str) (st : Stmt) (ps : List Str) : Prop :=
  ∃ (f : Addr) (fd : FuncData), Fun K nm nm st f fd ∧ mg nm = some (.ref f) ∧ Binds K fd ps []
theorem DefAt.has {P : Program} {w : World} {K : PySem.W.Frag} {mg : Str → Option Value} {base : Heap} {k : Nat} {nm : Str} {st : Stmt} {N ps : List Str} {sp : Sp} (F : DefAt K mg nm st ps) (S : FnScope N ps (defScope st)) (len : ∀ vs H Q E, sp vs H Q E → vs.length = ps.length)
    (hbody : ∀ (f : Addr) (cdv : Value) (A : Around) (outer : List Env) (s : Shared) (H : Hp) (vs : List V) (Q : VK) (E : XK), Room k (A.deeper (envOfC nm (defScope st) s.heap.objs.size f cdv)) → sp vs H Q E →
      ∃ t, PSs (cxOf CX0 P w K mg base N nm (defScope st) f cdv A outer s H E).nox (defBody st) t ∧ t { nx := fun _ H' => Q .non H', rt := Q } (start N vs) H) : Has P w K mg base (k + 1) nm ps sp := by
  obtain ⟨f, fd, F, m, b⟩ := F
  exact ⟨f, fd, F.ok S len (hbody f), m, F.kp, b⟩
end L2

set_option pp.maxSteps 600
namespace K14
open PySem L2 PySem.Spec PyProof.Rows
/-! ## the ground of the laws over rows and books -/
structure Txt (mg : Str → Option Value) : Prop where
  z_len : mg "len" = none
  z_abs : mg "abs" = none
  z_int : mg "int" = none
  z_max : mg "max" = none
  z_min : mg "min" = none
  z_range : mg "range" = none
  z_enumerate : mg "enumerate" = none
  z_isinstance : mg "isinstance" = none
  z_repr : mg "repr" = none
  z_zip : mg "zip" = none
  z_sum : mg "sum" = none
  z_all : mg "all" = none
  z_tuple : mg "tuple" = none
  z_list : mg "list" = none
  z_bool : mg "bool" = none
  z_sorted : mg "sorted" = none
  z_dict : mg "dict" = none
  z_str : mg "str" = none
  z_set : mg "set" = none
theorem new_at {H : Hp} {p : Addr} {o : HO} (h : H p = none) : Same H (upd H p o) ∧ upd H p o p = some o :=
  ⟨fun b u z => by rw [upd_ne (ne_of_none z h)]; exact z, upd_same⟩
theorem iteSe {b : Bool} {A B : Prop} (h : b = true) (k : A) : if b = true then A else B := by rw [if_pos h]; exact k
theorem iteSf {b : Bool} {A B : Prop} (h : b = false) (k : B) : if b = true then A else B := by rw [h, if_neg (by decide)]; exact k
theorem ne_of {H : Hp} {a b : Addr} {o u : HO} (ha : H a = some o) (hb : H b = some u) (d : o ≠ u) : a ≠ b := fun e => by
  rw [e, hb] at ha
  exact d (Option.some.inj ha).symm
/-! ### what is kept: all but the box at b and the tables of code objects -/
def Kp (b : Addr) (H H' : Hp) : Prop := ∀ a o, a ≠ b → H a = some o → (∀ ps, o ≠ .tbl ps) → H' a = some o
theorem Kp.refl (b : Addr) (H : Hp) : Kp b H H := fun _ _ _ h _ => h
theorem Kp.trans {b : Addr} {H H1 H2 : Hp} (s : Kp b H H1) (t : Kp b H1 H2) : Kp b H H2 := fun a o n h z => t a o n (s a o n h z) z
theorem Kp.of {b : Addr} {H H' : Hp} (s : Same H H') : Kp b H H' := fun a o _ h _ => s a o h
theorem Kp.upd' {b : Addr} {H : Hp} {o : HO} : Kp b H (upd H b o) := fun a u n h _ => by rw [upd_ne n]; exact h
/-! ### values, two deep, with instances of own classes among them (their classes: Z 0, Z 1, ..) -/
inductive Atom where
  | non
  | bl (b : Bool)
  | int (i : Int)
  | str (s : Str)
  | obj (k : Nat)
inductive D1 where
  | a (x : Atom)
  | s (isT : Bool) (xs : List Atom)
inductive D2 where
  | a (x : Atom)
  | s (isT : Bool) (xs : List D1)
def D1.up : D1 → D2
  | .a x => .a x
  | .s t xs => .s t (xs.map .a)
def seqO (isT : Bool) (xs : List V) : HO := if isT then .tup xs else .lst xs
theorem seqO_tbl {t : Bool} {xs : List V} (ps : Array Value) : seqO t xs ≠ .tbl ps := by cases t <;> exact fun z => nomatch z
def Rel0 (Z : Nat → Addr) (b : Addr) (H : Hp) (v : V) : Atom → Prop
  | .non => v = .non
  | .bl c => v = .bl c
  | .int i => v = .int i
  | .str s => v = .str s
  | .obj k => ∃ (a dx : Addr) (fs : List (Str × V)), v = .ref a ∧ a ≠ b ∧ H a = some (.ins (Z k) dx fs)
def Rel1 (Z : Nat → Addr) (b : Addr) (H : Hp) (v : V) : D1 → Prop
  | .a x => Rel0 Z b H v x
  | .s t xs => ∃ p as, v = .ref p ∧ p ≠ b ∧ H p = some (seqO t as) ∧ Paired (Rel0 Z b H) as xs
def Rel2 (Z : Nat → Addr) (b : Addr) (H : Hp) (v : V) : D2 → Prop
  | .a x => Rel0 Z b H v x
  | .s t xs => ∃ p as, v = .ref p ∧ p ≠ b ∧ H p = some (seqO t as) ∧ Paired (Rel1 Z b H) as xs
theorem _root_.PySem.Paired.mapP' {α β : Type} {R S : α → β → Prop} {as : List α} {bs : List β} (h : Paired R as bs) (f : ∀ a b, R a b → S a b) : Paired S as bs := by
  induction h with
  | nil => exact .nil
  | cons r _ ih => exact .cons (f _ _ r) ih
theorem _root_.PySem.Paired.mapR {α β γ : Type} {R : α → β → Prop} {S : α → γ → Prop} {g : β → γ} {as : List α} {bs : List β} (h : Paired R as bs) (f : ∀ a b, R a b → S a (g b)) : Paired S as (bs.map g) := by
  induction h with
  | nil => exact .nil
  | cons r _ ih => exact .cons (f _ _ r) ih
theorem _root_.PySem.Paired.app {α β : Type} {R : α → β → Prop} {as cs : List α} {bs ds : List β} (h : Paired R as bs) (g : Paired R cs ds) : Paired R (as ++ cs) (bs ++ ds) := by
  induction h with
  | nil => exact g
  | cons r _ ih => exact .cons r ih
theorem _root_.PySem.Paired.at' {α β : Type} {R : α → β → Prop} {as : List α} {bs : List β} (h : Paired R as bs) {i : Nat} {a : α} (e : as[i]? = some a) : ∃ b, bs[i]? = some b ∧ R a b := by
  induction h generalizing i with
  | nil => simp at e
  | cons r _ ih =>
    cases i with
    | zero => simp only [List.getElem?_cons_zero, Option.some.injEq] at e; subst e; exact ⟨_, rfl, r⟩
    | succ i => simp only [List.getElem?_cons_succ] at e ⊢; exact ih e
theorem _root_.PySem.Paired.len {α β : Type} {R : α → β → Prop} {as : List α} {bs : List β} (h : Paired R as bs) : as.length = bs.length := by
  induction h with
  | nil => rfl
  | cons _ _ ih => rw [List.length_cons, List.length_cons, ih]
section
variable {Z : Nat → Addr} {b : Addr} {H H' : Hp} {v : V}
theorem Rel0.kp {x : Atom} (s : Kp b H H') (h : Rel0 Z b H v x) : Rel0 Z b H' v x := by
  cases x with
  | obj k => obtain ⟨a, dx, fs, e, n, q⟩ := h; exact ⟨a, dx, fs, e, n, s _ _ n q fun ps z => nomatch z⟩
  | _ => exact h
theorem Rel1.kp {d : D1} (s : Kp b H H') (h : Rel1 Z b H v d) : Rel1 Z b H' v d := by
  cases d with
  | a x => exact Rel0.kp s h
  | s t xs => obtain ⟨p, as, e, n, q, r⟩ := h; exact ⟨p, as, e, n, s _ _ n q seqO_tbl, r.mapP' fun _ _ z => z.kp s⟩
theorem Rel2.kp {d : D2} (s : Kp b H H') (h : Rel2 Z b H v d) : Rel2 Z b H' v d := by
  cases d with
  | a x => exact Rel0.kp s h
  | s t xs => obtain ⟨p, as, e, n, q, r⟩ := h; exact ⟨p, as, e, n, s _ _ n q seqO_tbl, r.mapP' fun _ _ z => z.kp s⟩
theorem Rel1.up {d : D1} (h : Rel1 Z b H v d) : Rel2 Z b H v d.up := by
  cases d with
  | a x => exact h
  | s t xs => obtain ⟨p, as, e, n, q, r⟩ := h; exact ⟨p, as, e, n, q, r.mapR fun _ _ z => z⟩
end
/-! ### values that are written down -/
def G0 (Z : Nat → Addr) (b : Addr) (te : TE) (x : Atom) : Prop := ∀ σ H Q, H b ≠ none → (∀ H' v, Same H H' → Rel0 Z b H' v x → Q v H') → te σ H Q
def GA (Z : Nat → Addr) (b : Addr) (ta : TA) (xs : List Atom) : Prop := ∀ σ H Q, H b ≠ none → (∀ H' vs, Same H H' → Paired (Rel0 Z b H') vs xs → Q vs H') → ta σ H Q
def G1 (Z : Nat → Addr) (b : Addr) (te : TE) (d : D1) : Prop := ∀ σ H Q, H b ≠ none → (∀ H' v, Same H H' → Rel1 Z b H' v d → Q v H') → te σ H Q
def GA1 (Z : Nat → Addr) (b : Addr) (ta : TA) (ds : List D1) : Prop := ∀ σ H Q, H b ≠ none → (∀ H' vs, Same H H' → Paired (Rel1 Z b H') vs ds → Q vs H') → ta σ H Q
def G2 (Z : Nat → Addr) (b : Addr) (te : TE) (d : D2) : Prop := ∀ σ H Q, H b ≠ none → (∀ H' v, Same H H' → Rel2 Z b H' v d → Q v H') → te σ H Q
def GA2 (Z : Nat → Addr) (b : Addr) (ta : TA) (ds : List D2) : Prop := ∀ σ H Q, H b ≠ none → (∀ H' vs, Same H H' → Paired (Rel2 Z b H') vs ds → Q vs H') → ta σ H Q
section
variable {Z : Nat → Addr} {b : Addr}
theorem some_keep {H H' : Hp} (s : Same H H') (h : H b ≠ none) : H' b ≠ none := fun e => by
  cases q : H b with
  | none => exact h q
  | some o => rw [s _ _ q] at e; cases e
theorem new_ne {H : Hp} {p : Addr} (h : H b ≠ none) (hp : H p = none) : p ≠ b := fun e => h (e ▸ hp)
theorem g_int (i : Int) : G0 Z b (tC (.int i)) (.int i) := fun _ H _ _ q => q H _ (Same.refl H) rfl
theorem g_bl (c : Bool) : G0 Z b (tC (.bl c)) (.bl c) := fun _ H _ _ q => q H _ (Same.refl H) rfl
theorem g_non : G0 Z b (tC .non) .non := fun _ H _ _ q => q H _ (Same.refl H) rfl
theorem g_str (s : Str) : G0 Z b (tC (.str s)) (.str s) := fun _ H _ _ q => q H _ (Same.refl H) rfl
theorem g_neg (i : Int) : G0 Z b (tUn (rU fun i => .int (-i)) (tC (.int i))) (.int (-i)) := fun _ H _ _ q => ⟨i, rfl, q H _ (Same.refl H) rfl⟩
theorem ga_nil : GA Z b tNil [] := fun _ H _ _ q => q H [] (Same.refl H) .nil
theorem ga_cons {te : TE} {ta : TA} {x : Atom} {xs : List Atom} (h : G0 Z b te x) (t : GA Z b ta xs) : GA Z b (tCons te ta) (x :: xs) := fun σ H Q n q => h σ H _ n fun H1 v s1 r1 => t σ H1 _ (some_keep s1 n) fun H2 vs s2 r2 => q H2 (v :: vs) (s1.trans s2) (.cons (r1.kp (Kp.of s2)) r2)
theorem g1_a {te : TE} {x : Atom} (h : G0 Z b te x) : G1 Z b te (.a x) := fun σ H Q n q => h σ H _ n fun H' v s r => q H' v s r
theorem le_line {n : Nat} (h : n ≤ 1000) : n ≤ sizeLine := Nat.le_trans h (by decide)
theorem g1_tup {ta : TA} {xs : List Atom} (h : GA Z b ta xs) (l : xs.length ≤ 1000) : G1 Z b (tTup ta) (.s true xs) := fun σ H Q n q => h σ H _ n fun H1 vs s1 r1 => ⟨by rw [r1.len]; exact le_line l, fun p hp => q _ _ (s1.trans (new_at hp).1) ⟨p, vs, rfl, new_ne (some_keep s1 n) hp, (new_at hp).2, r1.mapP' fun _ _ z => z.kp (Kp.of (new_at hp).1)⟩⟩
theorem g1_lst {ta : TA} {xs : List Atom} (h : GA Z b ta xs) (l : xs.length ≤ 1000) : G1 Z b (tLst ta) (.s false xs) := fun σ H Q n q => h σ H _ n fun H1 vs s1 r1 => ⟨by rw [r1.len]; exact le_line l, fun p hp => q _ _ (s1.trans (new_at hp).1) ⟨p, vs, rfl, new_ne (some_keep s1 n) hp, (new_at hp).2, r1.mapP' fun _ _ z => z.kp (Kp.of (new_at hp).1)⟩⟩
theorem ga1_nil : GA1 Z b tNil [] := fun _ H _ _ q => q H [] (Same.refl H) .nil
theorem ga1_cons {te : TE} {ta : TA} {d : D1} {ds : List D1} (h : G1 Z b te d) (t : GA1 Z b ta ds) : GA1 Z b (tCons te ta) (d :: ds) := fun σ H Q n q => h σ H _ n fun H1 v s1 r1 => t σ H1 _ (some_keep s1 n) fun H2 vs s2 r2 => q H2 (v :: vs) (s1.trans s2) (.cons (r1.kp (Kp.of s2)) r2)
theorem g2_a {te : TE} {x : Atom} (h : G0 Z b te x) : G2 Z b te (.a x) := fun σ H Q n q => h σ H _ n fun H' v s r => q H' v s r
theorem g2_tup {ta : TA} {ds : List D1} (h : GA1 Z b ta ds) (l : ds.length ≤ 1000) : G2 Z b (tTup ta) (.s true ds) := fun σ H Q n q => h σ H _ n fun H1 vs s1 r1 => ⟨by rw [r1.len]; exact le_line l, fun p hp => q _ _ (s1.trans (new_at hp).1) ⟨p, vs, rfl, new_ne (some_keep s1 n) hp, (new_at hp).2, r1.mapP' fun _ _ z => z.kp (Kp.of (new_at hp).1)⟩⟩
theorem g2_lst {ta : TA} {ds : List D1} (h : GA1 Z b ta ds) (l : ds.length ≤ 1000) : G2 Z b (tLst ta) (.s false ds) := fun σ H Q n q => h σ H _ n fun H1 vs s1 r1 => ⟨by rw [r1.len]; exact le_line l, fun p hp => q _ _ (s1.trans (new_at hp).1) ⟨p, vs, rfl, new_ne (some_keep s1 n) hp, (new_at hp).2, r1.mapP' fun _ _ z => z.kp (Kp.of (new_at hp).1)⟩⟩
theorem ga2_nil : GA2 Z b tNil [] := fun _ H _ _ q => q H [] (Same.refl H) .nil
theorem ga2_cons {te : TE} {ta : TA} {d : D2} {ds : List D2} (h : G2 Z b te d) (t : GA2 Z b ta ds) : GA2 Z b (tCons te ta) (d :: ds) := fun σ H Q n q => h σ H _ n fun H1 v s1 r1 => t σ H1 _ (some_keep s1 n) fun H2 vs s2 r2 => q H2 (v :: vs) (s1.trans s2) (.cons (r1.kp (Kp.of s2)) r2)
theorem l_lst1 {ta : TA} {ds : List D1} (h : GA1 Z b ta ds) (l : ds.length ≤ 1000) {σ : L2.St} {H : Hp} {Q : VK} (n : H b ≠ none) (q : ∀ (H' : Hp) (p : Addr) (as : List V), Same H H' → p ≠ b → H' p = some (.lst as) → Paired (Rel1 Z b H') as ds → Q (.ref p) H') : tLst ta σ H Q := h σ H _ n fun H1 vs s1 r1 => ⟨by rw [r1.len]; exact le_line l, fun p hp => q _ p vs (s1.trans (new_at hp).1) (new_ne (some_keep s1 n) hp) (new_at hp).2 (r1.mapP' fun _ _ z => z.kp (Kp.of (new_at hp).1))⟩
theorem l_lst2 {ta : TA} {ds : List D2} (h : GA2 Z b ta ds) (l : ds.length ≤ 1000) {σ : L2.St} {H : Hp} {Q : VK} (n : H b ≠ none) (q : ∀ (H' : Hp) (p : Addr) (as : List V), Same H H' → p ≠ b → H' p = some (.lst as) → Paired (Rel2 Z b H') as ds → Q (.ref p) H') : tLst ta σ H Q := h σ H _ n fun H1 vs s1 r1 => ⟨by rw [r1.len]; exact le_line l, fun p hp => q _ p vs (s1.trans (new_at hp).1) (new_ne (some_keep s1 n) hp) (new_at hp).2 (r1.mapP' fun _ _ z => z.kp (Kp.of (new_at hp).1))⟩
end
end K14

namespace K14
open PySem L2 PySem.Spec PyProof.Rows
def top (i : Nat) : Stmt := PySem.Challenge.pw_sumlives_k16_parts_of_books_refused.main.body.getD i (.Pass ⟨0, 0, 0, 0⟩)
theorem two_at (c : Int) (b : Prop) [Decidable b] : ∃ v, atI [V.int 0, V.int c] (if decide b = true then 1 else 0) = some (V.int v) := by
  by_cases h : b
  · exact ⟨c, by rw [decide_eq_true h]; rfl⟩
  · exact ⟨0, by rw [decide_eq_false h]; rfl⟩
/-- a box: three ints -/
def Box (H : Hp) (b : Addr) : Prop := ∃ x y z : Int, H b = some (.lst [.int x, .int y, .int z])
section
variable {P : Program} {w : World} {K : PySem.W.Frag} {mg : Str → Option Value} {base : Heap}
abbrev s_law_take : Stmt := top 28
abbrev n_law_take : List Str := ["_law_box_here", "_law_many", "_law_digit", "_law_raw", "_law_wide"]
theorem sc_law_take : FnScope n_law_take ["_law_box_here", "_law_many"] (defScope s_law_take) := ⟨rfl, rfl, rfl, by decide +kernel, rfl, by decide +kernel, by decide +kernel⟩
def spTake : Sp := fun vs H Q _ => ∃ (b : Addr) (n : Int), vs = [.ref b, .int n] ∧ Box H b ∧ 0 < n ∧ n < 10000000000 ∧ ∀ (d x y z : Int), 0 ≤ d → d < n → Q (.int d) (upd H b (.lst [.int x, .int y, .int z]))
theorem ok_take (T : Txt mg) (F : DefAt K mg "_law_take" s_law_take ["_law_box_here", "_law_many"]) : Has P w K mg base 1 "_law_take" ["_law_box_here", "_law_many"] spTake := by
  refine F.has sc_law_take (fun vs H Q E h => ?_) (fun f cdv A outer s H vs Q E hr h => ?_)
  · obtain ⟨b, n, rfl, _⟩ := h
    rfl
  · obtain ⟨b, n, rfl, ⟨x, y, z, hb⟩, n0, n1, k⟩ := h
    refine ⟨_, (pss_cons (ps_if (pt_cmpR op_gt (pe_ix ix_list (pv 0) pe_int (fun _ _ => rfl)) pe_int (nomark _)) (pss_cons (ps_set (i := 2) sc_law_take.nd rfl (Or.inl rfl) (pe_op op_mod (pe_callTy call_int1 (by rfl) T.z_int (by decide +kernel) (pa_cons (pe_ix ix_list (pv 0) pe_int (fun _ _ => rfl)) pa_nil)) (pv 1)))
      (pss_cons (ps_asg (pe_op op_fdivW (pe_ix ix_list (pv 0) pe_int (fun _ _ => rfl)) (pv 1)) (pg_sub (pv 0) pe_int set_list))
      (pss_one (ps_ret (pv 2))))) pss_nil)
      (pss_cons (ps_asg (pe_op op_add (pe_ix ix_list (pv 0) pe_int (fun _ _ => rfl)) pe_int) (pg_sub (pv 0) pe_int set_list))
      (pss_cons (ps_set (i := 3) sc_law_take.nd rfl (Or.inl rfl) (pe_op op_mod (pe_callTy call_int1 (by rfl) T.z_int (by decide +kernel) (pa_cons (pe_op op_mul (pe_op op_add (pe_ix ix_list (pv 0) pe_int (fun _ _ => rfl)) (pe_op op_mul pe_int (pe_ix ix_list (pv 0) pe_int (fun _ _ => rfl)))) pe_int) pa_nil)) pe_int))
      (pss_cons (ps_asg (pe_op op_add (pe_op op_mod (pe_callTy call_int1 (by rfl) T.z_int (by decide +kernel) (pa_cons (pe_op op_add (pe_op op_mul (pv 3) pe_int) pe_int) pa_nil)) pe_int) pe_int) (pg_sub (pv 0) pe_int set_list))
      (pss_cons (ps_if (pt_cmpR op_lt (pv 1) (pe_op op_pow pe_int pe_int) (nomark _)) (pss_one (ps_ret (pe_op op_mod (pe_callTy call_int1 (by rfl) T.z_int (by decide +kernel) (pa_cons (pe_op op_fdiv (pe_op op_add (pe_op op_mul (pv 3) pe_int) (pe_ix ix_list (pv 0) pe_int (fun _ _ => rfl))) pe_int) pa_nil)) (pv 1)))) pss_nil)
      (pss_cons (ps_set (i := 4) sc_law_take.nd rfl (Or.inl rfl) (pe_op op_mul (pe_op op_add (pe_op op_mul (pv 3) pe_int) (pe_ix ix_list (pv 0) pe_int (fun _ _ => rfl))) (pe_op op_pow pe_int pe_int)))
      (pss_one (ps_ret (pe_op op_mod (pe_callTy call_int1 (by rfl) T.z_int (by decide +kernel) (pa_cons (pe_op op_add (pe_op op_add (pv 4) (pe_op op_mul (pe_op op_pow (pe_ix ix_list (pv 0) pe_int (fun _ _ => rfl)) pe_int) pe_int)) (pv 3)) pa_nil)) (pv 1)))))))))), ?_⟩
    -- if box[0] > 0: the digit; else the next number
    refine ⟨_, rfl, b, _, _, _, rfl, rfl, SqL.of hb, rfl, _, _, rfl, rfl, _, rfl, ite2 (fun _ => ?_) (fun _ => ?_)⟩
    · refine ⟨_, rfl, b, _, _, _, rfl, rfl, SqL.of hb, rfl, .inl ⟨_, rfl, _, rfl, _, _, rfl, rfl, n0, ?_⟩⟩
      refine ⟨_, rfl, b, _, _, _, rfl, rfl, SqL.of hb, rfl, _, rfl, _, _, rfl, rfl, wide_div n0 (show n.natAbs < 2 ^ 40 by omega) (by decide) (by decide), _, rfl, b, _, _, _, rfl, rfl, hb, rfl, _, rfl, ?_⟩
      exact k _ _ _ _ (Int.emod_nonneg _ (by omega)) (Int.emod_lt_of_pos _ n0)
    · refine ⟨_, rfl, b, _, _, _, rfl, rfl, SqL.of hb, rfl, _, _, rfl, rfl, _, rfl, b, _, _, _, rfl, rfl, hb, rfl, ?_⟩
      have h1 : upd H b (.lst [.int x, .int y, .int (z + 1)]) b = some (.lst [.int x, .int y, .int (z + 1)]) := upd_same
      refine ⟨_, rfl, b, _, _, _, rfl, rfl, SqL.of h1, rfl, _, rfl, b, _, _, _, rfl, rfl, SqL.of h1, rfl, _, _, rfl, rfl, .inl ⟨by decide, by decide⟩, _, _, rfl, rfl, _, _, rfl, rfl, .inr ⟨by decide, by decide⟩, .inl ⟨_, rfl, _, _, rfl, rfl, (by show (0 : Int) < 2147483647; decide), ?_⟩⟩
      generalize (y + 104729 * (z + 1)) * 69623 % 2147483647 = r
      refine ⟨_, rfl, _, _, rfl, rfl, .inr ⟨by decide, by decide⟩, _, _, rfl, rfl, .inl ⟨_, rfl, _, _, rfl, rfl, (by show (0 : Int) < 2147483629; decide), _, _, rfl, rfl, _, rfl, b, _, _, _, rfl, rfl, h1, rfl, ?_⟩⟩
      rw [upd_upd]
      refine ⟨_, rfl, _, _, rfl, rfl, ⟨by decide, by decide, by decide⟩, _, _, rfl, rfl, _, rfl, ?_⟩
      have e : decide (n < 2 ^ (40 : Int).toNat) = true := decide_eq_true (by
        have q : (2 : Int) ^ (40 : Int).toNat = 1099511627776 := by decide +kernel
        omega)
      rw [e]
      refine iteT ⟨_, rfl, _, _, rfl, rfl, .inr ⟨by decide, by decide⟩, _, rfl, b, _, _, _, rfl, rfl, SqL.of upd_same, rfl, _, _, rfl, rfl, _, _, rfl, rfl, ⟨by decide, by decide⟩, .inl ⟨_, rfl, _, rfl, _, _, rfl, rfl, n0, ?_⟩⟩
      exact k _ _ _ _ (Int.emod_nonneg _ (by omega)) (Int.emod_lt_of_pos _ n0)
abbrev s_law_box : Stmt := top 27
abbrev n_law_box : List Str := ["_law_script", "_law_k", "_law_own", "_law_cell", "_law_seed"]
theorem sc_law_box : FnScope n_law_box ["_law_script", "_law_k", "_law_own"] (defScope s_law_box) := ⟨rfl, rfl, rfl, by decide +kernel, rfl, by decide +kernel, by decide +kernel⟩
def spBox (K : PySem.W.Frag) : Sp := fun vs H Q _ => ∃ (a : Addr) (ns : List Int) (k o : Int), vs = [.ref a, .int k, .int o] ∧ SqL K H a (ns.map V.int) ∧ 0 ≤ k ∧ k < 1000 ∧ 0 ≤ o ∧ o < 1000 ∧ ∀ (H' : Hp) (p : Addr), Same H H' → H p = none → Box H' p → Q (.ref p) H'
theorem ok_box (T : Txt mg) (F : DefAt K mg "_law_box" s_law_box ["_law_script", "_law_k", "_law_own"]) : Has P w K mg base 1 "_law_box" ["_law_script", "_law_k", "_law_own"] (spBox K) := by
  refine F.has sc_law_box (fun vs H Q E h => ?_) (fun f cdv A outer s H vs Q E hr h => ?_)
  · obtain ⟨a, ns, k, o, rfl, _⟩ := h
    rfl
  · obtain ⟨a, ns, i, o, rfl, hS, i0, i1, o0, o1, k⟩ := h
    refine ⟨_, (pss_cons (ps_set (i := 3) sc_law_box.nd rfl (Or.inl rfl) (pe_op op_add (pe_op op_add (pe_op op_mul pe_int (pv 1)) (pe_op op_mul pe_int (pv 2))) pe_int))
      (pss_cons (ps_if (pt_cmpR op_lt (pv 1) (pe_callB call_len (by rfl) T.z_len (by decide +kernel) (pa_cons (pv 0) pa_nil)) (nomark _)) (pss_one (ps_set (i := 3) sc_law_box.nd rfl (Or.inl rfl) (pe_callB call_abs (by rfl) T.z_abs (by decide +kernel) (pa_cons (pe_ix ix_list (pv 0) (pv 1) (fun _ _ => rfl)) pa_nil)))) (pss_one (ps_if (pt_cmpR op_gt (pe_callB call_len (by rfl) T.z_len (by decide +kernel) (pa_cons (pv 0) pa_nil)) pe_int (nomark _)) (pss_one (ps_set (i := 3) sc_law_box.nd rfl (Or.inl rfl) (pe_op op_add (pv 3) (pe_op op_mul (pe_op op_mod (pe_callTy call_int1 (by rfl) T.z_int (by decide +kernel) (pa_cons (pe_callB call_abs (by rfl) T.z_abs (by decide +kernel) (pa_cons (pe_ix ix_list (pv 0) (pe_op op_mod (pe_callTy call_int1 (by rfl) T.z_int (by decide +kernel) (pa_cons (pv 1) pa_nil)) (pe_callB call_len (by rfl) T.z_len (by decide +kernel) (pa_cons (pv 0) pa_nil))) (fun _ _ => rfl)) pa_nil)) pa_nil)) pe_int) pe_int)))) pss_nil)))
      (pss_cons (ps_set (i := 4) sc_law_box.nd rfl (Or.inl rfl) (pe_op op_add (pe_op op_mod (pe_callTy call_int1 (by rfl) T.z_int (by decide +kernel) (pa_cons (pe_op op_add (pe_op op_mul (pe_op op_mod (pe_callTy call_int1 (by rfl) T.z_int (by decide +kernel) (pa_cons (pv 3) pa_nil)) pe_int) pe_int) (pe_op op_mul pe_int (pe_op op_add (pv 1) (pe_op op_mul pe_int (pv 2))))) pa_nil)) pe_int) pe_int))
      (pss_one (ps_ret (pe_lst (pa_cons (pe_ix ix_list (pe_lst (pa_cons pe_int (pa_cons (pv 3) pa_nil))) (pe_callTy call_int1 (by rfl) T.z_int (by decide +kernel) (pa_cons (pe_cmpR op_ge (pv 3) (pe_op op_pow pe_int pe_int) (nomark _)) pa_nil)) (fun _ _ => rfl)) (pa_cons (pv 4) (pa_cons pe_int pa_nil))))))))), ?_⟩
    refine ⟨_, rfl, _, _, rfl, rfl, .inl ⟨by decide, by decide⟩, _, rfl, _, _, rfl, rfl, .inl ⟨by decide, by decide⟩, _, _, rfl, rfl, _, _, rfl, rfl, ?_⟩
    have hlen : (ns.map V.int).length = ns.length := List.length_map ..
    -- the cell by three ways; what follows is the same
    refine ⟨_, rfl, _, rfl, _, _, rfl, .inl ⟨_, hS, rfl⟩, _, _, rfl, rfl, _, rfl, ite2 (fun h1 => ?_) (fun h1 => ?_)⟩
    · have h1' : i < ((ns.map V.int).length : Int) := of_decide_eq_true h1
      obtain ⟨j, rfl⟩ : ∃ j : Nat, i = (j : Int) := ⟨i.toNat, by omega⟩
      have hj : j < ns.length := by omega
      have ej : (ns.map V.int)[j]? = some (V.int ns[j]) := by rw [List.getElem?_map, List.getElem?_eq_getElem hj]; rfl
      refine ⟨_, rfl, _, rfl, a, _, _, _, rfl, rfl, hS, atI_nat ej, _, rfl, ?_⟩
      refine ⟨_, rfl, .inl ⟨_, rfl, _, _, rfl, rfl, (by show (0 : Int) < 2147483629; decide), _, _, rfl, rfl, .inr ⟨by decide, by decide⟩, _, rfl, _, rfl, _, _, rfl, rfl, .inl ⟨by decide, by decide⟩, _, _, rfl, rfl, _, _, rfl, rfl, .inl ⟨by decide, by decide⟩, _, _, rfl, rfl, .inl ⟨_, rfl, _, _, rfl, rfl, (by show (0 : Int) < 2147483629; decide), _, _, rfl, rfl, ?_⟩⟩⟩
      refine ⟨_, rfl, (by decide : 2 ≤ sizeLine), fun q hq => ⟨_, rfl, _, _, rfl, rfl, ⟨by decide, by decide, by decide⟩, _, _, rfl, rfl, .inr ⟨_, rfl, ?_⟩⟩⟩
      refine ⟨q, _, _, _, rfl, rfl, SqL.of upd_same, (two_at _ _).choose_spec, _, rfl, (by decide : 3 ≤ sizeLine), fun p hp => ?_⟩
      have npq : p ≠ q := fun z => by rw [z, upd_same] at hp; cases hp
      have hp0 : H p = none := by rw [upd_ne npq] at hp; exact hp
      refine k _ p (fun b o z => ?_) hp0 ⟨_, _, _, upd_same⟩
      rw [upd_ne (ne_of_none z hp0), upd_ne (ne_of_none z hq)]
      exact z
    · refine ⟨_, rfl, _, _, rfl, .inl ⟨_, hS, rfl⟩, _, _, rfl, rfl, _, rfl, ite2 (fun h2 => ?_) (fun h2 => ?_)⟩
      · have h2' : (0 : Int) < ((ns.map V.int).length : Int) := of_decide_eq_true h2
        have m0 := Int.emod_nonneg i (b := ((ns.map V.int).length : Int)) (by omega)
        have m1 := Int.emod_lt_of_pos i h2'
        obtain ⟨j, ej0⟩ : ∃ j : Nat, i % ((ns.map V.int).length : Int) = (j : Int) := ⟨(i % ((ns.map V.int).length : Int)).toNat, by omega⟩
        have hj : j < ns.length := by omega
        have ej : (ns.map V.int)[j]? = some (V.int ns[j]) := by rw [List.getElem?_map, List.getElem?_eq_getElem hj]; rfl
        refine ⟨_, rfl, _, rfl, _, rfl, .inl ⟨_, rfl, _, rfl, _, _, rfl, .inl ⟨_, hS, rfl⟩, _, _, rfl, rfl, h2', a, _, _, _, rfl, rfl, hS, (by rw [ej0]; exact atI_nat ej), _, rfl, .inl ⟨_, rfl, _, _, rfl, rfl, (by show (0 : Int) < 2147483629; decide), _, _, rfl, rfl, .inr ⟨by decide, by decide⟩, _, _, rfl, rfl, ?_⟩⟩⟩
        refine ⟨_, rfl, .inl ⟨_, rfl, _, _, rfl, rfl, (by show (0 : Int) < 2147483629; decide), _, _, rfl, rfl, .inr ⟨by decide, by decide⟩, _, rfl, _, rfl, _, _, rfl, rfl, .inl ⟨by decide, by decide⟩, _, _, rfl, rfl, _, _, rfl, rfl, .inl ⟨by decide, by decide⟩, _, _, rfl, rfl, .inl ⟨_, rfl, _, _, rfl, rfl, (by show (0 : Int) < 2147483629; decide), _, _, rfl, rfl, ?_⟩⟩⟩
        refine ⟨_, rfl, (by decide : 2 ≤ sizeLine), fun q hq => ⟨_, rfl, _, _, rfl, rfl, ⟨by decide, by decide, by decide⟩, _, _, rfl, rfl, .inr ⟨_, rfl, ?_⟩⟩⟩
        refine ⟨q, _, _, _, rfl, rfl, SqL.of upd_same, (two_at _ _).choose_spec, _, rfl, (by decide : 3 ≤ sizeLine), fun p hp => ?_⟩
        have npq : p ≠ q := fun z => by rw [z, upd_same] at hp; cases hp
        have hp0 : H p = none := by rw [upd_ne npq] at hp; exact hp
        refine k _ p (fun b o z => ?_) hp0 ⟨_, _, _, upd_same⟩
        rw [upd_ne (ne_of_none z hp0), upd_ne (ne_of_none z hq)]
        exact z
      · show tSeq _ _ _ _ _
        refine ⟨_, rfl, .inl ⟨_, rfl, _, _, rfl, rfl, (by show (0 : Int) < 2147483629; decide), _, _, rfl, rfl, .inr ⟨by decide, by decide⟩, _, rfl, _, rfl, _, _, rfl, rfl, .inl ⟨by decide, by decide⟩, _, _, rfl, rfl, _, _, rfl, rfl, .inl ⟨by decide, by decide⟩, _, _, rfl, rfl, .inl ⟨_, rfl, _, _, rfl, rfl, (by show (0 : Int) < 2147483629; decide), _, _, rfl, rfl, ?_⟩⟩⟩
        refine ⟨_, rfl, (by decide : 2 ≤ sizeLine), fun q hq => ⟨_, rfl, _, _, rfl, rfl, ⟨by decide, by decide, by decide⟩, _, _, rfl, rfl, .inr ⟨_, rfl, ?_⟩⟩⟩
        refine ⟨q, _, _, _, rfl, rfl, SqL.of upd_same, (two_at _ _).choose_spec, _, rfl, (by decide : 3 ≤ sizeLine), fun p hp => ?_⟩
        have npq : p ≠ q := fun z => by rw [z, upd_same] at hp; cases hp
        have hp0 : H p = none := by rw [upd_ne npq] at hp; exact hp
        refine k _ p (fun b o z => ?_) hp0 ⟨_, _, _, upd_same⟩
        rw [upd_ne (ne_of_none z hp0), upd_ne (ne_of_none z hq)]
        exact z
/-- but for the box all stands as before -/
def But (b : Addr) (H H' : Hp) : Prop := ∀ a o, a ≠ b → H a = some o → H' a = some o
theorem But.trans {b : Addr} {H H1 H2 : Hp} (s : But b H H1) (t : But b H1 H2) : But b H H2 := fun a o n z => t a o n (s a o n z)
theorem But.upd' {b : Addr} {H : Hp} {o : HO} : But b H (upd H b o) := fun a u n z => by rw [upd_ne n]; exact z
theorem Same.but {b : Addr} {H H' : Hp} (s : Same H H') : But b H H' := fun a o _ z => s a o z
theorem Box.keep {b : Addr} {H H' : Hp} (s : Same H H') (h : Box H b) : Box H' b := by
  obtain ⟨x, y, z, h⟩ := h
  exact ⟨x, y, z, s _ _ h⟩
theorem Box.upd' {b : Addr} {H : Hp} {x y z : Int} : Box (upd H b (.lst [.int x, .int y, .int z])) b := ⟨x, y, z, upd_same⟩
end
end K14

namespace PySem.W
open PySem PySem.Spec PySem.Calls PyProof.Rows
/-- what isinstance asks of the class D of an own error -/
structure ErrIs (K : Frag) (D : Addr) : Prop where
  ga : findIn K (.ref D) "__getattribute__" = some (some (.builtin "BaseException.__getattribute__"))
  gg : findIn K (.ref D) "__getattr__" = some none
  sb : subIn K (.ref D) (.type "BaseException") = some true
  hd : hasDictIn K D = true
  cl : findIn K (.ref D) "__class__" = some (some (.builtin "object.__class__"))
  gt : specialIn K (.builtin "object.__class__") "__get__" = some (some (.builtin "getset_descriptor.__get__"))
  tk : takesIn K (.builtin "object.__class__") = some true
  mo : mroIn K D (.type "object") = some true
theorem ErrIs.is {K : Frag} {D : Addr} (Z : ErrIs K D) : (clsIn K D).isSome = true := by
  obtain ⟨cd, e, _⟩ := any_some Z.hd
  rw [e]; rfl
theorem ErrIs.found {K : Frag} {D : Addr} (Z : ErrIs K D) (od : Option Obj) : findObj K D od "__class__" = some (.bind (.builtin "getset_descriptor.__get__") (.builtin "object.__class__")) := by
  cases od with
  | none => exact findObj_dataN Z.is Z.cl Z.gt Z.tk
  | some o => exact findObj_data Z.is Z.cl Z.gt Z.tk
theorem ErrIs.asked {prog : Program} {w : World} {G : Around} {Ex : Value → Shared → Prop} {s : Shared} {K : Frag} {x D : Addr} {ox : Obj} {od : Option Obj} {Q : Option Value → Shared → Prop} (Z : ErrIs K D) (KI : K.In s.heap) (I : InstAt s.heap x ox D od)
    (h : Q (some (.ref D)) { s with toks := s.toks + 1 }) : wpAny (model prog w) G (getAttr? (.ref x) "__class__") Q Ex s := by
  obtain ⟨hp, g, d, t, os⟩ := s
  have a0 := I.type (M := model prog w)
  have a1 := looks_findIn (M := model prog w) KI Z.ga
  have a2 := looks_findIn (M := model prog w) KI Z.gg
  have a3 := looks_find (M := model prog w) KI I (Z.found od)
  have a4 : Looks (model prog w) hp (isInstance (.ref x) (.type "BaseException")) true := a0.andThen (looks_subIn KI Z.sb)
  have n1 : (Value.builtin "BaseException.__getattribute__" == Value.builtin "object.__getattribute__") = false := by decide +kernel
  have n2 : (onTheHeap (Value.ref D) && Value.builtin "BaseException.__getattribute__" == Value.builtin "object.__getattribute__") = false := by rw [n1, Bool.and_false]
  have n3 : (false && onTheHeap (Value.builtin "BaseException.__getattribute__")) = false := rfl
  unfold getAttr? getAttrBy? getAttrBy
  refine wpAny_bind (wpAny_mkText (wpAny_bind (wpAny_attempt (wpAny_holding (wpAny_bind (a0.at (wpAny_bind (a1.at ?_))))))))
  show wpAny _ _ (if (onTheHeap (Value.ref D) && Value.builtin "BaseException.__getattribute__" == Value.builtin "object.__getattribute__") = true then _ else _) _ _ _
  rw [n2, if_neg Bool.false_ne_true]; unfold getAttrByItsOwn hookBefore; refine wpAny_bind ?_
  rw [if_pos (show onTheHeap (Value.ref D) = true from rfl)]; refine a2.at (wpAny_bind (wpAny_attempt (wpAny_holding ?_)))
  unfold callGetattribute; rw [n3, if_neg Bool.false_ne_true]; unfold boundAndCalled; rw [PySem.F.excAttr_ValueError.ga.bind (.ref x)]
  refine wpAny_bind (wpAny_pure ?_); show wpAny _ _ (call (.builtin "BaseException.__getattribute__") [.ref x, .str "__class__" t]) _ _ _
  refine wpAny_call (codeAny_call_builtin PySem.F.excAttr_ValueError.ga.plain PySem.F.entry_bexc_ga (@check_slot (model prog w) _ _ ⟨hp, g, d, t + 1, os⟩ "BaseException.__getattribute__" "BaseException" "__getattribute__" (.ref x) [.str "__class__" t] [] _ (by decide +kernel) (by decide +kernel) a4 (PySem.F.args_bexc_ga (.ref x) (.str "__class__" t)) ?_))
  unfold Builtin.«object.__getattribute__»; refine wpAny_bind (wpAny_of_eq (a := ((Value.ref x : Value), [Value.str "__class__" t])) (by first | rfl | (simp only [slotArgs]; rfl)) (wpAny_bind (wpAny_pure (wpAny_bind (a0.at (wpAny_bind (a3.at ?_)))))))
  show wpAny _ _ (holding [Value.builtin "object.__class__"] (call (.builtin "getset_descriptor.__get__") [.builtin "object.__class__", .ref x, .ref D]) >>= ret) _ _ _
  refine wpAny_bind (wpAny_holding (wpAny_call (class_get (s := ⟨hp, g, d, t + 1, os⟩) (ox := ox) (od := od) KI I Z.mo (wpAny_pure ?_))))
  show wpAny _ _ (handedOut (.ref D)) _ _ _; rw [handedOut_of (v := .ref D) rfl]
  first | exact wpAny_pure (wpAny_pure h) | exact wpAny_pure h | exact wpAny_pure (wpAny_bind (wpAny_pure (wpAny_pure h)))
theorem ErrIs.kit {K : Frag} {D x : Addr} {ox : Obj} {od : Option Obj} (Z : ErrIs K D) : KitX K (.ref x) (.ref D) (fun h => InstAt h x ox D od) := by
  obtain ⟨cd, hc, _⟩ := any_some Z.hd
  have at_ : ∃ c' d' k' sl', K.lookup D = some ⟨c', d', .cls k', sl'⟩ := by
    unfold clsIn at hc
    split at hc
    · exact ⟨_, _, _, _, by assumption⟩
    · cases hc
  obtain ⟨c', d', k', sl', ho⟩ := at_
  refine ⟨fun _ _ _ I => I.type, fun _ _ KI _ => ?_, fun h tp dd its n sl KI ht => Bool.eq_false_iff.mpr fun q => ?_, fun KI I k => Z.asked KI I k⟩
  · intro A' Q' E' s' k q
    unfold isType loadHead; exact wpAny_bind (wpAny_loadPart (k _ _ (KI _ _ ho)) (wpAny_pure q))
  · have e : D = tp := Value.ref.inj (beq_iff_eq.mp q)
    rw [← e] at ht
    cases (KI _ _ ho).symm.trans ht
end PySem.W

set_option pp.maxSteps 600
namespace L2
open PySem PySem.Spec PyProof.Rows
/-! ### isinstance of the caught error, where it has fields -/
theorem pin_inst {X : Cx} {a D dd : Addr} {oe : Obj} {pn pins : List (Addr × Obj)} {σ : St} {H : Hp} {s : Shared} {fs : List (Str × V)} (hz : Zc (.ref D) (some dd) oe) (hf : ∃ vs, oe.data = .fields vs) (I : Inv (X.suite a ((a, oe) :: pn)) pins σ H s) (ed : H dd = some (.xd fs)) :
    ∃ od, PySem.W.InstAt s.heap a oe D (some od) := by
  obtain ⟨ha, _⟩ := I.pin (a, oe) (List.mem_append_left _ List.mem_cons_self)
  obtain ⟨vs, hd⟩ := hf
  have hx : ObjOk X.prog X.w H s.heap dd (.xd fs) := I.hok dd _ ed
  obtain ⟨mA, hns, hr⟩ := hx
  obtain ⟨od, ho, hl⟩ := lookIn_ns hns
  exact ⟨od, ha, hz.1, by unfold PySem.W.notCls; rw [hd] <;> rfl, by rw [hz.2]; exact ho⟩
theorem call_isES {X : Cx} {a D : Addr} {oe : Obj} {cls : Value} {d : Option Addr} {pn : List (Addr × Obj)} (T : ExcC X.K D) (hz : Zc cls d oe) (hf : ∃ vs, oe.data = .fields vs) : CallR (X.suite a ((a, oe) :: pn)) (.builtin "isinstance") (fun xs H Q => cls = .ref D ∧ (∃ dd fs, d = some dd ∧ H dd = some (.xd fs)) ∧ rIsE X.K D a xs H Q) := by
  intro pins s σ H xs us Q I r h
  obtain ⟨rfl, ⟨dd, fs, rfl, ed⟩, c, cv, b, rfl, hcv, e, q⟩ := h
  cases r with
  | cons rx rr =>
    cases rr with
    | cons rt rr =>
      cases rr
      cases rx
      have ec := hcv _ rt
      subst ec
      obtain ⟨od, J⟩ := pin_inst hz hf I ed
      exact PySem.W.kia_one (PySem.W.ErrIs.kit ⟨T.hg, T.hk, T.hs, T.hd, T.ha, T.hn, T.ht, T.hm⟩) I.kIn J e (fun z => nomatch z) fun tk => ⟨.bl b, H, I.kept (t' := tk) fun _ _ z => z, rfl, q⟩
theorem call_isEST {X : Cx} {a D : Addr} {oe : Obj} {cls : Value} {d : Option Addr} {pn : List (Addr × Obj)} (T : ExcC X.K D) (hz : Zc cls d oe) (hf : ∃ vs, oe.data = .fields vs) : CallR (X.suite a ((a, oe) :: pn)) (.builtin "isinstance") (fun xs H Q => cls = .ref D ∧ (∃ dd fs, d = some dd ∧ H dd = some (.xd fs)) ∧
    ∃ (tp : Addr) (cs : List V) (us : List Value) (b : Bool), xs = [.ref a, .ref tp] ∧ H tp = some (.tup cs) ∧ Paired ClsV cs us ∧ PySem.W.kitAny X.K (.ref D) us = some b ∧ Q (.bl b) H) := by
  intro pins s σ H xs us Q I r h
  obtain ⟨rfl, ⟨dd, fs, rfl, ed⟩, tp, cs, ws, b, rfl, hT, k, e, q⟩ := h
  obtain ⟨u1, u2, rfl, r1, r2⟩ := vals2 r
  cases (show u1 = Value.ref a from r1)
  cases (show u2 = Value.ref tp from r2)
  obtain ⟨od, J⟩ := pin_inst hz hf I ed
  obtain ⟨_, its, rv, o, h1, h2, n, h3⟩ := (show ObjOk X.prog X.w H s.heap tp (.tup cs) from I.hok tp _ hT)
  have e3 := ClsV.all k rv
  subst e3
  obtain ⟨oc, od', dt, sl⟩ := o
  simp only at h2 h3
  subst h2 h3
  exact PySem.W.kia_tup (PySem.W.ErrIs.kit ⟨T.hg, T.hk, T.hs, T.hd, T.ha, T.hn, T.ht, T.hm⟩) I.kIn J h1 e (fun z => nomatch z) fun tk => ⟨.bl b, H, I.kept (t' := tk) fun _ _ z => z, rfl, q⟩
/-- what is raised is raised where as many slots stand as the def has names -/
theorem takesLen {X : Cx} {W : WX} (n : Nat) (hn : X.N.length = n) (tk : Takes X W) : Takes X (fun cls d σ H => σ.length = n → W cls d σ H) := fun e s' x => by
  obtain ⟨a, B, sI, pins', σ', H', cls, d, h1, J', h3, h4, h5, h6, h7, h8, hW⟩ := x
  exact tk e s' ⟨a, B, sI, pins', σ', H', cls, d, h1, J', h3, h4, h5, h6, h7, h8, hW (J'.len.trans hn)⟩
end L2
namespace K14
open PySem L2 LamX PySem.Spec PyProof.Rows
/-- what is heard of an error of a row: its part -/
def EchR (IR : Addr) (Q : VK) : XK := fun cls d H' => cls = .ref IR ∧ ∃ (dd : Addr) (p : Str), d = some dd ∧ H' dd = some (.xd [("part", .str p)]) ∧ ∀ H'', Same H' H'' → Q (.str p) H''
/-- what the def of the law that hears an error makes of the work it is handed -/
def TRef (IR : Addr) : (XK → Hp → VK → Prop) → Hp → VK → Prop := fun tl H Q => tl (EchR IR Q) H (fun _ H' => ∃ v : V, some (some (V.str "made")) = some (some v) ∧ Q v H')
def tbR (f c' : Addr) (q : Str) (tl : XK → Hp → VK → Prop) : WX → TS := fun W D σ H => ∃ Ech : XK, (∀ cls d σ' H', Ech cls d H' → σ'.length = 3 → W cls d σ' H') ∧ σ[0]? = some (some (.ref f)) ∧ H c' = some (CodeO c' q) ∧ tl Ech H (fun _ H' => D.nx σ H')
abbrev s_law_refused : Stmt := top 31
abbrev n_law_refused : List Str := ["_law_work", "_law_found", "_law_e"]
theorem sc_law_refused : FnScope n_law_refused ["_law_work"] (defScope s_law_refused) := ⟨rfl, rfl, rfl, by decide +kernel, rfl, by decide +kernel, by decide +kernel⟩
theorem refused_gives {X : Cx} {q : Str} {g SE IR IT IB : Addr} {cdg : Value} (T : Txt X.mg) (EX : ExcC X.K IR) (XR : XfC X.K IR) (nPart : PySem.W.findIn X.K (.ref IR) "part" = some none) (te : PySem.W.exmOne X.K (.ref IR) (.ref SE) = some true) (mSE : X.mg "SumError" = some (.ref SE)) (mIR : X.mg "InvalidRow" = some (.ref IR)) (mIT : X.mg "InvalidText" = some (.ref IT)) (mIB : X.mg "InvalidBook" = some (.ref IB))
    (kRR : PySem.W.kitOne X.K (.ref IR) (.ref IR) = some true) (kRT : PySem.W.kitAny X.K (.ref IR) [.ref IT, .ref IB] = some false) :
    GivesTo X n_law_refused "_law_refused" (defScope s_law_refused) g cdg (defBody s_law_refused) "_law_work" q (TRef IR) := by
  intro f c' s H Q tl act hc h
  refine ⟨_, (pss_cons (ps_set (i := 1) sc_law_refused.nd rfl (Or.inl rfl) pe_str)
      (pss_cons (ps_try_as (i := 2) (c := .ref SE) (tb := tbR f c' q tl) (Wout := fun _ _ _ _ => False) rfl rfl sc_law_refused.nd rfl rfl ⟨rfl, by decide, Or.inl mSE⟩ LamX.takes0 (fun W pn xe tk _ => ?_) (fun a oe cls d pn hz hf => (pss_cons (ps_set (i := 1) sc_law_refused.nd rfl (Or.inl rfl) pe_str)
      (pss_one (ps_if (PW.pt (pw_and (pt_val (pe_callB (call_isES EX hz hf) (by rfl) T.z_isinstance (by decide +kernel) (pa_cons (pv 2) (pa_cons (pe_glob (v := .ref IR) rfl mIR rfl) pa_nil)))) (pw_and1 (pt_not (pt_val (pe_callB (call_isEST EX hz hf) (by rfl) T.z_isinstance (by decide +kernel) (pa_cons (pv 2) (pa_cons (pe_tup (pa_cons (pe_glob (v := .ref IT) rfl mIT rfl) (pa_cons (pe_glob (v := .ref IB) rfl mIB rfl) pa_nil))) pa_nil)))))))) (pss_one (ps_set (i := 1) sc_law_refused.nd rfl (Or.inl rfl) (pe_xf XR nPart hz hf (pv 2)))) pss_nil)))))
      (pss_one (ps_ret (pv 1))))), ?_⟩
  · refine ⟨fun pins s' σ H' D I h' => ?_⟩
    obtain ⟨Ech, hW, h1, h2, h3⟩ := h'
    exact (pss_one (ps_expr (act _ pn xe Ech _ _ (takesLen 3 rfl tk) hW))).run pins s' σ H' D I ⟨h1, h2, h3⟩
  refine ⟨EchR IR Q, fun cls d σ' H' hE lσ => ?_, rfl, hc, h⟩
  match σ', lσ with
  | [x0, x1, x2], _ =>
    obtain ⟨rfl, dd, p, rfl, hd, k⟩ := hE
    refine ⟨true, te, fun _ a ha => ?_, fun z => nomatch z⟩
    refine ⟨_, rfl, rfl, ⟨dd, _, rfl, hd⟩, .ref IR, .ref IR, true, rfl, (fun u h => h), kRR, _, rfl, iteSe rfl ?_⟩
    refine ⟨_, rfl, (by decide : 2 ≤ sizeLine), fun tp htp => ?_⟩
    obtain ⟨s1, h1⟩ := new_at (o := .tup [V.ref IT, V.ref IB]) htp
    refine ⟨rfl, ⟨dd, _, rfl, s1 _ _ hd⟩, tp, _, _, false, rfl, h1, .cons (.own _) (.cons (.own _) .nil), kRT, _, rfl, iteSe rfl ?_⟩
    exact ⟨_, rfl, rfl, rfl, dd, _, _, rfl, s1 _ _ hd, rfl, _, rfl, k _ s1⟩
end K14

set_option pp.maxSteps 600
namespace K14
open PySem L2 PySem.Spec PyProof.Rows
/-- what isinstance asks of an own class of the package -/
structure ObjK (K : PySem.W.Frag) (C : Addr) : Prop where
  cl : Cls K C
  ha : PySem.W.findIn K (.ref C) "__class__" = some (some (.builtin "object.__class__"))
  hn : PySem.W.specialIn K (.builtin "object.__class__") "__get__" = some (some (.builtin "getset_descriptor.__get__"))
  htk : PySem.W.takesIn K (.builtin "object.__class__") = some true
  hm : PySem.W.mroIn K C (.type "object") = some true
  str : PySem.W.kitOne K (.ref C) (.type "str") = some false
  int : PySem.W.kitOne K (.ref C) (.type "int") = some false
  bool : PySem.W.kitOne K (.ref C) (.type "bool") = some false
  lst : PySem.W.kitOne K (.ref C) (.type "list") = some false
  tup : PySem.W.kitOne K (.ref C) (.type "tuple") = some false
def isStr0 : Atom → Bool
  | .str _ => true
  | _ => false
def isInt0 : Atom → Bool
  | .int _ => true
  | .bl _ => true
  | _ => false
def isBl0 : Atom → Bool
  | .bl _ => true
  | _ => false
def at2 (f : Atom → Bool) : D2 → Bool
  | .a x => f x
  | _ => false
def isSeq2 : D2 → Bool
  | .s _ _ => true
  | _ => false
section
variable {K : PySem.W.Frag} {Z : Nat → Addr} {b : Addr} {H : Hp} {v : V}
theorem ty_obj (OZ : ∀ k, ObjK K (Z k)) {k : Nat} (h : Rel0 Z b H v (.obj k)) : TyX K H v (.ref (Z k)) := by
  obtain ⟨a, dx, fs, rfl, _, e⟩ := h
  have o := OZ k
  exact .base (.ins e o.cl o.ha o.hn o.htk o.hm)
theorem ty_seq {t : Bool} {xs : List D1} (h : Rel2 Z b H v (.s t xs)) : TyX K H v (.type (if t then "tuple" else "list")) := by
  obtain ⟨p, as, rfl, _, e, _⟩ := h
  cases t
  · exact .base (.lst e)
  · exact .base (.tup e)
theorem ty_of (OZ : ∀ k, ObjK K (Z k)) {d : D2} (h : Rel2 Z b H v d) {T : String} {f : Atom → Bool} (h0 : PySem.W.kitOne K (.type "NoneType") (.type T) = some (f .non)) (h1 : ∀ c, PySem.W.kitOne K (.type "bool") (.type T) = some (f (.bl c))) (h2 : ∀ i, PySem.W.kitOne K (.type "int") (.type T) = some (f (.int i))) (h3 : ∀ s, PySem.W.kitOne K (.type "str") (.type T) = some (f (.str s)))
    (h4 : ∀ k, PySem.W.kitOne K (.ref (Z k)) (.type T) = some (f (.obj k))) (h5 : PySem.W.kitOne K (.type "list") (.type T) = some false) (h6 : PySem.W.kitOne K (.type "tuple") (.type T) = some false) : ∃ t, TyX K H v t ∧ PySem.W.kitOne K t (.type T) = some (at2 f d) := by
  cases d with
  | a x =>
    cases x with
    | non => cases (show v = .non from h); exact ⟨_, .base .non, h0⟩
    | bl c => cases (show v = .bl c from h); exact ⟨_, .base (.bl c), h1 c⟩
    | int i => cases (show v = .int i from h); exact ⟨_, .base (.int i), h2 i⟩
    | str s => cases (show v = .str s from h); exact ⟨_, .base (.str s), h3 s⟩
    | obj k => exact ⟨_, ty_obj OZ (k := k) h, h4 k⟩
  | s t xs =>
    refine ⟨_, ty_seq h, ?_⟩
    cases t
    · exact h5
    · exact h6
theorem ty_str (OZ : ∀ k, ObjK K (Z k)) {d : D2} (h : Rel2 Z b H v d) : ∃ t, TyX K H v t ∧ PySem.W.kitOne K t (.type "str") = some (at2 isStr0 d) :=
  ty_of OZ h (kit_ty (by decide +kernel)) (fun _ => by first | exact kit_ty (show kitB _ _ = some false by decide +kernel) | exact kit_ty (show kitB _ _ = some true by decide +kernel)) (fun _ => by first | exact kit_ty (show kitB _ _ = some false by decide +kernel) | exact kit_ty (show kitB _ _ = some true by decide +kernel)) (fun _ => by first | exact kit_ty (show kitB _ _ = some false by decide +kernel) | exact kit_ty (show kitB _ _ = some true by decide +kernel)) (fun k => (OZ k).str) (kit_ty (by decide +kernel)) (kit_ty (by decide +kernel))
theorem ty_int (OZ : ∀ k, ObjK K (Z k)) {d : D2} (h : Rel2 Z b H v d) : ∃ t, TyX K H v t ∧ PySem.W.kitOne K t (.type "int") = some (at2 isInt0 d) :=
  ty_of OZ h (kit_ty (by decide +kernel)) (fun _ => by first | exact kit_ty (show kitB _ _ = some false by decide +kernel) | exact kit_ty (show kitB _ _ = some true by decide +kernel)) (fun _ => by first | exact kit_ty (show kitB _ _ = some false by decide +kernel) | exact kit_ty (show kitB _ _ = some true by decide +kernel)) (fun _ => by first | exact kit_ty (show kitB _ _ = some false by decide +kernel) | exact kit_ty (show kitB _ _ = some true by decide +kernel)) (fun k => (OZ k).int) (kit_ty (by decide +kernel)) (kit_ty (by decide +kernel))
theorem ty_bool (OZ : ∀ k, ObjK K (Z k)) {d : D2} (h : Rel2 Z b H v d) : ∃ t, TyX K H v t ∧ PySem.W.kitOne K t (.type "bool") = some (at2 isBl0 d) :=
  ty_of OZ h (kit_ty (by decide +kernel)) (fun _ => by first | exact kit_ty (show kitB _ _ = some false by decide +kernel) | exact kit_ty (show kitB _ _ = some true by decide +kernel)) (fun _ => by first | exact kit_ty (show kitB _ _ = some false by decide +kernel) | exact kit_ty (show kitB _ _ = some true by decide +kernel)) (fun _ => by first | exact kit_ty (show kitB _ _ = some false by decide +kernel) | exact kit_ty (show kitB _ _ = some true by decide +kernel)) (fun k => (OZ k).bool) (kit_ty (by decide +kernel)) (kit_ty (by decide +kernel))
theorem ty_seqs (OZ : ∀ k, ObjK K (Z k)) {d : D2} (h : Rel2 Z b H v d) : ∃ t, TyX K H v t ∧ PySem.W.kitAny K t [.type "list", .type "tuple"] = some (isSeq2 d) := by
  have no : ∀ {t : Value}, PySem.W.kitOne K t (.type "list") = some false → PySem.W.kitOne K t (.type "tuple") = some false → PySem.W.kitAny K t [.type "list", .type "tuple"] = some false := fun a b => kitAny_cons (b := false) a (fun _ => kitAny_cons (b := false) b (fun _ => rfl) (fun z => nomatch z)) (fun z => nomatch z)
  cases d with
  | a x =>
    cases x with
    | non => cases (show v = .non from h); exact ⟨_, .base .non, no (kit_ty (by decide +kernel)) (kit_ty (by decide +kernel))⟩
    | bl c => cases (show v = .bl c from h); exact ⟨_, .base (.bl c), no (kit_ty (by decide +kernel)) (kit_ty (by decide +kernel))⟩
    | int i => cases (show v = .int i from h); exact ⟨_, .base (.int i), no (kit_ty (by decide +kernel)) (kit_ty (by decide +kernel))⟩
    | str s => cases (show v = .str s from h); exact ⟨_, .base (.str s), no (kit_ty (by decide +kernel)) (kit_ty (by decide +kernel))⟩
    | obj k => exact ⟨_, ty_obj OZ (k := k) h, no (OZ k).lst (OZ k).tup⟩
  | s t xs =>
    refine ⟨_, ty_seq h, ?_⟩
    cases t
    · exact kitAny_cons (b := true) (kit_ty (by decide +kernel)) (fun z => nomatch z) (fun _ => rfl)
    · exact kitAny_cons (b := false) (kit_ty (by decide +kernel)) (fun _ => kitAny_cons (b := true) (kit_ty (by decide +kernel)) (fun z => nomatch z) (fun _ => rfl)) (fun z => nomatch z)
end
theorem inV_strs (s : Str) : ∀ l : List Str, inV (.str s) (l.map V.str) = decide (s ∈ l)
  | [] => rfl
  | a :: l => by
    have ih := inV_strs s l
    have e : inV (.str s) ((a :: l).map V.str) = (eqV (.str a) (.str s) || inV (.str s) (l.map V.str)) := rfl
    have e2 : eqV (.str a) (.str s) = decide (s = a) := by
      show decide _ = _
      exact decide_eq_decide.mpr ⟨fun q => by cases q; rfl, fun q => by rw [q]⟩
    rw [e, e2, ih]
    by_cases h : s = a
    · subst h; simp
    · simp [h]
def noNames : List Str := ["none", "to", "old", "new", "one", "not"]
def nameB (s : Str) : Bool := decide (s.length ≤ 4) && (Txt.isascii s && (Txt.isalpha s && (Txt.islower s && !decide (s ∈ noNames))))
def name0 : Atom → Bool
  | .str s => nameB s
  | _ => false
def int0 : Atom → Bool
  | .int _ => true
  | _ => false
theorem int_bl (d : D2) : (at2 isInt0 d && !at2 isBl0 d) = at2 int0 d := by
  cases d with
  | a x => cases x <;> rfl
  | s t xs => rfl
section
variable {P : Program} {w : World} {K : PySem.W.Frag} {mg : Str → Option Value} {base : Heap}
abbrev s_is_integer : Stmt := top 3
abbrev n_is_integer : List Str := ["value"]
theorem sc_is_integer : FnScope n_is_integer ["value"] (defScope s_is_integer) := ⟨rfl, rfl, rfl, by decide +kernel, rfl, by decide +kernel, by decide +kernel⟩
def spInt (Z : Nat → Addr) : Sp := fun vs H Q _ => ∃ (b : Addr) (x : V) (d : D2), vs = [x] ∧ Rel2 Z b H x d ∧ Q (.bl (at2 int0 d)) H
theorem ok_int {Z : Nat → Addr} (T : Txt mg) (OZ : ∀ k, ObjK K (Z k)) (F : DefAt K mg "is_integer" s_is_integer ["value"]) : Has P w K mg base 1 "is_integer" ["value"] (spInt Z) := by
  refine F.has sc_is_integer (fun vs H Q E h => ?_) (fun f cdv A outer s H vs Q E hr h => ?_)
  · obtain ⟨b, x, d, rfl, _⟩ := h
    rfl
  · obtain ⟨b, x, d, rfl, r, k⟩ := h
    refine ⟨_, (pss_one (ps_ret (pe_and (pe_callB call_isi (by rfl) T.z_isinstance (by decide +kernel) (pa_cons (pv 0) (pa_cons (pe_bltn (v := .ty "int") (by rfl) T.z_int (by decide +kernel) rfl) pa_nil))) (pe_one (pe_not (pe_callB call_isi (by rfl) T.z_isinstance (by decide +kernel) (pa_cons (pv 0) (pa_cons (pe_bltn (v := .ty "bool") (by rfl) T.z_bool (by decide +kernel) rfl) pa_nil)))))))), ?_⟩
    obtain ⟨t1, h1, k1⟩ := ty_int OZ r
    obtain ⟨t2, h2, k2⟩ := ty_bool OZ r
    rw [← int_bl] at k
    refine ⟨_, rfl, _, _, t1, _, _, rfl, .ty _, h1, k1, _, rfl, ?_⟩
    cases hi : at2 isInt0 d with
    | false =>
      rw [hi] at k
      exact iteSf rfl k
    | true =>
      rw [hi] at k
      exact iteSe rfl ⟨_, rfl, _, _, t2, _, _, rfl, .ty _, h2, k2, _, rfl, k⟩
abbrev s_is_sequence : Stmt := top 4
abbrev n_is_sequence : List Str := ["value"]
theorem sc_is_sequence : FnScope n_is_sequence ["value"] (defScope s_is_sequence) := ⟨rfl, rfl, rfl, by decide +kernel, rfl, by decide +kernel, by decide +kernel⟩
def spSeq (Z : Nat → Addr) : Sp := fun vs H Q _ => ∃ (b : Addr) (x : V) (d : D2), vs = [x] ∧ Rel2 Z b H x d ∧ ∀ H', Same H H' → Q (.bl (isSeq2 d)) H'
theorem ok_seq {Z : Nat → Addr} (T : Txt mg) (OZ : ∀ k, ObjK K (Z k)) (F : DefAt K mg "is_sequence" s_is_sequence ["value"]) : Has P w K mg base 1 "is_sequence" ["value"] (spSeq Z) := by
  refine F.has sc_is_sequence (fun vs H Q E h => ?_) (fun f cdv A outer s H vs Q E hr h => ?_)
  · obtain ⟨b, x, d, rfl, _⟩ := h
    rfl
  · obtain ⟨b, x, d, rfl, r, k⟩ := h
    refine ⟨_, (pss_one (ps_ret (pe_callB call_isiT (by rfl) T.z_isinstance (by decide +kernel) (pa_cons (pv 0) (pa_cons (pe_tup (pa_cons (pe_bltn (v := .ty "list") (by rfl) T.z_list (by decide +kernel) rfl) (pa_cons (pe_bltn (v := .ty "tuple") (by rfl) T.z_tuple (by decide +kernel) rfl) pa_nil))) pa_nil))))), ?_⟩
    refine ⟨_, rfl, (by decide : 2 ≤ sizeLine), fun t ht => ?_⟩
    obtain ⟨s1, h1⟩ := new_at (o := .tup [.ty "list", .ty "tuple"]) ht
    obtain ⟨tv, ht2, kt⟩ := ty_seqs OZ (r.kp (Kp.of s1))
    exact ⟨_, t, _, _, _, _, rfl, h1, .cons (.ty _) (.cons (.ty _) .nil), ht2, kt, k _ s1⟩
abbrev s_is_name : Stmt := top 5
abbrev n_is_name : List Str := ["value"]
theorem sc_is_name : FnScope n_is_name ["value"] (defScope s_is_name) := ⟨rfl, rfl, rfl, by decide +kernel, rfl, by decide +kernel, by decide +kernel⟩
def spName (Z : Nat → Addr) : Sp := fun vs H Q _ => ∃ (b : Addr) (x : V) (d : D2), vs = [x] ∧ Rel2 Z b H x d ∧ (∀ s, d = .a (.str s) → s.length ≤ 1000) ∧ Q (.bl (at2 name0 d)) H
theorem ok_name {Z : Nat → Addr} {NN : Addr} (T : Txt mg) (OZ : ∀ k, ObjK K (Z k)) (mNN : mg "NO_NAMES" = some (.ref NN)) (tNN : ∀ H, SqT K H NN (noNames.map V.str)) (F : DefAt K mg "is_name" s_is_name ["value"]) : Has P w K mg base 1 "is_name" ["value"] (spName Z) := by
  refine F.has sc_is_name (fun vs H Q E h => ?_) (fun f cdv A outer s H vs Q E hr h => ?_)
  · obtain ⟨b, x, d, rfl, _⟩ := h
    rfl
  · obtain ⟨b, x, d, rfl, r, l, k⟩ := h
    refine ⟨_, (pss_one (ps_ret (pe_and (pe_callB call_isi (by rfl) T.z_isinstance (by decide +kernel) (pa_cons (pv 0) (pa_cons (pe_bltn (v := .ty "str") (by rfl) T.z_str (by decide +kernel) rfl) pa_nil))) (pe_and (pe_cmpR op_le (pe_callB call_len (by rfl) T.z_len (by decide +kernel) (pa_cons (pv 0) pa_nil)) pe_int (nomark _)) (pe_and (pe_m0 PySem.F.slot_str_isascii PySem.F.type_str_isascii mt_isascii (pv 0)) (pe_and (pe_m0 PySem.F.slot_str_isalpha PySem.F.type_str_isalpha mt_isalpha (pv 0)) (pe_and (pe_m0 PySem.F.slot_str_islower PySem.F.type_str_islower mt_islower (pv 0)) (pe_one (pe_cmpR op_notIn_seq (pv 0) (pe_glob (v := .ref NN) rfl mNN rfl) (by rfl)))))))))), ?_⟩
    obtain ⟨t1, h1, k1⟩ := ty_str OZ r
    refine ⟨_, rfl, _, _, t1, _, _, rfl, .ty _, h1, k1, _, rfl, ?_⟩
    cases d with
    | s t xs => exact iteSf rfl k
    | a y =>
      cases y with
      | non => exact iteSf rfl k
      | bl c => exact iteSf rfl k
      | int i => exact iteSf rfl k
      | obj j => exact iteSf rfl k
      | str s =>
        have ls := l s rfl
        cases (show x = .str s from r)
        refine iteSe rfl ?_
        have k' : Q (.bl (nameB s)) H := k
        unfold nameB at k'
        have ls' : s.length ≤ sizeLine := Nat.le_trans ls (by decide)
        refine ⟨_, rfl, _, _, rfl, ⟨ls', rfl⟩, _, _, rfl, rfl, _, rfl, ?_⟩
        by_cases h4 : s.length ≤ 4
        · rw [decide_eq_true h4] at k'
          refine iteSe (decide_eq_true (by omega)) ⟨_, rfl, ⟨_, rfl⟩, _, rfl, rfl, trivial, _, rfl, ?_⟩
          cases hA : Txt.isascii s with
          | false => rw [hA] at k'; exact iteSf rfl k'
          | true =>
          rw [hA] at k'
          refine iteSe rfl ⟨_, rfl, ⟨_, rfl⟩, _, rfl, rfl, trivial, _, rfl, ?_⟩
          cases hB : Txt.isalpha s with
          | false => rw [hB] at k'; exact iteSf rfl k'
          | true =>
          rw [hB] at k'
          refine iteSe rfl ⟨_, rfl, ⟨_, rfl⟩, _, rfl, rfl, trivial, _, rfl, ?_⟩
          cases hC : Txt.islower s with
          | false => rw [hC] at k'; exact iteSf rfl k'
          | true =>
          rw [hC] at k'
          refine iteSe rfl ⟨_, rfl, NN, noNames.map V.str, rfl, .inr (tNN _), rfl, rfl, ?_⟩
          rw [if_pos rfl, inV_strs]
          exact k'
        · rw [decide_eq_false h4] at k'
          exact iteSf (decide_eq_false (by omega)) k'
end
end K14

namespace L2
open PySem PySem.Spec PyProof.Rows
/-! ### an error with nothing in it; what a sign lets out within a try; defs that raise, by their names -/
theorem pmk_own0 {X : Cx} {C : Addr} {bmB : List Value} {B newId initId : String} {x : Str} {p pos : Pos} (F : ExcBaseFacts B newId initId bmB) (q : PySem.W.excIn X.K C bmB newId = true) (gC : X.mg x = some (.ref C)) (kC : PySem.W.keepIn X.K (.ref C) = true) (r : Raises X (.ref C)) (hg : Gl X x)
    (hdb : (x == ("__debug__" : Str)) = false := by decide) : PMk X (.Call (.Name x p) [] [] pos) (fun _ H Q => Q (.ref C) none H) := by
  intro pins s σ H Q I h
  refine wpAny_Call_Name_kw (ld_glob I hg gC ?_ hdb)
  refine PySem.W.callWith_K0 I.kIn kC ?_
  show wpAny _ _ (call (.ref C) []) _ _ _
  obtain ⟨bm, N, nm, qn, bs, hdct, sn, sub, ab, col, dd, k0, k1, k2, k3, k5, mN, hC, hN, hni, T⟩ := exc_obj I.kIn q
  refine wpAny_call_exc_subT F T hC hN hni (fun h' e hm => ?_) (by show 0 ≤ sizeLine; exact Nat.zero_le _)
  exact mk_of I hm r h (I.hok.gone hm.new)
theorem passLen {X : Cx} {W : WX} (n : Nat) (hn : X.N.length = n) (tk : Takes X W) : Passes (L2.CX X.prog X.w) X (fun cls d H => ∀ σ : St, σ.length = n → W cls d σ H) := fun _ σ _ _ e s' I c => tk e s' (XE.of_call I (fun _ _ _ h => h σ (I.len.trans hn)) c)
theorem passOut {X : Cx} {E : XK} (hs : X.stack = X.env :: X.outer) (hf : X.env.frame = some X.env.locals) (hex : X.ex = []) {E₁ : Value → Shared → Prop}
    (hx : X.xe = fun e s' => wpAny (model X.prog X.w) X.A (leaving X.env e) (fun _ s'' => L2.CX X.prog X.w X.outer X.H_0 X.s_0 E e s'') E₁ s') : Passes (L2.CX X.prog X.w) X E := passes_call (takes_of hs hf hex hx) fun _ _ _ _ h => h
def HasX (P : Program) (w : World) (K : PySem.W.Frag) (mg : Str → Option Value) (base : Heap) (k : Nat) (nm : Str) (ps : List Str) (sp : Sp) : Prop :=
  ∃ (f : Addr) (fd : FuncData), FnOk P w K mg base (L2.CX P w) k f fd ps sp ∧ mg nm = some (.ref f) ∧ PySem.W.keepIn K (.ref f) = true ∧ Binds K fd ps []
theorem pe_callHasX {X : Cx} {k : Nat} {x : Str} {ps : List Str} {sp : Sp} {E : XK} {p pos : Pos} {e : Expr} {es : List Expr} {t : TA} (G : HasX X.prog X.w X.K X.mg X.base k x ps sp) (hr : Room k X.A) (hg : Gl X x) (hx : Passes (L2.CX X.prog X.w) X E) (ha : PA X (e :: es) t)
    (hdb : (x == ("__debug__" : Str)) = false := by decide) (he : starEach (e :: es) X.env = (false, eval e X.env) :: starEach es X.env := by rfl) (hpl : (backTo pos (starEach es X.env)).any (·.1) = false := by rfl) :
    PE X (.Call (.Name x p) (e :: es) [] pos) (tCall sp [] E t) := by
  obtain ⟨f, fd, F, m, kp, b⟩ := G
  exact pe_call F hr hg m kp b .nil hx ha hdb he hpl
theorem DefAt.hasX {P : Program} {w : World} {K : PySem.W.Frag} {mg : Str → Option Value} {base : Heap} {k : Nat} {nm : Str} {st : Stmt} {N ps : List Str} {sp : Sp} (F : DefAt K mg nm st ps) (S : FnScope N ps (defScope st)) (len : ∀ vs H Q E, sp vs H Q E → vs.length = ps.length)
    (hbody : ∀ (f : Addr) (cdv : Value) (A : Around) (outer : List Env) (s : Shared) (H : Hp) (vs : List V) (Q : VK) (E : XK), Room k (A.deeper (envOfC nm (defScope st) s.heap.objs.size f cdv)) → sp vs H Q E →
      ∃ t, PSs (cxOf (L2.CX P w) P w K mg base N nm (defScope st) f cdv A outer s H E) (defBody st) t ∧ t { nx := fun _ H' => Q .non H', rt := Q } (start N vs) H) : HasX P w K mg base (k + 1) nm ps sp := by
  obtain ⟨f, fd, F, m, b⟩ := F
  exact ⟨f, fd, F.okX S len (hbody f), m, F.kp, b⟩
/-- an error class of the text with no __init__ -/
structure ErrC (K : PySem.W.Frag) (mg : Str → Option Value) (x : Str) (M : Addr) : Prop where
  m : mg x = some (.ref M)
  ex : PySem.W.excIn K M [.type "ValueError", .type "Exception", .type "BaseException", .type "object"] "ValueError.__new__" = true
  kp : PySem.W.keepIn K (.ref M) = true
  sb : PySem.W.subIn K (.ref M) (.type "BaseException") = some true
  ty : PySem.W.typeIn K (.ref M) = some (.type "type")
theorem pmk_err {X : Cx} {x : Str} {M : Addr} {p pos : Pos} (T : ErrC X.K X.mg x M) (hg : Gl X x) (hdb : (x == ("__debug__" : Str)) = false := by decide) : PMk X (.Call (.Name x p) [] [] pos) (fun _ H Q => Q (.ref M) none H) :=
  pmk_own0 PySem.F.excBase_ValueError T.ex T.m T.kp (raises_own T.sb T.ty) hg hdb
end L2

set_option pp.maxSteps 600
namespace L2
open PySem PySem.Spec PyProof.Rows
/-- x in t, t a tuple of data of any depth -/
def rInTD (K : PySem.W.Frag) : R2 := fun x y H Q => ∃ d ds, Dp K H x d ∧ Dp K H y (.tuple ds) ∧ SeqAt.shaped d = true ∧ SeqAt.shaped (.tuple ds) = true ∧ Q (.bl (ds.any fun z => PyData.eqv z d)) H
theorem op_inTD {X : Cx} (hu : X.A.units + 65 < cLine) : OpR X (compareOp .In) (rInTD X.K) := by
  intro pins s σ H x y v u Q I rx ry h
  obtain ⟨d, ds, hd, he, sd, se, q⟩ := h
  obtain ⟨as, r1⟩ := Dp.reads I d x v hd rx
  obtain ⟨bs, r2⟩ := Dp.reads I (.tuple ds) y u he ry
  exact SeqAt.in_tuple_reads r2 r1 (SeqAt.canLay_of_shaped se) (SeqAt.canLay_of_shaped sd) (room_in_shaped sd hu) ⟨.bl _, H, I, rfl, q⟩
end L2
namespace K14
open PySem L2 PySem.Spec PyProof.Rows
/-! ### values as data -/
def py0 : Atom → PyData
  | .non => .none
  | .bl b => .bool b
  | .int i => .int i
  | .str s => .str s
  | .obj _ => .none
def py1 : D1 → PyData
  | .a x => py0 x
  | .s t xs => if t then .tuple (xs.map py0) else .list (xs.map py0)
def py2 : D2 → PyData
  | .a x => py0 x
  | .s t xs => if t then .tuple (xs.map py1) else .list (xs.map py1)
def pl0 : Atom → Bool
  | .obj _ => false
  | _ => true
def pl1 : D1 → Bool
  | .a x => pl0 x
  | .s _ xs => xs.all pl0
def pl2 : D2 → Bool
  | .a x => pl0 x
  | .s _ xs => xs.all pl1
section
variable {K : PySem.W.Frag} {Z : Nat → Addr} {b : Addr} {H : Hp} {v : V}
theorem dp0 {x : Atom} (h : Rel0 Z b H v x) (p : pl0 x = true) : Dp K H v (py0 x) := by
  cases x with
  | non => cases (show v = .non from h); exact .non
  | bl c => cases (show v = .bl c from h); exact .bl c
  | int i => cases (show v = .int i from h); exact .int i
  | str s => cases (show v = .str s from h); exact .str s
  | obj k => cases p
theorem dps {α : Type} {R : V → α → Prop} {f : α → PyData} {p : α → Bool} {as : List V} {xs : List α} (h : Paired R as xs) (hp : xs.all p = true) (k : ∀ a x, R a x → p x = true → Dp K H a (f x)) : DpAll K H as (xs.map f) := by
  induction h with
  | nil => exact .nil
  | cons r _ ih =>
    rw [List.all_cons, Bool.and_eq_true] at hp
    exact .cons (k _ _ r hp.1) (ih hp.2)
theorem dp1 {d : D1} (h : Rel1 Z b H v d) (p : pl1 d = true) : Dp K H v (py1 d) := by
  cases d with
  | a x => exact dp0 h p
  | s t xs =>
    obtain ⟨q, as, rfl, _, e, r⟩ := h
    cases t
    · exact .lst (SqL.of e) (dps r p fun _ _ => dp0)
    · exact .tup (SqT.of e) (dps r p fun _ _ => dp0)
theorem dp2 {d : D2} (h : Rel2 Z b H v d) (p : pl2 d = true) : Dp K H v (py2 d) := by
  cases d with
  | a x => exact dp0 h p
  | s t xs =>
    obtain ⟨q, as, rfl, _, e, r⟩ := h
    cases t
    · exact .lst (SqL.of e) (dps r p fun _ _ => dp1)
    · exact .tup (SqT.of e) (dps r p fun _ _ => dp1)
end
/-- data that may be compared -/
def ok2 (d : D2) : Bool := pl2 d && SeqAt.shaped (py2 d)
theorem eqv_str (d : D2) (z : Str) : PyData.eqv (py2 d) (.str z) = at2 (fun x => match x with | .str s => decide (s = z) | _ => false) d := by
  cases d with
  | a x =>
    cases x with
    | str s =>
      show PyData.eqv (.str s) (.str z) = decide (s = z)
      by_cases h : s = z
      · subst h; simp [PyData.eqv]
      · simp [PyData.eqv, h]
    | _ => rfl
  | s t xs => cases t <;> rfl
def isStrA (z : Str) : Atom → Bool := fun x => match x with | .str s => decide (s = z) | _ => false
def kindB (d : D2) : Bool := at2 (isStrA "none") d || at2 name0 d
def mayB (d : D2) (comes goes : Bool) : Bool := match d with
  | .a (.bl v) => (v || !comes) && !(v && goes)
  | _ => false
/-- the way out of a raise -/
theorem raise_part {C : Addr} {H H0 : Hp} {k : V} {Q : XK} {sp : Sp} (s : Same H H0) (hsp : ∀ (a : Addr) (H1 : Hp) (Q' : VK) (E' : XK), H1 a = some (exo a C none) → (∀ dx, H1 dx = none → dx ≠ a → Q' .non (upd (upd H1 dx (exd dx [("part", k)])) a (exo a C (some dx)))) → sp [.ref a, k] H1 Q' E')
    (q : ∀ (H' : Hp) (d : Addr), Same H H' → H d = none → H' d = some (.xd [("part", k)]) → Q (.ref C) (some d) H') (a : Addr) (ha : H0 a = none) : sp [.ref a, k] (upd H0 a (exo a C none)) (fun v H2 => v = .non ∧ ∃ (d : Addr) (fs : List (Str × V)), H2 a = some (exo a C (some d)) ∧ H2 d = some (exd d fs) ∧ H0 d = none ∧ Q (.ref C) (some d) (upd (del H2 a) d (.xd fs))) (fun _ _ _ => False) := by
  refine hsp a _ _ _ upd_same fun dx hdx ne => ⟨rfl, dx, [("part", k)], upd_same, (upd_ne ne).trans upd_same, ?_, ?_⟩
  · rw [upd_ne ne] at hdx; exact hdx
  · have h0 : H0 dx = none := by rw [upd_ne ne] at hdx; exact hdx
    have hd : H dx = none := by
      cases e : H dx with
      | none => rfl
      | some o => rw [s _ _ e] at h0; cases h0
    refine q _ dx (fun y o hy => ?_) hd upd_same
    have y0 := s _ _ hy
    have nya : y ≠ a := ne_of_none y0 ha
    have nyd : y ≠ dx := ne_of_none y0 h0
    rw [upd_ne nyd, del_ne nya, upd_ne nya, upd_ne nyd, upd_ne nya]; exact y0
section
variable {P : Program} {w : World} {K : PySem.W.Frag} {mg : Str → Option Value} {base : Heap}
abbrev s_InvalidRow_init : Stmt := inClass (top 10) 0
abbrev n_InvalidRow_init : List Str := ["self", "part"]
theorem sc_InvalidRow_init : FnScope n_InvalidRow_init ["self", "part"] (defScope s_InvalidRow_init) := ⟨rfl, rfl, rfl, by decide +kernel, rfl, by decide +kernel, by decide +kernel⟩
def spInitR (C : Addr) : Sp := fun vs H Q _ => ∃ (a : Addr) (y : V), vs = [.ref a, y] ∧ H a = some (exo a C none) ∧ ∀ dx, H dx = none → dx ≠ a → Q .non (upd (upd H dx (exd dx [("part", y)])) a (exo a C (some dx)))
theorem ok_initR {C fI : Addr} {fd : FuncData} (OX : OexC K C) (no : PySem.W.findIn K (.ref C) "part" = some none) (F : Fun K "__init__" "InvalidRow.__init__" s_InvalidRow_init fI fd) : FnOk P w K mg base CX0 1 fI fd ["self", "part"] (spInitR C) := by
  refine F.ok sc_InvalidRow_init (fun vs H Q E h => ?_) (fun cdv A outer s H vs Q E hr h => ?_)
  · obtain ⟨a, y, rfl, _⟩ := h
    rfl
  · obtain ⟨a, y, rfl, ha, k⟩ := h
    refine ⟨_, (pss_one (ps_ost (pv 0) (pv 1))), ?_⟩
    exact ⟨_, rfl, _, rfl, a, C, rfl, OX, no, .inl ⟨ha, fun dx hdx ne => k dx hdx ne⟩⟩
theorem initR_sp {C : Addr} {k : V} (a : Addr) (H1 : Hp) (Q' : VK) (E' : XK) (ha : H1 a = some (exo a C none)) (h : ∀ dx, H1 dx = none → dx ≠ a → Q' .non (upd (upd H1 dx (exd dx [("part", k)])) a (exo a C (some dx)))) : spInitR C [.ref a, k] H1 Q' E' := ⟨a, k, rfl, ha, h⟩
abbrev s_check : Stmt := top 13
abbrev n_check : List Str := ["holds", "part"]
theorem sc_check : FnScope n_check ["holds", "part"] (defScope s_check) := ⟨rfl, rfl, rfl, by decide +kernel, rfl, by decide +kernel, by decide +kernel⟩
def spCheck (IR : Addr) : Sp := fun vs H Q E => ∃ (c : Bool) (p : Str), vs = [.bl c, .str p] ∧ (c = true → Q .non H) ∧ (c = false → ∀ (H' : Hp) (d : Addr), Same H H' → H d = none → H' d = some (.xd [("part", .str p)]) → E (.ref IR) (some d) H')
theorem ok_check {IR fR : Addr} {fdR : FuncData} (T : Txt mg) (OXR : OexC K IR) (iR : PySem.W.findIn K (.ref IR) "__init__" = some (some (.ref fR))) (tR : PySem.W.typeIn K (.ref fR) = some (.type "function")) (g_initR : FnOk P w K mg base CX0 1 fR fdR ["self", "part"] (spInitR IR)) (bR : Binds K fdR ["self", "part"] []) (mIR : mg "InvalidRow" = some (.ref IR))
    (F : DefAt K mg "check" s_check ["holds", "part"]) : HasX P w K mg base 3 "check" ["holds", "part"] (spCheck IR) := by
  refine F.hasX sc_check (fun vs H Q E h => ?_) (fun f cdv A outer s H vs Q E hr h => ?_)
  · obtain ⟨c, p, rfl, _⟩ := h
    rfl
  · obtain ⟨c, p, rfl, k1, k2⟩ := h
    refine ⟨_, (pss_one (ps_if (pt_not (pt_val (pv 0))) (pss_one (ps_raise rfl (takes_of rfl rfl rfl rfl) (pmk_oex OXR iR tR g_initR (hr.mono (by decide)) bR .nil pass0 rfl mIR (pa_cons (pv 1) pa_nil)))) pss_nil)), ?_⟩
    cases c with
    | true => exact ⟨_, rfl, _, rfl, iteSf rfl (k1 rfl)⟩
    | false => exact ⟨_, rfl, _, rfl, iteSe rfl ⟨_, rfl, (by decide : 1 ≤ 1000), fun a ha => raise_part (sp := spInitR IR) (Same.refl H) initR_sp (fun H9 d9 q1 q2 q3 => k2 rfl H9 d9 q1 q2 q3) a ha⟩⟩
abbrev s_is_kind : Stmt := top 14
abbrev n_is_kind : List Str := ["value"]
theorem sc_is_kind : FnScope n_is_kind ["value"] (defScope s_is_kind) := ⟨rfl, rfl, rfl, by decide +kernel, rfl, by decide +kernel, by decide +kernel⟩
def spKind (Z : Nat → Addr) : Sp := fun vs H Q _ => ∃ (b : Addr) (x : V) (d : D2), vs = [x] ∧ Rel2 Z b H x d ∧ ok2 d = true ∧ (∀ s, d = .a (.str s) → s.length ≤ 1000) ∧ Q (.bl (kindB d)) H
theorem ok_kind {Z : Nat → Addr} (T : Txt mg) (g_is_name : Has P w K mg base 1 "is_name" ["value"] (spName Z)) (F : DefAt K mg "is_kind" s_is_kind ["value"]) : Has P w K mg base 2 "is_kind" ["value"] (spKind Z) := by
  refine F.has sc_is_kind (fun vs H Q E h => ?_) (fun f cdv A outer s H vs Q E hr h => ?_)
  · obtain ⟨b, x, d, rfl, _⟩ := h
    rfl
  · have hu := hr.units
    obtain ⟨b, x, d, rfl, r, ok, l, k⟩ := h
    obtain ⟨p1, p2⟩ := Bool.and_eq_true_iff.mp ok
    refine ⟨_, (pss_one (ps_ret (pe_or (pe_cmpR (op_eqD hu) (pv 0) pe_str (nomark _)) (pe_one (pe_callHas g_is_name (hr.mono (by decide)) rfl (pa_cons (pv 0) pa_nil)))))), ?_⟩
    refine ⟨_, rfl, py2 d, .str "none", dp2 r p1, .str _, p2, by decide +kernel, ?_⟩
    rw [eqv_str]
    have k' : Q (.bl (at2 (isStrA "none") d || at2 name0 d)) H := k
    refine ⟨_, rfl, ?_⟩
    cases hn : at2 (isStrA "none") d with
    | true => rw [hn] at k'; exact iteSe hn k'
    | false => rw [hn] at k'; exact iteSf hn ⟨_, rfl, b, x, d, rfl, r, l, k'⟩
abbrev s_may_bring : Stmt := top 22
abbrev n_may_bring : List Str := ["value", "comes", "goes"]
theorem sc_may_bring : FnScope n_may_bring ["value", "comes", "goes"] (defScope s_may_bring) := ⟨rfl, rfl, rfl, by decide +kernel, rfl, by decide +kernel, by decide +kernel⟩
def spMay (Z : Nat → Addr) : Sp := fun vs H Q _ => ∃ (b : Addr) (x : V) (d : D2) (c g : Bool), vs = [x, .bl c, .bl g] ∧ Rel2 Z b H x d ∧ Q (.bl (mayB d c g)) H
theorem ok_may {Z : Nat → Addr} (T : Txt mg) (OZ : ∀ k, ObjK K (Z k)) (F : DefAt K mg "may_bring" s_may_bring ["value", "comes", "goes"]) : Has P w K mg base 1 "may_bring" ["value", "comes", "goes"] (spMay Z) := by
  refine F.has sc_may_bring (fun vs H Q E h => ?_) (fun f cdv A outer s H vs Q E hr h => ?_)
  · obtain ⟨b, x, d, c, g, rfl, _⟩ := h
    rfl
  · obtain ⟨b, x, d, c, g, rfl, r, k⟩ := h
    refine ⟨_, (pss_one (ps_ret (pe_and (pe_callB call_isi (by rfl) T.z_isinstance (by decide +kernel) (pa_cons (pv 0) (pa_cons (pe_bltn (v := .ty "bool") (by rfl) T.z_bool (by decide +kernel) rfl) pa_nil))) (pe_and (pe_or (pv 0) (pe_one (pe_not (pv 1)))) (pe_one (pe_not (pe_and (pv 0) (pe_one (pv 2))))))))), ?_⟩
    obtain ⟨t1, h1, k1⟩ := ty_bool OZ r
    refine ⟨_, rfl, _, _, t1, _, _, rfl, .ty _, h1, k1, _, rfl, ?_⟩
    cases d with
    | s t xs => exact iteSf rfl k
    | a y =>
      cases y with
      | non => exact iteSf rfl k
      | int i => exact iteSf rfl k
      | str s => exact iteSf rfl k
      | obj j => exact iteSf rfl k
      | bl v =>
        cases (show x = .bl v from r)
        refine iteSe rfl ?_
        cases v with
        | true =>
          refine ⟨_, rfl, _, rfl, iteSe rfl ⟨_, rfl, iteSe rfl ⟨_, rfl, _, rfl, iteSe rfl ⟨_, rfl, _, rfl, ?_⟩⟩⟩⟩
          cases c <;> exact k
        | false =>
          refine ⟨_, rfl, _, rfl, iteSf rfl ⟨_, rfl, _, rfl, _, rfl, ?_⟩⟩
          cases c with
          | true => exact iteSf rfl k
          | false => exact iteSe rfl ⟨_, rfl, _, rfl, iteSf rfl ⟨_, rfl, k⟩⟩
end
end K14

set_option pp.maxSteps 600
namespace L2
open PySem PySem.Spec PyProof.Rows
theorem call_isi_in {X : Cx} {K : PySem.W.Frag} (e : X.K = K) : CallR X (.builtin "isinstance") (rIsi K) := by
  subst e; exact call_isi
end L2
namespace K14
open PySem L2 PySem.Spec PyProof.Rows
def at1 (f : Atom → Bool) : D1 → Bool
  | .a x => f x
  | _ => false
theorem at1_up (f : Atom → Bool) (d : D1) : at2 f d.up = at1 f d := by cases d <;> rfl
def strA : Atom → Str
  | .str s => s
  | _ => ""
def str1 : D1 → Str
  | .a x => strA x
  | _ => ""
/-- names, none of them twice -/
def namesB : D2 → Bool
  | .s _ xs => xs.all (at1 name0) && decide ((xs.map str1).Nodup)
  | _ => false
def noneB : D2 → Bool
  | .s _ xs => decide (xs.length = 1) && xs.all (at1 (isStrA "none"))
  | _ => false
def itemsD : D2 → List D1
  | .s _ xs => xs
  | _ => []
def lenB : D2 → Nat
  | .s _ xs => xs.length
  | _ => 0
def origB (d : D2) : Bool := isSeq2 d && (noneB d || (decide (0 < lenB d) && namesB d))
/-- an instance of a row -/
def rowA : Atom → Bool
  | .obj k => decide (k ≠ 0)
  | _ => false
def rowsB : D2 → Bool
  | .s _ xs => xs.all (at1 rowA)
  | _ => false
theorem eqv_none1 (d : D1) : PyData.eqv (py1 d) (.str "none") = at1 (isStrA "none") d := by
  cases d with
  | a x =>
    cases x with
    | str s =>
      show PyData.eqv (.str s) (.str "none") = decide (s = "none")
      by_cases h : s = "none"
      · subst h; simp [PyData.eqv]
      · simp [PyData.eqv, h]
    | _ => rfl
  | s t xs => cases t <;> rfl
theorem none_eqv (t : Bool) (xs : List D1) : PyData.eqv (.tuple (xs.map py1)) (.tuple [.str "none"]) = noneB (.s t xs) := by
  show _ = (decide (xs.length = 1) && xs.all (at1 (isStrA "none")))
  match xs with
  | [] => rfl
  | [x] =>
    have e := eqv_none1 x
    simp only [List.map_cons, List.map_nil, PyData.eqv, PyData.eqvAll, e, List.length_cons, List.length_nil, List.all_cons, List.all_nil, Bool.and_true]
    simp
  | x :: y :: zs => simp [PyData.eqv, PyData.eqvAll]
structure RowK (K : PySem.W.Frag) (Z : Nat → Addr) (RW : Addr) : Prop where
  nn : PySem.W.kitOne K (.type "NoneType") (.ref RW) = some false
  bl : PySem.W.kitOne K (.type "bool") (.ref RW) = some false
  int : PySem.W.kitOne K (.type "int") (.ref RW) = some false
  str : PySem.W.kitOne K (.type "str") (.ref RW) = some false
  lst : PySem.W.kitOne K (.type "list") (.ref RW) = some false
  tup : PySem.W.kitOne K (.type "tuple") (.ref RW) = some false
  obj : ∀ k, PySem.W.kitOne K (.ref (Z k)) (.ref RW) = some (decide (k ≠ 0))
theorem ty_row {K : PySem.W.Frag} {Z : Nat → Addr} {RW b : Addr} {H : Hp} {v : V} (OZ : ∀ k, ObjK K (Z k)) (R : RowK K Z RW) {d : D1} (h : Rel1 Z b H v d) : ∃ t, TyX K H v t ∧ PySem.W.kitOne K t (.ref RW) = some (at1 rowA d) := by
  cases d with
  | a x =>
    cases x with
    | non => cases (show v = .non from h); exact ⟨_, .base .non, R.nn⟩
    | bl c => cases (show v = .bl c from h); exact ⟨_, .base (.bl c), R.bl⟩
    | int i => cases (show v = .int i from h); exact ⟨_, .base (.int i), R.int⟩
    | str s => cases (show v = .str s from h); exact ⟨_, .base (.str s), R.str⟩
    | obj k => exact ⟨_, ty_obj OZ (k := k) h, R.obj k⟩
  | s t xs =>
    obtain ⟨p, as, rfl, _, e, _⟩ := h
    cases t
    · exact ⟨_, .base (.lst e), R.lst⟩
    · exact ⟨_, .base (.tup e), R.tup⟩
section
variable {P : Program} {w : World} {K : PySem.W.Frag} {mg : Str → Option Value} {base : Heap}
abbrev s_are_rows : Stmt := top 15
abbrev n_are_rows : List Str := ["value", "part"]
theorem sc_are_rows : FnScope n_are_rows ["value"] (defScope s_are_rows) := ⟨rfl, rfl, rfl, by decide +kernel, rfl, by decide +kernel, by decide +kernel⟩
def spRows (Z : Nat → Addr) : Sp := fun vs H Q _ => ∃ (b : Addr) (x : V) (d : D2), vs = [x] ∧ Rel2 Z b H x d ∧ lenB d ≤ 100 ∧ ∀ H', Same H H' → Q (.bl (rowsB d)) H'
theorem ok_rows {Z : Nat → Addr} {RW : Addr} (T : Txt mg) (OZ : ∀ k, ObjK K (Z k)) (R : RowK K Z RW) (mRow : mg "Row" = some (.ref RW)) (g_is_sequence : Has P w K mg base 1 "is_sequence" ["value"] (spSeq Z)) (F : DefAt K mg "are_rows" s_are_rows ["value"]) : Has P w K mg base 2 "are_rows" ["value"] (spRows Z) := by
  refine F.has sc_are_rows (fun vs H Q E h => ?_) (fun f cdv A outer s H vs Q E hr h => ?_)
  · obtain ⟨b, x, d, rfl, _⟩ := h
    rfl
  · obtain ⟨b, x, d, rfl, r, l, k⟩ := h
    refine ⟨_, (pss_one (ps_ret (pe_and (pe_callHas g_is_sequence (hr.mono (by decide)) rfl (pa_cons (pv 0) pa_nil)) (pe_one (pe_callB (cr_all rfl) (by rfl) T.z_all (by decide +kernel) (pa_cons (pe_lc (own := [("part", 1)]) (g := gName 1) (by rfl) sc_are_rows.nd (pi_seq (pv 0)) (blkOk_by (own := [("part", 1)]) (N := n_are_rows) (sc := defScope s_are_rows) (by decide +kernel)) (fun _ _ _ _ _ => (pg_name (i := 1) sc_are_rows.nd rfl (Or.inl rfl))) (fun _ _ _ _ _ => pts_nil) (fun _ _ _ _ _ => (pe_callB (call_isi_in (K := K) rfl) (by rfl) T.z_isinstance (by decide +kernel) (pa_cons (pv 1) (pa_cons (pe_glob (v := .ref RW) rfl mRow rfl) pa_nil))))) pa_nil)))))), ?_⟩
    refine ⟨_, rfl, b, x, d, rfl, r, fun H1 s1 => ⟨_, rfl, ?_⟩⟩
    cases d with
    | a y => exact iteSf rfl (k _ s1)
    | s t xs =>
      obtain ⟨a, as, rfl, na, ha, ps⟩ := id r
      have l1 : xs.length ≤ 100 := l
      have las := ps.len
      have k' : ∀ H', Same H H' → Q (.bl (xs.all (at1 rowA))) H' := k
      refine iteSe rfl ?_
      have el : (xs.map (at1 rowA)).length = xs.length := List.length_map _
      have st : ∀ (D : Addr) (i : Nat) (y : V) (H' : Hp), H1 D = none → Same H1 H' → H' D = some (.lst (((xs.map (at1 rowA)).take i).map V.bl)) → as[i]? = some y → ∃ t0, TyX K H' y t0 ∧ ∃ c, PySem.W.kitOne K t0 (.ref RW) = some c ∧ ∃ acc, H' D = some (.lst acc) ∧ acc.length < sizeLine ∧ Same H1 (upd H' D (.lst (acc ++ [V.bl c]))) ∧ upd H' D (.lst (acc ++ [V.bl c])) D = some (.lst (((xs.map (at1 rowA)).take (i + 1)).map V.bl)) := fun D i y H' hD sm hD' e1 => by
        obtain ⟨z, ez, fz⟩ := ps.at' e1
        obtain ⟨t0, h0, k0⟩ := ty_row OZ R (fz.kp (Kp.of (s1.trans sm)))
        refine ⟨t0, h0, _, k0, _, hD', ?_, fun y o w => by rw [upd_ne (ne_of_none w hD)]; exact sm _ _ w, ?_⟩
        · rw [List.length_map, List.length_take, el]; exact Nat.lt_of_le_of_lt (Nat.le_trans (Nat.min_le_right _ _) l1) (by decide)
        · rw [upd_same, List.take_add_one, List.getElem?_map, ez, List.map_append]; rfl
      have fin : ∀ (D : Addr) (H' : Hp), Same H1 H' → H' D = some (.lst (((xs.map (at1 rowA)).take as.length).map V.bl)) → SqL K H' D ((xs.map (at1 rowA)).map V.bl) ∧ Q (.bl ((xs.map (at1 rowA)).all id)) H' := fun D H' sm hD' => by
        rw [show as.length = (xs.map (at1 rowA)).length by rw [el]; exact las, List.take_length] at hD'
        refine ⟨SqL.of hD', ?_⟩
        have := k' _ (s1.trans sm)
        rw [List.all_map]
        exact this
      have ha1 := s1 _ _ ha
      cases t with
      | false =>
        have ha1 : H1 a = some (.lst as) := ha1
        refine .inl ⟨_, rfl, a, rfl, ⟨_, SqL.of ha1⟩, fun D hD => lc_it (walk_list (xs := as)) (fun i H' => Same H1 H' ∧ H' D = some (.lst (((xs.map (at1 rowA)).take i).map V.bl))) ⟨(new_at hD).1, upd_same⟩ (fun i H' _ z => SqL.of (z.1 _ _ ha1)) ?_ ?_⟩
        · rintro i y H' H'' hi ⟨sm, hD'⟩ ⟨rfl, e1⟩
          obtain ⟨t0, h0, c, k0, q⟩ := st D i y _ hD sm hD' e1
          exact ⟨rfl, _, rfl, _, _, t0, _, c, rfl, .own _, h0, k0, q⟩
        · rintro H' ⟨sm, hD'⟩
          obtain ⟨f1, f2⟩ := fin D H' sm hD'
          exact ⟨_, _, rfl, f1, f2⟩
      | true =>
        have ha1 : H1 a = some (.tup as) := ha1
        refine .inr ⟨_, rfl, a, rfl, ⟨_, SqT.of ha1⟩, fun D hD => lc_it (walk_tup (xs := as)) (fun i H' => Same H1 H' ∧ H' D = some (.lst (((xs.map (at1 rowA)).take i).map V.bl))) ⟨(new_at hD).1, upd_same⟩ (fun i H' _ z => SqT.of (z.1 _ _ ha1)) ?_ ?_⟩
        · rintro i y H' H'' hi ⟨sm, hD'⟩ ⟨rfl, e1⟩
          obtain ⟨t0, h0, c, k0, q⟩ := st D i y _ hD sm hD' e1
          exact ⟨rfl, _, rfl, _, _, t0, _, c, rfl, .own _, h0, k0, q⟩
        · rintro H' ⟨sm, hD'⟩
          obtain ⟨f1, f2⟩ := fin D H' sm hD'
          exact ⟨_, _, rfl, f1, f2⟩
/-- names, none twice: what the def that asks for them promises -/
def spNames (Z : Nat → Addr) : Sp := fun vs H Q _ => ∃ (b : Addr) (x : V) (d : D2), vs = [x] ∧ Rel2 Z b H x d ∧ lenB d ≤ 100 ∧ (∀ t xs, d = .s t xs → ∀ e ∈ xs, ∀ s, e = .a (.str s) → s.length ≤ 1000) ∧ ∀ H', Same H H' → Q (.bl (namesB d)) H'
abbrev s_are_origins : Stmt := top 21
abbrev n_are_origins : List Str := ["value"]
theorem sc_are_origins : FnScope n_are_origins ["value"] (defScope s_are_origins) := ⟨rfl, rfl, rfl, by decide +kernel, rfl, by decide +kernel, by decide +kernel⟩
def spOrig (Z : Nat → Addr) : Sp := fun vs H Q _ => ∃ (b : Addr) (x : V) (d : D2), vs = [x] ∧ Rel2 Z b H x d ∧ ok2 d = true ∧ SeqAt.shaped (.tuple ((itemsD d).map py1)) = true ∧ lenB d ≤ 100 ∧ (∀ t xs, d = .s t xs → ∀ e ∈ xs, ∀ s, e = .a (.str s) → s.length ≤ 1000) ∧ ∀ H', Same H H' → Q (.bl (origB d)) H'
theorem ok_orig {Z : Nat → Addr} (T : Txt mg) (OZ : ∀ k, ObjK K (Z k)) (g_is_sequence : Has P w K mg base 1 "is_sequence" ["value"] (spSeq Z)) (g_are_names : Has P w K mg base 3 "are_names" ["value"] (spNames Z)) (F : DefAt K mg "are_origins" s_are_origins ["value"]) : Has P w K mg base 4 "are_origins" ["value"] (spOrig Z) := by
  refine F.has sc_are_origins (fun vs H Q E h => ?_) (fun f cdv A outer s H vs Q E hr h => ?_)
  · obtain ⟨b, x, d, rfl, _⟩ := h
    rfl
  · have hu := hr.units
    obtain ⟨b, x, d, rfl, r, ok, sh, l, ls, k⟩ := h
    refine ⟨_, (pss_one (ps_ret (pe_and (pe_callHas g_is_sequence (hr.mono (by decide)) rfl (pa_cons (pv 0) pa_nil)) (pe_one (pe_or (pe_cmpR (op_eqD hu) (pe_callTy call_tuple_of (by rfl) T.z_tuple (by decide +kernel) (pa_cons (pv 0) pa_nil)) (pe_tup (pa_cons pe_str pa_nil)) (nomark _)) (pe_one (pe_and (pe_cmpR op_gt (pe_callB call_len (by rfl) T.z_len (by decide +kernel) (pa_cons (pv 0) pa_nil)) pe_int (nomark _)) (pe_one (pe_callHas g_are_names (hr.mono (by decide)) rfl (pa_cons (pv 0) pa_nil)))))))))), ?_⟩
    refine ⟨_, rfl, b, x, d, rfl, r, fun H1 s1 => ⟨_, rfl, ?_⟩⟩
    cases d with
    | a y => exact iteSf rfl (k _ s1)
    | s t xs =>
      have r1 := r.kp (Kp.of s1)
      obtain ⟨a, as, rfl, na, ha, ps⟩ := id r1
      have las := ps.len
      refine iteSe rfl ?_
      have plx : xs.all pl1 = true := (Bool.and_eq_true_iff.mp ok).1
      cases t with
      | false =>
        have ha' : H1 a = some (.lst as) := ha
        refine ⟨_, rfl, a, as, rfl, .inl ⟨SqL.of ha', fun p hp => ?_⟩⟩
        obtain ⟨s2, hp2⟩ := new_at (o := .tup as) hp
        refine ⟨(by decide : 1 ≤ sizeLine), fun q hq => ?_⟩
        obtain ⟨s3, hq3⟩ := new_at (o := .tup [V.str "none"]) hq
        refine ⟨.tuple (xs.map py1), .tuple [.str "none"], .tup (SqT.of (s3 _ _ hp2)) (dps (ps.mapP' fun _ _ z => z.kp (Kp.of (s2.trans s3))) plx fun _ _ => dp1), .tup (SqT.of hq3) (.cons (.str _) .nil), sh, by decide +kernel, ?_⟩
        rw [none_eqv]
        have s03 := s1.trans (s2.trans s3)
        refine ⟨_, rfl, ?_⟩
        cases hn : noneB (.s false xs) with
        | true =>
          have := k _ s03
          rw [show origB (.s false xs) = true by unfold origB; rw [hn]; rfl] at this
          exact iteSe rfl this
        | false =>
          refine iteSf rfl ?_
          refine ⟨_, rfl, _, _, rfl, .inl ⟨_, SqL.of (s3 _ _ (s2 _ _ ha')), rfl⟩, _, _, rfl, rfl, _, rfl, ?_⟩
          rw [las]
          by_cases h0 : 0 < xs.length
          · refine iteSe (decide_eq_true (by omega)) ?_
            refine ⟨_, rfl, b, _, .s false xs, rfl, r1.kp (Kp.of (s2.trans s3)), l, ls, fun H5 s5 => ?_⟩
            have := k H5 (s03.trans s5)
            rw [show origB (.s false xs) = namesB (.s false xs) by unfold origB; rw [hn]; show (true && (false || (decide (0 < xs.length) && _))) = _; rw [decide_eq_true h0]; simp] at this
            exact this
          · have := k _ s03
            rw [show origB (.s false xs) = false by unfold origB; rw [hn]; show (true && (false || (decide (0 < xs.length) && _))) = _; rw [decide_eq_false h0]; rfl] at this
            exact iteSf (decide_eq_false (by omega)) this
      | true =>
        have ha' : H1 a = some (.tup as) := ha
        refine ⟨_, rfl, a, as, rfl, .inr ⟨SqT.of ha', ?_⟩⟩
        have s2 : Same H1 H1 := Same.refl H1
        have hp2 := ha'
        refine ⟨(by decide : 1 ≤ sizeLine), fun q hq => ?_⟩
        obtain ⟨s3, hq3⟩ := new_at (o := .tup [V.str "none"]) hq
        refine ⟨.tuple (xs.map py1), .tuple [.str "none"], .tup (SqT.of (s3 _ _ hp2)) (dps (ps.mapP' fun _ _ z => z.kp (Kp.of (s2.trans s3))) plx fun _ _ => dp1), .tup (SqT.of hq3) (.cons (.str _) .nil), sh, by decide +kernel, ?_⟩
        rw [none_eqv]
        have s03 := s1.trans (s2.trans s3)
        refine ⟨_, rfl, ?_⟩
        cases hn : noneB (.s true xs) with
        | true =>
          have := k _ s03
          rw [show origB (.s true xs) = true by unfold origB; rw [hn]; rfl] at this
          exact iteSe rfl this
        | false =>
          refine iteSf rfl ?_
          refine ⟨_, rfl, _, _, rfl, .inr ⟨_, SqT.of (s3 _ _ ha'), rfl⟩, _, _, rfl, rfl, _, rfl, ?_⟩
          rw [las]
          by_cases h0 : 0 < xs.length
          · refine iteSe (decide_eq_true (by omega)) ?_
            refine ⟨_, rfl, b, _, .s true xs, rfl, r1.kp (Kp.of (s2.trans s3)), l, ls, fun H5 s5 => ?_⟩
            have := k H5 (s03.trans s5)
            rw [show origB (.s true xs) = namesB (.s true xs) by unfold origB; rw [hn]; show (true && (false || (decide (0 < xs.length) && _))) = _; rw [decide_eq_true h0]; simp] at this
            exact this
          · have := k _ s03
            rw [show origB (.s true xs) = false by unfold origB; rw [hn]; show (true && (false || (decide (0 < xs.length) && _))) = _; rw [decide_eq_false h0]; rfl] at this
            exact iteSf (decide_eq_false (by omega)) this
end
end K14

set_option pp.maxSteps 600
namespace K14
open PySem L2 PySem.Spec PyProof.Rows
theorem back {H H' : Hp} (s : Same H H') {d : Addr} (h : H' d = none) : H d = none := by
  cases e : H d with
  | none => rfl
  | some o => rw [s _ _ e] at h; cases h
def evD (n o k a g : Bool) : Str := if n then (if o then (if k then (if a then (if g then "made" else "group") else "amount") else "kind") else "origins") else "name"
def goesB (d : D2) : Bool := at2 (isStrA "none") d
def evDue (dn dO dk da dg : D2) : Str := evD (at2 name0 dn) (origB dO) (kindB dk && !(noneB dO && goesB dk)) (mayB da (noneB dO) (goesB dk)) (mayB dg (noneB dO) (goesB dk))
/-- strings that are no longer than any limit -/
def sh0 (d : D2) : Prop := ∀ s, d = .a (.str s) → s.length ≤ 1000
structure OrigOk (d : D2) : Prop where
  ok : ok2 d = true
  sh : SeqAt.shaped (.tuple ((itemsD d).map py1)) = true
  l : lenB d ≤ 100
  ls : ∀ t xs, d = .s t xs → ∀ e ∈ xs, ∀ s, e = .a (.str s) → s.length ≤ 1000
section
variable {P : Program} {w : World} {K : PySem.W.Frag} {mg : Str → Option Value} {base : Heap}
structure ClsE (K : PySem.W.Frag) (mg : Str → Option Value) (C : Addr) : Prop where
  cl : Cls K C
  n1 : NoAttr K C "name"
  n2 : NoAttr K C "origins"
  n3 : NoAttr K C "kind"
  n4 : NoAttr K C "amount"
  n5 : NoAttr K C "group"
  m : mg "Event" = some (.ref C)
abbrev s_Event_init : Stmt := inClass (top 23) 0
abbrev n_Event_init : List Str := ["self", "name", "origins", "kind", "amount", "group", "comes", "goes"]
theorem sc_Event_init : FnScope n_Event_init ["self", "name", "origins", "kind", "amount", "group"] (defScope s_Event_init) := ⟨rfl, rfl, rfl, by decide +kernel, rfl, by decide +kernel, by decide +kernel⟩
def spEvent (Z : Nat → Addr) (EV IR : Addr) : Sp := fun vs H Q E => ∃ (b x dx : Addr) (vn vo vk va vg : V) (dn dO dk da dg : D2), vs = [.ref x, vn, vo, vk, va, vg] ∧ H x = some (.ins EV dx []) ∧ Rel2 Z b H vn dn ∧ Rel2 Z b H vo dO ∧ Rel2 Z b H vk dk ∧ Rel2 Z b H va da ∧ Rel2 Z b H vg dg ∧ sh0 dn ∧ OrigOk dO ∧ ok2 dk = true ∧ sh0 dk ∧
  (evDue dn dO dk da dg = "made" → ∀ H', (∀ y o, y ≠ x → H y = some o → H' y = some o) → Q .non H') ∧
  ∀ p, evDue dn dO dk da dg = p → p ≠ "made" → ∀ (H' : Hp) (d : Addr), Same H H' → H d = none → H' d = some (.xd [("part", .str p)]) → E (.ref IR) (some d) H'
theorem ok_event {Z : Nat → Addr} {EV IR fI : Addr} {fd : FuncData} {d1 d2 : V} (T : Txt mg) (CE : ClsE K mg EV) (OZ : ∀ k, ObjK K (Z k)) (g_check : HasX P w K mg base 3 "check" ["holds", "part"] (spCheck IR)) (g_is_name : Has P w K mg base 1 "is_name" ["value"] (spName Z)) (g_are_origins : Has P w K mg base 4 "are_origins" ["value"] (spOrig Z)) (g_is_kind : Has P w K mg base 2 "is_kind" ["value"] (spKind Z)) (g_may_bring : Has P w K mg base 1 "may_bring" ["value", "comes", "goes"] (spMay Z))
    (F : FunD K "__init__" "Event.__init__" (defArgs s_Event_init) (defBody s_Event_init) (defScope s_Event_init) [d1, d2] [] fI fd) : FnOk P w K mg base (L2.CX P w) 6 fI fd ["self", "name", "origins", "kind", "amount", "group"] (spEvent Z EV IR) := by
  refine F.ok sc_Event_init (fun vs H Q E h => ?_) (fun cdv A outer s H vs Q E hr h => ?_)
  · obtain ⟨b, x, dx, vn, vo, vk, va, vg, dn, dO, dk, da, dg, rfl, _⟩ := h
    rfl
  · have hu := hr.units
    obtain ⟨b, x, dx, vn, vo, vk, va, vg, dn, dO, dk, da, dg, rfl, hx, rn, ro, rk, ra, rg, sn, so, okk, sk, kQ, kE⟩ := h
    refine ⟨_, (pss_cons (ps_expr (pe_callHasX g_check (hr.mono (by decide)) rfl (passOut rfl rfl rfl rfl) (pa_cons (pe_callHas g_is_name (hr.mono (by decide)) rfl (pa_cons (pv 1) pa_nil)) (pa_cons pe_str pa_nil))))
      (pss_cons (ps_expr (pe_callHasX g_check (hr.mono (by decide)) rfl (passOut rfl rfl rfl rfl) (pa_cons (pe_callHas g_are_origins (hr.mono (by decide)) rfl (pa_cons (pv 2) pa_nil)) (pa_cons pe_str pa_nil))))
      (pss_cons (ps_set (i := 6) sc_Event_init.nd rfl (Or.inl rfl) (pe_cmpR (op_eqD hu) (pe_callTy call_tuple_of (by rfl) T.z_tuple (by decide +kernel) (pa_cons (pv 2) pa_nil)) (pe_tup (pa_cons pe_str pa_nil)) (nomark _)))
      (pss_cons (ps_set (i := 7) sc_Event_init.nd rfl (Or.inl rfl) (pe_cmpR (op_eqD hu) (pv 3) pe_str (nomark _)))
      (pss_cons (ps_expr (pe_callHasX g_check (hr.mono (by decide)) rfl (passOut rfl rfl rfl rfl) (pa_cons (pe_and (pe_callHas g_is_kind (hr.mono (by decide)) rfl (pa_cons (pv 3) pa_nil)) (pe_one (pe_not (pe_and (pv 6) (pe_one (pv 7)))))) (pa_cons pe_str pa_nil))))
      (pss_cons (ps_expr (pe_callHasX g_check (hr.mono (by decide)) rfl (passOut rfl rfl rfl rfl) (pa_cons (pe_callHas g_may_bring (hr.mono (by decide)) rfl (pa_cons (pv 4) (pa_cons (pv 6) (pa_cons (pv 7) pa_nil)))) (pa_cons pe_str pa_nil))))
      (pss_cons (ps_expr (pe_callHasX g_check (hr.mono (by decide)) rfl (passOut rfl rfl rfl rfl) (pa_cons (pe_callHas g_may_bring (hr.mono (by decide)) rfl (pa_cons (pv 5) (pa_cons (pv 6) (pa_cons (pv 7) pa_nil)))) (pa_cons pe_str pa_nil))))
      (pss_cons (ps_fld (pv 0) (pv 1) rfl)
      (pss_cons (ps_fld (pv 0) (pe_callTy call_tuple_of (by rfl) T.z_tuple (by decide +kernel) (pa_cons (pv 2) pa_nil)) rfl)
      (pss_cons (ps_fld (pv 0) (pv 3) rfl)
      (pss_cons (ps_fld (pv 0) (pv 4) rfl)
      (pss_one (ps_fld (pv 0) (pv 5) rfl))))))))))))), ?_⟩
    have eD : evDue dn dO dk da dg = evD (at2 name0 dn) (origB dO) (kindB dk && !(noneB dO && goesB dk)) (mayB da (noneB dO) (goesB dk)) (mayB dg (noneB dO) (goesB dk)) := rfl
    refine ⟨_, rfl, b, _, dn, rfl, rn, sn, _, _, rfl, fun hN => ?_, fun hN H' d q1 q2 q3 => kE "name" (by rw [eD, hN]; rfl) (by decide +kernel) H' d q1 q2 q3⟩
    refine ⟨_, rfl, b, _, dO, rfl, ro, so.ok, so.sh, so.l, so.ls, fun H1 s1 => ⟨_, _, rfl, fun hO => ?_, fun hO H' d q1 q2 q3 => kE "origins" (by rw [eD, hN, hO]; rfl) (by decide +kernel) H' d (s1.trans q1) (back s1 q2) q3⟩⟩
    have ro1 := ro.kp (Kp.of s1)
    obtain ⟨t, xs, rfl⟩ : ∃ t xs, dO = .s t xs := by
      cases dO with
      | a y => cases hO
      | s t xs => exact ⟨t, xs, rfl⟩
    obtain ⟨a, as, rfl, na, ha, ps⟩ := id ro1
    have plx : xs.all pl1 = true := (Bool.and_eq_true_iff.mp so.ok).1
    have sh : SeqAt.shaped (.tuple (xs.map py1)) = true := so.sh
    obtain ⟨pk1, pk2⟩ := Bool.and_eq_true_iff.mp okk
    cases t with
    | false =>
        have ha' : H1 a = some (.lst as) := ha
        refine ⟨_, rfl, a, as, rfl, .inl ⟨SqL.of ha', fun p hp => ?_⟩⟩
        obtain ⟨s2, hp2⟩ := new_at (o := .tup as) hp
        refine ⟨(by decide : 1 ≤ sizeLine), fun q hq => ?_⟩
        obtain ⟨s3, hq3⟩ := new_at (o := .tup [V.str "none"]) hq
        refine ⟨.tuple (xs.map py1), .tuple [.str "none"], .tup (SqT.of (s3 _ _ hp2)) (dps (ps.mapP' fun _ _ z => z.kp (Kp.of (s2.trans s3))) plx fun _ _ => dp1), .tup (SqT.of hq3) (.cons (.str _) .nil), sh, by decide +kernel, ?_⟩
        rw [none_eqv]
        have sX := s1.trans (s2.trans s3)
        have hX := s3 _ _ (s2 _ _ ha')
        refine ⟨_, rfl, py2 dk, .str "none", dp2 (rk.kp (Kp.of sX)) pk1, .str _, pk2, by decide +kernel, ?_⟩
        rw [show PyData.eqv (py2 dk) (.str "none") = goesB dk from eqv_str dk "none"]
        refine ⟨_, rfl, b, _, dk, rfl, rk.kp (Kp.of sX), okk, sk, _, rfl, ?_⟩
        cases hk : kindB dk with
        | false => exact iteSf rfl ⟨_, _, rfl, (fun z => nomatch z), fun _ H' d q1 q2 q3 => kE "kind" (by rw [eD, hN, hO, hk]; rfl) (by decide +kernel) H' d (sX.trans q1) (back sX q2) q3⟩
        | true =>
          refine iteSe rfl ?_
          cases hc : noneB (.s false xs) with
          | true =>
            refine ⟨_, rfl, _, rfl, iteSe rfl ⟨_, rfl, _, rfl, _, _, rfl, fun cK => ?_, fun cK H' d q1 q2 q3 => kE "kind" (by rw [eD, hN, hO, hk, hc]; show evD true true (true && !(true && goesB dk)) _ _ = _; rw [Bool.true_and, Bool.true_and, cK]; rfl) (by decide +kernel) H' d (sX.trans q1) (back sX q2) q3⟩⟩
            have hK : (kindB dk && !(noneB (.s false xs) && goesB dk)) = true := by rw [hk, hc]; exact cK
            refine ⟨_, rfl, _, rfl, _, rfl, b, _, da, _, _, rfl, ra.kp (Kp.of sX), _, _, rfl, fun cA => ?_, fun cA H' d q1 q2 q3 => kE "amount" (by rw [eD, hN, hO, hK, hc, cA]; rfl) (by decide +kernel) H' d (sX.trans q1) (back sX q2) q3⟩
            refine ⟨_, rfl, _, rfl, _, rfl, b, _, dg, _, _, rfl, rg.kp (Kp.of sX), _, _, rfl, fun cG => ?_, fun cG H' d q1 q2 q3 => kE "group" (by rw [eD, hN, hO, hK, hc, cA, cG]; rfl) (by decide +kernel) H' d (sX.trans q1) (back sX q2) q3⟩
            have hx3 := sX _ _ hx
            have kq := kQ (by rw [eD, hN, hO, hK, hc, cA, cG]; rfl)
            have nax : a ≠ x := ne_of hX hx3 (fun z => nomatch z)
            refine ⟨_, rfl, _, rfl, x, EV, dx, _, rfl, hx3, CE.cl, CE.n1, (by show 0 < 1000; decide), ?_⟩
            refine ⟨_, rfl, a, as, rfl, .inl ⟨SqL.of ((upd_ne nax).trans hX), fun r hr => ?_⟩⟩
            have hxr := ne_of_none upd_same hr
            refine ⟨_, rfl, x, EV, dx, _, rfl, (upd_ne hxr).trans upd_same, CE.cl, CE.n2, (by show 1 < 1000; decide), ?_⟩
            refine ⟨_, rfl, _, rfl, x, EV, dx, _, rfl, upd_same, CE.cl, CE.n3, (by show 2 < 1000; decide), ?_⟩
            refine ⟨_, rfl, _, rfl, x, EV, dx, _, rfl, upd_same, CE.cl, CE.n4, (by show 3 < 1000; decide), ?_⟩
            refine ⟨_, rfl, _, rfl, x, EV, dx, _, rfl, upd_same, CE.cl, CE.n5, (by show 4 < 1000; decide), ?_⟩
            refine kq _ fun y o hy h0 => ?_
            have h1 := sX _ _ h0
            have hyr := ne_of_none ((upd_ne hy).trans h1) hr
            exact (upd_ne hy).trans ((upd_ne hy).trans ((upd_ne hy).trans ((upd_ne hy).trans ((upd_ne hyr).trans ((upd_ne hy).trans h1)))))
          | false =>
            refine ⟨_, rfl, _, rfl, iteSf rfl ⟨_, rfl, _, _, rfl, fun cK => ?_, (fun z => nomatch z)⟩⟩
            have hK : (kindB dk && !(noneB (.s false xs) && goesB dk)) = true := by rw [hk, hc]; rfl
            refine ⟨_, rfl, _, rfl, _, rfl, b, _, da, _, _, rfl, ra.kp (Kp.of sX), _, _, rfl, fun cA => ?_, fun cA H' d q1 q2 q3 => kE "amount" (by rw [eD, hN, hO, hK, hc, cA]; rfl) (by decide +kernel) H' d (sX.trans q1) (back sX q2) q3⟩
            refine ⟨_, rfl, _, rfl, _, rfl, b, _, dg, _, _, rfl, rg.kp (Kp.of sX), _, _, rfl, fun cG => ?_, fun cG H' d q1 q2 q3 => kE "group" (by rw [eD, hN, hO, hK, hc, cA, cG]; rfl) (by decide +kernel) H' d (sX.trans q1) (back sX q2) q3⟩
            have hx3 := sX _ _ hx
            have kq := kQ (by rw [eD, hN, hO, hK, hc, cA, cG]; rfl)
            have nax : a ≠ x := ne_of hX hx3 (fun z => nomatch z)
            refine ⟨_, rfl, _, rfl, x, EV, dx, _, rfl, hx3, CE.cl, CE.n1, (by show 0 < 1000; decide), ?_⟩
            refine ⟨_, rfl, a, as, rfl, .inl ⟨SqL.of ((upd_ne nax).trans hX), fun r hr => ?_⟩⟩
            have hxr := ne_of_none upd_same hr
            refine ⟨_, rfl, x, EV, dx, _, rfl, (upd_ne hxr).trans upd_same, CE.cl, CE.n2, (by show 1 < 1000; decide), ?_⟩
            refine ⟨_, rfl, _, rfl, x, EV, dx, _, rfl, upd_same, CE.cl, CE.n3, (by show 2 < 1000; decide), ?_⟩
            refine ⟨_, rfl, _, rfl, x, EV, dx, _, rfl, upd_same, CE.cl, CE.n4, (by show 3 < 1000; decide), ?_⟩
            refine ⟨_, rfl, _, rfl, x, EV, dx, _, rfl, upd_same, CE.cl, CE.n5, (by show 4 < 1000; decide), ?_⟩
            refine kq _ fun y o hy h0 => ?_
            have h1 := sX _ _ h0
            have hyr := ne_of_none ((upd_ne hy).trans h1) hr
            exact (upd_ne hy).trans ((upd_ne hy).trans ((upd_ne hy).trans ((upd_ne hy).trans ((upd_ne hyr).trans ((upd_ne hy).trans h1)))))
    | true =>
        have ha' : H1 a = some (.tup as) := ha
        refine ⟨_, rfl, a, as, rfl, .inr ⟨SqT.of ha', ?_⟩⟩
        have s2 : Same H1 H1 := Same.refl H1
        have hp2 := ha'
        refine ⟨(by decide : 1 ≤ sizeLine), fun q hq => ?_⟩
        obtain ⟨s3, hq3⟩ := new_at (o := .tup [V.str "none"]) hq
        refine ⟨.tuple (xs.map py1), .tuple [.str "none"], .tup (SqT.of (s3 _ _ hp2)) (dps (ps.mapP' fun _ _ z => z.kp (Kp.of (s2.trans s3))) plx fun _ _ => dp1), .tup (SqT.of hq3) (.cons (.str _) .nil), sh, by decide +kernel, ?_⟩
        rw [none_eqv]
        have sX := s1.trans (s2.trans s3)
        have hX := s3 _ _ (s2 _ _ ha')
        refine ⟨_, rfl, py2 dk, .str "none", dp2 (rk.kp (Kp.of sX)) pk1, .str _, pk2, by decide +kernel, ?_⟩
        rw [show PyData.eqv (py2 dk) (.str "none") = goesB dk from eqv_str dk "none"]
        refine ⟨_, rfl, b, _, dk, rfl, rk.kp (Kp.of sX), okk, sk, _, rfl, ?_⟩
        cases hk : kindB dk with
        | false => exact iteSf rfl ⟨_, _, rfl, (fun z => nomatch z), fun _ H' d q1 q2 q3 => kE "kind" (by rw [eD, hN, hO, hk]; rfl) (by decide +kernel) H' d (sX.trans q1) (back sX q2) q3⟩
        | true =>
          refine iteSe rfl ?_
          cases hc : noneB (.s true xs) with
          | true =>
            refine ⟨_, rfl, _, rfl, iteSe rfl ⟨_, rfl, _, rfl, _, _, rfl, fun cK => ?_, fun cK H' d q1 q2 q3 => kE "kind" (by rw [eD, hN, hO, hk, hc]; show evD true true (true && !(true && goesB dk)) _ _ = _; rw [Bool.true_and, Bool.true_and, cK]; rfl) (by decide +kernel) H' d (sX.trans q1) (back sX q2) q3⟩⟩
            have hK : (kindB dk && !(noneB (.s true xs) && goesB dk)) = true := by rw [hk, hc]; exact cK
            refine ⟨_, rfl, _, rfl, _, rfl, b, _, da, _, _, rfl, ra.kp (Kp.of sX), _, _, rfl, fun cA => ?_, fun cA H' d q1 q2 q3 => kE "amount" (by rw [eD, hN, hO, hK, hc, cA]; rfl) (by decide +kernel) H' d (sX.trans q1) (back sX q2) q3⟩
            refine ⟨_, rfl, _, rfl, _, rfl, b, _, dg, _, _, rfl, rg.kp (Kp.of sX), _, _, rfl, fun cG => ?_, fun cG H' d q1 q2 q3 => kE "group" (by rw [eD, hN, hO, hK, hc, cA, cG]; rfl) (by decide +kernel) H' d (sX.trans q1) (back sX q2) q3⟩
            have hx3 := sX _ _ hx
            have kq := kQ (by rw [eD, hN, hO, hK, hc, cA, cG]; rfl)
            have nax : a ≠ x := ne_of hX hx3 (fun z => nomatch z)
            refine ⟨_, rfl, _, rfl, x, EV, dx, _, rfl, hx3, CE.cl, CE.n1, (by show 0 < 1000; decide), ?_⟩
            refine ⟨_, rfl, a, as, rfl, .inr ⟨SqT.of ((upd_ne nax).trans hX), ?_⟩⟩
            refine ⟨_, rfl, x, EV, dx, _, rfl, upd_same, CE.cl, CE.n2, (by show 1 < 1000; decide), ?_⟩
            refine ⟨_, rfl, _, rfl, x, EV, dx, _, rfl, upd_same, CE.cl, CE.n3, (by show 2 < 1000; decide), ?_⟩
            refine ⟨_, rfl, _, rfl, x, EV, dx, _, rfl, upd_same, CE.cl, CE.n4, (by show 3 < 1000; decide), ?_⟩
            refine ⟨_, rfl, _, rfl, x, EV, dx, _, rfl, upd_same, CE.cl, CE.n5, (by show 4 < 1000; decide), ?_⟩
            refine kq _ fun y o hy h0 => ?_
            have h1 := sX _ _ h0
            exact (upd_ne hy).trans ((upd_ne hy).trans ((upd_ne hy).trans ((upd_ne hy).trans ((upd_ne hy).trans h1))))
          | false =>
            refine ⟨_, rfl, _, rfl, iteSf rfl ⟨_, rfl, _, _, rfl, fun cK => ?_, (fun z => nomatch z)⟩⟩
            have hK : (kindB dk && !(noneB (.s true xs) && goesB dk)) = true := by rw [hk, hc]; rfl
            refine ⟨_, rfl, _, rfl, _, rfl, b, _, da, _, _, rfl, ra.kp (Kp.of sX), _, _, rfl, fun cA => ?_, fun cA H' d q1 q2 q3 => kE "amount" (by rw [eD, hN, hO, hK, hc, cA]; rfl) (by decide +kernel) H' d (sX.trans q1) (back sX q2) q3⟩
            refine ⟨_, rfl, _, rfl, _, rfl, b, _, dg, _, _, rfl, rg.kp (Kp.of sX), _, _, rfl, fun cG => ?_, fun cG H' d q1 q2 q3 => kE "group" (by rw [eD, hN, hO, hK, hc, cA, cG]; rfl) (by decide +kernel) H' d (sX.trans q1) (back sX q2) q3⟩
            have hx3 := sX _ _ hx
            have kq := kQ (by rw [eD, hN, hO, hK, hc, cA, cG]; rfl)
            have nax : a ≠ x := ne_of hX hx3 (fun z => nomatch z)
            refine ⟨_, rfl, _, rfl, x, EV, dx, _, rfl, hx3, CE.cl, CE.n1, (by show 0 < 1000; decide), ?_⟩
            refine ⟨_, rfl, a, as, rfl, .inr ⟨SqT.of ((upd_ne nax).trans hX), ?_⟩⟩
            refine ⟨_, rfl, x, EV, dx, _, rfl, upd_same, CE.cl, CE.n2, (by show 1 < 1000; decide), ?_⟩
            refine ⟨_, rfl, _, rfl, x, EV, dx, _, rfl, upd_same, CE.cl, CE.n3, (by show 2 < 1000; decide), ?_⟩
            refine ⟨_, rfl, _, rfl, x, EV, dx, _, rfl, upd_same, CE.cl, CE.n4, (by show 3 < 1000; decide), ?_⟩
            refine ⟨_, rfl, _, rfl, x, EV, dx, _, rfl, upd_same, CE.cl, CE.n5, (by show 4 < 1000; decide), ?_⟩
            refine kq _ fun y o hy h0 => ?_
            have h1 := sX _ _ h0
            exact (upd_ne hy).trans ((upd_ne hy).trans ((upd_ne hy).trans ((upd_ne hy).trans ((upd_ne hy).trans h1))))
end
end K14

set_option pp.maxSteps 600
namespace K14
open PySem L2 PySem.Spec PyProof.Rows
theorem units5 {k : Nat} {A : Around} (r : Room (k + 1) A) : A.units + 65 < cLine := by have := r.un; omega
def isNonA : Atom → Bool
  | .non => true
  | _ => false
def optB (d : D2) : Bool := at2 isNonA d || at2 int0 d
def intA : Atom → Int
  | .int i => i
  | _ => 0
def int2 : D2 → Int
  | .a x => intA x
  | _ => 0
def whatD : List PyData := [.str "amount", .str "one"]
def whatB (d : D2) : Bool := whatD.any fun z => PyData.eqv z (py2 d)
def ltB (l b : D2) : Bool := at2 isNonA l || (at2 isNonA b || decide (int2 l < int2 b))
def wD (t k f w l b n : Bool) : Str := if t then (if k then (if f then (if w then (if l then (if b && n then "made" else "below") else "least") else "what") else "factor") else "kind") else "total"
def worthDue (dt dk df dw dl db : D2) : Str := wD (at2 name0 dt) (at2 name0 dk) (at2 int0 df) (whatB dw) (optB dl) (optB db) (ltB dl db)
section
variable {P : Program} {w : World} {K : PySem.W.Frag} {mg : Str → Option Value} {base : Heap}
structure ClsW (K : PySem.W.Frag) (mg : Str → Option Value) (C : Addr) : Prop where
  cl : Cls K C
  n1 : NoAttr K C "total"
  n2 : NoAttr K C "kind"
  n3 : NoAttr K C "factor"
  n4 : NoAttr K C "what"
  n5 : NoAttr K C "least"
  n6 : NoAttr K C "below"
  m : mg "Worth" = some (.ref C)
theorem non_of {Z : Nat → Addr} {b : Addr} {H : Hp} {v : V} {d : D2} (r : Rel2 Z b H v d) : decide (v = V.non) = at2 isNonA d := by
  cases d with
  | a x =>
    cases x with
    | non => cases (show v = .non from r); exact decide_eq_true rfl
    | bl c => cases (show v = .bl c from r); exact decide_eq_false fun z => nomatch z
    | int i => cases (show v = .int i from r); exact decide_eq_false fun z => nomatch z
    | str s => cases (show v = .str s from r); exact decide_eq_false fun z => nomatch z
    | obj k => obtain ⟨a, dx, fs, rfl, _⟩ := r; exact decide_eq_false fun z => nomatch z
  | s t xs => obtain ⟨p, as, rfl, _⟩ := r; exact decide_eq_false fun z => nomatch z
def isN : R2 := fun x y H Q => y = V.non ∧ Q (V.bl (decide (x = V.non))) H
theorem opt_go {Z : Nat → Addr} {b : Addr} {H : Hp} {y : V} {d : D2} {σ : L2.St} {i : Nat} {Q : VK} (hi : σ[i]? = some (some y)) (r : Rel2 Z b H y d) (q : Q (.bl (optB d)) H) : tOrV (tOp (fun x y H Q => y = V.non ∧ Q (V.bl (decide (x = V.non))) H) (tVar i) (tC V.non)) (tCall (spInt Z) [] E0 (tCons (tVar i) tNil)) σ H Q := by
  have nl := non_of r
  have q' : Q (.bl (at2 isNonA d || at2 int0 d)) H := q
  refine ⟨_, hi, rfl, _, rfl, ?_⟩
  cases hn : at2 isNonA d with
  | true =>
    rw [hn] at q'
    refine iteSe (nl.trans hn) ?_
    exact q'
  | false =>
    rw [hn] at q'
    exact iteSf (nl.trans hn) ⟨_, hi, b, _, d, rfl, r, q'⟩
theorem int_of {Z : Nat → Addr} {b : Addr} {H : Hp} {v : V} {d : D2} (r : Rel2 Z b H v d) (o : optB d = true) (n : at2 isNonA d = false) : v = .int (int2 d) := by
  cases d with
  | a x =>
    cases x with
    | int i => exact r
    | non => cases n
    | bl c => cases o
    | str s => cases o
    | obj k => cases o
  | s t xs => cases o
theorem lt_go {Z : Nat → Addr} {b : Addr} {H : Hp} {y z : V} {d e : D2} {σ : L2.St} {i j : Nat} {Q : VK} (hi : σ[i]? = some (some y)) (hj : σ[j]? = some (some z)) (r : Rel2 Z b H y d) (u : Rel2 Z b H z e) (od : optB d = true) (oe : optB e = true) (q : Q (.bl (ltB d e)) H) : tOrV (tOp (fun x y H Q => y = V.non ∧ Q (V.bl (decide (x = V.non))) H) (tVar i) (tC V.non)) (tOrV (tOp (fun x y H Q => y = V.non ∧ Q (V.bl (decide (x = V.non))) H) (tVar j) (tC V.non)) (tOp (rI0 fun i j => V.bl (decide (i < j))) (tVar i) (tVar j))) σ H Q := by
  have nl := non_of r
  have nb := non_of u
  have q' : Q (.bl (at2 isNonA d || (at2 isNonA e || decide (int2 d < int2 e)))) H := q
  refine ⟨_, hi, rfl, _, rfl, ?_⟩
  cases hn : at2 isNonA d with
  | true =>
    rw [hn] at q'
    refine iteSe (nl.trans hn) ?_
    exact q'
  | false =>
    rw [hn] at q'
    refine iteSf (nl.trans hn) ⟨_, hj, rfl, _, rfl, ?_⟩
    cases hm : at2 isNonA e with
    | true =>
      rw [hm] at q'
      refine iteSe (nb.trans hm) ?_
      exact q'
    | false =>
      rw [hm] at q'
      have e1 := int_of r od hn
      have e2 := int_of u oe hm
      subst e1 e2
      exact iteSf (nb.trans hm) ⟨_, hi, _, hj, _, _, rfl, rfl, q'⟩
abbrev s_Worth_init : Stmt := inClass (top 24) 0
abbrev n_Worth_init : List Str := ["self", "total", "kind", "factor", "what", "least", "below"]
theorem sc_Worth_init : FnScope n_Worth_init ["self", "total", "kind", "factor", "what", "least", "below"] (defScope s_Worth_init) := ⟨rfl, rfl, rfl, by decide +kernel, rfl, by decide +kernel, by decide +kernel⟩
def spWorth (Z : Nat → Addr) (EV IR : Addr) : Sp := fun vs H Q E => ∃ (b x dx : Addr) (vt vk vf vw vl vb : V) (dt dk df dw dl db : D2), vs = [.ref x, vt, vk, vf, vw, vl, vb] ∧ H x = some (.ins EV dx []) ∧ Rel2 Z b H vt dt ∧ Rel2 Z b H vk dk ∧ Rel2 Z b H vf df ∧ Rel2 Z b H vw dw ∧ Rel2 Z b H vl dl ∧ Rel2 Z b H vb db ∧ sh0 dt ∧ sh0 dk ∧ ok2 dw = true ∧
  (worthDue dt dk df dw dl db = "made" → ∀ H', (∀ y o, y ≠ x → H y = some o → H' y = some o) → Q .non H') ∧
  ∀ p, worthDue dt dk df dw dl db = p → p ≠ "made" → ∀ (H' : Hp) (d : Addr), Same H H' → H d = none → H' d = some (.xd [("part", .str p)]) → E (.ref IR) (some d) H'
theorem ok_worth {Z : Nat → Addr} {EV IR fI : Addr} {fd : FuncData} {d1 d2 : V} (T : Txt mg) (CE : ClsW K mg EV) (OZ : ∀ k, ObjK K (Z k)) (g_check : HasX P w K mg base 3 "check" ["holds", "part"] (spCheck IR)) (g_is_name : Has P w K mg base 1 "is_name" ["value"] (spName Z)) (g_is_integer : Has P w K mg base 1 "is_integer" ["value"] (spInt Z))
    (F : FunD K "__init__" "Worth.__init__" (defArgs s_Worth_init) (defBody s_Worth_init) (defScope s_Worth_init) [d1, d2] [] fI fd) : FnOk P w K mg base (L2.CX P w) 6 fI fd ["self", "total", "kind", "factor", "what", "least", "below"] (spWorth Z EV IR) := by
  refine F.ok sc_Worth_init (fun vs H Q E h => ?_) (fun cdv A outer s H vs Q E hr h => ?_)
  · obtain ⟨b, x, dx, vt, vk, vf, vw, vl, vb, dt, dk, df, dw, dl, db, rfl, _⟩ := h
    rfl
  · have hu := units5 (k := 4) hr
    obtain ⟨b, x, dx, vt, vk, vf, vw, vl, vb, dt, dk, df, dw, dl, db, rfl, hx, rt, rk, rf, rw', rl, rb, st, sk, okw, kQ, kE⟩ := h
    refine ⟨_, (pss_cons (ps_expr (pe_callHasX g_check (hr.mono (by decide)) rfl (passOut rfl rfl rfl rfl) (pa_cons (pe_callHas g_is_name (hr.mono (by decide)) rfl (pa_cons (pv 1) pa_nil)) (pa_cons pe_str pa_nil))))
      (pss_cons (ps_expr (pe_callHasX g_check (hr.mono (by decide)) rfl (passOut rfl rfl rfl rfl) (pa_cons (pe_callHas g_is_name (hr.mono (by decide)) rfl (pa_cons (pv 2) pa_nil)) (pa_cons pe_str pa_nil))))
      (pss_cons (ps_expr (pe_callHasX g_check (hr.mono (by decide)) rfl (passOut rfl rfl rfl rfl) (pa_cons (pe_callHas g_is_integer (hr.mono (by decide)) rfl (pa_cons (pv 3) pa_nil)) (pa_cons pe_str pa_nil))))
      (pss_cons (ps_expr (pe_callHasX g_check (hr.mono (by decide)) rfl (passOut rfl rfl rfl rfl) (pa_cons (pe_cmpR (op_inTD hu) (pv 4) (pe_tup (pa_cons pe_str (pa_cons pe_str pa_nil))) (by rfl)) (pa_cons pe_str pa_nil))))
      (pss_cons (ps_expr (pe_callHasX g_check (hr.mono (by decide)) rfl (passOut rfl rfl rfl rfl) (pa_cons (pe_or (pe_cmpR op_isN (pv 5) pe_non (nomark _)) (pe_one (pe_callHas g_is_integer (hr.mono (by decide)) rfl (pa_cons (pv 5) pa_nil)))) (pa_cons pe_str pa_nil))))
      (pss_cons (ps_expr (pe_callHasX g_check (hr.mono (by decide)) rfl (passOut rfl rfl rfl rfl) (pa_cons (pe_or (pe_cmpR op_isN (pv 6) pe_non (nomark _)) (pe_one (pe_callHas g_is_integer (hr.mono (by decide)) rfl (pa_cons (pv 6) pa_nil)))) (pa_cons pe_str pa_nil))))
      (pss_cons (ps_expr (pe_callHasX g_check (hr.mono (by decide)) rfl (passOut rfl rfl rfl rfl) (pa_cons (pe_or (pe_cmpR op_isN (pv 5) pe_non (nomark _)) (pe_or (pe_cmpR op_isN (pv 6) pe_non (nomark _)) (pe_one (pe_cmpR op_lt (pv 5) (pv 6) (nomark _))))) (pa_cons pe_str pa_nil))))
      (pss_cons (ps_fld (pv 0) (pv 1) rfl)
      (pss_cons (ps_fld (pv 0) (pv 2) rfl)
      (pss_cons (ps_fld (pv 0) (pv 3) rfl)
      (pss_cons (ps_fld (pv 0) (pv 4) rfl)
      (pss_cons (ps_fld (pv 0) (pv 5) rfl)
      (pss_one (ps_fld (pv 0) (pv 6) rfl)))))))))))))), ?_⟩
    have eD : worthDue dt dk df dw dl db = wD (at2 name0 dt) (at2 name0 dk) (at2 int0 df) (whatB dw) (optB dl) (optB db) (ltB dl db) := rfl
    obtain ⟨pw1, pw2⟩ := Bool.and_eq_true_iff.mp okw
    refine ⟨_, rfl, b, _, dt, rfl, rt, st, _, _, rfl, fun c1 => ?_, fun c1 H' d q1 q2 q3 => kE "total" (by rw [eD, c1]; rfl) (by decide +kernel) H' d q1 q2 q3⟩
    refine ⟨_, rfl, b, _, dk, rfl, rk, sk, _, _, rfl, fun c2 => ?_, fun c2 H' d q1 q2 q3 => kE "kind" (by rw [eD, c1, c2]; rfl) (by decide +kernel) H' d q1 q2 q3⟩
    refine ⟨_, rfl, b, _, df, rfl, rf, _, _, rfl, fun c3 => ?_, fun c3 H' d q1 q2 q3 => kE "factor" (by rw [eD, c1, c2, c3]; rfl) (by decide +kernel) H' d q1 q2 q3⟩
    refine ⟨_, rfl, (by decide : 2 ≤ sizeLine), fun t ht => ?_⟩
    obtain ⟨s1, h1⟩ := new_at (o := .tup [V.str "amount", V.str "one"]) ht
    refine ⟨py2 dw, whatD, dp2 (rw'.kp (Kp.of s1)) pw1, .tup (SqT.of h1) (.cons (.str _) (.cons (.str _) .nil)), pw2, by decide +kernel, ?_⟩
    refine ⟨_, _, rfl, fun c4 => ?_, fun c4 H' d q1 q2 q3 => kE "what" (by rw [eD, c1, c2, c3, show whatB dw = false from c4]; rfl) (by decide +kernel) H' d (s1.trans q1) (back s1 q2) q3⟩
    have c4 : whatB dw = true := c4
    have r5 := rl.kp (Kp.of s1)
    have r6 := rb.kp (Kp.of s1)
    refine opt_go rfl r5 ⟨_, _, rfl, fun c5 => ?_, fun c5 H' d q1 q2 q3 => kE "least" (by rw [eD, c1, c2, c3, c4, c5]; rfl) (by decide +kernel) H' d (s1.trans q1) (back s1 q2) q3⟩
    refine opt_go rfl r6 ⟨_, _, rfl, fun c6 => ?_, fun c6 H' d q1 q2 q3 => kE "below" (by rw [eD, c1, c2, c3, c4, c5, c6]; rfl) (by decide +kernel) H' d (s1.trans q1) (back s1 q2) q3⟩
    refine lt_go rfl rfl r5 r6 c5 c6 ⟨_, _, rfl, fun c7 => ?_, fun c7 H' d q1 q2 q3 => kE "below" (by rw [eD, c1, c2, c3, c4, c5, c6, c7]; rfl) (by decide +kernel) H' d (s1.trans q1) (back s1 q2) q3⟩
    have kq := kQ (by rw [eD, c1, c2, c3, c4, c5, c6, c7]; rfl)
    refine ⟨_, rfl, _, rfl, x, EV, dx, _, rfl, s1 _ _ hx, CE.cl, CE.n1, (by show 0 < 1000; decide), ?_⟩
    refine ⟨_, rfl, _, rfl, x, EV, dx, _, rfl, upd_same, CE.cl, CE.n2, (by show 1 < 1000; decide), ?_⟩
    refine ⟨_, rfl, _, rfl, x, EV, dx, _, rfl, upd_same, CE.cl, CE.n3, (by show 2 < 1000; decide), ?_⟩
    refine ⟨_, rfl, _, rfl, x, EV, dx, _, rfl, upd_same, CE.cl, CE.n4, (by show 3 < 1000; decide), ?_⟩
    refine ⟨_, rfl, _, rfl, x, EV, dx, _, rfl, upd_same, CE.cl, CE.n5, (by show 4 < 1000; decide), ?_⟩
    refine ⟨_, rfl, _, rfl, x, EV, dx, _, rfl, upd_same, CE.cl, CE.n6, (by show 5 < 1000; decide), ?_⟩
    refine kq _ fun y o hy h0 => ?_
    have h1 := s1 _ _ h0
    exact (upd_ne hy).trans ((upd_ne hy).trans ((upd_ne hy).trans ((upd_ne hy).trans ((upd_ne hy).trans ((upd_ne hy).trans h1)))))
end
end K14

set_option pp.maxSteps 600
namespace L2
open PySem PySem.Spec PyProof.Rows
/-- what is never asked -/
def eNever : TE := fun _ _ _ => False
theorem pe_nev {X : Cx} {e : Expr} : PE X e eNever := ⟨fun _ _ _ _ _ _ h => h.elim⟩
end L2
namespace K14
open PySem L2 PySem.Spec PyProof.Rows
section
variable {P : Program} {w : World} {K : PySem.W.Frag} {mg : Str → Option Value} {base : Heap}
structure ClsH (K : PySem.W.Frag) (mg : Str → Option Value) (C : Addr) : Prop where
  cl : Cls K C
  n1 : NoAttr K C "event"
  n2 : NoAttr K C "rows"
  m : mg "Handler" = some (.ref C)
def handDue (de dr : D2) : Str := if at2 name0 de then (if rowsB dr then "made" else "row") else "event"
abbrev s_Handler_init : Stmt := inClass (top 25) 0
abbrev n_Handler_init : List Str := ["self", "event", "rows"]
theorem sc_Handler_init : FnScope n_Handler_init ["self", "event", "rows"] (defScope s_Handler_init) := ⟨rfl, rfl, rfl, by decide +kernel, rfl, by decide +kernel, by decide +kernel⟩
def spHandler (Z : Nat → Addr) (EV IR : Addr) : Sp := fun vs H Q E => ∃ (b x dx : Addr) (ve vr : V) (de dr : D2), vs = [.ref x, ve, vr] ∧ H x = some (.ins EV dx []) ∧ Rel2 Z b H ve de ∧ sh0 de ∧ (at2 name0 de = true → Rel2 Z b H vr dr ∧ lenB dr ≤ 100) ∧
  (handDue de dr = "made" → ∀ H', (∀ y o, y ≠ x → H y = some o → H' y = some o) → Q .non H') ∧
  ∀ p, handDue de dr = p → p ≠ "made" → ∀ (H' : Hp) (d : Addr), Same H H' → H d = none → H' d = some (.xd [("part", .str p)]) → E (.ref IR) (some d) H'
theorem ok_handler {Z : Nat → Addr} {EV IR fI : Addr} {fd : FuncData} {d1 : V} (T : Txt mg) (CE : ClsH K mg EV) (g_check : HasX P w K mg base 3 "check" ["holds", "part"] (spCheck IR)) (g_is_name : Has P w K mg base 1 "is_name" ["value"] (spName Z)) (g_are_rows : Has P w K mg base 2 "are_rows" ["value"] (spRows Z))
    (F : FunD K "__init__" "Handler.__init__" (defArgs s_Handler_init) (defBody s_Handler_init) (defScope s_Handler_init) [d1] [] fI fd) : FnOk P w K mg base (L2.CX P w) 6 fI fd ["self", "event", "rows"] (spHandler Z EV IR) := by
  refine F.ok sc_Handler_init (fun vs H Q E h => ?_) (fun cdv A outer s H vs Q E hr h => ?_)
  · obtain ⟨b, x, dx, ve, vr, de, dr, rfl, _⟩ := h
    rfl
  · obtain ⟨b, x, dx, ve, vr, de, dr, rfl, hx, re, se, kr, kQ, kE⟩ := h
    refine ⟨_, (pss_cons (ps_expr (pe_callHasX g_check (hr.mono (by decide)) rfl (passOut rfl rfl rfl rfl) (pa_cons (pe_callHas g_is_name (hr.mono (by decide)) rfl (pa_cons (pv 1) pa_nil)) (pa_cons pe_str pa_nil))))
      (pss_cons (ps_expr (pe_callHasX g_check (hr.mono (by decide)) rfl (passOut rfl rfl rfl rfl) (pa_cons (pe_callHas g_are_rows (hr.mono (by decide)) rfl (pa_cons (pv 2) pa_nil)) (pa_cons pe_str pa_nil))))
      (pss_cons (ps_fld (pv 0) (pv 1) rfl)
      (pss_one (ps_fld (pv 0) (pe_callTy call_tuple_of (by rfl) T.z_tuple (by decide +kernel) (pa_cons (pv 2) pa_nil)) rfl))))), ?_⟩
    refine ⟨_, rfl, b, _, de, rfl, re, se, _, _, rfl, fun c1 => ?_, fun c1 H' d q1 q2 q3 => kE "event" (by unfold handDue; rw [c1]; rfl) (by decide +kernel) H' d q1 q2 q3⟩
    obtain ⟨rr, lr⟩ := kr c1
    refine ⟨_, rfl, b, _, dr, rfl, rr, lr, fun H1 s1 => ⟨_, _, rfl, fun c2 => ?_, fun c2 H' d q1 q2 q3 => kE "row" (by unfold handDue; rw [c1, c2]; rfl) (by decide +kernel) H' d (s1.trans q1) (back s1 q2) q3⟩⟩
    have kq := kQ (by unfold handDue; rw [c1, c2]; rfl)
    have hx1 := s1 _ _ hx
    refine ⟨_, rfl, _, rfl, x, EV, dx, _, rfl, hx1, CE.cl, CE.n1, (by show 0 < 1000; decide), ?_⟩
    obtain ⟨t, xs, rfl⟩ : ∃ t xs, dr = .s t xs := by
      cases dr with
      | a y => cases c2
      | s t xs => exact ⟨t, xs, rfl⟩
    obtain ⟨a, as, rfl, na, ha, ps⟩ := id rr
    have ha1 := s1 _ _ ha
    cases t with
    | false =>
      have ha1 : H1 a = some (.lst as) := ha1
      have nax : a ≠ x := ne_of ha1 hx1 (fun z => nomatch z)
      refine ⟨_, rfl, a, as, rfl, .inl ⟨SqL.of ((upd_ne nax).trans ha1), fun r hr => ?_⟩⟩
      have hxr := ne_of_none upd_same hr
      refine ⟨_, rfl, x, EV, dx, _, rfl, (upd_ne hxr).trans upd_same, CE.cl, CE.n2, (by show 1 < 1000; decide), ?_⟩
      refine kq _ fun y o hy h0 => ?_
      have h1 := s1 _ _ h0
      have hyr := ne_of_none ((upd_ne hy).trans h1) hr
      exact (upd_ne hy).trans ((upd_ne hyr).trans ((upd_ne hy).trans h1))
    | true =>
      have ha1 : H1 a = some (.tup as) := ha1
      have nax : a ≠ x := ne_of ha1 hx1 (fun z => nomatch z)
      refine ⟨_, rfl, a, as, rfl, .inr ⟨SqT.of ((upd_ne nax).trans ha1), ?_⟩⟩
      refine ⟨_, rfl, x, EV, dx, _, rfl, upd_same, CE.cl, CE.n2, (by show 1 < 1000; decide), ?_⟩
      refine kq _ fun y o hy h0 => ?_
      exact (upd_ne hy).trans ((upd_ne hy).trans (s1 _ _ h0))
structure ClsM (K : PySem.W.Frag) (mg : Str → Option Value) (C : Addr) : Prop where
  cl : Cls K C
  n1 : NoAttr K C "place"
  m : mg "Mark" = some (.ref C)
abbrev s_Mark_init : Stmt := inClass (top 19) 0
abbrev n_Mark_init : List Str := ["self", "place"]
theorem sc_Mark_init : FnScope n_Mark_init ["self", "place"] (defScope s_Mark_init) := ⟨rfl, rfl, rfl, by decide +kernel, rfl, by decide +kernel, by decide +kernel⟩
/-- Mark("old"), which is right -/
def spMark (C : Addr) : Sp := fun vs H Q _ => ∃ (x dx : Addr), vs = [.ref x, .str "old"] ∧ H x = some (.ins C dx []) ∧ ∀ H', (∀ y o, y ≠ x → H y = some o → H' y = some o) → (∃ fs, H' x = some (.ins C dx fs)) → Q .non H'
theorem ok_mark {C IR fI : Addr} {fd : FuncData} (T : Txt mg) (CE : ClsM K mg C) (g_check : HasX P w K mg base 3 "check" ["holds", "part"] (spCheck IR))
    (F : FunD K "__init__" "Mark.__init__" (defArgs s_Mark_init) (defBody s_Mark_init) (defScope s_Mark_init) [] [] fI fd) : FnOk P w K mg base (L2.CX P w) 4 fI fd ["self", "place"] (spMark C) := by
  refine F.ok sc_Mark_init (fun vs H Q E h => ?_) (fun cdv A outer s H vs Q E hr h => ?_)
  · obtain ⟨x, dx, rfl, _⟩ := h
    rfl
  · have hu := units5 (k := 2) hr
    obtain ⟨x, dx, rfl, hx, kQ⟩ := h
    refine ⟨_, (pss_cons (ps_expr (pe_callHasX g_check (hr.mono (by decide)) rfl (passOut rfl rfl rfl rfl) (pa_cons (pe_cmpR (op_inTD hu) (pv 1) (pe_tup (pa_cons pe_str (pa_cons pe_str (pa_cons pe_str pa_nil)))) (by rfl)) (pa_cons pe_str pa_nil))))
      (pss_one (ps_fld (pv 0) (pv 1) rfl))), ?_⟩
    refine ⟨_, rfl, (by decide : 3 ≤ sizeLine), fun t ht => ?_⟩
    obtain ⟨s1, h1⟩ := new_at (o := .tup [V.str "old", V.str "new", V.str "none"]) ht
    refine ⟨.str "old", [.str "old", .str "new", .str "none"], .str _, .tup (SqT.of h1) (.cons (.str _) (.cons (.str _) (.cons (.str _) .nil))), by decide +kernel, by decide +kernel, ?_⟩
    refine ⟨true, _, rfl, fun _ => ?_, fun z => nomatch z⟩
    refine ⟨_, rfl, _, rfl, x, C, dx, _, rfl, s1 _ _ hx, CE.cl, CE.n1, (by show 0 < 1000; decide), ?_⟩
    exact kQ _ (fun y o hy h0 => (upd_ne hy).trans (s1 _ _ h0)) ⟨_, upd_same⟩
abbrev s_Moved_eq : Stmt := inClass (top 17) 0
abbrev n_Moved_eq : List Str := ["self", "other"]
theorem sc_Moved_eq : FnScope n_Moved_eq ["self", "other"] (defScope s_Moved_eq) := ⟨rfl, rfl, rfl, by decide +kernel, rfl, by decide +kernel, by decide +kernel⟩
/-- == with a text, which is never so -/
def spMovedEq : Sp := fun vs H Q _ => ∃ (a : Addr) (s : Str), vs = [.ref a, .str s] ∧ Q (.bl false) H
theorem ok_movedEq {CM fI : Addr} {fd : FuncData} (T : Txt mg) (mMoved : mg "Moved" = some (.ref CM)) (kS : PySem.W.kitOne K (.type "str") (.ref CM) = some false) (F : Fun K "__eq__" "Moved.__eq__" s_Moved_eq fI fd) : FnOk P w K mg base CX0 1 fI fd ["self", "other"] spMovedEq := by
  refine F.ok sc_Moved_eq (fun vs H Q E h => ?_) (fun cdv A outer s H vs Q E hr h => ?_)
  · obtain ⟨a, s, rfl, _⟩ := h
    rfl
  · obtain ⟨a, s, rfl, k⟩ := h
    refine ⟨_, (pss_one (ps_ret (pe_and (pe_callB call_isi (by rfl) T.z_isinstance (by decide +kernel) (pa_cons (pv 1) (pa_cons (pe_glob (v := .ref CM) rfl mMoved rfl) pa_nil))) (pe_one pe_nev)))), ?_⟩
    exact ⟨_, rfl, _, _, .type "str", _, false, rfl, .own _, .base (.str s), kS, _, rfl, iteSf rfl k⟩
end
end K14

/-! set(xs), xs a list or tuple of some texts, and how many unlike ones there are -/
namespace SX
open PySem PySem.Spec PyProof.Rows
/-- c of the first i texts are unlike -/
structure Cnt (xs : List Str) (i c : Nat) : Prop where
  le : c ≤ i
  iff : c = i ↔ (xs.take i).Nodup
theorem Cnt.zero (xs : List Str) : Cnt xs 0 0 := ⟨Nat.le_refl _, by simp⟩
theorem Cnt.next {xs : List Str} {i c : Nat} {x : Str} (h : Cnt xs i c) (e : xs[i]? = some x) : Cnt xs (i + 1) (if decide (x ∈ xs.take i) = true then c else c + 1) := by
  have t : xs.take (i + 1) = xs.take i ++ [x] := by rw [List.take_add_one, e]; rfl
  have l := h.le
  by_cases m : x ∈ xs.take i
  · rw [if_pos (decide_eq_true m)]
    refine ⟨by omega, ⟨fun z => by omega, fun z => ?_⟩⟩
    rw [t, List.nodup_append] at z
    exact absurd rfl (z.2.2 x m x (List.mem_singleton.mpr rfl))
  · rw [if_neg (by rw [decide_eq_false m]; decide)]
    refine ⟨by omega, ?_⟩
    rw [t, List.nodup_append]
    refine ⟨fun z => ⟨h.iff.mp (by omega), by simp, fun a ha b hb => ?_⟩, fun z => by have := h.iff.mpr z.1; omega⟩
    rw [List.mem_singleton.mp hb]
    exact fun e => m (e ▸ ha)
/-- the texts of the first i -/
def upTo (xs : List Str) (i : Nat) : Str → Bool := fun k => decide (k ∈ xs.take i)
theorem upTo_next {xs : List Str} {i : Nat} {x : Str} (e : xs[i]? = some x) (k : Str) : (upTo xs i k || decide (k = x)) = upTo xs (i + 1) k := by
  unfold upTo
  rw [List.take_add_one, e]
  simp [Bool.decide_or]
section
variable {prog : Program} {w : World} {A : Around} {R : Result → Shared → Prop} {I D : Addr} {fp wr : List Addr} {G : Array GenState → Array GenState → Prop} {P : Nat → Value → Prop} {St : Nat → Shared → Prop}
theorem set_still {s s' : Shared} {S : Str → Bool} {c : Nat} (m : Moved wr G s s') (n : D ∉ wr) (h : s.heap.SetOf (PySem.strKind prog w) D S c) : s'.heap.SetOf (PySem.strKind prog w) D S c :=
  let ⟨o, es, ep, t, ho, r⟩ := h
  ⟨o, es, ep, t, m.heap D o n ho, r⟩
theorem texts_in {xs : List Str} (W : WalksS prog w A.in1 I fp wr G xs.length P St) (nD : D ∉ fp) (hv : ∀ i v, P i v → ∃ x t, xs[i]? = some x ∧ v = .str x t) (hb : xs.length < 4000) :
    ∀ (k i c : Nat) (s : Shared), xs.length - i = k → i ≤ xs.length → Cnt xs i c → St i s → s.heap.SetOf (PySem.strKind prog w) D (upTo xs i) c →
      (∀ s' c', Moved (D :: wr) G s s' → Cnt xs xs.length c' → s'.heap.SetOf (PySem.strKind prog w) D (upTo xs xs.length) c' → R (.ok (.ret .none)) s') →
      codeAny (model prog w) A (.builtin "set.update.loop" ⟨[.ref D, .ref I], []⟩) R s := by
  have nw : D ∉ wr := fun h => nD (W.sub _ h)
  have sb : ∀ b ∈ wr, b ∈ D :: wr := fun b h => List.mem_cons_of_mem _ h
  intro k
  induction k with
  | zero =>
    intro i c s hk hi hc st hS out
    obtain rfl : i = xs.length := by omega
    refine codeAny_builtin F.entry_set_update_loop ?_
    rw [Around.under_plainId F.plain_set_update_loop _]
    unfold Builtin.«set.update.loop»
    refine wpAny_bind (W.done s _ _ st fun s1 m => ?_)
    first
      | exact wpAny_pure (out s1 c (m.mono sb) hc (set_still m nw hS))
      | exact wpAny_bind (wpAny_pure (wpAny_pure (out s1 c (m.mono sb) hc (set_still m nw hS))))
  | succ k ih =>
    intro i c s hk hi hc st hS out
    have hlt : i < xs.length := by omega
    refine codeAny_builtin F.entry_set_update_loop ?_
    rw [Around.under_plainId F.plain_set_update_loop _]
    unfold Builtin.«set.update.loop»
    refine wpAny_bind (W.item i s _ _ hlt st fun v s1 p st1 m => ?_)
    obtain ⟨x, t, ex, rfl⟩ := hv i v p
    have l := hc.le
    have hS1 := set_still m nw hS
    show wpAny _ A.in1 (holding [Value.str x t] (setAdd D (.str x t)) >>= _) _ _ s1
    unfold setAdd
    refine wpAny_bind (wpAny_holding (wpAny_holding (wpAny_bind ((PySem.strKind prog w).pyHash (k := x) (strKind_is _ _ _ _) ?_))))
    refine wpAny_setAddHashed_of (knd := PySem.strKind prog w) (s := { s1 with toks := s1.toks + 1 }) (strKind_is _ _ _ _) rfl hS1 (by unfold scanBound; omega) fun h2 b2 hS2 => ?_
    refine wpAny_pure ⟨plainId_quiet F.plain_set_update_loop _, ih (i + 1) _ _ (by omega) hlt (hc.next ex) (W.frame _ s1 _ _ st1 (Nat.le_succ _) fun b hb o e => ?_) (SetOf_congr hS2 (upTo_next ex) rfl) fun s3 c3 m3 hc3 hS3 => ?_⟩
    · exact (b2.2 b fun z => nD (z ▸ hb)).trans e
    · refine out s3 c3 (Moved.trans W.gtrans ((m.mono sb).then_heap (Nat.le_succ _) fun b o hb e => ?_) m3) hc3 hS3
      exact (b2.2 b fun z => hb (z ▸ List.mem_cons_self)).trans e
end
section
variable {prog : Program} {w : World} {A : Around} {E : Value → Shared → Prop} {s : Shared}
def fresh (led : Bool) : Obj := { cls := .type "set", dict := none, data := .set #[] 0 (.fresh 0 0 led) }
/-- the class set called: a fresh set, then its __init__ -/
theorem set_made {v : Value} {Q : Value → Shared → Prop} (hh : A.handled = none)
    (h : ∀ (led : Bool) (B : Around), B.handled = none → codeAny (model prog w) B (.call (.builtin "set.__init__") ⟨[.ref s.heap.objs.size, v], []⟩) (wants (fun r s₂ => r = .none ∧ Q (.ref s.heap.objs.size) s₂) E) { s with heap := s.heap.push (fresh led) }) :
    wpAny (model prog w) A (call (.type "set") [v]) Q E s := by
  obtain ⟨c, tl, o1⟩ := F.called_set.mro
  have o2 := F.called_set.made
  have o3 := F.called_set.sub
  have o4 := F.called_set.notType
  have o5 := F.called_set.canCreate
  have o6 := F.typeCall_set_1 v
  refine wpAny_call (codeAny_of_tree ?_)
  show wpAny _ _ (callAny (.type "set") _) _ _ _
  refine wpAny_pure ⟨Code.quiet_builtin _ (by decide +kernel), codeAny_builtin F.entry_type_call ?_⟩
  rw [Around.under_plain (weight_type_call_type "set" [v] []) rfl]
  repeat (any_goals (first | assumption | wp_step))
  refine codeAny_mono (code_set_new_1 v (E := E) (Q₁ := fun o s₁ => ∃ led : Bool, o = .ref s.heap.objs.size ∧ s₁ = { s with heap := s.heap.push (fresh led) }) fun led => ⟨led, rfl, rfl⟩) fun r s1 hr => ?_
  match r, hr with
  | .error e, hr => exact hr
  | .ok (.ret o), hr =>
    obtain ⟨led, rfl, rfl⟩ := hr
    have hT : Shared.TypeIs { s with heap := s.heap.push (fresh led) } (.ref s.heap.objs.size) "set" := ⟨_, Heap.get?_push_size _ rfl, rfl⟩
    have o7 := F.called_set.init.lookup
    have o8 := F.called_set.init.bind (.ref s.heap.objs.size)
    repeat (any_goals (first | assumption | wp_step))
    refine codeAny_mono (h led _ (by simp [hh])) fun r2 s2 hr2 => ?_
    match r2, hr2 with
    | .error e, hr2 => exact hr2
    | .ok (.ret u), hr2 =>
      obtain ⟨rfl, q⟩ := hr2
      repeat (any_goals (first | assumption | wp_step))
    | .ok .next, hr2 => exact hr2.elim
    | .ok .brk, hr2 => exact hr2.elim
    | .ok .cont, hr2 => exact hr2.elim
  | .ok .next, hr => exact hr.elim
  | .ok .brk, hr => exact hr.elim
  | .ok .cont, hr => exact hr.elim
/-- __init__ of a fresh set with a list of texts -/
theorem init_list {h0 : Heap} {g : Array GenState} {d : Drawn} {t0 : Nat} {os : OsState} {led : Bool} {B : Around} {l : Addr} {items : Array Value} {xs : List Str} {Q : Shared → Prop} (hB : B.handled = none) (hl : h0.IsList l items) (hx : StrsAre items.toList xs) (hb : xs.length < 4000)
    (q : ∀ (h' : Heap) (tk c : Nat), Cnt xs xs.length c → h'.SetOf (PySem.strKind prog w) h0.objs.size (upTo xs xs.length) c → (∀ b o, b < h0.objs.size → h0.get? b = some o → h'.get? b = some o) → Q ⟨h', g, d, tk, os⟩) :
    codeAny (model prog w) B (.call (.builtin "set.__init__") ⟨[.ref h0.objs.size, .ref l], []⟩) (wants (fun r s₂ => r = .none ∧ Q s₂) E) ⟨h0.push (fresh led), g, d, t0, os⟩ := by
  have hD : (h0.push (fresh led)).get? h0.objs.size = some (fresh led) := Heap.get?_push_size _ rfl
  obtain ⟨ol, o1, o2, nl, o3⟩ := id hl
  have hlD : l < h0.objs.size := Heap.lt_size o1
  obtain ⟨oc, od, dt, sl⟩ := ol
  simp only at o2 o3
  subst o2 o3
  have o4 := Heap.get?_push_of_some (fresh led) o1
  have o5 : (h0.push (fresh led)).IsList l items := ⟨_, o4, rfl, nl, rfl⟩
  have o6 := F.sub_list_set
  have o7 := F.sub_list_frozenset
  have o8 : (Value.type "list" == Value.type "dict") = false := by decide
  have sz : (h0.push (fresh led)).objs.size = h0.objs.size + 1 := Heap.size_push ..
  have ln : items.size = xs.length := by rw [← StrsAre.len_eq hx, Array.length_toList]
  refine codeAny_call_builtin F.called_set.init.plain F.entry_set_init (check_set_init_1 ⟨_, hD, rfl⟩ ?_)
  unfold Builtin.«set.__init__» noKeywords Builtin.Frozenset.updateFrom
  generalize gI : pyIter = PI
  wp_walk
  subst gI
  refine wpAny_pyIter_list o5 (wpAny_bind (wpAny_runValue ?_))
  have n1 : l ≠ (h0.push (fresh led)).objs.size := by rw [sz]; exact Nat.ne_of_lt (Nat.lt_succ_of_lt hlD)
  have n2 : h0.objs.size ∉ [(h0.push (fresh led)).objs.size, l] := by
    rw [sz]
    simp only [List.mem_cons, List.not_mem_nil, or_false, not_or]
    exact ⟨Nat.ne_of_lt (Nat.lt_succ_self _), (Nat.ne_of_lt hlD).symm⟩
  refine texts_in (xs := xs) (ln ▸ (Walks.list (by simp [hB]) _ l n1 items).toS) n2 (fun i v hv => ?_) hb (xs.length - 0) 0 0 _ rfl (Nat.zero_le _) (Cnt.zero xs) ⟨⟨_, Heap.get?_push_size _ rfl, rfl, rfl⟩, o5.push _⟩ ?_ fun s' c m hc hS => ?_
  · have e : items.toList[i]? = some v := by rw [Array.getElem?_toList]; exact hv
    obtain ⟨t, e2⟩ := SS.strs_at hx i v e
    have il : i < xs.length := by
      have := (List.getElem?_eq_some_iff.mp e).1
      rw [Array.length_toList, ln] at this
      exact this
    refine ⟨xs[i], t, List.getElem?_eq_getElem il, ?_⟩
    rw [e2, List.getD_eq_getElem?_getD, List.getElem?_eq_getElem il]; rfl
  · exact SetOf_congr ((setObjOf_fresh (knd := PySem.strKind prog w) led).setOf (Heap.get?_push_of_some _ hD) (by decide)) (fun _ => by simp [upTo]) rfl
  · obtain ⟨h', g2, d2, tk, os2⟩ := s'
    obtain rfl : g2 = g := m.gens
    obtain rfl : d2 = d := m.drawn
    obtain rfl : os2 = os := m.os
    refine wpAny_pure ?_
    show wpAny _ _ (ret Value.none) _ _ _
    refine wpAny_pure ⟨rfl, q h' tk c hc hS fun b o hb e => m.heap b o ?_ (Heap.get?_push_of_some _ (Heap.get?_push_of_some _ e))⟩
    rw [sz]
    simp only [List.mem_cons, List.not_mem_nil, or_false, not_or]
    exact ⟨Nat.ne_of_lt hb, Nat.ne_of_lt (Nat.lt_succ_of_lt hb)⟩
/-- __init__ of a fresh set with a tuple of texts -/
theorem init_tuple {h0 : Heap} {g : Array GenState} {d : Drawn} {t0 : Nat} {os : OsState} {led : Bool} {B : Around} {l : Addr} {items : Array Value} {xs : List Str} {Q : Shared → Prop} (hB : B.handled = none) (hl : h0.IsTuple l items) (hx : StrsAre items.toList xs) (hb : xs.length < 4000)
    (q : ∀ (h' : Heap) (tk c : Nat), Cnt xs xs.length c → h'.SetOf (PySem.strKind prog w) h0.objs.size (upTo xs xs.length) c → (∀ b o, b < h0.objs.size → h0.get? b = some o → h'.get? b = some o) → Q ⟨h', g, d, tk, os⟩) :
    codeAny (model prog w) B (.call (.builtin "set.__init__") ⟨[.ref h0.objs.size, .ref l], []⟩) (wants (fun r s₂ => r = .none ∧ Q s₂) E) ⟨h0.push (fresh led), g, d, t0, os⟩ := by
  have hD : (h0.push (fresh led)).get? h0.objs.size = some (fresh led) := Heap.get?_push_size _ rfl
  obtain ⟨ol, o1, o2, nl, o3⟩ := id hl
  have hlD : l < h0.objs.size := Heap.lt_size o1
  obtain ⟨oc, od, dt, sl⟩ := ol
  simp only at o2 o3
  subst o2 o3
  have o4 := Heap.get?_push_of_some (fresh led) o1
  have o5 : (h0.push (fresh led)).IsTuple l items := ⟨_, o4, rfl, nl, rfl⟩
  have o6 := F.sub_tuple_set
  have o7 := F.sub_tuple_frozenset
  have o8 : (Value.type "tuple" == Value.type "dict") = false := by decide
  have sz : (h0.push (fresh led)).objs.size = h0.objs.size + 1 := Heap.size_push ..
  have ln : items.size = xs.length := by rw [← StrsAre.len_eq hx, Array.length_toList]
  refine codeAny_call_builtin F.called_set.init.plain F.entry_set_init (check_set_init_1 ⟨_, hD, rfl⟩ ?_)
  unfold Builtin.«set.__init__» noKeywords Builtin.Frozenset.updateFrom
  generalize gI : pyIter = PI
  wp_walk
  subst gI
  refine wpAny_pyIter_tuple o5 (wpAny_bind (wpAny_runValue ?_))
  have n1 : l ≠ (h0.push (fresh led)).objs.size := by rw [sz]; exact Nat.ne_of_lt (Nat.lt_succ_of_lt hlD)
  have n2 : h0.objs.size ∉ [(h0.push (fresh led)).objs.size, l] := by
    rw [sz]
    simp only [List.mem_cons, List.not_mem_nil, or_false, not_or]
    exact ⟨Nat.ne_of_lt (Nat.lt_succ_self _), (Nat.ne_of_lt hlD).symm⟩
  refine texts_in (xs := xs) (ln ▸ (Walks.tuple (by simp [hB]) _ l n1 items).toS) n2 (fun i v hv => ?_) hb (xs.length - 0) 0 0 _ rfl (Nat.zero_le _) (Cnt.zero xs) ⟨⟨_, Heap.get?_push_size _ rfl, rfl, rfl⟩, o5.push _⟩ ?_ fun s' c m hc hS => ?_
  · have e : items.toList[i]? = some v := by rw [Array.getElem?_toList]; exact hv
    obtain ⟨t, e2⟩ := SS.strs_at hx i v e
    have il : i < xs.length := by
      have := (List.getElem?_eq_some_iff.mp e).1
      rw [Array.length_toList, ln] at this
      exact this
    refine ⟨xs[i], t, List.getElem?_eq_getElem il, ?_⟩
    rw [e2, List.getD_eq_getElem?_getD, List.getElem?_eq_getElem il]; rfl
  · exact SetOf_congr ((setObjOf_fresh (knd := PySem.strKind prog w) led).setOf (Heap.get?_push_of_some _ hD) (by decide)) (fun _ => by simp [upTo]) rfl
  · obtain ⟨h', g2, d2, tk, os2⟩ := s'
    obtain rfl : g2 = g := m.gens
    obtain rfl : d2 = d := m.drawn
    obtain rfl : os2 = os := m.os
    refine wpAny_pure ?_
    show wpAny _ _ (ret Value.none) _ _ _
    refine wpAny_pure ⟨rfl, q h' tk c hc hS fun b o hb e => m.heap b o ?_ (Heap.get?_push_of_some _ (Heap.get?_push_of_some _ e))⟩
    rw [sz]
    simp only [List.mem_cons, List.not_mem_nil, or_false, not_or]
    exact ⟨Nat.ne_of_lt hb, Nat.ne_of_lt (Nat.lt_succ_of_lt hb)⟩
end
end SX
namespace L2
open PySem PySem.Spec PyProof.Rows
/-- len(set(xs)): how many unlike texts stand in a list or tuple of texts -/
def tLenTexts (K : PySem.W.Frag) (ta : TE) : TE := fun σ H Q => ta σ H fun x H1 => ∃ (l : Addr) (xs : List Str), x = .ref l ∧ (SqL K H1 l (xs.map V.str) ∨ SqT K H1 l (xs.map V.str)) ∧ xs.length < 4000 ∧ ∀ c, SX.Cnt xs xs.length c → Q (.int (c : Nat)) H1
theorem pe_lenTexts {X : Cx} {K : PySem.W.Frag} {a : Expr} {ta : TE} {p p2 q pos : Pos} (eK : X.K = K) (hc : X.calm = true) (hg : Gl X "len") (hm : X.mg "len" = none) (hg2 : Gl X "set") (hm2 : X.mg "set" = none) (ha : PE X a ta)
    (na : starEach [a] X.env = (false, eval a X.env) :: starEach [] X.env := by rfl) : PE X (.Call (.Name "len" p) [.Call (.Name "set" p2) [a] [] q] [] pos) (tLenTexts K ta) := by
  subst eK
  refine ⟨fun pins s σ H Q I h => Call_ (ld_blt I hg hm boot_len (callWith_builtin1 (args_cons (Call_ (ld_blt I hg2 hm2 boot_set ?_)) rfl) rfl rfl))⟩
  refine callWith_type1 (args_cons (thn (ha.run pins s σ H _ I h) fun v s1 ⟨x, H1, I1, r1, q1⟩ => args_nil ?_) na) na rfl
  obtain ⟨l, xs, rfl, sq, lx, q1⟩ := q1
  cases r1
  obtain ⟨h1, g1, d1, t1, os1⟩ := s1
  have go : ∀ (h' : Heap) (tk c : Nat), SX.Cnt xs xs.length c → h'.SetOf (PySem.strKind X.prog X.w) h1.objs.size (SX.upTo xs xs.length) c → (∀ b o, b < h1.objs.size → h1.get? b = some o → h'.get? b = some o) →
      wpAny (model X.prog X.w) X.A (spliced (backTo pos (starEach [] X.env))) (fun vs s₂ => wpAny (model X.prog X.w) X.A (call (.builtin "len") (Value.ref h1.objs.size :: vs)) (EP X pins σ Q) X.xe s₂) X.xe ⟨h', g1, d1, tk, os1⟩ := fun h' tk c hC hS k => by
    have J : Inv X pins σ H1 ⟨h', g1, d1, tk, os1⟩ := I1.kept fun b o e => k b o (Heap.lt_size e) e
    obtain ⟨o, es, ep, t, ho, hex, hd, _, _, _, hf, hn⟩ := hS
    have := hC.le
    exact args_nil (call_len_set ho hex hd hf (by rw [hn]; omega) ⟨.int (c : Nat), H1, J.tok _, ⟨_, by rw [hn]⟩, q1 c hC⟩)
  refine SX.set_made (I1.ok.hd hc) fun led B hB => ?_
  rcases sq with sq | sq
  · obtain ⟨its, r, pl, _⟩ := I1.list sq
    exact SX.init_list (Q := fun s₂ => wpAny (model X.prog X.w) X.A (spliced (backTo pos (starEach [] X.env))) (fun vs s₂ => wpAny (model X.prog X.w) X.A (call (.builtin "len") (Value.ref h1.objs.size :: vs)) (EP X pins σ Q) X.xe s₂) X.xe s₂) hB pl.isList (by simpa using strsAre_of r) lx go
  · obtain ⟨its, r, pl, _⟩ := I1.tuple sq
    exact SX.init_tuple (Q := fun s₂ => wpAny (model X.prog X.w) X.A (spliced (backTo pos (starEach [] X.env))) (fun vs s₂ => wpAny (model X.prog X.w) X.A (call (.builtin "len") (Value.ref h1.objs.size :: vs)) (EP X pins σ Q) X.xe s₂) X.xe s₂) hB pl (by simpa using strsAre_of r) lx go
end L2

set_option pp.maxSteps 600
namespace K14
open PySem L2 PySem.Spec PyProof.Rows
theorem str_of1 {Z : Nat → Addr} {b : Addr} {H : Hp} {v : V} {d : D1} (h : Rel1 Z b H v d) (n : at1 name0 d = true) : v = .str (str1 d) := by
  cases d with
  | a x =>
    cases x with
    | str s => exact h
    | _ => cases n
  | s t xs => cases n
theorem strs_of1 {Z : Nat → Addr} {b : Addr} {H : Hp} {as : List V} {xs : List D1} (h : Paired (Rel1 Z b H) as xs) (n : xs.all (at1 name0) = true) : as = (xs.map str1).map V.str := by
  induction h with
  | nil => rfl
  | cons r _ ih =>
    rw [List.all_cons, Bool.and_eq_true] at n
    rw [List.map_cons, List.map_cons, ← ih n.2, str_of1 r n.1]
theorem cnt_eq {xs : List Str} {c : Nat} (h : SX.Cnt xs xs.length c) : decide (V.int (c : Nat) = V.int ((xs.map V.str).length : Nat)) = decide xs.Nodup := by
  rw [List.length_map]
  have e := h.iff
  rw [List.take_length] at e
  refine decide_eq_decide.mpr ⟨fun z => e.mp ?_, fun z => by rw [e.mpr z]⟩
  injection z with z
  exact Int.ofNat.inj z
section
variable {P : Program} {w : World} {K : PySem.W.Frag} {mg : Str → Option Value} {base : Heap}
abbrev s_are_names : Stmt := top 6
abbrev n_are_names : List Str := ["value", "part"]
theorem sc_are_names : FnScope n_are_names ["value"] (defScope s_are_names) := ⟨rfl, rfl, rfl, by decide +kernel, rfl, by decide +kernel, by decide +kernel⟩
theorem ok_names {Z : Nat → Addr} (T : Txt mg) (OZ : ∀ k, ObjK K (Z k)) (g_is_sequence : Has P w K mg base 1 "is_sequence" ["value"] (spSeq Z)) (g_is_name : Has P w K mg base 1 "is_name" ["value"] (spName Z)) (F : DefAt K mg "are_names" s_are_names ["value"]) : Has P w K mg base 3 "are_names" ["value"] (spNames Z) := by
  refine F.has sc_are_names (fun vs H Q E h => ?_) (fun f cdv A outer s H vs Q E hr h => ?_)
  · obtain ⟨b, x, d, rfl, _⟩ := h
    rfl
  · obtain ⟨b, x, d, rfl, r, l, ls, k⟩ := h
    refine ⟨_, (pss_one (ps_ret (pe_and (pe_callHas g_is_sequence (hr.mono (by decide)) rfl (pa_cons (pv 0) pa_nil)) (pe_and (pe_callB (cr_all rfl) (by rfl) T.z_all (by decide +kernel) (pa_cons (pe_lc (own := [("part", 1)]) (g := gName 1) (by rfl) sc_are_names.nd (pi_seq (pv 0)) (blkOk_by (own := [("part", 1)]) (N := n_are_names) (sc := defScope s_are_names) (by decide +kernel)) (fun _ _ _ _ _ => (pg_name (i := 1) sc_are_names.nd rfl (Or.inl rfl))) (fun _ _ _ _ _ => pts_nil) (fun _ _ _ _ _ => (pe_callHas g_is_name (hr.mono (by decide)) rfl (pa_cons (pv 1) pa_nil)))) pa_nil)) (pe_one (pe_cmpR op_eq (pe_lenTexts (K := K) rfl rfl (by rfl) T.z_len (by rfl) T.z_set (pv 0)) (pe_callB call_len (by rfl) T.z_len (by decide +kernel) (pa_cons (pv 0) pa_nil)) (nomark _))))))), ?_⟩
    refine ⟨_, rfl, b, x, d, rfl, r, fun H1 s1 => ⟨_, rfl, ?_⟩⟩
    cases d with
    | a y => exact iteSf rfl (k _ s1)
    | s t xs =>
      obtain ⟨a, as, rfl, na, ha, ps⟩ := id r
      have l1 : xs.length ≤ 100 := l
      have las := ps.len
      have k' : ∀ H', Same H H' → Q (.bl (xs.all (at1 name0) && decide ((xs.map str1).Nodup))) H' := k
      refine iteSe rfl ?_
      have el : (xs.map (at1 name0)).length = xs.length := List.length_map _
      have st : ∀ (D : Addr) (i : Nat) (y : V) (H' : Hp), H1 D = none → Same H1 H' → H' D = some (.lst (((xs.map (at1 name0)).take i).map V.bl)) → as[i]? = some y → ∃ z : D1, Rel1 Z b H' y z ∧ (∀ s, z.up = .a (.str s) → s.length ≤ 1000) ∧ ∃ acc, H' D = some (.lst acc) ∧ acc.length < sizeLine ∧ Same H1 (upd H' D (.lst (acc ++ [V.bl (at2 name0 z.up)]))) ∧ upd H' D (.lst (acc ++ [V.bl (at2 name0 z.up)])) D = some (.lst (((xs.map (at1 name0)).take (i + 1)).map V.bl)) := fun D i y H' hD sm hD' e1 => by
        obtain ⟨z, ez, fz⟩ := ps.at' e1
        refine ⟨z, fz.kp (Kp.of (s1.trans sm)), fun s e => ls _ _ rfl z (List.mem_of_getElem? ez) s ?_, _, hD', ?_, fun y o w => by rw [upd_ne (ne_of_none w hD)]; exact sm _ _ w, ?_⟩
        · cases z with
          | a x => exact D2.a.inj e ▸ rfl
          | s t xs => cases e
        · rw [List.length_map, List.length_take, el]; exact Nat.lt_of_le_of_lt (Nat.le_trans (Nat.min_le_right _ _) l1) (by decide)
        · rw [upd_same, List.take_add_one, List.getElem?_map, ez, List.map_append, at1_up]; rfl
      have fin : ∀ (D : Addr) (H' : Hp), Same H1 H' → H' D = some (.lst (((xs.map (at1 name0)).take as.length).map V.bl)) → SqL K H' D ((xs.map (at1 name0)).map V.bl) := fun D H' sm hD' => by
        rw [show as.length = (xs.map (at1 name0)).length by rw [el]; exact las, List.take_length] at hD'
        exact SqL.of hD'
      have ha1 := s1 _ _ ha
      cases t with
      | false =>
        have ha1 : H1 a = some (.lst as) := ha1
        refine .inl ⟨_, rfl, a, rfl, ⟨_, SqL.of ha1⟩, fun D hD => lc_it (walk_list (xs := as)) (fun i H' => Same H1 H' ∧ H' D = some (.lst (((xs.map (at1 name0)).take i).map V.bl))) ⟨(new_at hD).1, upd_same⟩ (fun i H' _ z => SqL.of (z.1 _ _ ha1)) ?_ ?_⟩
        · rintro i y H' H'' hi ⟨sm, hD'⟩ ⟨rfl, e1⟩
          obtain ⟨z, fz, lz, q⟩ := st D i y _ hD sm hD' e1
          exact ⟨rfl, _, rfl, b, y, z.up, rfl, fz.up, lz, q⟩
        · rintro H' ⟨sm, hD'⟩
          refine ⟨_, _, rfl, fin D H' sm hD', _, rfl, ?_⟩
          rw [List.all_map]
          cases hn : xs.all (at1 name0) with
          | false =>
            have kk := k' _ (s1.trans sm)
            rw [hn] at kk
            exact iteSf hn kk
          | true =>
            have es := strs_of1 ps hn
            have sq : SqL K H' a ((xs.map str1).map V.str) := by rw [← es]; exact SqL.of (sm _ _ ha1)
            refine iteSe hn ⟨_, rfl, a, xs.map str1, rfl, .inl sq, by rw [List.length_map]; exact Nat.lt_of_le_of_lt l1 (by decide), fun c hC => ?_⟩
            refine ⟨_, rfl, _, _, rfl, .inl ⟨_, sq, rfl⟩, ?_⟩
            refine ⟨rfl, ?_⟩
            have kk := k' _ (s1.trans sm)
            rw [hn, Bool.true_and] at kk
            rw [cnt_eq hC]
            exact kk
      | true =>
        have ha1 : H1 a = some (.tup as) := ha1
        refine .inr ⟨_, rfl, a, rfl, ⟨_, SqT.of ha1⟩, fun D hD => lc_it (walk_tup (xs := as)) (fun i H' => Same H1 H' ∧ H' D = some (.lst (((xs.map (at1 name0)).take i).map V.bl))) ⟨(new_at hD).1, upd_same⟩ (fun i H' _ z => SqT.of (z.1 _ _ ha1)) ?_ ?_⟩
        · rintro i y H' H'' hi ⟨sm, hD'⟩ ⟨rfl, e1⟩
          obtain ⟨z, fz, lz, q⟩ := st D i y _ hD sm hD' e1
          exact ⟨rfl, _, rfl, b, y, z.up, rfl, fz.up, lz, q⟩
        · rintro H' ⟨sm, hD'⟩
          refine ⟨_, _, rfl, fin D H' sm hD', _, rfl, ?_⟩
          rw [List.all_map]
          cases hn : xs.all (at1 name0) with
          | false =>
            have kk := k' _ (s1.trans sm)
            rw [hn] at kk
            exact iteSf hn kk
          | true =>
            have es := strs_of1 ps hn
            have sq : SqT K H' a ((xs.map str1).map V.str) := by rw [← es]; exact SqT.of (sm _ _ ha1)
            refine iteSe hn ⟨_, rfl, a, xs.map str1, rfl, .inr sq, by rw [List.length_map]; exact Nat.lt_of_le_of_lt l1 (by decide), fun c hC => ?_⟩
            refine ⟨_, rfl, _, _, rfl, .inr ⟨_, sq, rfl⟩, ?_⟩
            refine ⟨rfl, ?_⟩
            have kk := k' _ (s1.trans sm)
            rw [hn, Bool.true_and] at kk
            rw [cnt_eq hC]
            exact kk
end
end K14

namespace L2
open PySem PySem.Spec PySem.Calls PyProof.Rows
/-- an instance of a class that has no __init__ but object's -/
def tMake00 (C : Addr) : TE := fun _ H Q => ∀ x dx, H x = none → H dx = none → dx ≠ x → Q (.ref x) (upd (upd H dx (.own x)) x (.ins C dx []))
structure Mk00 (K : PySem.W.Frag) (C : Addr) : Prop where
  makes : PySem.W.makesIn K C = true
  init : PySem.W.findIn K (.ref C) "__init__" = some (some (.builtin "object.__init__"))
  kp : PySem.W.keepIn K (.ref C) = true
theorem pe_make00 {X : Cx} {C : Addr} {x : Str} {p pos : Pos} (M : Mk00 X.K C) (hg : Gl X x) (hm : X.mg x = some (.ref C)) (hdb : (x == ("__debug__" : Str)) = false := by decide) : PE X (.Call (.Name x p) [] [] pos) (tMake00 C) := by
  refine ⟨fun pins s σ H Q I h => ?_⟩
  refine wpAny_Call_Name_kw (ld_glob I hg hm ?_ hdb)
  refine PySem.W.callWith_K0 I.kIn M.kp ?_
  have hq := h (s.heap.objs.size + 1) s.heap.objs.size (I.hok.fresh (Nat.le_succ _)) (I.hok.fresh (Nat.le_refl _)) (Nat.ne_of_lt (Nat.lt_succ_self _))
  have I2 := Inv.made (C := C) I
  have Y := PySem.W.makes_of (M := model X.prog X.w) I.kIn M.makes
  refine wpAny_call (make_map0 I.kIn M.makes M.init (fun self => PySem.W.Looks.of_pure (PySem.W.oi_bind self)) ?_)
  have hx : ((s.heap.push PySem.W.emptyDict).push (PySem.W.instObj C s.heap.objs.size)).get? (s.heap.objs.size + 1) = some (PySem.W.instObj C s.heap.objs.size) := by
    rw [show s.heap.objs.size + 1 = (s.heap.push PySem.W.emptyDict).objs.size from (Heap.size_push ..).symm]
    first | exact Heap.get?_push_size .. | exact Heap.get?_push_self .. | heap_get
  have t1 : PySem.W.Looks (model X.prog X.w) ((s.heap.push PySem.W.emptyDict).push (PySem.W.instObj C s.heap.objs.size)) (typeOf (.ref (s.heap.objs.size + 1))) (.ref C) := (PySem.W.Looks.ld hx).andThen .now
  have t2 : PySem.W.Looks (model X.prog X.w) ((s.heap.push PySem.W.emptyDict).push (PySem.W.instObj C s.heap.objs.size)) (isInstance (.ref (s.heap.objs.size + 1)) (.type "object")) true := t1.andThen (Y.top.keeps fun b o e => Heap.get?_push_of_some _ (Heap.get?_push_of_some _ e))
  refine codeAny_call_builtin PySem.W.oi_plain PySem.W.entry_oi (@PySem.W.check_slot (model X.prog X.w) _ _ { s with heap := (s.heap.push PySem.W.emptyDict).push (PySem.W.instObj C s.heap.objs.size) } "object.__init__" "object" "__init__" (.ref (s.heap.objs.size + 1)) [] [] _ PySem.W.oi_kind PySem.W.oi_split t2 (PySem.W.oi_args (.ref (s.heap.objs.size + 1))) ?_)
  rw [PySem.W.oi_run]
  exact wpAny_pure (And.intro rfl ⟨V.ref (s.heap.objs.size + 1), _, I2, rfl, hq⟩)
end L2

/-! x not in a list of texts, x an instance of a class whose own __eq__ says False to each -/
namespace OE
open PySem PySem.W PySem.SeqAt
open AutoSeq1 (wpAny_loadPart')
open MeetsSeq MeetsSeq2 MeetsSeq3 SeqRoads2
theorem str_eq_declines_plain (b : Str) (u : Tok) (l C dx : Addr) :
    Meets (Builtin.«str.__eq__» ⟨[.str b u, .ref l], []⟩) (fun _ R s => s.heap.get? l = some (instObj C dx) ∧ R (.ok (.ret .notImplemented)) s) :=
  .of_wp fun prog w A R s h => by obtain ⟨hp, g, d, tk, os⟩ := s; obtain ⟨hl, h⟩ := h; wp_walk using wpAny_loadPart' hl, wpAny_load hl; exact ⟨_, rfl, h⟩
section
variable {prog : Program} {w : World} {A : Around} {E : Value → Shared → Prop} {s : Shared} {K : Frag} {x C f dx : Addr} {od : Option Obj} {y : Str} {t : Tok}
theorem str_eq_own {Q : Value → Shared → Prop} (hu : A.units < cLine) (X : K.In s.heap) (J : InstAt s.heap x (instObj C dx) C od) (hst : subIn K (.ref C) (.type "str") = some false) (hs : findIn K (.ref C) "__eq__" = some (some (.ref f))) (hf : isFn K (.ref f) = true)
    (h : wpAny (model prog w) A (call (.ref f) [.ref x, .str y t]) (fun v s' => ∃ r, v = .bool r ∧ Q (.bool r) s') E s) : wpAny (model prog w) A (richCompare .Eq (.str y t) (.ref x)) Q E s := by
  have nots : ∀ Q' : Value → Shared → Prop, Q' .notImplemented s → wpAny (model prog w) A (call (.builtin "str.__eq__") [.str y t, .ref x]) Q' E s := fun Q' q => call_meets PySem.F.slot_str_eq (typeIs_str s y t) PySem.F.entry_str_eq (PySem.F.args_str_eq_2 _ _) (str_eq_declines_plain y t x C dx) ⟨J.at_, q⟩
  have one : wpAny (model prog w) A (tryCompare (.ref x) (cmpInfo .Eq).2.2 (.str y t)) (fun r s' => ∃ v, r = some v ∧ Q v s') E s := by
    unfold tryCompare
    refine wpAny_bind (ifBound_K X J hs hf (wpAny_mono h (fun v s' z => ?_) fun _ _ e => e))
    obtain ⟨r, rfl, q⟩ := z
    exact wpAny_pure ⟨_, rfl, q⟩
  have nt : (Value.type "str" != Value.ref C) = true := rfl
  unfold richCompare
  simp only [(typeIs_str s y t).oneThing_none]
  refine wpAny_holding (wpAny_bind (wpAny_cRoomFor hu ?_))
  refine wpAny_bind (wpAny_typeOf (typeIs_str s y t) (wpAny_bind (J.type.here ?_)))
  simp only [nt, if_true]
  refine wpAny_bind ((looks_subIn X hst).here ?_)
  simp only [Bool.false_eq_true, if_false, Bool.not_false, if_true]
  refine wpAny_bind (m := tryCompare (.str y t) _ (.ref x)) (wpAny_tryCompare_declines (typeIs_str s y t) PySem.F.slot_str_eq (nots _ ⟨rfl, ?_⟩))
  refine wpAny_bind (m := tryCompare (.ref x) _ (.str y t)) (wpAny_mono one (fun r s' z => ?_) fun _ _ e => e)
  obtain ⟨v, rfl, q⟩ := z
  exact wpAny_pure q
theorem eqBool_str_own {Q : Bool → Shared → Prop} (hu : A.units < cLine) (X : K.In s.heap) (J : InstAt s.heap x (instObj C dx) C od) (hst : subIn K (.ref C) (.type "str") = some false) (hs : findIn K (.ref C) "__eq__" = some (some (.ref f))) (hf : isFn K (.ref f) = true)
    (h : wpAny (model prog w) A (call (.ref f) [.ref x, .str y t]) (fun v s' => ∃ r, v = .bool r ∧ Q r s') E s) : wpAny (model prog w) A (eqBool (.str y t) (.ref x)) Q E s := by
  unfold eqBool
  refine wpAny_holding ?_
  have ne : (Value.str y t == Value.ref x) = false := rfl
  simp only [ne, Bool.false_eq_true, if_false]
  refine wpAny_bind (str_eq_own hu X J hst hs hf (wpAny_mono h (fun v s' z => ?_) fun _ _ e => e))
  obtain ⟨r, rfl, q⟩ := z
  exact ⟨r, rfl, wpAny_truthy_bool q⟩
end
end OE
namespace L2
open PySem PySem.Spec PyProof.Rows
section
variable {X : Cx} {CX : CXT} {C g : Addr} {k : Nat} {fd : FuncData} {ps : List Str} {sp : Sp} {E : XK}
theorem run_own2 {pins : List (Addr × Obj)} {s : Shared} {σ : St} {H : Hp} {vs : List V} {us : List Value} {Q : VK} {R : Value → Shared → Prop} {A : Around} (F : FnOk X.prog X.w X.K X.mg X.base CX k g fd ps sp) (hr : Room k A) (hA : A.frames = X.A.frames) (hb : Binds X.K fd ps []) (hx : Passes CX X E)
    (I : Inv X pins σ H s) (r : Vals vs us) (q : sp vs H Q E) (hR : ∀ (w : Value) (z : V) (s' : Shared) (H' : Hp), Inv X pins σ H' s' → RelV z w → Q z H' → R w s') : wpAny (model X.prog X.w) A (call (.ref g) us) R X.xe s := by
  have hl := F.len _ _ _ _ q
  have e0 : Env0 X.prog X.w X.K X.mg X.base A X.stack s H := by
    have e := I.env0
    exact ⟨hA.trans e.frames, e.mod, e.bs, e.bsz, e.funs, e.frf, e.hok, e.bare⟩
  refine wpAny_call (codeAny_mono (F.run A X.stack s H ⟨us, []⟩ us vs _ E hr e0 (by
    have := hb s us I.kIn (by rw [List.append_nil, ← r.length]; exact hl)
    simpa using this) r q) fun r' s' hq => ?_)
  cases r' with
  | error e => exact hx pins σ H s e s' I hq
  | ok fl =>
    cases fl with
    | ret w =>
      obtain ⟨z, H', I', rz, q'⟩ := I.after hq
      exact hR w z s' H' I' rz q'
    | next => exact False.elim hq
    | brk => exact False.elim hq
    | cont => exact False.elim hq
open AutoSeq1 (wpAny_loadPart') in
open MeetsSeq MeetsSeq2 MeetsSeq3 SeqRoads2 PySem.SeqAt in
theorem notIn_loop {pins : List (Addr × Obj)} {σ : St} {H : Hp} {A : Around} {R : Result → Shared → Prop} {l x : Addr} {ws : List Str} (hl : SqL X.K H l (ws.map V.str))
    (step : ∀ (y : Str) (t : Tok) (s : Shared), y ∈ ws → Inv X pins σ H s → wpAny (model X.prog X.w) A.in1 (eqBool (.str y t) (.ref x)) (fun r s' => r = false ∧ Inv X pins σ H s') (fun e s' => R (.error e) s') s)
    (fin : ∀ s, Inv X pins σ H s → R (.ok (.ret (.bool false))) s) : ∀ (k i : Nat) (s : Shared), ws.length - i = k → Inv X pins σ H s →
      wpAny (model X.prog X.w) A.in1 (Builtin.«list.__contains__.loop» ⟨[.ref l, .ref x, rawInt i], []⟩) (GQ.FinOf X.prog X.w A R) (fun e s' => R (.error e) s') s := by
  intro k
  induction k with
  | zero =>
    intro i s hk I
    obtain ⟨its, r, pl, _⟩ := I.list hl
    obtain ⟨⟨oc, od, dt, sl⟩, ho, hc, n, hd⟩ := pl.isList
    simp only at hc hd
    subst hc hd
    have sz : its.length = ws.length := by rw [← r.length, List.length_map]
    have e : its.toArray[((i : Nat) : Int).toNat]? = none := by simp; omega
    have q := fin s I
    obtain ⟨hp, g, d, tk, os⟩ := s
    wp_walk using wpAny_loadPart' ho
    rw [e]
    wp_walk
    exact q
  | succ k ih =>
    intro i s hk I
    obtain ⟨its, r, pl, _⟩ := I.list hl
    obtain ⟨⟨oc, od, dt, sl⟩, ho, hc, n, hd⟩ := pl.isList
    simp only at hc hd
    subst hc hd
    have sz : its.length = ws.length := by rw [← r.length, List.length_map]
    have hi : i < ws.length := by omega
    obtain ⟨u, eu, t, hu⟩ := r.get (i := i) (x := .str ws[i]) (by simp [hi])
    subst hu
    have e : its.toArray[((i : Nat) : Int).toNat]? = some (Value.str ws[i] t) := by simp [eu]
    have st := step ws[i] t s (List.getElem_mem hi) I
    have up : ((i : Int) + 1) = ((i + 1 : Nat) : Int) := by omega
    obtain ⟨hp, g, d, tk, os⟩ := s
    wp_walk using wpAny_loadPart' ho
    rw [e]
    refine wpAny_bind (wpAny_mono st (fun b s2 z => ?_) fun _ _ z => z)
    obtain ⟨rfl, I2⟩ := z
    have go := ih (i + 1) s2 (by omega) I2
    obtain ⟨hp2, g2, d2, tk2, os2⟩ := s2
    wp_walk
    rw [up]
    exact ⟨plainId_quiet plain_contains_loop _, codeAny_builtin entry_contains_loop (by
      rw [Around.under_plainId plain_contains_loop _]
      exact go)⟩
/-- x not in a list of texts, x of the own class C, whose own == with a text says False -/
def rNotInO (K : PySem.W.Frag) (C : Addr) (sp : Sp) (E : XK) : R2 := fun x y H Q => ∃ a dx fs l, ∃ ws : List Str, x = .ref a ∧ H a = some (.ins C dx fs) ∧ y = .ref l ∧ SqL K H l (ws.map V.str) ∧ (∀ w ∈ ws, ∀ Q' : VK, Q' (.bl false) H → sp [.ref a, .str w] H Q' E) ∧ Q (.bl true) H
open AutoSeq1 (wpAny_loadPart') in
open MeetsSeq MeetsSeq2 MeetsSeq3 SeqRoads2 PySem.SeqAt in
theorem op_notInO (hst : PySem.W.subIn X.K (.ref C) (.type "str") = some false) (hs : PySem.W.findIn X.K (.ref C) "__eq__" = some (some (.ref g))) (hf : PySem.W.isFn X.K (.ref g) = true) (F : FnOk X.prog X.w X.K X.mg X.base CX k g fd ps sp) (hr : Room (k + 3) X.A) (hb : Binds X.K fd ps []) (hx : Passes CX X E) :
    OpR X (compareOp .NotIn) (rNotInO X.K C sp E) := by
  intro pins s σ H x y v u Q I rx ry h
  obtain ⟨a, dx, fs, l, ws, rfl, ha, rfl, hl, hq, q⟩ := h
  cases rx
  cases ry
  obtain ⟨its, r, pl, _⟩ := I.list hl
  obtain ⟨⟨oc, od, dt, sl⟩, ho, hc, n, hd⟩ := pl.isList
  simp only at hc hd
  subst hc hd
  have step : ∀ {A : Around} (_ : Room k A) (_ : A.frames = X.A.frames) (y : Str) (t : Tok) (s : Shared), y ∈ ws → Inv X pins σ H s → wpAny (model X.prog X.w) A (eqBool (.str y t) (.ref a)) (fun r s' => r = false ∧ Inv X pins σ H s') X.xe s := fun rm fr y t s m I => by
    obtain ⟨mA, J, _⟩ := ins_get I.hok ha
    obtain ⟨od, J, _⟩ := J.look
    refine OE.eqBool_str_own rm.units0 I.kIn J hst hs hf ?_
    refine run_own2 F rm fr hb hx I (show Vals [V.ref a, V.str y] [Value.ref a, Value.str y t] from .cons rfl (.cons ⟨t, rfl⟩ .nil)) (hq y m (fun z H' => z = .bl false ∧ H' = H) ⟨rfl, rfl⟩) fun w z s' H' I' rz qz => ?_
    obtain ⟨rfl, rfl⟩ := qz
    exact ⟨false, rz, rfl, I'⟩
  show wpAny _ _ (do return Value.bool (!(← contains (.ref l) (.ref a)))) _ _ _
  refine wpAny_bind (wpAny_contains_slot ⟨_, ho, rfl⟩ PySem.F.slot_list_contains ?_)
  refine wpAny_call (codeAny_call_builtin PySem.F.slot_list_contains.plain PySem.F.entry_list_contains (PySem.F.slot_list_contains.check _ _ _ _ _ _ _ _ ⟨_, ho, rfl⟩ (PySem.F.args_list_contains_2 _ _) ?_))
  obtain ⟨hp, g0, d0, tk, os⟩ := s
  wp_walk using wpAny_loadPart' ho
  refine ⟨plainId_quiet plain_contains_loop _, codeAny_builtin entry_contains_loop ?_⟩
  rw [Around.under_plainId plain_contains_loop _]
  refine notIn_loop (A := X.A) (R := fun r s' => match r with | .ok (.ret v) => wpAny (model X.prog X.w) X.A (truthy v) (fun b s' => wpAny (model X.prog X.w) X.A (pure (Value.bool !b)) (EP X pins σ Q) X.xe s') X.xe s' | .ok _ => False | .error e => X.xe e s') hl (fun y t s m I => step ((hr.in1).mono (by omega)) rfl y t s m I) (fun s I => ?_) _ 0 _ rfl I
  exact wpAny_truthy_bool (wpAny_pure ⟨.bl true, H, I, rfl, q⟩)
end
end L2

set_option pp.maxSteps 600
namespace K14
open PySem L2 PySem.Spec PyProof.Rows
theorem But.kp {b : Addr} {H H' : Hp} (s : But b H H') : Kp b H H' := fun a o n h _ => s a o n h
theorem g_obj0 {Z : Nat → Addr} {b C : Addr} {k : Nat} (e : Z k = C) : G0 Z b (tMake00 C) (.obj k) := fun σ H Q n q x dx hx hdx nd => by
  obtain ⟨s1, h1⟩ := new_at (o := .own x) hdx
  have hx1 : upd H dx (.own x) x = none := by rw [upd_ne (fun z => nd z.symm)]; exact hx
  obtain ⟨s2, h2⟩ := new_at (o := .ins C dx []) hx1
  exact q _ _ (s1.trans s2) ⟨x, dx, [], rfl, new_ne n hx, by rw [e]; exact h2⟩
def oddD : List D1 := [.a (.str ""), .a (.str "abcde"), .a (.str "A"), .a (.str "a1"), .a (.str "to"), .a (.str "none"), .a (.str "one"), .a .non, .a (.int 0), .a (.bl true), .s false [.str "a"], .s true [.str "a"], .a (.obj 0)]
section
variable {P : Program} {w : World} {K : PySem.W.Frag} {mg : Str → Option Value} {base : Heap}
abbrev s_law_pick : Stmt := top 29
abbrev n_law_pick : List Str := ["_law_box_here", "_law_items"]
theorem sc_law_pick : FnScope n_law_pick ["_law_box_here", "_law_items"] (defScope s_law_pick) := ⟨rfl, rfl, rfl, by decide +kernel, rfl, by decide +kernel, by decide +kernel⟩
def spPick : Sp := fun vs H Q _ => ∃ (b l : Addr) (as : List V), vs = [.ref b, .ref l] ∧ Box H b ∧ H l = some (.lst as) ∧ l ≠ b ∧ 0 < as.length ∧ as.length ≤ 1000 ∧ ∀ (i : Nat) (v : V) (x y z : Int), as[i]? = some v → Q v (upd H b (.lst [.int x, .int y, .int z]))
theorem ok_pick (T : Txt mg) (g_law_take : Has P w K mg base 1 "_law_take" ["_law_box_here", "_law_many"] spTake) (F : DefAt K mg "_law_pick" s_law_pick ["_law_box_here", "_law_items"]) : Has P w K mg base 2 "_law_pick" ["_law_box_here", "_law_items"] spPick := by
  refine F.has sc_law_pick (fun vs H Q E h => ?_) (fun f cdv A outer s H vs Q E hr h => ?_)
  · obtain ⟨b, l, as, rfl, _⟩ := h
    rfl
  · obtain ⟨b, l, as, rfl, hb, hl, nb, l0, l1, k⟩ := h
    refine ⟨_, (pss_one (ps_ret (pe_ix ix_list (pv 1) (pe_callHas g_law_take (hr.mono (by decide)) rfl (pa_cons (pv 0) (pa_cons (pe_callB call_len (by rfl) T.z_len (by decide +kernel) (pa_cons (pv 1) pa_nil)) pa_nil))) (fun _ _ => rfl)))), ?_⟩
    refine ⟨_, rfl, _, rfl, _, rfl, _, _, rfl, .inl ⟨as, SqL.of hl, rfl⟩, b, (as.length : Int), rfl, hb, by omega, by omega, fun d x y z d0 d1 => ?_⟩
    obtain ⟨i, rfl⟩ : ∃ i : Nat, d = ((i : Nat) : Int) := ⟨d.toNat, by omega⟩
    have hi : i < as.length := by omega
    have e := List.getElem?_eq_getElem hi
    refine ⟨l, as, _, _, rfl, rfl, SqL.of (by rw [upd_ne nb]; exact hl), atI_nat e, ?_⟩
    exact k i _ x y z e
abbrev s_law_odd : Stmt := top 30
abbrev n_law_odd : List Str := ["_law_box_here", "_law_some"]
theorem sc_law_odd : FnScope n_law_odd ["_law_box_here"] (defScope s_law_odd) := ⟨rfl, rfl, rfl, by decide +kernel, rfl, by decide +kernel, by decide +kernel⟩
def spOdd (Z : Nat → Addr) : Sp := fun vs H Q _ => ∃ (b : Addr), vs = [.ref b] ∧ Box H b ∧ ∀ (H' : Hp) (v : V) (d : D1), But b H H' → Box H' b → d ∈ oddD → Rel1 Z b H' v d → Q v H'
theorem ok_odd {Z : Nat → Addr} {CM : Addr} (T : Txt mg) (MV : Mk00 K CM) (mMoved : mg "Moved" = some (.ref CM)) (eZ : Z 0 = CM) (g_law_pick : Has P w K mg base 2 "_law_pick" ["_law_box_here", "_law_items"] spPick) (F : DefAt K mg "_law_odd" s_law_odd ["_law_box_here"]) : Has P w K mg base 3 "_law_odd" ["_law_box_here"] (spOdd Z) := by
  refine F.has sc_law_odd (fun vs H Q E h => ?_) (fun f cdv A outer s H vs Q E hr h => ?_)
  · obtain ⟨b, rfl, _⟩ := h
    rfl
  · obtain ⟨b, rfl, hb, k⟩ := h
    refine ⟨_, (pss_cons (ps_set (i := 1) sc_law_odd.nd rfl (Or.inl rfl) (pe_lst (pa_cons pe_str (pa_cons pe_str (pa_cons pe_str (pa_cons pe_str (pa_cons pe_str (pa_cons pe_str (pa_cons pe_str (pa_cons pe_non (pa_cons pe_int (pa_cons pe_bl (pa_cons (pe_lst (pa_cons pe_str pa_nil)) (pa_cons (pe_tup (pa_cons pe_str pa_nil)) (pa_cons (pe_make00 MV rfl mMoved) pa_nil)))))))))))))))
      (pss_one (ps_ret (pe_callHas g_law_pick (hr.mono (by decide)) rfl (pa_cons (pv 0) (pa_cons (pv 1) pa_nil)))))), ?_⟩
    have nb : H b ≠ none := by obtain ⟨x, y, z, e⟩ := hb; rw [e]; exact fun z => nomatch z
    have gl : GA1 Z b _ oddD := ga1_cons (g1_a (g_str "")) (ga1_cons (g1_a (g_str "abcde")) (ga1_cons (g1_a (g_str "A")) (ga1_cons (g1_a (g_str "a1")) (ga1_cons (g1_a (g_str "to")) (ga1_cons (g1_a (g_str "none")) (ga1_cons (g1_a (g_str "one")) (ga1_cons (g1_a g_non) (ga1_cons (g1_a (g_int 0)) (ga1_cons (g1_a (g_bl true)) (ga1_cons (g1_lst (ga_cons (g_str "a") ga_nil) (by decide)) (ga1_cons (g1_tup (ga_cons (g_str "a") ga_nil) (by decide)) (ga1_cons (g1_a (g_obj0 eZ)) ga1_nil))))))))))))
    unfold tSeq tAsg
    refine l_lst1 gl (by decide) nb fun H1 p as s1 np hp ps => ?_
    refine ⟨_, rfl, _, rfl, b, p, as, rfl, hb.keep s1, hp, np, by rw [ps.len]; decide, by rw [ps.len]; decide, fun i v x y z e => ?_⟩
    obtain ⟨d, ed, rd⟩ := ps.at' e
    exact k _ v d ((Same.but s1).trans But.upd') Box.upd' (List.mem_of_getElem? ed) (rd.kp Kp.upd')
end
end K14

set_option pp.maxSteps 600
namespace L2
open PySem PySem.Spec PyProof.Rows
theorem op_both {X : Cx} {o : Value → Value → Sem Value} {R S : R2} (a : OpR X o R) (b : OpR X o S) : OpR X o (fun x y H Q => R x y H Q ∨ S x y H Q) := fun pins s σ H x y v u Q I rx ry h => h.elim (fun h => a pins s σ H x y v u Q I rx ry h) (fun h => b pins s σ H x y v u Q I rx ry h)
/-- x not in t, t a tuple of data of any depth -/
def rNotInTD (K : PySem.W.Frag) : R2 := fun x y H Q => ∃ d ds, Dp K H x d ∧ Dp K H y (.tuple ds) ∧ SeqAt.shaped d = true ∧ SeqAt.shaped (.tuple ds) = true ∧ Q (.bl (!(ds.any fun z => PyData.eqv z d))) H
theorem op_notInTD {X : Cx} (hu : X.A.units + 65 < cLine) : OpR X (compareOp .NotIn) (rNotInTD X.K) := by
  intro pins s σ H x y v u Q I rx ry h
  obtain ⟨d, ds, hd, he, sd, se, q⟩ := h
  obtain ⟨as, r1⟩ := Dp.reads I d x v hd rx
  obtain ⟨bs, r2⟩ := Dp.reads I (.tuple ds) y u he ry
  exact SeqAt.notIn_tuple_reads r2 r1 (SeqAt.canLay_of_shaped se) (SeqAt.canLay_of_shaped sd) (room_in_shaped sd hu) ⟨.bl _, H, I, rfl, q⟩
end L2
namespace K14
open PySem L2 PySem.Spec PyProof.Rows
def namesM : List D1 := [.a (.str "a"), .a (.str "set"), .a (.str "from")]
def namesL : List D1 := namesM ++ oddD
def goodO : List D2 := [.s false [.a (.str "none")], .s false [.a (.str "up")], .s false [.a (.str "up"), .a (.str "zz")], .s true [.a (.str "b"), .a (.str "on"), .a (.str "up")], .s true [.a (.str "none")]]
def badO : List D2 := [.s false [], .s true [], .a .non, .a (.str "up"), .s false [.a (.str "up"), .a (.str "up")], .s false [.a (.str "none"), .a (.str "up")], .s false [.a (.str "up"), .a (.str "none")], .s false [.a .non], .s false [.s false [.str "up"]], .a (.str "none"), .a (.int 0), .s false [.a (.str "to")]]
def kindsL : List D1 := [.a (.str "up"), .a (.str "zz"), .a (.str "b"), .a (.str "none"), .a (.str "on"), .a (.str "none"), .a (.str ""), .a (.str "to"), .a (.str "A"), .a .non, .a (.int 0), .s false [.str "up"], .a (.bl true)]
def flagsL : List D1 := [.a (.bl true), .a (.bl false), .a (.bl true), .a (.bl false), .a (.bl true), .a (.int 0), .a (.int 1), .a .non, .a (.str "")]
def nmP : List PyData := [.str "a", .str "set", .str "from"]
def orP : List PyData := goodO.map py2
def kdP : List PyData := [.str "up", .str "zz", .str "b", .str "on", .str "none"]
theorem up_py (d : D1) : py2 d.up = py1 d := by
  cases d with
  | a x => rfl
  | s t xs => show (if t then PyData.tuple _ else .list _) = (if t then PyData.tuple _ else .list _); rw [List.map_map]; rfl
theorem names_ok : namesL.all (fun d => (!pl1 d && (match d with | .a (.obj 0) => true | _ => false) && !at2 name0 d.up) || (pl1 d && ((nmP.any fun z => PyData.eqv z (py1 d)) == at2 name0 d.up) && SeqAt.shaped (py1 d))) = true := by decide +kernel
theorem orig_ok : (goodO ++ badO).all (fun d => ok2 d && ((orP.any fun z => PyData.eqv z (py2 d)) == origB d) && (!origB d || (SeqAt.shaped (.list ((itemsD d).map py1)) && (PyData.eqv (.list ((itemsD d).map py1)) (.list [.str "none"]) == noneB d)))) = true := by decide +kernel
theorem kinds_ok : kindsL.all (fun d => pl1 d && SeqAt.shaped (py1 d) && ((kdP.any fun z => PyData.eqv z (py1 d)) == kindB d.up) && (PyData.eqv (py1 d) (.str "none") == goesB d.up)) = true := by decide +kernel
theorem name_op {K : PySem.W.Frag} {Z : Nat → Addr} {CM b p : Addr} {H : Hp} {v : V} {d : D1} {Q : VK} (eZ : Z 0 = CM) (r : Rel1 Z b H v d) (m : d ∈ namesL) (hp : H p = some (.lst [V.str "a", V.str "set", V.str "from"])) (q : Q (.bl (!at2 name0 d.up)) H) : rNotInD K v (.ref p) H Q ∨ rNotInO K CM spMovedEq E0 v (.ref p) H Q := by
  have ok := List.all_eq_true.mp names_ok d m
  rcases Bool.or_eq_true_iff.mp ok with ok | ok
  · obtain ⟨⟨o1, o2⟩, o3⟩ : (_ ∧ _) ∧ _ := by simpa only [Bool.and_eq_true] using ok
    have e : d = .a (.obj 0) := by
      revert o2
      split
      · exact fun _ => rfl
      · exact fun z => nomatch z
    subst e
    obtain ⟨a, dx, fs, rfl, _, h⟩ := r
    rw [eZ] at h
    exact .inr ⟨a, dx, fs, p, ["a", "set", "from"], rfl, h, rfl, SqL.of hp, (fun w _ Q' q' => ⟨a, w, rfl, q'⟩), q⟩
  · obtain ⟨⟨o1, o2⟩, o3⟩ : (_ ∧ _) ∧ _ := by simpa only [Bool.and_eq_true] using ok
    rw [← eq_of_beq o2] at q
    exact .inl ⟨py1 d, nmP, dp1 r o1, .lst (SqL.of hp) (.cons (.str _) (.cons (.str _) (.cons (.str _) .nil))), o3, by decide +kernel, q⟩
theorem flag_go {K : PySem.W.Frag} {Z : Nat → Addr} {b : Addr} {H : Hp} {v vk : V} {d dk : D1} {c g : Bool} {σ : L2.St} {Q : Bool → Hp → Prop} (OZ : ∀ k, ObjK K (Z k)) (h8 : σ[8]? = some (some v)) (h6 : σ[6]? = some (some (.bl c))) (h2 : σ[2]? = some (some vk)) (r : Rel1 Z b H v d) (rk : Rel1 Z b H vk dk) (k1 : pl1 dk = true) (k2 : SeqAt.shaped (py1 dk) = true) (k4 : PyData.eqv (py1 dk) (.str "none") = g) (q : Q (!mayB d.up c g) H) :
    tOr (tNot (tB (tCB (rIsi K) (tCons (tVar 8) (tCons (tC (V.ty "bool")) tNil))))) (tOr (tAnd (tB (tVar 6)) (tNot (tB (tVar 8)))) (tAnd (tTest (tOp (rEqD K) (tVar 2) (tC (V.str "none")))) (tB (tVar 8)))) σ H Q := by
  obtain ⟨t1, e1, e2⟩ := ty_bool OZ r.up
  refine ⟨_, h8, _, _, t1, _, _, rfl, .ty _, e1, e2, _, rfl, ?_⟩
  have other : ∀ x : Atom, (∀ z, x ≠ .bl z) → mayB (.a x) c g = false := fun x hx => by
    cases x with
    | bl z => exact absurd rfl (hx z)
    | _ => rfl
  cases d with
  | s t xs => exact iteSe rfl q
  | a x =>
    cases x with
    | non => exact iteSe rfl q
    | int i => exact iteSe rfl q
    | str s => exact iteSe rfl q
    | obj k => exact iteSe rfl q
    | bl z =>
      cases (show v = .bl z from r)
      refine iteSf rfl ⟨_, h6, _, rfl, ?_⟩
      have q' : Q (!((z || !c) && !(z && g))) H := q
      cases c with
      | true =>
        refine iteSe rfl ⟨_, h8, _, rfl, ?_⟩
        cases z with
        | false => exact iteSe rfl q'
        | true =>
          refine iteSf rfl ⟨_, h2, py1 dk, .str "none", dp1 rk k1, .str _, k2, by decide +kernel, ?_⟩
          rw [k4]
          refine ⟨_, rfl, ?_⟩
          cases g with
          | true => exact iteSe rfl ⟨_, h8, _, rfl, q'⟩
          | false => exact iteSf rfl q'
      | false =>
        refine iteSf rfl (iteSf rfl ⟨_, h2, py1 dk, .str "none", dp1 rk k1, .str _, k2, by decide +kernel, ?_⟩)
        rw [k4]
        refine ⟨_, rfl, ?_⟩
        cases g with
        | true =>
          refine iteSe rfl ⟨_, h8, _, rfl, ?_⟩
          cases z <;> exact q'
        | false => exact iteSf rfl (by cases z <;> exact q')
section
variable {P : Program} {w : World} {K : PySem.W.Frag} {mg : Str → Option Value} {base : Heap}
abbrev s_law_due_event : Stmt := top 32
abbrev n_law_due_event : List Str := ["_law_name", "_law_origins", "_law_kind", "_law_amount", "_law_group", "_law_kinds", "_law_is_birth", "_law_part", "_law_value"]
theorem sc_law_due_event : FnScope n_law_due_event ["_law_name", "_law_origins", "_law_kind", "_law_amount", "_law_group"] (defScope s_law_due_event) := ⟨rfl, rfl, rfl, by decide +kernel, rfl, by decide +kernel, by decide +kernel⟩
def spDueE (Z : Nat → Addr) : Sp := fun vs H Q _ => ∃ (b : Addr) (vn vo vk va vg : V) (dn dk da dg : D1) (dO : D2), vs = [vn, vo, vk, va, vg] ∧ H b ≠ none ∧ Rel1 Z b H vn dn ∧ Rel2 Z b H vo dO ∧ Rel1 Z b H vk dk ∧ Rel1 Z b H va da ∧ Rel1 Z b H vg dg ∧ dn ∈ namesL ∧ dO ∈ goodO ++ badO ∧ dk ∈ kindsL ∧ da ∈ flagsL ∧ dg ∈ flagsL ∧ ∀ H', Same H H' → Q (.str (evDue dn.up dO dk.up da.up dg.up)) H'
theorem ok_dueE {Z : Nat → Addr} {CM fM : Addr} {fdM : FuncData} (T : Txt mg) (OZ : ∀ k, ObjK K (Z k)) (eZ : Z 0 = CM) (stM : PySem.W.subIn K (.ref CM) (.type "str") = some false) (hsM : PySem.W.findIn K (.ref CM) "__eq__" = some (some (.ref fM))) (fnM : PySem.W.isFn K (.ref fM) = true) (g_movedEq : FnOk P w K mg base CX0 1 fM fdM ["self", "other"] spMovedEq) (bM : Binds K fdM ["self", "other"] [])
    (F : DefAt K mg "_law_due_event" s_law_due_event ["_law_name", "_law_origins", "_law_kind", "_law_amount", "_law_group"]) : Has P w K mg base 5 "_law_due_event" ["_law_name", "_law_origins", "_law_kind", "_law_amount", "_law_group"] (spDueE Z) := by
  refine F.has sc_law_due_event (fun vs H Q E h => ?_) (fun f cdv A outer s H vs Q E hr h => ?_)
  · obtain ⟨b, vn, vo, vk, va, vg, dn, dk, da, dg, dO, rfl, _⟩ := h
    rfl
  · have hu := hr.units
    obtain ⟨b, vn, vo, vk, va, vg, dn, dk, da, dg, dO, rfl, nb, rn, ro, rk, ra, rg, mn, mo, mk, ma, mg', k⟩ := h
    refine ⟨_, (pss_cons (ps_set (i := 5) sc_law_due_event.nd rfl (Or.inl rfl) (pe_lst (pa_cons pe_str (pa_cons pe_str (pa_cons pe_str (pa_cons pe_str pa_nil))))))
      (pss_cons (ps_if (pt_cmpR (op_both (op_notInD (units5 hr)) (op_notInO stM hsM fnM g_movedEq (hr.mono (by decide)) bM pass0)) (pv 0) (pe_lst (pa_cons pe_str (pa_cons pe_str (pa_cons pe_str pa_nil)))) (by rfl)) (pss_one (ps_ret pe_str)) pss_nil)
      (pss_cons (ps_if (pt_cmpR (op_notInTD (units5 hr)) (pv 1) (pe_tup (pa_cons (pe_lst (pa_cons pe_str pa_nil)) (pa_cons (pe_lst (pa_cons pe_str pa_nil)) (pa_cons (pe_lst (pa_cons pe_str (pa_cons pe_str pa_nil))) (pa_cons (pe_tup (pa_cons pe_str (pa_cons pe_str (pa_cons pe_str pa_nil)))) (pa_cons (pe_tup (pa_cons pe_str pa_nil)) pa_nil)))))) (by rfl)) (pss_one (ps_ret pe_str)) pss_nil)
      (pss_cons (ps_set (i := 6) sc_law_due_event.nd rfl (Or.inl rfl) (pe_cmpR (op_eqD hu) (pe_callTy call_list_of (by rfl) T.z_list (by decide +kernel) (pa_cons (pv 1) pa_nil)) (pe_lst (pa_cons pe_str pa_nil)) (nomark _)))
      (pss_cons (ps_if (PW.pt (pw_or (pt_cmpR (op_notInD (units5 hr)) (pv 2) (pe_op op_cat (pv 5) (pe_lst (pa_cons pe_str pa_nil))) (by rfl)) (pw_or1 (PW.pt (pw_and (pt_val (pv 6)) (pw_and1 (pt_cmpR (op_eqD hu) (pv 2) pe_str (nomark _)))))))) (pss_one (ps_ret pe_str)) pss_nil)
      (pss_cons (ps_for PassesOwn.never rfl (pi_tup (pe_tup (pa_cons (pe_tup (pa_cons pe_str (pa_cons (pv 3) pa_nil))) (pa_cons (pe_tup (pa_cons pe_str (pa_cons (pv 4) pa_nil))) pa_nil)))) (pg_tup rfl (pgs_cons (pg_name (i := 7) sc_law_due_event.nd rfl (Or.inl rfl)) (pgs_cons (pg_name (i := 8) sc_law_due_event.nd rfl (Or.inl rfl)) pgs_nil))) (pss_one (ps_if (PW.pt (pw_or (pt_not (pt_val (pe_callB call_isi (by rfl) T.z_isinstance (by decide +kernel) (pa_cons (pv 8) (pa_cons (pe_bltn (v := .ty "bool") (by rfl) T.z_bool (by decide +kernel) rfl) pa_nil))))) (pw_or (PW.pt (pw_and (pt_val (pv 6)) (pw_and1 (pt_not (pt_val (pv 8)))))) (pw_or1 (PW.pt (pw_and (pt_cmpR (op_eqD hu) (pv 2) pe_str (nomark _)) (pw_and1 (pt_val (pv 8))))))))) (pss_one (ps_ret (pv 7))) pss_nil)))
      (pss_one (ps_ret pe_str)))))))), ?_⟩
    refine ⟨(by decide : 4 ≤ sizeLine), fun p1 hp1 => ?_⟩
    obtain ⟨s1, h1⟩ := new_at (o := .lst [V.str "up", V.str "zz", V.str "b", V.str "on"]) hp1
    refine ⟨_, rfl, (by decide : 3 ≤ sizeLine), fun p2 hp2 => ?_⟩
    obtain ⟨s2, h2⟩ := new_at (o := .lst [V.str "a", V.str "set", V.str "from"]) hp2
    have s12 := s1.trans s2
    refine name_op eZ (rn.kp (Kp.of s12)) mn h2 ?_
    have eD : evDue dn.up dO dk.up da.up dg.up = evD (at2 name0 dn.up) (origB dO) (kindB dk.up && !(noneB dO && goesB dk.up)) (mayB da.up (noneB dO) (goesB dk.up)) (mayB dg.up (noneB dO) (goesB dk.up)) := rfl
    refine ⟨_, rfl, ?_⟩
    cases hN : at2 name0 dn.up with
    | false =>
      have kk := k _ s12
      rw [eD, hN] at kk
      exact iteSe rfl kk
    | true =>
    refine iteSf rfl ⟨_, rfl, ?_⟩
    refine g2_tup (Z := Z) (b := b) (ga1_cons (g1_lst (ga_cons (g_str "none") ga_nil) (by decide)) (ga1_cons (g1_lst (ga_cons (g_str "up") ga_nil) (by decide)) (ga1_cons (g1_lst (ga_cons (g_str "up") (ga_cons (g_str "zz") ga_nil)) (by decide)) (ga1_cons (g1_tup (ga_cons (g_str "b") (ga_cons (g_str "on") (ga_cons (g_str "up") ga_nil))) (by decide)) (ga1_cons (g1_tup (ga_cons (g_str "none") ga_nil) (by decide)) ga1_nil))))) (by decide) _ _ _ (some_keep s12 nb) fun H3 v3 s3 r3 => ?_
    have s13 := s12.trans s3
    have okO := List.all_eq_true.mp orig_ok dO mo
    obtain ⟨⟨o1, o2⟩, o3⟩ : (_ ∧ _) ∧ _ := by simpa only [Bool.and_eq_true] using okO
    obtain ⟨pO, shO⟩ := Bool.and_eq_true_iff.mp o1
    have ro3 := ro.kp (Kp.of s13)
    refine ⟨py2 dO, orP, dp2 ro3 pO, dp2 r3 rfl, shO, by decide +kernel, ?_⟩
    rw [eq_of_beq o2]
    refine ⟨_, rfl, ?_⟩
    cases hO : origB dO with
    | false =>
      have kk := k _ s13
      rw [eD, hN, hO] at kk
      exact iteSe rfl kk
    | true =>
    rw [hO] at o3
    obtain ⟨t, xs, rfl⟩ : ∃ t xs, dO = .s t xs := by
      cases dO with
      | a y => cases hO
      | s t xs => exact ⟨t, xs, rfl⟩
    obtain ⟨shL, eL⟩ : _ ∧ _ := by simpa only [Bool.and_eq_true, Bool.not_true, Bool.false_or] using o3
    obtain ⟨a, as, rfl, na, ha, ps⟩ := id ro3
    have plx : xs.all pl1 = true := pO
    refine iteSf rfl ⟨_, rfl, a, as, rfl, (by cases t; exact .inl (SqL.of ha); exact .inr (SqT.of ha)), fun l hl => ?_⟩
    obtain ⟨s4, h4⟩ := new_at (o := .lst as) hl
    refine ⟨(by decide : 1 ≤ sizeLine), fun q hq => ?_⟩
    obtain ⟨s5, h5⟩ := new_at (o := .lst [V.str "none"]) hq
    have s15 := s13.trans (s4.trans s5)
    refine ⟨.list (xs.map py1), .list [.str "none"], .lst (SqL.of (s5 _ _ h4)) (dps (ps.mapP' fun _ _ z => z.kp (Kp.of (s4.trans s5))) plx fun _ _ => dp1), .lst (SqL.of h5) (.cons (.str _) .nil), shL, by decide +kernel, ?_⟩
    rw [show PyData.eqv (.list (xs.map py1)) (.list [.str "none"]) = noneB (.s t xs) from eq_of_beq eL]
    have okK := List.all_eq_true.mp kinds_ok dk mk
    obtain ⟨⟨⟨k1, k2⟩, k3⟩, k4⟩ : ((_ ∧ _) ∧ _) ∧ _ := by simpa only [Bool.and_eq_true] using okK
    have rk5 := rk.kp (Kp.of s15)
    have h15 := (s2.trans (s3.trans (s4.trans s5))) _ _ h1
    refine ⟨_, rfl, _, rfl, ?_⟩
    refine ⟨(by decide : 1 ≤ sizeLine), fun p6 hp6 => ?_⟩
    obtain ⟨s6, h6⟩ := new_at (o := .lst [V.str "none"]) hp6
    refine ⟨p1, p6, _, _, rfl, rfl, s6 _ _ h15, h6, (by decide : 5 ≤ sizeLine), fun p7 hp7 => ?_⟩
    obtain ⟨s7, h7⟩ := new_at (o := .lst ([V.str "up", V.str "zz", V.str "b", V.str "on"] ++ [V.str "none"])) hp7
    have s17 := s15.trans (s6.trans s7)
    have rk7 := rk.kp (Kp.of s17)
    refine ⟨py1 dk, kdP, dp1 rk7 k1, .lst (SqL.of h7) (.cons (.str _) (.cons (.str _) (.cons (.str _) (.cons (.str _) (.cons (.str _) .nil))))), k2, by decide +kernel, ?_⟩
    rw [eq_of_beq k3]
    refine ⟨_, rfl, ?_⟩
    have eK := eq_of_beq k4
    have rk8 := rk7
    have nK : (kindB dk.up && !(noneB (.s t xs) && goesB dk.up)) = false → ∀ H', Same H H' → Q (.str "kind") H' := fun c H' s' => by
      have kk := k _ s'
      rw [eD, hN, hO, c] at kk
      exact kk
    obtain ⟨c, ec⟩ : ∃ c, noneB (.s t xs) = c := ⟨_, rfl⟩
    obtain ⟨g, eg⟩ : ∃ g, goesB dk.up = g := ⟨_, rfl⟩
    have tail : (kindB dk.up && !(c && g)) = true → ∀ H', Same H H' → Q (.str (evD true true true (mayB da.up c g) (mayB dg.up c g))) H' := fun z H' s' => by
      have kk := k _ s'
      rw [eD, hN, hO, ec, eg, z] at kk
      exact kk
    rw [ec, eg] at nK
    rw [ec]
    rw [eg] at eK
    cases hK : kindB dk.up with
    | false => exact iteSe rfl (iteSe rfl (nK (by rw [hK]; rfl) _ s17))
    | true =>
    rw [hK] at tail nK
    refine iteSf rfl ⟨_, rfl, _, rfl, ?_⟩
    have sEnd := s17
    cases c with
    | true =>
      refine iteSe rfl ⟨_, rfl, py1 dk, .str "none", dp1 rk7 k1, .str _, k2, by decide +kernel, ?_⟩
      rw [eK]
      refine ⟨_, rfl, ?_⟩
      cases g with
      | true => exact iteSe rfl (nK rfl _ s17)
      | false =>
        refine iteSf rfl ?_
        refine ⟨_, rfl, (by decide : 2 ≤ sizeLine), fun p8 hp8 => ⟨_, rfl, (by decide : 2 ≤ sizeLine), fun p9 hp9 => ⟨(by decide : 2 ≤ sizeLine), fun p10 hp10 => ?_⟩⟩⟩
        obtain ⟨s8, h8⟩ := new_at (o := .tup [V.str "amount", va]) hp8
        obtain ⟨s9, h9⟩ := new_at (o := .tup [V.str "group", vg]) hp9
        obtain ⟨s10, h10⟩ := new_at (o := .tup [V.ref p8, V.ref p9]) hp10
        have sA := s17.trans (s8.trans (s9.trans s10))
        have h8' := s10 _ _ (s9 _ _ h8)
        have h9' := s10 _ _ h9
        generalize upd (upd (upd (upd _ p7 _) p8 _) p9 _) p10 _ = HX at *
        have tl := tail rfl
        refine ⟨p10, rfl, ⟨_, SqT.of h10⟩, for_tup (xs := [V.ref p8, V.ref p9]) (fun i σ H' => H' = HX ∧ (∃ x7 x8, σ = [some vn, some (.ref a), some vk, some va, some vg, some (.ref p1), some (.bl true), x7, x8]) ∧ (1 ≤ i → mayB da.up true false = true) ∧ (2 ≤ i → mayB dg.up true false = true)) ⟨rfl, ⟨_, _, rfl⟩, (fun z => by omega), (fun z => by omega)⟩ (fun i σ H' hi z => by rw [z.1]; exact SqT.of h10) ?_ ?_⟩
        · rintro i x σ H' ex ⟨rfl, ⟨x7, x8, rfl⟩, m1, m2⟩
          match i, ex with
          | 0, ex =>
            cases ex
            refine ⟨p8, _, rfl, SqT.of h8', rfl, _, _, rfl, _, _, rfl, rfl, ?_⟩
            unfold tIfS
            refine flag_go OZ rfl rfl rfl (ra.kp (Kp.of sA)) (rk.kp (Kp.of sA)) k1 k2 eK ?_
            cases hm : mayB da.up true false with
            | false =>
              have kk := tl _ sA
              rw [hm] at kk
              exact iteSe rfl ⟨_, rfl, kk⟩
            | true => exact iteSf rfl ⟨rfl, ⟨_, _, rfl⟩, fun _ => rfl, fun z => by omega⟩
          | 1, ex =>
            cases ex
            refine ⟨p9, _, rfl, SqT.of h9', rfl, _, _, rfl, _, _, rfl, rfl, ?_⟩
            unfold tIfS
            refine flag_go OZ rfl rfl rfl (rg.kp (Kp.of sA)) (rk.kp (Kp.of sA)) k1 k2 eK ?_
            cases hm : mayB dg.up true false with
            | false =>
              have kk := tl _ sA
              rw [hm, m1 (by decide)] at kk
              exact iteSe rfl ⟨_, rfl, kk⟩
            | true => exact iteSf rfl ⟨rfl, ⟨_, _, rfl⟩, fun _ => m1 (by decide), fun _ => rfl⟩
          | n + 2, ex => simp at ex
        · rintro σ H' ⟨rfl, ⟨x7, x8, rfl⟩, m1, m2⟩
          have kk := tl _ sA
          rw [m1 (by show 1 ≤ 2; decide), m2 (by show 2 ≤ 2; decide)] at kk
          exact kk
    | false =>
      refine iteSf rfl (iteSf rfl ?_)
      refine ⟨_, rfl, (by decide : 2 ≤ sizeLine), fun p8 hp8 => ⟨_, rfl, (by decide : 2 ≤ sizeLine), fun p9 hp9 => ⟨(by decide : 2 ≤ sizeLine), fun p10 hp10 => ?_⟩⟩⟩
      obtain ⟨s8, h8⟩ := new_at (o := .tup [V.str "amount", va]) hp8
      obtain ⟨s9, h9⟩ := new_at (o := .tup [V.str "group", vg]) hp9
      obtain ⟨s10, h10⟩ := new_at (o := .tup [V.ref p8, V.ref p9]) hp10
      have sA := s17.trans (s8.trans (s9.trans s10))
      have h8' := s10 _ _ (s9 _ _ h8)
      have h9' := s10 _ _ h9
      generalize upd (upd (upd (upd _ p7 _) p8 _) p9 _) p10 _ = HX at *
      have tl := tail rfl
      refine ⟨p10, rfl, ⟨_, SqT.of h10⟩, for_tup (xs := [V.ref p8, V.ref p9]) (fun i σ H' => H' = HX ∧ (∃ x7 x8, σ = [some vn, some (.ref a), some vk, some va, some vg, some (.ref p1), some (.bl false), x7, x8]) ∧ (1 ≤ i → mayB da.up false g = true) ∧ (2 ≤ i → mayB dg.up false g = true)) ⟨rfl, ⟨_, _, rfl⟩, (fun z => by omega), (fun z => by omega)⟩ (fun i σ H' hi z => by rw [z.1]; exact SqT.of h10) ?_ ?_⟩
      · rintro i x σ H' ex ⟨rfl, ⟨x7, x8, rfl⟩, m1, m2⟩
        match i, ex with
        | 0, ex =>
          cases ex
          refine ⟨p8, _, rfl, SqT.of h8', rfl, _, _, rfl, _, _, rfl, rfl, ?_⟩
          unfold tIfS
          refine flag_go OZ rfl rfl rfl (ra.kp (Kp.of sA)) (rk.kp (Kp.of sA)) k1 k2 eK ?_
          cases hm : mayB da.up false g with
          | false =>
            have kk := tl _ sA
            rw [hm] at kk
            exact iteSe rfl ⟨_, rfl, kk⟩
          | true => exact iteSf rfl ⟨rfl, ⟨_, _, rfl⟩, fun _ => rfl, fun z => by omega⟩
        | 1, ex =>
          cases ex
          refine ⟨p9, _, rfl, SqT.of h9', rfl, _, _, rfl, _, _, rfl, rfl, ?_⟩
          unfold tIfS
          refine flag_go OZ rfl rfl rfl (rg.kp (Kp.of sA)) (rk.kp (Kp.of sA)) k1 k2 eK ?_
          cases hm : mayB dg.up false g with
          | false =>
            have kk := tl _ sA
            rw [hm, m1 (by decide)] at kk
            exact iteSe rfl ⟨_, rfl, kk⟩
          | true => exact iteSf rfl ⟨rfl, ⟨_, _, rfl⟩, fun _ => m1 (by decide), fun _ => rfl⟩
        | n + 2, ex => simp at ex
      · rintro σ H' ⟨rfl, ⟨x7, x8, rfl⟩, m1, m2⟩
        have kk := tl _ sA
        rw [m1 (by show 1 ≤ 2; decide), m2 (by show 2 ≤ 2; decide)] at kk
        exact kk
end
end K14

set_option pp.maxSteps 600
namespace L2
open PySem PySem.Spec PyProof.Rows
theorem ix_listK {X : Cx} {K : PySem.W.Frag} (e : X.K = K) : IxR X (rIxL K) := by
  subst e; exact ix_list
/-- a def of the text whose code object is known -/
def DefC (K : PySem.W.Frag) (mg : Str → Option Value) (nm : Str) (st : Stmt) (ps : List Str) (c : Addr) : Prop :=
  ∃ (f : Addr) (oc kV doc pm ct : Value) (od an : Option Addr) (osl : Array (Option Value)), K.lookup f = some ⟨oc, od, .func (PySem.W.fnOf nm nm (defArgs st) (defBody st) (defScope st) .none kV doc pm an (.ref c) ct), osl⟩ ∧ PySem.W.codeIn K (.ref c) nm = true ∧ PySem.W.keepIn K (.ref f) = true ∧ mg nm = some (.ref f) ∧ Binds K (PySem.W.fnOf nm nm (defArgs st) (defBody st) (defScope st) .none kV doc pm an (.ref c) ct) ps []
theorem DefC.has {P : Program} {w : World} {K : PySem.W.Frag} {mg : Str → Option Value} {base : Heap} {k : Nat} {nm : Str} {st : Stmt} {N ps : List Str} {sp : Sp} {c : Addr} (F : DefC K mg nm st ps c) (S : FnScope N ps (defScope st)) (len : ∀ vs H Q E, sp vs H Q E → vs.length = ps.length)
    (hbody : ∀ (f : Addr) (A : Around) (outer : List Env) (s : Shared) (H : Hp) (vs : List V) (Q : VK) (E : XK), Room k (A.deeper (envOfC nm (defScope st) s.heap.objs.size f (.ref c))) → sp vs H Q E →
      ∃ t, PSs (cxOf CX0 P w K mg base N nm (defScope st) f (.ref c) A outer s H E).nox (defBody st) t ∧ t { nx := fun _ H' => Q .non H', rt := Q } (start N vs) H) : Has P w K mg base (k + 1) nm ps sp := by
  obtain ⟨f, oc, kV, doc, pm, ct, od, an, osl, lk, hcd, kp, m, b⟩ := F
  refine ⟨f, _, fn_of lk hcd S len fun A outer s H vs Q E hr hsp => ?_, m, kp, b⟩
  obtain ⟨t, h, q⟩ := hbody f A outer s H vs Q E hr hsp
  exact ⟨t, h.nox, q⟩
end L2
namespace K14
open PySem L2 LamX PySem.Spec PyProof.Rows
theorem Kp.ext {b : Addr} {H H' : Hp} (s : ExtN H H') : Kp b H H' := fun a o _ h n => s a o h n
/-- what the defs ask of the def that hears an error -/
structure RefK (K : PySem.W.Frag) (mg : Str → Option Value) (gR : Addr) (ocR kVR dcR pmR cdvR ctR : Value) (odR anR : Option Addr) (oslR : Array (Option Value)) : Prop where
  m : mg "_law_refused" = some (.ref gR)
  kp : PySem.W.keepIn K (.ref gR) = true
  lk : K.lookup gR = some ⟨ocR, odR, .func (PySem.W.fnOf "_law_refused" "_law_refused" (defArgs s_law_refused) (defBody s_law_refused) (defScope s_law_refused) .none kVR dcR pmR anR cdvR ctR), oslR⟩
  cd : PySem.W.codeIn K cdvR "_law_refused" = true
  b : L2.Binds K (PySem.W.fnOf "_law_refused" "_law_refused" (defArgs s_law_refused) (defBody s_law_refused) (defScope s_law_refused) .none kVR dcR pmR anR cdvR ctR) ["_law_work"] []
/-- what they ask of the classes of errors -/
structure ErrK (K : PySem.W.Frag) (mg : Str → Option Value) (SE IR IT IB : Addr) : Prop where
  ex : ExcC K IR
  xr : XfC K IR
  nPart : PySem.W.findIn K (.ref IR) "part" = some none
  te : PySem.W.exmOne K (.ref IR) (.ref SE) = some true
  mSE : mg "SumError" = some (.ref SE)
  mIR : mg "InvalidRow" = some (.ref IR)
  mIT : mg "InvalidText" = some (.ref IT)
  mIB : mg "InvalidBook" = some (.ref IB)
  kRR : PySem.W.kitOne K (.ref IR) (.ref IR) = some true
  kRT : PySem.W.kitAny K (.ref IR) [.ref IT, .ref IB] = some false
theorem seq_asg {te : TE} {g : TG} {u : TS} {D : Ends} {σ : L2.St} {H : Hp} (h : te σ H fun x H1 => g x σ H1 fun σ2 H2 => u D σ2 H2) : tSeq (tAsg te g) u D σ H := h
theorem a_lst1 {Z : Nat → Addr} {b : Addr} {ta : TA} {ds : List D1} (h : GA1 Z b ta ds) (l : ds.length ≤ 1000) {σ : L2.St} {H : Hp} {Q : List V → Hp → Prop} (n : H b ≠ none) (q : ∀ (H' : Hp) (p : Addr) (as : List V), Same H H' → p ≠ b → H' p = some (.lst as) → Paired (Rel1 Z b H') as ds → Q [.ref p] H') : tCons (tLst ta) tNil σ H Q := l_lst1 h l n q
theorem name_go {i : Nat} {v : V} {σ : L2.St} {H : Hp} {Q : L2.St → Hp → Prop} (h : Q (σ.set i (some v)) H) : gName i v σ H Q := h
/-- a list from which one is picked -/
def Menu (Z : Nat → Addr) (b : Addr) (H : Hp) (L : List D2) (r : Addr) : Prop := ∃ as ds, r ≠ b ∧ H r = some (.lst as) ∧ Paired (Rel2 Z b H) as ds ∧ (∀ d ∈ ds, d ∈ L) ∧ 0 < ds.length ∧ ds.length ≤ 1000
theorem Menu.same {Z : Nat → Addr} {b : Addr} {H H' : Hp} {L : List D2} {r : Addr} (m : Menu Z b H L r) (s : But b H H') : Menu Z b H' L r := by
  obtain ⟨as, ds, n, h, p, q⟩ := m
  exact ⟨as, ds, n, s _ _ n h, p.mapP' fun _ _ z => z.kp s.kp, q⟩
theorem Menu.pick {Z : Nat → Addr} {b : Addr} {H : Hp} {L : List D2} {r : Addr} {Q : VK} (m : Menu Z b H L r) (hb : Box H b) (q : ∀ (H' : Hp) (v : V) (d : D2), But b H H' → Box H' b → d ∈ L → Rel2 Z b H' v d → Q v H') : spPick [.ref b, .ref r] H Q E0 := by
  obtain ⟨as, ds, n, h, p, ml, l0, l1⟩ := m
  refine ⟨b, r, as, rfl, hb, h, n, by rw [p.len]; exact l0, by rw [p.len]; exact l1, fun i v x y z e => ?_⟩
  obtain ⟨d, ed, rd⟩ := p.at' e
  exact q _ v d But.upd' Box.upd' (ml d (List.mem_of_getElem? ed)) (rd.kp Kp.upd')
theorem if_menu {c : Bool} {σ : L2.St} {i j : Nat} {H : Hp} {Q : VK} {p q : Addr} {M : Addr → Prop} (hi : σ[i]? = some (some (.ref p))) (hj : σ[j]? = some (some (.ref q))) (hp : M p) (hq : M q) (k : ∀ r, M r → Q (.ref r) H) : if c = true then tVar i σ H Q else tVar j σ H Q := by
  cases c with
  | true => exact iteSe rfl ⟨_, hi, k p hp⟩
  | false => exact iteSf rfl ⟨_, hj, k q hq⟩
theorem pick1 {Z : Nat → Addr} {b p : Addr} {H : Hp} {as : List V} {ds : List D1} {Q : VK} (hb : Box H b) (hp : H p = some (.lst as)) (n : p ≠ b) (ps : Paired (Rel1 Z b H) as ds) (l0 : 0 < ds.length) (l1 : ds.length ≤ 1000) (q : ∀ (H' : Hp) (v : V) (d : D1), But b H H' → Box H' b → d ∈ ds → Rel1 Z b H' v d → Q v H') : spPick [.ref b, .ref p] H Q E0 := by
  refine ⟨b, p, as, rfl, hb, hp, n, by rw [ps.len]; exact l0, by rw [ps.len]; exact l1, fun i v x y z e => ?_⟩
  obtain ⟨d, ed, rd⟩ := ps.at' e
  exact q _ v d But.upd' Box.upd' (List.mem_of_getElem? ed) (rd.kp Kp.upd')
theorem paired_snoc {α β : Type} {R : α → β → Prop} {as : List α} {bs : List β} {a : α} {b : β} (h : Paired R as bs) (r : R a b) : Paired R (as ++ [a]) (bs ++ [b]) := h.app (.cons r .nil)
theorem two_of {α β : Type} {R : α → β → Prop} {as : List α} {bs : List β} (h : Paired R as bs) (l : as.length = 2) : ∃ a1 a2 b1 b2, as = [a1, a2] ∧ bs = [b1, b2] ∧ R a1 b1 ∧ R a2 b2 := by
  cases h with
  | nil => cases l
  | cons r1 t =>
    cases t with
    | nil => cases l
    | cons r2 t =>
      cases t with
      | nil => exact ⟨_, _, _, _, rfl, rfl, r1, r2⟩
      | cons r3 t => simp at l
theorem Box.ne {H : Hp} {b : Addr} (h : Box H b) : H b ≠ none := by obtain ⟨x, y, z, e⟩ := h; rw [e]; exact fun z => nomatch z
theorem Tabs.but {TT : List (Addr × Str)} {H H' : Hp} {b : Addr} (t : Tabs TT H) (hb : Box H b) (s : But b H H') : Tabs TT H' := fun p hp => by
  obtain ⟨x, y, z, e⟩ := hb
  obtain ⟨ps, h1, h2, h3⟩ := t p hp
  refine ⟨ps, s _ _ (fun q => by rw [q, e] at h1; cases h1) h1, h2, fun pos cv hc => ?_⟩
  obtain ⟨c, e1, e2⟩ := h3 pos cv hc
  exact ⟨c, e1, s _ _ (fun q => by rw [q, e] at e2; cases e2) e2⟩
def shB : D2 → Bool
  | .a (.str s) => decide (s.length ≤ 1000)
  | _ => true
theorem sh0_of {d : D2} (h : shB d = true) : sh0 d := fun s e => by subst e; exact of_decide_eq_true h
theorem names_sh : namesL.all (fun d => shB d.up) = true := by decide +kernel
theorem kinds_sh : kindsL.all (fun d => shB d.up && ok2 d.up) = true := by decide +kernel
theorem orig_sh : (goodO ++ badO).all (fun d => ok2 d && SeqAt.shaped (.tuple ((itemsD d).map py1)) && decide (lenB d ≤ 100) && (itemsD d).all fun e => shB e.up) = true := by decide +kernel
theorem origOk {d : D2} (m : d ∈ goodO ++ badO) : OrigOk d := by
  have h := List.all_eq_true.mp orig_sh d m
  obtain ⟨⟨⟨h1, h2⟩, h3⟩, h4⟩ : ((_ ∧ _) ∧ _) ∧ _ := by simpa only [Bool.and_eq_true] using h
  refine ⟨h1, h2, of_decide_eq_true h3, fun t xs e z hz s es => ?_⟩
  subst e es
  have := List.all_eq_true.mp h4 _ hz
  exact of_decide_eq_true this
theorem flag_any {Z : Nat → Addr} {b : Addr} {H H' : Hp} {v : V} {d : D1} (m : d ∈ flagsL) (r : Rel1 Z b H v d) : Rel1 Z b H' v d := by
  have h : flagsL.all (fun d => match d with | .a (.obj _) => false | .a _ => true | _ => false) = true := by decide
  have := List.all_eq_true.mp h d m
  cases d with
  | a x =>
    cases x with
    | obj k => cases this
    | _ => exact r
  | s t xs => cases this
theorem ev_ref {Z : Nat → Addr} {EV IR b x dx : Addr} {H : Hp} {vn vo vk va vg : V} {dn dk da dg : D1} {dO : D2} {Q : VK} (hx : H x = none) (hdx : H dx = none) (nd : dx ≠ x) (rn : Rel1 Z b H vn dn) (ro : Rel2 Z b H vo dO) (rk : Rel1 Z b H vk dk) (ra : Rel1 Z b H va da) (rg : Rel1 Z b H vg dg) (mn : dn ∈ namesL) (mo : dO ∈ goodO ++ badO) (mk : dk ∈ kindsL)
    (ret : ∀ H', Same H H' → Q (.str (evDue dn.up dO dk.up da.up dg.up)) H') : spEvent Z EV IR [.ref x, vn, vo, vk, va, vg] (upd (upd H dx (.own x)) x (.ins EV dx [])) (fun v H2 => v = .non ∧ ∃ u : V, some (some (V.str "made")) = some (some u) ∧ Q u H2) (EchR IR Q) := by
  have hx1 : upd H dx (.own x) x = none := by rw [upd_ne (fun z => nd z.symm)]; exact hx
  have s2 : Same H (upd (upd H dx (.own x)) x (.ins EV dx [])) := (new_at hdx).1.trans (new_at hx1).1
  have kk := List.all_eq_true.mp kinds_sh dk mk
  obtain ⟨k1, k2⟩ := Bool.and_eq_true_iff.mp kk
  refine ⟨b, x, dx, vn, vo, vk, va, vg, dn.up, dO, dk.up, da.up, dg.up, rfl, upd_same, (rn.kp (Kp.of s2)).up, ro.kp (Kp.of s2), (rk.kp (Kp.of s2)).up, (ra.kp (Kp.of s2)).up, (rg.kp (Kp.of s2)).up, sh0_of (List.all_eq_true.mp names_sh dn mn), origOk mo, k2, sh0_of k1, fun m H' kp => ⟨rfl, _, rfl, ?_⟩, fun p ep np H' d s hd hp => ⟨rfl, d, p, rfl, hp, fun H'' s'' => ?_⟩⟩
  · have := ret H' fun y o h => kp y o (ne_of_none h hx) (s2 _ _ h)
    rw [m] at this
    exact this
  · have := ret H'' (s2.trans (s.trans s''))
    rw [ep] at this
    exact this
theorem ga_kinds {Z : Nat → Addr} {b : Addr} : GA1 Z b (tCons (tC (.str "up")) (tCons (tC (.str "zz")) (tCons (tC (.str "b")) (tCons (tC (.str "none")) (tCons (tC (.str "on")) (tCons (tC (.str "none")) (tCons (tC (.str "")) (tCons (tC (.str "to")) (tCons (tC (.str "A")) (tCons (tC .non) (tCons (tC (.int 0)) (tCons (tLst (tCons (tC (.str "up")) tNil)) (tCons (tC (.bl true)) tNil))))))))))))) kindsL :=
  ga1_cons (g1_a (g_str "up")) (ga1_cons (g1_a (g_str "zz")) (ga1_cons (g1_a (g_str "b")) (ga1_cons (g1_a (g_str "none")) (ga1_cons (g1_a (g_str "on")) (ga1_cons (g1_a (g_str "none")) (ga1_cons (g1_a (g_str "")) (ga1_cons (g1_a (g_str "to")) (ga1_cons (g1_a (g_str "A")) (ga1_cons (g1_a g_non) (ga1_cons (g1_a (g_int 0)) (ga1_cons (g1_lst (ga_cons (g_str "up") ga_nil) (by decide)) (ga1_cons (g1_a (g_bl true)) ga1_nil))))))))))))
theorem ga_flags {Z : Nat → Addr} {b : Addr} : GA1 Z b (tCons (tC (.bl true)) (tCons (tC (.bl false)) (tCons (tC (.bl true)) (tCons (tC (.bl false)) (tCons (tC (.bl true)) (tCons (tC (.int 0)) (tCons (tC (.int 1)) (tCons (tC .non) (tCons (tC (.str "")) tNil))))))))) flagsL :=
  ga1_cons (g1_a (g_bl true)) (ga1_cons (g1_a (g_bl false)) (ga1_cons (g1_a (g_bl true)) (ga1_cons (g1_a (g_bl false)) (ga1_cons (g1_a (g_bl true)) (ga1_cons (g1_a (g_int 0)) (ga1_cons (g1_a (g_int 1)) (ga1_cons (g1_a g_non) (ga1_cons (g1_a (g_str "")) ga1_nil))))))))
section
variable {P : Program} {w : World} {K : PySem.W.Frag} {mg : Str → Option Value} {base : Heap}
abbrev s_law_event_refused : Stmt := top 33
abbrev n_law_event_refused : List Str := ["_law_box_here", "_law_good", "_law_bad", "_law_due", "_law_flags", "_law_kind", "_law_name", "_law_origins", "_law_turn"]
theorem sc_law_event_refused : FnScope n_law_event_refused ["_law_box_here"] (defScope s_law_event_refused) := ⟨rfl, rfl, rfl, by decide +kernel, rfl, by decide +kernel, by decide +kernel⟩
def lamE : Str := "_law_event_refused.<locals>.<lambda>"
def spRefused (TT : List (Addr × Str)) : Sp := fun vs H Q _ => ∃ (b : Addr), vs = [.ref b] ∧ Box H b ∧ Tabs TT H ∧ ∀ H', Kp b H H' → Box H' b → Tabs TT H' → Q (.bl true) H'
theorem ok_eventR {Z : Nat → Addr} {TT : List (Addr × Str)} {cE tE EV SE IR IT IB gR fE : Addr} {fdE : FuncData} {d1 d2 : Value} {ocR kVR dcR pmR cdvR ctR : Value} {odR anR : Option Addr} {oslR : Array (Option Value)} (T : Txt mg) (RK : RefK K mg gR ocR kVR dcR pmR cdvR ctR odR anR oslR) (EK : ErrK K mg SE IR IT IB)
    (CE : ClsE K mg EV) (ME : Mk K EV fE) (g_event : FnOk P w K mg base (L2.CX P w) 6 fE fdE ["self", "name", "origins", "kind", "amount", "group"] (spEvent Z EV IR)) (bE : Binds K fdE ["self", "name", "origins", "kind", "amount", "group"] [])
    (TB : TabB base mg cE tE) (hmT : (tE, lamE) ∈ TT) (huT : ∀ p ∈ TT, p.1 = tE → p.2 = lamE)
    (g_law_take : Has P w K mg base 1 "_law_take" ["_law_box_here", "_law_many"] spTake) (g_law_pick : Has P w K mg base 2 "_law_pick" ["_law_box_here", "_law_items"] spPick) (g_law_odd : Has P w K mg base 3 "_law_odd" ["_law_box_here"] (spOdd Z)) (g_law_due_event : Has P w K mg base 5 "_law_due_event" ["_law_name", "_law_origins", "_law_kind", "_law_amount", "_law_group"] (spDueE Z))
    (F : DefC K mg "_law_event_refused" s_law_event_refused ["_law_box_here"] cE) : Has P w K mg base 10 "_law_event_refused" ["_law_box_here"] (spRefused TT) := by
  have mRef := RK.m; have kpR := RK.kp; have lkR := RK.lk; have cdR := RK.cd; have bR := RK.b
  have EX := EK.ex; have XR := EK.xr; have nPart := EK.nPart; have te := EK.te; have mSE := EK.mSE; have mIR := EK.mIR; have mIT := EK.mIT; have mIB := EK.mIB; have kRR := EK.kRR; have kRT := EK.kRT
  refine F.has sc_law_event_refused (fun vs H Q E h => ?_) (fun f A outer s H vs Q E hr h => ?_)
  · obtain ⟨b, rfl, _⟩ := h
    rfl
  · have hu := hr.units
    obtain ⟨b, rfl, hb, hT, k⟩ := h
    refine ⟨_, (pss_cons (ps_set (i := 6) sc_law_event_refused.nd rfl (Or.inr rfl) (pe_callHas g_law_pick (hr.mono (by decide)) rfl (pa_cons (pv 0) (pa_cons (pe_lst (pa_cons pe_str (pa_cons pe_str (pa_cons pe_str (pa_cons pe_str (pa_cons (pe_callHas g_law_odd (hr.mono (by decide)) rfl (pa_cons (pv 0) pa_nil)) pa_nil)))))) pa_nil))))
      (pss_cons (ps_set (i := 1) sc_law_event_refused.nd rfl (Or.inl rfl) (pe_lst (pa_cons (pe_lst (pa_cons pe_str pa_nil)) (pa_cons (pe_lst (pa_cons pe_str pa_nil)) (pa_cons (pe_lst (pa_cons pe_str (pa_cons pe_str pa_nil))) (pa_cons (pe_tup (pa_cons pe_str (pa_cons pe_str (pa_cons pe_str pa_nil)))) (pa_cons (pe_tup (pa_cons pe_str pa_nil)) (pa_cons (pe_lst (pa_cons pe_str pa_nil)) pa_nil))))))))
      (pss_cons (ps_set (i := 2) sc_law_event_refused.nd rfl (Or.inl rfl) (pe_lst (pa_cons (pe_lst pa_nil) (pa_cons (pe_tup pa_nil) (pa_cons pe_non (pa_cons pe_str (pa_cons (pe_lst (pa_cons pe_str (pa_cons pe_str pa_nil))) (pa_cons (pe_lst (pa_cons pe_str (pa_cons pe_str pa_nil))) (pa_cons (pe_lst (pa_cons pe_str (pa_cons pe_str pa_nil))) (pa_cons (pe_lst (pa_cons pe_non pa_nil)) (pa_cons (pe_lst (pa_cons (pe_lst (pa_cons pe_str pa_nil)) pa_nil)) (pa_cons pe_str (pa_cons pe_int (pa_cons (pe_lst (pa_cons pe_str pa_nil)) pa_nil))))))))))))))
      (pss_cons (ps_set (i := 7) sc_law_event_refused.nd rfl (Or.inr rfl) (pe_callHas g_law_pick (hr.mono (by decide)) rfl (pa_cons (pv 0) (pa_cons (pe_ifExp (pt_cmpR op_gt (pe_callHas g_law_take (hr.mono (by decide)) rfl (pa_cons (pv 0) (pa_cons pe_int pa_nil))) pe_int (nomark _)) (pv 1) (pv 2)) pa_nil))))
      (pss_cons (ps_set (i := 5) sc_law_event_refused.nd rfl (Or.inr rfl) (pe_callHas g_law_pick (hr.mono (by decide)) rfl (pa_cons (pv 0) (pa_cons (pe_lst (pa_cons pe_str (pa_cons pe_str (pa_cons pe_str (pa_cons pe_str (pa_cons pe_str (pa_cons pe_str (pa_cons pe_str (pa_cons pe_str (pa_cons pe_str (pa_cons pe_non (pa_cons pe_int (pa_cons (pe_lst (pa_cons pe_str pa_nil)) (pa_cons pe_bl pa_nil)))))))))))))) pa_nil))))
      (pss_cons (ps_set (i := 4) sc_law_event_refused.nd rfl (Or.inr rfl) (pe_lc (own := [("_law_turn", 8)]) (g := gName 8) (by rfl) sc_law_event_refused.nd (pi_range1 rfl T.z_range (pa_cons pe_int pa_nil)) (blkOk_by (own := [("_law_turn", 8)]) (N := n_law_event_refused) (sc := defScope s_law_event_refused) (by decide +kernel)) (fun _ _ _ _ _ => (pg_name (i := 8) sc_law_event_refused.nd rfl (Or.inl rfl))) (fun _ _ _ _ _ => pts_nil) (fun _ _ _ _ _ => (pe_callHas g_law_pick (hr.mono (by decide)) rfl (pa_cons (pv 0) (pa_cons (pe_lst (pa_cons pe_bl (pa_cons pe_bl (pa_cons pe_bl (pa_cons pe_bl (pa_cons pe_bl (pa_cons pe_int (pa_cons pe_int (pa_cons pe_non (pa_cons pe_str pa_nil)))))))))) pa_nil))))))
      (pss_cons (ps_set (i := 3) sc_law_event_refused.nd rfl (Or.inl rfl) (pe_callHas g_law_due_event (hr.mono (by decide)) rfl (pa_cons (pv 6) (pa_cons (pv 7) (pa_cons (pv 5) (pa_cons (pe_ix (ix_listK (K := K) rfl) (pv 4) pe_int (fun _ _ => rfl)) (pa_cons (pe_ix (ix_listK (K := K) rfl) (pv 4) pe_int (fun _ _ => rfl)) pa_nil)))))))
      (pss_one (ps_ret (pe_cmpR op_eq (LamX.pe_lamcall (T := TT) rfl mRef kpR lkR cdR bR sc_law_refused rfl (Or.inl rfl) (refused_gives T EX XR nPart te mSE mIR mIT mIB kRR kRT) TB rfl hmT huT (hr.mono (by decide)) (LamX.lamS_by (by show LamX.lamSB (defScope s_law_event_refused) _ = true; decide +kernel)) rfl (fun _ _ _ _ _ => rfl) (fun A outer s H E f c' hr => (pe_make ME g_event hr rfl CE.m bE .nil (passOut rfl rfl rfl rfl) (pa_cons (pv 6) (pa_cons (pv 7) (pa_cons (pv 5) (pa_cons (pe_ix (ix_listK (K := K) rfl) (pv 4) pe_int (fun _ _ => rfl)) (pa_cons (pe_ix (ix_listK (K := K) rfl) (pv 4) pe_int (fun _ _ => rfl)) pa_nil)))))))) (pv 3) (nomark _))))))))))), ?_⟩
    have nb := hb.ne
    -- the name
    refine ⟨_, rfl, _, rfl, b, rfl, hb, fun H1 v1 d1 u1 b1 m1 r1 => ⟨(by decide : 5 ≤ sizeLine), fun p hp => ?_⟩⟩
    obtain ⟨s2, h2⟩ := new_at (o := .lst [V.str "a", V.str "set", V.str "from", V.str "a", v1]) hp
    refine ⟨b, p, _, rfl, b1.keep s2, h2, new_ne b1.ne hp, (by show 0 < 5; decide), (by show 5 ≤ 1000; decide), fun i vn x y z e => ?_⟩
    obtain ⟨dn, mn, rn⟩ : ∃ dn, dn ∈ namesL ∧ Rel1 Z b (upd (upd H1 p (.lst [V.str "a", V.str "set", V.str "from", V.str "a", v1])) b (.lst [.int x, .int y, .int z])) vn dn := by
      have m1' : d1 ∈ namesL := List.mem_append_right _ m1
      match i, e with
      | 0, e => cases e; exact ⟨.a (.str "a"), by simp [namesL, namesM], rfl⟩
      | 1, e => cases e; exact ⟨.a (.str "set"), by simp [namesL, namesM], rfl⟩
      | 2, e => cases e; exact ⟨.a (.str "from"), by simp [namesL, namesM], rfl⟩
      | 3, e => cases e; exact ⟨.a (.str "a"), by simp [namesL, namesM], rfl⟩
      | 4, e => cases e; exact ⟨d1, m1', r1.kp ((Kp.of s2).trans Kp.upd')⟩
      | n + 5, e => simp at e
    have u2 : But b H (upd (upd H1 p (.lst [V.str "a", V.str "set", V.str "from", V.str "a", v1])) b (.lst [.int x, .int y, .int z])) := u1.trans ((Same.but s2).trans But.upd')
    have b2 : Box (upd (upd H1 p (.lst [V.str "a", V.str "set", V.str "from", V.str "a", v1])) b (.lst [.int x, .int y, .int z])) b := Box.upd'
    clear e h2 s2
    generalize upd (upd H1 p (.lst [V.str "a", V.str "set", V.str "from", V.str "a", v1])) b (.lst [.int x, .int y, .int z]) = H2 at *
    refine name_go ?_
    try dsimp only
    refine seq_asg ?_
    refine l_lst2 (Z := Z) (b := b) (ds := goodO ++ [.s false [.a (.str "up")]]) (ga2_cons (g2_lst (ga1_cons (g1_a (g_str "none")) ga1_nil) (by decide)) (ga2_cons (g2_lst (ga1_cons (g1_a (g_str "up")) ga1_nil) (by decide)) (ga2_cons (g2_lst (ga1_cons (g1_a (g_str "up")) (ga1_cons (g1_a (g_str "zz")) ga1_nil)) (by decide)) (ga2_cons (g2_tup (ga1_cons (g1_a (g_str "b")) (ga1_cons (g1_a (g_str "on")) (ga1_cons (g1_a (g_str "up")) ga1_nil))) (by decide)) (ga2_cons (g2_tup (ga1_cons (g1_a (g_str "none")) ga1_nil) (by decide)) (ga2_cons (g2_lst (ga1_cons (g1_a (g_str "up")) ga1_nil) (by decide)) ga2_nil)))))) (by decide) b2.ne fun H3 p3 as3 s3 n3 h3 ps3 => ?_
    have M3 : Menu Z b H3 (goodO ++ badO) p3 := ⟨as3, _, n3, h3, ps3, by simp [goodO, badO], by decide, by decide⟩
    refine name_go ?_
    try dsimp only
    refine seq_asg ?_
    have b3 := b2.keep s3
    refine l_lst2 (Z := Z) (b := b) (ds := badO) (ga2_cons (g2_lst ga1_nil (by decide)) (ga2_cons (g2_tup ga1_nil (by decide)) (ga2_cons (g2_a g_non) (ga2_cons (g2_a (g_str "up")) (ga2_cons (g2_lst (ga1_cons (g1_a (g_str "up")) (ga1_cons (g1_a (g_str "up")) ga1_nil)) (by decide)) (ga2_cons (g2_lst (ga1_cons (g1_a (g_str "none")) (ga1_cons (g1_a (g_str "up")) ga1_nil)) (by decide)) (ga2_cons (g2_lst (ga1_cons (g1_a (g_str "up")) (ga1_cons (g1_a (g_str "none")) ga1_nil)) (by decide)) (ga2_cons (g2_lst (ga1_cons (g1_a g_non) ga1_nil) (by decide)) (ga2_cons (g2_lst (ga1_cons (g1_lst (ga_cons (g_str "up") ga_nil) (by decide)) ga1_nil) (by decide)) (ga2_cons (g2_a (g_str "none")) (ga2_cons (g2_a (g_int 0)) (ga2_cons (g2_lst (ga1_cons (g1_a (g_str "to")) ga1_nil) (by decide)) ga2_nil)))))))))))) (by decide) b3.ne fun H4 p4 as4 s4 n4 h4 ps4 => ?_
    have M4 : Menu Z b H4 (goodO ++ badO) p4 := ⟨as4, _, n4, h4, ps4, (fun d hd => List.mem_append_right _ hd), by decide, by decide⟩
    have M34 := M3.same (Same.but s4)
    have b4 := b3.keep s4
    refine name_go ?_
    try dsimp only
    refine seq_asg ?_
    refine ⟨_, rfl, _, rfl, b, 4, rfl, b4, by decide, by decide, fun d4 x4 y4 z4 e0 e1 => ⟨_, _, rfl, rfl, _, rfl, ?_⟩⟩
    have u5 : But b H4 (upd H4 b (.lst [.int x4, .int y4, .int z4])) := But.upd'
    have b5 : Box (upd H4 b (.lst [.int x4, .int y4, .int z4])) b := Box.upd'
    have M3' := M34.same u5
    have M4' := M4.same u5
    have u25 : But b H2 (upd H4 b (.lst [.int x4, .int y4, .int z4])) := (Same.but s3).trans ((Same.but s4).trans u5)
    generalize upd H4 b (.lst [.int x4, .int y4, .int z4]) = H5 at *
    refine if_menu (M := Menu Z b H5 (goodO ++ badO)) rfl rfl M3' M4' fun r Mr => ?_
    refine Menu.pick Mr b5 fun H6 vo dO u6 b6 mO rO => ?_
    -- the kind
    refine name_go ?_
    refine ⟨_, rfl, ?_⟩
    refine a_lst1 (Z := Z) ga_kinds (by decide) b6.ne fun H7 p7 as7 s7 n7 h7 ps7 => ?_
    refine pick1 (b6.keep s7) h7 n7 ps7 (by decide) (by decide) fun H8 vk dk u8 b8 mk rk => ?_
    -- the flags
    refine name_go ?_
    refine ⟨2, rfl, by decide, by decide, fun D hD => lc_range (lo := 0) (n := 2) (fun j H' => Box H' b ∧ (∀ x o, x ≠ b → x ≠ D → H8 x = some o → H' x = some o) ∧ ∃ vs ds, H' D = some (.lst vs) ∧ vs.length = j ∧ Paired (fun v d => ∀ H, Rel1 Z b H v d) vs ds ∧ ∀ d ∈ ds, d ∈ flagsL) ?_ ?_ ?_⟩
    · exact ⟨b8.keep (new_at hD).1, fun x o _ n z => by rw [upd_ne n]; exact z, [], [], upd_same, rfl, .nil, fun d hd => nomatch hd⟩
    · rintro j H' hj ⟨hb', kp, vs, ds, hD', hl, hp, hm⟩
      have nDb : D ≠ b := new_ne b8.ne hD
      refine ⟨rfl, ⟨_, rfl, ?_⟩⟩
      refine a_lst1 (Z := Z) ga_flags (by decide) hb'.ne fun H9 p9 as9 s9 n9 h9 ps9 => ?_
      refine pick1 (hb'.keep s9) h9 n9 ps9 (by decide) (by decide) fun HA v d uA bA md rd => ?_
      have hDA : HA D = some (.lst vs) := uA _ _ nDb (s9 _ _ hD')
      refine ⟨vs, hDA, by rw [hl]; exact Nat.lt_trans hj (by decide), ?_, fun x o n1 n2 z => by rw [upd_ne n2]; exact uA _ _ n1 (s9 _ _ (kp x o n1 n2 z)), vs ++ [v], ds ++ [d], upd_same, by rw [List.length_append, hl]; rfl, paired_snoc hp (fun H => flag_any md rd), fun e he => ?_⟩
      · obtain ⟨y1, y2, y3, q⟩ := bA
        exact ⟨y1, y2, y3, by rw [upd_ne nDb.symm]; exact q⟩
      · rcases List.mem_append.mp he with he | he
        · exact hm e he
        · rw [List.mem_singleton.mp he]; exact md
    rintro H9 ⟨b9, kp9, vs, ds, hD9, hl, hp, hm⟩
    obtain ⟨va, vg, da, dg, rfl, rfl, ra, rg⟩ := two_of hp hl
    have ma : da ∈ flagsL := hm _ List.mem_cons_self
    have mg' : dg ∈ flagsL := hm _ (List.mem_cons_of_mem _ List.mem_cons_self)
    have u9 : But b H8 H9 := fun x o n z => kp9 x o n (ne_of_none z hD) z
    have u29 : But b H2 H9 := u25.trans (u6.trans ((Same.but s7).trans (u8.trans u9)))
    have rn9 := rn.kp u29.kp
    have rO9 := rO.kp ((Same.but s7).trans (u8.trans u9)).kp
    have rk9 := rk.kp u9.kp
    have uH : But b H H9 := u2.trans u29
    refine name_go ?_
    have sD : SqL K H9 D [va, vg] := SqL.of hD9
    refine ⟨_, rfl, _, rfl, _, rfl, _, rfl, D, [va, vg], _, va, rfl, rfl, sD, rfl, _, rfl, D, [va, vg], _, vg, rfl, rfl, sD, rfl, ?_⟩
    refine ⟨b, vn, vo, vk, va, vg, dn, dk, da, dg, dO, rfl, b9.ne, rn9, rO9, rk9, ra _, rg _, mn, mO, mk, ma, mg', fun HB sB => ?_⟩
    have tabs : Tabs TT HB := LamX.Tabs.ext (Tabs.but hT hb uH) sB
    refine name_go ⟨tabs, fun HC eN tC => ?_⟩
    have kC : Kp b H9 HC := (Kp.of sB).trans (Kp.ext eN)
    have sDC : SqL K HC D [va, vg] := SqL.of (eN _ _ (sB _ _ hD9) (fun ps z => nomatch z))
    refine ⟨_, rfl, _, rfl, _, rfl, _, rfl, D, [va, vg], _, va, rfl, rfl, sDC, rfl, _, rfl, D, [va, vg], _, vg, rfl, rfl, sDC, rfl, fun x dx hx hdx nd => ?_⟩
    refine ev_ref hx hdx nd (rn9.kp kC) (rO9.kp kC) (rk9.kp kC) (ra _) (rg _) mn mO mk fun HF sF => ?_
    refine ⟨_, rfl, rfl, ?_⟩
    rw [decide_eq_true rfl]
    refine k HF (uH.kp.trans (kC.trans (Kp.of sF))) ?_ (LamX.Tabs.ext tC sF)
    obtain ⟨y1, y2, y3, q⟩ := b9.keep sB
    exact ⟨y1, y2, y3, sF _ _ (eN _ _ q fun ps z => nomatch z)⟩
end
end K14

set_option pp.maxSteps 600
namespace K14
open PySem L2 LamX PySem.Spec PyProof.Rows
def goodW : Nat → List D1
  | 0 => [.a (.str "sum"), .a (.str "on")]
  | 1 => [.a (.str "up"), .a (.str "zz")]
  | 2 => [.a (.int 0), .a (.int (-3)), .a (.int 999)]
  | 3 => [.a (.str "amount"), .a (.str "one")]
  | 4 => [.a .non, .a (.int 0), .a (.int (-5))]
  | _ => [.a .non, .a (.int 1), .a (.int 77)]
def oddH : List D1 := [.a .non, .a (.bl true), .a (.str "1"), .s false [.int 1], .s true [.int 2]]
def badW : Nat → List D1
  | 0 => oddD
  | 1 => oddD
  | 2 => oddH
  | 3 => [.a (.str ""), .a (.str "old"), .a .non, .a (.int 0), .s false [.str "one"]]
  | 4 => [.a (.bl true), .a (.str "0"), .s true [.int 0]]
  | _ => [.a (.bl false), .a (.str "1"), .s false [.int 2]]
def fromW (i : Nat) (g : Bool) : List D1 := if g then goodW i else badW i
def partsW : List Str := ["total", "kind", "factor", "what", "least", "below"]
/-- what is due by now -/
def dueW : Nat → List Bool → Str
  | _, [] => "made"
  | i, g :: gs => if g then dueW (i + 1) gs else partsW.getD i "made"
theorem w0_ok : ([false, true].all fun g => (fromW 0 g).all fun d => (at2 name0 d.up == g) && shB d.up) = true := by decide +kernel
theorem w1_ok : ([false, true].all fun g => (fromW 1 g).all fun d => (at2 name0 d.up == g) && shB d.up) = true := by decide +kernel
theorem w2_ok : ([false, true].all fun g => (fromW 2 g).all fun d => at2 int0 d.up == g) = true := by decide +kernel
theorem w3_ok : ([false, true].all fun g => (fromW 3 g).all fun d => (whatB d.up == g) && ok2 d.up) = true := by decide +kernel
theorem w4_ok : ([false, true].all fun g => (fromW 4 g).all fun d => optB d.up == g) = true := by decide +kernel
theorem w5_ok : ([false, true].all fun g => (fromW 5 g).all fun d => optB d.up == g) = true := by decide +kernel
theorem w45_ok : ((goodW 4).all fun l => (goodW 5).all fun d => ltB l.up d.up) = true := by decide +kernel
theorem all_g {f : Bool → Bool} (h : ([false, true].all f) = true) (g : Bool) : f g = true := by cases g <;> simp_all
theorem wd_due (a b c d e f n : Bool) (h : e = true → f = true → n = true) : wD a b c d e f n = dueW 0 [a, b, c, d, e, f] := by
  cases a <;> cases b <;> cases c <;> cases d <;> cases e <;> cases f <;> cases n <;> first | rfl | (exact absurd (h rfl rfl) (by decide))
theorem due_of {d0 d1 d2 d3 d4 d5 : D1} {g0 g1 g2 g3 g4 g5 : Bool} (m0 : d0 ∈ fromW 0 g0) (m1 : d1 ∈ fromW 1 g1) (m2 : d2 ∈ fromW 2 g2) (m3 : d3 ∈ fromW 3 g3) (m4 : d4 ∈ fromW 4 g4) (m5 : d5 ∈ fromW 5 g5) :
    worthDue d0.up d1.up d2.up d3.up d4.up d5.up = dueW 0 [g0, g1, g2, g3, g4, g5] ∧ sh0 d0.up ∧ sh0 d1.up ∧ ok2 d3.up = true := by
  obtain ⟨a0, a0'⟩ := Bool.and_eq_true_iff.mp (List.all_eq_true.mp (all_g w0_ok g0) d0 m0)
  obtain ⟨a1, a1'⟩ := Bool.and_eq_true_iff.mp (List.all_eq_true.mp (all_g w1_ok g1) d1 m1)
  have a2 := List.all_eq_true.mp (all_g w2_ok g2) d2 m2
  obtain ⟨a3, a3'⟩ := Bool.and_eq_true_iff.mp (List.all_eq_true.mp (all_g w3_ok g3) d3 m3)
  have a4 := List.all_eq_true.mp (all_g w4_ok g4) d4 m4
  have a5 := List.all_eq_true.mp (all_g w5_ok g5) d5 m5
  refine ⟨?_, sh0_of a0', sh0_of a1', a3'⟩
  unfold worthDue
  rw [eq_of_beq a0, eq_of_beq a1, eq_of_beq a2, eq_of_beq a3, eq_of_beq a4, eq_of_beq a5]
  refine wd_due _ _ _ _ _ _ _ fun e4 e5 => ?_
  subst e4 e5
  exact List.all_eq_true.mp (List.all_eq_true.mp w45_ok d4 m4) d5 m5
theorem worth_ref {Z : Nat → Addr} {WO IR b x dx : Addr} {H : Hp} {v0 v1 v2 v3 v4 v5 : V} {d0 d1 d2 d3 d4 d5 : D1} {Q : VK} {r : Str} (hx : H x = none) (hdx : H dx = none) (nd : dx ≠ x) (r0 : Rel1 Z b H v0 d0) (r1 : Rel1 Z b H v1 d1) (r2 : Rel1 Z b H v2 d2) (r3 : Rel1 Z b H v3 d3) (r4 : Rel1 Z b H v4 d4) (r5 : Rel1 Z b H v5 d5) (h0 : sh0 d0.up) (h1 : sh0 d1.up) (h3 : ok2 d3.up = true) (er : worthDue d0.up d1.up d2.up d3.up d4.up d5.up = r)
    (ret : ∀ H', Same H H' → Q (.str r) H') : spWorth Z WO IR [.ref x, v0, v1, v2, v3, v4, v5] (upd (upd H dx (.own x)) x (.ins WO dx [])) (fun v H2 => v = .non ∧ ∃ u : V, some (some (V.str "made")) = some (some u) ∧ Q u H2) (EchR IR Q) := by
  have hx1 : upd H dx (.own x) x = none := by rw [upd_ne (fun z => nd z.symm)]; exact hx
  have s2 : Same H (upd (upd H dx (.own x)) x (.ins WO dx [])) := (new_at hdx).1.trans (new_at hx1).1
  subst er
  refine ⟨b, x, dx, v0, v1, v2, v3, v4, v5, d0.up, d1.up, d2.up, d3.up, d4.up, d5.up, rfl, upd_same, (r0.kp (Kp.of s2)).up, (r1.kp (Kp.of s2)).up, (r2.kp (Kp.of s2)).up, (r3.kp (Kp.of s2)).up, (r4.kp (Kp.of s2)).up, (r5.kp (Kp.of s2)).up, h0, h1, h3, fun m H' kp => ⟨rfl, _, rfl, ?_⟩, fun p ep np H' d s hd hp => ⟨rfl, d, p, rfl, hp, fun H'' s'' => ?_⟩⟩
  · have := ret H' fun y o h => kp y o (ne_of_none h hx) (s2 _ _ h)
    rw [m] at this
    exact this
  · have := ret H'' (s2.trans (s.trans s''))
    rw [ep] at this
    exact this
/-- a list from which one is picked -/
def One (Z : Nat → Addr) (b : Addr) (H : Hp) (L : List D1) (r : Addr) : Prop := ∃ as ds, r ≠ b ∧ H r = some (.lst as) ∧ Paired (Rel1 Z b H) as ds ∧ (∀ d ∈ ds, d ∈ L) ∧ 0 < ds.length ∧ ds.length ≤ 1000
theorem One.same {Z : Nat → Addr} {b : Addr} {H H' : Hp} {L : List D1} {r : Addr} (m : One Z b H L r) (s : But b H H') : One Z b H' L r := by
  obtain ⟨as, ds, n, h, p, q⟩ := m
  exact ⟨as, ds, n, s _ _ n h, p.mapP' fun _ _ z => z.kp s.kp, q⟩
theorem One.of {Z : Nat → Addr} {b : Addr} {H : Hp} {L : List D1} {r : Addr} {as : List V} (n : r ≠ b) (h : H r = some (.lst as)) (p : Paired (Rel1 Z b H) as L) (l0 : 0 < L.length) (l1 : L.length ≤ 1000) : One Z b H L r := ⟨as, L, n, h, p, fun _ z => z, l0, l1⟩
/-- such lists, one for each place -/
def Lists (Z : Nat → Addr) (b : Addr) (H : Hp) (L : Nat → List D1) (p : Addr) : Prop := ∃ rs : List V, p ≠ b ∧ H p = some (.lst rs) ∧ ∀ i, i < 6 → ∃ r, rs[i]? = some (.ref r) ∧ One Z b H (L i) r
theorem Lists.same {Z : Nat → Addr} {b : Addr} {H H' : Hp} {L : Nat → List D1} {p : Addr} (m : Lists Z b H L p) (s : But b H H') : Lists Z b H' L p := by
  obtain ⟨rs, n, h, k⟩ := m
  refine ⟨rs, n, s _ _ n h, fun i hi => ?_⟩
  obtain ⟨r, e, o⟩ := k i hi
  exact ⟨r, e, o.same s⟩
theorem Lists.mk {Z : Nat → Addr} {b : Addr} {H : Hp} {L : Nat → List D1} {p r0 r1 r2 r3 r4 r5 : Addr} (n : p ≠ b) (h : H p = some (.lst [.ref r0, .ref r1, .ref r2, .ref r3, .ref r4, .ref r5])) (o0 : One Z b H (L 0) r0) (o1 : One Z b H (L 1) r1) (o2 : One Z b H (L 2) r2) (o3 : One Z b H (L 3) r3) (o4 : One Z b H (L 4) r4) (o5 : One Z b H (L 5) r5) : Lists Z b H L p := by
  refine ⟨_, n, h, fun i hi => ?_⟩
  match i, hi with
  | 0, _ => exact ⟨_, rfl, o0⟩
  | 1, _ => exact ⟨_, rfl, o1⟩
  | 2, _ => exact ⟨_, rfl, o2⟩
  | 3, _ => exact ⟨_, rfl, o3⟩
  | 4, _ => exact ⟨_, rfl, o4⟩
  | 5, _ => exact ⟨_, rfl, o5⟩
theorem lst_go {t : TA} {σ : L2.St} {H : Hp} {Q : VK} (h : t σ H fun xs H1 => xs.length ≤ sizeLine ∧ ∀ p, H1 p = none → Q (.ref p) (upd H1 p (.lst xs))) : tLst t σ H Q := h
theorem parts_ne : ∀ i, i < 6 → partsW.getD i "made" ≠ "made" := by decide +kernel
theorem dueW_snoc : ∀ (gs : List Bool) (i : Nat) (g : Bool), i + gs.length < 6 → dueW i (gs ++ [g]) = if dueW i gs = "made" then (if g then ("made" : Str) else partsW.getD (i + gs.length) "made") else dueW i gs
  | [], i, g, _ => by cases g <;> rfl
  | true :: gs, i, g, h => by
    have ih := dueW_snoc gs (i + 1) g (by rw [List.length_cons] at h; omega)
    have e : i + (true :: gs).length = i + 1 + gs.length := by rw [List.length_cons]; omega
    rw [e]
    exact ih
  | false :: gs, i, g, h => by
    show partsW.getD i "made" = if partsW.getD i "made" = "made" then _ else partsW.getD i "made"
    rw [if_neg (parts_ne i (by omega))]
theorem parts_at {j : Nat} (h : j < 6) : (partsW.map V.str)[j]? = some (V.str (partsW.getD j "made")) := by
  rw [List.getElem?_map, List.getD_eq_getElem?_getD, List.getElem?_eq_getElem (show j < partsW.length from h)]; rfl
theorem if_lists {K : PySem.W.Frag} {Z : Nat → Addr} {b gp bp : Addr} {HM H : Hp} {c : Bool} {n : Nat} {σ : L2.St} {Q : VK} (hi : σ[3]? = some (some (.ref gp))) (hj : σ[4]? = some (some (.ref bp))) (hl : σ[7]? = some (some (.int (0 + (n : Nat))))) (hn : n < 6) (g : Lists Z b HM goodW gp) (d : Lists Z b HM badW bp) (u : But b HM H) (k : ∀ r, One Z b HM (fromW n c) r → Q (.ref r) H) :
    if c = true then tOp (rIxL K) (tVar 3) (tVar 7) σ H Q else tOp (rIxL K) (tVar 4) (tVar 7) σ H Q := by
  have e0 : (0 + ((n : Nat) : Int)) = ((n : Nat) : Int) := by omega
  rw [e0] at hl
  cases c with
  | true =>
    obtain ⟨rs, np, hp, f⟩ := g
    obtain ⟨r, e, o⟩ := f n hn
    exact iteSe rfl ⟨_, hi, _, hl, gp, rs, _, _, rfl, rfl, SqL.of (u _ _ np hp), atI_nat e, k r o⟩
  | false =>
    obtain ⟨rs, np, hp, f⟩ := d
    obtain ⟨r, e, o⟩ := f n hn
    exact iteSf rfl ⟨_, hj, _, hl, bp, rs, _, _, rfl, rfl, SqL.of (u _ _ np hp), atI_nat e, k r o⟩
theorem pick_st {Z : Nat → Addr} {b r : Addr} {HM H : Hp} {L : List D1} {Q : VK} (m : One Z b HM L r) (hb : Box H b) (u : But b HM H) (q : ∀ (H' : Hp) (v : V) (d : D1), But b H H' → Box H' b → d ∈ L → Rel1 Z b HM v d → Q v H') : spPick [.ref b, .ref r] H Q E0 := by
  obtain ⟨as, ds, n, h, p, ml, l0, l1⟩ := m
  refine ⟨b, r, as, rfl, hb, u _ _ n h, n, by rw [p.len]; exact l0, by rw [p.len]; exact l1, fun i v x y z e => ?_⟩
  obtain ⟨d, ed, rd⟩ := p.at' e
  exact q _ v d But.upd' Box.upd' (ml d (List.mem_of_getElem? ed)) rd
theorem mem_snoc {j : Nat} {ds : List D1} {gs : List Bool} {d : D1} {g : Bool} (lg : gs.length = j) (ld : ds.length = j) (mem : ∀ (i : Nat) (d : D1) (g : Bool), ds[i]? = some d → gs[i]? = some g → d ∈ fromW i g) (m : d ∈ fromW j g) : ∀ (i : Nat) (d' : D1) (g' : Bool), (ds ++ [d])[i]? = some d' → (gs ++ [g])[i]? = some g' → d' ∈ fromW i g' := fun i d' g' e1 e2 => by
  by_cases hi : i < j
  · rw [List.getElem?_append_left (by omega)] at e1 e2
    exact mem i d' g' e1 e2
  · rw [List.getElem?_append_right (by omega)] at e1 e2
    have i0 : i = j := by
      have := (List.getElem?_eq_some_iff.mp e1).1
      rw [List.length_singleton] at this
      omega
    subst i0
    rw [ld, Nat.sub_self] at e1
    rw [lg, Nat.sub_self] at e2
    cases e1
    cases e2
    exact m
theorem worth_below {p q : Int} (h : ¬ p < q) : worthDue (D1.a (.str "sum")).up (D1.a (.str "up")).up (D1.a (.int 1)).up (D1.a (.str "one")).up (D1.a (.int p)).up (D1.a (.int q)).up = "below" := by
  have e0 : at2 name0 (D1.a (.str "sum")).up = true := by decide +kernel
  have e1 : at2 name0 (D1.a (.str "up")).up = true := by decide +kernel
  have e3 : whatB (D1.a (.str "one")).up = true := by decide +kernel
  have e5 : ltB (D1.a (.int p)).up (D1.a (.int q)).up = false := decide_eq_false h
  unfold worthDue
  rw [e0, e1, e3, e5]
  rfl
theorem cons_go {te : TE} {tr : TA} {σ : L2.St} {H : Hp} {Q : List V → Hp → Prop} (h : te σ H fun x H1 => tr σ H1 fun xs H2 => Q (x :: xs) H2) : tCons te tr σ H Q := h
theorem seq_go {t u : TS} {D : Ends} {σ : L2.St} {H : Hp} (h : t { D with nx := u D } σ H) : tSeq t u D σ H := h
theorem gl_lst {Z : Nat → Addr} {b : Addr} {ta : TA} {L : List D1} (h : GA1 Z b ta L) (l : L.length ≤ 1000) {σ : L2.St} {H : Hp} {Q : VK} (n : H b ≠ none) (q : ∀ (H' : Hp) (r : Addr) (as : List V), Same H H' → r ≠ b → H' r = some (.lst as) → Paired (Rel1 Z b H') as L → Q (.ref r) H') : tLst ta σ H Q := l_lst1 h l n q
theorem ga_parts {Z : Nat → Addr} {b : Addr} : GA1 Z b (tCons (tC (.str "total")) (tCons (tC (.str "kind")) (tCons (tC (.str "factor")) (tCons (tC (.str "what")) (tCons (tC (.str "least")) (tCons (tC (.str "below")) tNil)))))) (partsW.map fun s => .a (.str s)) :=
  ga1_cons (g1_a (g_str "total")) (ga1_cons (g1_a (g_str "kind")) (ga1_cons (g1_a (g_str "factor")) (ga1_cons (g1_a (g_str "what")) (ga1_cons (g1_a (g_str "least")) (ga1_cons (g1_a (g_str "below")) ga1_nil)))))
theorem ga_oddH {Z : Nat → Addr} {b : Addr} : GA1 Z b (tCons (tC .non) (tCons (tC (.bl true)) (tCons (tC (.str "1")) (tCons (tLst (tCons (tC (.int 1)) tNil)) (tCons (tTup (tCons (tC (.int 2)) tNil)) tNil))))) oddH :=
  ga1_cons (g1_a g_non) (ga1_cons (g1_a (g_bl true)) (ga1_cons (g1_a (g_str "1")) (ga1_cons (g1_lst (ga_cons (g_int 1) ga_nil) (by decide)) (ga1_cons (g1_tup (ga_cons (g_int 2) ga_nil) (by decide)) ga1_nil))))
section
variable {P : Program} {w : World} {K : PySem.W.Frag} {mg : Str → Option Value} {base : Heap}
abbrev s_law_worth_refused : Stmt := top 34
abbrev n_law_worth_refused : List Str := ["_law_box_here", "_law_parts", "_law_odd_here", "_law_good", "_law_bad", "_law_some", "_law_due", "_law_at", "_law_is_good", "_law_a", "_law_b", "_law_below", "_law_c", "_law_d", "_law_e", "_law_f", "_law_least"]
theorem sc_law_worth_refused : FnScope n_law_worth_refused ["_law_box_here"] (defScope s_law_worth_refused) := ⟨rfl, rfl, rfl, by decide +kernel, rfl, by decide +kernel, by decide +kernel⟩
def lamW : Str := "_law_worth_refused.<locals>.<lambda>"
theorem ok_worthR {Z : Nat → Addr} {TT : List (Addr × Str)} {cW tW WO SE IR IT IB gR fW : Addr} {fdW : FuncData} {ocR kVR dcR pmR cdvR ctR : Value} {odR anR : Option Addr} {oslR : Array (Option Value)} (T : Txt mg) (RK : RefK K mg gR ocR kVR dcR pmR cdvR ctR odR anR oslR) (EK : ErrK K mg SE IR IT IB)
    (CW : ClsW K mg WO) (MW : Mk K WO fW) (g_worth : FnOk P w K mg base (L2.CX P w) 6 fW fdW ["self", "total", "kind", "factor", "what", "least", "below"] (spWorth Z WO IR)) (bW : Binds K fdW ["self", "total", "kind", "factor", "what", "least", "below"] [])
    (TB : TabB base mg cW tW) (hmT : (tW, lamW) ∈ TT) (huT : ∀ p ∈ TT, p.1 = tW → p.2 = lamW)
    (g_law_take : Has P w K mg base 1 "_law_take" ["_law_box_here", "_law_many"] spTake) (g_law_pick : Has P w K mg base 2 "_law_pick" ["_law_box_here", "_law_items"] spPick) (g_law_odd : Has P w K mg base 3 "_law_odd" ["_law_box_here"] (spOdd Z))
    (F : DefC K mg "_law_worth_refused" s_law_worth_refused ["_law_box_here"] cW) : Has P w K mg base 10 "_law_worth_refused" ["_law_box_here"] (spRefused TT) := by
  have mRef := RK.m; have kpR := RK.kp; have lkR := RK.lk; have cdR := RK.cd; have bR := RK.b
  have EX := EK.ex; have XR := EK.xr; have nPart := EK.nPart; have te := EK.te; have mSE := EK.mSE; have mIR := EK.mIR; have mIT := EK.mIT; have mIB := EK.mIB; have kRR := EK.kRR; have kRT := EK.kRT
  refine F.has sc_law_worth_refused (fun vs H Q E h => ?_) (fun f A outer s H vs Q E hr h => ?_)
  · obtain ⟨b, rfl, _⟩ := h
    rfl
  · have hu := hr.units
    obtain ⟨b, rfl, hb, hT, k⟩ := h
    refine ⟨_, (pss_cons (ps_par (i := 1) (j := 2) (by rfl) sc_law_worth_refused.nd rfl rfl (by decide) rfl rfl (pa_cons (pe_lst (pa_cons pe_str (pa_cons pe_str (pa_cons pe_str (pa_cons pe_str (pa_cons pe_str (pa_cons pe_str pa_nil))))))) (pa_cons (pe_lst (pa_cons pe_non (pa_cons pe_bl (pa_cons pe_str (pa_cons (pe_lst (pa_cons pe_int pa_nil)) (pa_cons (pe_tup (pa_cons pe_int pa_nil)) pa_nil)))))) pa_nil)) (by rfl))
      (pss_cons (ps_set (i := 3) sc_law_worth_refused.nd rfl (Or.inl rfl) (pe_lst (pa_cons (pe_lst (pa_cons pe_str (pa_cons pe_str pa_nil))) (pa_cons (pe_lst (pa_cons pe_str (pa_cons pe_str pa_nil))) (pa_cons (pe_lst (pa_cons pe_int (pa_cons (pe_un un_neg pe_int) (pa_cons pe_int pa_nil)))) (pa_cons (pe_lst (pa_cons pe_str (pa_cons pe_str pa_nil))) (pa_cons (pe_lst (pa_cons pe_non (pa_cons pe_int (pa_cons (pe_un un_neg pe_int) pa_nil)))) (pa_cons (pe_lst (pa_cons pe_non (pa_cons pe_int (pa_cons pe_int pa_nil)))) pa_nil))))))))
      (pss_cons (ps_set (i := 4) sc_law_worth_refused.nd rfl (Or.inl rfl) (pe_lst (pa_cons (pe_lst (pa_cons (pe_callHas g_law_odd (hr.mono (by decide)) rfl (pa_cons (pv 0) pa_nil)) pa_nil)) (pa_cons (pe_lst (pa_cons (pe_callHas g_law_odd (hr.mono (by decide)) rfl (pa_cons (pv 0) pa_nil)) pa_nil)) (pa_cons (pv 2) (pa_cons (pe_lst (pa_cons pe_str (pa_cons pe_str (pa_cons pe_non (pa_cons pe_int (pa_cons (pe_lst (pa_cons pe_str pa_nil)) pa_nil)))))) (pa_cons (pe_lst (pa_cons pe_bl (pa_cons pe_str (pa_cons (pe_tup (pa_cons pe_int pa_nil)) pa_nil)))) (pa_cons (pe_lst (pa_cons pe_bl (pa_cons pe_str (pa_cons (pe_lst (pa_cons pe_int pa_nil)) pa_nil)))) pa_nil))))))))
      (pss_cons (ps_par (i := 5) (j := 6) (by rfl) sc_law_worth_refused.nd rfl rfl (by decide) rfl rfl (pa_cons (pe_lst pa_nil) (pa_cons pe_str pa_nil)) (by rfl))
      (pss_cons (ps_for PassesOwn.never rfl (pi_range1 rfl T.z_range (pa_cons pe_int pa_nil)) (pg_name (i := 7) sc_law_worth_refused.nd rfl (Or.inl rfl)) (pss_cons (ps_set (i := 8) sc_law_worth_refused.nd rfl (Or.inl rfl) (pe_cmpR op_gt (pe_callHas g_law_take (hr.mono (by decide)) rfl (pa_cons (pv 0) (pa_cons pe_int pa_nil))) pe_int (nomark _)))
      (pss_cons (ps_expr (pe_bm PySem.F.plainAttrs_list PySem.F.slot_list_append PySem.F.type_list_append mt_append (pv 5) (pa_cons (pe_callHas g_law_pick (hr.mono (by decide)) rfl (pa_cons (pv 0) (pa_cons (pe_ifExp (pt_val (pv 8)) (pe_ix ix_list (pv 3) (pv 7) (fun _ _ => rfl)) (pe_ix ix_list (pv 4) (pv 7) (fun _ _ => rfl))) pa_nil))) pa_nil)))
      (pss_one (ps_if (PW.pt (pw_and (pt_not (pt_val (pv 8))) (pw_and1 (pt_cmpR op_eq (pv 6) pe_str (nomark _))))) (pss_one (ps_set (i := 6) sc_law_worth_refused.nd rfl (Or.inl rfl) (pe_ix ix_list (pv 1) (pv 7) (fun _ _ => rfl)))) pss_nil)))))
      (pss_cons (ps_asg (pv 5) (pg_lst rfl (pgs_cons (pg_name (i := 9) sc_law_worth_refused.nd rfl (Or.inr rfl)) (pgs_cons (pg_name (i := 10) sc_law_worth_refused.nd rfl (Or.inr rfl)) (pgs_cons (pg_name (i := 12) sc_law_worth_refused.nd rfl (Or.inr rfl)) (pgs_cons (pg_name (i := 13) sc_law_worth_refused.nd rfl (Or.inr rfl)) (pgs_cons (pg_name (i := 14) sc_law_worth_refused.nd rfl (Or.inr rfl)) (pgs_cons (pg_name (i := 15) sc_law_worth_refused.nd rfl (Or.inr rfl)) pgs_nil))))))))
      (pss_cons (ps_if (pt_cmpR op_ne (LamX.pe_lamcall (T := TT) rfl mRef kpR lkR cdR bR sc_law_refused rfl (Or.inl rfl) (refused_gives T EX XR nPart te mSE mIR mIT mIB kRR kRT) TB rfl hmT huT (hr.mono (by decide)) (LamX.lamS_by (by show LamX.lamSB (defScope s_law_worth_refused) _ = true; decide +kernel)) rfl (fun _ _ _ _ _ => rfl) (fun A outer s H E f c' hr => (pe_make MW g_worth hr rfl CW.m bW .nil (passOut rfl rfl rfl rfl) (pa_cons (pv 9) (pa_cons (pv 10) (pa_cons (pv 12) (pa_cons (pv 13) (pa_cons (pv 14) (pa_cons (pv 15) pa_nil))))))))) (pv 6) (nomark _)) (pss_one (ps_ret pe_bl)) pss_nil)
      (pss_cons (ps_set (i := 16) sc_law_worth_refused.nd rfl (Or.inr rfl) (pe_op op_sub (pe_callHas g_law_take (hr.mono (by decide)) rfl (pa_cons (pv 0) (pa_cons pe_int pa_nil))) pe_int))
      (pss_cons (ps_set (i := 11) sc_law_worth_refused.nd rfl (Or.inr rfl) (pe_op op_sub (pv 16) (pe_callHas g_law_take (hr.mono (by decide)) rfl (pa_cons (pv 0) (pa_cons pe_int pa_nil)))))
      (pss_one (ps_ret (pe_cmpR op_eq (LamX.pe_lamcall (T := TT) rfl mRef kpR lkR cdR bR sc_law_refused rfl (Or.inl rfl) (refused_gives T EX XR nPart te mSE mIR mIT mIB kRR kRT) TB rfl hmT huT (hr.mono (by decide)) (LamX.lamS_by (by show LamX.lamSB (defScope s_law_worth_refused) _ = true; decide +kernel)) rfl (fun _ _ _ _ _ => rfl) (fun A outer s H E f c' hr => (pe_make MW g_worth hr rfl CW.m bW .nil (passOut rfl rfl rfl rfl) (pa_cons pe_str (pa_cons pe_str (pa_cons pe_int (pa_cons pe_str (pa_cons (pv 16) (pa_cons (pv 11) pa_nil))))))))) pe_str (nomark _))))))))))))), ?_⟩
    have nb := hb.ne
    refine seq_go ?_
    refine cons_go (gl_lst (Z := Z) ga_parts (by decide) nb fun H1 pp asP s1 nP hP psP => ?_)
    refine cons_go (gl_lst (Z := Z) ga_oddH (by decide) (some_keep s1 nb) fun H2 ph asH s2 nH hH psH => ?_)
    refine ⟨_, _, rfl, ?_⟩
    try dsimp only
    refine seq_asg (lst_go ?_)
    have bo2 := (hb.keep s1).keep s2
    have t0 := Same.refl H2
    refine cons_go (gl_lst (Z := Z) (L := goodW 0) (ga1_cons (g1_a (g_str "sum")) (ga1_cons (g1_a (g_str "on")) ga1_nil)) (by decide) (some_keep t0 bo2.ne) fun G0 g0 as0 sg0 ng0 hg0 pg0 => ?_)
    have t1 := t0.trans sg0
    refine cons_go (gl_lst (Z := Z) (L := goodW 1) (ga1_cons (g1_a (g_str "up")) (ga1_cons (g1_a (g_str "zz")) ga1_nil)) (by decide) (some_keep t1 bo2.ne) fun G1 g1 as1 sg1 ng1 hg1 pg1 => ?_)
    have t2 := t1.trans sg1
    refine cons_go (gl_lst (Z := Z) (L := goodW 2) (ga1_cons (g1_a (g_int 0)) (ga1_cons (g1_a (g_neg 3)) (ga1_cons (g1_a (g_int 999)) ga1_nil))) (by decide) (some_keep t2 bo2.ne) fun G2 g2 as2 sg2 ng2 hg2 pg2 => ?_)
    have t3 := t2.trans sg2
    refine cons_go (gl_lst (Z := Z) (L := goodW 3) (ga1_cons (g1_a (g_str "amount")) (ga1_cons (g1_a (g_str "one")) ga1_nil)) (by decide) (some_keep t3 bo2.ne) fun G3 g3 as3 sg3 ng3 hg3 pg3 => ?_)
    have t4 := t3.trans sg3
    refine cons_go (gl_lst (Z := Z) (L := goodW 4) (ga1_cons (g1_a g_non) (ga1_cons (g1_a (g_int 0)) (ga1_cons (g1_a (g_neg 5)) ga1_nil))) (by decide) (some_keep t4 bo2.ne) fun G4 g4 as4 sg4 ng4 hg4 pg4 => ?_)
    have t5 := t4.trans sg4
    refine cons_go (gl_lst (Z := Z) (L := goodW 5) (ga1_cons (g1_a g_non) (ga1_cons (g1_a (g_int 1)) (ga1_cons (g1_a (g_int 77)) ga1_nil))) (by decide) (some_keep t5 bo2.ne) fun G5 g5 as5 sg5 ng5 hg5 pg5 => ?_)
    have t6 := t5.trans sg5
    refine ⟨(by decide : 6 ≤ sizeLine), fun gp hgp => ?_⟩
    obtain ⟨s3, h3⟩ := new_at (o := .lst [V.ref g0, V.ref g1, V.ref g2, V.ref g3, V.ref g4, V.ref g5]) hgp
    have ngp : gp ≠ b := new_ne (some_keep t6 bo2.ne) hgp
    have t23 := t6.trans s3
    have o5 := (One.of (L := goodW 5) ng5 hg5 pg5 (by decide) (by decide)).same (Same.but s3)
    have o4 := (One.of (L := goodW 4) ng4 hg4 pg4 (by decide) (by decide)).same (Same.but (sg5.trans s3))
    have o3 := (One.of (L := goodW 3) ng3 hg3 pg3 (by decide) (by decide)).same (Same.but (sg4.trans (sg5.trans s3)))
    have o2 := (One.of (L := goodW 2) ng2 hg2 pg2 (by decide) (by decide)).same (Same.but (sg3.trans (sg4.trans (sg5.trans s3))))
    have o1 := (One.of (L := goodW 1) ng1 hg1 pg1 (by decide) (by decide)).same (Same.but (sg2.trans (sg3.trans (sg4.trans (sg5.trans s3)))))
    have o0 := (One.of (L := goodW 0) ng0 hg0 pg0 (by decide) (by decide)).same (Same.but (sg1.trans (sg2.trans (sg3.trans (sg4.trans (sg5.trans s3))))))
    have GD := Lists.mk ngp h3 o0 o1 o2 o3 o4 o5
    have bo3 := bo2.keep t23
    generalize upd G5 gp (.lst [V.ref g0, V.ref g1, V.ref g2, V.ref g3, V.ref g4, V.ref g5]) = H3 at *
    clear o0 o1 o2 o3 o4 o5 pg0 pg1 pg2 pg3 pg4 pg5 hg0 hg1 hg2 hg3 hg4 hg5
    have oH := (One.of (L := oddH) nH hH psH (by decide) (by decide)).same (Same.but t23)
    refine name_go ?_
    try dsimp only
    refine seq_asg (lst_go ?_)
    refine cons_go (lst_go ⟨_, rfl, b, rfl, bo3, fun K0 w0 e0 uk0 bk0 me0 re0 => ⟨(by decide : 1 ≤ sizeLine), fun q0 hq0 => ?_⟩⟩)
    obtain ⟨sq0, hq0'⟩ := new_at (o := .lst [w0]) hq0
    have b0' := bk0.keep sq0
    have p0 : One Z b (upd K0 q0 (.lst [w0])) (badW 0) q0 := ⟨[w0], [e0], new_ne bk0.ne hq0, hq0', .cons (re0.kp (Kp.of sq0)) .nil, (fun d hd => by rw [List.mem_singleton.mp hd]; exact me0), (by show 0 < 1; decide), (by show 1 ≤ 1000; decide)⟩
    have v0 : But b H3 (upd K0 q0 (.lst [w0])) := uk0.trans (Same.but sq0)
    generalize upd K0 q0 (.lst [w0]) = M0 at *
    refine cons_go (lst_go ⟨_, rfl, b, rfl, b0', fun K1 w1 e1 uk1 bk1 me1 re1 => ⟨(by decide : 1 ≤ sizeLine), fun q1 hq1 => ?_⟩⟩)
    obtain ⟨sq1, hq1'⟩ := new_at (o := .lst [w1]) hq1
    have b1' := bk1.keep sq1
    have p1 : One Z b (upd K1 q1 (.lst [w1])) (badW 1) q1 := ⟨[w1], [e1], new_ne bk1.ne hq1, hq1', .cons (re1.kp (Kp.of sq1)) .nil, (fun d hd => by rw [List.mem_singleton.mp hd]; exact me1), (by show 0 < 1; decide), (by show 1 ≤ 1000; decide)⟩
    have v1 : But b M0 (upd K1 q1 (.lst [w1])) := uk1.trans (Same.but sq1)
    generalize upd K1 q1 (.lst [w1]) = M1 at *
    refine cons_go ⟨_, rfl, ?_⟩
    refine cons_go (gl_lst (Z := Z) (L := badW 3) (ga1_cons (g1_a (g_str "")) (ga1_cons (g1_a (g_str "old")) (ga1_cons (g1_a g_non) (ga1_cons (g1_a (g_int 0)) (ga1_cons (g1_lst (ga_cons (g_str "one") ga_nil) (by decide)) ga1_nil))))) (by decide) b1'.ne fun M3 q3 as3 sm3 n3 hm3 ps3 => ?_)
    refine cons_go (gl_lst (Z := Z) (L := badW 4) (ga1_cons (g1_a (g_bl true)) (ga1_cons (g1_a (g_str "0")) (ga1_cons (g1_tup (ga_cons (g_int 0) ga_nil) (by decide)) ga1_nil))) (by decide) (some_keep sm3 b1'.ne) fun M4 q4 as4 sm4 n4 hm4 ps4 => ?_)
    refine cons_go (gl_lst (Z := Z) (L := badW 5) (ga1_cons (g1_a (g_bl false)) (ga1_cons (g1_a (g_str "1")) (ga1_cons (g1_lst (ga_cons (g_int 2) ga_nil) (by decide)) ga1_nil))) (by decide) (some_keep (sm3.trans sm4) b1'.ne) fun M5 q5 as5 sm5 n5 hm5 ps5 => ?_)
    have sm35 := sm3.trans (sm4.trans sm5)
    refine ⟨(by decide : 6 ≤ sizeLine), fun bp hbp => ?_⟩
    obtain ⟨sb, hb'⟩ := new_at (o := .lst [V.ref q0, V.ref q1, V.ref ph, V.ref q3, V.ref q4, V.ref q5]) hbp
    have nbp : bp ≠ b := new_ne (some_keep sm35 b1'.ne) hbp
    have bu : But b H3 (upd M5 bp (.lst [V.ref q0, V.ref q1, V.ref ph, V.ref q3, V.ref q4, V.ref q5])) := v0.trans (v1.trans (Same.but (sm35.trans sb)))
    have BD := Lists.mk nbp hb' (p0.same (v1.trans (Same.but (sm35.trans sb)))) (p1.same (Same.but (sm35.trans sb))) (L := badW) (oH.same bu) ((One.of n3 hm3 ps3 (by decide) (by decide)).same (Same.but (sm4.trans (sm5.trans sb)))) ((One.of n4 hm4 ps4 (by decide) (by decide)).same (Same.but (sm5.trans sb))) ((One.of n5 hm5 ps5 (by decide) (by decide)).same (Same.but sb))
    have GD' := GD.same bu
    have bxM := (b1'.keep sm35).keep sb
    have hPM : upd M5 bp (.lst [V.ref q0, V.ref q1, V.ref ph, V.ref q3, V.ref q4, V.ref q5]) pp = some (.lst asP) := bu _ _ nP (t23 _ _ (s2 _ _ hP))
    have uHM : But b H (upd M5 bp (.lst [V.ref q0, V.ref q1, V.ref ph, V.ref q3, V.ref q4, V.ref q5])) := (Same.but (s1.trans (s2.trans t23))).trans bu
    generalize upd M5 bp (.lst [V.ref q0, V.ref q1, V.ref ph, V.ref q3, V.ref q4, V.ref q5]) = HM at *
    have eP : asP = partsW.map V.str := by
      clear BD GD' GD
      have : ∀ (xs : List Str) (as : List V), Paired (Rel1 Z b H1) as (xs.map fun s => D1.a (.str s)) → as = xs.map V.str := by
        intro xs
        induction xs with
        | nil => intro as p; cases p; rfl
        | cons x xs ih =>
          intro as p
          cases p with
          | cons r t => rw [ih _ t, show _ = V.str x from r]; rfl
      exact this _ _ psP
    subst eP
    refine name_go ?_
    try dsimp only
    refine seq_go ?_
    refine cons_go (lst_go ⟨(by decide : 0 ≤ sizeLine), fun S hS => ?_⟩)
    obtain ⟨sS, hS'⟩ := new_at (o := .lst []) hS
    refine ⟨_, _, rfl, ?_⟩
    have nSb : S ≠ b := new_ne bxM.ne hS
    refine ⟨6, rfl, by decide, by decide, for_range (lo := 0) (n := 6) (fun j σ H' => Box H' b ∧ But b HM H' ∧ ∃ vs ds gs, H' S = some (.lst vs) ∧ vs.length = j ∧ Paired (Rel1 Z b HM) vs ds ∧ gs.length = j ∧ (∀ i d g, ds[i]? = some d → gs[i]? = some g → d ∈ fromW i g) ∧ ∃ x7 x8 x9 x10 x11 x12 x13 x14 x15 x16, σ = [some (.ref b), some (.ref pp), some (.ref ph), some (.ref gp), some (.ref bp), some (.ref S), some (.str (dueW 0 gs)), x7, x8, x9, x10, x11, x12, x13, x14, x15, x16]) ?_ ?_ ?_⟩
    · exact ⟨bxM.keep sS, Same.but sS, [], [], [], hS', rfl, .nil, rfl, (fun i d g e => by simp at e), _, _, _, _, _, _, _, _, _, _, rfl⟩
    · rintro j σ H' hj ⟨bx, kp, vs, ds, gs, hSl, lv, pd, lg, mem, x7, x8, x9, x10, x11, x12, x13, x14, x15, x16, rfl⟩
      refine ⟨_, rfl, b, 5, rfl, bx, by decide, by decide, fun d x y z d0 d1 => ⟨_, _, rfl, rfl, ?_⟩⟩
      have u1 : But b H' (upd H' b (.lst [.int x, .int y, .int z])) := But.upd'
      have bx1 : Box (upd H' b (.lst [.int x, .int y, .int z])) b := Box.upd'
      have kp1 := kp.trans u1
      have hS1 := u1 _ _ nSb hSl
      generalize upd H' b (.lst [.int x, .int y, .int z]) = HA at *
      refine name_go ?_
      try dsimp only
      refine seq_go ?_
      obtain ⟨gd, eg⟩ : ∃ gd, decide ((0 : Int) < d) = gd := ⟨_, rfl⟩
      rw [eg]
      refine ⟨_, rfl, .inl ⟨rfl, _, SqL.of hS1⟩, _, rfl, _, rfl, _, rfl, ?_⟩
      refine if_lists (K := K) (Z := Z) (HM := HM) (n := j) rfl rfl rfl hj GD' BD kp1 fun r mr => ?_
      refine pick_st mr bx1 kp1 fun HB v dv u2 b2 md rd => ?_
      have kp2 := kp1.trans u2
      have ld : ds.length = j := by rw [← pd.len]; exact lv
      refine ⟨S, vs, v, rfl, rfl, u2 _ _ nSb hS1, by rw [lv]; exact Nat.lt_trans hj (by decide), ?_⟩
      have bx3 : Box (upd HB S (.lst (vs ++ [v]))) b := by
        obtain ⟨y1, y2, y3, q⟩ := b2
        exact ⟨y1, y2, y3, by rw [upd_ne nSb.symm]; exact q⟩
      have kp3 : But b HM (upd HB S (.lst (vs ++ [v]))) := fun a o n h => by rw [upd_ne (ne_of_none h hS)]; exact kp2 _ _ n h
      have hS3 : upd HB S (.lst (vs ++ [v])) S = some (.lst (vs ++ [v])) := upd_same
      have hPP := kp3 _ _ nP hPM
      generalize upd HB S (.lst (vs ++ [v])) = HC at *
      have lv' : (vs ++ [v]).length = j + 1 := by rw [List.length_append, lv]; rfl
      have lg' : ∀ g : Bool, (gs ++ [g]).length = j + 1 := fun g => by rw [List.length_append, lg]; rfl
      have pd' := paired_snoc pd rd
      have sn := dueW_snoc gs 0 gd (by omega)
      have lj : 0 + gs.length = j := by omega
      rw [lj] at sn
      refine ⟨_, rfl, _, rfl, ?_⟩
      cases gd with
      | true =>
        refine iteSf rfl (iteSf rfl ?_)
        refine ⟨bx3, kp3, _, _, gs ++ [true], hS3, lv', pd', lg' _, mem_snoc lg ld mem md, some (.int (0 + ((j : Nat) : Int))), some (.bl true), x9, x10, x11, x12, x13, x14, x15, x16, ?_⟩
        rw [show dueW 0 (gs ++ [true]) = dueW 0 gs by rw [sn]; split <;> simp_all]
        rfl
      | false =>
        refine iteSe rfl ⟨_, rfl, rfl, _, rfl, ?_⟩
        by_cases em : dueW 0 gs = "made"
        · rw [if_pos em] at sn
          have ej : (partsW.map V.str)[j]? = some (V.str (dueW 0 (gs ++ [false]))) := by rw [sn]; exact parts_at hj
          refine iteSe (decide_eq_true (by rw [em])) ⟨_, rfl, _, rfl, pp, _, _, _, rfl, rfl, SqL.of hPP, (by rw [show (0 + ((j : Nat) : Int)) = ((j : Nat) : Int) by omega]; exact atI_nat ej), ?_⟩
          exact ⟨bx3, kp3, _, _, gs ++ [false], hS3, lv', pd', lg' _, mem_snoc lg ld mem md, _, _, _, _, _, _, _, _, _, _, rfl⟩
        · rw [if_neg em] at sn
          refine iteSf (decide_eq_false (fun q => em (by injection q))) ?_
          refine ⟨bx3, kp3, _, _, gs ++ [false], hS3, lv', pd', lg' _, mem_snoc lg ld mem md, some (.int (0 + ((j : Nat) : Int))), some (.bl false), x9, x10, x11, x12, x13, x14, x15, x16, ?_⟩
          rw [sn]
          rfl
    rintro σ H' ⟨bx, kp, vs, ds, gs, hSl, lv, pd, lg, mem, x7, x8, x9, x10, x11, x12, x13, x14, x15, x16, rfl⟩
    have six : ∀ {α β : Type} {R : α → β → Prop} {as : List α} {bs : List β}, Paired R as bs → as.length = 6 → ∃ a0 a1 a2 a3 a4 a5 b0 b1 b2 b3 b4 b5, as = [a0, a1, a2, a3, a4, a5] ∧ bs = [b0, b1, b2, b3, b4, b5] ∧ R a0 b0 ∧ R a1 b1 ∧ R a2 b2 ∧ R a3 b3 ∧ R a4 b4 ∧ R a5 b5 := by
      intro α β R as bs h l
      match as, bs, h, l with
      | _, _, .cons r0 (.cons r1 (.cons r2 (.cons r3 (.cons r4 (.cons r5 .nil))))), _ => exact ⟨_, _, _, _, _, _, _, _, _, _, _, _, rfl, rfl, r0, r1, r2, r3, r4, r5⟩
    obtain ⟨v0, v1', v2, v3, v4, v5, d0, d1, d2, d3, d4, d5, rfl, rfl, r0, r1, r2, r3, r4, r5⟩ := six pd lv
    obtain ⟨g0, g1, g2, g3, g4, g5, rfl⟩ : ∃ g0 g1 g2 g3 g4 g5, gs = [g0, g1, g2, g3, g4, g5] := by
      match gs, lg with
      | [g0, g1, g2, g3, g4, g5], _ => exact ⟨_, _, _, _, _, _, rfl⟩
    obtain ⟨eW, sh0', sh1', ok3⟩ := due_of (mem 0 _ _ rfl rfl) (mem 1 _ _ rfl rfl) (mem 2 _ _ rfl rfl) (mem 3 _ _ rfl rfl) (mem 4 _ _ rfl rfl) (mem 5 _ _ rfl rfl)
    refine ⟨_, rfl, S, _, rfl, SqL.of hSl, rfl, _, _, rfl, _, _, rfl, _, _, rfl, _, _, rfl, _, _, rfl, _, _, rfl, rfl, ?_⟩
    have uHH : But b H H' := uHM.trans kp
    have tabs : Tabs TT H' := Tabs.but hT hb uHH
    refine ⟨tabs, fun HC eN tC => ?_⟩
    have kC : Kp b HM HC := kp.kp.trans (Kp.ext eN)
    refine ⟨_, rfl, _, rfl, _, rfl, _, rfl, _, rfl, _, rfl, fun x dx hx hdx nd => ?_⟩
    refine worth_ref hx hdx nd (r0.kp kC) (r1.kp kC) (r2.kp kC) (r3.kp kC) (r4.kp kC) (r5.kp kC) sh0' sh1' ok3 eW fun HF sF => ?_
    have bxC : Box HF b := by
      obtain ⟨y1, y2, y3, q⟩ := bx
      exact ⟨y1, y2, y3, sF _ _ (eN _ _ q fun ps z => nomatch z)⟩
    have tF := LamX.Tabs.ext tC sF
    have kF : Kp b H HF := uHH.kp.trans ((Kp.ext eN).trans (Kp.of sF))
    refine ⟨_, rfl, rfl, _, rfl, iteSf (by rw [decide_eq_true rfl]; rfl) ?_⟩
    refine ⟨_, rfl, b, 9, rfl, bxC, by decide, by decide, fun t1 y1 y2 y3 i0 i1 => ⟨_, _, rfl, rfl, ?_⟩⟩
    refine name_go ⟨_, rfl, _, rfl, b, 3, rfl, Box.upd', by decide, by decide, fun t2 y4 y5 y6 i2 i3 => ⟨_, _, rfl, rfl, ?_⟩⟩
    have uF : But b HF (upd (upd HF b (.lst [.int y1, .int y2, .int y3])) b (.lst [.int y4, .int y5, .int y6])) := But.upd'.trans But.upd'
    have bF : Box (upd (upd HF b (.lst [.int y1, .int y2, .int y3])) b (.lst [.int y4, .int y5, .int y6])) b := Box.upd'
    generalize upd (upd HF b (.lst [.int y1, .int y2, .int y3])) b (.lst [.int y4, .int y5, .int y6]) = HG at *
    refine name_go ⟨Tabs.but tF bxC uF, fun HI eI tI => ?_⟩
    refine ⟨_, rfl, _, rfl, fun x dx hx hdx nd => ?_⟩
    refine worth_ref (b := b) (d0 := .a (.str "sum")) (d1 := .a (.str "up")) (d2 := .a (.int 1)) (d3 := .a (.str "one")) (d4 := .a (.int (t1 - 4))) (d5 := .a (.int (t1 - 4 - t2))) hx hdx nd rfl rfl rfl rfl rfl rfl (sh0_of (by decide +kernel)) (sh0_of (by decide +kernel)) (by decide +kernel) (worth_below (by omega)) fun HJ sJ => ?_
    refine ⟨rfl, ?_⟩
    rw [decide_eq_true rfl]
    refine k HJ (kF.trans (uF.kp.trans ((Kp.ext eI).trans (Kp.of sJ)))) ?_ (LamX.Tabs.ext tI sJ)
    obtain ⟨z1, z2, z3, q⟩ := bF
    exact ⟨z1, z2, z3, sJ _ _ (eI _ _ q fun ps z => nomatch z)⟩
end
end K14

set_option pp.maxSteps 600
namespace K14
open PySem L2 LamX PySem.Spec PyProof.Rows
theorem passN {X : Cx} : Passes (L2.CX X.prog X.w) X (fun _ _ _ => False) := fun _ _ _ _ _ _ _ c => by
  obtain ⟨_, _, _, _, _, _, _, _, _, _, _, _, h⟩ := c
  exact h.elim
theorem g_mark0 {Z : Nat → Addr} {b C : Addr} {k : Nat} {E : XK} (e : Z k = C) : G0 Z b (tMake C (spMark C) [] E (tCons (tC (.str "old")) tNil)) (.obj k) := fun σ H Q n q x dx hx hdx nd => by
  have hx1 : upd H dx (.own x) x = none := by rw [upd_ne (fun z => nd z.symm)]; exact hx
  have s2 : Same H (upd (upd H dx (.own x)) x (.ins C dx [])) := (new_at hdx).1.trans (new_at hx1).1
  refine ⟨x, dx, rfl, upd_same, fun H' kp hf => ?_⟩
  obtain ⟨fs, hf⟩ := hf
  exact ⟨rfl, q H' _ (fun y o h => kp y o (ne_of_none h hx) (s2 _ _ h)) ⟨x, dx, fs, rfl, new_ne n hx, by rw [e]; exact hf⟩⟩
def badR : List D1 := [.a .non, .a (.str ""), .a (.obj 1), .s false [.obj 0], .s true [.obj 1, .non], .a (.int 0), .s false [.str "mark old"]]
theorem badR_ok : badR.all (fun d => !rowsB d.up && decide (lenB d.up ≤ 100)) = true := by decide +kernel
theorem odd_ok : oddD.all (fun d => !at2 name0 d.up && shB d.up) = true := by decide +kernel
theorem SqL.extN {K : PySem.W.Frag} {H H' : Hp} {a : Addr} {xs : List V} (e : ExtN H H') (h : SqL K H a xs) : SqL K H' a xs := by
  rcases h with (h | ⟨o, h⟩) | h
  · exact .inl (.inl (e _ _ h fun ps z => nomatch z))
  · exact .inl (.inr ⟨o, e _ _ h fun ps z => nomatch z⟩)
  · exact .inr h
theorem Box.ext {H H' : Hp} {b : Addr} (h : Box H b) (e : ExtN H H') : Box H' b := by
  obtain ⟨x, y, z, q⟩ := h
  exact ⟨x, y, z, e _ _ q fun ps z => nomatch z⟩
theorem c_go {v : V} {σ : L2.St} {H : Hp} {Q : VK} (h : Q v H) : tC v σ H Q := h
theorem ga_badR {Z : Nat → Addr} {b VC MC : Addr} {E : XK} (e0 : Z 0 = VC) (e1 : Z 1 = MC) : GA1 Z b (tCons (tC .non) (tCons (tC (.str "")) (tCons (tMake MC (spMark MC) [] E (tCons (tC (.str "old")) tNil)) (tCons (tLst (tCons (tMake00 VC) tNil)) (tCons (tTup (tCons (tMake MC (spMark MC) [] E (tCons (tC (.str "old")) tNil)) (tCons (tC .non) tNil))) (tCons (tC (.int 0)) (tCons (tLst (tCons (tC (.str "mark old")) tNil)) tNil))))))) badR :=
  ga1_cons (g1_a g_non) (ga1_cons (g1_a (g_str "")) (ga1_cons (g1_a (g_mark0 e1)) (ga1_cons (g1_lst (ga_cons (g_obj0 e0) ga_nil) (by decide)) (ga1_cons (g1_tup (ga_cons (g_mark0 e1) (ga_cons g_non ga_nil)) (by decide)) (ga1_cons (g1_a (g_int 0)) (ga1_cons (g1_lst (ga_cons (g_str "mark old") ga_nil) (by decide)) ga1_nil))))))
theorem make_go {C : Addr} {sp : Sp} {dvs : List V} {E : XK} {t : TA} {σ : L2.St} {H : Hp} {Q : VK} (h : t σ H fun vs H1 => ∀ x dx, H1 x = none → H1 dx = none → dx ≠ x → sp (.ref x :: (vs ++ dvs)) (upd (upd H1 dx (.own x)) x (.ins C dx [])) (fun v H2 => v = .non ∧ Q (.ref x) H2) E) : tMake C sp dvs E t σ H Q := h
theorem hand_ref {Z : Nat → Addr} {HO' IR b x dx : Addr} {H : Hp} {v0 v1 : V} {d0 d1 : D2} {Q : VK} {r : Str} (hx : H x = none) (hdx : H dx = none) (nd : dx ≠ x) (r0 : Rel2 Z b H v0 d0) (h0 : sh0 d0) (r1 : at2 name0 d0 = true → Rel2 Z b H v1 d1 ∧ lenB d1 ≤ 100) (er : handDue d0 d1 = r)
    (ret : ∀ H', Same H H' → Q (.str r) H') : spHandler Z HO' IR [.ref x, v0, v1] (upd (upd H dx (.own x)) x (.ins HO' dx [])) (fun v H2 => v = .non ∧ ∃ u : V, some (some (V.str "made")) = some (some u) ∧ Q u H2) (EchR IR Q) := by
  have hx1 : upd H dx (.own x) x = none := by rw [upd_ne (fun z => nd z.symm)]; exact hx
  have s2 : Same H (upd (upd H dx (.own x)) x (.ins HO' dx [])) := (new_at hdx).1.trans (new_at hx1).1
  subst er
  refine ⟨b, x, dx, v0, v1, d0, d1, rfl, upd_same, r0.kp (Kp.of s2), h0, fun e => ⟨(r1 e).1.kp (Kp.of s2), (r1 e).2⟩, fun m H' kp => ⟨rfl, _, rfl, ?_⟩, fun p ep np H' d s hd hp => ⟨rfl, d, p, rfl, hp, fun H'' s'' => ?_⟩⟩
  · have := ret H' fun y o h => kp y o (ne_of_none h hx) (s2 _ _ h)
    rw [m] at this
    exact this
  · have := ret H'' (s2.trans (s.trans s''))
    rw [ep] at this
    exact this
section
variable {P : Program} {w : World} {K : PySem.W.Frag} {mg : Str → Option Value} {base : Heap}
abbrev s_law : Stmt := top 35
abbrev n_law : List Str := ["_law_script", "_law_k", "_law_box_here", "_law_turn", "_law_bad", "_law_name", "_law_rows"]
theorem sc_law : FnScope n_law ["_law_script"] (defScope s_law) := ⟨rfl, rfl, rfl, by decide +kernel, rfl, by decide +kernel, by decide +kernel⟩
def lamL : Str := "law.<locals>.<lambda>"
def spLawT (K : PySem.W.Frag) (TT : List (Addr × Str)) : Sp := fun vs H Q _ => ∃ (a : Addr) (ns : List Int), vs = [.ref a] ∧ SqL K H a (ns.map V.int) ∧ ns.length ≤ 63 ∧ Tabs TT H ∧ ∀ H', Q (.bl true) H'
theorem ok_law {Z : Nat → Addr} {TT : List (Addr × Str)} {f cL tL HC' MC VC SE IR IT IB gR fH fM t0 : Addr} {fdH fdM : FuncData} {ds1 : List Value} {oc kV doc pm ct : Value} {od an : Option Addr} {osl : Array (Option Value)} {ocR kVR dcR pmR cdvR ctR : Value} {odR anR : Option Addr} {oslR : Array (Option Value)} (T : Txt mg) (RK : RefK K mg gR ocR kVR dcR pmR cdvR ctR odR anR oslR) (EK : ErrK K mg SE IR IT IB)
    (CH : ClsH K mg HC') (MH : Mk K HC' fH) (g_handler : FnOk P w K mg base (L2.CX P w) 6 fH fdH ["self", "event", "rows"] (spHandler Z HC' IR)) (bH : Binds K fdH ["self", "event", "rows"] []) (bH1 : Binds K fdH ["self", "event", "rows"] ds1) (vH1 : Vals [.ref t0] ds1)
    (CM : ClsM K mg MC) (MM : Mk K MC fM) (g_mark : FnOk P w K mg base (L2.CX P w) 4 fM fdM ["self", "place"] (spMark MC)) (bM : Binds K fdM ["self", "place"] []) (MV : Mk00 K VC) (mMoved : mg "Moved" = some (.ref VC)) (eZ0 : Z 0 = VC) (eZ1 : Z 1 = MC)
    (TB : TabB base mg cL tL) (hmT : (tL, lamL) ∈ TT) (huT : ∀ p ∈ TT, p.1 = tL → p.2 = lamL)
    (g_law_box : Has P w K mg base 1 "_law_box" ["_law_script", "_law_k", "_law_own"] (spBox K)) (g_law_pick : Has P w K mg base 2 "_law_pick" ["_law_box_here", "_law_items"] spPick) (g_law_odd : Has P w K mg base 3 "_law_odd" ["_law_box_here"] (spOdd Z))
    (g_law_event_refused : Has P w K mg base 10 "_law_event_refused" ["_law_box_here"] (spRefused TT)) (g_law_worth_refused : Has P w K mg base 10 "_law_worth_refused" ["_law_box_here"] (spRefused TT))
    (lkL : K.lookup f = some ⟨oc, od, .func (PySem.W.fnOf "law" "law" (defArgs s_law) (defBody s_law) (defScope s_law) .none kV doc pm an (.ref cL) ct), osl⟩) (cdL : PySem.W.codeIn K (.ref cL) "law" = true) :
    FnOk P w K mg base CX0 12 f (PySem.W.fnOf "law" "law" (defArgs s_law) (defBody s_law) (defScope s_law) .none kV doc pm an (.ref cL) ct) ["_law_script"] (spLawT K TT) := by
  have mRef := RK.m; have kpR := RK.kp; have lkR := RK.lk; have cdR := RK.cd; have bR := RK.b
  have EX := EK.ex; have XR := EK.xr; have nPart := EK.nPart; have te := EK.te; have mSE := EK.mSE; have mIR := EK.mIR; have mIT := EK.mIT; have mIB := EK.mIB; have kRR := EK.kRR; have kRT := EK.kRT
  refine fn_of lkL cdL sc_law (fun vs H Q E h => ?_) fun A outer s H vs Q E hr h => ?_
  · obtain ⟨a, ns, rfl, _⟩ := h
    rfl
  · have hu := hr.units
    obtain ⟨a, ns, rfl, hS, hlen, hT, k⟩ := h
    suffices hh : ∃ t, PSs (cxOf CX0 P w K mg base n_law "law" (defScope s_law) f (.ref cL) A outer s H E).nox (defBody s_law) t ∧ t { nx := fun _ H' => Q .non H', rt := Q } (L2.start n_law [.ref a]) H by
      obtain ⟨t, h, q⟩ := hh
      exact ⟨t, h.nox, q⟩
    refine ⟨_, (pss_cons (ps_for PassesOwn.never rfl (pi_range1 rfl T.z_range (pa_cons (pe_callB (call_max2 rfl) (by rfl) T.z_max (by decide +kernel) (pa_cons pe_int (pa_cons (pe_callB (call_min2 rfl) (by rfl) T.z_min (by decide +kernel) (pa_cons pe_int (pa_cons (pe_callB call_len (by rfl) T.z_len (by decide +kernel) (pa_cons (pv 0) pa_nil)) pa_nil))) pa_nil))) pa_nil)) (pg_name (i := 1) sc_law.nd rfl (Or.inl rfl)) (pss_cons (ps_set (i := 2) sc_law.nd rfl (Or.inl rfl) (pe_callHas g_law_box (hr.mono (by decide)) rfl (pa_cons (pv 0) (pa_cons (pv 1) (pa_cons pe_int pa_nil)))))
      (pss_cons (ps_for PassesOwn.never rfl (pi_range1 rfl T.z_range (pa_cons pe_int pa_nil)) (pg_name (i := 3) sc_law.nd rfl (Or.inl rfl)) (pss_one (ps_if (PW.pt (pw_or (pt_not (pt_val (pe_callHas g_law_event_refused (hr.mono (by decide)) rfl (pa_cons (pv 2) pa_nil)))) (pw_or1 (pt_not (pt_val (pe_callHas g_law_worth_refused (hr.mono (by decide)) rfl (pa_cons (pv 2) pa_nil))))))) (pss_one (ps_ret pe_bl)) pss_nil)))
      (pss_cons (ps_set (i := 4) sc_law.nd rfl (Or.inl rfl) (pe_lst (pa_cons pe_non (pa_cons pe_str (pa_cons (pe_make MM g_mark (hr.mono (by decide)) rfl CM.m bM .nil passN (pa_cons pe_str pa_nil)) (pa_cons (pe_lst (pa_cons (pe_make00 MV rfl mMoved) pa_nil)) (pa_cons (pe_tup (pa_cons (pe_make MM g_mark (hr.mono (by decide)) rfl CM.m bM .nil passN (pa_cons pe_str pa_nil)) (pa_cons pe_non pa_nil))) (pa_cons pe_int (pa_cons (pe_lst (pa_cons pe_str pa_nil)) pa_nil)))))))))
      (pss_cons (ps_asg (pe_tup (pa_cons (pe_callHas g_law_odd (hr.mono (by decide)) rfl (pa_cons (pv 2) pa_nil)) (pa_cons (pe_callHas g_law_pick (hr.mono (by decide)) rfl (pa_cons (pv 2) (pa_cons (pv 4) pa_nil))) pa_nil))) (pg_tup rfl (pgs_cons (pg_name (i := 5) sc_law.nd rfl (Or.inr rfl)) (pgs_cons (pg_name (i := 6) sc_law.nd rfl (Or.inr rfl)) pgs_nil))))
      (pss_cons (ps_if (pt_cmpR op_ne (LamX.pe_lamcall (T := TT) rfl mRef kpR lkR cdR bR sc_law_refused rfl (Or.inl rfl) (refused_gives T EX XR nPart te mSE mIR mIT mIB kRR kRT) TB rfl hmT huT (hr.mono (by decide)) (LamX.lamS_by (by show LamX.lamSB (defScope s_law) _ = true; decide +kernel)) rfl (fun _ _ _ _ _ => rfl) (fun A outer s H E f c' hr => (pe_make MH g_handler hr rfl CH.m bH .nil (passOut rfl rfl rfl rfl) (pa_cons (pv 5) (pa_cons (pv 6) pa_nil))))) pe_str (nomark _)) (pss_one (ps_ret pe_bl)) pss_nil)
      (pss_cons (ps_if (pt_cmpR op_ne (LamX.pe_lamcall (T := TT) rfl mRef kpR lkR cdR bR sc_law_refused rfl (Or.inl rfl) (refused_gives T EX XR nPart te mSE mIR mIT mIB kRR kRT) TB rfl hmT huT (hr.mono (by decide)) (LamX.lamS_by (by show LamX.lamSB (defScope s_law) _ = true; decide +kernel)) rfl (fun _ _ _ _ _ => rfl) (fun A outer s H E f c' hr => (pe_make MH g_handler hr rfl CH.m bH .nil (passOut rfl rfl rfl rfl) (pa_cons pe_str (pa_cons (pv 6) pa_nil))))) pe_str (nomark _)) (pss_one (ps_ret pe_bl)) pss_nil)
      (pss_cons (ps_if (pt_cmpR op_ne (LamX.pe_lamcall (T := TT) rfl mRef kpR lkR cdR bR sc_law_refused rfl (Or.inl rfl) (refused_gives T EX XR nPart te mSE mIR mIT mIB kRR kRT) TB rfl hmT huT (hr.mono (by decide)) (LamX.lamS_by (by show LamX.lamSB (defScope s_law) _ = true; decide +kernel)) rfl (fun _ _ _ _ _ => rfl) (fun A outer s H E f c' hr => (pe_make MH g_handler hr rfl CH.m bH1 vH1 (passOut rfl rfl rfl rfl) (pa_cons (pv 5) pa_nil)))) pe_str (nomark _)) (pss_one (ps_ret pe_bl)) pss_nil)
      (pss_one (ps_if (pt_cmpR op_ne (LamX.pe_lamcall (T := TT) rfl mRef kpR lkR cdR bR sc_law_refused rfl (Or.inl rfl) (refused_gives T EX XR nPart te mSE mIR mIT mIB kRR kRT) TB rfl hmT huT (hr.mono (by decide)) (LamX.lamS_by (by show LamX.lamSB (defScope s_law) _ = true; decide +kernel)) rfl (fun _ _ _ _ _ => rfl) (fun A outer s H E f c' hr => (pe_make MH g_handler hr rfl CH.m bH .nil (passOut rfl rfl rfl rfl) (pa_cons pe_str (pa_cons (pe_lst (pa_cons (pe_make MM g_mark (hr.mono (by decide)) rfl CM.m bM .nil passN (pa_cons pe_str pa_nil)) pa_nil)) pa_nil))))) pe_str (nomark _)) (pss_one (ps_ret pe_bl)) pss_nil))))))))))
      (pss_one (ps_ret pe_bl))), ?_⟩
    have hlen' : (((ns.map V.int).length : Nat) : Int) ≤ 63 := by rw [List.length_map]; omega
    refine ⟨_, rfl, _, _, rfl, .inl ⟨_, hS, rfl⟩, _, _, rfl, _, _, rfl, ?_⟩
    have hN : ∀ m : Int, 0 ≤ m → ∃ N : Int, (if (if m < 4 then m else 4) > 1 then (if m < 4 then m else 4) else 1) = N ∧ 0 ≤ N ∧ N ≤ 4 := fun m hm => ⟨_, rfl, by split <;> (try split) <;> omega, by split <;> (try split) <;> omega⟩
    obtain ⟨N, eN, N0, N3⟩ := hN (((ns.map V.int).length : Nat) : Int) (Int.natCast_nonneg _)
    refine ⟨N, by rw [← eN], by omega, by omega, for_range (lo := 0) (n := N.toNat) (fun i σ H' => ExtN H H' ∧ Tabs TT H' ∧ ∃ x1 x2 x3 x4 x5 x6, σ = [some (.ref a), x1, x2, x3, x4, x5, x6]) ⟨ExtN.refl _, hT, _, _, _, _, _, _, rfl⟩ ?_ ?_⟩
    · rintro i σ H1 hi ⟨e1, t1, x1, x2, x3, x4, x5, x6, rfl⟩
      refine ⟨_, rfl, _, rfl, a, ns, _, _, rfl, SqL.extN e1 hS, by omega, by omega, by decide, by decide, fun H2 b s2 hb0 hbox => ?_⟩
      refine ⟨8, rfl, by decide, by decide, for_range (lo := 0) (n := 8) (fun j σ H' => Kp b H2 H' ∧ Box H' b ∧ Tabs TT H' ∧ ∃ x3 x4 x5 x6, σ = [some (.ref a), some (.int (0 + ((i : Nat) : Int))), some (.ref b), x3, x4, x5, x6]) ⟨Kp.refl _ _, hbox, LamX.Tabs.ext t1 s2, _, _, _, _, rfl⟩ ?_ ?_⟩
      · rintro j σ H3 hj ⟨k3, b3, t3, x3, x4, x5, x6, rfl⟩
        exact ⟨_, rfl, b, rfl, b3, t3, fun H4 k4 b4 t4 => ⟨_, rfl, iteSf rfl ⟨_, rfl, b, rfl, b4, t4, fun H5 k5 b5 t5 => ⟨_, rfl, iteSf rfl ⟨k3.trans (k4.trans k5), b5, t5, _, _, _, _, rfl⟩⟩⟩⟩⟩
      rintro σ H6 ⟨k6, b6, t6, x3, x4, x5, x6, rfl⟩
      try dsimp only
      refine seq_asg (l_lst1 (Z := Z) (ga_badR eZ0 eZ1) (by decide) b6.ne fun H7 p7 as7 s7 n7 h7 ps7 => ?_)
      refine name_go ?_
      refine ⟨_, rfl, b, rfl, b6.keep s7, fun H8 v d u8 b8 md rd => ⟨_, rfl, _, rfl, ?_⟩⟩
      refine pick1 b8 (u8 _ _ n7 h7) n7 (ps7.mapP' fun _ _ z => z.kp u8.kp) (by decide) (by decide) fun H9 v2 d2 u9 b9 md2 rd2 => ?_
      refine ⟨(by decide : 2 ≤ sizeLine), fun pt hpt => ?_⟩
      obtain ⟨sT, hT'⟩ := new_at (o := .tup [v, v2]) hpt
      refine ⟨pt, _, rfl, SqT.of hT', rfl, _, _, rfl, _, _, rfl, rfl, ?_⟩
      have kA : Kp b H2 (upd H9 pt (.tup [v, v2])) := k6.trans ((Kp.of s7).trans (u8.kp.trans (u9.kp.trans (Kp.of sT))))
      have bA := b9.keep sT
      have tA := LamX.Tabs.ext (Tabs.but (Tabs.but (LamX.Tabs.ext t6 s7) (b6.keep s7) u8) b8 u9) sT
      have rdA := rd.kp (u9.kp.trans (Kp.of sT))
      have rd2A := rd2.kp (Kp.of sT)
      generalize upd H9 pt (.tup [v, v2]) = HA at *
      obtain ⟨o1, o2⟩ := Bool.and_eq_true_iff.mp (List.all_eq_true.mp odd_ok d md)
      obtain ⟨o3, o4⟩ := Bool.and_eq_true_iff.mp (List.all_eq_true.mp badR_ok d2 md2)
      have nd0 : at2 name0 d.up = false := by simpa using o1
      have nr0 : rowsB d2.up = false := by simpa using o3
      have l2 : lenB d2.up ≤ 100 := of_decide_eq_true o4
      have na : at2 name0 (D1.a (.str "a")).up = true := by decide +kernel
      have ev : ∀ r, handDue d.up r = "event" := fun r => by unfold handDue; rw [nd0]; rfl
      -- one
      refine ⟨tA, fun HC eC tC => ⟨_, rfl, _, rfl, fun x dx hx hdx nd => ?_⟩⟩
      refine hand_ref (b := b) (d0 := d.up) (d1 := d2.up) hx hdx nd (rdA.kp (Kp.ext eC)).up (sh0_of o2) (fun z => by rw [nd0] at z; cases z) (ev _) fun HD sD => ⟨rfl, _, rfl, iteSf (by rw [decide_eq_true rfl]; rfl) ?_⟩
      have kD : Kp b HA HD := (Kp.ext eC).trans (Kp.of sD)
      have tD := LamX.Tabs.ext tC sD
      have bD := (bA.ext eC).keep sD
      -- two
      refine ⟨tD, fun HE eE tE => ⟨_, rfl, fun x dx hx hdx nd => ?_⟩⟩
      refine hand_ref (b := b) (d0 := (D1.a (.str "a")).up) (d1 := d2.up) (r := "row") hx hdx nd rfl (sh0_of (by decide +kernel)) (fun _ => ⟨(rd2A.kp (kD.trans (Kp.ext eE))).up, l2⟩) (by unfold handDue; rw [na, nr0]; rfl) fun HF sF => ⟨rfl, _, rfl, iteSf (by rw [decide_eq_true rfl]; rfl) ?_⟩
      have kF : Kp b HA HF := kD.trans ((Kp.ext eE).trans (Kp.of sF))
      have tF := LamX.Tabs.ext tE sF
      have bF := (bD.ext eE).keep sF
      -- three
      refine ⟨tF, fun HG eG tG => ⟨_, rfl, fun x dx hx hdx nd => ?_⟩⟩
      refine hand_ref (b := b) (d0 := d.up) (d1 := .a .non) hx hdx nd (rdA.kp (kF.trans (Kp.ext eG))).up (sh0_of o2) (fun z => by rw [nd0] at z; cases z) (ev _) fun HI sI => ⟨rfl, _, rfl, iteSf (by rw [decide_eq_true rfl]; rfl) ?_⟩
      have kI : Kp b HA HI := kF.trans ((Kp.ext eG).trans (Kp.of sI))
      have tI := LamX.Tabs.ext tG sI
      have bI := (bF.ext eG).keep sI
      -- four
      refine ⟨tI, fun HJ eJ tJ => ?_⟩
      unfold TRef
      dsimp only
      refine make_go (cons_go (c_go ?_))
      refine a_lst1 (Z := Z) (b := b) (ds := [.a (.obj 1)]) (ga1_cons (g1_a (g_mark0 eZ1)) ga1_nil) (by decide) (bI.ext eJ).ne fun HK pk ask sK nk hk psk => ?_
      intro x dx hx hdx nd
      refine hand_ref (b := b) (d0 := (D1.a (.str "a")).up) (d1 := .s false [.a (.obj 1)]) (r := "made") hx hdx nd rfl (sh0_of (by decide +kernel)) (fun _ => ⟨⟨pk, ask, rfl, nk, hk, psk⟩, by decide⟩) (by unfold handDue; rw [na]; rfl) fun HL sL => ⟨rfl, _, rfl, iteSf (by rw [decide_eq_true rfl]; rfl) ?_⟩
      have kL : Kp b H2 HL := kA.trans (kI.trans ((Kp.ext eJ).trans ((Kp.of sK).trans (Kp.of sL))))
      have tL' := LamX.Tabs.ext (LamX.Tabs.ext tJ sK) sL
      exact ⟨e1.trans fun y o h n => kL y o (ne_of_none h hb0) (s2 _ _ h) n, tL', _, _, _, _, _, _, rfl⟩
    · rintro σ H' ⟨_, _, _⟩
      exact k H'
end
end K14

namespace K14
open PySem L2 LamX PySem.Spec PyProof.Rows
theorem walk_tabs {l : PySem.W.OpenLaw} {n k : Nat} {q : Program} {loose : List Str} {XP : (Str → Option Value) → Heap → Prop} {YP : World → Heap → Prop} {d : DefRec} {K : Params → PySem.W.Frag} {CX : World → CXT} {x : Str}
    (hn : l.most = some n) (hn2 : n ≤ sizeLine) (hdf : d.params.defaults = []) (hr : Room k callerA) (hY : ∀ (w : World) (h : Heap), YP w h → (K w.params).In h)
    (F : ∀ (w : World) (mg : Str → Option Value) (fa : Addr) (h : Heap), (K w.params).In h → h.Ns mainGlobals mg → mg d.name = some (.ref fa) →
      (∀ (nm : Str) (a' : Addr), ((recsOf q).any fun e => e.name == nm) = true → mg nm = some (.ref a') → OwnTab (K w.params) a' h) → LawAtS l w (K w.params) (CX w) k n x mg fa h)
    (hCX : ∀ (w : World) (H : Hp) (s : Shared) (e : Value) (s' : Shared), CX w [] H s (fun _ _ _ => False) e s' → False) : PySem.W.WalkO q loose XP YP l.row.toRowW d [] (fun f vs => PySem.call f vs) := by
  refine Att.attach_callB hn hdf fun w s₀ s₁ mg mb fa o pm cd doc a vs ns G Y ho hd hcd hmg hobj hints hlen hbits hg => ?_
  have KX := hY w _ Y
  obtain ⟨fd, cs, sp, y1, y2, y3, y4, y5, y6⟩ := F w mg fa _ KX G.T.g hmg fun nm a' hr hm c P o1 fd1 e dd us sl k1 k2 k3 k4 k5 => by
    obtain ⟨r, r1, r2⟩ := List.any_eq_true.mp hr
    obtain ⟨b1, o2, fd2, c2, P2, j1, j2, j3, j4, j5, ⟨oc, vc, j6, _, j7, j8⟩, j9⟩ := G.T.tab r r1
    rw [beq_iff_eq.mp r2, hm] at j1
    cases j1
    rw [KX _ _ k1] at j2
    cases j2
    rw [k2] at j3
    cases j3
    rw [k3] at j4
    cases j4
    rw [KX _ _ k4] at j6
    cases j6
    cases j7
    rw [k5] at j8
    cases j8
    exact j9
  exact law_callTs KX G.T.g G.T.b G.T.builtins G.T.nolimit hg y1 y2 y3 G.T.bmain hobj hints (Nat.le_trans hlen hn2) hr y6 y4 (fun H hH hS => y5 H a ns hlen hbits hH hS) fun H e s' => hCX w H s₁ e s'
theorem facts {l : PySem.W.OpenLaw} {w : World} {K : PySem.W.Frag} {mg : Str → Option Value} {h : Heap} {fa : Addr} (X : K.In h) (G : h.Ns mainGlobals mg) (hfa : mg "law" = some (.ref fa))
    {EV WO HC MC VC RW SE IR IT IB fE fW fH fM fQ fR NN TE TW TH t0 cE tE cW tW cL tL f_is_integer f_is_sequence f_is_name f_are_names f_check f_is_kind f_are_rows f_are_origins f_may_bring f_law_box f_law_take f_law_pick f_law_odd f_law_refused f_law_due_event f_law_event_refused f_law_worth_refused f_law : Addr}
    {nmT qnT : Str} {NT : Addr} {bsT bmT : List Value} {snT : List Str} {suT : List Value} {abT : Bool} {coT : Option Bool} {ddT : Option Addr} {kaT kbT kcT kdT kfT : Option Value}
    {k0 k1 k2 k3 k4 k5 : Tok} {odN : Option Addr} {nN : Nat} {slN : Array (Option Value)}
    {oc_Event_init kV_Event_init dc_Event_init pm_Event_init cd_Event_init ct_Event_init : Value} {od_Event_init an_Event_init : Option Addr} {sl_Event_init : Array (Option Value)}
    {oc_Worth_init kV_Worth_init dc_Worth_init pm_Worth_init cd_Worth_init ct_Worth_init : Value} {od_Worth_init an_Worth_init : Option Addr} {sl_Worth_init : Array (Option Value)}
    {oc_Handler_init kV_Handler_init dc_Handler_init pm_Handler_init cd_Handler_init ct_Handler_init : Value} {od_Handler_init an_Handler_init : Option Addr} {sl_Handler_init : Array (Option Value)}
    {oc_Mark_init kV_Mark_init dc_Mark_init pm_Mark_init cd_Mark_init ct_Mark_init : Value} {od_Mark_init an_Mark_init : Option Addr} {sl_Mark_init : Array (Option Value)}
    {oc_Moved_eq kV_Moved_eq dc_Moved_eq pm_Moved_eq cd_Moved_eq ct_Moved_eq : Value} {od_Moved_eq an_Moved_eq : Option Addr} {sl_Moved_eq : Array (Option Value)}
    {oc_InvalidRow_init kV_InvalidRow_init dc_InvalidRow_init pm_InvalidRow_init cd_InvalidRow_init ct_InvalidRow_init : Value} {od_InvalidRow_init an_InvalidRow_init : Option Addr} {sl_InvalidRow_init : Array (Option Value)}
    {ocE ocW ocH : Value} {odE odW odH : Option Addr} {nE nW nH : Nat} {slE slW slH : Array (Option Value)}
    {oc_is_integer kV_is_integer dc_is_integer pm_is_integer cd_is_integer ct_is_integer : Value} {od_is_integer an_is_integer : Option Addr} {sl_is_integer : Array (Option Value)}
    {oc_is_sequence kV_is_sequence dc_is_sequence pm_is_sequence cd_is_sequence ct_is_sequence : Value} {od_is_sequence an_is_sequence : Option Addr} {sl_is_sequence : Array (Option Value)}
    {oc_is_name kV_is_name dc_is_name pm_is_name cd_is_name ct_is_name : Value} {od_is_name an_is_name : Option Addr} {sl_is_name : Array (Option Value)}
    {oc_are_names kV_are_names dc_are_names pm_are_names cd_are_names ct_are_names : Value} {od_are_names an_are_names : Option Addr} {sl_are_names : Array (Option Value)}
    {oc_check kV_check dc_check pm_check cd_check ct_check : Value} {od_check an_check : Option Addr} {sl_check : Array (Option Value)}
    {oc_is_kind kV_is_kind dc_is_kind pm_is_kind cd_is_kind ct_is_kind : Value} {od_is_kind an_is_kind : Option Addr} {sl_is_kind : Array (Option Value)}
    {oc_are_rows kV_are_rows dc_are_rows pm_are_rows cd_are_rows ct_are_rows : Value} {od_are_rows an_are_rows : Option Addr} {sl_are_rows : Array (Option Value)}
    {oc_are_origins kV_are_origins dc_are_origins pm_are_origins cd_are_origins ct_are_origins : Value} {od_are_origins an_are_origins : Option Addr} {sl_are_origins : Array (Option Value)}
    {oc_may_bring kV_may_bring dc_may_bring pm_may_bring cd_may_bring ct_may_bring : Value} {od_may_bring an_may_bring : Option Addr} {sl_may_bring : Array (Option Value)}
    {oc_law_box kV_law_box dc_law_box pm_law_box cd_law_box ct_law_box : Value} {od_law_box an_law_box : Option Addr} {sl_law_box : Array (Option Value)}
    {oc_law_take kV_law_take dc_law_take pm_law_take cd_law_take ct_law_take : Value} {od_law_take an_law_take : Option Addr} {sl_law_take : Array (Option Value)}
    {oc_law_pick kV_law_pick dc_law_pick pm_law_pick cd_law_pick ct_law_pick : Value} {od_law_pick an_law_pick : Option Addr} {sl_law_pick : Array (Option Value)}
    {oc_law_odd kV_law_odd dc_law_odd pm_law_odd cd_law_odd ct_law_odd : Value} {od_law_odd an_law_odd : Option Addr} {sl_law_odd : Array (Option Value)}
    {oc_law_refused kV_law_refused dc_law_refused pm_law_refused cd_law_refused ct_law_refused : Value} {od_law_refused an_law_refused : Option Addr} {sl_law_refused : Array (Option Value)}
    {oc_law_due_event kV_law_due_event dc_law_due_event pm_law_due_event cd_law_due_event ct_law_due_event : Value} {od_law_due_event an_law_due_event : Option Addr} {sl_law_due_event : Array (Option Value)}
    {oc_law_event_refused kV_law_event_refused dc_law_event_refused pm_law_event_refused ct_law_event_refused : Value} {od_law_event_refused an_law_event_refused : Option Addr} {sl_law_event_refused : Array (Option Value)}
    {eE : Value} {dE : Option Addr} {vE : Array Value} {sE : Array (Option Value)}
    {oc_law_worth_refused kV_law_worth_refused dc_law_worth_refused pm_law_worth_refused ct_law_worth_refused : Value} {od_law_worth_refused an_law_worth_refused : Option Addr} {sl_law_worth_refused : Array (Option Value)}
    {eW : Value} {dW : Option Addr} {vW : Array Value} {sW : Array (Option Value)}
    {oc_law kV_law dc_law pm_law ct_law : Value} {od_law an_law : Option Addr} {sl_law : Array (Option Value)}
    {eL : Value} {dL : Option Addr} {vL : Array Value} {sL : Array (Option Value)}
    (aE : PySem.W.nsIn K mainGlobals "Event" = some (some (.ref EV)))
    (pgE : PySem.W.plainGet K EV Str.empty = true)
    (hdE : PySem.W.hasDictIn K EV = true)
    (poE : PySem.W.plainOver K EV = true)
    (saE : PySem.W.findIn K (.ref EV) "__setattr__" = some (some (.builtin "object.__setattr__")))
    (mkE : PySem.W.makesIn K EV = true)
    (kpE : PySem.W.keepIn K (.ref EV) = true)
    (iniE : PySem.W.findIn K (.ref EV) "__init__" = some (some (.ref fE)))
    (fnfE : PySem.W.isFn K (.ref fE) = true)
    (nE0 : PySem.W.findIn K (.ref EV) "name" = some none)
    (nE1 : PySem.W.findIn K (.ref EV) "origins" = some none)
    (nE2 : PySem.W.findIn K (.ref EV) "kind" = some none)
    (nE3 : PySem.W.findIn K (.ref EV) "amount" = some none)
    (nE4 : PySem.W.findIn K (.ref EV) "group" = some none)
    (aW : PySem.W.nsIn K mainGlobals "Worth" = some (some (.ref WO)))
    (pgW : PySem.W.plainGet K WO Str.empty = true)
    (hdW : PySem.W.hasDictIn K WO = true)
    (poW : PySem.W.plainOver K WO = true)
    (saW : PySem.W.findIn K (.ref WO) "__setattr__" = some (some (.builtin "object.__setattr__")))
    (mkW : PySem.W.makesIn K WO = true)
    (kpW : PySem.W.keepIn K (.ref WO) = true)
    (iniW : PySem.W.findIn K (.ref WO) "__init__" = some (some (.ref fW)))
    (fnfW : PySem.W.isFn K (.ref fW) = true)
    (nW0 : PySem.W.findIn K (.ref WO) "total" = some none)
    (nW1 : PySem.W.findIn K (.ref WO) "kind" = some none)
    (nW2 : PySem.W.findIn K (.ref WO) "factor" = some none)
    (nW3 : PySem.W.findIn K (.ref WO) "what" = some none)
    (nW4 : PySem.W.findIn K (.ref WO) "least" = some none)
    (nW5 : PySem.W.findIn K (.ref WO) "below" = some none)
    (aH : PySem.W.nsIn K mainGlobals "Handler" = some (some (.ref HC)))
    (pgH : PySem.W.plainGet K HC Str.empty = true)
    (hdH : PySem.W.hasDictIn K HC = true)
    (poH : PySem.W.plainOver K HC = true)
    (saH : PySem.W.findIn K (.ref HC) "__setattr__" = some (some (.builtin "object.__setattr__")))
    (mkH : PySem.W.makesIn K HC = true)
    (kpH : PySem.W.keepIn K (.ref HC) = true)
    (iniH : PySem.W.findIn K (.ref HC) "__init__" = some (some (.ref fH)))
    (fnfH : PySem.W.isFn K (.ref fH) = true)
    (nH0 : PySem.W.findIn K (.ref HC) "event" = some none)
    (nH1 : PySem.W.findIn K (.ref HC) "rows" = some none)
    (aM : PySem.W.nsIn K mainGlobals "Mark" = some (some (.ref MC)))
    (pgM : PySem.W.plainGet K MC Str.empty = true)
    (hdM : PySem.W.hasDictIn K MC = true)
    (poM : PySem.W.plainOver K MC = true)
    (saM : PySem.W.findIn K (.ref MC) "__setattr__" = some (some (.builtin "object.__setattr__")))
    (mkM : PySem.W.makesIn K MC = true)
    (kpM : PySem.W.keepIn K (.ref MC) = true)
    (iniM : PySem.W.findIn K (.ref MC) "__init__" = some (some (.ref fM)))
    (fnfM : PySem.W.isFn K (.ref fM) = true)
    (nM0 : PySem.W.findIn K (.ref MC) "place" = some none)
    (aV : PySem.W.nsIn K mainGlobals "Moved" = some (some (.ref VC)))
    (pgV : PySem.W.plainGet K VC Str.empty = true)
    (hdV : PySem.W.hasDictIn K VC = true)
    (poV : PySem.W.plainOver K VC = true)
    (saV : PySem.W.findIn K (.ref VC) "__setattr__" = some (some (.builtin "object.__setattr__")))
    (mkV : PySem.W.makesIn K VC = true)
    (kpV : PySem.W.keepIn K (.ref VC) = true)
    (iniV : PySem.W.findIn K (.ref VC) "__init__" = some (some (.builtin "object.__init__")))
    (cG : PySem.W.specialIn K (.builtin "object.__class__") "__get__" = some (some (.builtin "getset_descriptor.__get__")))
    (cT : PySem.W.takesIn K (.builtin "object.__class__") = some true)
    (ocM : PySem.W.findIn K (.ref MC) "__class__" = some (some (.builtin "object.__class__")))
    (omM : PySem.W.mroIn K MC (.type "object") = some true)
    (kM_str : PySem.W.kitOne K (.ref MC) (.type "str") = some false)
    (kM_int : PySem.W.kitOne K (.ref MC) (.type "int") = some false)
    (kM_bool : PySem.W.kitOne K (.ref MC) (.type "bool") = some false)
    (kM_list : PySem.W.kitOne K (.ref MC) (.type "list") = some false)
    (kM_tuple : PySem.W.kitOne K (.ref MC) (.type "tuple") = some false)
    (ocV : PySem.W.findIn K (.ref VC) "__class__" = some (some (.builtin "object.__class__")))
    (omV : PySem.W.mroIn K VC (.type "object") = some true)
    (kV_str : PySem.W.kitOne K (.ref VC) (.type "str") = some false)
    (kV_int : PySem.W.kitOne K (.ref VC) (.type "int") = some false)
    (kV_bool : PySem.W.kitOne K (.ref VC) (.type "bool") = some false)
    (kV_list : PySem.W.kitOne K (.ref VC) (.type "list") = some false)
    (kV_tuple : PySem.W.kitOne K (.ref VC) (.type "tuple") = some false)
    (aRW : PySem.W.nsIn K mainGlobals "Row" = some (some (.ref RW)))
    (kR_NoneType : PySem.W.kitOne K (.type "NoneType") (.ref RW) = some false)
    (kR_bool : PySem.W.kitOne K (.type "bool") (.ref RW) = some false)
    (kR_int : PySem.W.kitOne K (.type "int") (.ref RW) = some false)
    (kR_str : PySem.W.kitOne K (.type "str") (.ref RW) = some false)
    (kR_list : PySem.W.kitOne K (.type "list") (.ref RW) = some false)
    (kR_tuple : PySem.W.kitOne K (.type "tuple") (.ref RW) = some false)
    (kR_V : PySem.W.kitOne K (.ref VC) (.ref RW) = some false)
    (kR_M : PySem.W.kitOne K (.ref MC) (.ref RW) = some true)
    (stV : PySem.W.subIn K (.ref VC) (.type "str") = some false)
    (hsV : PySem.W.findIn K (.ref VC) "__eq__" = some (some (.ref fQ)))
    (fnQ : PySem.W.isFn K (.ref fQ) = true)
    (kVs : PySem.W.kitOne K (.type "str") (.ref VC) = some false)
    (aSE : PySem.W.nsIn K mainGlobals "SumError" = some (some (.ref SE)))
    (aIR : PySem.W.nsIn K mainGlobals "InvalidRow" = some (some (.ref IR)))
    (aIT : PySem.W.nsIn K mainGlobals "InvalidText" = some (some (.ref IT)))
    (aIB : PySem.W.nsIn K mainGlobals "InvalidBook" = some (some (.ref IB)))
    (lIR : K.lookup IR = some (excClassObj nmT qnT IR NT bsT bmT true snT suT abT coT ddT kaT kbT kcT kdT kfT "ValueError.__new__"))
    (rIR : PySem.HandSPX.refsVE bmT = true)
    (saR : PySem.W.findIn K (.ref IR) "__setattr__" = some (some (.builtin "object.__setattr__")))
    (inR : PySem.W.findIn K (.ref IR) "__init__" = some (some (.ref fR)))
    (tiR : PySem.W.typeIn K (.ref fR) = some (.type "function"))
    (noR : PySem.W.findIn K (.ref IR) "part" = some none)
    (kIR : PySem.W.keepIn K (.ref IR) = true)
    (exR : PySem.W.subIn K (.ref IR) (.type "BaseException") = some true)
    (tyR : PySem.W.typeIn K (.ref IR) = some (.type "type"))
    (gaR : PySem.W.findIn K (.ref IR) "__getattribute__" = some (some (.builtin "BaseException.__getattribute__")))
    (ggR : PySem.W.findIn K (.ref IR) "__getattr__" = some none)
    (hdR : PySem.W.hasDictIn K IR = true)
    (clR : PySem.W.findIn K (.ref IR) "__class__" = some (some (.builtin "object.__class__")))
    (obR : PySem.W.mroIn K IR (.type "object") = some true)
    (tSE : PySem.W.typeIn K (.ref SE) = some (.type "type"))
    (sSE : PySem.W.subIn K (.ref SE) (.type "BaseException") = some true)
    (dSE : PySem.W.hasDictIn K SE = true)
    (mRS : PySem.W.subIn K (.ref IR) (.ref SE) = some true)
    (kRR : PySem.W.kitOne K (.ref IR) (.ref IR) = some true)
    (kRT : PySem.W.kitOne K (.ref IR) (.ref IT) = some false)
    (kRB : PySem.W.kitOne K (.ref IR) (.ref IB) = some false)
    (aNN : PySem.W.nsIn K mainGlobals "NO_NAMES" = some (some (.ref NN)))
    (lNN : K.lookup NN = some ⟨.type "tuple", odN, .seq #[.str "none" k0, .str "to" k1, .str "old" k2, .str "new" k3, .str "one" k4, .str "not" k5] nN, slN⟩)
    (l_Event_init : K.lookup fE = some ⟨oc_Event_init, od_Event_init, .func (PySem.W.fnOf "__init__" "Event.__init__" (defArgs s_Event_init) (defBody s_Event_init) (defScope s_Event_init) (.ref TE) kV_Event_init dc_Event_init pm_Event_init an_Event_init cd_Event_init ct_Event_init), sl_Event_init⟩)
    (c_Event_init : PySem.W.codeIn K cd_Event_init "Event.__init__" = true)
    (k_Event_init : PySem.W.keepIn K (.ref fE) = true)
    (l_Worth_init : K.lookup fW = some ⟨oc_Worth_init, od_Worth_init, .func (PySem.W.fnOf "__init__" "Worth.__init__" (defArgs s_Worth_init) (defBody s_Worth_init) (defScope s_Worth_init) (.ref TW) kV_Worth_init dc_Worth_init pm_Worth_init an_Worth_init cd_Worth_init ct_Worth_init), sl_Worth_init⟩)
    (c_Worth_init : PySem.W.codeIn K cd_Worth_init "Worth.__init__" = true)
    (k_Worth_init : PySem.W.keepIn K (.ref fW) = true)
    (l_Handler_init : K.lookup fH = some ⟨oc_Handler_init, od_Handler_init, .func (PySem.W.fnOf "__init__" "Handler.__init__" (defArgs s_Handler_init) (defBody s_Handler_init) (defScope s_Handler_init) (.ref TH) kV_Handler_init dc_Handler_init pm_Handler_init an_Handler_init cd_Handler_init ct_Handler_init), sl_Handler_init⟩)
    (c_Handler_init : PySem.W.codeIn K cd_Handler_init "Handler.__init__" = true)
    (k_Handler_init : PySem.W.keepIn K (.ref fH) = true)
    (l_Mark_init : K.lookup fM = some ⟨oc_Mark_init, od_Mark_init, .func (PySem.W.fnOf "__init__" "Mark.__init__" (defArgs s_Mark_init) (defBody s_Mark_init) (defScope s_Mark_init) .none kV_Mark_init dc_Mark_init pm_Mark_init an_Mark_init cd_Mark_init ct_Mark_init), sl_Mark_init⟩)
    (c_Mark_init : PySem.W.codeIn K cd_Mark_init "Mark.__init__" = true)
    (k_Mark_init : PySem.W.keepIn K (.ref fM) = true)
    (l_Moved_eq : K.lookup fQ = some ⟨oc_Moved_eq, od_Moved_eq, .func (PySem.W.fnOf "__eq__" "Moved.__eq__" (defArgs s_Moved_eq) (defBody s_Moved_eq) (defScope s_Moved_eq) .none kV_Moved_eq dc_Moved_eq pm_Moved_eq an_Moved_eq cd_Moved_eq ct_Moved_eq), sl_Moved_eq⟩)
    (c_Moved_eq : PySem.W.codeIn K cd_Moved_eq "Moved.__eq__" = true)
    (k_Moved_eq : PySem.W.keepIn K (.ref fQ) = true)
    (l_InvalidRow_init : K.lookup fR = some ⟨oc_InvalidRow_init, od_InvalidRow_init, .func (PySem.W.fnOf "__init__" "InvalidRow.__init__" (defArgs s_InvalidRow_init) (defBody s_InvalidRow_init) (defScope s_InvalidRow_init) .none kV_InvalidRow_init dc_InvalidRow_init pm_InvalidRow_init an_InvalidRow_init cd_InvalidRow_init ct_InvalidRow_init), sl_InvalidRow_init⟩)
    (c_InvalidRow_init : PySem.W.codeIn K cd_InvalidRow_init "InvalidRow.__init__" = true)
    (k_InvalidRow_init : PySem.W.keepIn K (.ref fR) = true)
    (lTE : K.lookup TE = some ⟨ocE, odE, .seq #[.bool false, .bool false] nE, slE⟩)
    (lTW : K.lookup TW = some ⟨ocW, odW, .seq #[.none, .none] nW, slW⟩)
    (lTH : K.lookup TH = some ⟨ocH, odH, .seq #[.ref t0] nH, slH⟩)
    (a_is_integer : PySem.W.nsIn K mainGlobals "is_integer" = some (some (.ref f_is_integer)))
    (l_is_integer : K.lookup f_is_integer = some ⟨oc_is_integer, od_is_integer, .func (PySem.W.fnOf "is_integer" "is_integer" (defArgs s_is_integer) (defBody s_is_integer) (defScope s_is_integer) .none kV_is_integer dc_is_integer pm_is_integer an_is_integer cd_is_integer ct_is_integer), sl_is_integer⟩)
    (c_is_integer : PySem.W.codeIn K cd_is_integer "is_integer" = true)
    (k_is_integer : PySem.W.keepIn K (.ref f_is_integer) = true)
    (a_is_sequence : PySem.W.nsIn K mainGlobals "is_sequence" = some (some (.ref f_is_sequence)))
    (l_is_sequence : K.lookup f_is_sequence = some ⟨oc_is_sequence, od_is_sequence, .func (PySem.W.fnOf "is_sequence" "is_sequence" (defArgs s_is_sequence) (defBody s_is_sequence) (defScope s_is_sequence) .none kV_is_sequence dc_is_sequence pm_is_sequence an_is_sequence cd_is_sequence ct_is_sequence), sl_is_sequence⟩)
    (c_is_sequence : PySem.W.codeIn K cd_is_sequence "is_sequence" = true)
    (k_is_sequence : PySem.W.keepIn K (.ref f_is_sequence) = true)
    (a_is_name : PySem.W.nsIn K mainGlobals "is_name" = some (some (.ref f_is_name)))
    (l_is_name : K.lookup f_is_name = some ⟨oc_is_name, od_is_name, .func (PySem.W.fnOf "is_name" "is_name" (defArgs s_is_name) (defBody s_is_name) (defScope s_is_name) .none kV_is_name dc_is_name pm_is_name an_is_name cd_is_name ct_is_name), sl_is_name⟩)
    (c_is_name : PySem.W.codeIn K cd_is_name "is_name" = true)
    (k_is_name : PySem.W.keepIn K (.ref f_is_name) = true)
    (a_are_names : PySem.W.nsIn K mainGlobals "are_names" = some (some (.ref f_are_names)))
    (l_are_names : K.lookup f_are_names = some ⟨oc_are_names, od_are_names, .func (PySem.W.fnOf "are_names" "are_names" (defArgs s_are_names) (defBody s_are_names) (defScope s_are_names) .none kV_are_names dc_are_names pm_are_names an_are_names cd_are_names ct_are_names), sl_are_names⟩)
    (c_are_names : PySem.W.codeIn K cd_are_names "are_names" = true)
    (k_are_names : PySem.W.keepIn K (.ref f_are_names) = true)
    (a_check : PySem.W.nsIn K mainGlobals "check" = some (some (.ref f_check)))
    (l_check : K.lookup f_check = some ⟨oc_check, od_check, .func (PySem.W.fnOf "check" "check" (defArgs s_check) (defBody s_check) (defScope s_check) .none kV_check dc_check pm_check an_check cd_check ct_check), sl_check⟩)
    (c_check : PySem.W.codeIn K cd_check "check" = true)
    (k_check : PySem.W.keepIn K (.ref f_check) = true)
    (a_is_kind : PySem.W.nsIn K mainGlobals "is_kind" = some (some (.ref f_is_kind)))
    (l_is_kind : K.lookup f_is_kind = some ⟨oc_is_kind, od_is_kind, .func (PySem.W.fnOf "is_kind" "is_kind" (defArgs s_is_kind) (defBody s_is_kind) (defScope s_is_kind) .none kV_is_kind dc_is_kind pm_is_kind an_is_kind cd_is_kind ct_is_kind), sl_is_kind⟩)
    (c_is_kind : PySem.W.codeIn K cd_is_kind "is_kind" = true)
    (k_is_kind : PySem.W.keepIn K (.ref f_is_kind) = true)
    (a_are_rows : PySem.W.nsIn K mainGlobals "are_rows" = some (some (.ref f_are_rows)))
    (l_are_rows : K.lookup f_are_rows = some ⟨oc_are_rows, od_are_rows, .func (PySem.W.fnOf "are_rows" "are_rows" (defArgs s_are_rows) (defBody s_are_rows) (defScope s_are_rows) .none kV_are_rows dc_are_rows pm_are_rows an_are_rows cd_are_rows ct_are_rows), sl_are_rows⟩)
    (c_are_rows : PySem.W.codeIn K cd_are_rows "are_rows" = true)
    (k_are_rows : PySem.W.keepIn K (.ref f_are_rows) = true)
    (a_are_origins : PySem.W.nsIn K mainGlobals "are_origins" = some (some (.ref f_are_origins)))
    (l_are_origins : K.lookup f_are_origins = some ⟨oc_are_origins, od_are_origins, .func (PySem.W.fnOf "are_origins" "are_origins" (defArgs s_are_origins) (defBody s_are_origins) (defScope s_are_origins) .none kV_are_origins dc_are_origins pm_are_origins an_are_origins cd_are_origins ct_are_origins), sl_are_origins⟩)
    (c_are_origins : PySem.W.codeIn K cd_are_origins "are_origins" = true)
    (k_are_origins : PySem.W.keepIn K (.ref f_are_origins) = true)
    (a_may_bring : PySem.W.nsIn K mainGlobals "may_bring" = some (some (.ref f_may_bring)))
    (l_may_bring : K.lookup f_may_bring = some ⟨oc_may_bring, od_may_bring, .func (PySem.W.fnOf "may_bring" "may_bring" (defArgs s_may_bring) (defBody s_may_bring) (defScope s_may_bring) .none kV_may_bring dc_may_bring pm_may_bring an_may_bring cd_may_bring ct_may_bring), sl_may_bring⟩)
    (c_may_bring : PySem.W.codeIn K cd_may_bring "may_bring" = true)
    (k_may_bring : PySem.W.keepIn K (.ref f_may_bring) = true)
    (a_law_box : PySem.W.nsIn K mainGlobals "_law_box" = some (some (.ref f_law_box)))
    (l_law_box : K.lookup f_law_box = some ⟨oc_law_box, od_law_box, .func (PySem.W.fnOf "_law_box" "_law_box" (defArgs s_law_box) (defBody s_law_box) (defScope s_law_box) .none kV_law_box dc_law_box pm_law_box an_law_box cd_law_box ct_law_box), sl_law_box⟩)
    (c_law_box : PySem.W.codeIn K cd_law_box "_law_box" = true)
    (k_law_box : PySem.W.keepIn K (.ref f_law_box) = true)
    (a_law_take : PySem.W.nsIn K mainGlobals "_law_take" = some (some (.ref f_law_take)))
    (l_law_take : K.lookup f_law_take = some ⟨oc_law_take, od_law_take, .func (PySem.W.fnOf "_law_take" "_law_take" (defArgs s_law_take) (defBody s_law_take) (defScope s_law_take) .none kV_law_take dc_law_take pm_law_take an_law_take cd_law_take ct_law_take), sl_law_take⟩)
    (c_law_take : PySem.W.codeIn K cd_law_take "_law_take" = true)
    (k_law_take : PySem.W.keepIn K (.ref f_law_take) = true)
    (a_law_pick : PySem.W.nsIn K mainGlobals "_law_pick" = some (some (.ref f_law_pick)))
    (l_law_pick : K.lookup f_law_pick = some ⟨oc_law_pick, od_law_pick, .func (PySem.W.fnOf "_law_pick" "_law_pick" (defArgs s_law_pick) (defBody s_law_pick) (defScope s_law_pick) .none kV_law_pick dc_law_pick pm_law_pick an_law_pick cd_law_pick ct_law_pick), sl_law_pick⟩)
    (c_law_pick : PySem.W.codeIn K cd_law_pick "_law_pick" = true)
    (k_law_pick : PySem.W.keepIn K (.ref f_law_pick) = true)
    (a_law_odd : PySem.W.nsIn K mainGlobals "_law_odd" = some (some (.ref f_law_odd)))
    (l_law_odd : K.lookup f_law_odd = some ⟨oc_law_odd, od_law_odd, .func (PySem.W.fnOf "_law_odd" "_law_odd" (defArgs s_law_odd) (defBody s_law_odd) (defScope s_law_odd) .none kV_law_odd dc_law_odd pm_law_odd an_law_odd cd_law_odd ct_law_odd), sl_law_odd⟩)
    (c_law_odd : PySem.W.codeIn K cd_law_odd "_law_odd" = true)
    (k_law_odd : PySem.W.keepIn K (.ref f_law_odd) = true)
    (a_law_refused : PySem.W.nsIn K mainGlobals "_law_refused" = some (some (.ref f_law_refused)))
    (l_law_refused : K.lookup f_law_refused = some ⟨oc_law_refused, od_law_refused, .func (PySem.W.fnOf "_law_refused" "_law_refused" (defArgs s_law_refused) (defBody s_law_refused) (defScope s_law_refused) .none kV_law_refused dc_law_refused pm_law_refused an_law_refused cd_law_refused ct_law_refused), sl_law_refused⟩)
    (c_law_refused : PySem.W.codeIn K cd_law_refused "_law_refused" = true)
    (k_law_refused : PySem.W.keepIn K (.ref f_law_refused) = true)
    (a_law_due_event : PySem.W.nsIn K mainGlobals "_law_due_event" = some (some (.ref f_law_due_event)))
    (l_law_due_event : K.lookup f_law_due_event = some ⟨oc_law_due_event, od_law_due_event, .func (PySem.W.fnOf "_law_due_event" "_law_due_event" (defArgs s_law_due_event) (defBody s_law_due_event) (defScope s_law_due_event) .none kV_law_due_event dc_law_due_event pm_law_due_event an_law_due_event cd_law_due_event ct_law_due_event), sl_law_due_event⟩)
    (c_law_due_event : PySem.W.codeIn K cd_law_due_event "_law_due_event" = true)
    (k_law_due_event : PySem.W.keepIn K (.ref f_law_due_event) = true)
    (a_law_event_refused : PySem.W.nsIn K mainGlobals "_law_event_refused" = some (some (.ref f_law_event_refused)))
    (l_law_event_refused : K.lookup f_law_event_refused = some ⟨oc_law_event_refused, od_law_event_refused, .func (PySem.W.fnOf "_law_event_refused" "_law_event_refused" (defArgs s_law_event_refused) (defBody s_law_event_refused) (defScope s_law_event_refused) .none kV_law_event_refused dc_law_event_refused pm_law_event_refused an_law_event_refused (.ref cE) ct_law_event_refused), sl_law_event_refused⟩)
    (c_law_event_refused : PySem.W.codeIn K (.ref cE) "_law_event_refused" = true)
    (k_law_event_refused : PySem.W.keepIn K (.ref f_law_event_refused) = true)
    (lcE : K.lookup cE = some ⟨eE, dE, .fields vE, sE⟩)
    (vtE : vE[11]? = some (.ref tE))
    (chE : PySem.W.codeHdIn K cE tE = true)
    (ntE : K.lookup tE = none)
    (owE : LamX.OwnTab K f_law_event_refused h)
    (a_law_worth_refused : PySem.W.nsIn K mainGlobals "_law_worth_refused" = some (some (.ref f_law_worth_refused)))
    (l_law_worth_refused : K.lookup f_law_worth_refused = some ⟨oc_law_worth_refused, od_law_worth_refused, .func (PySem.W.fnOf "_law_worth_refused" "_law_worth_refused" (defArgs s_law_worth_refused) (defBody s_law_worth_refused) (defScope s_law_worth_refused) .none kV_law_worth_refused dc_law_worth_refused pm_law_worth_refused an_law_worth_refused (.ref cW) ct_law_worth_refused), sl_law_worth_refused⟩)
    (c_law_worth_refused : PySem.W.codeIn K (.ref cW) "_law_worth_refused" = true)
    (k_law_worth_refused : PySem.W.keepIn K (.ref f_law_worth_refused) = true)
    (lcW : K.lookup cW = some ⟨eW, dW, .fields vW, sW⟩)
    (vtW : vW[11]? = some (.ref tW))
    (chW : PySem.W.codeHdIn K cW tW = true)
    (ntW : K.lookup tW = none)
    (owW : LamX.OwnTab K f_law_worth_refused h)
    (a_law : PySem.W.nsIn K mainGlobals "law" = some (some (.ref f_law)))
    (l_law : K.lookup f_law = some ⟨oc_law, od_law, .func (PySem.W.fnOf "law" "law" (defArgs s_law) (defBody s_law) (defScope s_law) .none kV_law dc_law pm_law an_law (.ref cL) ct_law), sl_law⟩)
    (c_law : PySem.W.codeIn K (.ref cL) "law" = true)
    (k_law : PySem.W.keepIn K (.ref f_law) = true)
    (lcL : K.lookup cL = some ⟨eL, dL, .fields vL, sL⟩)
    (vtL : vL[11]? = some (.ref tL))
    (chL : PySem.W.codeHdIn K cL tL = true)
    (ntL : K.lookup tL = none)
    (owL : LamX.OwnTab K f_law h)
    (neLE : tL ≠ tE)
    (neLW : tL ≠ tW)
    (neEW : tE ≠ tW)
    (z_len : PySem.W.nsIn K mainGlobals "len" = some none)
    (z_abs : PySem.W.nsIn K mainGlobals "abs" = some none)
    (z_int : PySem.W.nsIn K mainGlobals "int" = some none)
    (z_max : PySem.W.nsIn K mainGlobals "max" = some none)
    (z_min : PySem.W.nsIn K mainGlobals "min" = some none)
    (z_range : PySem.W.nsIn K mainGlobals "range" = some none)
    (z_enumerate : PySem.W.nsIn K mainGlobals "enumerate" = some none)
    (z_isinstance : PySem.W.nsIn K mainGlobals "isinstance" = some none)
    (z_repr : PySem.W.nsIn K mainGlobals "repr" = some none)
    (z_zip : PySem.W.nsIn K mainGlobals "zip" = some none)
    (z_sum : PySem.W.nsIn K mainGlobals "sum" = some none)
    (z_all : PySem.W.nsIn K mainGlobals "all" = some none)
    (z_tuple : PySem.W.nsIn K mainGlobals "tuple" = some none)
    (z_list : PySem.W.nsIn K mainGlobals "list" = some none)
    (z_bool : PySem.W.nsIn K mainGlobals "bool" = some none)
    (z_sorted : PySem.W.nsIn K mainGlobals "sorted" = some none)
    (z_dict : PySem.W.nsIn K mainGlobals "dict" = some none)
    (z_str : PySem.W.nsIn K mainGlobals "str" = some none)
    (z_set : PySem.W.nsIn K mainGlobals "set" = some none)
    : LawAtS l w K L2.CX0 12 63 "_law_script" mg fa h := by
  cases hfa.symm.trans (PySem.W.mg_of X G a_law)
  have T : Txt mg := ⟨PySem.W.mg_none_of X G z_len, PySem.W.mg_none_of X G z_abs, PySem.W.mg_none_of X G z_int, PySem.W.mg_none_of X G z_max, PySem.W.mg_none_of X G z_min, PySem.W.mg_none_of X G z_range, PySem.W.mg_none_of X G z_enumerate, PySem.W.mg_none_of X G z_isinstance, PySem.W.mg_none_of X G z_repr, PySem.W.mg_none_of X G z_zip, PySem.W.mg_none_of X G z_sum, PySem.W.mg_none_of X G z_all, PySem.W.mg_none_of X G z_tuple, PySem.W.mg_none_of X G z_list, PySem.W.mg_none_of X G z_bool, PySem.W.mg_none_of X G z_sorted, PySem.W.mg_none_of X G z_dict, PySem.W.mg_none_of X G z_str, PySem.W.mg_none_of X G z_set⟩
  have clsE : Cls K EV := ⟨pgE, hdE, poE, saE⟩
  have CE : ClsE K mg EV := ⟨clsE, nE0, nE1, nE2, nE3, nE4, PySem.W.mg_of X G aE⟩
  have ME : Mk K EV fE := ⟨mkE, iniE, fnfE, kpE⟩
  have clsW : Cls K WO := ⟨pgW, hdW, poW, saW⟩
  have CW : ClsW K mg WO := ⟨clsW, nW0, nW1, nW2, nW3, nW4, nW5, PySem.W.mg_of X G aW⟩
  have MW : Mk K WO fW := ⟨mkW, iniW, fnfW, kpW⟩
  have clsH : Cls K HC := ⟨pgH, hdH, poH, saH⟩
  have CH : ClsH K mg HC := ⟨clsH, nH0, nH1, PySem.W.mg_of X G aH⟩
  have MH : Mk K HC fH := ⟨mkH, iniH, fnfH, kpH⟩
  have clsM : Cls K MC := ⟨pgM, hdM, poM, saM⟩
  have CM : ClsM K mg MC := ⟨clsM, nM0, PySem.W.mg_of X G aM⟩
  have MM : Mk K MC fM := ⟨mkM, iniM, fnfM, kpM⟩
  have clsV : Cls K VC := ⟨pgV, hdV, poV, saV⟩
  have MV : Mk00 K VC := ⟨mkV, iniV, kpV⟩
  have OM : ObjK K MC := ⟨clsM, ocM, cG, cT, omM, kM_str, kM_int, kM_bool, kM_list, kM_tuple⟩
  have OV : ObjK K VC := ⟨clsV, ocV, cG, cT, omV, kV_str, kV_int, kV_bool, kV_list, kV_tuple⟩
  let Z : Nat → Addr := fun k => if k = 0 then VC else MC
  have OZ : ∀ k, ObjK K (Z k) := fun k => by cases k with | zero => exact OV | succ n => exact OM
  have RR : RowK K Z RW := ⟨kR_NoneType, kR_bool, kR_int, kR_str, kR_list, kR_tuple, fun k => by cases k with | zero => exact kR_V | succ n => exact kR_M⟩
  have OXR : OexC K IR := ⟨⟨_, _, _, _, _, _, _, _, _, _, _, _, _, _, _, lIR, rIR⟩, saR, exR, tyR, kIR⟩
  have te : PySem.W.exmOne K (.ref IR) (.ref SE) = some true := PySem.W.exm_ref sSE dSE tSE mRS
  have EK : ErrK K mg SE IR IT IB := ⟨⟨gaR, ggR, exR, hdR, clR, cG, cT, obR⟩, ⟨gaR, ggR, exR, hdR⟩, noR, te, PySem.W.mg_of X G aSE, PySem.W.mg_of X G aIR, PySem.W.mg_of X G aIT, PySem.W.mg_of X G aIB, kRR, kitAny_cons (b := false) kRT (fun _ => kitAny_cons (b := false) kRB (fun _ => rfl) (fun z => nomatch z)) (fun z => nomatch z)⟩
  have tNN : ∀ H, SqT K H NN (noNames.map V.str) := fun H => .inr ⟨_, _, _, lNN, rfl, rfl, (by show 6 ≤ sizeLine; decide), .cons ⟨_, rfl⟩ (.cons ⟨_, rfl⟩ (.cons ⟨_, rfl⟩ (.cons ⟨_, rfl⟩ (.cons ⟨_, rfl⟩ (.cons ⟨_, rfl⟩ .nil)))))⟩
  have D_is_integer := fun_mk (st := s_is_integer) l_is_integer c_is_integer k_is_integer
  have b_is_integer := D_is_integer.binds (ps := ["value"]) (fun _ _ _ _ _ _ us hl => match us, hl with | [_], _ => rfl)
  have A_is_integer : DefAt K mg "is_integer" s_is_integer ["value"] := ⟨f_is_integer, _, D_is_integer, PySem.W.mg_of X G a_is_integer, b_is_integer⟩
  have D_is_sequence := fun_mk (st := s_is_sequence) l_is_sequence c_is_sequence k_is_sequence
  have b_is_sequence := D_is_sequence.binds (ps := ["value"]) (fun _ _ _ _ _ _ us hl => match us, hl with | [_], _ => rfl)
  have A_is_sequence : DefAt K mg "is_sequence" s_is_sequence ["value"] := ⟨f_is_sequence, _, D_is_sequence, PySem.W.mg_of X G a_is_sequence, b_is_sequence⟩
  have D_is_name := fun_mk (st := s_is_name) l_is_name c_is_name k_is_name
  have b_is_name := D_is_name.binds (ps := ["value"]) (fun _ _ _ _ _ _ us hl => match us, hl with | [_], _ => rfl)
  have A_is_name : DefAt K mg "is_name" s_is_name ["value"] := ⟨f_is_name, _, D_is_name, PySem.W.mg_of X G a_is_name, b_is_name⟩
  have D_are_names := fun_mk (st := s_are_names) l_are_names c_are_names k_are_names
  have b_are_names := D_are_names.binds (ps := ["value"]) (fun _ _ _ _ _ _ us hl => match us, hl with | [_], _ => rfl)
  have A_are_names : DefAt K mg "are_names" s_are_names ["value"] := ⟨f_are_names, _, D_are_names, PySem.W.mg_of X G a_are_names, b_are_names⟩
  have D_check := fun_mk (st := s_check) l_check c_check k_check
  have b_check := D_check.binds (ps := ["holds", "part"]) (fun _ _ _ _ _ _ us hl => match us, hl with | [_, _], _ => rfl)
  have A_check : DefAt K mg "check" s_check ["holds", "part"] := ⟨f_check, _, D_check, PySem.W.mg_of X G a_check, b_check⟩
  have D_is_kind := fun_mk (st := s_is_kind) l_is_kind c_is_kind k_is_kind
  have b_is_kind := D_is_kind.binds (ps := ["value"]) (fun _ _ _ _ _ _ us hl => match us, hl with | [_], _ => rfl)
  have A_is_kind : DefAt K mg "is_kind" s_is_kind ["value"] := ⟨f_is_kind, _, D_is_kind, PySem.W.mg_of X G a_is_kind, b_is_kind⟩
  have D_are_rows := fun_mk (st := s_are_rows) l_are_rows c_are_rows k_are_rows
  have b_are_rows := D_are_rows.binds (ps := ["value"]) (fun _ _ _ _ _ _ us hl => match us, hl with | [_], _ => rfl)
  have A_are_rows : DefAt K mg "are_rows" s_are_rows ["value"] := ⟨f_are_rows, _, D_are_rows, PySem.W.mg_of X G a_are_rows, b_are_rows⟩
  have D_are_origins := fun_mk (st := s_are_origins) l_are_origins c_are_origins k_are_origins
  have b_are_origins := D_are_origins.binds (ps := ["value"]) (fun _ _ _ _ _ _ us hl => match us, hl with | [_], _ => rfl)
  have A_are_origins : DefAt K mg "are_origins" s_are_origins ["value"] := ⟨f_are_origins, _, D_are_origins, PySem.W.mg_of X G a_are_origins, b_are_origins⟩
  have D_may_bring := fun_mk (st := s_may_bring) l_may_bring c_may_bring k_may_bring
  have b_may_bring := D_may_bring.binds (ps := ["value", "comes", "goes"]) (fun _ _ _ _ _ _ us hl => match us, hl with | [_, _, _], _ => rfl)
  have A_may_bring : DefAt K mg "may_bring" s_may_bring ["value", "comes", "goes"] := ⟨f_may_bring, _, D_may_bring, PySem.W.mg_of X G a_may_bring, b_may_bring⟩
  have D_law_box := fun_mk (st := s_law_box) l_law_box c_law_box k_law_box
  have b_law_box := D_law_box.binds (ps := ["_law_script", "_law_k", "_law_own"]) (fun _ _ _ _ _ _ us hl => match us, hl with | [_, _, _], _ => rfl)
  have A_law_box : DefAt K mg "_law_box" s_law_box ["_law_script", "_law_k", "_law_own"] := ⟨f_law_box, _, D_law_box, PySem.W.mg_of X G a_law_box, b_law_box⟩
  have D_law_take := fun_mk (st := s_law_take) l_law_take c_law_take k_law_take
  have b_law_take := D_law_take.binds (ps := ["_law_box_here", "_law_many"]) (fun _ _ _ _ _ _ us hl => match us, hl with | [_, _], _ => rfl)
  have A_law_take : DefAt K mg "_law_take" s_law_take ["_law_box_here", "_law_many"] := ⟨f_law_take, _, D_law_take, PySem.W.mg_of X G a_law_take, b_law_take⟩
  have D_law_pick := fun_mk (st := s_law_pick) l_law_pick c_law_pick k_law_pick
  have b_law_pick := D_law_pick.binds (ps := ["_law_box_here", "_law_items"]) (fun _ _ _ _ _ _ us hl => match us, hl with | [_, _], _ => rfl)
  have A_law_pick : DefAt K mg "_law_pick" s_law_pick ["_law_box_here", "_law_items"] := ⟨f_law_pick, _, D_law_pick, PySem.W.mg_of X G a_law_pick, b_law_pick⟩
  have D_law_odd := fun_mk (st := s_law_odd) l_law_odd c_law_odd k_law_odd
  have b_law_odd := D_law_odd.binds (ps := ["_law_box_here"]) (fun _ _ _ _ _ _ us hl => match us, hl with | [_], _ => rfl)
  have A_law_odd : DefAt K mg "_law_odd" s_law_odd ["_law_box_here"] := ⟨f_law_odd, _, D_law_odd, PySem.W.mg_of X G a_law_odd, b_law_odd⟩
  have D_law_refused := fun_mk (st := s_law_refused) l_law_refused c_law_refused k_law_refused
  have b_law_refused := D_law_refused.binds (ps := ["_law_work"]) (fun _ _ _ _ _ _ us hl => match us, hl with | [_], _ => rfl)
  have A_law_refused : DefAt K mg "_law_refused" s_law_refused ["_law_work"] := ⟨f_law_refused, _, D_law_refused, PySem.W.mg_of X G a_law_refused, b_law_refused⟩
  have D_law_due_event := fun_mk (st := s_law_due_event) l_law_due_event c_law_due_event k_law_due_event
  have b_law_due_event := D_law_due_event.binds (ps := ["_law_name", "_law_origins", "_law_kind", "_law_amount", "_law_group"]) (fun _ _ _ _ _ _ us hl => match us, hl with | [_, _, _, _, _], _ => rfl)
  have A_law_due_event : DefAt K mg "_law_due_event" s_law_due_event ["_law_name", "_law_origins", "_law_kind", "_law_amount", "_law_group"] := ⟨f_law_due_event, _, D_law_due_event, PySem.W.mg_of X G a_law_due_event, b_law_due_event⟩
  have D_law_event_refused := fun_mk (st := s_law_event_refused) l_law_event_refused c_law_event_refused k_law_event_refused
  have b_law_event_refused := D_law_event_refused.binds (ps := ["_law_box_here"]) (fun _ _ _ _ _ _ us hl => match us, hl with | [_], _ => rfl)
  have A_law_event_refused : DefC K mg "_law_event_refused" s_law_event_refused ["_law_box_here"] cE := ⟨_, _, _, _, _, _, _, _, _, l_law_event_refused, c_law_event_refused, k_law_event_refused, PySem.W.mg_of X G a_law_event_refused, b_law_event_refused⟩
  have D_law_worth_refused := fun_mk (st := s_law_worth_refused) l_law_worth_refused c_law_worth_refused k_law_worth_refused
  have b_law_worth_refused := D_law_worth_refused.binds (ps := ["_law_box_here"]) (fun _ _ _ _ _ _ us hl => match us, hl with | [_], _ => rfl)
  have A_law_worth_refused : DefC K mg "_law_worth_refused" s_law_worth_refused ["_law_box_here"] cW := ⟨_, _, _, _, _, _, _, _, _, l_law_worth_refused, c_law_worth_refused, k_law_worth_refused, PySem.W.mg_of X G a_law_worth_refused, b_law_worth_refused⟩
  have D_law := fun_mk (st := s_law) l_law c_law k_law
  have b_law := D_law.binds (ps := ["_law_script"]) (fun _ _ _ _ _ _ us hl => match us, hl with | [_], _ => rfl)
  have A_law : DefC K mg "law" s_law ["_law_script"] cL := ⟨_, _, _, _, _, _, _, _, _, l_law, c_law, k_law, PySem.W.mg_of X G a_law, b_law⟩
  have DQ := fun_mk (st := s_Moved_eq) l_Moved_eq c_Moved_eq k_Moved_eq
  have bQ := DQ.binds (ps := ["self", "other"]) (fun _ _ _ _ _ _ us hl => match us, hl with | [_, _], _ => rfl)
  have DR := fun_mk (st := s_InvalidRow_init) l_InvalidRow_init c_InvalidRow_init k_InvalidRow_init
  have bR := DR.binds (ps := ["self", "part"]) (fun _ _ _ _ _ _ us hl => match us, hl with | [_, _], _ => rfl)
  have FE : FunD K "__init__" "Event.__init__" (defArgs s_Event_init) (defBody s_Event_init) (defScope s_Event_init) [V.bl false, V.bl false] [] fE _ := ⟨⟨_, _, _, _, _, _, _, _, _, _, rfl, l_Event_init, c_Event_init, .inr ⟨(fun z => nomatch z), TE, _, [.bool false, .bool false], nE, rfl, lTE, rfl, .cons rfl (.cons rfl .nil)⟩, .inl rfl⟩, k_Event_init⟩
  have FW : FunD K "__init__" "Worth.__init__" (defArgs s_Worth_init) (defBody s_Worth_init) (defScope s_Worth_init) [V.non, V.non] [] fW _ := ⟨⟨_, _, _, _, _, _, _, _, _, _, rfl, l_Worth_init, c_Worth_init, .inr ⟨(fun z => nomatch z), TW, _, [.none, .none], nW, rfl, lTW, rfl, .cons rfl (.cons rfl .nil)⟩, .inl rfl⟩, k_Worth_init⟩
  have FH : FunD K "__init__" "Handler.__init__" (defArgs s_Handler_init) (defBody s_Handler_init) (defScope s_Handler_init) [V.ref t0] [] fH _ := ⟨⟨_, _, _, _, _, _, _, _, _, _, rfl, l_Handler_init, c_Handler_init, .inr ⟨(fun z => nomatch z), TH, _, [.ref t0], nH, rfl, lTH, rfl, .cons rfl .nil⟩, .inl rfl⟩, k_Handler_init⟩
  have FM : FunD K "__init__" "Mark.__init__" (defArgs s_Mark_init) (defBody s_Mark_init) (defScope s_Mark_init) [] [] fM _ := ⟨⟨_, _, _, _, _, _, _, _, _, _, rfl, l_Mark_init, c_Mark_init, .inl ⟨rfl, rfl⟩, .inl rfl⟩, k_Mark_init⟩
  obtain ⟨d0, u0, bE⟩ := FE.binds1 (ps := ["self", "name", "origins", "kind", "amount", "group"]) 6 2 (fun z => nomatch z) rfl (fun _ _ _ _ _ _ _ us its hu hi => match us, hu, its, hi with | [_, _, _, _, _, _], _, [_, _], _ => ⟨_, rfl, rfl⟩)
  cases u0
  obtain ⟨d1, u1, bW⟩ := FW.binds1 (ps := ["self", "total", "kind", "factor", "what", "least", "below"]) 7 2 (fun z => nomatch z) rfl (fun _ _ _ _ _ _ _ us its hu hi => match us, hu, its, hi with | [_, _, _, _, _, _, _], _, [_, _], _ => ⟨_, rfl, rfl⟩)
  cases u1
  obtain ⟨d2, u2, bH⟩ := FH.binds1 (ps := ["self", "event", "rows"]) 3 1 (fun z => nomatch z) rfl (fun _ _ _ _ _ _ _ us its hu hi => match us, hu, its, hi with | [_, _, _], _, [_], _ => ⟨_, rfl, rfl⟩)
  cases u2
  obtain ⟨d3, u3, bH1⟩ := FH.binds1 (ps := ["self", "event", "rows"]) 2 0 (fun z => nomatch z) rfl (fun _ _ _ _ _ _ _ us its hu hi => match us, hu, its, hi with | [_, _], _, [_], _ => ⟨_, rfl, rfl⟩)
  have bM := FM.bindsN (ps := ["self", "place"]) (fun _ _ _ _ _ _ us hl => match us, hl with | [_, _], _ => rfl)
  have RK : RefK K mg f_law_refused oc_law_refused kV_law_refused dc_law_refused pm_law_refused cd_law_refused ct_law_refused od_law_refused an_law_refused sl_law_refused := ⟨PySem.W.mg_of X G a_law_refused, k_law_refused, l_law_refused, c_law_refused, b_law_refused⟩
  let TT : List (Addr × Str) := [(tL, lamL), (tE, lamE), (tW, lamW)]
  refine ⟨PySem.W.fnOf "law" "law" (defArgs s_law) (defBody s_law) (defScope s_law) .none kV_law dc_law pm_law an_law (.ref cL) ct_law, [(cL, tL), (cE, tE), (cW, tW)], spLawT K TT, ?_, ?_, ?_, (fun s u => .of_eq rfl), ?_, ?_⟩
  · intro p hp
    simp only [List.mem_cons, List.not_mem_nil, or_false] at hp
    rcases hp with rfl | rfl | rfl
    · exact owL cL tL _ _ _ _ _ _ l_law rfl rfl lcL vtL
    · exact owE cE tE _ _ _ _ _ _ l_law_event_refused rfl rfl lcE vtE
    · exact owW cW tW _ _ _ _ _ _ l_law_worth_refused rfl rfl lcW vtW
  · intro p hp
    simp only [List.mem_cons, List.not_mem_nil, or_false] at hp
    rcases hp with rfl | rfl | rfl
    · exact ntL
    · exact ntE
    · exact ntW
  · intro p hp
    simp only [List.mem_cons, List.not_mem_nil, or_false] at hp
    rcases hp with rfl | rfl | rfl
    · exact PySem.W.codeHd_of_K X chL
    · exact PySem.W.codeHd_of_K X chE
    · exact PySem.W.codeHd_of_K X chW
  · intro H a ns hl _ hT hS
    refine ⟨a, ns, rfl, hS, hl, fun p hp => ?_, fun _ => rfl⟩
    have hp' : p ∈ [(tL, lamL), (tE, lamE), (tW, lamW)] := hp
    simp only [List.mem_cons, List.not_mem_nil, or_false] at hp'
    rcases hp' with rfl | rfl | rfl
    · exact TabS.nil (hT (cL, tL) (by simp))
    · exact TabS.nil (hT (cE, tE) (by simp))
    · exact TabS.nil (hT (cW, tW) (by simp))
  · intro base _ _ TB
    have TBL : TabB base mg cL tL := TB (cL, tL) (by simp)
    have TBE : TabB base mg cE tE := TB (cE, tE) (by simp)
    have TBW : TabB base mg cW tW := TB (cW, tW) (by simp)
    have huL : ∀ p ∈ TT, p.1 = tL → p.2 = lamL := fun p hp e => by
      have hp' : p ∈ [(tL, lamL), (tE, lamE), (tW, lamW)] := hp
      simp only [List.mem_cons, List.not_mem_nil, or_false] at hp'
      rcases hp' with rfl | rfl | rfl
      · rfl
      · exact absurd e (by first | exact neLE | exact Ne.symm neLE | exact neLW | exact Ne.symm neLW)
      · exact absurd e (by first | exact neLE | exact Ne.symm neLE | exact neLW | exact Ne.symm neLW)
    have huE : ∀ p ∈ TT, p.1 = tE → p.2 = lamE := fun p hp e => by
      have hp' : p ∈ [(tL, lamL), (tE, lamE), (tW, lamW)] := hp
      simp only [List.mem_cons, List.not_mem_nil, or_false] at hp'
      rcases hp' with rfl | rfl | rfl
      · exact absurd e (by first | exact neLE | exact Ne.symm neLE | exact neEW | exact Ne.symm neEW)
      · rfl
      · exact absurd e (by first | exact neLE | exact Ne.symm neLE | exact neEW | exact Ne.symm neEW)
    have huW : ∀ p ∈ TT, p.1 = tW → p.2 = lamW := fun p hp e => by
      have hp' : p ∈ [(tL, lamL), (tE, lamE), (tW, lamW)] := hp
      simp only [List.mem_cons, List.not_mem_nil, or_false] at hp'
      rcases hp' with rfl | rfl | rfl
      · exact absurd e (by first | exact neLW | exact Ne.symm neLW | exact neEW | exact Ne.symm neEW)
      · exact absurd e (by first | exact neLW | exact Ne.symm neLW | exact neEW | exact Ne.symm neEW)
      · rfl
    have g_int := ok_int (P := l.prog) (w := w) (base := base) T OZ A_is_integer
    have g_seq := ok_seq (P := l.prog) (w := w) (base := base) T OZ A_is_sequence
    have g_name := ok_name (P := l.prog) (w := w) (base := base) T OZ (PySem.W.mg_of X G aNN) tNN A_is_name
    have g_names := ok_names (P := l.prog) (w := w) (base := base) T OZ g_seq g_name A_are_names
    have g_initR := ok_initR (mg := mg) (P := l.prog) (w := w) (base := base) OXR noR DR
    have g_check := ok_check (P := l.prog) (w := w) (base := base) T OXR inR tiR g_initR bR (PySem.W.mg_of X G aIR) A_check
    have g_kind := ok_kind (P := l.prog) (w := w) (base := base) T g_name A_is_kind
    have g_may := ok_may (P := l.prog) (w := w) (base := base) T OZ A_may_bring
    have g_rows := ok_rows (P := l.prog) (w := w) (base := base) T OZ RR (PySem.W.mg_of X G aRW) g_seq A_are_rows
    have g_orig := ok_orig (P := l.prog) (w := w) (base := base) T OZ g_seq g_names A_are_origins
    have g_event := ok_event (P := l.prog) (w := w) (base := base) T CE OZ g_check g_name g_orig g_kind g_may FE
    have g_worth := ok_worth (P := l.prog) (w := w) (base := base) T CW OZ g_check g_name g_int FW
    have g_handler := ok_handler (P := l.prog) (w := w) (base := base) T CH g_check g_name g_rows FH
    have g_mark := ok_mark (P := l.prog) (w := w) (base := base) T CM g_check FM
    have g_movedEq := ok_movedEq (P := l.prog) (w := w) (base := base) T (PySem.W.mg_of X G aV) kVs DQ
    have g_take := ok_take (P := l.prog) (w := w) (base := base) T A_law_take
    have g_box := ok_box (P := l.prog) (w := w) (base := base) T A_law_box
    have g_pick := ok_pick (P := l.prog) (w := w) (base := base) T g_take A_law_pick
    have g_odd := ok_odd (P := l.prog) (w := w) (base := base) (Z := Z) T MV (PySem.W.mg_of X G aV) rfl g_pick A_law_odd
    have g_due := ok_dueE (P := l.prog) (w := w) (base := base) (Z := Z) T OZ rfl stV hsV fnQ g_movedEq bQ A_law_due_event
    have g_er := ok_eventR (P := l.prog) (w := w) (base := base) (d1 := .none) (d2 := .none) T RK EK CE ME g_event bE TBE (by simp [TT]) huE g_take g_pick g_odd g_due A_law_event_refused
    have g_wr := ok_worthR (P := l.prog) (w := w) (base := base) T RK EK CW MW g_worth bW TBW (by simp [TT]) huW g_take g_pick g_odd A_law_worth_refused
    exact ok_law (P := l.prog) (w := w) (base := base) T RK EK CH MH g_handler bH bH1 u3 CM MM g_mark bM MV (PySem.W.mg_of X G aV) rfl rfl TBL (by simp [TT]) huL g_box g_pick g_odd g_er g_wr l_law c_law
end K14

open PySem PySem.W PyProof.Rows in
set_option maxRecDepth 100000 in
set_option maxHeartbeats 0 in
set_option pp.maxSteps 120 in
theorem PySem.Challenge.cw_sumlives_k16_parts_of_books_refused_holds : PySem.Challenge.rw_sumlives_k16_parts_of_books_refused.Holds := by
  w_on; o_law; k_head; (case hw => w_witness2)
  k_fill
  refine K14.walk_tabs (l := PySem.Challenge.rw_sumlives_k16_parts_of_books_refused) (n := 63) (k := 12) (x := "_law_script") (CX := fun _ => L2.CX0) rfl (by decide) rfl ⟨rfl, by decide, by decide⟩ (fun w h Y => PySem.W.km_in_of Y) ?F (fun _ _ _ _ _ z => z.elim)
  case F =>
    intro w mg fa h KX G hmg tabs
    replace hmg : mg "law" = some (.ref fa) := hmg
    refine' K14.facts KX G hmg ?aE ?pgE ?hdE ?poE ?saE ?mkE ?kpE ?iniE ?fnfE ?nE0 ?nE1 ?nE2 ?nE3 ?nE4 ?aW ?pgW ?hdW ?poW ?saW ?mkW ?kpW ?iniW ?fnfW ?nW0 ?nW1 ?nW2 ?nW3 ?nW4 ?nW5 ?aH ?pgH ?hdH ?poH ?saH ?mkH ?kpH ?iniH ?fnfH ?nH0 ?nH1 ?aM ?pgM ?hdM ?poM ?saM ?mkM ?kpM ?iniM ?fnfM ?nM0 ?aV ?pgV ?hdV ?poV ?saV ?mkV ?kpV ?iniV ?cG ?cT ?ocM ?omM ?kM_str ?kM_int ?kM_bool ?kM_list ?kM_tuple ?ocV ?omV ?kV_str ?kV_int ?kV_bool ?kV_list ?kV_tuple ?aRW ?kR_NoneType ?kR_bool ?kR_int ?kR_str ?kR_list ?kR_tuple ?kR_V ?kR_M ?stV ?hsV ?fnQ ?kVs ?aSE ?aIR ?aIT ?aIB ?lIR ?rIR ?saR ?inR ?tiR ?noR ?kIR ?exR ?tyR ?gaR ?ggR ?hdR ?clR ?obR ?tSE ?sSE ?dSE ?mRS ?kRR ?kRT ?kRB ?aNN ?lNN ?l_Event_init ?c_Event_init ?k_Event_init ?l_Worth_init ?c_Worth_init ?k_Worth_init ?l_Handler_init ?c_Handler_init ?k_Handler_init ?l_Mark_init ?c_Mark_init ?k_Mark_init ?l_Moved_eq ?c_Moved_eq ?k_Moved_eq ?l_InvalidRow_init ?c_InvalidRow_init ?k_InvalidRow_init ?lTE ?lTW ?lTH ?a_is_integer ?l_is_integer ?c_is_integer ?k_is_integer ?a_is_sequence ?l_is_sequence ?c_is_sequence ?k_is_sequence ?a_is_name ?l_is_name ?c_is_name ?k_is_name ?a_are_names ?l_are_names ?c_are_names ?k_are_names ?a_check ?l_check ?c_check ?k_check ?a_is_kind ?l_is_kind ?c_is_kind ?k_is_kind ?a_are_rows ?l_are_rows ?c_are_rows ?k_are_rows ?a_are_origins ?l_are_origins ?c_are_origins ?k_are_origins ?a_may_bring ?l_may_bring ?c_may_bring ?k_may_bring ?a_law_box ?l_law_box ?c_law_box ?k_law_box ?a_law_take ?l_law_take ?c_law_take ?k_law_take ?a_law_pick ?l_law_pick ?c_law_pick ?k_law_pick ?a_law_odd ?l_law_odd ?c_law_odd ?k_law_odd ?a_law_refused ?l_law_refused ?c_law_refused ?k_law_refused ?a_law_due_event ?l_law_due_event ?c_law_due_event ?k_law_due_event ?a_law_event_refused ?l_law_event_refused ?c_law_event_refused ?k_law_event_refused ?lcE ?vtE ?chE ?ntE ?owE ?a_law_worth_refused ?l_law_worth_refused ?c_law_worth_refused ?k_law_worth_refused ?lcW ?vtW ?chW ?ntW ?owW ?a_law ?l_law ?c_law ?k_law ?lcL ?vtL ?chL ?ntL ?owL ?neLE ?neLW ?neEW ?z_len ?z_abs ?z_int ?z_max ?z_min ?z_range ?z_enumerate ?z_isinstance ?z_repr ?z_zip ?z_sum ?z_all ?z_tuple ?z_list ?z_bool ?z_sorted ?z_dict ?z_str ?z_set
    (case aE => k_is)
    (case pgE => k_is)
    (case hdE => k_is)
    (case poE => k_is)
    (case saE => k_is)
    (case mkE => k_is)
    (case kpE => k_is)
    (case iniE => k_is)
    (case fnfE => k_is)
    (case nE0 => k_is)
    (case nE1 => k_is)
    (case nE2 => k_is)
    (case nE3 => k_is)
    (case nE4 => k_is)
    (case aW => k_is)
    (case pgW => k_is)
    (case hdW => k_is)
    (case poW => k_is)
    (case saW => k_is)
    (case mkW => k_is)
    (case kpW => k_is)
    (case iniW => k_is)
    (case fnfW => k_is)
    (case nW0 => k_is)
    (case nW1 => k_is)
    (case nW2 => k_is)
    (case nW3 => k_is)
    (case nW4 => k_is)
    (case nW5 => k_is)
    (case aH => k_is)
    (case pgH => k_is)
    (case hdH => k_is)
    (case poH => k_is)
    (case saH => k_is)
    (case mkH => k_is)
    (case kpH => k_is)
    (case iniH => k_is)
    (case fnfH => k_is)
    (case nH0 => k_is)
    (case nH1 => k_is)
    (case aM => k_is)
    (case pgM => k_is)
    (case hdM => k_is)
    (case poM => k_is)
    (case saM => k_is)
    (case mkM => k_is)
    (case kpM => k_is)
    (case iniM => k_is)
    (case fnfM => k_is)
    (case nM0 => k_is)
    (case aV => k_is)
    (case pgV => k_is)
    (case hdV => k_is)
    (case poV => k_is)
    (case saV => k_is)
    (case mkV => k_is)
    (case kpV => k_is)
    (case iniV => k_is)
    (case cG => k_is)
    (case cT => k_is)
    (case ocM => k_is)
    (case omM => k_is)
    (case kM_str => kit_is)
    (case kM_int => kit_is)
    (case kM_bool => kit_is)
    (case kM_list => kit_is)
    (case kM_tuple => kit_is)
    (case ocV => k_is)
    (case omV => k_is)
    (case kV_str => kit_is)
    (case kV_int => kit_is)
    (case kV_bool => kit_is)
    (case kV_list => kit_is)
    (case kV_tuple => kit_is)
    (case aRW => k_is)
    (case kR_NoneType => kit_is)
    (case kR_bool => kit_is)
    (case kR_int => kit_is)
    (case kR_str => kit_is)
    (case kR_list => kit_is)
    (case kR_tuple => kit_is)
    (case kR_V => kit_is)
    (case kR_M => kit_is)
    (case stV => k_is)
    (case hsV => k_is)
    (case fnQ => k_is)
    (case kVs => kit_is)
    (case aSE => k_is)
    (case aIR => k_is)
    (case aIT => k_is)
    (case aIB => k_is)
    (case lIR => k_is)
    (case rIR => exact (by decide +kernel))
    (case saR => k_is)
    (case inR => k_is)
    (case tiR => k_is)
    (case noR => k_is)
    (case kIR => k_is)
    (case exR => k_is)
    (case tyR => k_is)
    (case gaR => k_is)
    (case ggR => k_is)
    (case hdR => k_is)
    (case clR => k_is)
    (case obR => k_is)
    (case tSE => k_is)
    (case sSE => k_is)
    (case dSE => k_is)
    (case mRS => first | rfl | k_is)
    (case kRR => exact if_pos (beq_self_eq_true _))
    (case kRT => kit_is)
    (case kRB => kit_is)
    (case aNN => k_is)
    (case lNN => k_is)
    (case l_Event_init => k_is)
    (case c_Event_init => k_is)
    (case k_Event_init => k_is)
    (case l_Worth_init => k_is)
    (case c_Worth_init => k_is)
    (case k_Worth_init => k_is)
    (case l_Handler_init => k_is)
    (case c_Handler_init => k_is)
    (case k_Handler_init => k_is)
    (case l_Mark_init => k_is)
    (case c_Mark_init => k_is)
    (case k_Mark_init => k_is)
    (case l_Moved_eq => k_is)
    (case c_Moved_eq => k_is)
    (case k_Moved_eq => k_is)
    (case l_InvalidRow_init => k_is)
    (case c_InvalidRow_init => k_is)
    (case k_InvalidRow_init => k_is)
    (case lTE => k_is)
    (case lTW => k_is)
    (case lTH => k_is)
    (case a_is_integer => k_is)
    (case l_is_integer => k_is)
    (case c_is_integer => k_is)
    (case k_is_integer => k_is)
    (case a_is_sequence => k_is)
    (case l_is_sequence => k_is)
    (case c_is_sequence => k_is)
    (case k_is_sequence => k_is)
    (case a_is_name => k_is)
    (case l_is_name => k_is)
    (case c_is_name => k_is)
    (case k_is_name => k_is)
    (case a_are_names => k_is)
    (case l_are_names => k_is)
    (case c_are_names => k_is)
    (case k_are_names => k_is)
    (case a_check => k_is)
    (case l_check => k_is)
    (case c_check => k_is)
    (case k_check => k_is)
    (case a_is_kind => k_is)
    (case l_is_kind => k_is)
    (case c_is_kind => k_is)
    (case k_is_kind => k_is)
    (case a_are_rows => k_is)
    (case l_are_rows => k_is)
    (case c_are_rows => k_is)
    (case k_are_rows => k_is)
    (case a_are_origins => k_is)
    (case l_are_origins => k_is)
    (case c_are_origins => k_is)
    (case k_are_origins => k_is)
    (case a_may_bring => k_is)
    (case l_may_bring => k_is)
    (case c_may_bring => k_is)
    (case k_may_bring => k_is)
    (case a_law_box => k_is)
    (case l_law_box => k_is)
    (case c_law_box => k_is)
    (case k_law_box => k_is)
    (case a_law_take => k_is)
    (case l_law_take => k_is)
    (case c_law_take => k_is)
    (case k_law_take => k_is)
    (case a_law_pick => k_is)
    (case l_law_pick => k_is)
    (case c_law_pick => k_is)
    (case k_law_pick => k_is)
    (case a_law_odd => k_is)
    (case l_law_odd => k_is)
    (case c_law_odd => k_is)
    (case k_law_odd => k_is)
    (case a_law_refused => k_is)
    (case l_law_refused => k_is)
    (case c_law_refused => k_is)
    (case k_law_refused => k_is)
    (case a_law_due_event => k_is)
    (case l_law_due_event => k_is)
    (case c_law_due_event => k_is)
    (case k_law_due_event => k_is)
    (case a_law_event_refused => k_is)
    (case l_law_event_refused => k_is)
    (case c_law_event_refused => k_is)
    (case k_law_event_refused => k_is)
    (case lcE => k_is)
    (case vtE => exact rfl)
    (case chE => first | rfl | k_is | decide +kernel)
    (case ntE => first | rfl | k_is | decide +kernel)
    (case owE => exact tabs "_law_event_refused" _ (by rfl) (PySem.W.mg_of KX G (by k_is)))
    (case a_law_worth_refused => k_is)
    (case l_law_worth_refused => k_is)
    (case c_law_worth_refused => k_is)
    (case k_law_worth_refused => k_is)
    (case lcW => k_is)
    (case vtW => exact rfl)
    (case chW => first | rfl | k_is | decide +kernel)
    (case ntW => first | rfl | k_is | decide +kernel)
    (case owW => exact tabs "_law_worth_refused" _ (by rfl) (PySem.W.mg_of KX G (by k_is)))
    (case a_law => k_is)
    (case l_law => k_is)
    (case c_law => k_is)
    (case k_law => k_is)
    (case lcL => k_is)
    (case vtL => exact rfl)
    (case chL => first | rfl | k_is | decide +kernel)
    (case ntL => first | rfl | k_is | decide +kernel)
    (case owL => exact tabs "law" _ (by rfl) (PySem.W.mg_of KX G (by k_is)))
    (case neLE => first | decide | decide +kernel)
    (case neLW => first | decide | decide +kernel)
    (case neEW => first | decide | decide +kernel)
    (case z_len => k_is)
    (case z_abs => k_is)
    (case z_int => k_is)
    (case z_max => k_is)
    (case z_min => k_is)
    (case z_range => k_is)
    (case z_enumerate => k_is)
    (case z_isinstance => k_is)
    (case z_repr => k_is)
    (case z_zip => k_is)
    (case z_sum => k_is)
    (case z_all => k_is)
    (case z_tuple => k_is)
    (case z_list => k_is)
    (case z_bool => k_is)
    (case z_sorted => k_is)
    (case z_dict => k_is)
    (case z_str => k_is)
    (case z_set => k_is)
