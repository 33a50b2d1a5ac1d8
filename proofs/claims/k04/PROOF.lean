import PyProof.Rows.All
import Wide.All
import OpenK.AllK
import Wide.FinOn
import HandS.ForMost
import HandS.Zip
import HandS.Walk
import HandS.Star
import HandS.Style
import HandS.Gcd
import HandS.WideBits
import HandS.IsInst
import HandS.Defaults
import HandS.RaiseMore
import KE.GoesMore
import HandS.OwnEq
import KE.GoesZip
import HandS.Wide
import HandS.Codes
import HandS.TupAny
import PySem.Challenge.RW_sumlives_k04_vectors_in_lattices
set_option Elab.async false
set_option maxRecDepth 100000
set_option maxHeartbeats 8000000
namespace L2
open PySem PySem.Spec PyProof.Rows RZ
section
variable {X : Cx}
/-- // by any number but 0 that the model divides itself -/
def CDivZ (i j : Int) : Prop := j ≠ 0 ∧ Builtin.divisionGoesByPylong i j = false
theorem op_fdivZ : OpR X (binaryOp .FloorDiv) (rI CDivZ fun i j => .int (i.fdiv j)) := opI fun _ _ _ _ _ _ _ hc q => floordiv_int hc.1 q (.inl hc.2)
/-- a for over a list or a tuple -/
def iSeq (K : PySem.W.Frag) (t : TE) : TI := fun σ H R => iList K t σ H R ∨ iTup K t σ H R
theorem pi_seq {tg l : Expr} {tl : TE} (h : PE X l tl) : PI X tg l (iSeq X.K tl) := ⟨fun pins s σ H R I q => q.elim ((pi_list h).run pins s σ H R I) ((pi_tup h).run pins s σ H R I)⟩
end
/-! ### enumerate(tuple) -/
def IteT (K : PySem.W.Frag) (a : Addr) : It :=
  ⟨fun i H => ∃ (ys : List V) (y : V), SqT K H a ys ∧ ys[i]? = some y,
   fun i H v H' => ∃ T y, v = .ref T ∧ H T = none ∧ H' = upd H T (.tup [.int (i : Nat), y]) ∧ ∀ ys, SqT K H a ys → ys[i]? = some y,
   fun i H => ∃ ys : List V, SqT K H a ys ∧ ys.length = i⟩
theorem turn_enumT {P : Program} {w : World} {K : PySem.W.Frag} {elts : List Expr} {kk : Nat} {tpos : Pos} (a e it : Addr) (hia : a ≠ it) (hea : a ≠ e) :
    Turn P w K (.Tuple elts kk tpos) (IteT K a) [e, it] e (fun i h => (∃ old, IsEnum h e it ((i : Nat) : Int) old) ∧ h.IsTupleIter it a i ∧ e ≠ it) where
  mem := List.mem_cons_self
  obj := fun i h st b hb => by
    obtain ⟨⟨old, he⟩, ⟨o, ho, _, hd⟩, _⟩ := st
    rcases List.mem_cons.mp hb with z | z
    · rw [z]
      exact ⟨_, he, fun v q => nomatch q⟩
    · rw [List.mem_singleton.mp z]
      exact ⟨o, ho, fun v q => by rw [hd] at q; cases q⟩
  keep := fun i h h' st k => by
    obtain ⟨⟨old, he⟩, hi, hne⟩ := st
    exact ⟨⟨old, k e (by simp) _ he⟩, hi.at fun o q => k it (by simp) o q, hne⟩
  item := by
    intro X hP hw hK hc i pins s σ H E I hf st hg
    subst hP hw hK
    obtain ⟨⟨old, he⟩, hit, hne⟩ := st
    obtain ⟨ys, y, hq, hy⟩ := hg
    obtain ⟨its, rv, p, hz⟩ := I.tuple hq
    obtain ⟨u, hu, ru⟩ := rv.get hy
    have hel : e < s.heap.objs.size := Heap.lt_size he
    have hil : it < s.heap.objs.size := by
      obtain ⟨_, q, _⟩ := id hit
      exact Heap.lt_size q
    have hsz : i < its.toArray.size := by
      rw [List.size_toArray]
      exact (List.getElem?_eq_some_iff.mp hu).1
    refine wpAny_pyNext_enum_itemD (Draws.tuple (A := X.A.in1) (I.ok.hd hc) it a hia its.toArray) he ⟨hit, p⟩ hsz hne (fun z => ?_) fun x h' tk hx ho st' hT hs1 hk => ?_
    · rcases List.mem_cons.mp z with z | z
      · exact hne z
      · exact hea (List.mem_singleton.mp z).symm
    have ex : x = u := by
      have z : its.toArray[i]? = some x := hx
      rw [show its.toArray[i]? = its[i]? by simp, hu] at z
      exact (Option.some.inj z).symm
    subst ex
    refine ⟨_, rfl, wpAny_letOwnedTupleGo_enum (s := { s with heap := h', toks := tk + 1 }) ho fun h'' he' sb => ?_⟩
    have hT2 : h''.get? s.heap.objs.size = some { cls := .type "tuple", data := .seq #[.int i tk, x] } := (sb.2 _ (Nat.ne_of_gt hel)).trans hT
    have new : ObjOk X.prog X.w (upd H s.heap.objs.size (.tup [.int (i : Nat), y])) h'' s.heap.objs.size (.tup [.int (i : Nat), y]) :=
      ⟨by show 2 ≤ sizeLine; decide, [.int i tk, x], .cons ⟨_, rfl⟩ (.cons ru .nil), _, hT2, rfl, _, rfl⟩
    have J : Inv X pins σ (upd H s.heap.objs.size (.tup [.int (i : Nat), y])) { s with heap := h'', toks := tk + 1 } :=
      I.turnedNew (ch := [e, it]) (fun b ob hb q => (sb.2 b fun z => hb (by simp [z])).trans (hk b ob (fun z => hb (by simp [z])) (fun z => hb (by simp [z])) q)) hf (Nat.le_refl _) new
    refine ⟨.ref s.heap.objs.size, _, J, rfl, ⟨_, y, rfl, I.hok.fresh (Nat.le_refl _), rfl, fun l hl => by rw [I.tuple_inj hl hq]; exact hy⟩, ⟨⟨x, ?_⟩, st'.1.at fun o q => (sb.2 it (Ne.symm hne)).trans q, hne⟩, fun b hb => ?_⟩
    · rw [show ((i + 1 : Nat) : Int) = (i : Int) + 1 by omega]
      exact he'
    · have hlt : b < s.heap.objs.size := by
        rcases List.mem_cons.mp hb with z | z
        · rw [z]; exact hel
        · rw [List.mem_singleton.mp z]; exact hil
      rw [upd_ne (Nat.ne_of_lt hlt)]
      exact (hf b hb).1
  done := by
    intro X hP hw hK hc i pins s σ H E I hf st hg
    subst hP hw hK
    obtain ⟨⟨old, he⟩, hit, hne⟩ := st
    obtain ⟨ys, hq, hy⟩ := hg
    obtain ⟨its, rv, p, hz⟩ := I.tuple hq
    obtain ⟨f0, f1, f2, f3, f4, f5⟩ := hf it (by simp)
    have hl := rv.length
    have hn : i = its.toArray.size := by rw [List.size_toArray]; omega
    subst hn
    exact wpAny_pyNext_enum_endD (Draws.tuple (A := X.A.in1) (I.ok.hd hc) it a hia its.toArray) he ⟨hit, p⟩ fun h' eb => ⟨rfl, I.turned (t' := s.toks) (fun b o hb q => eb b o hb q) f0 f1 f3 f4 f5⟩
  self := fun A i s Q E st h => by
    obtain ⟨⟨_, he⟩, _⟩ := st
    exact wpAny_pyIter_enum he h
theorem meets_enum_tup (t : Addr) (items : Array Value) : Meets (Builtin.«enumerate.__new__» ⟨[.type "enumerate", .ref t], []⟩) (fun _ R s => s.heap.IsTuple t items ∧
    R (.ok (.ret (.ref (s.heap.objs.size + 1)))) { s with heap := (s.heap.push { cls := .type "tuple_iterator", data := .fields #[.ref t, .int 0 0] }).push { cls := .type "enumerate", data := .fields #[.none, .bool false, .ref s.heap.objs.size, rawInt 0, .none, .none] } }) :=
  .of_wp fun prog w A R s h => by
    obtain ⟨hp, g, d, tk, os⟩ := s
    obtain ⟨ht, h⟩ := h
    have hsub := sub_enumerate
    have e1 : (hp.push { cls := .type "tuple_iterator", data := .fields #[.ref t, .int 0 0] }).objs.size = hp.objs.size + 1 := Heap.size_push ..
    have q1 : ∀ {A' : Around} {E : Value → Shared → Prop} {Q : Value → Shared → Prop}, Q (.ref hp.objs.size) ⟨hp.push { cls := .type "tuple_iterator", data := .fields #[.ref t, .int 0 0] }, g, d, tk, os⟩ →
        wpAny (model prog w) A' (pyIter (.ref t)) Q E ⟨hp, g, d, tk, os⟩ := fun q => wpAny_pyIter_tuple ht q
    wp_walk using q1
    refine wpAny_stack_any fun st => wpAny_pure ?_
    split
    · rename_i c _ _ _ _ _
      cases (c == Value.type "enumerate") <;> (wp_walk using q1; rw [e1]; exact ⟨_, rfl, h⟩)
    · wp_walk using q1
      rw [e1]; exact ⟨_, rfl, h⟩
theorem call_enum_tup {prog : Program} {w : World} {A : Around} {E : Value → Shared → Prop} {s : Shared} {t : Addr} {items : Array Value} {Q : Value → Shared → Prop} (ht : s.heap.IsTuple t items)
    (h : ∀ h', IsEnum h' (s.heap.objs.size + 1) s.heap.objs.size 0 .none → h'.IsTupleIter s.heap.objs.size t 0 → (∀ b o, s.heap.get? b = some o → h'.get? b = some o) → Q (.ref (s.heap.objs.size + 1)) { s with heap := h' }) :
    wpAny (model prog w) A (call (.type "enumerate") [.ref t]) Q E s := by
  refine callType_new F.called_enumerate (by decide) (F.typeCall_enumerate_1 _) (F.newCall_enumerate_1 _) (fun obj => F.args_object_init_2 obj _) F.entry_enumerate_new (meets_enum_tup t items) ⟨ht, ?_⟩
  have he : IsEnum ((s.heap.push { cls := .type "tuple_iterator", data := .fields #[.ref t, .int 0 0] }).push { cls := .type "enumerate", data := .fields #[.none, .bool false, .ref s.heap.objs.size, rawInt 0, .none, .none] }) (s.heap.objs.size + 1) s.heap.objs.size 0 .none := by
    heap_get
  exact ⟨⟨_, he, rfl⟩, h _ he ⟨_, Heap.get?_push_of_some _ (Heap.get?_push_size _ rfl), rfl, rfl⟩ fun b o x => Heap.get?_push_of_some _ (Heap.get?_push_of_some _ x)⟩
def iEnumT (K : PySem.W.Frag) (ta : TA) : TI := fun σ H R => ta σ H fun vs H1 => ∃ a ys, vs = [.ref a] ∧ SqT K H1 a ys ∧ R (IteT K a) H1
theorem pi_enumT {X : Cx} {e : Expr} {ta : TA} {p pos tpos : Pos} {elts : List Expr} {kk : Nat} (hg : Gl X "enumerate") (hm : X.mg "enumerate" = none) (ha : PA X [e] ta) (hs : starEach [e] X.env = [(false, eval e X.env)] := by rfl) :
    PI X (.Tuple elts kk tpos) (.Call (.Name "enumerate" p) [e] [] pos) (iEnumT X.K ta) := by
  refine ⟨fun pins s σ H R I h => Call_ (ld_blt I hg hm boot_enumerate (PyProof.Rows.callWith_type1 (thn (ha.run pos pins s σ H _ I h) fun us s1 z => ?_) hs rfl))⟩
  obtain ⟨vs, H1, I1, r1, a, ys, ex, hq, q⟩ := z
  subst ex
  match us, r1 with
  | [u], .cons r .nil =>
    obtain rfl : u = Value.ref a := r
    obtain ⟨its, rv, pt, hz⟩ := I1.tuple hq
    have la : a < s1.heap.objs.size := by
      obtain ⟨o, ho, _⟩ := id pt
      exact Heap.lt_size ho
    refine call_enum_tup (items := its.toArray) pt fun h' he hit hk => wpAny_pyIter_enum he ?_
    have I2 : Inv X pins σ H1 { s1 with heap := h' } := I1.kept (t' := s1.toks) hk
    refine ⟨s1.heap.objs.size + 1, [s1.heap.objs.size + 1, s1.heap.objs.size], _, _, H1, rfl, I2, turn_enumT a (s1.heap.objs.size + 1) s1.heap.objs.size (Nat.ne_of_lt la) (Nat.ne_of_lt (Nat.lt_succ_of_lt la)), ⟨⟨.none, he⟩, hit, Nat.succ_ne_self _⟩, fun b hb => ?_, q⟩
    have hle : s1.heap.objs.size ≤ b := by
      rcases List.mem_cons.mp hb with z | z
      · rw [z]; exact Nat.le_succ _
      · rw [List.mem_singleton.mp z]; exact Nat.le_refl _
    exact I1.fpOk hle (I1.hok.fresh hle)
theorem walk_enumT {K : PySem.W.Frag} {a : Addr} {ys : List V} : Walk (IteT K a) ys.length (fun H => SqT K H a ys) (YPair (fun i => some (.int (i : Nat))) (fun i => ys[i]?)) := by
  refine ⟨fun i H hi h => ⟨ys, ys[i], h, List.getElem?_eq_getElem hi⟩, fun H h => ⟨ys, h, rfl⟩, fun i H x H' hi h y => ?_⟩
  obtain ⟨T, z, e1, e2, e3, e4⟩ := y
  exact ⟨T, _, z, e1, e2, e3, rfl, e4 ys h⟩
theorem walk_zipT {K : PySem.W.Frag} {a b : Addr} {xs ys : List V} {n : Nat} (hn : n = min xs.length ys.length) : Walk (ItzT K a b) n (fun H => SqT K H a xs ∧ SqT K H b ys) (YPair (fun i => xs[i]?) (fun i => ys[i]?)) := by
  refine ⟨fun i H hi h => ⟨xs, ys, xs[i]'(by omega), ys[i]'(by omega), h.1, h.2, List.getElem?_eq_getElem _, List.getElem?_eq_getElem _⟩, fun H h => ⟨xs, ys, h.1, h.2, by omega⟩, fun i H x H' hi h y => ?_⟩
  obtain ⟨T, z, z2, e1, e2, e3, e4, e5⟩ := y
  exact ⟨T, z, z2, e1, e2, e3, e4 xs h.1, e5 ys h.2⟩
end L2

namespace L2
open PySem PySem.Spec PyProof.Rows
/-! ### a def that a def calls, by its name -/
def Has (P : Program) (w : World) (K : PySem.W.Frag) (mg : Str → Option Value) (base : Heap) (k : Nat) (nm : Str) (ps : List Str) (sp : Sp) : Prop :=
  ∃ (f : Addr) (fd : FuncData), FnOk P w K mg base CX0 k f fd ps sp ∧ mg nm = some (.ref f) ∧ PySem.W.keepIn K (.ref f) = true ∧ Binds K fd ps []
theorem pe_callHas {X : Cx} {k : Nat} {x : Str} {ps : List Str} {sp : Sp} {p pos : Pos} {e : Expr} {es : List Expr} {t : TA} (G : Has X.prog X.w X.K X.mg X.base k x ps sp) (hr : Room k X.A) (hg : Gl X x) (ha : PA X (e :: es) t)
    (hdb : (x == ("__debug__" : Str)) = false := by decide) (he : starEach (e :: es) X.env = (false, eval e X.env) :: starEach es X.env := by rfl) (hpl : (backTo pos (starEach es X.env)).any (·.1) = false := by rfl) :
    PE X (.Call (.Name x p) (e :: es) [] pos) (tCall sp [] E0 t) := by
  obtain ⟨f, fd, F, m, kp, b⟩ := G
  exact pe_call F hr hg m kp b .nil pass0 ha hdb he hpl
/-- where a def of the text stands behind the top -/
def DefAt (K : PySem.W.Frag) (mg : Str → Option Value) (nm : Str) (st : Stmt) (ps : List Str) : Prop :=
  ∃ (f : Addr) (fd : FuncData), Fun K nm nm st f fd ∧ mg nm = some (.ref f) ∧ Binds K fd ps []
theorem DefAt.has {P : Program} {w : World} {K : PySem.W.Frag} {mg : Str → Option Value} {base : Heap} {k : Nat} {nm : Str} {st : Stmt} {N ps : List Str} {sp : Sp} (F : DefAt K mg nm st ps) (S : FnScope N ps (defScope st)) (len : ∀ vs H Q E, sp vs H Q E → vs.length = ps.length)
    (hbody : ∀ (f : Addr) (cdv : Value) (A : Around) (outer : List Env) (s : Shared) (H : Hp) (vs : List V) (Q : VK) (E : XK), Room k (A.deeper (envOfC nm (defScope st) s.heap.objs.size f cdv)) → sp vs H Q E →
      ∃ t, PSs (cxOf CX0 P w K mg base N nm (defScope st) f cdv A outer s H E).nox (defBody st) t ∧ t { nx := fun _ H' => Q .non H', rt := Q } (start N vs) H) : Has P w K mg base (k + 1) nm ps sp := by
  obtain ⟨f, fd, F, m, b⟩ := F
  exact ⟨f, fd, F.ok S len (hbody f), m, F.kp, b⟩
end L2

/-! ## vectors: what the defs compute -/
namespace Lat
abbrev Vec := List Int
def addV (v : Vec) (t : Int) (w : Vec) : Vec := List.zipWith (fun n m => n + t * m) v w
def dotV (f v : Vec) : Int := (List.zipWith (fun n t => n * t) v f).sum
def piv : Vec → Nat
  | [] => 0
  | x :: v => if x ≠ 0 then 0 else piv v + 1
def itm (v : Vec) (i : Nat) : Int := v.getD i 0
def redV : List Vec → Vec → Vec
  | [], v => v
  | r :: rs, v => redV rs (addV v (-((itm v (piv r)).fdiv (itm r (piv r)))) r)
def clr : Nat → Vec → Vec → Nat → Vec × Vec
  | 0, r, v, _ => (r, v)
  | n + 1, r, v, i => if itm v i = 0 then (r, v) else clr n v (addV r (-((itm r i).fdiv (itm v i))) v) i
def clear (r v : Vec) (i : Nat) : Vec × Vec := clr (itm v i).natAbs r v i
def stepGo : List Vec → Vec → List Vec × Vec
  | [], l => ([], l)
  | r :: rs, l => if piv l < piv r then (l :: (stepGo rs r).1, (stepGo rs r).2) else ((clear r l (piv r)).1 :: (stepGo rs (clear r l (piv r)).2).1, (stepGo rs (clear r l (piv r)).2).2)
def stepped (steps : List Vec) (v : Vec) : List Vec := if piv (stepGo steps v).2 = (stepGo steps v).2.length then (stepGo steps v).1 else (stepGo steps v).1 ++ [(stepGo steps v).2]
def posV (r : Vec) : Vec := if itm r (piv r) > 0 then r else addV r (-2) r
def tidy : List Vec → List Vec
  | [] => []
  | r :: rs => redV (tidy rs) (posV r) :: tidy rs
def grow (basis : List Vec) (v : Vec) : List Vec := if piv (redV basis v) = (redV basis v).length then basis else tidy (stepped basis (redV basis v))

theorem piv_le : ∀ v : Vec, piv v ≤ v.length
  | [] => Nat.le_refl _
  | x :: v => by
    have h := piv_le v
    unfold piv
    split
    · exact Nat.zero_le _
    · exact Nat.succ_le_succ h
theorem addV_len {v : Vec} {t : Int} {w : Vec} (h : v.length = w.length) : (addV v t w).length = v.length := by
  unfold addV
  rw [List.length_zipWith, h, Nat.min_self]
theorem itm_of {v : Vec} {i : Nat} (h : i < v.length) : v[i]? = some (itm v i) := by
  unfold itm
  rw [List.getD_eq_getElem?_getD, List.getElem?_eq_getElem h]; rfl
theorem itm_add {v w : Vec} {t : Int} (h : v.length = w.length) (i : Nat) : itm (addV v t w) i = itm v i + t * itm w i := by
  unfold itm addV
  by_cases hi : i < v.length
  · have hw : i < w.length := by omega
    rw [List.getD_eq_getElem?_getD, List.getD_eq_getElem?_getD, List.getD_eq_getElem?_getD, List.getElem?_zipWith, List.getElem?_eq_getElem hi, List.getElem?_eq_getElem hw]
    rfl
  · have hw : w.length ≤ i := by omega
    rw [List.getD_eq_getElem?_getD, List.getD_eq_getElem?_getD, List.getD_eq_getElem?_getD, List.getElem?_zipWith, List.getElem?_eq_none (by omega : v.length ≤ i), List.getElem?_eq_none hw]
    simp
theorem piv_spec : ∀ v : Vec, (∀ j, j < piv v → itm v j = 0) ∧ (piv v < v.length → itm v (piv v) ≠ 0)
  | [] => ⟨fun j h => absurd h (Nat.not_lt_zero _), fun h => absurd h (Nat.not_lt_zero _)⟩
  | x :: v => by
    obtain ⟨h1, h2⟩ := piv_spec v
    unfold piv
    split
    · next hx => exact ⟨fun j h => absurd h (Nat.not_lt_zero _), fun _ => hx⟩
    · next hx =>
      have hx0 : x = 0 := Decidable.not_not.mp hx
      refine ⟨fun j h => ?_, fun h => ?_⟩
      · cases j with
        | zero => exact hx0
        | succ j => exact h1 j (Nat.lt_of_succ_lt_succ h)
      · exact h2 (Nat.lt_of_succ_lt_succ h)
theorem clr_len : ∀ (n : Nat) (r v : Vec) (i : Nat), r.length = v.length → (clr n r v i).1.length = r.length ∧ (clr n r v i).2.length = r.length
  | 0, r, v, i, h => ⟨rfl, h.symm⟩
  | n + 1, r, v, i, h => by
    unfold clr
    split
    · exact ⟨rfl, h.symm⟩
    · have e := addV_len (t := -((itm r i).fdiv (itm v i))) h
      obtain ⟨a, b⟩ := clr_len n v (addV r (-((itm r i).fdiv (itm v i))) v) i (by rw [e, h])
      exact ⟨a.trans h.symm, b.trans h.symm⟩
end Lat

namespace Lat
/-! ## sets of vectors closed under what the defs do -/
structure Cl (S : (Nat → Int) → Prop) : Prop where
  zero : S fun _ => 0
  add : ∀ f h t, S f → S h → S fun i => f i + t * h i
theorem Cl.of {S : (Nat → Int) → Prop} (C : Cl S) {f h g : Nat → Int} {t : Int} (a : S f) (b : S h) (e : ∀ i, g i = f i + t * h i) : S g := by
  rw [show g = _ from funext e]; exact C.add f h t a b
theorem Cl.scale {S : (Nat → Int) → Prop} (C : Cl S) {h : Nat → Int} (t : Int) (b : S h) : S fun i => t * h i :=
  C.of (t := t) C.zero b fun i => by rw [Int.zero_add]
theorem Cl.addV {S : (Nat → Int) → Prop} (C : Cl S) {v w : Vec} (t : Int) (l : v.length = w.length) (b : S (itm w)) : S (itm (addV v t w)) ↔ S (itm v) :=
  ⟨fun h => C.of (t := -t) h b fun i => by rw [itm_add l]; grind, fun h => C.of (t := t) h b fun i => itm_add l i⟩
theorem redV_len : ∀ (B : List Vec) (v : Vec), (∀ r ∈ B, r.length = v.length) → (redV B v).length = v.length
  | [], v, _ => rfl
  | r :: rs, v, h => by
    have e := addV_len (t := -((itm v (piv r)).fdiv (itm r (piv r)))) (h r List.mem_cons_self).symm
    have := redV_len rs (addV v (-((itm v (piv r)).fdiv (itm r (piv r)))) r) fun s hs => (h s (List.mem_cons_of_mem _ hs)).trans e.symm
    exact this.trans e
theorem redV_cl {S : (Nat → Int) → Prop} (C : Cl S) : ∀ (B : List Vec) (v : Vec), (∀ r ∈ B, r.length = v.length) → (∀ r ∈ B, S (itm r)) → (S (itm (redV B v)) ↔ S (itm v))
  | [], v, _, _ => Iff.rfl
  | r :: rs, v, h, hS => by
    have l := (h r List.mem_cons_self).symm
    have e := addV_len (t := -((itm v (piv r)).fdiv (itm r (piv r)))) l
    have := redV_cl C rs (addV v (-((itm v (piv r)).fdiv (itm r (piv r)))) r) (fun s hs => (h s (List.mem_cons_of_mem _ hs)).trans e.symm) fun s hs => hS s (List.mem_cons_of_mem _ hs)
    exact this.trans (C.addV _ l (hS r List.mem_cons_self))
theorem clr_cl {S : (Nat → Int) → Prop} (C : Cl S) : ∀ (n : Nat) (r v : Vec) (i : Nat), r.length = v.length → ((S (itm (clr n r v i).1) ∧ S (itm (clr n r v i).2)) ↔ (S (itm r) ∧ S (itm v)))
  | 0, r, v, i, _ => Iff.rfl
  | n + 1, r, v, i, l => by
    unfold clr
    split
    · exact Iff.rfl
    · have e := addV_len (t := -((itm r i).fdiv (itm v i))) l
      refine (clr_cl C n v (addV r (-((itm r i).fdiv (itm v i))) v) i (by rw [e, l])).trans ⟨fun h => ⟨(C.addV _ l h.1).mp h.2, h.1⟩, fun h => ⟨h.2, (C.addV _ l h.2).mpr h.1⟩⟩
theorem clear_len {r v : Vec} {i : Nat} (l : r.length = v.length) : (clear r v i).1.length = r.length ∧ (clear r v i).2.length = r.length := clr_len _ r v i l
theorem stepGo_len : ∀ (B : List Vec) (v : Vec) (n : Nat), v.length = n → (∀ r ∈ B, r.length = n) → (∀ r ∈ (stepGo B v).1, r.length = n) ∧ (stepGo B v).2.length = n
  | [], v, n, l, _ => ⟨fun r h => (nomatch h), l⟩
  | r :: rs, v, n, l, h => by
    have lr := h r List.mem_cons_self
    have h' : ∀ s ∈ rs, s.length = n := fun s hs => h s (List.mem_cons_of_mem _ hs)
    unfold stepGo
    split
    · obtain ⟨a, b⟩ := stepGo_len rs r n lr h'
      exact ⟨fun s hs => (List.mem_cons.mp hs).elim (fun e => e ▸ l) (a s), b⟩
    · obtain ⟨c1, c2⟩ := clear_len (i := piv r) (lr.trans l.symm)
      obtain ⟨a, b⟩ := stepGo_len rs (clear r v (piv r)).2 n (c2.trans lr) h'
      exact ⟨fun s hs => (List.mem_cons.mp hs).elim (fun e => e ▸ c1.trans lr) (a s), b⟩
theorem all_cons {S : Vec → Prop} {r : Vec} {rs : List Vec} : (∀ s ∈ r :: rs, S s) ↔ S r ∧ ∀ s ∈ rs, S s := List.forall_mem_cons
theorem stepGo_cl {S : (Nat → Int) → Prop} (C : Cl S) : ∀ (B : List Vec) (v : Vec), (∀ r ∈ B, r.length = v.length) → (((∀ r ∈ (stepGo B v).1, S (itm r)) ∧ S (itm (stepGo B v).2)) ↔ ((∀ r ∈ B, S (itm r)) ∧ S (itm v)))
  | [], v, _ => Iff.rfl
  | r :: rs, v, h => by
    have lr := h r List.mem_cons_self
    have h' : ∀ s ∈ rs, s.length = v.length := fun s hs => h s (List.mem_cons_of_mem _ hs)
    unfold stepGo
    split
    · have ih := stepGo_cl C rs r (fun s hs => (h' s hs).trans lr.symm)
      simp only [all_cons]
      grind
    · obtain ⟨c1, c2⟩ := clear_len (i := piv r) lr
      have ih := stepGo_cl C rs (clear r v (piv r)).2 (fun s hs => by rw [c2, lr]; exact h' s hs)
      have cc : (S (itm (clear r v (piv r)).1) ∧ S (itm (clear r v (piv r)).2)) ↔ _ := clr_cl C _ r v (piv r) lr
      simp only [all_cons]
      grind
theorem itm_zero {v : Vec} (h : piv v = v.length) (i : Nat) : itm v i = 0 := by
  by_cases hi : i < v.length
  · exact (piv_spec v).1 i (h ▸ hi)
  · unfold itm
    rw [List.getD_eq_getElem?_getD, List.getElem?_eq_none (by omega)]; rfl
theorem Cl.itm_zero {S : (Nat → Int) → Prop} (C : Cl S) {v : Vec} (h : piv v = v.length) : S (itm v) := by
  rw [show itm v = _ from funext (Lat.itm_zero h)]; exact C.zero
theorem stepped_len {B : List Vec} {v : Vec} {n : Nat} (l : v.length = n) (h : ∀ r ∈ B, r.length = n) : ∀ r ∈ stepped B v, r.length = n := by
  obtain ⟨a, b⟩ := stepGo_len B v n l h
  unfold stepped
  split
  · exact a
  · intro r hr
    rcases List.mem_append.mp hr with hr | hr
    · exact a r hr
    · rw [List.mem_singleton.mp hr]; exact b
theorem stepped_cl {S : (Nat → Int) → Prop} (C : Cl S) {B : List Vec} {v : Vec} (h : ∀ r ∈ B, r.length = v.length) : (∀ r ∈ stepped B v, S (itm r)) ↔ ((∀ r ∈ B, S (itm r)) ∧ S (itm v)) := by
  refine Iff.trans ?_ (stepGo_cl C B v h)
  unfold stepped
  split
  · next e => exact ⟨fun q => ⟨q, C.itm_zero e⟩, fun q => q.1⟩
  · rw [List.forall_mem_append]
    exact ⟨fun q => ⟨q.1, q.2 _ (List.mem_singleton.mpr rfl)⟩, fun q => ⟨q.1, fun r hr => by rw [List.mem_singleton.mp hr]; exact q.2⟩⟩
theorem posV_length (r : Vec) : (posV r).length = r.length := by
  unfold posV
  split
  · rfl
  · exact addV_len rfl
theorem posV_itm (r : Vec) : (∀ i, itm (posV r) i = itm r i) ∨ ∀ i, itm (posV r) i = - itm r i := by
  unfold posV
  split
  · exact .inl fun i => rfl
  · exact .inr fun i => by rw [itm_add rfl]; omega
theorem posV_cl {S : (Nat → Int) → Prop} (C : Cl S) (r : Vec) : S (itm (posV r)) ↔ S (itm r) := by
  rcases posV_itm r with h | h
  · rw [show itm (posV r) = itm r from funext h]
  · exact ⟨fun q => C.of (t := -1) C.zero q fun i => by rw [h]; omega, fun q => C.of (t := -1) C.zero q fun i => by rw [h]; omega⟩
theorem tidy_len : ∀ (B : List Vec) (n : Nat), (∀ r ∈ B, r.length = n) → ∀ r ∈ tidy B, r.length = n
  | [], n, _ => fun r h => nomatch h
  | r :: rs, n, h => by
    have ih := tidy_len rs n fun s hs => h s (List.mem_cons_of_mem _ hs)
    have lr : (posV r).length = n := (posV_length r).trans (h r List.mem_cons_self)
    unfold tidy
    exact fun s hs => (List.mem_cons.mp hs).elim (fun e => e ▸ (redV_len _ _ fun s hs => (ih s hs).trans lr.symm).trans lr) (ih s)
theorem tidy_cl {S : (Nat → Int) → Prop} (C : Cl S) : ∀ (B : List Vec) (n : Nat), (∀ r ∈ B, r.length = n) → ((∀ r ∈ tidy B, S (itm r)) ↔ ∀ r ∈ B, S (itm r))
  | [], n, _ => Iff.rfl
  | r :: rs, n, h => by
    have h' : ∀ s ∈ rs, s.length = n := fun s hs => h s (List.mem_cons_of_mem _ hs)
    have ih := tidy_cl C rs n h'
    have lr : (posV r).length = n := (posV_length r).trans (h r List.mem_cons_self)
    have lt := tidy_len rs n h'
    unfold tidy
    simp only [all_cons]
    have rc : (∀ s ∈ tidy rs, S (itm s)) → (S (itm (redV (tidy rs) (posV r))) ↔ S (itm (posV r))) := redV_cl C _ _ fun s hs => (lt s hs).trans lr.symm
    have pc := posV_cl C r
    grind
theorem grow_len {B : List Vec} {v : Vec} {n : Nat} (l : v.length = n) (h : ∀ r ∈ B, r.length = n) : ∀ r ∈ grow B v, r.length = n := by
  unfold grow
  split
  · exact h
  · exact tidy_len _ n (stepped_len ((redV_len B v fun r hr => (h r hr).trans l.symm).trans l) h)
theorem grow_cl {S : (Nat → Int) → Prop} (C : Cl S) {B : List Vec} {v : Vec} (h : ∀ r ∈ B, r.length = v.length) : (∀ r ∈ grow B v, S (itm r)) ↔ ((∀ r ∈ B, S (itm r)) ∧ S (itm v)) := by
  have lr := redV_len B v h
  have rc := redV_cl C B v h
  unfold grow
  split
  · next e => exact ⟨fun q => ⟨q, (rc q).mp (C.itm_zero e)⟩, fun q => q.1⟩
  · have hl : ∀ r ∈ B, r.length = (redV B v).length := fun r hr => (h r hr).trans lr.symm
    rw [tidy_cl C _ v.length (stepped_len lr h), stepped_cl C hl]
    exact ⟨fun q => ⟨q.1, (rc q.1).mp q.2⟩, fun q => ⟨q.1, (rc q.1).mpr q.2⟩⟩
end Lat

namespace Lat
/-! ## whole combinations of echelon rows -/
def In : List Vec → (Nat → Int) → Prop
  | [], f => ∀ i, f i = 0
  | r :: rs, f => ∃ a : Int, In rs fun i => f i - a * itm r i
theorem In.cl : ∀ B : List Vec, Cl (In B)
  | [] => ⟨fun i => rfl, fun f h t a b i => by
      have x : f i = 0 := a i
      have y : h i = 0 := b i
      show f i + t * h i = 0
      rw [x, y]; omega⟩
  | r :: rs => ⟨⟨0, (In.cl rs).of (t := 0) (In.cl rs).zero (In.cl rs).zero fun i => by show (0 : Int) - 0 * itm r i = 0 + 0 * 0; omega⟩, fun f h t a b => by
      obtain ⟨x, hx⟩ := a
      obtain ⟨y, hy⟩ := b
      exact ⟨x + t * y, (In.cl rs).of (t := t) hx hy fun i => by grind⟩⟩
theorem In.mem : ∀ (B : List Vec) (r : Vec), r ∈ B → In B (itm r)
  | s :: rs, r, h => by
    rcases List.mem_cons.mp h with e | h
    · subst e
      exact ⟨1, (In.cl rs).of (t := 0) (In.cl rs).zero (In.cl rs).zero fun i => by omega⟩
    · exact ⟨0, (In.cl rs).of (t := 0) (In.mem rs r h) (In.cl rs).zero fun i => by omega⟩
def Ech (n : Nat) : Nat → List Vec → Prop
  | _, [] => True
  | c, r :: rs => r.length = n ∧ c ≤ piv r ∧ piv r < n ∧ Ech n (piv r + 1) rs
theorem Ech.mono {n c d : Nat} (h : d ≤ c) : ∀ {B : List Vec}, Ech n c B → Ech n d B
  | [], _ => trivial
  | _ :: _, e => ⟨e.1, Nat.le_trans h e.2.1, e.2.2⟩
theorem Ech.row {n : Nat} : ∀ {c : Nat} {B : List Vec}, Ech n c B → ∀ r ∈ B, r.length = n ∧ c ≤ piv r ∧ piv r < n
  | _, [], _ => fun r h => nomatch h
  | c, s :: rs, e => fun r h => by
    rcases List.mem_cons.mp h with z | h
    · subst z; exact ⟨e.1, e.2.1, e.2.2.1⟩
    · obtain ⟨a, b, d⟩ := Ech.row e.2.2.2 r h
      exact ⟨a, by have := e.2.1; omega, d⟩
theorem Ech.ne {n c : Nat} {B : List Vec} (e : Ech n c B) {r : Vec} (h : r ∈ B) : itm r (piv r) ≠ 0 := by
  obtain ⟨a, _, b⟩ := e.row r h
  exact (piv_spec r).2 (a ▸ b)
theorem Ech.zero {n c : Nat} {B : List Vec} (e : Ech n c B) {r : Vec} (h : r ∈ B) {i : Nat} (hi : i < c) : itm r i = 0 :=
  (piv_spec r).1 i (Nat.lt_of_lt_of_le hi (e.row r h).2.1)
theorem Ech.inj {n : Nat} : ∀ {c : Nat} {B : List Vec}, Ech n c B → ∀ r ∈ B, ∀ s ∈ B, piv r = piv s → r = s
  | _, [], _ => fun r h => nomatch h
  | c, t :: rs, e => fun r hr s hs h => by
    rcases List.mem_cons.mp hr with z | hr
    · rcases List.mem_cons.mp hs with y | hs
      · exact z.trans y.symm
      · have := (e.2.2.2.row s hs).2.1
        rw [z] at h; omega
    · rcases List.mem_cons.mp hs with y | hs
      · have := (e.2.2.2.row r hr).2.1
        rw [y] at h; omega
      · exact Ech.inj e.2.2.2 r hr s hs h
theorem Ech.count {n : Nat} : ∀ {c : Nat} {B : List Vec}, Ech n c B → c ≤ n → c + B.length ≤ n
  | _, [], _, h => h
  | c, r :: rs, e, h => by
    have := Ech.count e.2.2.2 e.2.2.1
    have := e.2.1
    rw [List.length_cons]; omega
theorem In.low {n : Nat} : ∀ {c : Nat} {B : List Vec} {f : Nat → Int}, Ech n c B → In B f → ∀ i, i < c → f i = 0
  | _, [], _, _, h => fun i _ => h i
  | c, r :: rs, f, e, ⟨a, h⟩ => fun i hi => by
    have h1 := In.low e.2.2.2 h i (by have := e.2.1; omega)
    have h2 : itm r i = 0 := (piv_spec r).1 i (Nat.lt_of_lt_of_le hi e.2.1)
    have h3 : f i - a * itm r i = 0 := h1
    rw [h2] at h3; omega
theorem lead {n : Nat} : ∀ {c : Nat} {B : List Vec} {f : Nat → Int}, Ech n c B → In B f → (∀ i, f i = 0) ∨ ∃ s ∈ B, ∃ a : Int, a ≠ 0 ∧ (∀ i, i < piv s → f i = 0) ∧ f (piv s) = a * itm s (piv s)
  | _, [], _, _, h => .inl h
  | c, r :: rs, f, e, ⟨a, h⟩ => by
    by_cases ha : a = 0
    · subst ha
      have h' : In rs f := (In.cl rs).of (t := 0) h (In.cl rs).zero fun i => by omega
      rcases lead e.2.2.2 h' with z | ⟨s, hs, b, hb⟩
      · exact .inl z
      · exact .inr ⟨s, List.mem_cons_of_mem _ hs, b, hb⟩
    · refine .inr ⟨r, List.mem_cons_self, a, ha, fun i hi => ?_, ?_⟩
      · have h3 : f i - a * itm r i = 0 := In.low e.2.2.2 h i (by omega)
        rw [(piv_spec r).1 i hi] at h3; omega
      · have h3 : f (piv r) - a * itm r (piv r) = 0 := In.low e.2.2.2 h (piv r) (by omega)
        omega
/-! ## multiples of them -/
def RIn (G : List Vec) (f : Nat → Int) : Prop := ∃ D : Int, D ≠ 0 ∧ In G fun i => D * f i
theorem RIn.cl (G : List Vec) : Cl (RIn G) :=
  ⟨⟨1, by decide, (In.cl G).of (t := 0) (In.cl G).zero (In.cl G).zero fun i => by show (1 : Int) * 0 = 0 + 0 * 0; omega⟩, fun f h t ⟨D, hD, a⟩ ⟨E, hE, b⟩ =>
    ⟨D * E, Int.mul_ne_zero hD hE, (In.cl G).of (t := t * D) ((In.cl G).scale E a) b fun i => by grind⟩⟩
theorem RIn.of {G : List Vec} {f : Nat → Int} (h : In G f) : RIn G f := ⟨1, by decide, (In.cl G).of (t := 0) h (In.cl G).zero fun i => by omega⟩
/-- the pivots of two echelon families of one lattice -/
theorem piv_bound {n : Nat} {B G : List Vec} (eB : Ech n 0 B) (eG : Ech n 0 G) (hG : ∀ g ∈ G, In B (itm g)) (hB : ∀ s ∈ B, RIn G (itm s)) : ∀ s ∈ B, ∃ g ∈ G, piv g = piv s ∧ (itm s (piv s)).natAbs ≤ (itm g (piv g)).natAbs := by
  intro s hs
  obtain ⟨D, hD, h⟩ := hB s hs
  have sn := eB.ne hs
  rcases lead eG h with z | ⟨g, hg, a, ha, z, y⟩
  · exact absurd (z (piv s)) (Int.mul_ne_zero hD sn)
  · have gn := eG.ne hg
    have e : piv g = piv s := by
      rcases Nat.lt_trichotomy (piv g) (piv s) with l | l | l
      · have : itm s (piv g) = 0 := (piv_spec s).1 _ l
        rw [this, Int.mul_zero] at y
        exact absurd y.symm (Int.mul_ne_zero ha gn)
      · exact l
      · exact absurd (z _ l) (Int.mul_ne_zero hD sn)
    refine ⟨g, hg, e, ?_⟩
    rcases lead eB (hG g hg) with z' | ⟨s', hs', b, hb, z', y'⟩
    · exact absurd (z' _) gn
    · have sn' := eB.ne hs'
      have e' : piv s' = piv g := by
        rcases Nat.lt_trichotomy (piv s') (piv g) with l | l | l
        · rw [(piv_spec g).1 _ l] at y'
          exact absurd y'.symm (Int.mul_ne_zero hb sn')
        · exact l
        · exact absurd (z' _ l) gn
      have es := eB.inj s' hs' s hs (e'.trans e)
      subst es
      rw [e, y', Int.natAbs_mul]
      exact Nat.le_mul_of_pos_left _ (Int.natAbs_pos.mpr hb)
/-- what is small at the pivots is small -/
theorem all_bound {n b : Nat} (b1 : 1 ≤ b) : ∀ {c : Nat} {G : List Vec} {f : Nat → Int} {A : Nat}, Ech n c G → (∀ g ∈ G, ∀ i, (itm g i).natAbs ≤ b) → RIn G f → (∀ g ∈ G, (f (piv g)).natAbs ≤ A) → ∀ i, (f i).natAbs ≤ A * (4 * b) ^ G.length
  | _, [], f, A, _, _, ⟨D, hD, h⟩, _ => fun i => by
    have h3 : D * f i = 0 := h i
    rcases Int.mul_eq_zero.mp h3 with z | z
    · exact absurd z hD
    · rw [z]; exact Nat.zero_le _
  | c, g :: gs, f, A, e, hb, ⟨D, hD, a, h⟩, hA => fun i => by
    have gn : itm g (piv g) ≠ 0 := e.ne List.mem_cons_self
    have h0 : D * f (piv g) - a * itm g (piv g) = 0 := In.low e.2.2.2 h (piv g) (by omega)
    have hp := hA g List.mem_cons_self
    have hr : RIn gs fun i => itm g (piv g) * f i - f (piv g) * itm g i := ⟨D, hD, (In.cl gs).of (t := itm g (piv g)) (In.cl gs).zero h fun i => by grind⟩
    have ih := all_bound (A := 2 * b * A) b1 e.2.2.2 (fun s hs => hb s (List.mem_cons_of_mem _ hs)) hr (fun s hs => ?_) i
    · have hg := hb g List.mem_cons_self i
      have e1 : itm g (piv g) * f i = (itm g (piv g) * f i - f (piv g) * itm g i) + f (piv g) * itm g i := by omega
      have e2 : (f i).natAbs ≤ (itm g (piv g) * f i).natAbs := by
        rw [Int.natAbs_mul]; exact Nat.le_mul_of_pos_left _ (Int.natAbs_pos.mpr gn)
      have e3 := Int.natAbs_add_le (itm g (piv g) * f i - f (piv g) * itm g i) (f (piv g) * itm g i)
      rw [← e1] at e3
      have e4 : (f (piv g) * itm g i).natAbs ≤ A * b := by rw [Int.natAbs_mul]; exact Nat.mul_le_mul hp hg
      have e5 : 1 ≤ (4 * b) ^ gs.length := Nat.one_le_pow _ _ (by omega)
      have e6 : A * b ≤ A * b * (4 * b) ^ gs.length := Nat.le_mul_of_pos_right _ e5
      rw [List.length_cons, Nat.pow_succ]
      have e7 : 2 * b * A * (4 * b) ^ gs.length = 2 * (A * b * (4 * b) ^ gs.length) := by grind
      have e8 : A * ((4 * b) ^ gs.length * (4 * b)) = 4 * (A * b * (4 * b) ^ gs.length) := by grind
      rw [e7] at ih
      rw [e8]
      omega
    · have h1 := hA s (List.mem_cons_of_mem _ hs)
      have h2 := hb g List.mem_cons_self (piv g)
      have h3 := hb g List.mem_cons_self (piv s)
      have h4 : (itm g (piv g) * f (piv s)).natAbs ≤ b * A := by rw [Int.natAbs_mul]; exact Nat.mul_le_mul h2 h1
      have h5 : (f (piv g) * itm g (piv s)).natAbs ≤ A * b := by rw [Int.natAbs_mul]; exact Nat.mul_le_mul hp h3
      have h6 : 2 * b * A = b * A + A * b := by grind
      rw [h6]
      show (itm g (piv g) * f (piv s) - f (piv g) * itm g (piv s)).natAbs ≤ _
      omega
/-! ## ghosts: echelon vectors of the lattice, made with no division -/
def crossV (g v : Vec) : Vec := List.zipWith (fun x y => itm g (piv g) * x - itm v (piv g) * y) v g
theorem crossV_len {g v : Vec} (h : v.length = g.length) : (crossV g v).length = v.length := by
  unfold crossV; rw [List.length_zipWith, h, Nat.min_self]
theorem crossV_itm {g v : Vec} (h : v.length = g.length) (i : Nat) : itm (crossV g v) i = itm g (piv g) * itm v i - itm v (piv g) * itm g i := by
  have key : ∀ a b : Int, itm (List.zipWith (fun x y => a * x - b * y) v g) i = a * itm v i - b * itm g i := by
    intro a b
    unfold itm
    by_cases hi : i < v.length
    · have hw : i < g.length := by omega
      rw [List.getD_eq_getElem?_getD, List.getD_eq_getElem?_getD, List.getD_eq_getElem?_getD, List.getElem?_zipWith, List.getElem?_eq_getElem hi, List.getElem?_eq_getElem hw]
      rfl
    · have hw : g.length ≤ i := by omega
      rw [List.getD_eq_getElem?_getD, List.getD_eq_getElem?_getD, List.getD_eq_getElem?_getD, List.getElem?_zipWith, List.getElem?_eq_none (by omega : v.length ≤ i), List.getElem?_eq_none hw]
      simp
  exact key _ _
def insG : List Vec → Vec → List Vec
  | [], v => if piv v = v.length then [] else [v]
  | g :: gs, v => if piv v < piv g then v :: g :: gs else g :: insG gs (crossV g v)
theorem piv_ge {v : Vec} {c : Nat} (h : ∀ i, i < c → itm v i = 0) (hc : c ≤ v.length) : c ≤ piv v := by
  apply Nat.le_of_not_lt
  intro l
  exact (piv_spec v).2 (by omega) (h _ l)
theorem cross_zero {n : Nat} {g v : Vec} (hg : piv g < n) (lg : g.length = n) (lv : v.length = n) (h : ¬ piv v < piv g) : ∀ i, i < piv g + 1 → itm (crossV g v) i = 0 := by
  intro i hi
  rw [crossV_itm (lv.trans lg.symm)]
  by_cases e : i = piv g
  · subst e; grind
  · rw [(piv_spec v).1 i (by omega), (piv_spec g).1 i (by omega)]; omega
theorem insG_ech {n : Nat} : ∀ {c : Nat} {G : List Vec} {v : Vec}, Ech n c G → v.length = n → c ≤ n → (∀ i, i < c → itm v i = 0) → Ech n c (insG G v)
  | c, [], v, _, l, hc, z => by
    unfold insG
    split
    · trivial
    · exact ⟨l, piv_ge z (l ▸ hc), by have := piv_le v; omega, trivial⟩
  | c, g :: gs, v, e, l, hc, z => by
    unfold insG
    split
    · next h => exact ⟨l, piv_ge z (l ▸ hc), by have := e.2.2.1; omega, e.1, by omega, e.2.2⟩
    · next h =>
      have lc := crossV_len (l.trans e.1.symm)
      exact ⟨e.1, e.2.1, e.2.2.1, insG_ech e.2.2.2 (lc.trans l) (by have := e.2.2.1; omega) (cross_zero e.2.2.1 e.1 l h)⟩
theorem insG_cl {S : (Nat → Int) → Prop} (C : Cl S) {n : Nat} : ∀ {c : Nat} {G : List Vec} {v : Vec}, Ech n c G → v.length = n → (∀ g ∈ G, S (itm g)) → S (itm v) → ∀ g ∈ insG G v, S (itm g)
  | c, [], v, _, l, _, hv => by
    unfold insG
    split
    · exact fun g h => nomatch h
    · exact fun g h => by rw [List.mem_singleton.mp h]; exact hv
  | c, g :: gs, v, e, l, h, hv => by
    obtain ⟨h1, h2⟩ := List.forall_mem_cons.mp h
    unfold insG
    split
    · exact List.forall_mem_cons.mpr ⟨hv, h⟩
    · have lc := crossV_len (l.trans e.1.symm)
      refine List.forall_mem_cons.mpr ⟨h1, insG_cl C e.2.2.2 (lc.trans l) h2 ?_⟩
      exact C.of (t := - itm v (piv g)) (C.scale (itm g (piv g)) hv) h1 fun i => by rw [crossV_itm (l.trans e.1.symm)]; grind
theorem insG_old : ∀ {G : List Vec} {v : Vec}, ∀ g ∈ G, In (insG G v) (itm g)
  | g :: gs, v, s, hs => by
    unfold insG
    split
    · exact In.mem _ _ (List.mem_cons_of_mem _ hs)
    · rcases List.mem_cons.mp hs with e | hs
      · subst e; exact In.mem _ _ List.mem_cons_self
      · exact ⟨0, (In.cl _).of (t := 0) (insG_old s hs) (In.cl _).zero fun i => by omega⟩
theorem insG_new {n : Nat} : ∀ {c : Nat} {G : List Vec} {v : Vec}, Ech n c G → v.length = n → RIn (insG G v) (itm v)
  | c, [], v, _, l => by
    unfold insG
    split
    · next h => exact (RIn.cl []).itm_zero h
    · exact RIn.of (In.mem _ _ List.mem_cons_self)
  | c, g :: gs, v, e, l => by
    unfold insG
    split
    · exact RIn.of (In.mem _ _ List.mem_cons_self)
    · have lc := crossV_len (l.trans e.1.symm)
      obtain ⟨D, hD, h⟩ := insG_new (c := piv g + 1) (v := crossV g v) e.2.2.2 (lc.trans l)
      refine ⟨D * itm g (piv g), Int.mul_ne_zero hD (e.ne List.mem_cons_self), D * itm v (piv g), (In.cl _).of (t := 0) h (In.cl _).zero fun i => ?_⟩
      rw [crossV_itm (l.trans e.1.symm)]
      grind
theorem insG_count : ∀ {G : List Vec} {v : Vec}, (insG G v).length ≤ G.length + 1
  | [], v => by
    unfold insG
    split
    · exact Nat.zero_le _
    · exact Nat.le_refl 1
  | g :: gs, v => by
    unfold insG
    split
    · exact Nat.le_refl _
    · exact Nat.succ_le_succ insG_count
theorem insG_size {n b : Nat} (b1 : 1 ≤ b) : ∀ {c : Nat} {G : List Vec} {v : Vec} {x X : Nat}, Ech n c G → v.length = n → (∀ g ∈ G, ∀ i, (itm g i).natAbs ≤ b) → (∀ i, (itm v i).natAbs ≤ x) → b ≤ X → x * (2 * b) ^ G.length ≤ X → ∀ g ∈ insG G v, ∀ i, (itm g i).natAbs ≤ X
  | c, [], v, x, X, _, l, _, hv, _, h => by
    unfold insG
    split
    · exact fun g h => nomatch h
    · exact fun g hg i => by
        rw [List.mem_singleton.mp hg]
        have := hv i
        rw [List.length_nil, Nat.pow_zero] at h; omega
  | c, g :: gs, v, x, X, e, l, hG, hv, hb, h => by
    obtain ⟨h1, h2⟩ := List.forall_mem_cons.mp hG
    have e5 : 1 ≤ (2 * b) ^ (g :: gs).length := Nat.one_le_pow _ _ (by omega)
    have e6 : x ≤ x * (2 * b) ^ (g :: gs).length := Nat.le_mul_of_pos_right _ e5
    unfold insG
    split
    · exact List.forall_mem_cons.mpr ⟨fun i => Nat.le_trans (hv i) (Nat.le_trans e6 h), fun s hs i => Nat.le_trans (hG s hs i) hb⟩
    · have lc := crossV_len (l.trans e.1.symm)
      refine List.forall_mem_cons.mpr ⟨fun i => Nat.le_trans (h1 i) hb, insG_size b1 (x := x * (2 * b)) e.2.2.2 (lc.trans l) h2 (fun i => ?_) hb ?_⟩
      · rw [crossV_itm (l.trans e.1.symm)]
        have q1 : (itm g (piv g) * itm v i).natAbs ≤ b * x := by rw [Int.natAbs_mul]; exact Nat.mul_le_mul (h1 _) (hv i)
        have q2 : (itm v (piv g) * itm g i).natAbs ≤ x * b := by rw [Int.natAbs_mul]; exact Nat.mul_le_mul (hv _) (h1 i)
        have q3 : x * (2 * b) = b * x + x * b := by grind
        rw [q3]; omega
      · rw [List.length_cons, Nat.pow_succ] at h
        have q4 : x * (2 * b) * (2 * b) ^ gs.length = x * ((2 * b) ^ gs.length * (2 * b)) := by grind
        rw [q4]; exact h
end Lat

namespace Lat
/-! ## the defs keep the form -/
theorem fdiv_rem (a b : Int) (hb : 0 < b) : 0 ≤ a - a.fdiv b * b ∧ a - a.fdiv b * b < b := by
  have h1 := Int.fmod_nonneg_of_pos a hb
  have h2 := Int.fmod_lt_of_pos a hb
  have h3 := Int.fmod_def a b
  rw [Int.mul_comm] at h3
  omega
theorem fdiv_rem_neg (a b : Int) (hb : b < 0) : b < a - a.fdiv b * b ∧ a - a.fdiv b * b ≤ 0 := by
  have h := fdiv_rem (-a) (-b) (by omega)
  rw [Int.neg_fdiv_neg] at h
  have e : a.fdiv b * -b = -(a.fdiv b * b) := Int.mul_neg _ _
  omega
theorem fdiv_small (a b : Int) (hb : b ≠ 0) : (a + -(a.fdiv b) * b).natAbs < b.natAbs := by
  have e : a + -(a.fdiv b) * b = a - a.fdiv b * b := by grind
  rw [e]
  rcases Int.lt_or_gt_of_ne hb with h | h
  · have := fdiv_rem_neg a b h; omega
  · have := fdiv_rem a b h; omega
theorem itm_out {v : Vec} {i : Nat} (h : v.length ≤ i) : itm v i = 0 := by
  unfold itm
  rw [List.getD_eq_getElem?_getD, List.getElem?_eq_none h]; rfl
theorem piv_eq {v : Vec} {c : Nat} (z : ∀ i, i < c → itm v i = 0) (h : itm v c ≠ 0) : piv v = c := by
  have hc : c < v.length := by
    apply Nat.lt_of_not_le
    intro l; exact h (itm_out l)
  have h1 := piv_ge z (Nat.le_of_lt hc)
  rcases Nat.lt_or_ge c (piv v) with l | l
  · exact absurd ((piv_spec v).1 c l) h
  · omega
theorem redV_low {n : Nat} : ∀ {c : Nat} {B : List Vec} {v : Vec}, Ech n c B → v.length = n → ∀ i, i < c → itm (redV B v) i = itm v i
  | _, [], v, _, _ => fun i _ => rfl
  | c, r :: rs, v, e, l => fun i hi => by
    have lr : v.length = r.length := l.trans e.1.symm
    have ih := redV_low (v := addV v (-((itm v (piv r)).fdiv (itm r (piv r)))) r) e.2.2.2 ((addV_len lr).trans l) i (by have := e.2.1; omega)
    refine Eq.trans ih ?_
    rw [itm_add lr, (piv_spec r).1 i (Nat.lt_of_lt_of_le hi e.2.1)]; omega
theorem redV_small {n : Nat} : ∀ {c : Nat} {B : List Vec} {v : Vec}, Ech n c B → v.length = n → ∀ s ∈ B, (itm (redV B v) (piv s)).natAbs < (itm s (piv s)).natAbs
  | _, [], v, _, _ => fun s h => nomatch h
  | c, r :: rs, v, e, l => fun s hs => by
    have lr : v.length = r.length := l.trans e.1.symm
    have l' : (addV v (-((itm v (piv r)).fdiv (itm r (piv r)))) r).length = n := (addV_len lr).trans l
    rcases List.mem_cons.mp hs with z | hs
    · subst z
      have h1 := redV_low e.2.2.2 l' (piv s) (by omega)
      show (itm (redV rs (addV v (-((itm v (piv s)).fdiv (itm s (piv s)))) s)) (piv s)).natAbs < _
      rw [h1, itm_add lr]
      exact fdiv_small _ _ (e.ne List.mem_cons_self)
    · exact redV_small e.2.2.2 l' s hs
theorem posV_piv (r : Vec) (h : piv r < r.length) : piv (posV r) = piv r := by
  rcases posV_itm r with q | q
  · exact piv_eq (fun i hi => by rw [q]; exact (piv_spec r).1 i hi) (by rw [q]; exact (piv_spec r).2 h)
  · exact piv_eq (fun i hi => by rw [q, (piv_spec r).1 i hi]; rfl) (by rw [q]; have := (piv_spec r).2 h; omega)
theorem posV_abs (r : Vec) (i : Nat) : (itm (posV r) i).natAbs = (itm r i).natAbs := by
  rcases posV_itm r with q | q
  · rw [q]
  · rw [q, Int.natAbs_neg]
theorem clr_facts {n : Nat} : ∀ (m : Nat) (r v : Vec) (i : Nat), r.length = n → v.length = n → (itm v i).natAbs ≤ m → itm r i ≠ 0 → itm (clr m r v i).2 i = 0 ∧ itm (clr m r v i).1 i ≠ 0 ∧ ∀ j, itm r j = 0 → itm v j = 0 → itm (clr m r v i).1 j = 0 ∧ itm (clr m r v i).2 j = 0
  | 0, r, v, i, lr, lv, h, h0 => ⟨by show itm v i = 0; omega, h0, fun j a b => ⟨a, b⟩⟩
  | m + 1, r, v, i, lr, lv, h, h0 => by
    unfold clr
    split
    · next z => exact ⟨z, h0, fun j a b => ⟨a, b⟩⟩
    · next z =>
      have l := lr.trans lv.symm
      have e := itm_add (t := -((itm r i).fdiv (itm v i))) l i
      have sm := fdiv_small (itm r i) (itm v i) z
      rw [← e] at sm
      obtain ⟨a, b, c⟩ := clr_facts m v (addV r (-((itm r i).fdiv (itm v i))) v) i lv ((addV_len l).trans lr) (by omega) z
      exact ⟨a, b, fun j x y => c j y (by rw [itm_add l, x, y]; omega)⟩
theorem clear_facts {n : Nat} {r v : Vec} {i : Nat} (lr : r.length = n) (lv : v.length = n) (h : itm r i ≠ 0) : itm (clear r v i).2 i = 0 ∧ itm (clear r v i).1 i ≠ 0 ∧ ∀ j, itm r j = 0 → itm v j = 0 → itm (clear r v i).1 j = 0 ∧ itm (clear r v i).2 j = 0 :=
  clr_facts _ r v i lr lv (Nat.le_refl _) h
theorem stepped_nil (v : Vec) : stepped [] v = if piv v = v.length then [] else [v] := rfl
theorem stepped_cons (r : Vec) (rs : List Vec) (v : Vec) : stepped (r :: rs) v = if piv v < piv r then v :: stepped rs r else (clear r v (piv r)).1 :: stepped rs (clear r v (piv r)).2 := by
  unfold stepped
  rw [stepGo]
  split
  · by_cases h : piv (stepGo rs r).2 = (stepGo rs r).2.length
    · rw [if_pos h, if_pos h]
    · rw [if_neg h, if_neg h]; rfl
  · by_cases h : piv (stepGo rs (clear r v (piv r)).2).2 = (stepGo rs (clear r v (piv r)).2).2.length
    · rw [if_pos h, if_pos h]
    · rw [if_neg h, if_neg h]; rfl
theorem stepped_ech {n : Nat} : ∀ {c : Nat} {B : List Vec} {v : Vec}, Ech n c B → v.length = n → c ≤ n → (∀ i, i < c → itm v i = 0) → Ech n c (stepped B v)
  | c, [], v, _, l, hc, z => by
    rw [stepped_nil]
    split
    · trivial
    · exact ⟨l, piv_ge z (l ▸ hc), by have := piv_le v; omega, trivial⟩
  | c, r :: rs, v, e, l, hc, z => by
    rw [stepped_cons]
    split
    · next h =>
      have ih := stepped_ech (c := piv r) (Ech.mono (by omega) e.2.2.2) e.1 (Nat.le_of_lt e.2.2.1) (piv_spec r).1
      exact ⟨l, piv_ge z (l ▸ hc), by have := e.2.2.1; omega, Ech.mono (by omega) ih⟩
    · next h =>
      obtain ⟨c1, c2⟩ := clear_len (i := piv r) (e.1.trans l.symm)
      obtain ⟨f1, f2, f3⟩ := clear_facts (i := piv r) e.1 l (e.ne List.mem_cons_self)
      have f4 : ∀ j, j < piv r → itm (clear r v (piv r)).1 j = 0 ∧ itm (clear r v (piv r)).2 j = 0 := fun j hj => f3 j ((piv_spec r).1 j hj) ((piv_spec v).1 j (by omega))
      have pe : piv (clear r v (piv r)).1 = piv r := piv_eq (fun j hj => (f4 j hj).1) f2
      have ih := stepped_ech (v := (clear r v (piv r)).2) e.2.2.2 (c2.trans e.1) (by have := e.2.2.1; omega) (fun j hj => by
        by_cases q : j = piv r
        · rw [q]; exact f1
        · exact (f4 j (by omega)).2)
      exact ⟨c1.trans e.1, by rw [pe]; exact e.2.1, by rw [pe]; exact e.2.2.1, by rw [pe]; exact ih⟩
theorem stepped_count : ∀ {B : List Vec} {v : Vec}, (stepped B v).length ≤ B.length + 1
  | [], v => by
    rw [stepped_nil]
    split
    · exact Nat.zero_le _
    · exact Nat.le_refl 1
  | r :: rs, v => by
    rw [stepped_cons]
    split
    · exact Nat.succ_le_succ stepped_count
    · exact Nat.succ_le_succ stepped_count
theorem tidy_count : ∀ {B : List Vec}, (tidy B).length = B.length
  | [] => rfl
  | r :: rs => congrArg (· + 1) (tidy_count (B := rs))
theorem tidy_ech {n : Nat} : ∀ {c : Nat} {B : List Vec}, Ech n c B → Ech n c (tidy B)
  | c, [], _ => trivial
  | c, r :: rs, e => by
    have ih := tidy_ech e.2.2.2
    have lp : (posV r).length = n := (posV_length r).trans e.1
    have pp := posV_piv r (e.1 ▸ e.2.2.1)
    have lo := redV_low ih lp
    have pe : piv (redV (tidy rs) (posV r)) = piv r := piv_eq (fun i hi => by rw [lo i (by omega), ← Int.natAbs_eq_zero, posV_abs, (piv_spec r).1 i hi]; rfl) (by
      rw [lo _ (by omega)]
      intro q
      have := posV_abs r (piv r)
      rw [q] at this
      exact e.ne List.mem_cons_self (by omega))
    unfold tidy
    refine ⟨(redV_len _ _ fun s hs => (ih.row s hs).1.trans lp.symm).trans lp, ?_⟩
    rw [pe]
    exact ⟨e.2.1, e.2.2.1, ih⟩
/-- each row is small at the others' pivots -/
def Redd (B : List Vec) : Prop := ∀ s ∈ B, ∀ r ∈ B, (itm r (piv s)).natAbs ≤ (itm s (piv s)).natAbs
theorem tidy_redd {n : Nat} : ∀ {c : Nat} {B : List Vec}, Ech n c B → Redd (tidy B)
  | c, [], _ => fun s h => nomatch h
  | c, r :: rs, e => by
    have ih := tidy_redd e.2.2.2
    have et := tidy_ech e
    have lp : (posV r).length = n := (posV_length r).trans e.1
    have h' := tidy_ech e.2.2.2
    unfold tidy at et ⊢
    intro s hs t ht
    rcases List.mem_cons.mp hs with z | hs
    · rcases List.mem_cons.mp ht with y | ht
      · rw [z, y]; exact Nat.le_refl _
      · have : itm t (piv s) = 0 := by rw [z]; exact et.2.2.2.zero ht (Nat.lt_succ_self _)
        rw [this]; exact Nat.zero_le _
    · rcases List.mem_cons.mp ht with y | ht
      · rw [y]; exact Nat.le_of_lt (redV_small h' lp s hs)
      · exact ih s hs t ht
theorem In.sub {S : (Nat → Int) → Prop} (C : Cl S) : ∀ {B : List Vec} {f : Nat → Int}, (∀ r ∈ B, S (itm r)) → In B f → S f
  | [], f, _, h => by
    rw [show f = _ from funext h]; exact C.zero
  | r :: rs, f, hS, ⟨a, h⟩ => C.of (t := a) (In.sub C (fun s hs => hS s (List.mem_cons_of_mem _ hs)) h) (hS r List.mem_cons_self) fun i => by omega
end Lat

namespace Lat
/-! ## a table of rows by their places, as the law keeps it -/
abbrev Tab := List (Option Vec)
def negV (v : Vec) : Vec := v.map fun n => 0 - n
def posAt (v : Vec) (p : Nat) : Vec := if itm v p < 0 then negV v else v
def putL : Tab → Nat → Vec → Tab
  | [], _, _ => []
  | o :: os, p, v => if itm v p = 0 then o :: putL os (p + 1) v else match o with
    | none => some (posAt v p) :: os
    | some h => some (posAt (clear h v p).1 p) :: putL os (p + 1) (clear h v p).2
def rowsOf (t : Tab) : List Vec := t.filterMap id
def leftL : Tab → Nat → Vec → Vec
  | [], _, v => v
  | none :: os, p, v => leftL os (p + 1) v
  | some h :: os, p, v => leftL os (p + 1) (addV v (-((itm v p).fdiv (itm h p))) h)
def EchT (n : Nat) : Nat → Tab → Prop
  | p, [] => p = n
  | p, o :: os => (∀ r, o = some r → r.length = n ∧ piv r = p ∧ 0 < itm r p) ∧ EchT n (p + 1) os
theorem EchT.len {n : Nat} : ∀ {p : Nat} {t : Tab}, EchT n p t → p + t.length = n
  | p, [], h => h
  | p, o :: os, h => by have := EchT.len h.2; rw [List.length_cons]; omega
theorem EchT.lt {n p : Nat} {o : Option Vec} {os : Tab} (h : EchT n p (o :: os)) : p < n := by have := h.len; rw [List.length_cons] at this; omega
theorem rows_none {os : Tab} : rowsOf (none :: os) = rowsOf os := rfl
theorem rows_some {h : Vec} {os : Tab} : rowsOf (some h :: os) = h :: rowsOf os := rfl
theorem EchT.ech {n : Nat} : ∀ {p : Nat} {t : Tab}, EchT n p t → Ech n p (rowsOf t)
  | _, [], _ => trivial
  | p, none :: os, h => Ech.mono (Nat.le_succ p) (EchT.ech (t := os) h.2)
  | p, some r :: os, h => by
    obtain ⟨a, b, c⟩ := h.1 r rfl
    have := h.lt
    refine ⟨a, by omega, by omega, ?_⟩
    rw [b]; exact EchT.ech (t := os) h.2
theorem EchT.pos {n : Nat} : ∀ {p : Nat} {t : Tab}, EchT n p t → ∀ s ∈ rowsOf t, 0 < itm s (piv s)
  | _, [], _ => fun s h => nomatch h
  | p, none :: os, h => EchT.pos (t := os) h.2
  | p, some r :: os, h => fun s hs => by
    rcases List.mem_cons.mp hs with e | hs
    · obtain ⟨a, b, c⟩ := h.1 r rfl
      subst e; rw [b]; exact c
    · exact EchT.pos (t := os) h.2 s hs
theorem EchT.empty (n : Nat) : ∀ k p, p + k = n → EchT n p (List.replicate k none)
  | 0, p, h => h
  | k + 1, p, h => ⟨fun r e => (nomatch e), EchT.empty n k (p + 1) (by omega)⟩
theorem rows_empty : ∀ k, rowsOf (List.replicate k none) = []
  | 0 => rfl
  | k + 1 => rows_empty k
theorem negV_len (v : Vec) : (negV v).length = v.length := List.length_map ..
theorem negV_itm (v : Vec) (i : Nat) : itm (negV v) i = - itm v i := by
  unfold itm negV
  rw [List.getD_eq_getElem?_getD, List.getD_eq_getElem?_getD, List.getElem?_map]
  cases v[i]? with
  | none => rfl
  | some x => show 0 - x = -x; omega
theorem posAt_len (v : Vec) (p : Nat) : (posAt v p).length = v.length := by
  unfold posAt; split
  · exact negV_len v
  · rfl
theorem posAt_itm (v : Vec) (p : Nat) : (∀ i, itm (posAt v p) i = itm v i) ∨ ∀ i, itm (posAt v p) i = - itm v i := by
  unfold posAt; split
  · exact .inr (negV_itm v)
  · exact .inl fun i => rfl
theorem posAt_abs (v : Vec) (p i : Nat) : (itm (posAt v p) i).natAbs = (itm v i).natAbs := by
  rcases posAt_itm v p with q | q
  · rw [q]
  · rw [q, Int.natAbs_neg]
theorem posAt_pos {v : Vec} {p : Nat} (h : itm v p ≠ 0) : 0 < itm (posAt v p) p := by
  unfold posAt; split
  · rw [negV_itm]; omega
  · omega
theorem posAt_row {v : Vec} {p : Nat} (h : itm v p ≠ 0) (z : ∀ i, i < p → itm v i = 0) : piv (posAt v p) = p := by
  refine piv_eq (fun i hi => ?_) (by have := posAt_pos h; omega)
  have := posAt_abs v p i
  rw [z i hi] at this
  omega
theorem posAt_cl {S : (Nat → Int) → Prop} (C : Cl S) (r : Vec) (p : Nat) : S (itm (posAt r p)) ↔ S (itm r) := by
  rcases posAt_itm r p with h | h
  · rw [show itm (posAt r p) = itm r from funext h]
  · exact ⟨fun q => C.of (t := -1) C.zero q fun i => by rw [h]; omega, fun q => C.of (t := -1) C.zero q fun i => by rw [h]; omega⟩
theorem zero_more {v : Vec} {p : Nat} (z : ∀ i, i < p → itm v i = 0) (h : itm v p = 0) : ∀ i, i < p + 1 → itm v i = 0 := fun i hi => by
  by_cases e : i = p
  · rw [e]; exact h
  · exact z i (by omega)
theorem clear_at {n p : Nat} {h v : Vec} (lh : h.length = n) (lv : v.length = n) (ph : piv h = p) (hp : 0 < itm h p) (z : ∀ i, i < p → itm v i = 0) :
    (clear h v p).1.length = n ∧ (clear h v p).2.length = n ∧ itm (clear h v p).1 p ≠ 0 ∧ (∀ i, i < p → itm (clear h v p).1 i = 0) ∧ ∀ i, i < p + 1 → itm (clear h v p).2 i = 0 := by
  obtain ⟨c1, c2⟩ := clear_len (i := p) (lh.trans lv.symm)
  obtain ⟨f1, f2, f3⟩ := clear_facts (i := p) lh lv (by omega)
  have f4 : ∀ j, j < p → itm (clear h v p).1 j = 0 ∧ itm (clear h v p).2 j = 0 := fun j hj => f3 j ((piv_spec h).1 j (by omega)) (z j hj)
  exact ⟨c1.trans lh, c2.trans lh, f2, fun i hi => (f4 i hi).1, zero_more (fun i hi => (f4 i hi).2) f1⟩
theorem putL_tab {n : Nat} : ∀ {p : Nat} {t : Tab} {v : Vec}, EchT n p t → v.length = n → (∀ i, i < p → itm v i = 0) → EchT n p (putL t p v)
  | _, [], _, h, _, _ => h
  | p, o :: os, v, h, l, z => by
    unfold putL
    split
    · next e => exact ⟨h.1, putL_tab h.2 l (zero_more z e)⟩
    · next e =>
      cases o with
      | none => exact ⟨fun r q => by cases q; exact ⟨(posAt_len v p).trans l, posAt_row e z, posAt_pos e⟩, h.2⟩
      | some r =>
        obtain ⟨a, b, c⟩ := h.1 r rfl
        obtain ⟨q1, q2, q3, q4, q5⟩ := clear_at a l b c z
        exact ⟨fun r q => by cases q; exact ⟨(posAt_len _ p).trans q1, posAt_row q3 q4, posAt_pos q3⟩, putL_tab h.2 q2 q5⟩
theorem zero_all {n : Nat} {v : Vec} (l : v.length = n) (z : ∀ i, i < n → itm v i = 0) : piv v = v.length := by
  rcases Nat.lt_or_ge (piv v) v.length with h | h
  · exact absurd (z _ (l ▸ h)) ((piv_spec v).2 h)
  · exact Nat.le_antisymm (piv_le v) h
theorem putL_cl {S : (Nat → Int) → Prop} (C : Cl S) {n : Nat} : ∀ {p : Nat} {t : Tab} {v : Vec}, EchT n p t → v.length = n → (∀ i, i < p → itm v i = 0) → ((∀ r ∈ rowsOf (putL t p v), S (itm r)) ↔ ((∀ r ∈ rowsOf t, S (itm r)) ∧ S (itm v)))
  | p, [], v, h, l, z => ⟨fun _ => ⟨fun r q => (nomatch q), C.itm_zero (zero_all l (fun i hi => z i (by rw [show p = n from h]; exact hi)))⟩, fun _ r q => nomatch q⟩
  | p, o :: os, v, h, l, z => by
    unfold putL
    split
    · next e =>
      have ih := putL_cl C h.2 l (zero_more z e)
      cases o with
      | none => exact ih
      | some r =>
        rw [rows_some, rows_some, List.forall_mem_cons, List.forall_mem_cons, ih, and_assoc]
    · next e =>
      cases o with
      | none =>
        show (∀ r ∈ posAt v p :: rowsOf os, S (itm r)) ↔ ((∀ r ∈ rowsOf os, S (itm r)) ∧ S (itm v))
        rw [List.forall_mem_cons, posAt_cl C, and_comm]
      | some r =>
        obtain ⟨a, b, c⟩ := h.1 r rfl
        obtain ⟨q1, q2, q3, q4, q5⟩ := clear_at a l b c z
        have ih := putL_cl C h.2 q2 q5
        have cc : (S (itm (clear r v p).1) ∧ S (itm (clear r v p).2)) ↔ _ := clr_cl C _ r v p (a.trans l.symm)
        show (∀ s ∈ posAt (clear r v p).1 p :: rowsOf (putL os (p + 1) (clear r v p).2), S (itm s)) ↔ ((∀ s ∈ r :: rowsOf os, S (itm s)) ∧ S (itm v))
        rw [List.forall_mem_cons, List.forall_mem_cons, posAt_cl C, ih]
        constructor
        · rintro ⟨h1, h2, h3⟩
          obtain ⟨h4, h5⟩ := cc.mp ⟨h1, h3⟩
          exact ⟨⟨h4, h2⟩, h5⟩
        · rintro ⟨⟨h1, h2⟩, h3⟩
          obtain ⟨h4, h5⟩ := cc.mpr ⟨h1, h3⟩
          exact ⟨h4, h2, h5⟩
theorem leftL_red {n : Nat} : ∀ {p : Nat} {t : Tab} {v : Vec}, EchT n p t → leftL t p v = redV (rowsOf t) v
  | _, [], _, _ => rfl
  | p, none :: os, v, h => leftL_red (t := os) h.2
  | p, some r :: os, v, h => by
    obtain ⟨a, b, c⟩ := h.1 r rfl
    show leftL os (p + 1) _ = redV (r :: rowsOf os) v
    rw [leftL_red (t := os) h.2]
    show _ = redV (rowsOf os) (addV v (-((itm v (piv r)).fdiv (itm r (piv r)))) r)
    rw [b]
theorem rows_count : ∀ t : Tab, (rowsOf t).length ≤ t.length
  | [] => Nat.le_refl _
  | none :: os => Nat.le_succ_of_le (rows_count os)
  | some r :: os => Nat.succ_le_succ (rows_count os)
/-- the law's table of some rows -/
def putsL (t : Tab) (rs : List Vec) : Tab := rs.foldl (fun t r => putL t 0 r) t
theorem putsL_tab {n : Nat} : ∀ {rs : List Vec} {t : Tab}, EchT n 0 t → (∀ r ∈ rs, r.length = n) → EchT n 0 (putsL t rs)
  | [], t, h, _ => h
  | r :: rs, t, h, hr => putsL_tab (rs := rs) (putL_tab h (hr r List.mem_cons_self) fun i hi => absurd hi (Nat.not_lt_zero _)) fun s hs => hr s (List.mem_cons_of_mem _ hs)
theorem putsL_cl {S : (Nat → Int) → Prop} (C : Cl S) {n : Nat} : ∀ {rs : List Vec} {t : Tab}, EchT n 0 t → (∀ r ∈ rs, r.length = n) → ((∀ r ∈ rowsOf (putsL t rs), S (itm r)) ↔ ((∀ r ∈ rowsOf t, S (itm r)) ∧ ∀ r ∈ rs, S (itm r)))
  | [], t, h, _ => ⟨fun q => ⟨q, fun r hr => nomatch hr⟩, fun q => q.1⟩
  | r :: rs, t, h, hr => by
    have l := hr r List.mem_cons_self
    have z : ∀ i, i < 0 → itm r i = 0 := fun i hi => absurd hi (Nat.not_lt_zero _)
    have ih := putsL_cl C (rs := rs) (putL_tab h l z) fun s hs => hr s (List.mem_cons_of_mem _ hs)
    have e : putsL t (r :: rs) = putsL (putL t 0 r) rs := rfl
    rw [e, ih, putL_cl C h l z, List.forall_mem_cons, and_assoc]
/-! ## what is reduced is one alone -/
def PosP (B : List Vec) : Prop := ∀ s ∈ B, 0 < itm s (piv s)
theorem redV_rng {n : Nat} : ∀ {c : Nat} {B : List Vec} {v : Vec}, Ech n c B → PosP B → v.length = n → ∀ s ∈ B, 0 ≤ itm (redV B v) (piv s) ∧ itm (redV B v) (piv s) < itm s (piv s)
  | _, [], v, _, _, _ => fun s h => nomatch h
  | c, r :: rs, v, e, P, l => fun s hs => by
    have lr : v.length = r.length := l.trans e.1.symm
    have l' : (addV v (-((itm v (piv r)).fdiv (itm r (piv r)))) r).length = n := (addV_len lr).trans l
    rcases List.mem_cons.mp hs with z | hs
    · subst z
      have h1 := redV_low e.2.2.2 l' (piv s) (by omega)
      show 0 ≤ itm (redV rs (addV v (-((itm v (piv s)).fdiv (itm s (piv s)))) s)) (piv s) ∧ _
      have h2 := fdiv_rem (itm v (piv s)) (itm s (piv s)) (P s List.mem_cons_self)
      have h3 : itm (redV rs (addV v (-((itm v (piv s)).fdiv (itm s (piv s)))) s)) (piv s) = itm v (piv s) - (itm v (piv s)).fdiv (itm s (piv s)) * itm s (piv s) := by
        rw [h1, itm_add lr]; grind
      rw [h3]
      refine ⟨h2.1, ?_⟩
      show itm (redV rs (addV v (-((itm v (piv s)).fdiv (itm s (piv s)))) s)) (piv s) < _
      rw [h3]; exact h2.2
    · exact redV_rng e.2.2.2 (fun t ht => P t (List.mem_cons_of_mem _ ht)) l' s hs
theorem redV_diff {S : (Nat → Int) → Prop} (C : Cl S) : ∀ (B : List Vec) (v : Vec), (∀ r ∈ B, r.length = v.length) → (∀ r ∈ B, S (itm r)) → S fun i => itm v i - itm (redV B v) i
  | [], v, _, _ => C.of (t := 0) C.zero C.zero fun i => by show itm v i - itm v i = 0 + 0 * 0; omega
  | r :: rs, v, h, hS => by
    have l := (h r List.mem_cons_self).symm
    have e := addV_len (t := -((itm v (piv r)).fdiv (itm r (piv r)))) l
    have ih := redV_diff C rs (addV v (-((itm v (piv r)).fdiv (itm r (piv r)))) r) (fun s hs => (h s (List.mem_cons_of_mem _ hs)).trans e.symm) fun s hs => hS s (List.mem_cons_of_mem _ hs)
    refine C.of (t := (itm v (piv r)).fdiv (itm r (piv r))) ih (hS r List.mem_cons_self) fun i => ?_
    show itm v i - itm (redV rs _) i = _
    rw [itm_add l]; grind
theorem first_eq {f : Nat → Int} {p q : Nat} (hp : ∀ i, i < p → f i = 0) (hp' : f p ≠ 0) (hq : ∀ i, i < q → f i = 0) (hq' : f q ≠ 0) : p = q := by
  rcases Nat.lt_trichotomy p q with l | l | l
  · exact absurd (hq _ l) hp'
  · exact l
  · exact absurd (hp _ l) hq'
theorem mul_ge {a b : Int} (ha : a ≠ 0) (hb : 0 < b) : a * b ≤ -b ∨ b ≤ a * b := by
  rcases Int.lt_or_gt_of_ne ha with h | h
  · left
    have := Int.mul_le_mul_of_nonneg_right (show a ≤ -1 by omega) (show 0 ≤ b by omega)
    omega
  · right
    have := Int.mul_le_mul_of_nonneg_right (show 1 ≤ a by omega) (show 0 ≤ b by omega)
    omega
/-- two vectors that differ by one of the lattice, each reduced by an echelon family of it, are one -/
theorem uniq {n : Nat} {B T : List Vec} (eB : Ech n 0 B) (eT : Ech n 0 T) (pB : PosP B) (pT : PosP T) {u w : Nat → Int} (hu : ∀ s ∈ B, 0 ≤ u (piv s) ∧ u (piv s) < itm s (piv s)) (hw : ∀ s ∈ T, 0 ≤ w (piv s) ∧ w (piv s) < itm s (piv s))
    (dB : In B fun i => u i - w i) (dT : In T fun i => u i - w i) : ∀ i, u i = w i := by
  rcases lead eB dB with z | ⟨s, hs, a, ha, z, y⟩
  · intro i; have := z i; omega
  · rcases lead eT dT with z' | ⟨t, ht, b, hb, z', y'⟩
    · intro i; have := z' i; omega
    · have ps := pB s hs
      have pt := pT t ht
      have e : piv s = piv t := first_eq z (by rw [y]; exact Int.mul_ne_zero ha (by omega)) z' (by rw [y']; exact Int.mul_ne_zero hb (by omega))
      have h1 := hu s hs
      have h2 := hw t ht
      rw [← e] at h2 y' pt
      have q1 := mul_ge ha ps
      have q2 := mul_ge hb pt
      rw [← y] at q1
      rw [← y'] at q2
      omega
theorem vec_ext {u w : Vec} (l : u.length = w.length) (h : ∀ i, itm u i = itm w i) : u = w := by
  apply List.ext_getElem? 
  intro i
  rcases Nat.lt_or_ge i u.length with hi | hi
  · rw [itm_of hi, itm_of (l ▸ hi), h]
  · rw [List.getElem?_eq_none hi, List.getElem?_eq_none (l ▸ hi)]
/-- reduced by either of two families of one lattice -/
theorem red_same {n : Nat} {B T : List Vec} (eB : Ech n 0 B) (eT : Ech n 0 T) (pB : PosP B) (pT : PosP T) (hBT : ∀ r ∈ B, In T (itm r)) (hTB : ∀ r ∈ T, In B (itm r)) {v v' : Vec} (l : v.length = n) (l' : v'.length = n) (d : In B fun i => itm v i - itm v' i) : redV B v = redV T v' := by
  have lB : ∀ r ∈ B, r.length = v.length := fun r hr => (eB.row r hr).1.trans l.symm
  have lT : ∀ r ∈ T, r.length = v'.length := fun r hr => (eT.row r hr).1.trans l'.symm
  have h1 := redV_diff (In.cl B) B v lB fun r hr => In.mem _ _ hr
  have h2 := redV_diff (In.cl B) T v' lT hTB
  have h3 : In B fun i => itm (redV B v) i - itm (redV T v') i := by
    have q1 := (In.cl B).of (t := -1) d h1 (g := fun i => itm (redV B v) i - itm v' i) fun i => by show _ = (itm v i - itm v' i) + -1 * (itm v i - itm (redV B v) i); omega
    exact (In.cl B).of (t := 1) q1 h2 fun i => by show _ = (itm (redV B v) i - itm v' i) + 1 * (itm v' i - itm (redV T v') i); omega
  refine vec_ext ?_ (uniq eB eT pB pT (redV_rng eB pB l) (redV_rng eT pT l') h3 (In.sub (In.cl T) hBT h3))
  rw [redV_len B v lB, redV_len T v' lT, l, l']
theorem red_zero {n : Nat} {B : List Vec} (eB : Ech n 0 B) {v : Vec} (l : v.length = n) (h : In B (itm v)) : piv (redV B v) = (redV B v).length := by
  have lB : ∀ r ∈ B, r.length = v.length := fun r hr => (eB.row r hr).1.trans l.symm
  have h1 := (redV_cl (In.cl B) B v lB fun r hr => In.mem _ _ hr).mpr h
  have ll := (redV_len B v lB).trans l
  rcases lead eB h1 with z | ⟨s, hs, a, ha, z, y⟩
  · exact zero_all ll fun i _ => z i
  · have sm := redV_small eB l s hs
    rw [y, Int.natAbs_mul] at sm
    have := Nat.le_mul_of_pos_left (itm s (piv s)).natAbs (Int.natAbs_pos.mpr ha)
    omega
theorem red_in {B : List Vec} {v : Vec} (lB : ∀ r ∈ B, r.length = v.length) (h : piv (redV B v) = (redV B v).length) : In B (itm v) :=
  (redV_cl (In.cl B) B v lB fun r hr => In.mem _ _ hr).mp ((In.cl B).itm_zero h)
/-! ## the basis has positive pivots -/
theorem tidy_pos {n : Nat} : ∀ {c : Nat} {B : List Vec}, Ech n c B → PosP (tidy B)
  | c, [], _ => fun s h => nomatch h
  | c, r :: rs, e => by
    have ih := tidy_ech e.2.2.2
    have lp : (posV r).length = n := (posV_length r).trans e.1
    have pp := posV_piv r (e.1 ▸ e.2.2.1)
    have lo := redV_low ih lp
    have rn := e.ne List.mem_cons_self
    have pe : piv (redV (tidy rs) (posV r)) = piv r := piv_eq (fun i hi => by rw [lo i (by omega), ← Int.natAbs_eq_zero, posV_abs, (piv_spec r).1 i hi]; rfl) (by
      rw [lo _ (by omega)]
      intro q
      have := posV_abs r (piv r)
      rw [q] at this
      exact rn (by omega))
    unfold tidy
    intro s hs
    rcases List.mem_cons.mp hs with z | hs
    · rw [z, pe, lo _ (by omega)]
      unfold posV
      split
      · next h => exact h
      · next h =>
        rw [itm_add rfl]; omega
    · exact tidy_pos e.2.2.2 s hs
end Lat

namespace Lat
/-! ## ghosts, by their number -/
def gbx (x : Nat) : Nat → Nat
  | 0 => 0
  | j + 1 => x + j * (gbx x j + 1)
theorem insG_or : ∀ {G : List Vec} {v : Vec}, insG G v = G ∨ (insG G v).length = G.length + 1
  | [], v => by
    unfold insG
    split
    · exact .inl rfl
    · exact .inr rfl
  | g :: gs, v => by
    unfold insG
    split
    · exact .inr rfl
    · rcases insG_or (G := gs) (v := crossV g v) with e | e
      · rw [e]; exact .inl rfl
      · exact .inr (congrArg (· + 1) e)
theorem gbx_mono {x : Nat} : ∀ j, gbx x j ≤ gbx x (j + 1)
  | 0 => Nat.zero_le _
  | j + 1 => by
    have ih := gbx_mono (x := x) j
    show x + j * (gbx x j + 1) ≤ x + (j + 1) * (gbx x (j + 1) + 1)
    have := Nat.mul_le_mul (Nat.le_succ j) (Nat.succ_le_succ ih)
    exact Nat.add_le_add_left this x
theorem gbx_le {x : Nat} {i j : Nat} (h : i ≤ j) : gbx x i ≤ gbx x j := by
  induction h with
  | refl => exact Nat.le_refl _
  | step _ ih => exact Nat.le_trans ih (gbx_mono _)
theorem p2le {a b : Nat} (h : a ≤ b) : 2 ^ a ≤ 2 ^ b := Nat.pow_le_pow_right (by decide) h
structure Gh (x n : Nat) (B : List Vec) : Prop where
  eB : Ech n 0 B
  ex : ∃ G, Ech n 0 G ∧ (∀ g ∈ G, In B (itm g)) ∧ (∀ s ∈ B, RIn G (itm s)) ∧ ∀ g ∈ G, ∀ i, (itm g i).natAbs ≤ 2 ^ gbx x G.length
theorem Gh.nil (x n : Nat) : Gh x n [] := ⟨trivial, [], trivial, fun g h => (nomatch h), fun g h => (nomatch h), fun g h => (nomatch h)⟩
theorem Gh.step {x n : Nat} {B B' : List Vec} {v : Vec} (I : Gh x n B) (x1 : x ≤ gbx x 1) (eB' : Ech n 0 B') (l : v.length = n) (hv : ∀ i, (itm v i).natAbs ≤ 2 ^ x) (h : ∀ S, Cl S → ((∀ r ∈ B', S (itm r)) ↔ ((∀ r ∈ B, S (itm r)) ∧ S (itm v)))) : Gh x n B' := by
  obtain ⟨G, eG, h1, h2, h3⟩ := I.ex
  have eG' : Ech n 0 (insG G v) := insG_ech eG l (Nat.zero_le _) fun i hi => absurd hi (Nat.not_lt_zero _)
  have rB : ∀ s ∈ B, RIn (insG G v) (itm s) := fun s hs => by
    obtain ⟨D, hD, h⟩ := h2 s hs
    exact ⟨D, hD, In.sub (In.cl _) (fun g hg => insG_old g hg) h⟩
  have rv : RIn (insG G v) (itm v) := insG_new eG l
  obtain ⟨q1, q2⟩ := (h (In B') (In.cl B')).mp fun r hr => In.mem _ _ hr
  refine ⟨eB', insG G v, eG', insG_cl (In.cl B') eG l (fun g hg => In.sub (In.cl B') q1 (h1 g hg)) q2, (h (RIn (insG G v)) (RIn.cl _)).mpr ⟨rB, rv⟩, ?_⟩
  rcases insG_or (G := G) (v := v) with e | e
  · rw [e]; exact h3
  · rw [e]
    refine insG_size (b := 2 ^ gbx x G.length) (x := 2 ^ x) (Nat.two_pow_pos _) eG l h3 hv (p2le (gbx_mono _)) ?_
    have e1 : 2 * 2 ^ gbx x G.length = 2 ^ (gbx x G.length + 1) := by rw [Nat.pow_succ, Nat.mul_comm]
    rw [e1, ← Nat.pow_mul, ← Nat.pow_add]
    refine p2le ?_
    show _ ≤ x + G.length * (gbx x G.length + 1)
    rw [Nat.mul_comm]; exact Nat.le_refl _
theorem Gh.piv {x n : Nat} {B : List Vec} (I : Gh x n B) : ∀ s ∈ B, (itm s (Lat.piv s)).natAbs ≤ 2 ^ gbx x n := by
  obtain ⟨G, eG, h1, h2, h3⟩ := I.ex
  intro s hs
  obtain ⟨g, hg, _, q⟩ := piv_bound I.eB eG h1 h2 s hs
  have c := eG.count (Nat.zero_le _)
  exact Nat.le_trans q (Nat.le_trans (h3 g hg _) (p2le (gbx_le (by omega))))
theorem Ech.full {n : Nat} : ∀ {c : Nat} {G : List Vec}, Ech n c G → c + G.length = n → ∀ i, c ≤ i → i < n → ∃ g ∈ G, Lat.piv g = i
  | c, [], _, h => fun i h1 h2 => by rw [List.length_nil] at h; omega
  | c, r :: rs, e, h => fun i h1 h2 => by
    have c1 := Ech.count e.2.2.2 e.2.2.1
    have := e.2.1
    rw [List.length_cons] at h
    by_cases q : i = Lat.piv r
    · exact ⟨r, List.mem_cons_self, q.symm⟩
    · obtain ⟨g, hg, z⟩ := Ech.full e.2.2.2 (by omega) i (by omega) h2
      exact ⟨g, List.mem_cons_of_mem _ hg, z⟩
/-- what is reduced is small: by the ghosts if they are fewer than columns, by the pivots else -/
theorem Gh.red {x n y z w : Nat} {B : List Vec} (I : Gh x n B) {v : Vec} (l : v.length = n) (hv : ∀ i, (itm v i).natAbs ≤ 2 ^ y) (n1 : 1 ≤ n)
    (hz : gbx x n ≤ z) (hw : ∀ k, k < n → (gbx x k + y + 1) + k * (gbx x k + 2) + 1 ≤ z) (hy : y ≤ z) : ∀ i, (itm (redV B v) i).natAbs ≤ 2 ^ (z + 1) := by
  obtain ⟨G, eG, h1, h2, h3⟩ := I.ex
  have lB : ∀ r ∈ B, r.length = v.length := fun r hr => (I.eB.row r hr).1.trans l.symm
  have lr := (redV_len B v lB).trans l
  -- at the pivots of the basis
  have atB : ∀ g ∈ G, ∃ s ∈ B, Lat.piv s = Lat.piv g ∧ (itm s (Lat.piv s)).natAbs ≤ (itm g (Lat.piv g)).natAbs := by
    intro g hg
    have gn := eG.ne hg
    rcases lead I.eB (h1 g hg) with z | ⟨t, ht, a, ha, z, y⟩
    · exact absurd (z _) gn
    · have tn := I.eB.ne ht
      have e' : Lat.piv t = Lat.piv g := first_eq z (by rw [y]; exact Int.mul_ne_zero ha tn) (piv_spec g).1 gn
      refine ⟨t, ht, e', ?_⟩
      rw [← e', y, Int.natAbs_mul]
      exact Nat.le_mul_of_pos_left _ (Int.natAbs_pos.mpr ha)
  have small : ∀ g ∈ G, (itm (redV B v) (Lat.piv g)).natAbs ≤ 2 ^ gbx x G.length := by
    intro g hg
    obtain ⟨s, hs, e, q⟩ := atB g hg
    have := redV_small I.eB l s hs
    rw [e] at this q
    have := h3 g hg (Lat.piv g)
    omega
  have cG := eG.count (Nat.zero_le _)
  intro i
  by_cases hf : G.length = n
  · rcases Nat.lt_or_ge i n with hi | hi
    · obtain ⟨g, hg, e⟩ := Ech.full eG (by omega) i (Nat.zero_le _) hi
      have := small g hg
      rw [e, hf] at this
      exact Nat.le_trans this (p2le (by omega))
    · rw [itm_out (by omega)]; exact Nat.zero_le _
  · have d := redV_diff (RIn.cl G) B v lB fun s hs => h2 s hs
    have q := all_bound (b := 2 ^ gbx x G.length) (A := 2 ^ (gbx x G.length + y + 1)) (Nat.two_pow_pos _) eG h3 d (fun g hg => ?_) i
    · have e1 : 4 * 2 ^ gbx x G.length = 2 ^ (gbx x G.length + 2) := by rw [Nat.pow_add, Nat.mul_comm]
      rw [e1, ← Nat.pow_mul, ← Nat.pow_add] at q
      have q2 := hw G.length (by omega)
      rw [Nat.mul_comm] at q
      have q3 : (itm v i - itm (redV B v) i).natAbs ≤ 2 ^ z := Nat.le_trans q (p2le (by omega))
      have q4 := Nat.le_trans (hv i) (p2le hy)
      rw [Nat.pow_succ]
      omega
    · show (itm v (Lat.piv g) - itm (redV B v) (Lat.piv g)).natAbs ≤ _
      have q1 := small g hg
      have q2 := hv (Lat.piv g)
      have q3 : 2 ^ gbx x G.length ≤ 2 ^ (gbx x G.length + y) := p2le (by omega)
      have q4 : 2 ^ y ≤ 2 ^ (gbx x G.length + y) := p2le (by omega)
      rw [Nat.pow_succ]
      omega
end Lat

namespace L2
open PySem PySem.Spec PyProof.Rows
/-! ### x in o, o | p, o <= p by the class's own methods -/
section
variable {X : Cx}
/-- what a call of an own method by a sign gives -/
theorem run_own {CX : CXT} {k : Nat} {g : Addr} {fd : FuncData} {ps : List Str} {sp : Sp} {E : XK} {pins : List (Addr × Obj)} {s : Shared} {σ : St} {H : Hp} {vs : List V} {us : List Value} {Q : VK} {R : Value → Shared → Prop} (F : FnOk X.prog X.w X.K X.mg X.base CX k g fd ps sp) (hr : Room k X.A) (hb : Binds X.K fd ps []) (hx : Passes CX X E)
    (I : Inv X pins σ H s) (r : Vals vs us) (q : sp vs H Q E) (hR : ∀ (w : Value) (z : V) (s' : Shared) (H' : Hp), Inv X pins σ H' s' → RelV z w → Q z H' → R w s') : wpAny (model X.prog X.w) X.A (call (.ref g) us) R X.xe s := by
  have hl := F.len _ _ _ _ q
  refine wpAny_call (codeAny_mono (F.run X.A X.stack s H ⟨us, []⟩ us vs _ E hr I.env0 (by
    have := hb s us I.kIn (by rw [List.append_nil, ← r.length]; exact hl)
    simpa using this) r q) fun r' s' hq => ?_)
  cases r' with
  | error e => exact hx pins σ H s e s' I hq
  | ok fl =>
    cases fl with
    | ret w =>
      obtain ⟨z, H', I', rz, q'⟩ := I.after hq
      exact hR w z s' H' I' rz q'
    | next => exact False.elim hq
    | brk => exact False.elim hq
    | cont => exact False.elim hq
def rInO (C : Addr) (sp : Sp) (E : XK) (n : Bool) : R2 := fun x y H Q => ∃ a dx fs, y = .ref a ∧ H a = some (.ins C dx fs) ∧ sp [.ref a, x] H (fun r H' => ∃ b, r = .bl b ∧ Q (.bl (n != b)) H') E
variable {CX : CXT} {C g : Addr} {k : Nat} {fd : FuncData} {ps : List Str} {sp : Sp} {E : XK}
theorem op_inO (F : FnOk X.prog X.w X.K X.mg X.base CX k g fd ps sp) (hs : PySem.W.findIn X.K (.ref C) "__contains__" = some (some (.ref g))) (hf : PySem.W.isFn X.K (.ref g) = true) (hr : Room k X.A) (hb : Binds X.K fd ps []) (hx : Passes CX X E) : OpR X (compareOp .In) (rInO C sp E false) := by
  intro pins s σ H x y v u Q I rx ry h
  obtain ⟨a, dx, fs, rfl, ha, q⟩ := h
  cases ry
  obtain ⟨mA, J, _⟩ := ins_get I.hok ha
  obtain ⟨od, J, _⟩ := J.look
  obtain ⟨m, hF⟩ := I.fr
  refine PySem.W.in_K hF I.ok.mod.kin J hs hf ?_
  refine run_own F hr hb hx I (show Vals [V.ref a, x] [Value.ref a, v] from .cons rfl (.cons rx .nil)) q fun w z s' H' I' rz qz => ?_
  obtain ⟨b, rfl, qb⟩ := qz
  cases rz
  refine wpAny_truthy_bool ⟨.bl b, H', I', rfl, ?_⟩
  cases b <;> exact qb
theorem op_notInO (F : FnOk X.prog X.w X.K X.mg X.base CX k g fd ps sp) (hs : PySem.W.findIn X.K (.ref C) "__contains__" = some (some (.ref g))) (hf : PySem.W.isFn X.K (.ref g) = true) (hr : Room k X.A) (hb : Binds X.K fd ps []) (hx : Passes CX X E) : OpR X (compareOp .NotIn) (rInO C sp E true) := by
  intro pins s σ H x y v u Q I rx ry h
  obtain ⟨a, dx, fs, rfl, ha, q⟩ := h
  cases ry
  obtain ⟨mA, J, _⟩ := ins_get I.hok ha
  obtain ⟨od, J, _⟩ := J.look
  obtain ⟨m, hF⟩ := I.fr
  refine PySem.W.notIn_K hF I.ok.mod.kin J hs hf ?_
  refine run_own F hr hb hx I (show Vals [V.ref a, x] [Value.ref a, v] from .cons rfl (.cons rx .nil)) q fun w z s' H' I' rz qz => ?_
  obtain ⟨b, rfl, qb⟩ := qz
  cases rz
  refine wpAny_truthy_bool ⟨.bl (!b), H', I', rfl, ?_⟩
  cases b <;> exact qb
end
end L2

namespace L2
open PySem PySem.Spec PyProof.Rows RZ
/-! ### zip of a list and a tuple -/
def ItzM (K : PySem.W.Frag) (a b : Addr) : It :=
  ⟨fun i H => ∃ (vs ws : List V) (v w : V), SqL K H a vs ∧ SqT K H b ws ∧ vs[i]? = some v ∧ ws[i]? = some w,
    fun i H r H' => ∃ T v w, r = .ref T ∧ H T = none ∧ H' = upd H T (.tup [v, w]) ∧ (∀ vs, SqL K H a vs → vs[i]? = some v) ∧ ∀ ws, SqT K H b ws → ws[i]? = some w,
    fun i H => ∃ vs ws : List V, SqL K H a vs ∧ SqT K H b ws ∧ i ≤ vs.length ∧ i ≤ ws.length ∧ (i = vs.length ∨ i = ws.length)⟩
theorem sep_of {z TI TO i1 i2 a b : Addr} (D : ZipApart z TI TO i1 i2 a b) : ZipSep2 z TI TO i1 i2 [i1, a] [i2, b] where
  TIz := D.TIz
  TOz := D.TOz
  TITO := D.TITO
  TIi1 := D.TIi1
  mem1 := by simp
  zf1 := by simpa using ⟨D.i1z.symm, D.l1z.symm⟩
  Tf1 := by simpa using ⟨D.TOi1, D.l1TO.symm⟩
  TIi2 := D.TIi2
  mem2 := by simp
  zf2 := by simpa using ⟨D.i2z.symm, D.l2z.symm⟩
  Tf2 := by simpa using ⟨D.TOi2, D.l2TO.symm⟩
  sep1_2 := by simpa using ⟨D.i12, D.l2i1.symm⟩
  sep2_1 := by simpa using ⟨D.i12.symm, D.l1i2.symm⟩
theorem turn_zipM {P : Program} {w : World} {K : PySem.W.Frag} {es : List Expr} {n0 : Nat} {tp : Pos} {a b z TI TO i1 i2 : Addr} (D : ZipApart z TI TO i1 i2 a b) :
    Turn P w K (.Tuple es n0 tp) (ItzM K a b) [z, TI, TO, i1, i2] z (fun i g => IsZip g z TI TO .none ∧ IsTupOf2 g TI (.ref i1) (.ref i2) ∧ (∃ p q, IsTupOf2 g TO p q) ∧ g.IsListIter i1 a i ∧ g.IsTupleIter i2 b i) where
  mem := List.mem_cons_self
  obj := fun i g st c hc => by
    obtain ⟨gz, gI, ⟨p, q, gO⟩, ⟨o1, e1, _, d1⟩, ⟨o2, e2, _, d2⟩⟩ := st
    have cases5 : c = z ∨ c = TI ∨ c = TO ∨ c = i1 ∨ c = i2 := by simpa using hc
    rcases cases5 with r | r | r | r | r <;> rw [r]
    · exact ⟨_, gz, fun _ f => nomatch f⟩
    · exact ⟨_, gI, fun _ f => nomatch f⟩
    · exact ⟨_, gO, fun _ f => nomatch f⟩
    · exact ⟨o1, e1, fun _ f => by rw [d1] at f; cases f⟩
    · exact ⟨o2, e2, fun _ f => by rw [d2] at f; cases f⟩
  keep := fun i g g' st kp => by
    obtain ⟨gz, gI, ⟨p, q, gO⟩, l1, l2⟩ := st
    have k : ∀ c, c ∈ [z, TI, TO, i1, i2] → ∀ o, g.get? c = some o → g'.get? c = some o := kp
    refine ⟨k z (by simp) _ gz, k TI (by simp) _ gI, ⟨p, q, k TO (by simp) _ gO⟩, l1.at fun o => k i1 (by simp) o, l2.at fun o => k i2 (by simp) o⟩
  item := by
    intro X eP ew eK hc i pins s σ H E I hf st hg
    subst eP ew eK
    obtain ⟨gz, gI, ⟨p, q, gO⟩, l1, l2⟩ := st
    obtain ⟨vs, ws, v, v2, qa, qb, ev, ew⟩ := hg
    obtain ⟨us, rv, pa, _⟩ := I.list qa
    obtain ⟨us2, rv2, pb, _⟩ := I.tuple qb
    obtain ⟨u, hu, ru⟩ := rv.get ev
    obtain ⟨u2, hu2, ru2⟩ := rv2.get ew
    have zlt : z < s.heap.objs.size := Heap.lt_size gz
    have bi1 : i < us.toArray.size := by rw [List.size_toArray]; exact (List.getElem?_eq_some_iff.mp hu).1
    have bi2 : i < us2.toArray.size := by rw [List.size_toArray]; exact (List.getElem?_eq_some_iff.mp hu2).1
    refine wpAny_pyNext_zipD2_item (sep_of D) (Draws.list (A := X.A.in1) (I.ok.hd hc) i1 a D.l1i1 us.toArray) (Draws.tuple (A := X.A.in1) (I.ok.hd hc) i2 b D.l2i2 us2.toArray) gz gI gO ⟨l1, pa.isList⟩ ⟨l2, pb⟩ bi1 bi2 fun x1 x2 h' tk y1 y2 z' TO' m1 m2 hT hsz kp => ?_
    have e1 : x1 = u := by
      have := (show us.toArray[i]? = some x1 from y1)
      rw [show us.toArray[i]? = us[i]? by simp, hu] at this
      exact (Option.some.inj this).symm
    have e2 : x2 = u2 := by
      have := (show us2.toArray[i]? = some x2 from y2)
      rw [show us2.toArray[i]? = us2[i]? by simp, hu2] at this
      exact (Option.some.inj this).symm
    subst e1 e2
    refine ⟨_, rfl, wpAny_letOwnedTupleGo_zip (s := { s with heap := h', toks := tk }) z' fun h'' z'' sm => ?_⟩
    have newT : h''.get? s.heap.objs.size = some { cls := .type "tuple", data := .seq #[x1, x2] } := (sm.2 _ (Nat.ne_of_gt zlt)).trans hT
    have ok : ObjOk X.prog X.w (upd H s.heap.objs.size (.tup [v, v2])) h'' s.heap.objs.size (.tup [v, v2]) :=
      ⟨by show 2 ≤ sizeLine; decide, [x1, x2], .cons ru (.cons ru2 .nil), ⟨_, newT, rfl, _, rfl⟩⟩
    have J : Inv X pins σ (upd H s.heap.objs.size (.tup [v, v2])) { s with heap := h'', toks := tk } := by
      refine I.turnedNew (t' := tk) (ch := [z, TI, TO, i1, i2]) (fun c o nc r => ?_) hf (Nat.le_refl _) ok
      have n5 : c ≠ z ∧ c ≠ TI ∧ c ≠ TO ∧ c ≠ i1 ∧ c ≠ i2 := by simpa using nc
      exact (sm.2 c n5.1).trans (kp c o n5.1 n5.2.2.1 n5.2.2.2.1 n5.2.2.2.2 r)
    refine ⟨.ref s.heap.objs.size, _, J, rfl, ⟨_, v, v2, rfl, I.hok.fresh (Nat.le_refl _), rfl, fun l hl => by rw [I.list_inj hl qa]; exact ev, fun l hl => by rw [I.tuple_inj hl qb]; exact ew⟩, ⟨z'', ?_, ⟨x1, x2, ?_⟩, ?_, ?_⟩, fun c hcm => ?_⟩
    · exact (sm.2 _ D.TIz).trans (kp _ _ D.TIz D.TITO D.TIi1 D.TIi2 gI)
    · exact (sm.2 _ D.TOz).trans TO'
    · exact m1.1.at fun o r => (sm.2 _ D.i1z).trans r
    · exact m2.1.at fun o r => (sm.2 _ D.i2z).trans r
    · have clt : c < s.heap.objs.size := by
        have cases5 : c = z ∨ c = TI ∨ c = TO ∨ c = i1 ∨ c = i2 := by simpa using hcm
        rcases cases5 with r | r | r | r | r <;> rw [r]
        · exact zlt
        · exact Heap.lt_size gI
        · exact Heap.lt_size gO
        · obtain ⟨_, e1, _⟩ := l1; exact Heap.lt_size e1
        · obtain ⟨_, e2, _⟩ := l2; exact Heap.lt_size e2
      rw [upd_ne (Nat.ne_of_lt clt)]
      exact (hf c hcm).1
  done := by
    intro X eP ew eK hc i pins s σ H E I hf st hg
    subst eP ew eK
    obtain ⟨gz, gI, ⟨p, q, gO⟩, l1, l2⟩ := st
    obtain ⟨vs, ws, qa, qb, n1, n2, fin⟩ := hg
    obtain ⟨us, rv, pa, _⟩ := I.list qa
    obtain ⟨us2, rv2, pb, _⟩ := I.tuple qb
    have len1 : us.toArray.size = vs.length := by rw [List.size_toArray, rv.length]
    have len2 : us2.toArray.size = ws.length := by rw [List.size_toArray, rv2.length]
    refine wpAny_pyNext_zipD2_end (sep_of D) (Draws.list (A := X.A.in1) (I.ok.hd hc) i1 a D.l1i1 us.toArray) (Draws.tuple (A := X.A.in1) (I.ok.hd hc) i2 b D.l2i2 us2.toArray) gz gI gO ⟨l1, pa.isList⟩ ⟨l2, pb⟩ (by omega) (by omega) (by omega) fun h' tk kp => ⟨rfl, I.turnedL (t' := tk) (ch := [z, TI, TO, i1, i2]) (fun c o nc r => ?_) hf⟩
    have n5 : c ≠ z ∧ c ≠ TI ∧ c ≠ TO ∧ c ≠ i1 ∧ c ≠ i2 := by simpa using nc
    exact kp c o n5.1 n5.2.2.1 n5.2.2.2.1 n5.2.2.2.2 r
  self := fun A i s Q E st h => wpAny_pyIter_zip st.1 h
def iZipM (K : PySem.W.Frag) (ta : TA) : TI := fun σ H R => ta σ H fun vs H1 => ∃ a b xs ys, vs = [.ref a, .ref b] ∧ SqL K H1 a xs ∧ SqT K H1 b ys ∧ R (ItzM K a b) H1
theorem pi_zipM {X : Cx} {e e2 : Expr} {ta : TA} {p pos tpos : Pos} {elts : List Expr} {kk : Nat} (hg : Gl X "zip") (hm : X.mg "zip" = none) (ha : PA X [e, e2] ta)
    (hs : starEach [e, e2] X.env = (false, eval e X.env) :: starEach [e2] X.env := by rfl) (hpl : (backTo pos (starEach [e2] X.env)).any (·.1) = false := by rfl) :
    PI X (.Tuple elts kk tpos) (.Call (.Name "zip" p) [e, e2] [] pos) (iZipM X.K ta) := by
  refine ⟨fun pins s σ H R I h => Call_ (ld_blt I hg hm PyProof.Rows.boot_zip (PyProof.Rows.callWith_type1 (thn (ha.run pos pins s σ H _ I h) fun us s1 ⟨vs, H1, I1, r1, q1⟩ => ?_) hs hpl))⟩
  obtain ⟨a, b, xs, ys, ex, qx, qy, q⟩ := q1
  subst ex
  cases r1 with
  | cons r rr =>
    cases rr with
    | cons r' rr =>
      cases rr
      cases r
      cases r'
      obtain ⟨its, rv, p1, _⟩ := I1.list qx
      obtain ⟨its2, rv2, p2, _⟩ := I1.tuple qy
      obtain ⟨o2, ho2, _⟩ := id p2
      let N := s1.heap.objs.size
      have new5 : ∀ c, c ∈ [N + 4, N + 2, N + 3, N, N + 1] → FpOk X pins H1 c := fun c hcm => by
        have q5 : c = N + 4 ∨ c = N + 2 ∨ c = N + 3 ∨ c = N ∨ c = N + 1 := by simpa using hcm
        have le5 : s1.heap.objs.size ≤ c := by
          show N ≤ c
          omega
        exact I1.fpOk le5 (I1.hok.fresh le5)
      refine zip_begins2 (begins_list a its.toArray) (begins_tuple b its2.toArray) p1.isList p2 fun h' hz hTI hTO h1 h2 hsz hk => wpAny_pyIter_zip hz ?_
      have I2 : Inv X pins σ H1 { s1 with heap := h' } := I1.kept (t' := s1.toks) hk
      exact ⟨N + 4, [N + 4, N + 2, N + 3, N, N + 1], _, _, H1, rfl, I2, turn_zipM (PySem.W.ktu_apart s1.heap.objs.size a b p1.lt (Heap.lt_size ho2)), ⟨hz, hTI, ⟨_, _, hTO⟩, ⟨_, h1, rfl, rfl⟩, ⟨_, h2, rfl, rfl⟩⟩, new5, q⟩
theorem walk_zipM {K : PySem.W.Frag} {a b : Addr} {xs ys : List V} {n : Nat} (hn : xs.length = n) (hm : ys.length = n) : Walk (ItzM K a b) n (fun H => SqL K H a xs ∧ SqT K H b ys) (YPair (fun i => xs[i]?) (fun i => ys[i]?)) := by
  refine ⟨fun i H hi h => ⟨xs, ys, xs[i]'(by omega), ys[i]'(by omega), h.1, h.2, List.getElem?_eq_getElem _, List.getElem?_eq_getElem _⟩, fun H h => ⟨xs, ys, h.1, h.2, by omega, by omega, by omega⟩, fun i H x H' hi h y => ?_⟩
  obtain ⟨T, z, z2, e1, e2, e3, e4, e5⟩ := y
  exact ⟨T, z, z2, e1, e2, e3, e4 xs h.1, e5 ys h.2⟩
end L2

namespace L2
open PySem PySem.Spec PyProof.Rows PySem.W
/-- a law's def keeps its promise where nothing is being shown around the call -/
structure LawOk (P : Program) (w : World) (K : PySem.W.Frag) (mg : Str → Option Value) (base : Heap) (k : Nat) (f : Addr) (sp : Sp) : Prop where
  run : ∀ (A : Around) (s : Shared) (H : Hp) (u : Value) (v : V) (Q : VK), A.guards = some [] → Room k A → Env0 P w K mg base A [] s H → RelV v u → sp [v] H Q E0 → codeAny (model P w) A (.call (.ref f) ⟨[u], []⟩) (CR CX0 [] P w H s Q E0) s
theorem LawOk.of {P : Program} {w : World} {K : PySem.W.Frag} {mg : Str → Option Value} {base : Heap} {k : Nat} {f : Addr} {nm qual x : Str} {st : Stmt} {fd : FuncData} {N : List Str} {sp : Sp} (F : Fun K nm qual st f fd) (S : FnScope N [x] (defScope st))
    (hb : ∀ (s : Shared) (u : Value), K.In s.heap → BindsTo s fd ⟨[u], []⟩ [(x, u)])
    (body : ∀ (cdv : Value) (A : Around) (s : Shared) (H : Hp) (v : V) (Q : VK), A.guards = some [] → Room k (A.deeper (envOfC qual (defScope st) s.heap.objs.size f cdv)) → sp [v] H Q E0 →
      ∃ t, PSs (cxOf CX0 P w K mg base N qual (defScope st) f cdv A [] s H E0).nox (defBody st) t ∧ t { nx := fun _ H' => Q .non H', rt := Q } (start N [v]) H) : LawOk P w K mg base (k + 1) f sp := by
  obtain ⟨oc, od, kV, doc, pm, an, cdv, ct, osl, e, lk, hcd⟩ := F.ex
  subst e
  refine ⟨fun A s H u v Q hg hr z0 r q => ?_⟩
  have KI : K.In s.heap := z0.mod.kin.keeps fun b o y => (z0.bs b o y).1
  have zl : s.heap.NoLimit := z0.mod.nolimit.keeps fun b o y => (z0.bs b o y).1
  have kinds : ∀ y ∈ [x].zip [u], (defScope st).names.lookup y.1 = some .local ∨ ((defScope st).names.lookup y.1 = some .cell ∧ ((cellsFrom (s.heap.objs.size + 1) (defScope st).names []).lookup y.1).isSome = true) := by
    rintro ⟨n, v'⟩ hy
    exact (S.par n (List.of_mem_zip hy).1).imp (fun y => y) fun y => ⟨y, PySem.W.cellsFrom_some _ _ _ (.inl y)⟩
  refine codeAny_call_function hr.depth (KI _ _ lk) rfl S.co S.gen rfl (PySem.W.codeRec_of KI hcd) (hb s u KI _ _ _ _ (wpAny_newFunctionEnv_cells S.kind kinds fun env he s1 y => ?_))
  subst he
  obtain ⟨t, ht, hq⟩ := body cdv A s H v Q hg (hr.deeper _) q
  have I := inv_start (CX := CX0) (E := E0) S hr.hd z0 rfl (.cons r .nil) y
  refine ⟨zl.keeps y.toInCall.keep, codeAny_func (wpAny_mono (ht.nox.run [] s1 (start N [v]) H _ I hq) (fun fl s' hs => ?_) fun _ _ hs => hs)⟩
  match fl, hs with
  | .ret u, ⟨v, σ', H', J, rv, q⟩ => exact ⟨v, H', J.os, J.bare, J.base, J.hok, rv, q⟩
  | .next, ⟨σ', H', J, q⟩ => exact ⟨V.non, H', J.os, J.bare, J.base, J.hok, rfl, q⟩
  | .brk, ⟨_, _, _, q⟩ => exact q.elim
  | .cont, ⟨_, _, _, q⟩ => exact q.elim

/-- what the caller of the law sees: nothing stood there but the script, locked -/
theorem LawOk.called {P : Program} {w : World} {K : PySem.W.Frag} {mg mb : Str → Option Value} {k : Nat} {fa a : Addr} {sp : Sp} {z : Shared} {vs : List Value} {ns : List Int} (KI : K.In z.heap) (g1 : z.heap.Ns mainGlobals mg) (g2 : z.heap.Ns builtinsNs mb)
    (g3 : ∀ x : Str, x ≠ "__name__" → mb x = bootBuiltins x) (g4 : z.heap.NoLimit) (g5 : z.gens = #[]) (ha : z.heap.get? a = some { cls := .type "list", data := .seq vs.toArray }) (hi : IntsAre vs ns) (hl : ns.length ≤ sizeLine) (hr : Room k callerA)
    (F : ∀ base : Heap, K.In base → base.Ns mainGlobals mg → LawOk P w K mg base k fa sp) (hsp : ∀ H : Hp, SqL K H a (ns.map V.int) → sp [.ref a] H (fun v _ => v = .bl true) E0) :
    codeAny (model P w) callerA (.call (.ref fa) ⟨[.ref a], []⟩) (fun r s' => r = .ok (.ret (.bool true)) ∧ OldK z.heap s'.heap ∧ s'.os = z.os ∧ AllBare s'.gens) z := by
  have rv := vals_ints hi
  have lv := hi.length
  have main : ∀ H : Hp, (∀ b u, H b = some u → b = a ∧ K.lookup a = none ∧ ∃ ys, u = .frz { cls := .type "list", data := .seq vs.toArray } ys) → SqL K H a (ns.map V.int) → HOk P w H z.heap →
      codeAny (model P w) callerA (.call (.ref fa) ⟨[.ref a], []⟩) (fun r s' => r = .ok (.ret (.bool true)) ∧ OldK z.heap s'.heap ∧ s'.os = z.os ∧ AllBare s'.gens) z := by
    intro H hA hS hok
    have no : ∀ {b : Addr} {o : Obj}, z.heap.get? b = some o → (b = a → K.lookup a ≠ none ∨ ∃ es ep, o.data = .dict es ep) → H b = none := fun {b o} e d => by
      cases q : H b with
      | none => rfl
      | some u =>
        obtain ⟨e1, e2, _⟩ := hA b u q
        rcases d e1 with d1 | ⟨es, ep, d1⟩
        · exact absurd e2 d1
        · rw [e1] at e
          cases ha.symm.trans e
          cases d1
    have kb : K.In (hidT z.heap H) := fun b o e => hidT_get (KI b o e) (no (KI b o e) fun _ => .inl (by rw [← (by assumption : b = a), e]; simp))
    have nb : ∀ {b : Addr} {m : Str → Option Value}, z.heap.Ns b m → (hidT z.heap H).Ns b m := fun {b m} q => by
      obtain ⟨o, es, ep, e, d, r⟩ := q
      exact ⟨o, es, ep, hidT_get e (no e fun _ => .inr ⟨es, ep, d⟩), d, r⟩
    have z0 : Env0 P w K mg (hidT z.heap H) callerA [] z H := by
      refine ⟨rfl, ⟨kb, nb g1, ⟨mb, nb g2, g3⟩, ?_⟩, fun b o e => of_hidT e, Nat.le_of_eq (hidT_size _ _), trivial, fun b hb => absurd (show b ∈ ([] : List Addr) from hb) (by simp), hok, .of_eq g5⟩
      obtain ⟨mc, q1, q2⟩ := g4
      exact ⟨mc, nb q1, q2⟩
    refine codeAny_mono ((F _ kb (nb g1)).run callerA z H (.ref a) (.ref a) (fun v _ => v = .bl true) rfl hr z0 rfl (hsp H hS)) fun r s' h => ?_
    match r, h with
    | .error e, h => exact h.elim
    | .ok .next, h => exact h.elim
    | .ok .brk, h => exact h.elim
    | .ok .cont, h => exact h.elim
    | .ok (.ret u), ⟨v, H', os, bare, un, hok', r', q⟩ =>
      subst q
      obtain rfl : u = Value.bool true := r'
      refine ⟨rfl, OldK.of_keep fun b o e => ?_, os, bare⟩
      cases q : H b with
      | none => exact un.keep b o e q (fun y => absurd (show b ∈ ([] : List Addr) from y) (by simp)) (by simp)
      | some u =>
        obtain ⟨e1, _, ys, e2⟩ := hA b u q
        subst e2
        obtain ⟨y1, _⟩ := hok b _ q
        obtain ⟨y2, _⟩ := hok' b _ (un.frzs b _ ys q)
        cases e.symm.trans y1
        exact y2
  cases hk : K.lookup a with
  | some o =>
    cases (KI a o hk).symm.trans ha
    exact main (fun _ => none) (fun b u y => nomatch y) (.inr ⟨_, vs.toArray, _, hk, rfl, rfl, rfl, by rw [List.size_toArray, lv]; exact hl, by simpa using rv⟩) fun b u y => nomatch y
  | none =>
    have key : ∀ b u, (if b = a then some (HO.frz { cls := .type "list", data := .seq vs.toArray } (.lst (ns.map V.int))) else none) = some u → b = a ∧ u = .frz { cls := .type "list", data := .seq vs.toArray } (.lst (ns.map V.int)) := fun b u y => by
      by_cases hb : b = a
      · rw [if_pos hb] at y
        exact ⟨hb, (Option.some.inj y).symm⟩
      · rw [if_neg hb] at y
        cases y
    refine main (fun b => if b = a then some (.frz { cls := .type "list", data := .seq vs.toArray } (.lst (ns.map V.int))) else none) (fun b u y => ?_) (.inl (.inr ⟨_, if_pos rfl⟩)) fun b u y => ?_
    · obtain ⟨y1, y2⟩ := key b u y
      exact ⟨y1, hk, _, y2⟩
    · obtain ⟨y1, y2⟩ := key b u y
      subst y1 y2
      exact ⟨ha, by rw [List.length_map]; exact hl, vs, _, rv, ha⟩
theorem walk_law {l : PySem.W.OpenLaw} {n k : Nat} {q : Program} {loose : List Str} {XP : (Str → Option Value) → Heap → Prop} {YP : World → Heap → Prop} {d : DefRec} {K : Params → PySem.W.Frag} {sp : PySem.W.Frag → Sp} (hn : l.most = some n) (hn2 : n ≤ sizeLine)
    (hdf : d.params.defaults = []) (hr : Room k callerA) (hY : ∀ (w : World) (h : Heap), YP w h → (K w.params).In h)
    (F : ∀ (w : World) (mg : Str → Option Value) (fa : Addr) (h : Heap), (K w.params).In h → h.Ns mainGlobals mg → mg d.name = some (.ref fa) → ∀ base : Heap, (K w.params).In base → base.Ns mainGlobals mg → LawOk l.prog w (K w.params) mg base k fa (sp (K w.params)))
    (hsp : ∀ (K : PySem.W.Frag) (H : Hp) (a : Addr) (ns : List Int), ns.length ≤ n → SqL K H a (ns.map V.int) → sp K [.ref a] H (fun v _ => v = .bl true) E0) : PySem.W.WalkO q loose XP YP l.row.toRowW d [] (fun f vs => PySem.call f vs) := by
  refine Att.attach_call hn hdf fun w s₀ s₁ mg mb fa o pm cd doc a vs ns G Y ho hd hcd hmg hobj hints hlen hg => ?_
  exact LawOk.called (hY w _ Y) G.T.g G.T.b G.T.builtins G.T.nolimit hg hobj hints (Nat.le_trans hlen hn2) hr (F w mg fa _ (hY w _ Y) G.T.g hmg) fun H hS => hsp _ H a ns hlen hS
end L2

namespace L2
open PySem PySem.Spec PyProof.Rows
section
variable {X : Cx}
theorem call_repr_bl : CallR X (.builtin "repr") (fun xs H Q => ∃ b, xs = [.bl b] ∧ Q (.str (if b then "True" else "False" : String)) H) := by
  intro pins s σ H xs us Q I r h
  obtain ⟨b, rfl, q⟩ := h
  match us, r with
  | [u], .cons r1 .nil =>
    cases r1
    refine PySem.P.repr_of_bool ⟨.str _, H, I.tok _, ⟨_, rfl⟩, ?_⟩
    cases b <;> exact q
/-- repr(x), x a list or tuple of data, where nothing else is being shown -/
def rRepr (K : PySem.W.Frag) : List V → Hp → VK → Prop := fun xs H Q => ∃ (a : Addr) (d : PyData), xs = [.ref a] ∧ Dp K H (.ref a) d ∧ d.showable = true ∧ d.hasDict = false ∧ d.depth ≤ 60 ∧ d.shown.length ≤ sizeLine ∧ Q (.str d.shown) H
theorem call_reprD (hg : X.A.guards = some []) (hu : X.A.units + 64 < cLine) : CallR X (.builtin "repr") (rRepr X.K) := by
  intro pins s σ H xs us Q I r h
  obtain ⟨a, d, rfl, hd, h1, h2, h3, h4, q⟩ := h
  match us, r with
  | [u], .cons r1 .nil =>
    obtain ⟨as, R⟩ := Dp.reads I d _ u hd r1
    obtain rfl : u = Value.ref a := r1
    refine repr_of_reads' R h1 (fun z => ?_) hg (by omega) (fun b o z => z) (fun h' u tk k => ?_) h4
    · rw [h2] at z; cases z
    · exact ⟨.str d.shown, H, I.kept (t' := tk) k, ⟨_, rfl⟩, q⟩
end
/-- a tuple of ints that are not too long is shown -/
theorem ints_shown : ∀ v : List Int, (∀ n ∈ v, n.natAbs.log2 < 1920) → PyData.showableAll (v.map PyData.int) = true ∧ PyData.hasDictAll (v.map PyData.int) = false ∧ PyData.depthAll (v.map PyData.int) = 0 ∧ ((PyData.shownAll (v.map PyData.int)).map (·.length)).sum ≤ 1921 * v.length ∧ (PyData.shownAll (v.map PyData.int)).length = v.length
  | [], _ => ⟨rfl, rfl, rfl, Nat.le_refl _, rfl⟩
  | n :: v, h => by
    obtain ⟨a1, a2, a3, a4, a5⟩ := ints_shown v fun x hx => h x (List.mem_cons_of_mem _ hx)
    have hn := h n List.mem_cons_self
    have q := int_text_length_le (a := n) (k := 1920) (by decide) hn
    refine ⟨?_, ?_, ?_, ?_, ?_⟩
    · simp only [List.map_cons, PyData.showableAll, PyData.showable, a1, decide_eq_true hn, Bool.and_self]
    · simp only [List.map_cons, PyData.hasDictAll, PyData.hasDict, a2, Bool.or_self]
    · simp only [List.map_cons, PyData.depthAll, PyData.depth, a3]; rfl
    · simp only [List.map_cons, PyData.shownAll, List.sum_cons, List.length_cons, PyData.shown]
      have e : (Str.ofString (toString n)).length = (toString n).length := PySem.ofString_length _
      have : (Str.ofString (toString n)).length ≤ 1921 := by rw [e]; exact q
      show (Str.ofString (toString n)).length + _ ≤ _
      omega
    · simp only [List.map_cons, PyData.shownAll, List.length_cons, a5]
theorem tup_shown {v : List Int} (h : ∀ n ∈ v, n.natAbs.log2 < 1920) (l : v.length ≤ 1000) : (PyData.tuple (v.map PyData.int)).showable = true ∧ (PyData.tuple (v.map PyData.int)).hasDict = false ∧ (PyData.tuple (v.map PyData.int)).depth ≤ 60 ∧ (PyData.tuple (v.map PyData.int)).shown.length ≤ sizeLine := by
  obtain ⟨a1, a2, a3, a4, a5⟩ := ints_shown v h
  refine ⟨?_, ?_, ?_, ?_⟩
  · simpa only [PyData.showable] using a1
  · simpa only [PyData.hasDict] using a2
  · simp only [PyData.depth]; omega
  · have q := tupleText_len_le (PyData.shownAll (v.map PyData.int))
    simp only [PyData.shown]
    rw [sizeLine_eq]; omega
end L2

namespace K06
open PySem L2 RZ Lat
def top (i : Nat) : Stmt := PySem.Challenge.pw_sumlives_k04_vectors_in_lattices.main.body.getD i (.Pass ⟨0, 0, 0, 0⟩)
structure Txt (mg : Str → Option Value) : Prop where
  z_len : mg "len" = none
  z_abs : mg "abs" = none
  z_int : mg "int" = none
  z_max : mg "max" = none
  z_min : mg "min" = none
  z_range : mg "range" = none
  z_enumerate : mg "enumerate" = none
  z_isinstance : mg "isinstance" = none
  z_repr : mg "repr" = none
  z_zip : mg "zip" = none
  z_sum : mg "sum" = none
  z_all : mg "all" = none
  z_tuple : mg "tuple" = none
  z_list : mg "list" = none
  z_bool : mg "bool" = none
theorem new_at {H : Hp} {p : Addr} {o : HO} (h : H p = none) : Same H (upd H p o) ∧ upd H p o p = some o :=
  ⟨fun b u z => by rw [upd_ne (ne_of_none z h)]; exact z, upd_same⟩
/-- a tuple of ints -/
abbrev IsV (H : Hp) (a : Addr) (v : Vec) : Prop := H a = some (.tup (v.map V.int))
theorem Same.sqt {K : PySem.W.Frag} {H H' : Hp} {a : Addr} {xs : List V} (e : Same H H') (h : SqT K H a xs) : SqT K H' a xs := by
  rcases h with (h | ⟨o, h⟩) | h
  · exact .inl (.inl (e _ _ h))
  · exact .inl (.inr ⟨o, e _ _ h⟩)
  · exact .inr h
theorem map_at {v : Vec} {i : Nat} {x : V} (h : (v.map V.int)[i]? = some x) : ∃ n, v[i]? = some n ∧ x = V.int n := by
  rw [List.getElem?_map] at h
  cases e : v[i]? with
  | none => rw [e] at h; cases h
  | some n => rw [e] at h; exact ⟨n, rfl, (Option.some.inj h).symm⟩
theorem take_snoc {v : Vec} {i : Nat} {n : Int} (h : v[i]? = some n) : ((v.take (i + 1)).map V.int) = (v.take i).map V.int ++ [V.int n] := by
  rw [List.take_add_one, h, List.map_append]; rfl
theorem take_all {v : Vec} {n : Nat} (h : v.length = n) : (v.take n).map V.int = v.map V.int := by rw [← h, List.take_length]
section
variable {P : Program} {w : World} {K : PySem.W.Frag} {mg : Str → Option Value} {base : Heap}
theorem Has.imp {k : Nat} {nm : Str} {ps : List Str} {sp sp' : Sp} (h : Has P w K mg base k nm ps sp) (i : ∀ vs H Q E, sp' vs H Q E → sp vs H Q E) : Has P w K mg base k nm ps sp' := by
  obtain ⟨f, fd, F, m, kp, b⟩ := h
  exact ⟨f, fd, F.imp i, m, kp, b⟩
/-- ints, bools, None -/
inductive Flat : V → Bool → Prop where
  | int (i : Int) : Flat (.int i) true
  | bl (b : Bool) : Flat (.bl b) false
  | non : Flat .non false
abbrev s_is_integer : Stmt := top 2
abbrev n_is_integer : List Str := ["value"]
theorem sc_is_integer : FnScope n_is_integer ["value"] (defScope s_is_integer) := ⟨rfl, rfl, rfl, by decide +kernel, rfl, by decide +kernel, by decide +kernel⟩
def spIntG : Sp := fun vs H Q _ => ∃ (x : V) (b : Bool), vs = [x] ∧ Flat x b ∧ Q (.bl b) H
theorem ok_is_integerG (T : Txt mg) (F : DefAt K mg "is_integer" s_is_integer ["value"]) : Has P w K mg base 1 "is_integer" ["value"] spIntG := by
  refine F.has sc_is_integer (fun vs H Q E h => ?_) (fun f cdv A outer s H vs Q E hr h => ?_)
  · obtain ⟨x, b, rfl, _⟩ := h
    rfl
  · obtain ⟨x, b, rfl, fl, k⟩ := h
    refine ⟨_, (pss_one (ps_ret (pe_and (pe_callB call_isi (by rfl) T.z_isinstance (by decide +kernel) (pa_cons (pv 0) (pa_cons (pe_bltn (v := .ty "int") (by rfl) T.z_int (by decide +kernel) rfl) pa_nil))) (pe_one (pe_not (pe_callB call_isi (by rfl) T.z_isinstance (by decide +kernel) (pa_cons (pv 0) (pa_cons (pe_bltn (v := .ty "bool") (by rfl) T.z_bool (by decide +kernel) rfl) pa_nil)))))))), ?_⟩
    cases fl with
    | int i =>
      refine ⟨_, rfl, _, _, _, _, true, rfl, .ty _, .base (.int i), kit_ty (by decide +kernel), _, rfl, ?_⟩
      exact ⟨_, rfl, _, _, _, _, false, rfl, .ty _, .base (.int i), kit_ty (by decide +kernel), _, rfl, k⟩
    | bl b =>
      refine ⟨_, rfl, _, _, _, _, true, rfl, .ty _, .base (.bl b), kit_ty (by decide +kernel), _, rfl, ?_⟩
      exact ⟨_, rfl, _, _, _, _, true, rfl, .ty _, .base (.bl b), kit_ty (by decide +kernel), _, rfl, k⟩
    | non => exact ⟨_, rfl, _, _, _, _, false, rfl, .ty _, .base .non, kit_ty (by decide +kernel), _, rfl, k⟩
def spInt : Sp := fun vs H Q _ => ∃ i : Int, vs = [.int i] ∧ Q (.bl true) H
theorem ok_is_integer (g : Has P w K mg base 1 "is_integer" ["value"] spIntG) : Has P w K mg base 1 "is_integer" ["value"] spInt :=
  Has.imp g fun vs H Q E h => by
    obtain ⟨i, rfl, k⟩ := h
    exact ⟨_, _, rfl, .int i, k⟩
/-- a list of the run, or an empty tuple that the text has written -/
def InSeq (K : PySem.W.Frag) (H : Hp) (l : Addr) (as : List V) : Prop := H l = some (.lst as) ∨ ((∃ o, K.lookup l = some o ∧ o.cls = .type "tuple") ∧ as = [] ∧ SqT K H l [])
theorem InSeq.keep {K : PySem.W.Frag} {H H' : Hp} {l : Addr} {as : List V} (s : Same H H') (h : InSeq K H l as) : InSeq K H' l as := h.imp (s _ _) fun z => ⟨z.1, z.2.1, Same.sqt s z.2.2⟩
abbrev s_is_sequence : Stmt := top 3
abbrev n_is_sequence : List Str := ["value"]
theorem sc_is_sequence : FnScope n_is_sequence ["value"] (defScope s_is_sequence) := ⟨rfl, rfl, rfl, by decide +kernel, rfl, by decide +kernel, by decide +kernel⟩
def spSeq (K : PySem.W.Frag) : Sp := fun vs H Q _ => ∃ (l : Addr) (xs : List V), vs = [.ref l] ∧ InSeq K H l xs ∧ ∀ H', Same H H' → Q (.bl true) H'
theorem ok_is_sequence (T : Txt mg) (F : DefAt K mg "is_sequence" s_is_sequence ["value"]) : Has P w K mg base 1 "is_sequence" ["value"] (spSeq K) := by
  refine F.has sc_is_sequence (fun vs H Q E h => ?_) (fun f cdv A outer s H vs Q E hr h => ?_)
  · obtain ⟨l, xs, rfl, _⟩ := h
    rfl
  · obtain ⟨l, xs, rfl, hl, k⟩ := h
    refine ⟨_, (pss_one (ps_ret (pe_callB call_isiT (by rfl) T.z_isinstance (by decide +kernel) (pa_cons (pv 0) (pa_cons (pe_tup (pa_cons (pe_bltn (v := .ty "list") (by rfl) T.z_list (by decide +kernel) rfl) (pa_cons (pe_bltn (v := .ty "tuple") (by rfl) T.z_tuple (by decide +kernel) rfl) pa_nil))) pa_nil))))), ?_⟩
    refine ⟨_, rfl, (by decide : 2 ≤ sizeLine), fun t ht => ?_⟩
    obtain ⟨s1, h1⟩ := new_at (o := .tup [.ty "list", .ty "tuple"]) ht
    rcases hl with hl | ⟨⟨o, ho, hc⟩, _, _⟩
    · exact ⟨_, t, _, _, _, true, rfl, h1, .cons (.ty _) (.cons (.ty _) .nil), .base (.lst (s1 _ _ hl)), kitAny_cons (b := true) (kit_ty (by decide +kernel)) (fun z => nomatch z) (fun _ => rfl), k _ s1⟩
    · exact ⟨_, t, _, _, _, true, rfl, h1, .cons (.ty _) (.cons (.ty _) .nil), .kTuple ho hc, kitAny_cons (b := false) (kit_ty (by decide +kernel)) (fun _ => kitAny_cons (b := true) (kit_ty (by decide +kernel)) (fun z => nomatch z) (fun _ => rfl)) (fun z => nomatch z), k _ s1⟩
abbrev s_added : Stmt := top 7
abbrev n_added : List Str := ["vector", "times", "other", "number", "more"]
theorem sc_added : FnScope n_added ["vector", "times", "other"] (defScope s_added) := ⟨rfl, rfl, rfl, by decide +kernel, rfl, by decide +kernel, by decide +kernel⟩
def spAdded : Sp := fun vs H Q _ => ∃ (a b : Addr) (t : Int) (v u : Vec), vs = [.ref a, .int t, .ref b] ∧ IsV H a v ∧ IsV H b u ∧ v.length = u.length ∧ v.length ≤ 1000 ∧ (∀ m ∈ u, CMulX t m) ∧ ∀ (H' : Hp) (p : Addr), Same H H' → IsV H' p (addV v t u) → Q (.ref p) H'
theorem ok_added (T : Txt mg) (F : DefAt K mg "added" s_added ["vector", "times", "other"]) : Has P w K mg base 1 "added" ["vector", "times", "other"] spAdded := by
  refine F.has sc_added (fun vs H Q E h => ?_) (fun f cdv A outer s H vs Q E hr h => ?_)
  · obtain ⟨a, b, t, v, u, rfl, _⟩ := h
    rfl
  · obtain ⟨a, b, t, v, u, rfl, hv, hu, hl, h1, hm, k⟩ := h
    refine ⟨_, (pss_one (ps_ret (pe_callTy call_tuple_of (by rfl) T.z_tuple (by decide +kernel) (pa_cons (pe_lc (own := [("number", 3), ("more", 4)]) (g := gTup K 2 (gCons (gName 3) (gCons (gName 4) gNil))) (by rfl) sc_added.nd (pi_zipA (by rfl) T.z_zip (pa_cons (pv 0) (pa_cons (pv 2) pa_nil))) (blkOk_by (own := [("number", 3), ("more", 4)]) (N := n_added) (sc := defScope s_added) (by decide +kernel)) (fun _ _ _ _ _ => (pg_tup rfl (pgs_cons (pg_name (i := 3) sc_added.nd rfl (Or.inl rfl)) (pgs_cons (pg_name (i := 4) sc_added.nd rfl (Or.inl rfl)) pgs_nil)))) (fun _ _ _ _ _ => pts_nil) (fun _ _ _ _ _ => (pe_op op_add (pv 3) (pe_op op_mulX (pv 1) (pv 4))))) pa_nil)))), ?_⟩
    have lv : (v.map V.int).length = v.length := List.length_map ..
    have lu : (u.map V.int).length = u.length := List.length_map ..
    have la : (addV v t u).length = v.length := addV_len hl
    have ln : min (v.map V.int).length (u.map V.int).length = v.length := by rw [lv, lu, hl, Nat.min_self]
    refine ⟨_, rfl, _, rfl, a, b, _, _, rfl, .inr ⟨SqT.of hv, SqT.of hu, fun D hD => lc_it (walk_zipT (xs := v.map V.int) (ys := u.map V.int) ln.symm) (fun i H' => Same H H' ∧ H' D = some (.lst (((addV v t u).take i).map V.int))) ?_ ?_ ?_ ?_⟩⟩
    · exact ⟨(new_at hD).1, upd_same⟩
    · exact fun i H' _ q => ⟨SqT.of (q.1 _ _ hv), SqT.of (q.1 _ _ hu)⟩
    · rintro i x H' H'' hi ⟨sm, hD'⟩ ⟨q, y1, y2, rfl, hq, rfl, e1, e2⟩
      obtain ⟨n, en, rfl⟩ := map_at e1
      obtain ⟨m, em, rfl⟩ := map_at e2
      refine ⟨q, _, rfl, SqT.of upd_same, rfl, _, _, rfl, _, _, rfl, rfl, rfl, ?_⟩
      refine ⟨_, rfl, _, rfl, _, rfl, _, _, rfl, rfl, hm m (List.mem_of_getElem? em), _, _, rfl, rfl, ?_⟩
      have nDq : D ≠ q := ne_of_none hD' hq
      refine ⟨_, (upd_ne nDq).trans hD', by rw [List.length_map, List.length_take]; exact Nat.lt_of_le_of_lt (Nat.le_trans (Nat.min_le_right _ _) (la ▸ h1)) (by decide), fun x o z => ?_, ?_⟩
      · rw [upd_ne (ne_of_none z hD)]
        exact (new_at hq).1 _ _ (sm _ _ z)
      · rw [upd_same, take_snoc (n := n + t * m)]
        unfold addV
        rw [List.getElem?_zipWith, en, em]
    · rintro H' ⟨sm, hD'⟩
      rw [take_all la] at hD'
      refine ⟨_, _, rfl, .inl ⟨SqL.of hD', fun p hp => ?_⟩⟩
      obtain ⟨sp, hp1⟩ := new_at (o := .tup ((addV v t u).map V.int)) hp
      exact k _ p (sm.trans sp) hp1
abbrev s_pivot_of : Stmt := top 8
abbrev n_pivot_of : List Str := ["vector", "at", "number"]
theorem sc_pivot_of : FnScope n_pivot_of ["vector"] (defScope s_pivot_of) := ⟨rfl, rfl, rfl, by decide +kernel, rfl, by decide +kernel, by decide +kernel⟩
def spPivot : Sp := fun vs H Q _ => ∃ (a : Addr) (v : Vec), vs = [.ref a] ∧ IsV H a v ∧ ∀ H', Same H H' → Q (.int ((piv v : Nat) : Int)) H'
theorem ok_pivot_of (T : Txt mg) (F : DefAt K mg "pivot_of" s_pivot_of ["vector"]) : Has P w K mg base 1 "pivot_of" ["vector"] spPivot := by
  refine F.has sc_pivot_of (fun vs H Q E h => ?_) (fun f cdv A outer s H vs Q E hr h => ?_)
  · obtain ⟨a, v, rfl, _⟩ := h
    rfl
  · obtain ⟨a, v, rfl, hv, k⟩ := h
    refine ⟨_, (pss_cons (ps_for PassesOwn.never rfl (pi_enumT (by rfl) T.z_enumerate (pa_cons (pv 0) pa_nil)) (pg_tup rfl (pgs_cons (pg_name (i := 1) sc_pivot_of.nd rfl (Or.inl rfl)) (pgs_cons (pg_name (i := 2) sc_pivot_of.nd rfl (Or.inl rfl)) pgs_nil))) (pss_one (ps_if (pt_cmpR op_ne (pv 2) pe_int (nomark _)) (pss_one (ps_ret (pv 1))) pss_nil)))
      (pss_one (ps_ret (pe_callB call_len (by rfl) T.z_len (by decide +kernel) (pa_cons (pv 0) pa_nil))))), ?_⟩
    obtain ⟨z0, z1⟩ := piv_spec v
    refine ⟨_, rfl, a, _, rfl, SqT.of hv, for_it (walk_enumT (ys := v.map V.int)) (fun i σ H' => Same H H' ∧ i ≤ piv v ∧ ∃ x y, σ = [some (.ref a), x, y]) ⟨Same.refl _, Nat.zero_le _, _, _, rfl⟩ (fun i σ H' _ q => SqT.of (q.1 _ _ hv)) ?_ ?_⟩
    · rintro i x σ H' H'' hi ⟨sm, hp, x1, x2, rfl⟩ ⟨q, y1, y2, rfl, hq, rfl, e1, e2⟩
      obtain ⟨n, en, rfl⟩ := map_at e2
      cases e1
      rw [List.length_map] at hi
      have ei : itm v i = n := by
        have q1 := itm_of hi
        rw [en] at q1
        exact (Option.some.inj q1).symm
      refine ⟨q, _, rfl, SqT.of upd_same, rfl, _, _, rfl, _, _, rfl, rfl, ?_⟩
      refine ⟨_, rfl, rfl, _, rfl, ?_⟩
      have s2 := sm.trans (new_at (o := .tup [.int ((i : Nat) : Int), .int n]) hq).1
      by_cases h0 : n = 0
      · subst h0
        have hlt : i < piv v := by
          rcases Nat.lt_or_ge i (piv v) with h | h
          · exact h
          · have e : i = piv v := Nat.le_antisymm hp h
            exact absurd ei (by rw [e]; exact z1 (by rw [← e]; exact hi))
        show if (!decide (V.int 0 = V.int 0)) = true then _ else _
        rw [decide_eq_true rfl]
        exact ⟨s2, hlt, _, _, rfl⟩
      · have e : i = piv v := by
          rcases Nat.lt_or_ge i (piv v) with h | h
          · exact absurd (ei.symm.trans (z0 i h)) h0
          · exact Nat.le_antisymm hp h
        show if (!decide (V.int n = V.int 0)) = true then _ else _
        rw [decide_eq_false (fun z => h0 (V.int.inj z))]
        refine ⟨_, rfl, ?_⟩
        rw [e] at s2 ⊢
        exact k _ s2
    · rintro σ H' ⟨sm, hp, x1, x2, rfl⟩
      have e : piv v = v.length := by
        rw [List.length_map] at hp
        exact Nat.le_antisymm (piv_le v) hp
      refine ⟨_, rfl, _, _, rfl, .inr ⟨_, SqT.of (sm _ _ hv), rfl⟩, ?_⟩
      rw [List.length_map, ← e]
      exact k _ sm
abbrev s_is_zero : Stmt := top 9
abbrev n_is_zero : List Str := ["vector"]
theorem sc_is_zero : FnScope n_is_zero ["vector"] (defScope s_is_zero) := ⟨rfl, rfl, rfl, by decide +kernel, rfl, by decide +kernel, by decide +kernel⟩
def spZero : Sp := fun vs H Q _ => ∃ (a : Addr) (v : Vec), vs = [.ref a] ∧ IsV H a v ∧ ∀ H', Same H H' → Q (.bl (decide (piv v = v.length))) H'
theorem ok_is_zero (T : Txt mg) (g_pivot_of : Has P w K mg base 1 "pivot_of" ["vector"] spPivot) (F : DefAt K mg "is_zero" s_is_zero ["vector"]) : Has P w K mg base 2 "is_zero" ["vector"] spZero := by
  refine F.has sc_is_zero (fun vs H Q E h => ?_) (fun f cdv A outer s H vs Q E hr h => ?_)
  · obtain ⟨a, v, rfl, _⟩ := h
    rfl
  · obtain ⟨a, v, rfl, hv, k⟩ := h
    refine ⟨_, (pss_one (ps_ret (pe_cmpR op_eq (pe_callHas g_pivot_of (hr.mono (by decide)) rfl (pa_cons (pv 0) pa_nil)) (pe_callB call_len (by rfl) T.z_len (by decide +kernel) (pa_cons (pv 0) pa_nil)) (nomark _)))), ?_⟩
    refine ⟨_, rfl, a, v, rfl, hv, fun H' sm => ⟨_, rfl, _, _, rfl, .inr ⟨_, SqT.of (sm _ _ hv), rfl⟩, rfl, ?_⟩⟩
    rw [List.length_map]
    have e : decide (V.int ((piv v : Nat) : Int) = V.int ((v.length : Nat) : Int)) = decide (piv v = v.length) := by
      by_cases h : piv v = v.length
      · rw [h, decide_eq_true rfl, decide_eq_true rfl]
      · rw [decide_eq_false h, decide_eq_false (fun z => h (by have := V.int.inj z; omega))]
    rw [e]
    exact k _ sm
abbrev s_is_width : Stmt := top 4
abbrev n_is_width : List Str := ["value"]
theorem sc_is_width : FnScope n_is_width ["value"] (defScope s_is_width) := ⟨rfl, rfl, rfl, by decide +kernel, rfl, by decide +kernel, by decide +kernel⟩
def spWidth : Sp := fun vs H Q _ => ∃ n : Int, vs = [.int n] ∧ 1 ≤ n ∧ Q (.bl true) H
theorem ok_is_width (T : Txt mg) (g_is_integer : Has P w K mg base 1 "is_integer" ["value"] spInt) (F : DefAt K mg "is_width" s_is_width ["value"]) : Has P w K mg base 2 "is_width" ["value"] spWidth := by
  refine F.has sc_is_width (fun vs H Q E h => ?_) (fun f cdv A outer s H vs Q E hr h => ?_)
  · obtain ⟨n, rfl, _⟩ := h
    rfl
  · obtain ⟨n, rfl, h1, k⟩ := h
    refine ⟨_, (pss_one (ps_ret (pe_and (pe_callHas g_is_integer (hr.mono (by decide)) rfl (pa_cons (pv 0) pa_nil)) (pe_one (pe_cmpR op_ge (pv 0) pe_int (nomark _)))))), ?_⟩
    refine ⟨_, rfl, n, rfl, _, rfl, _, rfl, _, _, rfl, rfl, ?_⟩
    show Q (.bl (decide (1 ≤ n))) H
    rw [decide_eq_true h1]
    exact k
theorem paired_get {α β : Type} {R : α → β → Prop} : ∀ {xs : List α} {ys : List β} {i : Nat} {x : α}, Paired R xs ys → xs[i]? = some x → ∃ y, ys[i]? = some y ∧ R x y
  | _, _, _, _, .nil, e => by simp at e
  | _, _, 0, x, .cons r _, e => by simp at e; subst e; exact ⟨_, rfl, r⟩
  | _, _, i + 1, x, .cons _ t, e => by
    obtain ⟨y, h1, h2⟩ := paired_get (i := i) (x := x) t (by simpa using e)
    exact ⟨y, by simpa using h1, h2⟩
theorem all_true : ∀ n : Nat, (List.replicate n true).all id = true
  | 0 => rfl
  | n + 1 => by rw [List.replicate_succ, List.all_cons, all_true n]; rfl
theorem rep_snoc (n : Nat) : (List.replicate (n + 1) true).map V.bl = (List.replicate n true).map V.bl ++ [V.bl true] := by
  rw [List.replicate_succ', List.map_append]; rfl
abbrev s_is_vector : Stmt := top 5
abbrev n_is_vector : List Str := ["value", "width", "part"]
theorem sc_is_vector : FnScope n_is_vector ["value", "width"] (defScope s_is_vector) := ⟨rfl, rfl, rfl, by decide +kernel, rfl, by decide +kernel, by decide +kernel⟩
/-- what is no tuple -/
inductive NoTup (H : Hp) : V → Prop where
  | non : NoTup H .non
  | int (i : Int) : NoTup H (.int i)
  | str (s : Str) : NoTup H (.str s)
  | lst {a : Addr} {xs : List V} (h : H a = some (.lst xs)) : NoTup H (.ref a)
theorem NoTup.ty {H : Hp} {x : V} (h : NoTup H x) : ∃ t : String, TyX K H x (.type t) ∧ (t = "NoneType" ∨ t = "int" ∨ t = "str" ∨ t = "list") := by
  cases h with
  | non => exact ⟨_, .base .non, .inl rfl⟩
  | int i => exact ⟨_, .base (.int i), .inr (.inl rfl)⟩
  | str s => exact ⟨_, .base (.str s), .inr (.inr (.inl rfl))⟩
  | lst h => exact ⟨_, .base (.lst h), .inr (.inr (.inr rfl))⟩
theorem noTup_kit {t : String} (h : t = "NoneType" ∨ t = "int" ∨ t = "str" ∨ t = "list") : PySem.W.kitOne K (.type t) (.type "tuple") = some false := by
  rcases h with h | h | h | h <;> subst h <;> exact kit_ty (by decide +kernel)
def spIsVectorG : Sp := fun vs H Q _ => ∃ (x : V) (n : Nat), vs = [x, .int ((n : Nat) : Int)] ∧
  ((∃ (a : Addr) (xs : List V) (bs : List Bool), x = .ref a ∧ H a = some (.tup xs) ∧ Paired Flat xs bs ∧ xs.length ≤ 1000 ∧ ∀ H', Same H H' → Q (.bl (decide (xs.length = n) && bs.all id)) H') ∨ (NoTup H x ∧ Q (.bl false) H))
theorem ok_is_vectorG (T : Txt mg) (g_is_integer : Has P w K mg base 1 "is_integer" ["value"] spIntG) (F : DefAt K mg "is_vector" s_is_vector ["value", "width"]) : Has P w K mg base 2 "is_vector" ["value", "width"] spIsVectorG := by
  refine F.has sc_is_vector (fun vs H Q E h => ?_) (fun f cdv A outer s H vs Q E hr h => ?_)
  · obtain ⟨x, n, rfl, _⟩ := h
    rfl
  · obtain ⟨x, n, rfl, h⟩ := h
    refine ⟨_, (pss_one (ps_ret (pe_and (pe_callB call_isi (by rfl) T.z_isinstance (by decide +kernel) (pa_cons (pv 0) (pa_cons (pe_bltn (v := .ty "tuple") (by rfl) T.z_tuple (by decide +kernel) rfl) pa_nil))) (pe_and (pe_cmpR op_eq (pe_callB call_len (by rfl) T.z_len (by decide +kernel) (pa_cons (pv 0) pa_nil)) (pv 1) (nomark _)) (pe_one (pe_callB (cr_all rfl) (by rfl) T.z_all (by decide +kernel) (pa_cons (pe_lc (own := [("part", 2)]) (g := gName 2) (by rfl) sc_is_vector.nd (pi_tup (pv 0)) (blkOk_by (own := [("part", 2)]) (N := n_is_vector) (sc := defScope s_is_vector) (by decide +kernel)) (fun _ _ _ _ _ => (pg_name (i := 2) sc_is_vector.nd rfl (Or.inl rfl))) (fun _ _ _ _ _ => pts_nil) (fun _ _ _ _ _ => (pe_callHas g_is_integer (hr.mono (by decide)) rfl (pa_cons (pv 2) pa_nil)))) pa_nil))))))), ?_⟩
    rcases h with ⟨a, xs, bs, rfl, ha, fl, h1, k⟩ | ⟨nt, k⟩
    · refine ⟨_, rfl, _, _, _, _, true, rfl, .ty _, .base (.tup ha), kit_ty (by decide +kernel), _, rfl, ?_⟩
      refine ⟨_, rfl, _, _, rfl, .inr ⟨_, SqT.of ha, rfl⟩, _, rfl, rfl, _, rfl, ?_⟩
      by_cases hn : xs.length = n
      · show if decide (V.int ((xs.length : Nat) : Int) = V.int ((n : Nat) : Int)) = true then _ else _
        rw [decide_eq_true (by rw [hn])]
        refine ⟨_, rfl, a, rfl, ⟨_, SqT.of ha⟩, fun D hD => lc_it (walk_tup (xs := xs)) (fun i H' => Same H H' ∧ H' D = some (.lst ((bs.take i).map V.bl))) ?_ ?_ ?_ ?_⟩
        · exact ⟨(new_at hD).1, upd_same⟩
        · exact fun i H' _ q => SqT.of (q.1 _ _ ha)
        · rintro i x H' H'' hi ⟨sm, hD'⟩ ⟨rfl, e1⟩
          obtain ⟨b, eb, fb⟩ := paired_get fl e1
          refine ⟨rfl, ?_⟩
          refine ⟨_, rfl, x, b, rfl, fb, ?_⟩
          refine ⟨_, hD', by rw [List.length_map, List.length_take]; exact Nat.lt_of_le_of_lt (Nat.le_trans (Nat.min_le_right _ _) (fl.length ▸ h1)) (by decide), fun x o z => ?_, ?_⟩
          · rw [upd_ne (ne_of_none z hD)]
            exact sm _ _ z
          · rw [upd_same, List.take_add_one, eb, List.map_append]; rfl
        · rintro H' ⟨sm, hD'⟩
          rw [show xs.length = bs.length from fl.length, List.take_length] at hD'
          refine ⟨_, _, rfl, SqL.of hD', ?_⟩
          have := k _ sm
          rw [decide_eq_true hn, Bool.true_and] at this
          exact this
      · show if decide (V.int ((xs.length : Nat) : Int) = V.int ((n : Nat) : Int)) = true then _ else _
        rw [decide_eq_false (fun z => hn (by have := V.int.inj z; omega))]
        have := k _ (Same.refl H)
        rw [decide_eq_false hn, Bool.false_and] at this
        exact this
    · obtain ⟨t, ty, ht⟩ := nt.ty (K := K)
      exact ⟨_, rfl, _, _, _, _, false, rfl, .ty _, ty, noTup_kit ht, _, rfl, k⟩
def spIsVector : Sp := fun vs H Q _ => ∃ (a : Addr) (v : Vec), vs = [.ref a, .int ((v.length : Nat) : Int)] ∧ IsV H a v ∧ v.length ≤ 1000 ∧ ∀ H', Same H H' → Q (.bl true) H'
theorem flat_ints : ∀ v : Vec, Paired Flat (v.map V.int) (List.replicate v.length true)
  | [] => .nil
  | n :: v => .cons (.int n) (flat_ints v)
theorem ok_is_vector (g : Has P w K mg base 2 "is_vector" ["value", "width"] spIsVectorG) : Has P w K mg base 2 "is_vector" ["value", "width"] spIsVector :=
  Has.imp g fun vs H Q E h => by
    obtain ⟨a, v, rfl, hv, h1, k⟩ := h
    refine ⟨_, _, rfl, .inl ⟨a, _, _, rfl, hv, flat_ints v, by rw [List.length_map]; exact h1, fun H' sm => ?_⟩⟩
    rw [List.length_map, decide_eq_true rfl, all_true]
    exact k _ sm
/-- a row of vectors of one width -/
def Rows (H : Hp) (n : Nat) (as : List V) (vs : List Vec) : Prop := Paired (fun x v => ∃ a, x = V.ref a ∧ IsV H a v) as vs ∧ ∀ v ∈ vs, v.length = n
theorem Rows.keep {H H' : Hp} {n : Nat} {as : List V} {vs : List Vec} (s : Same H H') (h : Rows H n as vs) : Rows H' n as vs :=
  ⟨Paired.mapP h.1 fun x v z => by obtain ⟨a, e, q⟩ := z; exact ⟨a, e, s _ _ q⟩, h.2⟩
theorem Rows.at {H : Hp} {n i : Nat} {as : List V} {vs : List Vec} {x : V} (h : Rows H n as vs) (e : as[i]? = some x) : ∃ a v, vs[i]? = some v ∧ x = .ref a ∧ IsV H a v ∧ v.length = n := by
  obtain ⟨v, ev, a, ea, q⟩ := paired_get h.1 e
  exact ⟨a, v, ev, ea, q, h.2 v (List.mem_of_getElem? ev)⟩
theorem Rows.len {H : Hp} {n : Nat} {as : List V} {vs : List Vec} (h : Rows H n as vs) : as.length = vs.length := Paired.length h.1
abbrev s_are_vectors : Stmt := top 6
abbrev n_are_vectors : List Str := ["value", "width", "part"]
theorem sc_are_vectors : FnScope n_are_vectors ["value", "width"] (defScope s_are_vectors) := ⟨rfl, rfl, rfl, by decide +kernel, rfl, by decide +kernel, by decide +kernel⟩
def spAreVectors (K : PySem.W.Frag) : Sp := fun vs H Q _ => ∃ (l : Addr) (as : List V) (rs : List Vec) (n : Nat), vs = [.ref l, .int ((n : Nat) : Int)] ∧ InSeq K H l as ∧ Rows H n as rs ∧ n ≤ 1000 ∧ rs.length ≤ 1000 ∧ ∀ H', Same H H' → Q (.bl true) H'
theorem ok_are_vectors (T : Txt mg) (g_is_sequence : Has P w K mg base 1 "is_sequence" ["value"] (spSeq K)) (g_is_vector : Has P w K mg base 2 "is_vector" ["value", "width"] spIsVector) (F : DefAt K mg "are_vectors" s_are_vectors ["value", "width"]) : Has P w K mg base 3 "are_vectors" ["value", "width"] (spAreVectors K) := by
  refine F.has sc_are_vectors (fun vs H Q E h => ?_) (fun f cdv A outer s H vs Q E hr h => ?_)
  · obtain ⟨l, as, rs, n, rfl, _⟩ := h
    rfl
  · obtain ⟨l, as, rs, n, rfl, hl, hrs, hn, h1, k⟩ := h
    refine ⟨_, (pss_one (ps_ret (pe_and (pe_callHas g_is_sequence (hr.mono (by decide)) rfl (pa_cons (pv 0) pa_nil)) (pe_one (pe_callB (cr_all rfl) (by rfl) T.z_all (by decide +kernel) (pa_cons (pe_lc (own := [("part", 2)]) (g := gName 2) (by rfl) sc_are_vectors.nd (pi_seq (pv 0)) (blkOk_by (own := [("part", 2)]) (N := n_are_vectors) (sc := defScope s_are_vectors) (by decide +kernel)) (fun _ _ _ _ _ => (pg_name (i := 2) sc_are_vectors.nd rfl (Or.inl rfl))) (fun _ _ _ _ _ => pts_nil) (fun _ _ _ _ _ => (pe_callHas g_is_vector (hr.mono (by decide)) rfl (pa_cons (pv 2) (pa_cons (pv 1) pa_nil))))) pa_nil)))))), ?_⟩
    refine ⟨_, rfl, l, as, rfl, hl, fun H1 s1 => ⟨_, rfl, ?_⟩⟩
    rcases hl with hl | ⟨hk, has, hq⟩
    · refine Or.inl ⟨_, rfl, l, rfl, ⟨_, SqL.of (s1 _ _ hl)⟩, fun D hD => lc_it (walk_list (xs := as)) (fun i H' => Same H1 H' ∧ H' D = some (.lst ((List.replicate i true).map V.bl))) ?_ ?_ ?_ ?_⟩
      · exact ⟨(new_at hD).1, upd_same⟩
      · exact fun i H' _ q => SqL.of (q.1 _ _ (s1 _ _ hl))
      · rintro i x H' H'' hi ⟨sm, hD'⟩ ⟨rfl, e1⟩
        obtain ⟨a, v, ev, rfl, hv, lv⟩ := (hrs.keep (s1.trans sm)).at e1
        refine ⟨rfl, ?_⟩
        refine ⟨_, rfl, _, rfl, a, v, (by rw [lv]; rfl), hv, by omega, fun H2 s2 => ?_⟩
        have hi' : i < rs.length := hrs.len ▸ hi
        refine ⟨_, s2 _ _ hD', by rw [List.length_map, List.length_replicate]; exact Nat.lt_of_le_of_lt (Nat.le_trans (Nat.le_of_lt hi') h1) (by decide), fun x o z => ?_, ?_⟩
        · rw [upd_ne (ne_of_none z hD)]
          exact s2 _ _ (sm _ _ z)
        · rw [upd_same, rep_snoc]
      · rintro H' ⟨sm, hD'⟩
        refine ⟨_, _, rfl, SqL.of hD', ?_⟩
        rw [all_true]
        exact k _ (s1.trans sm)
    · subst has
      refine Or.inr ⟨_, rfl, l, rfl, ⟨_, Same.sqt s1 hq⟩, fun D hD => lc_it (walk_tup (xs := [])) (fun i H' => Same H1 H' ∧ H' D = some (.lst ((List.replicate i true).map V.bl))) ?_ ?_ ?_ ?_⟩
      · exact ⟨(new_at hD).1, upd_same⟩
      · exact fun i H' _ q => Same.sqt (s1.trans q.1) hq
      · exact fun i x H' H'' hi => absurd hi (Nat.not_lt_zero _)
      · rintro H' ⟨sm, hD'⟩
        refine ⟨_, _, rfl, SqL.of hD', ?_⟩
        rw [all_true]
        exact k _ (s1.trans sm)
end
end K06

namespace K06
open PySem L2 RZ Lat
section
variable {P : Program} {w : World} {K : PySem.W.Frag} {mg : Str → Option Value} {base : Heap}
def OkRed : List Vec → Vec → Prop
  | [], _ => True
  | r :: rs, v => piv r < r.length ∧ CDivZ (itm v (piv r)) (itm r (piv r)) ∧ (∀ m ∈ r, CMulX (-((itm v (piv r)).fdiv (itm r (piv r)))) m) ∧ OkRed rs (addV v (-((itm v (piv r)).fdiv (itm r (piv r)))) r)
/-- rows in a list or a tuple -/
def RowsAt (H : Hp) (b : Addr) (as : List V) : Prop := H b = some (.tup as) ∨ H b = some (.lst as)
theorem RowsAt.keep {H H' : Hp} {b : Addr} {as : List V} (s : Same H H') (h : RowsAt H b as) : RowsAt H' b as := h.imp (s _ _) (s _ _)
theorem int_at {v : Vec} {i : Nat} (h : i < v.length) : atI (v.map V.int) ((i : Nat) : Int) = some (V.int (itm v i)) := atI_nat (by rw [List.getElem?_map, itm_of h]; rfl)
abbrev s_reduced_by : Stmt := top 16
abbrev n_reduced_by : List Str := ["basis", "vector", "row", "at"]
theorem sc_reduced_by : FnScope n_reduced_by ["basis", "vector"] (defScope s_reduced_by) := ⟨rfl, rfl, rfl, by decide +kernel, rfl, by decide +kernel, by decide +kernel⟩
def spReduced : Sp := fun vs H Q _ => ∃ (b p : Addr) (as : List V) (rs : List Vec) (v : Vec), vs = [.ref b, .ref p] ∧ RowsAt H b as ∧ Rows H v.length as rs ∧ IsV H p v ∧ v.length ≤ 1000 ∧ OkRed rs v ∧ ∀ (H' : Hp) (q : Addr), Same H H' → IsV H' q (redV rs v) → (redV rs v).length = v.length → Q (.ref q) H'
theorem ok_reduced_by (T : Txt mg) (g_pivot_of : Has P w K mg base 1 "pivot_of" ["vector"] spPivot) (g_added : Has P w K mg base 1 "added" ["vector", "times", "other"] spAdded) (F : DefAt K mg "reduced_by" s_reduced_by ["basis", "vector"]) : Has P w K mg base 2 "reduced_by" ["basis", "vector"] spReduced := by
  refine F.has sc_reduced_by (fun vs H Q E h => ?_) (fun f cdv A outer s H vs Q E hr h => ?_)
  · obtain ⟨b, p, as, rs, v, rfl, _⟩ := h
    rfl
  · obtain ⟨b, p, as, rs, v, rfl, hb, hrs, hv, h1, ok, k⟩ := h
    refine ⟨_, (pss_cons (ps_for PassesOwn.never rfl (pi_seq (pv 0)) (pg_name (i := 2) sc_reduced_by.nd rfl (Or.inl rfl)) (pss_cons (ps_set (i := 3) sc_reduced_by.nd rfl (Or.inl rfl) (pe_callHas g_pivot_of (hr.mono (by decide)) rfl (pa_cons (pv 2) pa_nil)))
      (pss_one (ps_set (i := 1) sc_reduced_by.nd rfl (Or.inl rfl) (pe_callHas g_added (hr.mono (by decide)) rfl (pa_cons (pv 1) (pa_cons (pe_un un_neg (pe_op op_fdivZ (pe_ix ix_tup (pv 1) (pv 3) (fun _ _ => rfl)) (pe_ix ix_tup (pv 2) (pv 3) (fun _ _ => rfl)))) (pa_cons (pv 2) pa_nil))))))))
      (pss_one (ps_ret (pv 1)))), ?_⟩
    rcases hb with hb | hb
    · refine .inr ⟨_, rfl, b, rfl, ⟨_, SqT.of hb⟩, for_it (walk_tup (xs := as)) (fun i σ H' => ∃ (q : Addr) (u : Vec) (x2 x3 : Option V), σ = [some (.ref b), some (.ref q), x2, x3] ∧ Same H H' ∧ IsV H' q u ∧ u.length = v.length ∧ OkRed (rs.drop i) u ∧ redV (rs.drop i) u = redV rs v) ⟨p, v, _, _, rfl, Same.refl _, hv, rfl, ok, rfl⟩ (fun i σ H' _ q => SqT.of ((show Same H H' from by obtain ⟨_, _, _, _, _, sm, _⟩ := q; exact sm) _ _ hb)) ?_ ?_⟩
      · rintro i x σ H' H'' hi ⟨q, u, x2, x3, rfl, sm, hu, lu, oku, eu⟩ ⟨rfl, ex⟩
        obtain ⟨a, r, er, rfl, hr0, lr⟩ := (hrs.keep sm).at ex
        have hlt := (List.getElem?_eq_some_iff.mp er).1
        have ed : rs.drop i = r :: rs.drop (i + 1) := by
          rw [List.drop_eq_getElem_cons hlt, (List.getElem?_eq_some_iff.mp er).2]
        rw [ed] at oku eu
        obtain ⟨o1, o2, o3, o4⟩ := oku
        refine ⟨_, rfl, a, r, rfl, hr0, fun H1 s1 => ?_⟩
        refine ⟨_, rfl, _, rfl, _, rfl, q, _, _, _, rfl, rfl, SqT.of (s1 _ _ hu), int_at (by omega), _, rfl, _, rfl, a, _, _, _, rfl, rfl, SqT.of (s1 _ _ hr0), int_at o1, _, _, rfl, rfl, o2, _, rfl, _, rfl, ?_⟩
        refine ⟨q, a, _, u, r, rfl, s1 _ _ hu, s1 _ _ hr0, by omega, by omega, o3, fun H2 z s2 hz => ?_⟩
        exact ⟨z, _, _, _, rfl, (sm.trans s1).trans s2, hz, (addV_len (by omega)).trans lu, o4, eu⟩
      · rintro σ H' ⟨q, u, x2, x3, rfl, sm, hu, lu, oku, eu⟩
        rw [hrs.len, List.drop_length] at eu
        have eu' : u = redV rs v := eu
        subst eu'
        exact ⟨_, rfl, k _ q sm hu lu⟩
    · refine .inl ⟨_, rfl, b, rfl, ⟨_, SqL.of hb⟩, for_it (walk_list (xs := as)) (fun i σ H' => ∃ (q : Addr) (u : Vec) (x2 x3 : Option V), σ = [some (.ref b), some (.ref q), x2, x3] ∧ Same H H' ∧ IsV H' q u ∧ u.length = v.length ∧ OkRed (rs.drop i) u ∧ redV (rs.drop i) u = redV rs v) ⟨p, v, _, _, rfl, Same.refl _, hv, rfl, ok, rfl⟩ (fun i σ H' _ q => SqL.of ((show Same H H' from by obtain ⟨_, _, _, _, _, sm, _⟩ := q; exact sm) _ _ hb)) ?_ ?_⟩
      · rintro i x σ H' H'' hi ⟨q, u, x2, x3, rfl, sm, hu, lu, oku, eu⟩ ⟨rfl, ex⟩
        obtain ⟨a, r, er, rfl, hr0, lr⟩ := (hrs.keep sm).at ex
        have hlt := (List.getElem?_eq_some_iff.mp er).1
        have ed : rs.drop i = r :: rs.drop (i + 1) := by
          rw [List.drop_eq_getElem_cons hlt, (List.getElem?_eq_some_iff.mp er).2]
        rw [ed] at oku eu
        obtain ⟨o1, o2, o3, o4⟩ := oku
        refine ⟨_, rfl, a, r, rfl, hr0, fun H1 s1 => ?_⟩
        refine ⟨_, rfl, _, rfl, _, rfl, q, _, _, _, rfl, rfl, SqT.of (s1 _ _ hu), int_at (by omega), _, rfl, _, rfl, a, _, _, _, rfl, rfl, SqT.of (s1 _ _ hr0), int_at o1, _, _, rfl, rfl, o2, _, rfl, _, rfl, ?_⟩
        refine ⟨q, a, _, u, r, rfl, s1 _ _ hu, s1 _ _ hr0, by omega, by omega, o3, fun H2 z s2 hz => ?_⟩
        exact ⟨z, _, _, _, rfl, (sm.trans s1).trans s2, hz, (addV_len (by omega)).trans lu, o4, eu⟩
      · rintro σ H' ⟨q, u, x2, x3, rfl, sm, hu, lu, oku, eu⟩
        rw [hrs.len, List.drop_length] at eu
        have eu' : u = redV rs v := eu
        subst eu'
        exact ⟨_, rfl, k _ q sm hu lu⟩
/-- the turns of cleared keep to what the model can do -/
def OkClr : Nat → Vec → Vec → Nat → Prop
  | 0, _, v, i => itm v i = 0
  | n + 1, r, v, i => itm v i = 0 ∨ (CDivZ (itm r i) (itm v i) ∧ (∀ m ∈ v, CMulX (-((itm r i).fdiv (itm v i))) m) ∧ OkClr n v (addV r (-((itm r i).fdiv (itm v i))) v) i)
abbrev s_cleared : Stmt := top 17
abbrev n_cleared : List Str := ["row", "vector", "at"]
theorem sc_cleared : FnScope n_cleared ["row", "vector", "at"] (defScope s_cleared) := ⟨rfl, rfl, rfl, by decide +kernel, rfl, by decide +kernel, by decide +kernel⟩
def spCleared : Sp := fun vs H Q _ => ∃ (a p : Addr) (r v : Vec) (i n : Nat), vs = [.ref a, .ref p, .int ((i : Nat) : Int)] ∧ IsV H a r ∧ IsV H p v ∧ r.length = v.length ∧ v.length ≤ 1000 ∧ i < v.length ∧ OkClr n r v i ∧
  ∀ (H' : Hp) (t x y : Addr), Same H H' → H' t = some (.tup [.ref x, .ref y]) → IsV H' x (clr n r v i).1 → IsV H' y (clr n r v i).2 → Q (.ref t) H'
theorem ok_cleared (T : Txt mg) (g_added : Has P w K mg base 1 "added" ["vector", "times", "other"] spAdded) (F : DefAt K mg "cleared" s_cleared ["row", "vector", "at"]) : Has P w K mg base 2 "cleared" ["row", "vector", "at"] spCleared := by
  refine F.has sc_cleared (fun vs H Q E h => ?_) (fun f cdv A outer s H vs Q E hr h => ?_)
  · obtain ⟨a, p, r, v, i, n, rfl, _⟩ := h
    rfl
  · obtain ⟨a, p, r, v, i, n, rfl, ha, hp, hl, h1, hi, ok, k⟩ := h
    refine ⟨_, (pss_cons (ps_while PassesOwn.never (pt_cmpR op_ne (pe_ix ix_tup (pv 1) (pv 2) (fun _ _ => rfl)) pe_int (nomark _)) (pss_one (ps_par (i := 0) (j := 1) (by rfl) sc_cleared.nd rfl rfl (by decide) rfl rfl (pa_cons (pv 1) (pa_cons (pe_callHas g_added (hr.mono (by decide)) rfl (pa_cons (pv 0) (pa_cons (pe_un un_neg (pe_op op_fdivZ (pe_ix ix_tup (pv 0) (pv 2) (fun _ _ => rfl)) (pe_ix ix_tup (pv 1) (pv 2) (fun _ _ => rfl)))) (pa_cons (pv 1) pa_nil)))) pa_nil)) (by rfl))))
      (pss_one (ps_ret (pe_tup (pa_cons (pv 0) (pa_cons (pv 1) pa_nil)))))), ?_⟩
    refine ⟨fun m σ H' => ∃ (x y : Addr) (r' v' : Vec), σ = [some (.ref x), some (.ref y), some (.int ((i : Nat) : Int))] ∧ Same H H' ∧ IsV H' x r' ∧ IsV H' y v' ∧ r'.length = v'.length ∧ v'.length = v.length ∧ OkClr m r' v' i ∧ clr m r' v' i = clr n r v i, ⟨n, a, p, r, v, rfl, Same.refl _, ha, hp, hl, rfl, ok, rfl⟩, ?_⟩
    rintro m σ H' ⟨x, y, r', v', rfl, sm, hx, hy, hl', lv', ok', e'⟩
    refine ⟨_, rfl, _, rfl, y, _, _, _, rfl, rfl, SqT.of hy, int_at (by omega), rfl, _, rfl, ?_⟩
    have stop : itm v' i = 0 → clr m r' v' i = (r', v') := fun h0 => by
      cases m with
      | zero => rfl
      | succ m => unfold clr; rw [if_pos h0]
    by_cases h0 : itm v' i = 0
    · have e2 := stop h0
      show if (!decide (V.int (itm v' i) = V.int 0)) = true then _ else _
      rw [h0, decide_eq_true rfl]
      rw [e2] at e'
      refine ⟨_, rfl, _, rfl, (by decide : 2 ≤ sizeLine), fun t ht => ?_⟩
      obtain ⟨st, h2⟩ := new_at (o := .tup [.ref x, .ref y]) ht
      refine k _ t x y (sm.trans st) h2 (st _ _ ?_) (st _ _ ?_)
      · rw [← e']; exact hx
      · rw [← e']; exact hy
    · show if (!decide (V.int (itm v' i) = V.int 0)) = true then _ else _
      rw [decide_eq_false (fun z => h0 (V.int.inj z))]
      cases m with
      | zero => exact absurd ok' h0
      | succ m =>
        obtain ok' | ⟨o1, o2, o3⟩ := ok'
        · exact absurd ok' h0
        · have e3 : clr (m + 1) r' v' i = clr m v' (addV r' (-((itm r' i).fdiv (itm v' i))) v') i := by
            rw [clr, if_neg h0]
          rw [e3] at e'
          refine ⟨fun σ2 H2 => ∃ (x y : Addr) (r' v' : Vec), σ2 = [some (.ref x), some (.ref y), some (.int ((i : Nat) : Int))] ∧ Same H H2 ∧ IsV H2 x r' ∧ IsV H2 y v' ∧ r'.length = v'.length ∧ v'.length = v.length ∧ OkClr m r' v' i ∧ clr m r' v' i = clr n r v i, fun σ2 H2 q => ⟨m, Nat.lt_succ_self m, q⟩, ?_⟩
          refine ⟨_, rfl, _, rfl, _, rfl, _, rfl, x, _, _, _, rfl, rfl, SqT.of hx, int_at (by omega), _, rfl, _, rfl, y, _, _, _, rfl, rfl, SqT.of hy, int_at (by omega), _, _, rfl, rfl, o1, _, rfl, _, rfl, ?_⟩
          refine ⟨x, y, _, r', v', rfl, hx, hy, hl', by omega, o2, fun H2 z s2 hz => ?_⟩
          exact ⟨_, _, rfl, y, z, _, _, rfl, sm.trans s2, s2 _ _ hy, hz, by rw [addV_len hl', hl'], by rw [addV_len hl']; omega, o3, e'⟩
end
end K06

namespace K06
open PySem L2 RZ Lat
section
variable {P : Program} {w : World} {K : PySem.W.Frag} {mg : Str → Option Value} {base : Heap}
def OkStep : List Vec → Vec → Prop
  | [], _ => True
  | r :: rs, l => piv r < r.length ∧ ((piv l < piv r ∧ OkStep rs r) ∨ (¬ piv l < piv r ∧ OkClr (itm l (piv r)).natAbs r l (piv r) ∧ OkStep rs (clear r l (piv r)).2))
theorem Rows.lst_up {H : Hp} {n : Nat} {o : Addr} {ys xs as : List V} {vs : List Vec} (ho : H o = some (.lst ys)) (h : Rows H n as vs) : Rows (upd H o (.lst xs)) n as vs :=
  ⟨Paired.mapP h.1 fun x v z => by
    obtain ⟨a, e, q⟩ := z
    exact ⟨a, e, (upd_ne (ne_of q ho fun y => nomatch y)).trans q⟩, h.2⟩
theorem Rows.snoc {H : Hp} {n : Nat} {a : Addr} {as : List V} {vs : List Vec} {v : Vec} (h : Rows H n as vs) (hv : IsV H a v) (l : v.length = n) : Rows H n (as ++ [.ref a]) (vs ++ [v]) := by
  obtain ⟨h1, h2⟩ := h
  refine ⟨?_, fun u hu => ?_⟩
  · induction h1 with
    | nil => exact .cons ⟨a, rfl, hv⟩ .nil
    | cons r _ ih => exact .cons r (ih fun u hu => h2 u (List.mem_cons_of_mem _ hu))
  · rcases List.mem_append.mp hu with hu | hu
    · exact h2 u hu
    · rw [List.mem_singleton.mp hu]; exact l
theorem V_up {H : Hp} {a o : Addr} {ys xs : List V} {v : Vec} (ho : H o = some (.lst ys)) (h : IsV H a v) : IsV (upd H o (.lst xs)) a v := (upd_ne (ne_of h ho fun y => nomatch y)).trans h
abbrev s_stepped : Stmt := top 18
abbrev n_stepped : List Str := ["steps", "vector", "out", "left", "row", "at", "kept"]
theorem sc_stepped : FnScope n_stepped ["steps", "vector"] (defScope s_stepped) := ⟨rfl, rfl, rfl, by decide +kernel, rfl, by decide +kernel, by decide +kernel⟩
def spStepped : Sp := fun vs H Q _ => ∃ (b p : Addr) (as : List V) (rs : List Vec) (v : Vec), vs = [.ref b, .ref p] ∧ H b = some (.tup as) ∧ Rows H v.length as rs ∧ IsV H p v ∧ v.length ≤ 1000 ∧ rs.length ≤ 1000 ∧ OkStep rs v ∧
  ∀ (H' : Hp) (o : Addr) (os : List V), Same H H' → H' o = some (.lst os) → Rows H' v.length os (Lat.stepped rs v) → Q (.ref o) H'
theorem ok_stepped (T : Txt mg) (g_pivot_of : Has P w K mg base 1 "pivot_of" ["vector"] spPivot) (g_cleared : Has P w K mg base 2 "cleared" ["row", "vector", "at"] spCleared) (g_is_zero : Has P w K mg base 2 "is_zero" ["vector"] spZero) (F : DefAt K mg "stepped" s_stepped ["steps", "vector"]) :
    Has P w K mg base 3 "stepped" ["steps", "vector"] spStepped := by
  refine F.has sc_stepped (fun vs H Q E h => ?_) (fun f cdv A outer s H vs Q E hr h => ?_)
  · obtain ⟨b, p, as, rs, v, rfl, _⟩ := h
    rfl
  · obtain ⟨b, p, as, rs, v, rfl, hb, hrs, hv, h1, h2, ok, k⟩ := h
    refine ⟨_, (pss_cons (ps_set (i := 2) sc_stepped.nd rfl (Or.inl rfl) (pe_lst pa_nil))
      (pss_cons (ps_set (i := 3) sc_stepped.nd rfl (Or.inl rfl) (pv 1))
      (pss_cons (ps_for PassesOwn.never rfl (pi_tup (pv 0)) (pg_name (i := 4) sc_stepped.nd rfl (Or.inl rfl)) (pss_cons (ps_set (i := 5) sc_stepped.nd rfl (Or.inl rfl) (pe_callHas g_pivot_of (hr.mono (by decide)) rfl (pa_cons (pv 4) pa_nil)))
      (pss_one (ps_if (pt_cmpR op_lt (pe_callHas g_pivot_of (hr.mono (by decide)) rfl (pa_cons (pv 3) pa_nil)) (pv 5) (nomark _)) (pss_cons (ps_expr (pe_bm PySem.F.plainAttrs_list PySem.F.slot_list_append PySem.F.type_list_append mt_append (pv 2) (pa_cons (pv 3) pa_nil)))
      (pss_one (ps_set (i := 3) sc_stepped.nd rfl (Or.inl rfl) (pv 4)))) (pss_cons (ps_asg (pe_callHas g_cleared (hr.mono (by decide)) rfl (pa_cons (pv 4) (pa_cons (pv 3) (pa_cons (pv 5) pa_nil)))) (pg_tup rfl (pgs_cons (pg_name (i := 6) sc_stepped.nd rfl (Or.inl rfl)) (pgs_cons (pg_name (i := 3) sc_stepped.nd rfl (Or.inl rfl)) pgs_nil))))
      (pss_one (ps_expr (pe_bm PySem.F.plainAttrs_list PySem.F.slot_list_append PySem.F.type_list_append mt_append (pv 2) (pa_cons (pv 6) pa_nil)))))))))
      (pss_cons (ps_if (pt_not (pt_val (pe_callHas g_is_zero (hr.mono (by decide)) rfl (pa_cons (pv 3) pa_nil)))) (pss_one (ps_expr (pe_bm PySem.F.plainAttrs_list PySem.F.slot_list_append PySem.F.type_list_append mt_append (pv 2) (pa_cons (pv 3) pa_nil)))) pss_nil)
      (pss_one (ps_ret (pv 2))))))), ?_⟩
    refine ⟨Nat.zero_le _, fun o ho => ?_⟩
    obtain ⟨so, ho1⟩ := new_at (o := .lst []) ho
    refine ⟨_, rfl, ?_⟩
    refine ⟨_, rfl, b, rfl, ⟨_, SqT.of (so _ _ hb)⟩, for_it (walk_tup (xs := as)) (fun i σ H' => ∃ (q : Addr) (l : Vec) (outs : List V) (os : List Vec) (x4 x5 x6 : Option V), σ = [some (.ref b), some (.ref p), some (.ref o), some (.ref q), x4, x5, x6] ∧ Same H H' ∧ IsV H' q l ∧ l.length = v.length ∧
      H' o = some (.lst outs) ∧ Rows H' v.length outs os ∧ os.length = i ∧ OkStep (rs.drop i) l ∧ os ++ (stepGo (rs.drop i) l).1 = (stepGo rs v).1 ∧ (stepGo (rs.drop i) l).2 = (stepGo rs v).2) ⟨p, v, [], [], _, _, _, rfl, so, so _ _ hv, rfl, ho1, ⟨.nil, fun u hu => nomatch hu⟩, rfl, ok, rfl, rfl⟩ (fun i σ H' _ z => ?_) ?_ ?_⟩
    · obtain ⟨_, _, _, _, _, _, _, _, sm, _⟩ := z
      exact SqT.of (sm _ _ hb)
    · rintro i x σ H' H'' hi ⟨q, l, outs, os, x4, x5, x6, rfl, sm, hl, ll, hout, hos, los, okl, e1, e2⟩ ⟨rfl, ex⟩
      obtain ⟨a, r, er, rfl, hr0, lr⟩ := (hrs.keep sm).at ex
      have hlt := (List.getElem?_eq_some_iff.mp er).1
      have ed : rs.drop i = r :: rs.drop (i + 1) := by
        rw [List.drop_eq_getElem_cons hlt, (List.getElem?_eq_some_iff.mp er).2]
      rw [ed] at okl e1 e2
      obtain ⟨o1, o2⟩ := okl
      have lout : outs.length = i := (hos.len).trans los
      have small : outs.length < sizeLine := by rw [lout]; exact Nat.lt_of_le_of_lt (Nat.le_trans (Nat.le_of_lt hlt) h2) (by decide)
      refine ⟨_, rfl, a, r, rfl, hr0, fun H1 s1 => ?_⟩
      refine ⟨_, rfl, q, l, rfl, s1 _ _ hl, fun H2 s2 => ⟨_, rfl, _, _, rfl, rfl, _, rfl, ?_⟩⟩
      have s12 := s1.trans s2
      have ho2 := s12 _ _ hout
      have nho : ∀ x' u, H x' = some u → x' ≠ o := fun x' u z => ne_of_none z ho
      rcases o2 with ⟨hp, o3⟩ | ⟨hp, o3, o4⟩
      · show if decide (((piv l : Nat) : Int) < ((piv r : Nat) : Int)) = true then _ else _
        rw [decide_eq_true (by omega)]
        refine ⟨_, rfl, .inl ⟨rfl, _, SqL.of ho2⟩, _, rfl, o, _, _, rfl, rfl, ho2, small, ?_⟩
        have eg : stepGo (r :: rs.drop (i + 1)) l = (l :: (stepGo (rs.drop (i + 1)) r).1, (stepGo (rs.drop (i + 1)) r).2) := by rw [stepGo, if_pos hp]
        rw [eg] at e1 e2
        refine ⟨_, rfl, a, r, _, os ++ [l], _, _, _, rfl, fun x' u z => ?_, V_up ho2 (s12 _ _ hr0), lr, upd_same, Rows.snoc (Rows.lst_up ho2 (hos.keep s12)) (V_up ho2 (s12 _ _ hl)) ll, by rw [List.length_append, los]; rfl, o3, ?_, e2⟩
        · rw [upd_ne (nho x' u z)]; exact s12 _ _ (sm _ _ z)
        · rw [List.append_assoc]; exact e1
      · show if decide (((piv l : Nat) : Int) < ((piv r : Nat) : Int)) = true then _ else _
        rw [decide_eq_false (by omega)]
        refine ⟨_, rfl, _, rfl, _, rfl, a, q, r, l, piv r, (itm l (piv r)).natAbs, rfl, s12 _ _ hr0, s12 _ _ hl, by omega, by omega, by omega, o3, fun H3 t x y s3 ht hx hy => ?_⟩
        have ho3 := s3 _ _ ho2
        refine ⟨t, _, rfl, SqT.of ht, rfl, _, _, rfl, _, _, rfl, rfl, ?_⟩
        refine ⟨_, rfl, .inl ⟨rfl, _, SqL.of ho3⟩, _, rfl, o, _, _, rfl, rfl, ho3, small, ?_⟩
        have eg : stepGo (r :: rs.drop (i + 1)) l = ((clear r l (piv r)).1 :: (stepGo (rs.drop (i + 1)) (clear r l (piv r)).2).1, (stepGo (rs.drop (i + 1)) (clear r l (piv r)).2).2) := by rw [stepGo, if_neg hp]
        rw [eg] at e1 e2
        have s13 := s12.trans s3
        obtain ⟨c1, c2⟩ := clr_len (itm l (piv r)).natAbs r l (piv r) (by omega)
        refine ⟨y, _, _, os ++ [(clear r l (piv r)).1], _, _, _, rfl, fun x' u z => ?_, V_up ho3 hy, (by first | omega | (unfold clear; omega)), upd_same, Rows.snoc (Rows.lst_up ho3 (hos.keep s13)) (V_up ho3 hx) (by first | omega | (unfold clear; omega)), by rw [List.length_append, los]; rfl, o4, ?_, e2⟩
        · rw [upd_ne (nho x' u z)]; exact s13 _ _ (sm _ _ z)
        · rw [List.append_assoc]; exact e1
    · rintro σ H' ⟨q, l, outs, os, x4, x5, x6, rfl, sm, hl, ll, hout, hos, los, okl, e1, e2⟩
      rw [hrs.len, List.drop_length] at e1 e2
      have e1' : os = (stepGo rs v).1 := by rw [← e1]; exact (List.append_nil os).symm
      have e2' : l = (stepGo rs v).2 := e2
      refine ⟨_, rfl, q, l, rfl, hl, fun H1 s1 => ⟨_, rfl, ?_⟩⟩
      have ho1 := s1 _ _ hout
      by_cases hz : piv l = l.length
      · show if (!decide (piv l = l.length)) = true then _ else _
        rw [decide_eq_true hz]
        have ef : Lat.stepped rs v = os := by unfold Lat.stepped; rw [← e2', if_pos hz, e1']
        refine ⟨_, rfl, k _ o outs (sm.trans s1) ho1 ?_⟩
        rw [ef]; exact hos.keep s1
      · show if (!decide (piv l = l.length)) = true then _ else _
        rw [decide_eq_false hz]
        have ef : Lat.stepped rs v = os ++ [l] := by unfold Lat.stepped; rw [← e2', if_neg hz, e1']
        have lout : outs.length = os.length := hos.len
        have small : outs.length < sizeLine := by rw [lout, los, hrs.len]; exact Nat.lt_of_le_of_lt h2 (by decide)
        refine ⟨_, rfl, .inl ⟨rfl, _, SqL.of ho1⟩, _, rfl, o, _, _, rfl, rfl, ho1, small, ?_⟩
        refine ⟨_, rfl, k _ o _ (fun x' u z => ?_) upd_same ?_⟩
        · rw [upd_ne (ne_of_none z ho)]; exact s1 _ _ (sm _ _ z)
        · rw [ef]
          exact Rows.snoc (Rows.lst_up ho1 (hos.keep s1)) (V_up ho1 (s1 _ _ hl)) ll
def OkPos (r : Vec) : Prop := piv r < r.length ∧ ∀ m ∈ r, CMulX (-2) m
theorem posV_len (r : Vec) : (posV r).length = r.length := by
  unfold posV
  split
  · rfl
  · exact addV_len rfl
abbrev s_positive : Stmt := top 19
abbrev n_positive : List Str := ["row"]
theorem sc_positive : FnScope n_positive ["row"] (defScope s_positive) := ⟨rfl, rfl, rfl, by decide +kernel, rfl, by decide +kernel, by decide +kernel⟩
def spPositive : Sp := fun vs H Q _ => ∃ (a : Addr) (r : Vec), vs = [.ref a] ∧ IsV H a r ∧ r.length ≤ 1000 ∧ OkPos r ∧ ∀ (H' : Hp) (q : Addr), Same H H' → IsV H' q (posV r) → Q (.ref q) H'
theorem ok_positive (T : Txt mg) (g_pivot_of : Has P w K mg base 1 "pivot_of" ["vector"] spPivot) (g_added : Has P w K mg base 1 "added" ["vector", "times", "other"] spAdded) (F : DefAt K mg "positive" s_positive ["row"]) : Has P w K mg base 2 "positive" ["row"] spPositive := by
  refine F.has sc_positive (fun vs H Q E h => ?_) (fun f cdv A outer s H vs Q E hr h => ?_)
  · obtain ⟨a, r, rfl, _⟩ := h
    rfl
  · obtain ⟨a, r, rfl, ha, h1, ⟨o1, o2⟩, k⟩ := h
    refine ⟨_, (pss_one (ps_ret (pe_ifExp (pt_cmpR op_gt (pe_ix ix_tup (pv 0) (pe_callHas g_pivot_of (hr.mono (by decide)) rfl (pa_cons (pv 0) pa_nil)) (fun _ _ => rfl)) pe_int (nomark _)) (pv 0) (pe_callHas g_added (hr.mono (by decide)) rfl (pa_cons (pv 0) (pa_cons (pe_un un_neg pe_int) (pa_cons (pv 0) pa_nil))))))), ?_⟩
    refine ⟨_, rfl, _, rfl, a, r, rfl, ha, fun H1 s1 => ⟨a, _, _, _, rfl, rfl, SqT.of (s1 _ _ ha), int_at o1, _, _, rfl, rfl, _, rfl, ?_⟩⟩
    by_cases h0 : itm r (piv r) > 0
    · show if decide (0 < itm r (piv r)) = true then _ else _
      rw [decide_eq_true h0]
      have e : posV r = r := by unfold posV; rw [if_pos h0]
      exact ⟨_, rfl, k _ a s1 (by rw [e]; exact s1 _ _ ha)⟩
    · show if decide (0 < itm r (piv r)) = true then _ else _
      rw [decide_eq_false h0]
      have e : posV r = addV r (-2) r := by unfold posV; rw [if_neg h0]
      refine ⟨_, rfl, _, rfl, _, rfl, a, a, -2, r, r, rfl, s1 _ _ ha, s1 _ _ ha, rfl, h1, o2, fun H2 q s2 hq => k _ q (s1.trans s2) (by rw [e]; exact hq)⟩
def OkTidy : List Vec → Prop
  | [] => True
  | r :: rs => OkTidy rs ∧ OkPos r ∧ OkRed (tidy rs) (posV r)
theorem okTidy_drop : ∀ (i : Nat) (rs : List Vec), OkTidy rs → OkTidy (rs.drop i)
  | 0, _, h => h
  | _ + 1, [], h => h
  | i + 1, _ :: rs, h => okTidy_drop i rs h.1
theorem Rows.cons {H : Hp} {n : Nat} {a : Addr} {as : List V} {vs : List Vec} {v : Vec} (h : Rows H n as vs) (hv : IsV H a v) (l : v.length = n) : Rows H n (.ref a :: as) (v :: vs) :=
  ⟨.cons ⟨a, rfl, hv⟩ h.1, fun u hu => by
    rcases List.mem_cons.mp hu with hu | hu
    · rw [hu]; exact l
    · exact h.2 u hu⟩
theorem tidy_len : ∀ rs : List Vec, (tidy rs).length = rs.length
  | [] => rfl
  | r :: rs => by unfold tidy; rw [List.length_cons, List.length_cons, tidy_len rs]
abbrev s_tidied : Stmt := top 20
abbrev n_tidied : List Str := ["steps", "out", "row"]
theorem sc_tidied : FnScope n_tidied ["steps"] (defScope s_tidied) := ⟨rfl, rfl, rfl, by decide +kernel, rfl, by decide +kernel, by decide +kernel⟩
def spTidied : Sp := fun vs H Q _ => ∃ (l : Addr) (n : Nat) (as : List V) (rs : List Vec), vs = [.ref l] ∧ H l = some (.lst as) ∧ Rows H n as rs ∧ n ≤ 1000 ∧ rs.length ≤ 1000 ∧ OkTidy rs ∧ ∀ (H' : Hp) (q : Addr) (os : List V), Same H H' → H' q = some (.tup os) → Rows H' n os (tidy rs) → Q (.ref q) H'
theorem ok_tidied (T : Txt mg) (g_positive : Has P w K mg base 2 "positive" ["row"] spPositive) (g_reduced_by : Has P w K mg base 2 "reduced_by" ["basis", "vector"] spReduced) (F : DefAt K mg "tidied" s_tidied ["steps"]) : Has P w K mg base 3 "tidied" ["steps"] spTidied := by
  refine F.has sc_tidied (fun vs H Q E h => ?_) (fun f cdv A outer s H vs Q E hr h => ?_)
  · obtain ⟨l, n, as, rs, rfl, _⟩ := h
    rfl
  · obtain ⟨l, n, as, rs, rfl, hl, hrs, h1, h2, ok, k⟩ := h
    refine ⟨_, (pss_cons (ps_set (i := 1) sc_tidied.nd rfl (Or.inl rfl) (pe_lst pa_nil))
      (pss_cons (ps_for PassesOwn.never rfl (pi_list (pe_revL (pv 0))) (pg_name (i := 2) sc_tidied.nd rfl (Or.inl rfl)) (pss_one (ps_set (i := 1) sc_tidied.nd rfl (Or.inl rfl) (pe_lst (pa_cons (pe_callHas g_reduced_by (hr.mono (by decide)) rfl (pa_cons (pv 1) (pa_cons (pe_callHas g_positive (hr.mono (by decide)) rfl (pa_cons (pv 2) pa_nil)) pa_nil))) (StX.pa_star (pv 1) pa_nil))))))
      (pss_one (ps_ret (pe_callTy call_tuple_of (by rfl) T.z_tuple (by decide +kernel) (pa_cons (pv 1) pa_nil)))))), ?_⟩
    refine ⟨Nat.zero_le _, fun o ho => ?_⟩
    obtain ⟨so, ho1⟩ := new_at (o := .lst []) ho
    refine ⟨_, rfl, l, as, rfl, SqL.of (so _ _ hl), fun p hp => ?_⟩
    obtain ⟨sp, hp1⟩ := new_at (o := .lst as.reverse) hp
    have lrs : as.length = rs.length := hrs.len
    refine ⟨p, rfl, ⟨_, SqL.of hp1⟩, for_it (walk_list (xs := as.reverse)) (fun i σ H' => ∃ (o : Addr) (outs : List V) (x2 : Option V), σ = [some (.ref l), some (.ref o), x2] ∧ Same H H' ∧ H' p = some (.lst as.reverse) ∧ H' o = some (.lst outs) ∧ i ≤ rs.length ∧ Rows H' n outs (tidy (rs.drop (rs.length - i))))
      ⟨o, [], _, rfl, so.trans sp, hp1, sp _ _ ho1, Nat.zero_le _, by rw [Nat.sub_zero, List.drop_length]; exact ⟨.nil, fun u hu => nomatch hu⟩⟩ (fun i σ H' _ z => ?_) ?_ ?_⟩
    · obtain ⟨_, _, _, _, _, hp2, _⟩ := z
      exact SqL.of hp2
    · rintro i x σ H' H'' hi ⟨o, outs, x2, rfl, sm, hp2, hout, hi2, hos⟩ ⟨rfl, ex⟩
      rw [List.length_reverse] at hi
      rw [List.getElem?_reverse hi] at ex
      obtain ⟨a, r, er, rfl, hr0, lr⟩ := (hrs.keep sm).at ex
      have hlt := (List.getElem?_eq_some_iff.mp er).1
      have ed : rs.drop (rs.length - (i + 1)) = r :: rs.drop (rs.length - i) := by
        have e1 : rs.length - (i + 1) = as.length - 1 - i := by omega
        have e2 : rs.length - i = as.length - 1 - i + 1 := by omega
        rw [e1, e2, List.drop_eq_getElem_cons hlt, (List.getElem?_eq_some_iff.mp er).2]
      have okd := okTidy_drop (rs.length - (i + 1)) rs ok
      rw [ed] at okd
      obtain ⟨o1, o2, o3⟩ := okd
      refine ⟨_, rfl, _, rfl, a, r, rfl, hr0, by omega, o2, fun H1 q1 s1 hq1 => ?_⟩
      have lp := posV_len r
      have n1 : (posV r).length = n := lp.trans lr
      refine ⟨o, q1, outs, _, posV r, rfl, .inr (s1 _ _ hout), by rw [n1]; exact hos.keep s1, hq1, by omega, o3, fun H2 z s2 hz lz => ?_⟩
      have s12 := s1.trans s2
      refine ⟨_, rfl, o, outs, rfl, .inr (SqL.of (s12 _ _ hout)), ?_⟩
      have lout : outs.length = rs.length - (rs.length - i) := by rw [hos.len, tidy_len, List.length_drop]
      refine ⟨by show (V.ref z :: (outs ++ [])).length ≤ sizeLine; rw [List.append_nil, List.length_cons]; exact Nat.le_trans (by omega : outs.length + 1 ≤ 1001) (by decide), fun o' ho' => ?_⟩
      obtain ⟨s3, ho3⟩ := new_at (o := .lst (V.ref z :: (outs ++ []))) ho'
      have s13 := s12.trans s3
      refine ⟨o', _, _, rfl, sm.trans s13, s13 _ _ hp2, ho3, by omega, ?_⟩
      rw [ed]
      have fin : Rows _ n (V.ref z :: outs) (redV (tidy (rs.drop (rs.length - i))) (posV r) :: tidy (rs.drop (rs.length - i))) := Rows.cons (hos.keep s13) (s3 _ _ hz) (by omega)
      rw [show V.ref z :: (outs ++ []) = V.ref z :: outs by rw [List.append_nil]] at fin ⊢
      exact fin
    · rintro σ H' ⟨o, outs, x2, rfl, sm, hp2, hout, hi2, hos⟩
      rw [List.length_reverse, lrs, Nat.sub_self] at hos
      refine ⟨_, rfl, _, _, rfl, .inl ⟨SqL.of hout, fun t ht => ?_⟩⟩
      obtain ⟨s3, ht3⟩ := new_at (o := .tup outs) ht
      exact k _ t outs (sm.trans s3) ht3 (hos.keep s3)
def OkGrow (rs : List Vec) (v : Vec) : Prop := OkRed rs v ∧ (piv (redV rs v) = (redV rs v).length ∨ (OkStep rs (redV rs v) ∧ OkTidy (Lat.stepped rs (redV rs v)) ∧ (Lat.stepped rs (redV rs v)).length ≤ 1000))
abbrev s_grown : Stmt := top 21
abbrev n_grown : List Str := ["basis", "vector", "rest"]
theorem sc_grown : FnScope n_grown ["basis", "vector"] (defScope s_grown) := ⟨rfl, rfl, rfl, by decide +kernel, rfl, by decide +kernel, by decide +kernel⟩
def spGrown : Sp := fun vs H Q _ => ∃ (b p : Addr) (as : List V) (rs : List Vec) (v : Vec), vs = [.ref b, .ref p] ∧ H b = some (.tup as) ∧ Rows H v.length as rs ∧ IsV H p v ∧ v.length ≤ 1000 ∧ rs.length ≤ 1000 ∧ OkGrow rs v ∧
  ∀ (H' : Hp) (q : Addr) (os : List V), Same H H' → H' q = some (.tup os) → Rows H' v.length os (grow rs v) → Q (.ref q) H'
theorem ok_grown (T : Txt mg) (g_reduced_by : Has P w K mg base 2 "reduced_by" ["basis", "vector"] spReduced) (g_is_zero : Has P w K mg base 2 "is_zero" ["vector"] spZero) (g_stepped : Has P w K mg base 3 "stepped" ["steps", "vector"] spStepped) (g_tidied : Has P w K mg base 3 "tidied" ["steps"] spTidied)
    (F : DefAt K mg "grown" s_grown ["basis", "vector"]) : Has P w K mg base 4 "grown" ["basis", "vector"] spGrown := by
  refine F.has sc_grown (fun vs H Q E h => ?_) (fun f cdv A outer s H vs Q E hr h => ?_)
  · obtain ⟨b, p, as, rs, v, rfl, _⟩ := h
    rfl
  · obtain ⟨b, p, as, rs, v, rfl, hb, hrs, hv, h1, h2, ⟨o1, o2⟩, k⟩ := h
    refine ⟨_, (pss_cons (ps_set (i := 2) sc_grown.nd rfl (Or.inl rfl) (pe_callHas g_reduced_by (hr.mono (by decide)) rfl (pa_cons (pv 0) (pa_cons (pv 1) pa_nil))))
      (pss_cons (ps_if (pt_val (pe_callHas g_is_zero (hr.mono (by decide)) rfl (pa_cons (pv 2) pa_nil))) (pss_one (ps_ret (pv 0))) pss_nil)
      (pss_one (ps_ret (pe_callHas g_tidied (hr.mono (by decide)) rfl (pa_cons (pe_callHas g_stepped (hr.mono (by decide)) rfl (pa_cons (pv 0) (pa_cons (pv 2) pa_nil))) pa_nil)))))), ?_⟩
    refine ⟨_, rfl, _, rfl, b, p, as, rs, v, rfl, .inl hb, hrs, hv, h1, o1, fun H1 q s1 hq lq => ?_⟩
    refine ⟨_, rfl, q, _, rfl, hq, fun H2 s2 => ⟨_, rfl, ?_⟩⟩
    have s12 := s1.trans s2
    by_cases hz : piv (redV rs v) = (redV rs v).length
    · show if decide (piv (redV rs v) = (redV rs v).length) = true then _ else _
      rw [decide_eq_true hz]
      have e : grow rs v = rs := by unfold grow; rw [if_pos hz]
      exact ⟨_, rfl, k _ b as s12 (s12 _ _ hb) (by rw [e]; exact hrs.keep s12)⟩
    · show if decide (piv (redV rs v) = (redV rs v).length) = true then _ else _
      rw [decide_eq_false hz]
      have e : grow rs v = tidy (Lat.stepped rs (redV rs v)) := by unfold grow; rw [if_neg hz]
      rcases o2 with o2 | ⟨o2, o3, o4⟩
      · exact absurd o2 hz
      · refine ⟨_, rfl, _, rfl, b, q, as, rs, redV rs v, rfl, s12 _ _ hb, by rw [lq]; exact hrs.keep s12, s2 _ _ hq, by omega, h2, o2, fun H3 o os s3 ho3 hos => ?_⟩
        rw [lq] at hos
        refine ⟨o, v.length, os, _, rfl, ho3, hos, h1, o4, o3, fun H4 z zs s4 hz4 hzs => ?_⟩
        exact k _ z zs ((s12.trans s3).trans s4) hz4 (by rw [e]; exact hzs)
end
end K06

namespace K06
open PySem L2 RZ Lat
section
variable {P : Program} {w : World} {K : PySem.W.Frag} {mg : Str → Option Value} {base : Heap}
structure ClsL (K : PySem.W.Frag) (mg : Str → Option Value) (C : Addr) : Prop where
  cl : Cls K C
  nW : NoAttr K C "width"
  nB : NoAttr K C "basis"
  m : mg "Lattice" = some (.ref C)
def lf (n : Int) (b : Addr) : List (Str × V) := putF "basis" (.ref b) (putF "width" (.int n) [])
theorem wb : ¬ (("basis" : Str) = "width") := by decide +kernel
theorem lf_basis (n : Int) (b : Addr) : (lf n b).lookup ("basis" : Str) = some (.ref b) := by
  unfold lf
  rw [lookup_putF, if_pos rfl]
theorem lf_none (n : Int) (b : Addr) {m : Str} (h1 : ¬ m = "basis") (h2 : ¬ m = "width") : (lf n b).lookup m = none := by
  unfold lf
  rw [lookup_putF, if_neg h1, lookup_putF, if_neg h2]; rfl
/-- a lattice at x -/
def LatAt (C : Addr) (H : Hp) (x : Addr) (n : Nat) (rs : List Vec) : Prop := ∃ (dx b : Addr) (os : List V), H x = some (.ins C dx (lf ((n : Nat) : Int) b)) ∧ H b = some (.tup os) ∧ Rows H n os rs
theorem LatAt.keep {C : Addr} {H H' : Hp} {x : Addr} {n : Nat} {rs : List Vec} (s : Same H H') (h : LatAt C H x n rs) : LatAt C H' x n rs := by
  obtain ⟨dx, b, os, h1, h2, h3⟩ := h
  exact ⟨dx, b, os, s _ _ h1, s _ _ h2, h3.keep s⟩
theorem Rows.ins_up {H : Hp} {n : Nat} {x C dx : Addr} {fs gs : List (Str × V)} {as : List V} {vs : List Vec} (hx : H x = some (.ins C dx fs)) (h : Rows H n as vs) : Rows (upd H x (.ins C dx gs)) n as vs :=
  ⟨Paired.mapP h.1 fun y v z => by
    obtain ⟨a, e, q⟩ := z
    exact ⟨a, e, (upd_ne (ne_of q hx fun y => nomatch y)).trans q⟩, h.2⟩
def OkGrows : List Vec → List Vec → Prop
  | _, [] => True
  | bs, v :: vs => OkGrow bs v ∧ bs.length ≤ 1000 ∧ OkGrows (grow bs v) vs
def grows (bs vs : List Vec) : List Vec := vs.foldl grow bs
abbrev s_Lattice_init : Stmt := inClass (top 23) 0
abbrev n_Lattice_init : List Str := ["self", "width", "rows", "basis", "row"]
theorem sc_Lattice_init : FnScope n_Lattice_init ["self", "width", "rows"] (defScope s_Lattice_init) := ⟨rfl, rfl, rfl, by decide +kernel, rfl, by decide +kernel, by decide +kernel⟩
def spLattice (K : PySem.W.Frag) (C : Addr) : Sp := fun vs H Q _ => ∃ (x dx l : Addr) (n : Nat) (as : List V) (rs : List Vec), vs = [.ref x, .int ((n : Nat) : Int), .ref l] ∧ H x = some (.ins C dx []) ∧ 1 ≤ n ∧ n ≤ 1000 ∧ rs.length ≤ 1000 ∧ InSeq K H l as ∧ Rows H n as rs ∧ OkGrows [] rs ∧
  ∀ H' : Hp, (∀ y o, y ≠ x → H y = some o → H' y = some o) → LatAt C H' x n (grows [] rs) → Q .non H'
theorem ok_lattice {C fI : Addr} {fd : FuncData} {d : V} (T : Txt mg) (CL : ClsL K mg C) (g_is_width : Has P w K mg base 2 "is_width" ["value"] spWidth) (g_are_vectors : Has P w K mg base 3 "are_vectors" ["value", "width"] (spAreVectors K))
    (g_grown : Has P w K mg base 4 "grown" ["basis", "vector"] spGrown) (F : FunD K "__init__" "Lattice.__init__" (defArgs s_Lattice_init) (defBody s_Lattice_init) (defScope s_Lattice_init) [d] [] fI fd) : FnOk P w K mg base CX0 5 fI fd ["self", "width", "rows"] (spLattice K C) := by
  refine F.ok sc_Lattice_init (fun vs H Q E h => ?_) (fun cdv A outer s H vs Q E hr h => ?_)
  · obtain ⟨x, dx, l, n, as, rs, rfl, _⟩ := h
    rfl
  · obtain ⟨x, dx, l, n, as, rs, rfl, hx, n1, n2, lrs, hl, hrs, ok, k⟩ := h
    refine ⟨_, PSs.nox (X := cxOf CX0 P w K mg base n_Lattice_init "Lattice.__init__" (defScope s_Lattice_init) fI cdv A outer s H E) (pss_cons (ps_if (PW.pt (pw_or (pt_not (pt_val (pe_callHas g_is_width (hr.mono (by decide)) rfl (pa_cons (pv 1) pa_nil)))) (pw_or1 (pt_not (pt_val (pe_callHas g_are_vectors (hr.mono (by decide)) rfl (pa_cons (pv 2) (pa_cons (pv 1) pa_nil)))))))) (pss_one ps_never) pss_nil)
      (pss_cons (ps_set (i := 3) sc_Lattice_init.nd rfl (Or.inl rfl) (pe_tup pa_nil))
      (pss_cons (ps_for PassesOwn.never rfl (pi_seq (pv 2)) (pg_name (i := 4) sc_Lattice_init.nd rfl (Or.inl rfl)) (pss_one (ps_set (i := 3) sc_Lattice_init.nd rfl (Or.inl rfl) (pe_callHas g_grown (hr.mono (by decide)) rfl (pa_cons (pv 3) (pa_cons (pv 4) pa_nil))))))
      (pss_cons (ps_fld (pv 0) (pv 1) rfl)
      (pss_one (ps_fld (pv 0) (pv 3) rfl)))))), ?_⟩
    refine ⟨_, rfl, _, rfl, by omega, _, rfl, ?_⟩
    refine ⟨_, rfl, _, rfl, l, as, rs, n, rfl, hl, hrs, n2, lrs, fun H1 s1 => ⟨_, rfl, ?_⟩⟩
    refine ⟨Nat.zero_le _, fun b0 hb0 => ?_⟩
    obtain ⟨s2, hb1⟩ := new_at (o := .tup []) hb0
    have s12 := s1.trans s2
    rcases hl with hl | ⟨hk, has, hq⟩
    · refine Or.inl ⟨_, rfl, l, rfl, ⟨_, SqL.of (s12 _ _ hl)⟩, for_it (walk_list (xs := as)) (fun i σ H' => ∃ (b : Addr) (os : List V) (bs : List Vec) (x4 : Option V), σ = [some (.ref x), some (.int ((n : Nat) : Int)), some (.ref l), some (.ref b), x4] ∧ Same H H' ∧ H' b = some (.tup os) ∧ Rows H' n os bs ∧ OkGrows bs (rs.drop i) ∧ grows bs (rs.drop i) = grows [] rs) ⟨b0, [], [], _, rfl, s12, hb1, ⟨.nil, fun u hu => nomatch hu⟩, ok, rfl⟩ (fun i σ H' _ q => SqL.of ((show Same H H' from by obtain ⟨_, _, _, _, _, sm, _⟩ := q; exact sm) _ _ hl)) ?_ ?_⟩
      · rintro i y σ H' H'' hi ⟨b, os, bs, x4, rfl, sm, hb, hbs, okb, eb⟩ ⟨rfl, ex⟩
        obtain ⟨a, r, er, rfl, hr0, lr⟩ := (hrs.keep sm).at ex
        have hlt := (List.getElem?_eq_some_iff.mp er).1
        have ed : rs.drop i = r :: rs.drop (i + 1) := by
          rw [List.drop_eq_getElem_cons hlt, (List.getElem?_eq_some_iff.mp er).2]
        rw [ed] at okb eb
        obtain ⟨o1, o2, o3⟩ := okb
        refine ⟨_, rfl, _, rfl, b, a, os, bs, r, rfl, hb, by rw [lr]; exact hbs, hr0, by omega, o2, o1, fun H2 q os' s2 hq hos => ?_⟩
        rw [lr] at hos
        exact ⟨q, os', grow bs r, _, rfl, sm.trans s2, hq, hos, o3, eb⟩
      · rintro σ H' ⟨b, os, bs, x4, rfl, sm, hb, hbs, okb, eb⟩
        rw [hrs.len, List.drop_length] at eb
        have eb' : bs = grows [] rs := eb
        subst eb'
        have hx1 := sm _ _ hx
        refine ⟨_, rfl, _, rfl, x, C, dx, _, rfl, hx1, CL.cl, CL.nW, (by show 0 < 1000; decide), _, rfl, _, rfl, x, C, dx, _, rfl, upd_same, CL.cl, CL.nB, (by show 1 < 1000; decide), ?_⟩
        rw [upd_upd]
        have nbx : b ≠ x := ne_of hb hx1 fun z => nomatch z
        exact k _ (fun y o ny z => by rw [upd_ne ny]; exact sm _ _ z) ⟨dx, b, os, upd_same, (upd_ne nbx).trans hb, Rows.ins_up hx1 hbs⟩
    · subst has
      refine Or.inr ⟨_, rfl, l, rfl, ⟨_, Same.sqt s12 hq⟩, for_it (walk_tup (xs := [])) (fun i σ H' => ∃ (b : Addr) (os : List V) (bs : List Vec) (x4 : Option V), σ = [some (.ref x), some (.int ((n : Nat) : Int)), some (.ref l), some (.ref b), x4] ∧ Same H H' ∧ H' b = some (.tup os) ∧ Rows H' n os bs ∧ OkGrows bs (rs.drop i) ∧ grows bs (rs.drop i) = grows [] rs) ⟨b0, [], [], _, rfl, s12, hb1, ⟨.nil, fun u hu => nomatch hu⟩, ok, rfl⟩ (fun i σ H' _ q => Same.sqt (show Same H H' from by obtain ⟨_, _, _, _, _, sm, _⟩ := q; exact sm) hq) (fun i x σ H' H'' hi => absurd hi (Nat.not_lt_zero _)) ?_⟩
      · rintro σ H' ⟨b, os, bs, x4, rfl, sm, hb, hbs, okb, eb⟩
        rw [hrs.len, List.drop_length] at eb
        have eb' : bs = grows [] rs := eb
        subst eb'
        have hx1 := sm _ _ hx
        refine ⟨_, rfl, _, rfl, x, C, dx, _, rfl, hx1, CL.cl, CL.nW, (by show 0 < 1000; decide), _, rfl, _, rfl, x, C, dx, _, rfl, upd_same, CL.cl, CL.nB, (by show 1 < 1000; decide), ?_⟩
        rw [upd_upd]
        have nbx : b ≠ x := ne_of hb hx1 fun z => nomatch z
        exact k _ (fun y o ny z => by rw [upd_ne ny]; exact sm _ _ z) ⟨dx, b, os, upd_same, (upd_ne nbx).trans hb, Rows.ins_up hx1 hbs⟩
end
end K06

namespace K06
open PySem L2 RZ Lat
theorem two_at (c : Int) (b : Prop) [Decidable b] : ∃ v, atI [V.int 0, V.int c] (if decide b = true then 1 else 0) = some (V.int v) := by
  by_cases h : b
  · exact ⟨c, by rw [decide_eq_true h]; rfl⟩
  · exact ⟨0, by rw [decide_eq_false h]; rfl⟩
/-- a box: three ints -/
def Box (H : Hp) (b : Addr) : Prop := ∃ x y z : Int, H b = some (.lst [.int x, .int y, .int z])
section
variable {P : Program} {w : World} {K : PySem.W.Frag} {mg : Str → Option Value} {base : Heap}
abbrev s_law_take : Stmt := top 26
abbrev n_law_take : List Str := ["_law_box_here", "_law_many", "_law_digit", "_law_raw", "_law_wide"]
theorem sc_law_take : FnScope n_law_take ["_law_box_here", "_law_many"] (defScope s_law_take) := ⟨rfl, rfl, rfl, by decide +kernel, rfl, by decide +kernel, by decide +kernel⟩
def spTake : Sp := fun vs H Q _ => ∃ (b : Addr) (n : Int), vs = [.ref b, .int n] ∧ Box H b ∧ 0 < n ∧ n < 10000000000 ∧ ∀ (d x y z : Int), 0 ≤ d → d < n → Q (.int d) (upd H b (.lst [.int x, .int y, .int z]))
theorem ok_take (T : Txt mg) (F : DefAt K mg "_law_take" s_law_take ["_law_box_here", "_law_many"]) : Has P w K mg base 1 "_law_take" ["_law_box_here", "_law_many"] spTake := by
  refine F.has sc_law_take (fun vs H Q E h => ?_) (fun f cdv A outer s H vs Q E hr h => ?_)
  · obtain ⟨b, n, rfl, _⟩ := h
    rfl
  · obtain ⟨b, n, rfl, ⟨x, y, z, hb⟩, n0, n1, k⟩ := h
    refine ⟨_, (pss_cons (ps_if (pt_cmpR op_gt (pe_ix ix_list (pv 0) pe_int (fun _ _ => rfl)) pe_int (nomark _)) (pss_cons (ps_set (i := 2) sc_law_take.nd rfl (Or.inl rfl) (pe_op op_mod (pe_callTy call_int1 (by rfl) T.z_int (by decide +kernel) (pa_cons (pe_ix ix_list (pv 0) pe_int (fun _ _ => rfl)) pa_nil)) (pv 1)))
      (pss_cons (ps_asg (pe_op op_fdivW (pe_ix ix_list (pv 0) pe_int (fun _ _ => rfl)) (pv 1)) (pg_sub (pv 0) pe_int set_list))
      (pss_one (ps_ret (pv 2))))) pss_nil)
      (pss_cons (ps_asg (pe_op op_add (pe_ix ix_list (pv 0) pe_int (fun _ _ => rfl)) pe_int) (pg_sub (pv 0) pe_int set_list))
      (pss_cons (ps_set (i := 3) sc_law_take.nd rfl (Or.inl rfl) (pe_op op_mod (pe_callTy call_int1 (by rfl) T.z_int (by decide +kernel) (pa_cons (pe_op op_mul (pe_op op_add (pe_ix ix_list (pv 0) pe_int (fun _ _ => rfl)) (pe_op op_mul pe_int (pe_ix ix_list (pv 0) pe_int (fun _ _ => rfl)))) pe_int) pa_nil)) pe_int))
      (pss_cons (ps_asg (pe_op op_add (pe_op op_mod (pe_callTy call_int1 (by rfl) T.z_int (by decide +kernel) (pa_cons (pe_op op_add (pe_op op_mul (pv 3) pe_int) pe_int) pa_nil)) pe_int) pe_int) (pg_sub (pv 0) pe_int set_list))
      (pss_cons (ps_if (pt_cmpR op_lt (pv 1) (pe_op op_pow pe_int pe_int) (nomark _)) (pss_one (ps_ret (pe_op op_mod (pe_callTy call_int1 (by rfl) T.z_int (by decide +kernel) (pa_cons (pe_op op_fdiv (pe_op op_add (pe_op op_mul (pv 3) pe_int) (pe_ix ix_list (pv 0) pe_int (fun _ _ => rfl))) pe_int) pa_nil)) (pv 1)))) pss_nil)
      (pss_cons (ps_set (i := 4) sc_law_take.nd rfl (Or.inl rfl) (pe_op op_mul (pe_op op_add (pe_op op_mul (pv 3) pe_int) (pe_ix ix_list (pv 0) pe_int (fun _ _ => rfl))) (pe_op op_pow pe_int pe_int)))
      (pss_one (ps_ret (pe_op op_mod (pe_callTy call_int1 (by rfl) T.z_int (by decide +kernel) (pa_cons (pe_op op_add (pe_op op_add (pv 4) (pe_op op_mul (pe_op op_pow (pe_ix ix_list (pv 0) pe_int (fun _ _ => rfl)) pe_int) pe_int)) (pv 3)) pa_nil)) (pv 1)))))))))), ?_⟩
    -- if box[0] > 0: the digit; else the next number
    refine ⟨_, rfl, b, _, _, _, rfl, rfl, SqL.of hb, rfl, _, _, rfl, rfl, _, rfl, ite2 (fun _ => ?_) (fun _ => ?_)⟩
    · refine ⟨_, rfl, b, _, _, _, rfl, rfl, SqL.of hb, rfl, .inl ⟨_, rfl, _, rfl, _, _, rfl, rfl, n0, ?_⟩⟩
      refine ⟨_, rfl, b, _, _, _, rfl, rfl, SqL.of hb, rfl, _, rfl, _, _, rfl, rfl, wide_div n0 (show n.natAbs < 2 ^ 40 by omega) (by decide) (by decide), _, rfl, b, _, _, _, rfl, rfl, hb, rfl, _, rfl, ?_⟩
      exact k _ _ _ _ (Int.emod_nonneg _ (by omega)) (Int.emod_lt_of_pos _ n0)
    · refine ⟨_, rfl, b, _, _, _, rfl, rfl, SqL.of hb, rfl, _, _, rfl, rfl, _, rfl, b, _, _, _, rfl, rfl, hb, rfl, ?_⟩
      have h1 : upd H b (.lst [.int x, .int y, .int (z + 1)]) b = some (.lst [.int x, .int y, .int (z + 1)]) := upd_same
      refine ⟨_, rfl, b, _, _, _, rfl, rfl, SqL.of h1, rfl, _, rfl, b, _, _, _, rfl, rfl, SqL.of h1, rfl, _, _, rfl, rfl, .inl ⟨by decide, by decide⟩, _, _, rfl, rfl, _, _, rfl, rfl, .inr ⟨by decide, by decide⟩, .inl ⟨_, rfl, _, _, rfl, rfl, (by show (0 : Int) < 2147483647; decide), ?_⟩⟩
      generalize (y + 104729 * (z + 1)) * 69623 % 2147483647 = r
      refine ⟨_, rfl, _, _, rfl, rfl, .inr ⟨by decide, by decide⟩, _, _, rfl, rfl, .inl ⟨_, rfl, _, _, rfl, rfl, (by show (0 : Int) < 2147483629; decide), _, _, rfl, rfl, _, rfl, b, _, _, _, rfl, rfl, h1, rfl, ?_⟩⟩
      rw [upd_upd]
      refine ⟨_, rfl, _, _, rfl, rfl, ⟨by decide, by decide, by decide⟩, _, _, rfl, rfl, _, rfl, ?_⟩
      have e : decide (n < 2 ^ (40 : Int).toNat) = true := decide_eq_true (by
        have q : (2 : Int) ^ (40 : Int).toNat = 1099511627776 := by decide +kernel
        omega)
      rw [e]
      refine iteT ⟨_, rfl, _, _, rfl, rfl, .inr ⟨by decide, by decide⟩, _, rfl, b, _, _, _, rfl, rfl, SqL.of upd_same, rfl, _, _, rfl, rfl, _, _, rfl, rfl, ⟨by decide, by decide⟩, .inl ⟨_, rfl, _, rfl, _, _, rfl, rfl, n0, ?_⟩⟩
      exact k _ _ _ _ (Int.emod_nonneg _ (by omega)) (Int.emod_lt_of_pos _ n0)
abbrev s_law_box : Stmt := top 25
abbrev n_law_box : List Str := ["_law_script", "_law_k", "_law_own", "_law_cell", "_law_seed"]
theorem sc_law_box : FnScope n_law_box ["_law_script", "_law_k", "_law_own"] (defScope s_law_box) := ⟨rfl, rfl, rfl, by decide +kernel, rfl, by decide +kernel, by decide +kernel⟩
def spBox (K : PySem.W.Frag) : Sp := fun vs H Q _ => ∃ (a : Addr) (ns : List Int) (k o : Int), vs = [.ref a, .int k, .int o] ∧ SqL K H a (ns.map V.int) ∧ 0 ≤ k ∧ k < 1000 ∧ 0 ≤ o ∧ o < 1000 ∧ ∀ (H' : Hp) (p : Addr), Same H H' → H p = none → Box H' p → Q (.ref p) H'
theorem ok_box (T : Txt mg) (F : DefAt K mg "_law_box" s_law_box ["_law_script", "_law_k", "_law_own"]) : Has P w K mg base 1 "_law_box" ["_law_script", "_law_k", "_law_own"] (spBox K) := by
  refine F.has sc_law_box (fun vs H Q E h => ?_) (fun f cdv A outer s H vs Q E hr h => ?_)
  · obtain ⟨a, ns, k, o, rfl, _⟩ := h
    rfl
  · obtain ⟨a, ns, i, o, rfl, hS, i0, i1, o0, o1, k⟩ := h
    refine ⟨_, (pss_cons (ps_set (i := 3) sc_law_box.nd rfl (Or.inl rfl) (pe_op op_add (pe_op op_add (pe_op op_mul pe_int (pv 1)) (pe_op op_mul pe_int (pv 2))) pe_int))
      (pss_cons (ps_if (pt_cmpR op_lt (pv 1) (pe_callB call_len (by rfl) T.z_len (by decide +kernel) (pa_cons (pv 0) pa_nil)) (nomark _)) (pss_one (ps_set (i := 3) sc_law_box.nd rfl (Or.inl rfl) (pe_callB call_abs (by rfl) T.z_abs (by decide +kernel) (pa_cons (pe_ix ix_list (pv 0) (pv 1) (fun _ _ => rfl)) pa_nil)))) (pss_one (ps_if (pt_cmpR op_gt (pe_callB call_len (by rfl) T.z_len (by decide +kernel) (pa_cons (pv 0) pa_nil)) pe_int (nomark _)) (pss_one (ps_set (i := 3) sc_law_box.nd rfl (Or.inl rfl) (pe_op op_add (pv 3) (pe_op op_mul (pe_op op_mod (pe_callTy call_int1 (by rfl) T.z_int (by decide +kernel) (pa_cons (pe_callB call_abs (by rfl) T.z_abs (by decide +kernel) (pa_cons (pe_ix ix_list (pv 0) (pe_op op_mod (pe_callTy call_int1 (by rfl) T.z_int (by decide +kernel) (pa_cons (pv 1) pa_nil)) (pe_callB call_len (by rfl) T.z_len (by decide +kernel) (pa_cons (pv 0) pa_nil))) (fun _ _ => rfl)) pa_nil)) pa_nil)) pe_int) pe_int)))) pss_nil)))
      (pss_cons (ps_set (i := 4) sc_law_box.nd rfl (Or.inl rfl) (pe_op op_add (pe_op op_mod (pe_callTy call_int1 (by rfl) T.z_int (by decide +kernel) (pa_cons (pe_op op_add (pe_op op_mul (pe_op op_mod (pe_callTy call_int1 (by rfl) T.z_int (by decide +kernel) (pa_cons (pv 3) pa_nil)) pe_int) pe_int) (pe_op op_mul pe_int (pe_op op_add (pv 1) (pe_op op_mul pe_int (pv 2))))) pa_nil)) pe_int) pe_int))
      (pss_one (ps_ret (pe_lst (pa_cons (pe_ix ix_list (pe_lst (pa_cons pe_int (pa_cons (pv 3) pa_nil))) (pe_callTy call_int1 (by rfl) T.z_int (by decide +kernel) (pa_cons (pe_cmpR op_ge (pv 3) (pe_op op_pow pe_int pe_int) (nomark _)) pa_nil)) (fun _ _ => rfl)) (pa_cons (pv 4) (pa_cons pe_int pa_nil))))))))), ?_⟩
    refine ⟨_, rfl, _, _, rfl, rfl, .inl ⟨by decide, by decide⟩, _, rfl, _, _, rfl, rfl, .inl ⟨by decide, by decide⟩, _, _, rfl, rfl, _, _, rfl, rfl, ?_⟩
    have hlen : (ns.map V.int).length = ns.length := List.length_map ..
    -- the cell by three ways; what follows is the same
    refine ⟨_, rfl, _, rfl, _, _, rfl, .inl ⟨_, hS, rfl⟩, _, _, rfl, rfl, _, rfl, ite2 (fun h1 => ?_) (fun h1 => ?_)⟩
    · have h1' : i < ((ns.map V.int).length : Int) := of_decide_eq_true h1
      obtain ⟨j, rfl⟩ : ∃ j : Nat, i = (j : Int) := ⟨i.toNat, by omega⟩
      have hj : j < ns.length := by omega
      have ej : (ns.map V.int)[j]? = some (V.int ns[j]) := by rw [List.getElem?_map, List.getElem?_eq_getElem hj]; rfl
      refine ⟨_, rfl, _, rfl, a, _, _, _, rfl, rfl, hS, atI_nat ej, _, rfl, ?_⟩
      refine ⟨_, rfl, .inl ⟨_, rfl, _, _, rfl, rfl, (by show (0 : Int) < 2147483629; decide), _, _, rfl, rfl, .inr ⟨by decide, by decide⟩, _, rfl, _, rfl, _, _, rfl, rfl, .inl ⟨by decide, by decide⟩, _, _, rfl, rfl, _, _, rfl, rfl, .inl ⟨by decide, by decide⟩, _, _, rfl, rfl, .inl ⟨_, rfl, _, _, rfl, rfl, (by show (0 : Int) < 2147483629; decide), _, _, rfl, rfl, ?_⟩⟩⟩
      refine ⟨_, rfl, (by decide : 2 ≤ sizeLine), fun q hq => ⟨_, rfl, _, _, rfl, rfl, ⟨by decide, by decide, by decide⟩, _, _, rfl, rfl, .inr ⟨_, rfl, ?_⟩⟩⟩
      refine ⟨q, _, _, _, rfl, rfl, SqL.of upd_same, (two_at _ _).choose_spec, _, rfl, (by decide : 3 ≤ sizeLine), fun p hp => ?_⟩
      have npq : p ≠ q := fun z => by rw [z, upd_same] at hp; cases hp
      have hp0 : H p = none := by rw [upd_ne npq] at hp; exact hp
      refine k _ p (fun b o z => ?_) hp0 ⟨_, _, _, upd_same⟩
      rw [upd_ne (ne_of_none z hp0), upd_ne (ne_of_none z hq)]
      exact z
    · refine ⟨_, rfl, _, _, rfl, .inl ⟨_, hS, rfl⟩, _, _, rfl, rfl, _, rfl, ite2 (fun h2 => ?_) (fun h2 => ?_)⟩
      · have h2' : (0 : Int) < ((ns.map V.int).length : Int) := of_decide_eq_true h2
        have m0 := Int.emod_nonneg i (b := ((ns.map V.int).length : Int)) (by omega)
        have m1 := Int.emod_lt_of_pos i h2'
        obtain ⟨j, ej0⟩ : ∃ j : Nat, i % ((ns.map V.int).length : Int) = (j : Int) := ⟨(i % ((ns.map V.int).length : Int)).toNat, by omega⟩
        have hj : j < ns.length := by omega
        have ej : (ns.map V.int)[j]? = some (V.int ns[j]) := by rw [List.getElem?_map, List.getElem?_eq_getElem hj]; rfl
        refine ⟨_, rfl, _, rfl, _, rfl, .inl ⟨_, rfl, _, rfl, _, _, rfl, .inl ⟨_, hS, rfl⟩, _, _, rfl, rfl, h2', a, _, _, _, rfl, rfl, hS, (by rw [ej0]; exact atI_nat ej), _, rfl, .inl ⟨_, rfl, _, _, rfl, rfl, (by show (0 : Int) < 2147483629; decide), _, _, rfl, rfl, .inr ⟨by decide, by decide⟩, _, _, rfl, rfl, ?_⟩⟩⟩
        refine ⟨_, rfl, .inl ⟨_, rfl, _, _, rfl, rfl, (by show (0 : Int) < 2147483629; decide), _, _, rfl, rfl, .inr ⟨by decide, by decide⟩, _, rfl, _, rfl, _, _, rfl, rfl, .inl ⟨by decide, by decide⟩, _, _, rfl, rfl, _, _, rfl, rfl, .inl ⟨by decide, by decide⟩, _, _, rfl, rfl, .inl ⟨_, rfl, _, _, rfl, rfl, (by show (0 : Int) < 2147483629; decide), _, _, rfl, rfl, ?_⟩⟩⟩
        refine ⟨_, rfl, (by decide : 2 ≤ sizeLine), fun q hq => ⟨_, rfl, _, _, rfl, rfl, ⟨by decide, by decide, by decide⟩, _, _, rfl, rfl, .inr ⟨_, rfl, ?_⟩⟩⟩
        refine ⟨q, _, _, _, rfl, rfl, SqL.of upd_same, (two_at _ _).choose_spec, _, rfl, (by decide : 3 ≤ sizeLine), fun p hp => ?_⟩
        have npq : p ≠ q := fun z => by rw [z, upd_same] at hp; cases hp
        have hp0 : H p = none := by rw [upd_ne npq] at hp; exact hp
        refine k _ p (fun b o z => ?_) hp0 ⟨_, _, _, upd_same⟩
        rw [upd_ne (ne_of_none z hp0), upd_ne (ne_of_none z hq)]
        exact z
      · show tSeq _ _ _ _ _
        refine ⟨_, rfl, .inl ⟨_, rfl, _, _, rfl, rfl, (by show (0 : Int) < 2147483629; decide), _, _, rfl, rfl, .inr ⟨by decide, by decide⟩, _, rfl, _, rfl, _, _, rfl, rfl, .inl ⟨by decide, by decide⟩, _, _, rfl, rfl, _, _, rfl, rfl, .inl ⟨by decide, by decide⟩, _, _, rfl, rfl, .inl ⟨_, rfl, _, _, rfl, rfl, (by show (0 : Int) < 2147483629; decide), _, _, rfl, rfl, ?_⟩⟩⟩
        refine ⟨_, rfl, (by decide : 2 ≤ sizeLine), fun q hq => ⟨_, rfl, _, _, rfl, rfl, ⟨by decide, by decide, by decide⟩, _, _, rfl, rfl, .inr ⟨_, rfl, ?_⟩⟩⟩
        refine ⟨q, _, _, _, rfl, rfl, SqL.of upd_same, (two_at _ _).choose_spec, _, rfl, (by decide : 3 ≤ sizeLine), fun p hp => ?_⟩
        have npq : p ≠ q := fun z => by rw [z, upd_same] at hp; cases hp
        have hp0 : H p = none := by rw [upd_ne npq] at hp; exact hp
        refine k _ p (fun b o z => ?_) hp0 ⟨_, _, _, upd_same⟩
        rw [upd_ne (ne_of_none z hp0), upd_ne (ne_of_none z hq)]
        exact z
/-- but for the box all stands as before -/
def But (b : Addr) (H H' : Hp) : Prop := ∀ a o, a ≠ b → H a = some o → H' a = some o
theorem But.trans {b : Addr} {H H1 H2 : Hp} (s : But b H H1) (t : But b H1 H2) : But b H H2 := fun a o n z => t a o n (s a o n z)
theorem But.upd' {b : Addr} {H : Hp} {o : HO} : But b H (upd H b o) := fun a u n z => by rw [upd_ne n]; exact z
theorem Same.but {b : Addr} {H H' : Hp} (s : Same H H') : But b H H' := fun a o _ z => s a o z
theorem Box.keep {b : Addr} {H H' : Hp} (s : Same H H') (h : Box H b) : Box H' b := by
  obtain ⟨x, y, z, h⟩ := h
  exact ⟨x, y, z, s _ _ h⟩
theorem Box.upd' {b : Addr} {H : Hp} {x y z : Int} : Box (upd H b (.lst [.int x, .int y, .int z])) b := ⟨x, y, z, upd_same⟩
abbrev s_law_small : Stmt := top 29
abbrev n_law_small : List Str := ["_law_box_here"]
theorem sc_law_small : FnScope n_law_small ["_law_box_here"] (defScope s_law_small) := ⟨rfl, rfl, rfl, by decide +kernel, rfl, by decide +kernel, by decide +kernel⟩
def spSmall : Sp := fun vs H Q _ => ∃ b : Addr, vs = [.ref b] ∧ Box H b ∧ ∀ (H' : Hp) (d : Int), But b H H' → Box H' b → -4 ≤ d → d ≤ 4 → Q (.int d) H'
theorem ok_small (T : Txt mg) (g_law_take : Has P w K mg base 1 "_law_take" ["_law_box_here", "_law_many"] spTake) (F : DefAt K mg "_law_small" s_law_small ["_law_box_here"]) : Has P w K mg base 2 "_law_small" ["_law_box_here"] spSmall := by
  refine F.has sc_law_small (fun vs H Q E h => ?_) (fun f cdv A outer s H vs Q E hr h => ?_)
  · obtain ⟨b, rfl, _⟩ := h
    rfl
  · obtain ⟨b, rfl, hb, k⟩ := h
    refine ⟨_, (pss_one (ps_ret (pe_op op_sub (pe_callHas g_law_take (hr.mono (by decide)) rfl (pa_cons (pv 0) (pa_cons pe_int pa_nil))) pe_int))), ?_⟩
    refine ⟨_, rfl, b, 9, rfl, hb, by decide, by decide, fun d x y z d0 d1 => ⟨_, _, rfl, rfl, k _ _ But.upd' Box.upd' (by omega) (by omega)⟩⟩
abbrev s_law_number : Stmt := top 28
abbrev n_law_number : List Str := ["_law_box_here", "_law_most"]
theorem sc_law_number : FnScope n_law_number ["_law_box_here"] (defScope s_law_number) := ⟨rfl, rfl, rfl, by decide +kernel, rfl, by decide +kernel, by decide +kernel⟩
def spNumber : Sp := fun vs H Q _ => ∃ b : Addr, vs = [.ref b] ∧ Box H b ∧ ∀ (H' : Hp) (d : Int), But b H H' → Box H' b → -1000000000 ≤ d → d ≤ 1000000000 → Q (.int d) H'
theorem ok_number (T : Txt mg) (g_law_take : Has P w K mg base 1 "_law_take" ["_law_box_here", "_law_many"] spTake) (F : DefAt K mg "_law_number" s_law_number ["_law_box_here"]) : Has P w K mg base 2 "_law_number" ["_law_box_here"] spNumber := by
  refine F.has sc_law_number (fun vs H Q E h => ?_) (fun f cdv A outer s H vs Q E hr h => ?_)
  · obtain ⟨b, rfl, _⟩ := h
    rfl
  · obtain ⟨b, rfl, hb, k⟩ := h
    refine ⟨_, (pss_cons (ps_set (i := 1) sc_law_number.nd rfl (Or.inl rfl) (pe_ix ix_list (pe_lst (pa_cons pe_int (pa_cons pe_int (pa_cons pe_int (pa_cons pe_int (pa_cons pe_int (pa_cons pe_int pa_nil))))))) (pe_callHas g_law_take (hr.mono (by decide)) rfl (pa_cons (pv 0) (pa_cons pe_int pa_nil))) (fun _ _ => rfl)))
      (pss_one (ps_ret (pe_op op_sub (pe_callHas g_law_take (hr.mono (by decide)) rfl (pa_cons (pv 0) (pa_cons (pe_op op_add (pe_op op_mul pe_int (pv 1)) pe_int) pa_nil))) (pv 1))))), ?_⟩
    refine ⟨(by decide : 6 ≤ sizeLine), fun l hl => ?_⟩
    obtain ⟨s1, hl1⟩ := new_at (o := .lst [.int 3, .int 3, .int 9, .int 9, .int 40, .int 999999999]) hl
    have nlb : l ≠ b := by
      obtain ⟨x, y, z, h⟩ := hb
      exact (ne_of_none h hl).symm
    refine ⟨_, rfl, b, 6, rfl, hb.keep s1, by decide, by decide, fun d x y z d0 d1 => ?_⟩
    obtain ⟨j, rfl⟩ : ∃ j : Nat, d = (j : Int) := ⟨d.toNat, by omega⟩
    obtain ⟨m, em, m0, m1⟩ : ∃ m : Int, ([.int 3, .int 3, .int 9, .int 9, .int 40, .int 999999999] : List V)[j]? = some (.int m) ∧ 0 ≤ m ∧ m ≤ 999999999 := by
      match j, d1 with
      | 0, _ => exact ⟨_, rfl, by decide, by decide⟩
      | 1, _ => exact ⟨_, rfl, by decide, by decide⟩
      | 2, _ => exact ⟨_, rfl, by decide, by decide⟩
      | 3, _ => exact ⟨_, rfl, by decide, by decide⟩
      | 4, _ => exact ⟨_, rfl, by decide, by decide⟩
      | 5, _ => exact ⟨_, rfl, by decide, by decide⟩
      | n + 6, h => exact absurd h (by omega)
    refine ⟨l, _, _, _, rfl, rfl, SqL.of ((upd_ne nlb).trans hl1), atI_nat em, ?_⟩
    refine ⟨_, rfl, _, rfl, _, _, rfl, rfl, .inl ⟨by decide, by decide⟩, _, _, rfl, rfl, b, 2 * m + 1, rfl, Box.upd', by omega, by omega, fun d' x' y' z' d0' d1' => ⟨_, rfl, _, _, rfl, rfl, ?_⟩⟩
    exact k _ _ ((Same.but s1).trans (But.upd'.trans But.upd')) Box.upd' (by omega) (by omega)
end
end K06

namespace K06
open PySem L2 RZ Lat
section
variable {P : Program} {w : World} {K : PySem.W.Frag} {mg : Str → Option Value} {base : Heap}
/-- entries within -B .. B -/
def Within (B : Int) (v : Vec) : Prop := ∀ n ∈ v, -B ≤ n ∧ n ≤ B
def RowMid (b l : Addr) (n m i : Nat) (H1 : Hp) : St → Hp → Prop := fun σ H' => ∃ (ρ : Addr) (u : Vec) (x7 x8 x9 x10 x11 x12 : Option V),
  σ = [some (.ref b), some (.int ((n : Nat) : Int)), some (.int ((m : Nat) : Int)), some (.bl false), some (.ref l), some (.int (0 + ((i : Nat) : Int))), some (.ref ρ), x7, x8, x9, x10, x11, x12] ∧ But b H1 H' ∧ Box H' b ∧ ρ ≠ b ∧ H' ρ = some (.lst (u.map V.int)) ∧ u.length = n ∧ Within (4 + 8 * ((i : Nat) : Int)) u
theorem rep_zero : ∀ n : Nat, (List.replicate n [V.int 0]).flatten = (List.replicate n (0 : Int)).map V.int
  | 0 => rfl
  | n + 1 => by rw [List.replicate_succ, List.flatten_cons, rep_zero n, List.replicate_succ, List.map_cons]; rfl
theorem but_new {b p : Addr} {H : Hp} {o : HO} (h : H p = none) : But b H (upd H p o) := fun a u _ z => (new_at h).1 a u z
theorem Box.ne {b p : Addr} {H : Hp} (h : Box H b) (hp : H p = none) : p ≠ b := by
  obtain ⟨x, y, z, h⟩ := h
  exact (ne_of_none h hp).symm
theorem Box.new {b p : Addr} {H : Hp} {o : HO} (h : Box H b) (hp : H p = none) : Box (upd H p o) b := h.keep (new_at hp).1
theorem Rows.but {b : Addr} {H H' : Hp} {n : Nat} {as : List V} {vs : List Vec} (hb : Box H b) (s : But b H H') (h : Rows H n as vs) : Rows H' n as vs :=
  ⟨Paired.mapP h.1 fun x v z => by
    obtain ⟨a, e, q⟩ := z
    obtain ⟨x1, y1, z1, hb⟩ := hb
    exact ⟨a, e, s _ _ (ne_of q hb fun y => nomatch y) q⟩, h.2⟩
abbrev s_law_rows : Stmt := top 30
abbrev n_law_rows : List Str := ["_law_box_here", "_law_width", "_law_many", "_law_is_great", "_law_found", "_law_turn", "_law_row", "_law_first", "_law_last", "_law_at", "_law_here", "_law_there", "_law_number_here"]
theorem sc_law_rows : FnScope n_law_rows ["_law_box_here", "_law_width", "_law_many", "_law_is_great"] (defScope s_law_rows) := ⟨rfl, rfl, rfl, by decide +kernel, rfl, by decide +kernel, by decide +kernel⟩
def spRows : Sp := fun vs H Q _ => ∃ (b : Addr) (n m : Nat), vs = [.ref b, .int ((n : Nat) : Int), .int ((m : Nat) : Int), .bl false] ∧ Box H b ∧ 1 ≤ n ∧ n ≤ 12 ∧ m ≤ 12 ∧
  ∀ (H' : Hp) (l : Addr) (as : List V) (rs : List Vec), l ≠ b → But b H H' → Box H' b → H' l = some (.lst as) → Rows H' n as rs → rs.length = m → (∀ r ∈ rs, Within (4 + 8 * (m : Int)) r) → Q (.ref l) H'
theorem ok_rows (T : Txt mg) (g_law_take : Has P w K mg base 1 "_law_take" ["_law_box_here", "_law_many"] spTake) (g_law_small : Has P w K mg base 2 "_law_small" ["_law_box_here"] spSmall) (g_law_number : Has P w K mg base 2 "_law_number" ["_law_box_here"] spNumber)
    (F : DefAt K mg "_law_rows" s_law_rows ["_law_box_here", "_law_width", "_law_many", "_law_is_great"]) : Has P w K mg base 3 "_law_rows" ["_law_box_here", "_law_width", "_law_many", "_law_is_great"] spRows := by
  refine F.has sc_law_rows (fun vs H Q E h => ?_) (fun f cdv A outer s H vs Q E hr h => ?_)
  · obtain ⟨b, n, m, rfl, _⟩ := h
    rfl
  · obtain ⟨b, n, m, rfl, hb, n1, n2, m2, k⟩ := h
    have hu := hr.units
    refine ⟨_, (pss_cons (ps_set (i := 4) sc_law_rows.nd rfl (Or.inl rfl) (pe_lst pa_nil))
      (pss_cons (ps_for PassesOwn.never rfl (pi_range1 rfl T.z_range (pa_cons (pv 2) pa_nil)) (pg_name (i := 5) sc_law_rows.nd rfl (Or.inl rfl)) (pss_cons (ps_setLc (i := 6) (own := [("_law_at", 9)]) (g := gName 9) (by rfl) sc_law_rows.nd rfl rfl (sw_true rfl rfl rfl (by decide +kernel)) (pi_range1 rfl T.z_range (pa_cons (pv 1) pa_nil)) (blkOk_by (own := [("_law_at", 9)]) (N := n_law_rows) (sc := defScope s_law_rows) (by decide +kernel)) (fun _ _ _ _ _ => (pg_name (i := 9) sc_law_rows.nd rfl (Or.inl rfl))) (fun _ _ _ _ _ => pts_nil) (fun _ _ _ _ _ => (pe_ifExp (pt_val (pv 3)) (pe_callHas g_law_number (hr.mono (by decide)) rfl (pa_cons (pv 0) pa_nil)) (pe_callHas g_law_small (hr.mono (by decide)) rfl (pa_cons (pv 0) pa_nil)))))
      (C8.pss_cut (ps_if (PW.pt (pw_and (pt_cmpR op_gt (pe_callB call_len (by rfl) T.z_len (by decide +kernel) (pa_cons (pv 4) pa_nil)) pe_int (nomark _)) (pw_and1 (pt_cmpR op_eq (pe_callHas g_law_take (hr.mono (by decide)) rfl (pa_cons (pv 0) (pa_cons pe_int pa_nil))) pe_int (nomark _))))) (pss_cons (ps_par (i := 7) (j := 8) (by rfl) sc_law_rows.nd rfl rfl (by decide) rfl rfl (pa_cons (pe_ix ix_list (pv 4) pe_int (fun _ _ => rfl)) (pa_cons (pe_ix ix_list (pv 4) (pe_op op_sub (pe_callB call_len (by rfl) T.z_len (by decide +kernel) (pa_cons (pv 4) pa_nil)) pe_int) (fun _ _ => rfl)) pa_nil)) (by rfl))
      (pss_one (ps_setLc (i := 6) (own := [("_law_here", 10), ("_law_there", 11)]) (g := gTup K 2 (gCons (gName 10) (gCons (gName 11) gNil))) (by rfl) sc_law_rows.nd rfl rfl (sw_true rfl rfl rfl (by decide +kernel)) (pi_zipA (by rfl) T.z_zip (pa_cons (pv 7) (pa_cons (pv 8) pa_nil))) (blkOk_by (own := [("_law_here", 10), ("_law_there", 11)]) (N := n_law_rows) (sc := defScope s_law_rows) (by decide +kernel)) (fun _ _ _ _ _ => (pg_tup rfl (pgs_cons (pg_name (i := 10) sc_law_rows.nd rfl (Or.inl rfl)) (pgs_cons (pg_name (i := 11) sc_law_rows.nd rfl (Or.inl rfl)) pgs_nil)))) (fun _ _ _ _ _ => pts_nil) (fun _ _ _ _ _ => (pe_op op_sub (pe_op op_mul pe_int (pv 10)) (pv 11)))))) pss_nil)
      (C8.pss_cut (ps_if (pt_cmpR op_eq (pe_callHas g_law_take (hr.mono (by decide)) rfl (pa_cons (pv 0) (pa_cons pe_int pa_nil))) pe_int (nomark _)) (pss_one (ps_set (i := 6) sc_law_rows.nd rfl (Or.inl rfl) (pe_op op_rep (pe_lst (pa_cons pe_int pa_nil)) (pv 1)))) pss_nil)
      (C8.pss_cut (ps_if (pt_cmpR (op_neD hu) (pe_lc (own := [("_law_number_here", 12)]) (g := gName 12) (by rfl) sc_law_rows.nd (pi_list (pv 6)) (blkOk_by (own := [("_law_number_here", 12)]) (N := n_law_rows) (sc := defScope s_law_rows) (by decide +kernel)) (fun _ _ _ _ _ => (pg_name (i := 12) sc_law_rows.nd rfl (Or.inl rfl))) (fun _ _ _ _ _ => (pts_one (pt_cmpR op_gt (pe_callB call_abs (by rfl) T.z_abs (by decide +kernel) (pa_cons (pv 12) pa_nil)) pe_int (nomark _)))) (fun _ _ _ _ _ => (pv 12))) (pe_lst pa_nil) (nomark _)) (pss_one (ps_setLc (i := 6) (own := [("_law_at", 9)]) (g := gName 9) (by rfl) sc_law_rows.nd rfl rfl (sw_true rfl rfl rfl (by decide +kernel)) (pi_range1 rfl T.z_range (pa_cons (pv 1) pa_nil)) (blkOk_by (own := [("_law_at", 9)]) (N := n_law_rows) (sc := defScope s_law_rows) (by decide +kernel)) (fun _ _ _ _ _ => (pg_name (i := 9) sc_law_rows.nd rfl (Or.inl rfl))) (fun _ _ _ _ _ => pts_nil) (fun _ _ _ _ _ => (pe_callHas g_law_small (hr.mono (by decide)) rfl (pa_cons (pv 0) pa_nil))))) pss_nil)
      (pss_one (ps_expr (pe_bm PySem.F.plainAttrs_list PySem.F.slot_list_append PySem.F.type_list_append mt_append (pv 4) (pa_cons (pe_callTy call_tuple_of (by rfl) T.z_tuple (by decide +kernel) (pa_cons (pv 6) pa_nil)) pa_nil)))))))))
      (pss_one (ps_ret (pv 4))))), ?_⟩
    refine ⟨Nat.zero_le _, fun l hl => ?_⟩
    obtain ⟨sl, hl1⟩ := new_at (o := .lst []) hl
    have nlb : l ≠ b := by
      obtain ⟨x, y, z, h⟩ := hb
      exact (ne_of_none h hl).symm
    refine ⟨_, rfl, ((m : Nat) : Int), rfl, by omega, by omega, for_range (lo := 0) (n := m) (fun i σ H' => ∃ (as : List V) (rs : List Vec) (x5 x6 x7 x8 x9 x10 x11 x12 : Option V),
      σ = [some (.ref b), some (.int ((n : Nat) : Int)), some (.int ((m : Nat) : Int)), some (.bl false), some (.ref l), x5, x6, x7, x8, x9, x10, x11, x12] ∧ But b H H' ∧ Box H' b ∧ H' l = some (.lst as) ∧ Rows H' n as rs ∧ rs.length = i ∧ ∀ (j : Nat) (r : Vec), rs[j]? = some r → Within (4 + 8 * ((j : Nat) : Int)) r)
      ⟨[], [], _, _, _, _, _, _, _, _, rfl, Same.but sl, hb.keep sl, hl1, ⟨.nil, fun u hu => nomatch hu⟩, rfl, fun j r e => by simp at e⟩ ?_ ?_⟩
    · rintro i σ H1 hi ⟨as, rs, x5, x6, x7, x8, x9, x10, x11, x12, rfl, sm, hb1, hl2, hrs, lrs, wrs⟩
      -- row = [..]
      refine ⟨_, rfl, ((n : Nat) : Int), rfl, by omega, by omega, fun D hD => lc_range (lo := 0) (n := n) (fun j H' => (∀ x o, x ≠ b → x ≠ D → H1 x = some o → H' x = some o) ∧ Box H' b ∧ ∃ u : Vec, H' D = some (.lst (u.map V.int)) ∧ u.length = j ∧ Within 4 u) ?_ ?_ ?_⟩
      · exact ⟨fun x o _ nD z => by rw [upd_ne nD]; exact z, hb1.new hD, [], upd_same, rfl, fun x hx => nomatch hx⟩
      · rintro j H' hj ⟨kp, hb', u, hD', lu, wu⟩
        refine ⟨rfl, ?_⟩
        refine ⟨_, rfl, _, rfl, ?_⟩
        refine ⟨_, rfl, b, rfl, hb', fun H3 d but3 hb3 d0 d1 => ?_⟩
        have nDb := hb1.ne hD
        refine ⟨_, but3 _ _ nDb hD', by rw [List.length_map, lu]; exact Nat.lt_of_lt_of_le hj (Nat.le_trans n2 (by decide)), fun x o nb nD z => by rw [upd_ne nD]; exact but3 _ _ nb (kp x o nb nD z), ?_, u ++ [d], ?_, by rw [List.length_append, lu]; rfl, ?_⟩
        · obtain ⟨y1, y2, y3, h⟩ := hb3
          exact ⟨y1, y2, y3, by rw [upd_ne nDb.symm]; exact h⟩
        · rw [upd_same, List.map_append]; rfl
        · intro x hx
          rcases List.mem_append.mp hx with hx | hx
          · exact wu x hx
          · rw [List.mem_singleton.mp hx]; omega
      rintro H2 ⟨kp2, hb2, u, hD2, lu, wu⟩
      have nDb := hb1.ne hD
      have but2 : But b H1 H2 := fun x o nb z => kp2 x o nb (ne_of_none z hD) z
      have lmap : as.length = i := hrs.len.trans lrs
      refine ⟨RowMid b l n m i H1, ?_, ?_⟩
      · -- if len(found) > 1 and ..
        have hl3 := but2 _ _ nlb hl2
        refine ⟨_, rfl, _, _, rfl, .inl ⟨_, SqL.of hl3, rfl⟩, _, _, rfl, rfl, _, rfl, ?_⟩
        have wide : Within (4 + 8 * ((i : Nat) : Int)) u := fun x hx => by have := wu x hx; omega
        have no : RowMid b l n m i H1 [some (.ref b), some (.int ((n : Nat) : Int)), some (.int ((m : Nat) : Int)), some (.bl false), some (.ref l), some (.int (0 + ((i : Nat) : Int))), some (.ref D), x7, x8, x9, x10, x11, x12] H2 := ⟨D, u, _, _, _, _, _, _, rfl, but2, hb2, nDb, hD2, lu, wide⟩
        by_cases h1 : (1 : Int) < ((as.length : Nat) : Int)
        · show if decide ((1 : Int) < ((as.length : Nat) : Int)) = true then _ else _
          rw [decide_eq_true h1]
          refine ⟨_, rfl, b, 4, rfl, hb2, by decide, by decide, fun d x y z d0 d1 => ⟨rfl, _, rfl, ?_⟩⟩
          have bu3 : But b H1 (upd H2 b (.lst [.int x, .int y, .int z])) := but2.trans But.upd'
          have hD3 : (upd H2 b (.lst [.int x, .int y, .int z])) D = some (.lst (u.map V.int)) := (upd_ne nDb).trans hD2
          by_cases h0 : d = 0
          · show if decide (V.int d = V.int 0) = true then _ else _
            rw [decide_eq_true (by rw [h0])]
            have hl4 := bu3 _ _ nlb hl2
            have hrs4 := hrs.but hb1 bu3
            obtain ⟨y0, e0⟩ : ∃ y0, as[0]? = some y0 := ⟨_, List.getElem?_eq_getElem (by omega)⟩
            obtain ⟨yl, el⟩ : ∃ yl, as[as.length - 1]? = some yl := ⟨_, List.getElem?_eq_getElem (by omega)⟩
            obtain ⟨a0, r0, f0, rfl, g0, l0⟩ := hrs4.at e0
            obtain ⟨al, rl, fl, rfl, gl, ll⟩ := hrs4.at el
            have w0 := wrs 0 r0 f0
            have wl := wrs (as.length - 1) rl fl
            have ecast : ((as.length : Nat) : Int) - 1 = ((as.length - 1 : Nat) : Int) := by omega
            refine ⟨_, rfl, l, _, _, _, rfl, rfl, SqL.of hl4, atI_nat (j := 0) e0, _, rfl, _, rfl, _, _, rfl, .inl ⟨_, SqL.of hl4, rfl⟩, _, _, rfl, rfl, l, _, _, _, rfl, rfl, SqL.of hl4, (by rw [ecast]; exact atI_nat el), _, _, rfl, ?_⟩
            have ln : min (r0.map V.int).length (rl.map V.int).length = n := by rw [List.length_map, List.length_map, l0, ll, Nat.min_self]
            have la : (List.zipWith (fun p q : Int => 2 * p - q) r0 rl).length = n := by rw [List.length_zipWith, l0, ll, Nat.min_self]
            refine ⟨_, rfl, _, rfl, a0, al, _, _, rfl, .inr ⟨SqT.of g0, SqT.of gl, fun E hE => lc_it (walk_zipT (xs := r0.map V.int) (ys := rl.map V.int) ln.symm) (fun j H' => Same (upd H2 b (.lst [.int x, .int y, .int z])) H' ∧ H' E = some (.lst (((List.zipWith (fun p q : Int => 2 * p - q) r0 rl).take j).map V.int))) ?_ ?_ ?_ ?_⟩⟩
            · exact ⟨(new_at hE).1, upd_same⟩
            · exact fun j H' _ q => ⟨SqT.of (q.1 _ _ g0), SqT.of (q.1 _ _ gl)⟩
            · rintro j x' H' H'' hj ⟨sm', hE'⟩ ⟨q, y1, y2, rfl, hq, rfl, e1, e2⟩
              obtain ⟨p1, ep1, rfl⟩ := map_at e1
              obtain ⟨p2, ep2, rfl⟩ := map_at e2
              refine ⟨q, _, rfl, SqT.of upd_same, rfl, _, _, rfl, _, _, rfl, rfl, rfl, ?_⟩
              refine ⟨_, rfl, _, _, rfl, rfl, .inl ⟨by decide, by decide⟩, _, rfl, _, _, rfl, rfl, ?_⟩
              have nEq : E ≠ q := ne_of_none hE' hq
              refine ⟨_, (upd_ne nEq).trans hE', by rw [List.length_map, List.length_take]; exact Nat.lt_of_le_of_lt (Nat.le_trans (Nat.min_le_right _ _) (la ▸ n2)) (by decide), fun x' o z' => ?_, ?_⟩
              · rw [upd_ne (ne_of_none z' hE)]
                exact (new_at hq).1 _ _ (sm' _ _ z')
              · rw [upd_same, take_snoc (n := 2 * p1 - p2)]
                rw [List.getElem?_zipWith, ep1, ep2]
            · rintro H5 ⟨sm', hE'⟩
              rw [take_all la] at hE'
              have hbx : Box (upd H2 b (.lst [.int x, .int y, .int z])) b := Box.upd'
              refine ⟨E, _, _, _, _, _, _, _, rfl, bu3.trans (Same.but sm'), hbx.keep sm', hbx.ne hE, hE', la, ?_⟩
              intro v hv
              obtain ⟨j, hj, ev⟩ := List.mem_iff_getElem.mp hv
              rw [List.getElem_zipWith] at ev
              have q1 := w0 _ (List.getElem_mem (l := r0) (by rw [List.length_zipWith] at hj; omega : j < r0.length))
              have q2 := wl _ (List.getElem_mem (l := rl) (by rw [List.length_zipWith] at hj; omega : j < rl.length))
              omega
          · show if decide (V.int d = V.int 0) = true then _ else _
            rw [decide_eq_false (fun z' => h0 (V.int.inj z'))]
            exact ⟨D, u, _, _, _, _, _, _, rfl, bu3, Box.upd', nDb, hD3, lu, wide⟩
        · show if decide ((1 : Int) < ((as.length : Nat) : Int)) = true then _ else _
          rw [decide_eq_false h1]
          exact no
      · -- if take(8) == 0: row = [0] * width
        rintro σ3 H3 ⟨ρ, u3, x7, x8, x9, x10, x11, x12, rfl, bu3, hb3, nρ, hρ, lu3, wu3⟩
        refine ⟨RowMid b l n m i H1, ?_, ?_⟩
        · refine ⟨_, rfl, b, 8, rfl, hb3, by decide, by decide, fun d x y z d0 d1 => ⟨rfl, _, rfl, ?_⟩⟩
          have bu4 : But b H1 (upd H3 b (.lst [.int x, .int y, .int z])) := bu3.trans But.upd'
          have hbx : Box (upd H3 b (.lst [.int x, .int y, .int z])) b := Box.upd'
          by_cases h0 : d = 0
          · show if decide (V.int d = V.int 0) = true then _ else _
            rw [decide_eq_true (by rw [h0])]
            refine ⟨(by decide : 1 ≤ sizeLine), fun q hq => ?_⟩
            refine ⟨_, rfl, q, ((n : Nat) : Int), _, rfl, rfl, upd_same, by omega, by omega, by show 1 * ((n : Nat) : Int).toNat ≤ sizeLine; rw [Int.toNat_natCast, Nat.one_mul]; exact Nat.le_trans n2 (by decide), fun D3 hD3 => ?_⟩
            have hb4 := hbx.new (o := .lst [.int 0]) hq
            rw [Int.toNat_natCast, rep_zero]
            refine ⟨D3, List.replicate n 0, _, _, _, _, _, _, rfl, (bu4.trans (but_new hq)).trans (but_new hD3), hb4.new hD3, hb4.ne hD3, upd_same, List.length_replicate .., fun v hv => ?_⟩
            rw [(List.mem_replicate.mp hv).2]; omega
          · show if decide (V.int d = V.int 0) = true then _ else _
            rw [decide_eq_false (fun z' => h0 (V.int.inj z'))]
            exact ⟨ρ, u3, _, _, _, _, _, _, rfl, bu4, hbx, nρ, (upd_ne nρ).trans hρ, lu3, wu3⟩
        · -- if [..] != []
          rintro σ4 H4 ⟨ρ, u4, x7, x8, x9, x10, x11, x12, rfl, bu4, hb4, nρ4, hρ4, lu4, wu4⟩
          refine ⟨RowMid b l n m i H1, ?_, ?_⟩
          · refine ⟨_, rfl, ρ, rfl, ⟨_, SqL.of hρ4⟩, fun D4 hD4 => lc_it (walk_list (xs := u4.map V.int)) (fun j H' => Same H4 H' ∧ H' D4 = some (.lst [])) ?_ ?_ ?_ ?_⟩
            · exact ⟨(new_at hD4).1, upd_same⟩
            · exact fun j H' _ q => SqL.of (q.1 _ _ hρ4)
            · rintro j x' H' H'' hj ⟨sm', hD'⟩ ⟨rfl, e1⟩
              obtain ⟨v, ev, rfl⟩ := map_at e1
              have wv := wu4 v (List.mem_of_getElem? ev)
              refine ⟨rfl, ?_⟩
              refine ⟨_, rfl, _, rfl, _, _, rfl, rfl, _, rfl, ?_⟩
              have hno : ¬ ((999999999 : Int) < (if v < 0 then -v else v)) := by split <;> omega
              show if decide ((999999999 : Int) < (if v < 0 then -v else v)) = true then _ else _
              rw [decide_eq_false hno]
              exact ⟨sm', hD'⟩
            · rintro H5 ⟨sm', hD'⟩
              refine ⟨Nat.zero_le _, fun D5 hD5 => ?_⟩
              obtain ⟨s5, h5⟩ := new_at (o := .lst []) hD5
              refine ⟨.list [], .list [], .lst (SqL.of (s5 _ _ hD')) .nil, .lst (SqL.of h5) .nil, by decide +kernel, by decide +kernel, _, rfl, ?_⟩
              have e6 : (!PyData.eqv (.list []) (.list [])) = false := by decide +kernel
              show if (!PyData.eqv (.list []) (.list [])) = true then _ else _
              rw [e6]
              have s45 := sm'.trans s5
              exact ⟨ρ, u4, _, _, _, _, _, _, rfl, bu4.trans (Same.but s45), hb4.keep s45, nρ4, s45 _ _ hρ4, lu4, wu4⟩
          · -- found.append(tuple(row))
            rintro σ5 H5 ⟨ρ, u5, x7, x8, x9, x10, x11, x12, rfl, bu5, hb5, nρ5, hρ5, lu5, wu5⟩
            have hl5 := bu5 _ _ nlb hl2
            refine ⟨_, rfl, .inl ⟨rfl, _, SqL.of hl5⟩, _, rfl, _, _, rfl, .inl ⟨SqL.of hρ5, fun t ht => ?_⟩⟩
            obtain ⟨s6, ht6⟩ := new_at (o := .tup (u5.map V.int)) ht
            have hl6 := s6 _ _ hl5
            refine ⟨l, _, _, rfl, rfl, hl6, by rw [lmap]; exact Nat.lt_of_lt_of_le hi (Nat.le_trans m2 (by decide)), ?_⟩
            have bu6 : But b H1 (upd H5 t (.tup (u5.map V.int))) := bu5.trans (Same.but s6)
            refine ⟨as ++ [.ref t], rs ++ [u5], _, _, _, _, _, _, _, _, rfl, fun x o nb z => ?_, ?_, upd_same, Rows.snoc (Rows.lst_up hl6 (hrs.but hb1 bu6)) (V_up hl6 ht6) lu5, by rw [List.length_append, lrs]; rfl, fun j r e => ?_⟩
            · rw [upd_ne (ne_of_none z hl)]
              exact bu6 _ _ nb (sm _ _ nb z)
            · obtain ⟨y1, y2, y3, h⟩ := hb5.keep s6
              exact ⟨y1, y2, y3, (upd_ne nlb.symm).trans h⟩
            · by_cases hj : j < rs.length
              · rw [List.getElem?_append_left hj] at e
                exact wrs j r e
              · rw [List.getElem?_append_right (by omega)] at e
                have hj0 : j - rs.length = 0 := by
                  have := (List.getElem?_eq_some_iff.mp e).1
                  simp at this
                  omega
                rw [hj0] at e
                have er : u5 = r := Option.some.inj e
                have ej : j = i := by omega
                subst er ej
                exact wu5
    · rintro σ H1 ⟨as, rs, x5, x6, x7, x8, x9, x10, x11, x12, rfl, sm, hb1, hl2, hrs, lrs, wrs⟩
      refine ⟨_, rfl, k _ l as rs nlb sm hb1 hl2 hrs lrs fun r hr' => ?_⟩
      obtain ⟨j, hj, ev⟩ := List.mem_iff_getElem.mp hr'
      intro x hx
      have := wrs j r (by rw [List.getElem?_eq_getElem hj, ev]) x hx
      omega
end
end K06

namespace K06
open PySem L2 RZ Lat
def rowD (v : Vec) : PyData := .tuple (v.map PyData.int)
theorem ints_dp {K : PySem.W.Frag} {H : Hp} : ∀ v : Vec, DpAll K H (v.map V.int) (v.map PyData.int)
  | [] => .nil
  | n :: v => .cons (.int n) (ints_dp v)
theorem rows_dp {K : PySem.W.Frag} {H : Hp} {as : List V} {rs : List Vec} (h : Paired (fun x v => ∃ a, x = V.ref a ∧ IsV H a v) as rs) : DpAll K H as (rs.map rowD) := by
  induction h with
  | nil => exact .nil
  | cons r _ ih =>
    obtain ⟨a, rfl, q⟩ := r
    exact .cons (.tup (SqT.of q) (ints_dp _)) ih
theorem rows_shaped (rs : List Vec) : SeqAt.shaped (.list (rs.map rowD)) = true := by
  have h1 : ∀ v : Vec, PyData.canLayAll0 (v.map PyData.int) = true ∧ PyData.depthAll (v.map PyData.int) = 0 := by
    intro v
    induction v with
    | nil => exact ⟨rfl, rfl⟩
    | cons n v ih => exact ⟨by simp only [List.map_cons, PyData.canLayAll0, PyData.canLay0, ih.1, Bool.and_self], by simp only [List.map_cons, PyData.depthAll, PyData.depth, ih.2]; rfl⟩
  have h2 : PyData.canLayAll0 (rs.map rowD) = true ∧ PyData.depthAll (rs.map rowD) ≤ 1 := by
    induction rs with
    | nil => exact ⟨rfl, Nat.zero_le _⟩
    | cons v rs ih =>
      refine ⟨by simp only [List.map_cons, PyData.canLayAll0, rowD, PyData.canLay0, (h1 v).1, ih.1, Bool.and_self], ?_⟩
      have := (h1 v).2
      simp only [List.map_cons, PyData.depthAll, rowD, PyData.depth]
      omega
  show (PyData.canLay0 (.list (rs.map rowD)) && decide (PyData.depth (.list (rs.map rowD)) ≤ 64)) = true
  rw [Bool.and_eq_true]
  exact ⟨by simp only [PyData.canLay0]; exact h2.1, decide_eq_true (by simp only [PyData.depth]; omega)⟩
theorem LatAt.but {C b : Addr} {H H' : Hp} {x : Addr} {n : Nat} {rs : List Vec} (hb : Box H b) (s : But b H H') (h : LatAt C H x n rs) : LatAt C H' x n rs := by
  obtain ⟨dx, p, os, h1, h2, h3⟩ := h
  obtain ⟨y1, y2, y3, hb'⟩ := id hb
  exact ⟨dx, p, os, s _ _ (ne_of h1 hb' fun z => nomatch z) h1, s _ _ (ne_of h2 hb' fun z => nomatch z) h2, h3.but hb s⟩
theorem mem_rows {rs : List Vec} {n : Nat} {B : Int} (h1 : ∀ r ∈ rs, r.length = n) (h2 : ∀ r ∈ rs, Within B r) : ∀ r ∈ rs, r.length = n ∧ Within B r := fun r hr => ⟨h1 r hr, h2 r hr⟩
end K06

namespace K06
open PySem L2 RZ Lat
/-! ## sizes -/
theorem p2le {a b : Nat} (h : a ≤ b) : 2 ^ a ≤ 2 ^ b := Nat.pow_le_pow_right (by decide) h
theorem p2lt {a b : Nat} (h : a < b) : 2 ^ a < 2 ^ b := Nat.pow_lt_pow_right (by decide) h
theorem log_lt {j α k : Nat} (h0 : j ≠ 0) (h : j ≤ 2 ^ α) (ha : α < k) : j.log2 < k := (Nat.log2_lt h0).mpr (Nat.lt_of_le_of_lt h (p2lt ha))
theorem divz_ok {i j : Int} {α : Nat} (h0 : j ≠ 0) (h : j.natAbs ≤ 2 ^ α) (ha : α < 9000) : CDivZ i j :=
  ⟨h0, PyProof.noPylong_of_log2 (log_lt (Int.natAbs_ne_zero.mpr h0) h ha)⟩
theorem mul_ok {i j : Int} {α β : Nat} (ha : i.natAbs ≤ 2 ^ α) (hb : j.natAbs ≤ 2 ^ β) (h : α + β + 2 ≤ 134217728) : CMulX i j :=
  mulx_ok (a := α + 1) (b := β + 1) (Nat.lt_of_le_of_lt ha (p2lt (Nat.lt_succ_self _))) (Nat.lt_of_le_of_lt hb (p2lt (Nat.lt_succ_self _))) (by omega)
theorem fdiv_absP (a b : Int) (hb : 0 < b) : (a.fdiv b).natAbs ≤ a.natAbs := by
  have h := fdiv_rem a b hb
  generalize a.fdiv b = q at h ⊢
  rcases (by omega : q < 0 ∨ 0 ≤ q) with hq | hq
  · have h1 := Int.mul_le_mul_of_nonneg_left (show (1 : Int) ≤ b by omega) (show 0 ≤ -(q + 1) by omega)
    have h2 : -(q + 1) * b = -(q * b) - b := by grind
    rw [h2] at h1
    omega
  · have h1 := Int.mul_le_mul_of_nonneg_left (show (1 : Int) ≤ b by omega) hq
    omega
theorem fdiv_abs (a b : Int) (hb : b ≠ 0) : (a.fdiv b).natAbs ≤ a.natAbs := by
  rcases Int.lt_or_gt_of_ne hb with h | h
  · have := fdiv_absP (-a) (-b) (by omega)
    rw [Int.neg_fdiv_neg, Int.natAbs_neg] at this
    exact this
  · exact fdiv_absP a b h
theorem mem_itm {v : Vec} {m : Int} (h : m ∈ v) : ∃ i, itm v i = m := by
  obtain ⟨i, hi, e⟩ := List.mem_iff_getElem.mp h
  refine ⟨i, ?_⟩
  have := itm_of hi
  rw [List.getElem?_eq_getElem hi, e] at this
  exact (Option.some.inj this).symm
theorem redV_size {n π β : Nat} (hπ : π < 9000) : ∀ {c : Nat} {B : List Vec} {v : Vec} {ξ : Nat}, Ech n c B → v.length = n → (∀ s ∈ B, (itm s (piv s)).natAbs ≤ 2 ^ π) → (∀ s ∈ B, ∀ i, (itm s i).natAbs ≤ 2 ^ β) → (∀ i, (itm v i).natAbs ≤ 2 ^ ξ) →
    ξ + B.length * (β + 1) + β + 2 ≤ 134217728 → OkRed B v ∧ ∀ i, (itm (redV B v) i).natAbs ≤ 2 ^ (ξ + B.length * (β + 1))
  | c, [], v, ξ, _, _, _, _, hv, _ => ⟨trivial, fun i => by rw [List.length_nil, Nat.zero_mul]; exact hv i⟩
  | c, r :: rs, v, ξ, e, l, hp, hb, hv, ok => by
    obtain ⟨hp1, hp2⟩ := List.forall_mem_cons.mp hp
    obtain ⟨hb1, hb2⟩ := List.forall_mem_cons.mp hb
    have lr : v.length = r.length := l.trans e.1.symm
    have rn : itm r (piv r) ≠ 0 := e.ne List.mem_cons_self
    have hq := fdiv_abs (itm v (piv r)) (itm r (piv r)) rn
    have hq2 := Nat.le_trans hq (hv (piv r))
    rw [List.length_cons, Nat.add_mul, Nat.one_mul] at ok
    have ih := redV_size hπ (v := addV v (-((itm v (piv r)).fdiv (itm r (piv r)))) r) (ξ := ξ + (β + 1)) e.2.2.2 ((addV_len lr).trans l) hp2 hb2 (fun i => ?_) (by omega)
    · refine ⟨⟨e.1 ▸ e.2.2.1, divz_ok rn hp1 hπ, fun m hm => ?_, ih.1⟩, fun i => ?_⟩
      · obtain ⟨i, rfl⟩ := mem_itm hm
        exact mul_ok (α := ξ) (by rw [Int.natAbs_neg]; exact hq2) (hb1 i) (by omega)
      · refine Nat.le_trans (ih.2 i) (p2le ?_)
        rw [List.length_cons, Nat.add_mul, Nat.one_mul]; omega
    · rw [itm_add lr]
      have h1 : (-((itm v (piv r)).fdiv (itm r (piv r))) * itm r i).natAbs ≤ 2 ^ ξ * 2 ^ β := by
        rw [Int.natAbs_mul, Int.natAbs_neg]; exact Nat.mul_le_mul hq2 (hb1 i)
      have h2 := hv i
      have h3 : 2 ^ ξ ≤ 2 ^ ξ * 2 ^ β := Nat.le_mul_of_pos_right _ (Nat.two_pow_pos β)
      have h4 : 2 ^ (ξ + (β + 1)) = 2 ^ ξ * 2 ^ β * 2 := by rw [Nat.pow_add, Nat.pow_succ, Nat.mul_assoc]
      rw [h4]
      have := Int.natAbs_add_le (itm v i) (-((itm v (piv r)).fdiv (itm r (piv r))) * itm r i)
      omega
theorem sign_rem (a b : Int) (hb : b ≠ 0) : (0 ≤ b ∧ 0 ≤ a + -(a.fdiv b) * b) ∨ (b ≤ 0 ∧ a + -(a.fdiv b) * b ≤ 0) := by
  have e : a + -(a.fdiv b) * b = a - a.fdiv b * b := by grind
  rw [e]
  rcases Int.lt_or_gt_of_ne hb with h | h
  · exact .inr ⟨by omega, (fdiv_rem_neg a b h).2⟩
  · exact .inl ⟨by omega, (fdiv_rem a b h).1⟩
theorem euc_any (a b : Int) : (a.fdiv b).natAbs * b.natAbs ≤ a.natAbs + (a + -(a.fdiv b) * b).natAbs := by
  have e : a.fdiv b * b = a - (a + -(a.fdiv b) * b) := by grind
  rw [← Int.natAbs_mul, e]; omega
theorem euc (a b : Int) (hb : b ≠ 0) (hs : (0 ≤ a ∧ 0 ≤ b) ∨ (a ≤ 0 ∧ b ≤ 0)) : (a.fdiv b).natAbs * b.natAbs + (a + -(a.fdiv b) * b).natAbs = a.natAbs := by
  have e : a + -(a.fdiv b) * b = a - a.fdiv b * b := by grind
  rw [← Int.natAbs_mul, e]
  rcases Int.lt_or_gt_of_ne hb with h | h
  · have h1 := fdiv_rem_neg a b h
    generalize a.fdiv b = q at h1 ⊢
    rcases (by omega : q < 0 ∨ 0 ≤ q) with hq | hq
    · have h2 := Int.mul_le_mul_of_nonneg_left (show (1 : Int) ≤ -q by omega) (show 0 ≤ -b by omega)
      have h3 : -b * -q = q * b := by grind
      rw [h3] at h2
      omega
    · have h2 := Int.mul_nonneg hq (show 0 ≤ -b by omega)
      rw [Int.mul_neg] at h2
      omega
  · have h1 := fdiv_rem a b h
    generalize a.fdiv b = q at h1 ⊢
    rcases (by omega : q < 0 ∨ 0 ≤ q) with hq | hq
    · have h2 := Int.mul_le_mul_of_nonneg_left (show (1 : Int) ≤ -q by omega) (show 0 ≤ b by omega)
      have h3 : b * -q = -(q * b) := by grind
      rw [h3] at h2
      omega
    · have h2 := Int.mul_nonneg hq (show 0 ≤ b by omega)
      omega
theorem step_abs {a b : Int} {q : Int} {x y : Nat} (ha : a.natAbs ≤ x) (hb : b.natAbs ≤ y) : (a + -q * b).natAbs ≤ x + q.natAbs * y := by
  have h1 : (-q * b).natAbs ≤ q.natAbs * y := by rw [Int.natAbs_mul, Int.natAbs_neg]; exact Nat.mul_le_mul_left _ hb
  have := Int.natAbs_add_le a (-q * b)
  omega
theorem clr_size {n α χ : Nat} (hα : α < 9000) (hχ : α + χ + 2 ≤ 134217728) : ∀ (m : Nat) (r v : Vec) (i : Nat) (C : Nat → Prop) (Mr Mv X : Nat), r.length = n → v.length = n → itm r i ≠ 0 → ((0 ≤ itm r i ∧ 0 ≤ itm v i) ∨ (itm r i ≤ 0 ∧ itm v i ≤ 0)) →
    (∀ j, C j → (itm r j).natAbs ≤ Mr ∧ (itm v j).natAbs ≤ Mv) → Mr ≤ X → Mv * (itm r i).natAbs + Mr * (itm v i).natAbs ≤ X →
    (∀ j, C j → (itm (clr m r v i).1 j).natAbs ≤ X ∧ (itm (clr m r v i).2 j).natAbs ≤ X) ∧ ((∀ j, C j) → (itm v i).natAbs ≤ m → X ≤ 2 ^ χ → (itm r i).natAbs ≤ 2 ^ α → (itm v i).natAbs ≤ 2 ^ α → OkClr m r v i)
  | 0, r, v, i, C, Mr, Mv, X, lr, lv, h0, hs, hC, hX, hN => by
    have h1 : Mv ≤ Mv * (itm r i).natAbs := Nat.le_mul_of_pos_right _ (Int.natAbs_pos.mpr h0)
    exact ⟨fun j hj => ⟨Nat.le_trans (hC j hj).1 hX, Nat.le_trans (hC j hj).2 (by omega)⟩, fun _ hm _ _ _ => by show itm v i = 0; omega⟩
  | m + 1, r, v, i, C, Mr, Mv, X, lr, lv, h0, hs, hC, hX, hN => by
    have h1 : Mv ≤ Mv * (itm r i).natAbs := Nat.le_mul_of_pos_right _ (Int.natAbs_pos.mpr h0)
    by_cases hv : itm v i = 0
    · have e : clr (m + 1) r v i = (r, v) := by unfold clr; rw [if_pos hv]
      rw [e]
      exact ⟨fun j hj => ⟨Nat.le_trans (hC j hj).1 hX, Nat.le_trans (hC j hj).2 (by omega)⟩, fun _ _ _ _ _ => .inl hv⟩
    · have e : clr (m + 1) r v i = clr m v (addV r (-((itm r i).fdiv (itm v i))) v) i := by rw [clr, if_neg hv]
      have l := lr.trans lv.symm
      have ei := itm_add (t := -((itm r i).fdiv (itm v i))) l i
      have q1 := euc (itm r i) (itm v i) hv hs
      have q2 := sign_rem (itm r i) (itm v i) hv
      have q3 := fdiv_small (itm r i) (itm v i) hv
      rw [← ei] at q1 q2 q3
      have key : (Mr + ((itm r i).fdiv (itm v i)).natAbs * Mv) * (itm v i).natAbs + Mv * (itm (addV r (-((itm r i).fdiv (itm v i))) v) i).natAbs ≤ X := by
        have : (Mr + ((itm r i).fdiv (itm v i)).natAbs * Mv) * (itm v i).natAbs + Mv * (itm (addV r (-((itm r i).fdiv (itm v i))) v) i).natAbs = Mr * (itm v i).natAbs + Mv * (((itm r i).fdiv (itm v i)).natAbs * (itm v i).natAbs + (itm (addV r (-((itm r i).fdiv (itm v i))) v) i).natAbs) := by grind
        rw [this, q1]; omega
      have ih := clr_size hα hχ m v (addV r (-((itm r i).fdiv (itm v i))) v) i C Mv (Mr + ((itm r i).fdiv (itm v i)).natAbs * Mv) X lv ((addV_len l).trans lr) hv q2 (fun j hj => ⟨(hC j hj).2, by rw [itm_add l]; exact step_abs (hC j hj).1 (hC j hj).2⟩) (by omega) key
      rw [e]
      refine ⟨ih.1, fun hall hm hXχ hr hvα => .inr ⟨divz_ok hv hvα hα, fun x hx => ?_, ih.2 hall (by omega) hXχ hvα (by omega)⟩⟩
      obtain ⟨j, rfl⟩ := mem_itm hx
      exact mul_ok (α := α) (β := χ) (by rw [Int.natAbs_neg]; exact Nat.le_trans (fdiv_abs _ _ hv) hr) (Nat.le_trans (hC j (hall j)).2 (by omega)) hχ
theorem clear_size {n α χ : Nat} (hα : α < 9000) (hχ : α + χ + 2 ≤ 134217728) (r v : Vec) (i : Nat) (C : Nat → Prop) (M a : Nat) (lr : r.length = n) (lv : v.length = n) (h0 : itm r i ≠ 0) (a1 : 1 ≤ a) (ha : (itm r i).natAbs ≤ a) (hav : (itm v i).natAbs ≤ a)
    (hC : ∀ j, C j → (itm r j).natAbs ≤ M ∧ (itm v j).natAbs ≤ M) :
    (∀ j, C j → (itm (clear r v i).1 j).natAbs ≤ 4 * M * a ∧ (itm (clear r v i).2 j).natAbs ≤ 4 * M * a) ∧ ((∀ j, C j) → 4 * M * a ≤ 2 ^ χ → a ≤ 2 ^ α → OkClr (itm v i).natAbs r v i) := by
  have hM : M ≤ 4 * M * a := by
    have : 4 * M ≤ 4 * M * a := Nat.le_mul_of_pos_right _ a1
    omega
  unfold clear
  by_cases hv : itm v i = 0
  · have e : (itm v i).natAbs = 0 := by rw [hv]; rfl
    rw [e]
    exact ⟨fun j hj => ⟨Nat.le_trans (hC j hj).1 hM, Nat.le_trans (hC j hj).2 hM⟩, fun _ _ _ => hv⟩
  · obtain ⟨m, em⟩ : ∃ m, (itm v i).natAbs = m + 1 := ⟨(itm v i).natAbs - 1, by omega⟩
    rw [em]
    have e : clr (m + 1) r v i = clr m v (addV r (-((itm r i).fdiv (itm v i))) v) i := by rw [clr, if_neg hv]
    have l := lr.trans lv.symm
    have ei := itm_add (t := -((itm r i).fdiv (itm v i))) l i
    have q1 := euc_any (itm r i) (itm v i)
    have q2 := sign_rem (itm r i) (itm v i) hv
    have q3 := fdiv_small (itm r i) (itm v i) hv
    rw [← ei] at q1 q2 q3
    have key : (M + ((itm r i).fdiv (itm v i)).natAbs * M) * (itm v i).natAbs + M * (itm (addV r (-((itm r i).fdiv (itm v i))) v) i).natAbs ≤ 4 * M * a := by
      have e1 : (M + ((itm r i).fdiv (itm v i)).natAbs * M) * (itm v i).natAbs + M * (itm (addV r (-((itm r i).fdiv (itm v i))) v) i).natAbs = M * ((itm v i).natAbs + ((itm r i).fdiv (itm v i)).natAbs * (itm v i).natAbs + (itm (addV r (-((itm r i).fdiv (itm v i))) v) i).natAbs) := by grind
      have e2 : 4 * M * a = M * (4 * a) := by grind
      rw [e1, e2]
      exact Nat.mul_le_mul_left _ (by omega)
    have ih := clr_size hα hχ m v (addV r (-((itm r i).fdiv (itm v i))) v) i C M (M + ((itm r i).fdiv (itm v i)).natAbs * M) (4 * M * a) lv ((addV_len l).trans lr) hv q2 (fun j hj => ⟨(hC j hj).2, by rw [itm_add l]; exact step_abs (hC j hj).1 (hC j hj).2⟩) hM key
    rw [e]
    refine ⟨ih.1, fun hall hX haα => .inr ⟨divz_ok hv (Nat.le_trans hav haα) hα, fun x hx => ?_, ih.2 hall (by omega) hX (by omega) (by omega)⟩⟩
    obtain ⟨j, rfl⟩ := mem_itm hx
    exact mul_ok (α := α) (β := χ) (by rw [Int.natAbs_neg]; exact Nat.le_trans (fdiv_abs _ _ hv) (Nat.le_trans ha haα)) (Nat.le_trans (hC j (hall j)).2 (by omega)) hχ
end K06

namespace K06
open PySem L2 RZ Lat
def gd : Nat → Nat → Nat → Prop
  | 0, _, _ => True
  | k + 1, α, ξ => α < 9000 ∧ ξ + 2 * α + 4 ≤ 134217728 ∧ gd k (2 * α + 2) (ξ + α + 2)
def fxb : Nat → Nat → Nat → Nat
  | 0, _, ξ => ξ
  | k + 1, α, ξ => fxb k (2 * α + 2) (ξ + α + 2)
theorem fxb_ge : ∀ (k α ξ : Nat), ξ ≤ fxb k α ξ
  | 0, _, _ => Nat.le_refl _
  | k + 1, α, ξ => Nat.le_trans (by omega) (fxb_ge k (2 * α + 2) (ξ + α + 2))
theorem four (α β : Nat) : 4 * 2 ^ β * 2 ^ α = 2 ^ (β + α + 2) := by
  rw [Nat.pow_add, Nat.pow_add, Nat.mul_comm 4, Nat.mul_assoc, Nat.mul_comm 4, ← Nat.mul_assoc]
theorem stepped_size {n : Nat} (C : Nat → Prop) : ∀ {c : Nat} {B : List Vec} {v : Vec} {α ξ : Nat}, Ech n c B → v.length = n → (∀ s ∈ B, C (piv s)) → gd B.length α ξ →
    (∀ s ∈ B, (∀ i, (itm s i).natAbs ≤ 2 ^ ξ) ∧ ∀ i, C i → (itm s i).natAbs ≤ 2 ^ α) → (∀ i, (itm v i).natAbs ≤ 2 ^ ξ) → (∀ i, C i → (itm v i).natAbs ≤ 2 ^ α) →
    OkStep B v ∧ ∀ s ∈ stepped B v, ∀ i, (itm s i).natAbs ≤ 2 ^ fxb B.length α ξ
  | c, [], v, α, ξ, _, _, _, _, _, hv, _ => by
    refine ⟨trivial, ?_⟩
    rw [stepped_nil]
    split
    · exact fun s h => nomatch h
    · exact fun s hs i => by rw [List.mem_singleton.mp hs]; exact hv i
  | c, r :: rs, v, α, ξ, e, l, hp, g, hB, hv, hvC => by
    obtain ⟨hp1, hp2⟩ := List.forall_mem_cons.mp hp
    obtain ⟨hB1, hB2⟩ := List.forall_mem_cons.mp hB
    obtain ⟨g1, g2, g3⟩ := g
    have up : ∀ {x : Nat}, x ≤ 2 ^ ξ → x ≤ 2 ^ (ξ + α + 2) := fun h => Nat.le_trans h (p2le (by omega))
    have upA : ∀ {x : Nat}, x ≤ 2 ^ α → x ≤ 2 ^ (2 * α + 2) := fun h => Nat.le_trans h (p2le (by omega))
    have hB2' : ∀ s ∈ rs, (∀ i, (itm s i).natAbs ≤ 2 ^ (ξ + α + 2)) ∧ ∀ i, C i → (itm s i).natAbs ≤ 2 ^ (2 * α + 2) := fun s hs => ⟨fun i => up ((hB2 s hs).1 i), fun i hi => upA ((hB2 s hs).2 i hi)⟩
    have top := fxb_ge rs.length (2 * α + 2) (ξ + α + 2)
    rw [stepped_cons]
    by_cases h : piv v < piv r
    · rw [if_pos h]
      have ih := stepped_size C (v := r) e.2.2.2 e.1 hp2 g3 hB2' (fun i => up (hB1.1 i)) (fun i hi => upA (hB1.2 i hi))
      exact ⟨⟨e.1 ▸ e.2.2.1, .inl ⟨h, ih.1⟩⟩, List.forall_mem_cons.mpr ⟨fun i => Nat.le_trans (up (hv i)) (p2le top), ih.2⟩⟩
    · rw [if_neg h]
      have rn := e.ne List.mem_cons_self
      have a1 : 1 ≤ 2 ^ α := Nat.two_pow_pos α
      obtain ⟨c1, c2⟩ := clear_len (i := piv r) (e.1.trans l.symm)
      have z1 := clear_size (n := n) (χ := ξ + α + 2) g1 (by omega) r v (piv r) (fun _ => True) (2 ^ ξ) (2 ^ α) e.1 l rn a1 (hB1.2 _ hp1) (hvC _ hp1) (fun j _ => ⟨hB1.1 j, hv j⟩)
      have z2 := clear_size (n := n) (χ := ξ + α + 2) g1 (by omega) r v (piv r) C (2 ^ α) (2 ^ α) e.1 l rn a1 (hB1.2 _ hp1) (hvC _ hp1) (fun j hj => ⟨hB1.2 j hj, hvC j hj⟩)
      rw [four] at z1 z2
      have e2 : α + α + 2 = 2 * α + 2 := by omega
      rw [e2] at z2
      have ih := stepped_size C (v := (clear r v (piv r)).2) e.2.2.2 (c2.trans e.1) hp2 g3 hB2' (fun i => (z1.1 i trivial).2) (fun i hi => (z2.1 i hi).2)
      exact ⟨⟨e.1 ▸ e.2.2.1, .inr ⟨h, z1.2 (fun _ => trivial) (Nat.le_refl _) (Nat.le_refl _), ih.1⟩⟩, List.forall_mem_cons.mpr ⟨fun i => Nat.le_trans (z1.1 i trivial).1 (p2le top), ih.2⟩⟩
theorem tidy_pivs {n : Nat} : ∀ {c : Nat} {B : List Vec}, Ech n c B → ∀ s ∈ tidy B, ∃ r ∈ B, (itm s (piv s)).natAbs = (itm r (piv r)).natAbs
  | c, [], _ => fun s h => nomatch h
  | c, r :: rs, e => by
    have et := tidy_ech e
    have ih := tidy_pivs e.2.2.2
    have lp : (posV r).length = n := (posV_length r).trans e.1
    have pp := posV_piv r (e.1 ▸ e.2.2.1)
    have h' := tidy_ech e.2.2.2
    have lo := redV_low h' lp
    have pe : piv (redV (tidy rs) (posV r)) = piv r := piv_eq (fun i hi => by rw [lo i (by omega), ← Int.natAbs_eq_zero, posV_abs, (piv_spec r).1 i hi]; rfl) (by
      rw [lo _ (by omega)]
      intro q
      have := posV_abs r (piv r)
      rw [q] at this
      exact e.ne List.mem_cons_self (by omega))
    unfold tidy
    intro s hs
    rcases List.mem_cons.mp hs with z | hs
    · refine ⟨r, List.mem_cons_self, ?_⟩
      rw [z, pe, lo _ (by omega), posV_abs]
    · obtain ⟨t, ht, q⟩ := ih s hs
      exact ⟨t, List.mem_cons_of_mem _ ht, q⟩
def tb : Nat → Nat → Nat
  | 0, τ => τ
  | k + 1, τ => tb k τ + τ + k * (tb k τ + 1)
theorem tidy_size {n π τ : Nat} (hπ : π < 9000) : ∀ {c : Nat} {B : List Vec}, Ech n c B → (∀ s ∈ B, (itm s (piv s)).natAbs ≤ 2 ^ π) → (∀ s ∈ B, ∀ i, (itm s i).natAbs ≤ 2 ^ τ) → tb B.length τ + 4 ≤ 134217728 →
    OkTidy B ∧ ∀ s ∈ tidy B, ∀ i, (itm s i).natAbs ≤ 2 ^ tb B.length τ
  | c, [], _, _, _, _ => ⟨trivial, fun s h => nomatch h⟩
  | c, r :: rs, e, hp, hB, g => by
    obtain ⟨hp1, hp2⟩ := List.forall_mem_cons.mp hp
    obtain ⟨hB1, hB2⟩ := List.forall_mem_cons.mp hB
    have g' : tb rs.length τ + τ + rs.length * (tb rs.length τ + 1) + 4 ≤ 134217728 := g
    have ih := tidy_size hπ e.2.2.2 hp2 hB2 (by omega)
    have h' := tidy_ech e.2.2.2
    have lp : (posV r).length = n := (posV_length r).trans e.1
    have cnt : (tidy rs).length = rs.length := tidy_count
    have rz := redV_size hπ (v := posV r) (ξ := τ) h' lp (fun s hs => by
      obtain ⟨t, ht, q⟩ := tidy_pivs e.2.2.2 s hs
      rw [q]; exact hp2 t ht) ih.2 (fun i => by rw [posV_abs]; exact hB1 i) (by rw [cnt]; omega)
    rw [cnt] at rz
    have top : τ + rs.length * (tb rs.length τ + 1) ≤ tb (r :: rs).length τ := by
      show _ ≤ tb rs.length τ + τ + rs.length * (tb rs.length τ + 1)
      omega
    have top2 : tb rs.length τ ≤ tb (r :: rs).length τ := by
      show _ ≤ tb rs.length τ + τ + rs.length * (tb rs.length τ + 1)
      omega
    refine ⟨⟨ih.1, ⟨e.1 ▸ e.2.2.1, fun m hm => ?_⟩, rz.1⟩, ?_⟩
    · obtain ⟨i, rfl⟩ := mem_itm hm
      exact mul_ok (α := 1) (β := τ) (by decide) (hB1 i) (by omega)
    · unfold tidy
      exact List.forall_mem_cons.mpr ⟨fun i => Nat.le_trans (rz.2 i) (p2le top), fun s hs i => Nat.le_trans (ih.2 s hs i) (p2le top2)⟩
/-! ## all along the vectors -/
def gb : Nat → Nat
  | 0 => 0
  | j + 1 => 6 + j * (gb j + 1)
structure Inv (n j : Nat) (B : List Vec) : Prop where
  ech : Ech n 0 B
  count : B.length ≤ j
  redd : Redd B
  ghost : ∃ G, Ech n 0 G ∧ G.length ≤ j ∧ (∀ g ∈ G, In B (itm g)) ∧ (∀ s ∈ B, RIn G (itm s)) ∧ ∀ g ∈ G, ∀ i, (itm g i).natAbs ≤ 2 ^ gb j
theorem Inv.piv {n j : Nat} {B : List Vec} (I : Inv n j B) : ∀ s ∈ B, (itm s (piv s)).natAbs ≤ 2 ^ gb j := by
  obtain ⟨G, eG, _, h1, h2, h3⟩ := I.ghost
  intro s hs
  obtain ⟨g, hg, _, q⟩ := piv_bound I.ech eG h1 h2 s hs
  exact Nat.le_trans q (h3 g hg _)
theorem Inv.all {n j : Nat} {B : List Vec} (I : Inv n j B) : ∀ s ∈ B, ∀ i, (itm s i).natAbs ≤ 2 ^ (gb j + j * (gb j + 2)) := by
  have hp := I.piv
  obtain ⟨G, eG, c, h1, h2, h3⟩ := I.ghost
  intro s hs i
  have sn := I.ech
  have q := all_bound (b := 2 ^ gb j) (A := 2 ^ gb j) (Nat.two_pow_pos _) eG h3 (h2 s hs) (fun g hg => ?_) i
  · refine Nat.le_trans q ?_
    have e1 : 4 * 2 ^ gb j = 2 ^ (gb j + 2) := by rw [Nat.pow_add, Nat.mul_comm]
    rw [e1, ← Nat.pow_mul, ← Nat.pow_add]
    refine p2le ?_
    have := Nat.mul_le_mul_left (gb j + 2) c
    rw [Nat.mul_comm (gb j + 2) j] at this
    omega
  · -- the ghost's pivot is a pivot of the basis
    have gn := eG.ne hg
    rcases lead I.ech (h1 g hg) with z | ⟨t, ht, a, ha, z, y⟩
    · exact absurd (z _) gn
    · have tn := I.ech.ne ht
      have e' : Lat.piv t = Lat.piv g := by
        rcases Nat.lt_trichotomy (Lat.piv t) (Lat.piv g) with l | l | l
        · rw [(piv_spec g).1 _ l] at y
          exact absurd y.symm (Int.mul_ne_zero ha tn)
        · exact l
        · exact absurd (z _ l) gn
      rw [← e']
      exact Nat.le_trans (I.redd t ht s hs) (hp t ht)
theorem gb_le : ∀ j, j ≤ 4 → gb j ≤ 111 ∧ gb j ≤ gb (j + 1) ∧ gb (j + 1) ≤ 454 := by decide
theorem eb_le : ∀ j, j ≤ 4 → gb j + j * (gb j + 2) ≤ 563 := by decide
theorem gd_le : ∀ k, k ≤ 4 → gd k 111 2262 ∧ fxb k 111 2262 ≤ 6000 ∧ tb (k + 1) 6000 + 4 ≤ 134217728 := by
  intro k hk
  have : k = 0 ∨ k = 1 ∨ k = 2 ∨ k = 3 ∨ k = 4 := by omega
  rcases this with e | e | e | e | e <;> subst e <;> simp [gd, fxb, tb]
theorem tb_mono {τ : Nat} : ∀ k, tb k τ ≤ tb (k + 1) τ := fun k => by
  show _ ≤ tb k τ + τ + k * (tb k τ + 1)
  omega
theorem grow_inv {n j : Nat} {B : List Vec} {v : Vec} (I : Inv n j B) (hj : j ≤ 4) (l : v.length = n) (hv : ∀ i, (itm v i).natAbs ≤ 2 ^ 6) : OkGrow B v ∧ Inv n (j + 1) (grow B v) := by
  have hp := I.piv
  have hall := I.all
  obtain ⟨b1, b2, b3⟩ := gb_le j hj
  have b4 := eb_le j hj
  have hB6 : ∀ s ∈ B, ∀ i, (itm s i).natAbs ≤ 2 ^ 563 := fun s hs i => Nat.le_trans (hall s hs i) (p2le b4)
  have hp6 : ∀ s ∈ B, (itm s (piv s)).natAbs ≤ 2 ^ 111 := fun s hs => Nat.le_trans (hp s hs) (p2le b1)
  have cB : B.length ≤ 4 := Nat.le_trans I.count hj
  have hm : B.length * 564 ≤ 4 * 564 := Nat.mul_le_mul_right _ cB
  have rz := redV_size (π := 111) (β := 563) (by decide) I.ech l hp6 hB6 hv (by omega)
  have ru : ∀ i, (itm (redV B v) i).natAbs ≤ 2 ^ 2262 := fun i => Nat.le_trans (rz.2 i) (p2le (by omega))
  have hlen : ∀ r ∈ B, r.length = v.length := fun r hr => ((I.ech.row r hr).1).trans l.symm
  have lu := redV_len B v hlen
  have hlen' : ∀ r ∈ B, r.length = (redV B v).length := fun r hr => (hlen r hr).trans lu.symm
  obtain ⟨gdk, fk, tk⟩ := gd_le B.length cB
  have st := stepped_size (n := n) (fun i => ∃ s ∈ B, i = piv s) (v := redV B v) I.ech (lu.trans l) (fun s hs => ⟨s, hs, rfl⟩) gdk
    (fun s hs => ⟨fun i => Nat.le_trans (hB6 s hs i) (p2le (by decide)), fun i ⟨t, ht, e⟩ => e ▸ Nat.le_trans (I.redd t ht s hs) (hp6 t ht)⟩) ru
    (fun i ⟨t, ht, e⟩ => e ▸ Nat.le_trans (Nat.le_of_lt (redV_small I.ech l t ht)) (hp6 t ht))
  have es : Ech n 0 (stepped B (redV B v)) := stepped_ech I.ech (lu.trans l) (Nat.zero_le _) fun i hi => absurd hi (Nat.not_lt_zero _)
  have cs : (stepped B (redV B v)).length ≤ B.length + 1 := stepped_count
  -- the ghosts
  obtain ⟨G, eG, cG, h1, h2, h3⟩ := I.ghost
  have eG' : Ech n 0 (insG G v) := insG_ech eG l (Nat.zero_le _) fun i hi => absurd hi (Nat.not_lt_zero _)
  have cG' : (insG G v).length ≤ j + 1 := Nat.le_trans insG_count (Nat.succ_le_succ cG)
  have sG' : ∀ g ∈ insG G v, ∀ i, (itm g i).natAbs ≤ 2 ^ gb (j + 1) := by
    refine insG_size (b := 2 ^ gb j) (x := 2 ^ 6) (Nat.two_pow_pos _) eG l h3 hv (p2le b2) ?_
    have e1 : 2 * 2 ^ gb j = 2 ^ (gb j + 1) := by rw [Nat.pow_succ, Nat.mul_comm]
    rw [e1, ← Nat.pow_mul, ← Nat.pow_add]
    refine p2le ?_
    show _ ≤ 6 + j * (gb j + 1)
    have := Nat.mul_le_mul_left (gb j + 1) cG
    rw [Nat.mul_comm (gb j + 1) j] at this
    omega
  have rB : ∀ s ∈ B, RIn (insG G v) (itm s) := fun s hs => by
    obtain ⟨D, hD, h⟩ := h2 s hs
    exact ⟨D, hD, In.sub (In.cl _) (fun g hg => insG_old g hg) h⟩
  have rv : RIn (insG G v) (itm v) := insG_new eG l
  have mk : ∀ B' : List Vec, (∀ S, Cl S → ((∀ r ∈ B', S (itm r)) ↔ ((∀ r ∈ B, S (itm r)) ∧ S (itm v)))) → (∀ g ∈ insG G v, In B' (itm g)) ∧ ∀ s ∈ B', RIn (insG G v) (itm s) := by
    intro B' h
    obtain ⟨q1, q2⟩ := (h (In B') (In.cl B')).mp fun r hr => In.mem _ _ hr
    exact ⟨insG_cl (In.cl B') eG l (fun g hg => In.sub (In.cl B') q1 (h1 g hg)) q2, (h (RIn (insG G v)) (RIn.cl _)).mpr ⟨rB, rv⟩⟩
  have rc : ∀ {S : (Nat → Int) → Prop}, Cl S → (∀ r ∈ B, S (itm r)) → (S (itm (redV B v)) ↔ S (itm v)) := fun C => redV_cl C B v hlen
  have ss := mk (stepped B (redV B v)) fun S C => by
    rw [stepped_cl C hlen']
    exact ⟨fun q => ⟨q.1, (rc C q.1).mp q.2⟩, fun q => ⟨q.1, (rc C q.1).mpr q.2⟩⟩
  have sg := mk (grow B v) fun S C => grow_cl C hlen
  have ps : ∀ s ∈ stepped B (redV B v), (itm s (piv s)).natAbs ≤ 2 ^ 454 := fun s hs => by
    obtain ⟨g, hg, _, q⟩ := piv_bound es eG' ss.1 ss.2 s hs
    exact Nat.le_trans q (Nat.le_trans (sG' g hg _) (p2le b3))
  have td := tidy_size (π := 454) (τ := 6000) (by decide) es ps (fun s hs i => Nat.le_trans (st.2 s hs i) (p2le fk)) (by
    rcases Nat.lt_or_ge (stepped B (redV B v)).length (B.length + 1) with q | q
    · have q1 : ∀ m k : Nat, m ≤ k → tb m 6000 ≤ tb k 6000 := fun m k h => by
        induction h with
        | refl => exact Nat.le_refl _
        | step _ ih => exact Nat.le_trans ih (tb_mono _)
      have := q1 _ _ (Nat.le_of_lt q)
      omega
    · rw [Nat.le_antisymm cs q]; exact tk)
  refine ⟨⟨rz.1, .inr ⟨st.1, td.1, by omega⟩⟩, ?_⟩
  refine ⟨?_, ?_, ?_, insG G v, eG', cG', sg.1, sg.2, sG'⟩
  · unfold grow
    split
    · exact I.ech
    · exact tidy_ech es
  · unfold grow
    split
    · exact Nat.le_succ_of_le I.count
    · rw [tidy_count]; have := I.count; omega
  · unfold grow
    split
    · exact I.redd
    · exact tidy_redd es
theorem inv0 (n : Nat) : Inv n 0 [] := ⟨trivial, Nat.le_refl _, fun s h => (nomatch h), [], trivial, Nat.le_refl _, fun g h => (nomatch h), fun g h => (nomatch h), fun g h => (nomatch h)⟩
theorem grows_inv {n : Nat} : ∀ (rs : List Vec) (j : Nat) (B : List Vec), Inv n j B → j + rs.length ≤ 5 → (∀ r ∈ rs, r.length = n ∧ Within 44 r) → OkGrows B rs ∧ Inv n (j + rs.length) (grows B rs)
  | [], j, B, I, _, _ => ⟨trivial, I⟩
  | v :: vs, j, B, I, hj, h => by
    rw [List.length_cons] at hj ⊢
    obtain ⟨⟨l, w⟩, h2⟩ := List.forall_mem_cons.mp h
    have hv : ∀ i, (itm v i).natAbs ≤ 2 ^ 6 := fun i => by
      by_cases hi : i < v.length
      · have hm : itm v i ∈ v := List.mem_of_getElem? (itm_of hi)
        have := w _ hm
        show _ ≤ 64
        omega
      · rw [itm_out (by omega)]; exact Nat.zero_le _
    obtain ⟨g1, g2⟩ := grow_inv I (by omega) l hv
    have ih := grows_inv vs (j + 1) (grow B v) g2 (by omega) h2
    refine ⟨⟨g1, ?_, ih.1⟩, ?_⟩
    · have := I.count; omega
    · have e : j + (vs.length + 1) = j + 1 + vs.length := by omega
      rw [e]; exact ih.2
theorem math_ok (n : Nat) (rs : List Vec) (h : rs.length ≤ 5) (hr : ∀ r ∈ rs, r.length = n ∧ Within 44 r) : OkGrows [] rs := (grows_inv rs 0 [] (inv0 n) (by omega) hr).1
theorem math_mul (n : Nat) (rs : List Vec) (h : rs.length ≤ 5) (hr : ∀ r ∈ rs, r.length = n ∧ Within 44 r) : ∀ r ∈ grows [] rs, ∀ x ∈ r, ∀ m : Int, -1000000000 ≤ m → m ≤ 1000000000 → CMulX x m := by
  have I := (grows_inv rs 0 [] (inv0 n) (by omega) hr).2
  rw [Nat.zero_add] at I
  intro r hr' x hx m m1 m2
  obtain ⟨i, rfl⟩ := mem_itm hx
  have e : gb rs.length + rs.length * (gb rs.length + 2) ≤ 3000 := by
    have : ∀ k, k ≤ 5 → gb k + k * (gb k + 2) ≤ 3000 := by decide
    exact this _ h
  refine mul_ok (β := 30) (I.all r hr' i) ?_ (by omega)
  have : (2 : Nat) ^ 30 = 1073741824 := by decide
  rw [this]; omega
end K06

namespace K06
open PySem L2 RZ Lat
section
variable {P : Program} {w : World} {K : PySem.W.Frag} {mg : Str → Option Value} {base : Heap}
abbrev s_Lattice_reduced : Stmt := inClass (top 23) 2
abbrev n_Lattice_reduced : List Str := ["self", "vector"]
theorem sc_Lattice_reduced : FnScope n_Lattice_reduced ["self", "vector"] (defScope s_Lattice_reduced) := ⟨rfl, rfl, rfl, by decide +kernel, rfl, by decide +kernel, by decide +kernel⟩
def spRedM (C : Addr) : Sp := fun vs H Q _ => ∃ (x p : Addr) (v : Vec) (rs : List Vec), vs = [.ref x, .ref p] ∧ LatAt C H x v.length rs ∧ IsV H p v ∧ v.length ≤ 1000 ∧ OkRed rs v ∧ ∀ (H' : Hp) (q : Addr), Same H H' → IsV H' q (redV rs v) → (redV rs v).length = v.length → Q (.ref q) H'
theorem ok_redM {C fI : Addr} {fd : FuncData} (CL : ClsL K mg C) (g_reduced_by : Has P w K mg base 2 "reduced_by" ["basis", "vector"] spReduced) (F : Fun K "reduced" "Lattice.reduced" s_Lattice_reduced fI fd) : FnOk P w K mg base CX0 3 fI fd ["self", "vector"] (spRedM C) := by
  refine F.ok sc_Lattice_reduced (fun vs H Q E h => ?_) (fun cdv A outer s H vs Q E hr h => ?_)
  · obtain ⟨x, p, v, rs, rfl, _⟩ := h
    rfl
  · obtain ⟨x, p, v, rs, rfl, ⟨dx, b, os, hx, hb, hrs⟩, hp, lv, ok, k⟩ := h
    refine ⟨_, (pss_one (ps_ret (pe_callHas g_reduced_by (hr.mono (by decide)) rfl (pa_cons (pe_fld (pv 0) rfl) (pa_cons (pv 1) pa_nil))))), ?_⟩
    exact ⟨_, rfl, x, C, dx, _, _, rfl, hx, CL.cl, CL.nB, lf_basis _ _, _, rfl, b, p, os, rs, v, rfl, .inl hb, hrs, hp, lv, ok, fun H' q s1 hq l1 => k H' q s1 hq l1⟩
theorem lf_width (n : Int) (b : Addr) : (lf n b).lookup ("width" : Str) = some (.int n) := by
  unfold lf
  rw [lookup_putF, if_neg (fun z => wb z.symm), lookup_putF, if_pos rfl]
abbrev s_Lattice_contains : Stmt := inClass (top 23) 4
abbrev n_Lattice_contains : List Str := ["self", "x"]
theorem sc_Lattice_contains : FnScope n_Lattice_contains ["self", "x"] (defScope s_Lattice_contains) := ⟨rfl, rfl, rfl, by decide +kernel, rfl, by decide +kernel, by decide +kernel⟩
def spCont (C : Addr) : Sp := fun vs H Q _ => ∃ (o : Addr) (x : V) (n : Nat) (rs : List Vec), vs = [.ref o, x] ∧ LatAt C H o n rs ∧ n ≤ 1000 ∧
  ((∃ (p : Addr) (v : Vec), x = .ref p ∧ IsV H p v ∧ v.length = n ∧ OkRed rs v ∧ ∀ H', Same H H' → Q (.bl (decide (piv (redV rs v) = (redV rs v).length))) H') ∨
   (∃ (p : Addr) (xs : List V) (bs : List Bool), x = .ref p ∧ H p = some (.tup xs) ∧ Paired Flat xs bs ∧ xs.length ≤ 1000 ∧ (decide (xs.length = n) && bs.all id) = false ∧ ∀ H', Same H H' → Q (.bl false) H') ∨ (NoTup H x ∧ Q (.bl false) H))
theorem ok_cont {C fI fR : Addr} {fd fdR : FuncData} (CL : ClsL K mg C) (mR : Meth K C "reduced" fR) (g_reduced : FnOk P w K mg base CX0 3 fR fdR ["self", "vector"] (spRedM C)) (bR : Binds K fdR ["self", "vector"] []) (g_is_vector : Has P w K mg base 2 "is_vector" ["value", "width"] spIsVectorG) (g_is_zero : Has P w K mg base 2 "is_zero" ["vector"] spZero)
    (F : Fun K "__contains__" "Lattice.__contains__" s_Lattice_contains fI fd) : FnOk P w K mg base CX0 4 fI fd ["self", "x"] (spCont C) := by
  refine F.ok sc_Lattice_contains (fun vs H Q E h => ?_) (fun cdv A outer s H vs Q E hr h => ?_)
  · obtain ⟨o, x, n, rs, rfl, _⟩ := h
    rfl
  · obtain ⟨o, x, n, rs, rfl, ⟨dx, b, os, hx, hb, hrs⟩, n1, h⟩ := h
    refine ⟨_, (pss_one (ps_ret (pe_and (pe_callHas g_is_vector (hr.mono (by decide)) rfl (pa_cons (pv 1) (pa_cons (pe_fld (pv 0) rfl) pa_nil))) (pe_one (pe_callHas g_is_zero (hr.mono (by decide)) rfl (pa_cons (pe_meth (pv 0) CL.cl mR g_reduced (hr.mono (by decide)) bR .nil pass0 (pa_cons (pv 1) pa_nil)) pa_nil)))))), ?_⟩
    refine ⟨_, rfl, _, rfl, o, C, dx, _, _, rfl, hx, CL.cl, CL.nW, lf_width _ _, ?_⟩
    rcases h with ⟨p, v, rfl, hp, lv, ok, k⟩ | ⟨p, xs, bs, rfl, hp, fl, l1, hf, k⟩ | ⟨nt, k⟩
    · refine ⟨_, n, rfl, .inl ⟨p, _, _, rfl, hp, flat_ints v, by rw [List.length_map]; omega, fun H' s1 => ⟨_, rfl, ?_⟩⟩⟩
      rw [List.length_map, all_true, decide_eq_true lv]
      have nd : (lf ((n : Nat) : Int) b).lookup ("reduced" : Str) = none := lf_none _ _ (by decide +kernel) (by decide +kernel)
      refine ⟨_, rfl, o, dx, _, rfl, s1 _ _ hx, nd, _, rfl, o, p, v, rs, rfl, ⟨dx, b, os, by rw [lv]; exact s1 _ _ hx, s1 _ _ hb, by rw [lv]; exact hrs.keep s1⟩, s1 _ _ hp, by omega, ok, fun H2 q s2 hq l2 => ?_⟩
      exact ⟨q, _, rfl, hq, fun H3 s3 => k H3 ((s1.trans s2).trans s3)⟩
    · refine ⟨_, n, rfl, .inl ⟨p, xs, bs, rfl, hp, fl, l1, fun H' s1 => ⟨_, rfl, ?_⟩⟩⟩
      rw [hf]
      exact k _ s1
    · exact ⟨_, n, rfl, .inr ⟨nt, _, rfl, k⟩⟩
end
end K06

namespace K06
open PySem L2 RZ Lat
/-! ## the sizes of the law's own table -/
theorem bits_neg (i : Int) : Builtin.Int.intBits (-i) = Builtin.Int.intBits i := by
  unfold Builtin.Int.intBits
  by_cases h : i = 0
  · subst h; rfl
  · rw [if_neg (by simpa using h), if_neg (by simpa using h), Int.natAbs_neg]
theorem mul_neg {i j : Int} (h : CMulX (-i) j) : CMulX i j := by
  unfold CMulX at h ⊢
  rw [bits_neg] at h; exact h
theorem noPylong_num {x y : Int} (h : x.natAbs.log2 < 9000) : Builtin.divisionGoesByPylong x y = false := by
  have key : (if x == 0 then 0 else x.natAbs.log2 / 30 + 1) ≤ 300 := by
    by_cases hy : (x == 0) = true
    · rw [if_pos hy]; exact Nat.zero_le _
    · rw [if_neg hy]; omega
  show (decide ((if y == 0 then 0 else y.natAbs.log2 / 30 + 1) > 300) && decide ((if x == 0 then 0 else x.natAbs.log2 / 30 + 1) > (if y == 0 then 0 else y.natAbs.log2 / 30 + 1) + 150)) = false
  by_cases hA : (if y == 0 then 0 else y.natAbs.log2 / 30 + 1) > 300
  · rw [decide_eq_false (show ¬ (if x == 0 then 0 else x.natAbs.log2 / 30 + 1) > (if y == 0 then 0 else y.natAbs.log2 / 30 + 1) + 150 by omega), Bool.and_false]
  · rw [decide_eq_false hA, Bool.false_and]
theorem noPylong_near {x y : Int} (h0 : y ≠ 0) (h : x.natAbs ≤ 2 * y.natAbs) : Builtin.divisionGoesByPylong x y = false := by
  have y0 : y.natAbs ≠ 0 := Int.natAbs_ne_zero.mpr h0
  have key : (if x == 0 then 0 else x.natAbs.log2 / 30 + 1) ≤ (y.natAbs.log2 + 1) / 30 + 1 := by
    by_cases hx : (x == 0) = true
    · rw [if_pos hx]; exact Nat.zero_le _
    · rw [if_neg hx]
      have x0 : x.natAbs ≠ 0 := Int.natAbs_ne_zero.mpr (by simpa using hx)
      have h1 : y.natAbs < 2 ^ (y.natAbs.log2 + 1) := (Nat.log2_lt y0).mp (Nat.lt_succ_self _)
      have h2 : x.natAbs.log2 < y.natAbs.log2 + 2 := (Nat.log2_lt x0).mpr (by rw [Nat.pow_succ]; omega)
      have : x.natAbs.log2 / 30 ≤ (y.natAbs.log2 + 1) / 30 := Nat.div_le_div_right (by omega)
      omega
  show (decide ((if y == 0 then 0 else y.natAbs.log2 / 30 + 1) > 300) && decide ((if x == 0 then 0 else x.natAbs.log2 / 30 + 1) > (if y == 0 then 0 else y.natAbs.log2 / 30 + 1) + 150)) = false
  have e : (if y == 0 then 0 else y.natAbs.log2 / 30 + 1) = y.natAbs.log2 / 30 + 1 := if_neg (by simpa using h0)
  rw [e, decide_eq_false (show ¬ (if x == 0 then 0 else x.natAbs.log2 / 30 + 1) > y.natAbs.log2 / 30 + 1 + 150 by omega), Bool.and_false]
def JJ (L : Nat) (x y : Int) : Prop := x.natAbs ≤ L ∨ y.natAbs ≤ L ∨ (((0 ≤ x ∧ 0 ≤ y) ∨ (x ≤ 0 ∧ y ≤ 0)) ∧ y.natAbs ≤ x.natAbs ∧ x.natAbs ≤ y.natAbs + L)
theorem quot_small {x y : Int} (hy : y ≠ 0) (h : x.natAbs < 2 * y.natAbs) : x.fdiv y = -2 ∨ x.fdiv y = -1 ∨ x.fdiv y = 0 ∨ x.fdiv y = 1 ∨ x.fdiv y = 2 := by
  have sm := fdiv_small x y hy
  generalize x.fdiv y = q at sm ⊢
  have h1 : (q * y).natAbs < 3 * y.natAbs := by
    have e : q * y = x - (x + -q * y) := by grind
    rw [e]; omega
  rw [Int.natAbs_mul] at h1
  have h2 : q.natAbs < 3 := Nat.lt_of_mul_lt_mul_right h1
  omega
theorem JJ.step {L : Nat} {x y : Int} (hy : y ≠ 0) (h : JJ L x y) : JJ L y (x + -(x.fdiv y) * y) := by
  by_cases h1 : y.natAbs ≤ L
  · exact .inl h1
  · have sm := fdiv_small x y hy
    have sg := sign_rem x y hy
    have hx : x.natAbs < 2 * y.natAbs := by
      rcases h with h | h | h <;> omega
    have q5 := quot_small hy hx
    unfold JJ at h ⊢
    generalize x.fdiv y = q at sm sg q5 ⊢
    rcases q5 with e | e | e | e | e <;> subst e <;> omega
theorem JJ.div {π : Nat} (hπ : π < 9000) {x y : Int} (hy : y ≠ 0) (h : JJ (2 ^ π) x y) : CDivZ x y := by
  refine ⟨hy, ?_⟩
  rcases h with h | h | h
  · refine noPylong_num ?_
    by_cases h0 : x.natAbs = 0
    · rw [h0]; decide
    · exact log_lt h0 h hπ
  · exact PyProof.noPylong_of_log2 (log_lt (Int.natAbs_ne_zero.mpr hy) h hπ)
  · by_cases h1 : y.natAbs ≤ 2 ^ π
    · exact PyProof.noPylong_of_log2 (log_lt (Int.natAbs_ne_zero.mpr hy) h1 hπ)
    · exact noPylong_near hy (by omega)
theorem clr_sizeJ {n π α χ : Nat} (hπ : π < 9000) (hχ : α + χ + 2 ≤ 134217728) : ∀ (m : Nat) (r v : Vec) (i : Nat) (Mr Mv X : Nat), r.length = n → v.length = n → itm r i ≠ 0 → ((0 ≤ itm r i ∧ 0 ≤ itm v i) ∨ (itm r i ≤ 0 ∧ itm v i ≤ 0)) → JJ (2 ^ π) (itm r i) (itm v i) →
    (∀ j, (itm r j).natAbs ≤ Mr ∧ (itm v j).natAbs ≤ Mv) → Mr ≤ X → Mv * (itm r i).natAbs + Mr * (itm v i).natAbs ≤ X → (itm v i).natAbs ≤ m → X ≤ 2 ^ χ → (itm r i).natAbs ≤ 2 ^ α → (itm v i).natAbs ≤ 2 ^ α → OkClr m r v i
  | 0, r, v, i, Mr, Mv, X, lr, lv, h0, hs, hJ, hC, hX, hN, hm, _, _, _ => by show itm v i = 0; omega
  | m + 1, r, v, i, Mr, Mv, X, lr, lv, h0, hs, hJ, hC, hX, hN, hm, hXχ, hr, hvα => by
    have h1 : Mv ≤ Mv * (itm r i).natAbs := Nat.le_mul_of_pos_right _ (Int.natAbs_pos.mpr h0)
    by_cases hv : itm v i = 0
    · exact .inl hv
    · have l := lr.trans lv.symm
      have ei := itm_add (t := -((itm r i).fdiv (itm v i))) l i
      have q1 := euc (itm r i) (itm v i) hv hs
      have q2 := sign_rem (itm r i) (itm v i) hv
      have q3 := fdiv_small (itm r i) (itm v i) hv
      have q4 := hJ.step hv
      rw [← ei] at q1 q2 q3 q4
      have key : (Mr + ((itm r i).fdiv (itm v i)).natAbs * Mv) * (itm v i).natAbs + Mv * (itm (addV r (-((itm r i).fdiv (itm v i))) v) i).natAbs ≤ X := by
        have : (Mr + ((itm r i).fdiv (itm v i)).natAbs * Mv) * (itm v i).natAbs + Mv * (itm (addV r (-((itm r i).fdiv (itm v i))) v) i).natAbs = Mr * (itm v i).natAbs + Mv * (((itm r i).fdiv (itm v i)).natAbs * (itm v i).natAbs + (itm (addV r (-((itm r i).fdiv (itm v i))) v) i).natAbs) := by grind
        rw [this, q1]; omega
      refine .inr ⟨hJ.div hπ hv, fun x hx => ?_, clr_sizeJ hπ hχ m v (addV r (-((itm r i).fdiv (itm v i))) v) i Mv (Mr + ((itm r i).fdiv (itm v i)).natAbs * Mv) X lv ((addV_len l).trans lr) hv q2 q4 (fun j => ⟨(hC j).2, by rw [itm_add l]; exact step_abs (hC j).1 (hC j).2⟩) (by omega) key (by omega) hXχ hvα (by omega)⟩
      obtain ⟨j, rfl⟩ := mem_itm hx
      exact mul_ok (α := α) (β := χ) (by rw [Int.natAbs_neg]; exact Nat.le_trans (fdiv_abs _ _ hv) hr) (Nat.le_trans (hC j).2 (by omega)) hχ
theorem clear_sizeJ {n π α χ : Nat} (hπ : π < 9000) (hχ : α + χ + 2 ≤ 134217728) (r v : Vec) (i : Nat) (M a : Nat) (lr : r.length = n) (lv : v.length = n) (h0 : itm r i ≠ 0) (hp : (itm r i).natAbs ≤ 2 ^ π) (a1 : 1 ≤ a) (ha : (itm r i).natAbs ≤ a) (hav : (itm v i).natAbs ≤ a)
    (hC : ∀ j, (itm r j).natAbs ≤ M ∧ (itm v j).natAbs ≤ M) (hMχ : 4 * M * a ≤ 2 ^ χ) (haα : a ≤ 2 ^ α) : OkClr (itm v i).natAbs r v i := by
  have hM : M ≤ 4 * M * a := by
    have : 4 * M ≤ 4 * M * a := Nat.le_mul_of_pos_right _ a1
    omega
  by_cases hv : itm v i = 0
  · have e : (itm v i).natAbs = 0 := by rw [hv]; rfl
    rw [e]
    exact hv
  · obtain ⟨m, em⟩ : ∃ m, (itm v i).natAbs = m + 1 := ⟨(itm v i).natAbs - 1, by omega⟩
    rw [em]
    have l := lr.trans lv.symm
    have ei := itm_add (t := -((itm r i).fdiv (itm v i))) l i
    have q1 := euc_any (itm r i) (itm v i)
    have q2 := sign_rem (itm r i) (itm v i) hv
    have q3 := fdiv_small (itm r i) (itm v i) hv
    have hJ : JJ (2 ^ π) (itm r i) (itm v i) := .inl hp
    have q4 := hJ.step hv
    rw [← ei] at q1 q2 q3 q4
    have key : (M + ((itm r i).fdiv (itm v i)).natAbs * M) * (itm v i).natAbs + M * (itm (addV r (-((itm r i).fdiv (itm v i))) v) i).natAbs ≤ 4 * M * a := by
      have e1 : (M + ((itm r i).fdiv (itm v i)).natAbs * M) * (itm v i).natAbs + M * (itm (addV r (-((itm r i).fdiv (itm v i))) v) i).natAbs = M * ((itm v i).natAbs + ((itm r i).fdiv (itm v i)).natAbs * (itm v i).natAbs + (itm (addV r (-((itm r i).fdiv (itm v i))) v) i).natAbs) := by grind
      have e2 : 4 * M * a = M * (4 * a) := by grind
      rw [e1, e2]
      exact Nat.mul_le_mul_left _ (by omega)
    refine .inr ⟨hJ.div hπ hv, fun x hx => ?_, clr_sizeJ hπ hχ m v (addV r (-((itm r i).fdiv (itm v i))) v) i M (M + ((itm r i).fdiv (itm v i)).natAbs * M) (4 * M * a) lv ((addV_len l).trans lr) hv q2 q4 (fun j => ⟨(hC j).2, by rw [itm_add l]; exact step_abs (hC j).1 (hC j).2⟩) hM key (by omega) hMχ (by omega) (by omega)⟩
    obtain ⟨j, rfl⟩ := mem_itm hx
    exact mul_ok (α := α) (β := χ) (by rw [Int.natAbs_neg]; exact Nat.le_trans (fdiv_abs _ _ hv) (Nat.le_trans ha haα)) (Nat.le_trans (hC j).2 (by omega)) hχ
/-! ## the law's table, all along -/
def OkPut : Tab → Nat → Vec → Prop
  | [], _, _ => True
  | o :: os, p, v => (itm v p = 0 ∧ OkPut os (p + 1) v) ∨ (itm v p ≠ 0 ∧ match o with
    | none => True
    | some h => OkClr (itm v p).natAbs h v p ∧ OkPut os (p + 1) (clear h v p).2)
def OkPuts : Tab → List Vec → Prop
  | _, [] => True
  | t, v :: vs => OkPut t 0 v ∧ OkPuts (putL t 0 v) vs
def OkLeft : Tab → Nat → Vec → Prop
  | [], _, _ => True
  | none :: os, p, v => OkLeft os (p + 1) v
  | some h :: os, p, v => CDivZ (itm v p) (itm h p) ∧ (∀ m ∈ h, CMulX ((itm v p).fdiv (itm h p)) m) ∧ OkLeft os (p + 1) (addV v (-((itm v p).fdiv (itm h p))) h)
theorem okLeft_of {n : Nat} : ∀ {p : Nat} {t : Tab} {v : Vec}, EchT n p t → OkRed (rowsOf t) v → OkLeft t p v
  | _, [], _, _, _ => trivial
  | p, none :: os, v, h, ok => okLeft_of (t := os) h.2 ok
  | p, some r :: os, v, h, ok => by
    obtain ⟨a, b, c⟩ := h.1 r rfl
    obtain ⟨o1, o2, o3, o4⟩ : OkRed (r :: rowsOf os) v := ok
    rw [b] at o2 o3 o4
    exact ⟨o2, fun m hm => mul_neg (o3 m hm), okLeft_of (t := os) h.2 o4⟩
def dbl : Nat → Nat → Nat
  | 0, τ => τ
  | k + 1, τ => dbl k (2 * τ + 2)
theorem dbl_ge : ∀ (k τ : Nat), τ ≤ dbl k τ
  | 0, τ => Nat.le_refl _
  | k + 1, τ => Nat.le_trans (by omega) (dbl_ge k (2 * τ + 2))
theorem dbl_mono : ∀ (k τ : Nat), dbl k τ ≤ dbl (k + 1) τ
  | 0, τ => by show τ ≤ 2 * τ + 2; omega
  | k + 1, τ => dbl_mono k (2 * τ + 2)
theorem dbl_le {i j : Nat} (h : i ≤ j) (τ : Nat) : dbl i τ ≤ dbl j τ := by
  induction h with
  | refl => exact Nat.le_refl _
  | step _ ih => exact Nat.le_trans ih (dbl_mono _ _)
theorem putL_size {n π : Nat} (hπ : π < 9000) : ∀ {p : Nat} {t : Tab} {v : Vec} {τ : Nat}, EchT n p t → v.length = n → (∀ i, i < p → itm v i = 0) → (∀ s ∈ rowsOf t, (itm s (piv s)).natAbs ≤ 2 ^ π) → (∀ s ∈ rowsOf t, ∀ i, (itm s i).natAbs ≤ 2 ^ τ) → (∀ i, (itm v i).natAbs ≤ 2 ^ τ) → π ≤ τ →
    2 * dbl (rowsOf t).length τ + 4 ≤ 134217728 → OkPut t p v ∧ ∀ s ∈ rowsOf (putL t p v), ∀ i, (itm s i).natAbs ≤ 2 ^ dbl (rowsOf t).length τ
  | _, [], v, τ, _, _, _, _, _, _, _, _ => ⟨trivial, fun s h => nomatch h⟩
  | p, o :: os, v, τ, h, l, z, hp, hB, hv, hτ, hd => by
    by_cases e : itm v p = 0
    · have e2 : putL (o :: os) p v = o :: putL os (p + 1) v := by
        conv => lhs; unfold putL
        rw [if_pos e]
      rw [e2]
      cases o with
      | none =>
        have ih := putL_size hπ (t := os) h.2 l (zero_more z e) hp hB hv hτ hd
        exact ⟨.inl ⟨e, ih.1⟩, ih.2⟩
      | some r =>
        obtain ⟨hp1, hp2⟩ := List.forall_mem_cons.mp (show ∀ s ∈ r :: rowsOf os, _ from hp)
        obtain ⟨hB1, hB2⟩ := List.forall_mem_cons.mp (show ∀ s ∈ r :: rowsOf os, _ from hB)
        have dm := dbl_mono (rowsOf os).length τ
        have hd' : 2 * dbl ((rowsOf os).length + 1) τ + 4 ≤ 134217728 := hd
        have ih := putL_size hπ (t := os) h.2 l (zero_more z e) hp2 hB2 hv hτ (by omega)
        refine ⟨.inl ⟨e, ih.1⟩, ?_⟩
        show ∀ s ∈ r :: rowsOf (putL os (p + 1) v), ∀ i, (itm s i).natAbs ≤ 2 ^ dbl ((rowsOf os).length + 1) τ
        exact List.forall_mem_cons.mpr ⟨fun i => Nat.le_trans (hB1 i) (Lat.p2le (dbl_ge _ _)), fun s hs i => Nat.le_trans (ih.2 s hs i) (Lat.p2le dm)⟩
    · cases o with
      | none =>
        have e2 : putL (none :: os) p v = some (posAt v p) :: os := by
          conv => lhs; unfold putL
          rw [if_neg e]
        rw [e2]
        refine ⟨.inr ⟨e, trivial⟩, ?_⟩
        show ∀ s ∈ posAt v p :: rowsOf os, ∀ i, (itm s i).natAbs ≤ 2 ^ dbl (rowsOf os).length τ
        exact List.forall_mem_cons.mpr ⟨fun i => by rw [posAt_abs]; exact Nat.le_trans (hv i) (Lat.p2le (dbl_ge _ _)), fun s hs i => Nat.le_trans (hB s hs i) (Lat.p2le (dbl_ge _ _))⟩
      | some r =>
        obtain ⟨a, b, c⟩ := h.1 r rfl
        obtain ⟨q1, q2, q3, q4, q5⟩ := clear_at a l b c z
        have e2 : putL (some r :: os) p v = some (posAt (clear r v p).1 p) :: putL os (p + 1) (clear r v p).2 := by
          conv => lhs; unfold putL
          rw [if_neg e]
        rw [e2]
        obtain ⟨hp1, hp2⟩ := List.forall_mem_cons.mp (show ∀ s ∈ r :: rowsOf os, _ from hp)
        obtain ⟨hB1, hB2⟩ := List.forall_mem_cons.mp (show ∀ s ∈ r :: rowsOf os, _ from hB)
        rw [b] at hp1
        have hd' : 2 * dbl (rowsOf os).length (2 * τ + 2) + 4 ≤ 134217728 := hd
        have dg := dbl_ge (rowsOf os).length (2 * τ + 2)
        have e3 : 4 * 2 ^ τ * 2 ^ τ = 2 ^ (2 * τ + 2) := by rw [show 2 * τ + 2 = 2 + τ + τ by omega, Nat.pow_add, Nat.pow_add]
        have cz := clear_size (n := n) (α := 1) (χ := 1) (by decide) (by decide) r v p (fun _ => True) (2 ^ τ) (2 ^ τ) a l (by omega) (Nat.two_pow_pos _) (hB1 p) (hv p) fun j _ => ⟨hB1 j, hv j⟩
        rw [e3] at cz
        have ok := clear_sizeJ (n := n) (π := π) (α := τ) (χ := 2 * τ + 2) hπ (by omega) r v p (2 ^ τ) (2 ^ τ) a l (by omega) hp1 (Nat.two_pow_pos _) (hB1 p) (hv p) (fun j => ⟨hB1 j, hv j⟩) (Nat.le_of_eq e3) (Nat.le_refl _)
        have ih := putL_size hπ (t := os) (v := (clear r v p).2) (τ := 2 * τ + 2) h.2 q2 q5 hp2 (fun s hs i => Nat.le_trans (hB2 s hs i) (Lat.p2le (by omega))) (fun i => (cz.1 i trivial).2) (by omega) hd'
        refine ⟨.inr ⟨e, ok, ih.1⟩, ?_⟩
        show ∀ s ∈ posAt (clear r v p).1 p :: rowsOf (putL os (p + 1) (clear r v p).2), ∀ i, (itm s i).natAbs ≤ 2 ^ dbl (rowsOf os).length (2 * τ + 2)
        exact List.forall_mem_cons.mpr ⟨fun i => by rw [posAt_abs]; exact Nat.le_trans (cz.1 i trivial).1 (Lat.p2le dg), ih.2⟩
theorem putL_count : ∀ {t : Tab} {p : Nat} {v : Vec}, (rowsOf (putL t p v)).length ≤ (rowsOf t).length + 1
  | [], _, _ => Nat.zero_le _
  | o :: os, p, v => by
    unfold putL
    split
    · cases o with
      | none => exact putL_count (t := os)
      | some r => exact Nat.succ_le_succ (putL_count (t := os))
    · cases o with
      | none => exact Nat.le_refl _
      | some r => exact Nat.succ_le_succ (putL_count (t := os))
def sb : Nat → Nat
  | 0 => 500
  | j + 1 => dbl j (sb j)
structure InvT (n j : Nat) (t : Tab) : Prop where
  ech : EchT n 0 t
  gh : Gh 6 n (rowsOf t)
  count : (rowsOf t).length ≤ j
  size : ∀ s ∈ rowsOf t, ∀ i, (itm s i).natAbs ≤ 2 ^ sb j
theorem sb_le : ∀ j, j ≤ 4 → 500 ≤ sb j ∧ dbl j (sb j) ≤ 600000 := by
  intro j hj
  have : j = 0 ∨ j = 1 ∨ j = 2 ∨ j = 3 ∨ j = 4 := by omega
  rcases this with e | e | e | e | e <;> subst e <;> simp [sb, dbl]
theorem gbx_five : gbx 6 5 ≤ 454 := by decide
theorem put_inv {n j : Nat} {t : Tab} {v : Vec} (I : InvT n j t) (hj : j ≤ 4) (n5 : n ≤ 5) (l : v.length = n) (hv : ∀ i, (itm v i).natAbs ≤ 2 ^ 6) : OkPut t 0 v ∧ InvT n (j + 1) (putL t 0 v) := by
  have z : ∀ i, i < 0 → itm v i = 0 := fun i hi => absurd hi (Nat.not_lt_zero _)
  obtain ⟨s1, s2⟩ := sb_le j hj
  have pv : ∀ s ∈ rowsOf t, (itm s (piv s)).natAbs ≤ 2 ^ 454 := fun s hs => Nat.le_trans (I.gh.piv s hs) (Lat.p2le (Nat.le_trans (gbx_le n5) gbx_five))
  have dm := dbl_le I.count (sb j)
  have sz := putL_size (π := 454) (τ := sb j) (by decide) I.ech l z pv I.size (fun i => Nat.le_trans (hv i) (Lat.p2le (by omega))) (by omega) (by omega)
  have et := putL_tab I.ech l z
  refine ⟨sz.1, et, I.gh.step (by decide) et.ech l hv fun S C => putL_cl C I.ech l z, Nat.le_trans putL_count (Nat.succ_le_succ I.count), fun s hs i => Nat.le_trans (sz.2 s hs i) (Lat.p2le dm)⟩
theorem within6 {v : Vec} (w : Within 44 v) : ∀ i, (itm v i).natAbs ≤ 2 ^ 6 := fun i => by
  by_cases hi : i < v.length
  · have hm : itm v i ∈ v := List.mem_of_getElem? (itm_of hi)
    have := w _ hm
    show _ ≤ 64
    omega
  · rw [itm_out (by omega)]; exact Nat.zero_le _
theorem puts_inv {n : Nat} (n5 : n ≤ 5) : ∀ (rs : List Vec) (j : Nat) (t : Tab), InvT n j t → j + rs.length ≤ 5 → (∀ r ∈ rs, r.length = n ∧ Within 44 r) → OkPuts t rs ∧ InvT n (j + rs.length) (putsL t rs)
  | [], j, t, I, _, _ => ⟨trivial, I⟩
  | v :: vs, j, t, I, hj, h => by
    rw [List.length_cons] at hj ⊢
    obtain ⟨⟨l, w⟩, h2⟩ := List.forall_mem_cons.mp h
    obtain ⟨g1, g2⟩ := put_inv I (by omega) n5 l (within6 w)
    have ih := puts_inv n5 vs (j + 1) (putL t 0 v) g2 (by omega) h2
    refine ⟨⟨g1, ih.1⟩, ?_⟩
    have e : j + (vs.length + 1) = j + 1 + vs.length := by omega
    rw [e]; exact ih.2
def tab0 (n : Nat) : Tab := List.replicate n none
theorem invT0 (n : Nat) : InvT n 0 (tab0 n) := ⟨EchT.empty n n 0 (by omega), by unfold tab0; rw [rows_empty]; exact Gh.nil 6 n, by unfold tab0; rw [rows_empty]; exact Nat.le_refl _, by unfold tab0; rw [rows_empty]; exact fun s h => nomatch h⟩
end K06

namespace K06
open PySem L2 RZ Lat
/-- a list of ints -/
abbrev IsL (H : Hp) (a : Addr) (v : Vec) : Prop := H a = some (.lst (v.map V.int))
/-- a dict of rows by their places -/
def Tb (F : Addr → Prop) (H : Hp) (d : Addr) (L : Nat) (t : Tab) : Prop := ∃ kvs : List (Key × V), H d = some (.dK kvs) ∧ kvs.length ≤ L ∧ ∀ p : Nat, (∀ r, t[p]? = some (some r) → ∃ a, valV kvs (Sum.inl ((p : Nat) : Int)) = some (.ref a) ∧ F a ∧ IsL H a r) ∧ ((∀ r, t[p]? ≠ some (some r)) → valV kvs (Sum.inl ((p : Nat) : Int)) = none)
theorem putK_len {kvs : List (Key × V)} {k : Key} {v : V} : (putK kvs k v).length ≤ kvs.length + 1 := by
  unfold putK
  split
  · rw [List.length_map]; exact Nat.le_succ _
  · rw [List.length_append]; exact Nat.le_refl _
theorem Tb.but {F : Addr → Prop} {H H' : Hp} {b d : Addr} {L : Nat} {t : Tab} (hb : Box H b) (hF : ∀ a, F a → a ≠ b) (s : But b H H') (h : Tb F H d L t) : Tb F H' d L t := by
  obtain ⟨kvs, h1, h2, h3⟩ := h
  obtain ⟨y1, y2, y3, hb'⟩ := hb
  refine ⟨kvs, s _ _ (ne_of h1 hb' fun z => nomatch z) h1, h2, fun p => ⟨fun r hr => ?_, (h3 p).2⟩⟩
  obtain ⟨a, q1, q3, q2⟩ := (h3 p).1 r hr
  exact ⟨a, q1, q3, s _ _ (hF a q3) q2⟩
theorem Tb.keep {F : Addr → Prop} {H H' : Hp} {d : Addr} {L : Nat} {t : Tab} (s : Same H H') (h : Tb F H d L t) : Tb F H' d L t := by
  obtain ⟨kvs, h1, h2, h3⟩ := h
  refine ⟨kvs, s _ _ h1, h2, fun p => ⟨fun r hr => ?_, (h3 p).2⟩⟩
  obtain ⟨a, q1, q3, q2⟩ := (h3 p).1 r hr
  exact ⟨a, q1, q3, s _ _ q2⟩
theorem Tb.more {F : Addr → Prop} {H : Hp} {d : Addr} {L M : Nat} {t : Tab} (h : Tb F H d L t) (l : L ≤ M) : Tb F H d M t := by
  obtain ⟨kvs, h1, h2, h3⟩ := h
  exact ⟨kvs, h1, Nat.le_trans h2 l, h3⟩
theorem key_ne {p q : Nat} (h : p ≠ q) : (Sum.inl ((p : Nat) : Int) : Key) ≠ Sum.inl ((q : Nat) : Int) := fun z => h (by injection z with z; omega)
/-- a row is put at its place -/
theorem Tb.put {F : Addr → Prop} {H : Hp} {d a : Addr} {L p : Nat} {t : Tab} {r : Vec} {kvs : List (Key × V)} (h1 : H d = some (.dK kvs)) (h2 : kvs.length ≤ L)
    (h3 : ∀ p : Nat, (∀ r, t[p]? = some (some r) → ∃ a, valV kvs (Sum.inl ((p : Nat) : Int)) = some (.ref a) ∧ F a ∧ IsL H a r) ∧ ((∀ r, t[p]? ≠ some (some r)) → valV kvs (Sum.inl ((p : Nat) : Int)) = none)) (fa : F a) (ha : IsL H a r) (hp : p < t.length) :
    Tb F (upd H d (.dK (putK kvs (Sum.inl ((p : Nat) : Int)) (.ref a)))) d (L + 1) (t.set p (some r)) := by
  have keepL : ∀ b (v : Vec), IsL H b v → IsL (upd H d (.dK (putK kvs (Sum.inl ((p : Nat) : Int)) (.ref a)))) b v := fun b v q => (upd_ne (ne_of q h1 fun z => nomatch z)).trans q
  refine ⟨_, upd_same, Nat.le_trans putK_len (Nat.succ_le_succ h2), fun q => ?_⟩
  rw [valV_put]
  by_cases e : q = p
  · subst e
    rw [if_pos rfl, List.getElem?_set_self hp]
    refine ⟨fun s hs => ?_, fun hs => absurd rfl (hs r)⟩
    cases hs
    exact ⟨a, rfl, fa, keepL a r ha⟩
  · rw [if_neg (key_ne e), List.getElem?_set_ne (fun z => e z.symm)]
    refine ⟨fun s hs => ?_, (h3 q).2⟩
    obtain ⟨b, q1, q3, q2⟩ := (h3 q).1 s hs
    exact ⟨b, q1, q3, keepL b s q2⟩
theorem intL_at {v : Vec} {i : Nat} (h : i < v.length) : atI (v.map V.int) ((i : Nat) : Int) = some (V.int (itm v i)) := atI_nat (by rw [List.getElem?_map, itm_of h]; rfl)
theorem negV_map (v : Vec) : negV v = v.map fun n => 0 - n := rfl
theorem subV_eq (v w : Vec) (t : Int) : List.zipWith (fun a b : Int => a - t * b) v w = addV v (-t) w := by
  unfold addV
  congr 1
  funext a b
  rw [Int.neg_mul]; omega
theorem drop_at {t : Tab} {i : Nat} {o : Option Vec} (h : t[i]? = some o) : t.drop i = o :: t.drop (i + 1) := by
  have hlt := (List.getElem?_eq_some_iff.mp h).1
  rw [List.drop_eq_getElem_cons hlt, (List.getElem?_eq_some_iff.mp h).2]
theorem set_drop {t : Tab} {i : Nat} {o : Option Vec} : (t.set i o).drop (i + 1) = t.drop (i + 1) := by
  rw [List.drop_set]; rw [if_pos (Nat.lt_succ_self i)]
theorem set_take {t : Tab} {i : Nat} {o : Option Vec} (h : i < t.length) : (t.set i o).take (i + 1) = t.take i ++ [o] := by
  rw [List.take_add_one, List.getElem?_set_self h, List.take_set_of_le (Nat.le_refl i)]; rfl
section
variable {P : Program} {w : World} {K : PySem.W.Frag} {mg : Str → Option Value} {base : Heap}
abbrev s_law_put : Stmt := top 31
abbrev n_law_put : List Str := ["_law_known", "_law_row", "_law_left_here", "_law_place", "_law_here", "_law_times", "_law_rest", "_law_number_here", "_law_one", "_law_two"]
theorem sc_law_put : FnScope n_law_put ["_law_known", "_law_row"] (defScope s_law_put) := ⟨rfl, rfl, rfl, by decide +kernel, rfl, by decide +kernel, by decide +kernel⟩
def spPut : Sp := fun vs H Q _ => ∃ (F : Addr → Prop) (d b : Addr) (L : Nat) (t : Tab) (v : Vec), vs = [.ref d, .ref b] ∧ (∀ a, H a = none → F a) ∧ Tb F H d L t ∧ IsV H b v ∧ v.length = t.length ∧ (∀ r, some r ∈ t → r.length = v.length) ∧ v.length ≤ 1000 ∧ L ≤ 100000 ∧ OkPut t 0 v ∧ ∀ H', But d H H' → Tb F H' d (L + v.length) (putL t 0 v) → Q .non H'
theorem ok_put (T : Txt mg) (F : DefAt K mg "_law_put" s_law_put ["_law_known", "_law_row"]) : Has P w K mg base 1 "_law_put" ["_law_known", "_law_row"] spPut := by
  refine F.has sc_law_put (fun vs H Q E h => ?_) (fun f cdv A outer s H vs Q E hr h => ?_)
  · obtain ⟨F, d, b, L, t, v, rfl, _⟩ := h
    rfl
  · obtain ⟨F, d, b, L, t, v, rfl, hF, ht, hb, lt, wt, l1, hL, ok, k⟩ := h
    have hu := hu_of hr
    refine ⟨_, (pss_cons (ps_set (i := 2) sc_law_put.nd rfl (Or.inl rfl) (pe_callTy call_list_of (by rfl) T.z_list (by decide +kernel) (pa_cons (pv 1) pa_nil)))
      (pss_one (ps_for PassesOwn.never rfl (pi_range1 rfl T.z_range (pa_cons (pe_callB call_len (by rfl) T.z_len (by decide +kernel) (pa_cons (pv 2) pa_nil)) pa_nil)) (pg_name (i := 3) sc_law_put.nd rfl (Or.inl rfl)) (pss_cons (ps_if (PW.pt (pw_and (pt_cmpR op_ne (pe_ix ix_list (pv 2) (pv 3) (fun _ _ => rfl)) pe_int (nomark _)) (pw_and1 (pt_cmp (pc_dnotin hu (pv 3) (pv 0)))))) (pss_cons (ps_if (pt_cmpR op_lt (pe_ix ix_list (pv 2) (pv 3) (fun _ _ => rfl)) pe_int (nomark _)) (pss_one (ps_setLc (i := 2) (own := [("_law_number_here", 7)]) (g := gName 7) (by rfl) sc_law_put.nd rfl rfl (sw_true rfl rfl rfl (by decide +kernel)) (pi_list (pv 2)) (blkOk_by (own := [("_law_number_here", 7)]) (N := n_law_put) (sc := defScope s_law_put) (by decide +kernel)) (fun _ _ _ _ _ => (pg_name (i := 7) sc_law_put.nd rfl (Or.inl rfl))) (fun _ _ _ _ _ => pts_nil) (fun _ _ _ _ _ => (pe_op op_sub pe_int (pv 7))))) pss_nil)
      (pss_cons (ps_dput hu (pv 0) (pv 3) (pv 2) rfl)
      (pss_one ps_retN))) pss_nil)
      (pss_one (ps_if (pt_cmpR op_ne (pe_ix ix_list (pv 2) (pv 3) (fun _ _ => rfl)) pe_int (nomark _)) (pss_cons (ps_set (i := 4) sc_law_put.nd rfl (Or.inl rfl) (pe_dget hu (pv 0) (pv 3) (fun _ _ => rfl)))
      (pss_cons (ps_while PassesOwn.never (pt_cmpR op_ne (pe_ix ix_list (pv 2) (pv 3) (fun _ _ => rfl)) pe_int (nomark _)) (pss_cons (ps_set (i := 5) sc_law_put.nd rfl (Or.inr rfl) (pe_op op_fdivZ (pe_ix ix_list (pv 4) (pv 3) (fun _ _ => rfl)) (pe_ix ix_list (pv 2) (pv 3) (fun _ _ => rfl))))
      (pss_cons (ps_setLc (i := 6) (own := [("_law_one", 8), ("_law_two", 9)]) (g := gTup K 2 (gCons (gName 8) (gCons (gName 9) gNil))) (by rfl) sc_law_put.nd rfl rfl (sw_true rfl rfl rfl (by decide +kernel)) (pi_zipA (by rfl) T.z_zip (pa_cons (pv 4) (pa_cons (pv 2) pa_nil))) (blkOk_by (own := [("_law_one", 8), ("_law_two", 9)]) (N := n_law_put) (sc := defScope s_law_put) (by decide +kernel)) (fun _ _ _ _ _ => (pg_tup rfl (pgs_cons (pg_name (i := 8) sc_law_put.nd rfl (Or.inl rfl)) (pgs_cons (pg_name (i := 9) sc_law_put.nd rfl (Or.inl rfl)) pgs_nil)))) (fun _ _ _ _ _ => pts_nil) (fun _ _ _ _ _ => (pe_op op_sub (pv 8) (pe_op op_mulX (pv 5) (pv 9)))))
      (pss_one (ps_par (i := 4) (j := 2) (by rfl) sc_law_put.nd rfl rfl (by decide) rfl rfl (pa_cons (pv 2) (pa_cons (pv 6) pa_nil)) (by rfl))))))
      (C8.pss_cut (ps_if (pt_cmpR op_lt (pe_ix ix_list (pv 4) (pv 3) (fun _ _ => rfl)) pe_int (nomark _)) (pss_one (ps_setLc (i := 4) (own := [("_law_number_here", 7)]) (g := gName 7) (by rfl) sc_law_put.nd rfl rfl (sw_true rfl rfl rfl (by decide +kernel)) (pi_list (pv 4)) (blkOk_by (own := [("_law_number_here", 7)]) (N := n_law_put) (sc := defScope s_law_put) (by decide +kernel)) (fun _ _ _ _ _ => (pg_name (i := 7) sc_law_put.nd rfl (Or.inl rfl))) (fun _ _ _ _ _ => pts_nil) (fun _ _ _ _ _ => (pe_op op_sub pe_int (pv 7))))) pss_nil)
      (pss_one (ps_dput hu (pv 0) (pv 3) (pv 4) rfl))))) pss_nil)))))), ?_⟩
    refine ⟨_, rfl, b, _, rfl, .inr (SqT.of hb), fun l0 hl0 => ?_⟩
    obtain ⟨s0, hl0'⟩ := new_at (o := .lst (v.map V.int)) hl0
    have lm : ∀ u : Vec, (u.map V.int).length = u.length := fun u => List.length_map ..
    refine ⟨_, rfl, _, _, rfl, .inl ⟨_, SqL.of hl0', rfl⟩, ?_⟩
    rw [lm]
    refine ⟨_, rfl, by omega, by omega, for_range (lo := 0) (n := v.length) (fun i σ H' => ∃ (l : Addr) (u : Vec) (cur : Tab) (x3 x4 x5 x6 x7 x8 x9 : Option V), σ = [some (.ref d), some (.ref b), some (.ref l), x3, x4, x5, x6, x7, x8, x9] ∧ But d H H' ∧ F l ∧ IsL H' l u ∧ u.length = v.length ∧
      Tb F H' d (L + i) cur ∧ cur.length = t.length ∧ (∀ r, some r ∈ cur → r.length = v.length) ∧ OkPut (cur.drop i) i u ∧ cur.take i ++ putL (cur.drop i) i u = putL t 0 v) ⟨l0, v, t, _, _, _, _, _, _, _, rfl, Same.but s0, hF _ hl0, hl0', rfl, ht.keep s0, rfl, wt, ok, rfl⟩ ?_ ?_⟩
    · rintro i σ H1 hi ⟨l, u, cur, x3, x4, x5, x6, x7, x8, x9, rfl, bu, fl, hl, lu, htb, lc, wc, okc, ec⟩
      have ei : (0 : Int) + ((i : Nat) : Int) = ((i : Nat) : Int) := by omega
      have hiu : i < u.length := by omega
      obtain ⟨o, eo⟩ : ∃ o, cur[i]? = some o := ⟨_, List.getElem?_eq_getElem (by omega)⟩
      have ed := drop_at eo
      rw [ed] at okc ec
      show gName 3 (V.int (0 + ((i : Nat) : Int))) _ _ _
      rw [ei]
      refine ⟨_, rfl, _, rfl, l, _, _, _, rfl, rfl, SqL.of hl, intL_at hiu, rfl, _, rfl, ?_⟩
      by_cases h0 : itm u i = 0
      · -- a zero: on
        rcases okc with ⟨_, okn⟩ | ⟨hz, _⟩
        · have ep : putL (o :: cur.drop (i + 1)) i u = o :: putL (cur.drop (i + 1)) (i + 1) u := by
            conv => lhs; unfold putL
            rw [if_pos h0]
          rw [ep] at ec
          show if (!decide (V.int (itm u i) = V.int 0)) = true then _ else _
          rw [h0, decide_eq_true rfl]
          refine ⟨_, rfl, _, rfl, l, _, _, _, rfl, rfl, SqL.of hl, intL_at hiu, rfl, _, rfl, ?_⟩
          show if (!decide (V.int (itm u i) = V.int 0)) = true then _ else _
          rw [h0, decide_eq_true rfl]
          refine ⟨l, u, cur, _, _, _, _, _, _, _, rfl, bu, fl, hl, lu, htb.more (by omega), lc, wc, okn, ?_⟩
          rw [List.take_add_one, eo, List.append_assoc]; exact ec
        · exact absurd h0 hz
      · show if (!decide (V.int (itm u i) = V.int 0)) = true then _ else _
        rw [decide_eq_false (fun z => h0 (V.int.inj z))]
        obtain ⟨kvs, hd, hk, hv⟩ := id htb
        have hF1 : ∀ {H2 : Hp} {c : Addr}, Same H1 H2 → H2 c = none → F c := fun {H2 c} s2 hc => hF _ (by
          cases q : H c with
          | none => rfl
          | some o =>
            have ncd : c ≠ d := fun z => by rw [z, s2 _ _ hd] at hc; cases hc
            rw [s2 _ _ (bu c o ncd q)] at hc; cases hc)
        have upL : ∀ {H' : Hp} {kvs' : List (Key × V)} {c : Addr} {z : Vec}, H' d = some (.dK kvs) → IsL H' c z → IsL (upd H' d (.dK kvs')) c z := fun hd' q => (upd_ne (ne_of q hd' fun z => nomatch z)).trans q
        cases o with
        | none =>
          have vn : valV kvs (Sum.inl ((i : Nat) : Int)) = none := (hv i).2 fun r q => by rw [eo] at q; cases q
          have ep : putL (none :: cur.drop (i + 1)) i u = some (posAt u i) :: cur.drop (i + 1) := by
            conv => lhs; unfold putL
            rw [if_neg h0]
          rw [ep] at ec
          have eset : cur.set i (some (posAt u i)) = putL t 0 v := by rw [List.set_eq_take_append_cons_drop, if_pos (by omega)]; exact ec
          refine ⟨_, rfl, _, rfl, d, _, rfl, DGet.k (k := Sum.inl ((i : Nat) : Int)) hd, _, rfl, ?_⟩
          rw [vn]
          refine ⟨_, rfl, _, rfl, l, _, _, _, rfl, rfl, SqL.of hl, intL_at hiu, _, _, rfl, rfl, _, rfl, ?_⟩
          have fin : ∀ (H2 : Hp) (c : Addr), Same H1 H2 → F c → IsL H2 c (posAt u i) → Q .non (upd H2 d (.dK (putK kvs (Sum.inl ((i : Nat) : Int)) (.ref c)))) := fun H2 c s2 fc hc => by
            have q := Tb.put (p := i) (s2 _ _ hd) hk (fun p => ⟨fun r hr => by obtain ⟨a, z1, z3, z2⟩ := (hv p).1 r hr; exact ⟨a, z1, z3, s2 _ _ z2⟩, (hv p).2⟩) fc hc (by omega)
            rw [eset] at q
            exact k _ (fun y o ny z => by rw [upd_ne ny]; exact s2 _ _ (bu y o ny z)) (q.more (by omega))
          have len : kvs.length < sizeLine := Nat.lt_of_le_of_lt (Nat.le_trans hk (by omega : L + i ≤ 200000)) (by decide)
          by_cases neg : itm u i < 0
          · show if decide (itm u i < 0) = true then _ else _
            rw [decide_eq_true neg]
            refine ⟨_, rfl, l, rfl, ⟨_, SqL.of hl⟩, fun D hD => lc_it (walk_list (xs := u.map V.int)) (fun j H' => Same H1 H' ∧ H' D = some (.lst (((negV u).take j).map V.int))) ⟨(new_at hD).1, upd_same⟩ (fun j H' _ q => SqL.of (q.1 _ _ hl)) ?_ ?_⟩
            · rintro j y H' H'' hj ⟨sm, hD'⟩ ⟨rfl, ey⟩
              obtain ⟨n, en, rfl⟩ := map_at ey
              refine ⟨rfl, ?_⟩
              refine ⟨_, rfl, _, _, rfl, rfl, ?_⟩
              refine ⟨_, hD', by rw [List.length_map, List.length_take, negV_len]; exact Nat.lt_of_le_of_lt (Nat.le_trans (Nat.min_le_right _ _) (by omega : u.length ≤ 1000)) (by decide), fun y o z => ?_, ?_⟩
              · rw [upd_ne (ne_of_none z hD)]
                exact sm _ _ z
              · rw [upd_same, take_snoc (n := 0 - n)]
                rw [negV_map, List.getElem?_map, en]; rfl
            · rintro H2 ⟨s2, hD2⟩
              rw [lm, ← negV_len u, List.take_length] at hD2
              have hp : posAt u i = negV u := by unfold posAt; rw [if_pos neg]
              refine ⟨_, rfl, _, rfl, _, rfl, d, _, rfl, DPut.k (k := Sum.inl ((i : Nat) : Int)) (s2 _ _ hd) len, ?_⟩
              exact fin H2 D s2 (hF1 (Same.refl _) hD) (by rw [hp]; exact hD2)
          · show if decide (itm u i < 0) = true then _ else _
            rw [decide_eq_false neg]
            have hp : posAt u i = u := by unfold posAt; rw [if_neg neg]
            refine ⟨_, rfl, _, rfl, _, rfl, d, _, rfl, DPut.k (k := Sum.inl ((i : Nat) : Int)) hd len, ?_⟩
            exact fin H1 l (Same.refl _) fl (by rw [hp]; exact hl)
        | some r =>
          obtain ⟨a, vs1, fa, ha⟩ := (hv i).1 r eo
          have ep : putL (some r :: cur.drop (i + 1)) i u = some (posAt (clear r u i).1 i) :: putL (cur.drop (i + 1)) (i + 1) (clear r u i).2 := by
            conv => lhs; unfold putL
            rw [if_neg h0]
          rw [ep] at ec
          rcases okc with ⟨hz, _⟩ | ⟨_, okr, okn⟩
          · exact absurd hz h0
          refine ⟨_, rfl, _, rfl, d, _, rfl, DGet.k (k := Sum.inl ((i : Nat) : Int)) hd, _, rfl, ?_⟩
          rw [vs1]
          refine ⟨_, rfl, _, rfl, l, _, _, _, rfl, rfl, SqL.of hl, intL_at hiu, rfl, _, rfl, ?_⟩
          show if (!decide (V.int (itm u i) = V.int 0)) = true then _ else _
          rw [decide_eq_false (fun z => h0 (V.int.inj z))]
          refine ⟨_, rfl, _, rfl, d, .ref a, rfl, by rw [← vs1]; exact DGet.k (k := Sum.inl ((i : Nat) : Int)) hd, ?_⟩
          have lr : r.length = v.length := wc r (List.mem_of_getElem? eo)
          refine ⟨fun m σ H' => ∃ (x y : Addr) (r' v' : Vec) (x5 x6 x7 x8 x9 : Option V), σ = [some (.ref d), some (.ref b), some (.ref y), some (.int ((i : Nat) : Int)), some (.ref x), x5, x6, x7, x8, x9] ∧ Same H1 H' ∧ F x ∧ F y ∧ IsL H' x r' ∧ IsL H' y v' ∧ r'.length = v.length ∧ v'.length = v.length ∧ OkClr m r' v' i ∧ clr m r' v' i = clear r u i, ⟨_, a, l, r, u, _, _, _, _, _, rfl, Same.refl _, fa, fl, ha, hl, lr, lu, okr, rfl⟩, ?_⟩
          rintro m σ H' ⟨x, y, r', v', x5, x6, x7, x8, x9, rfl, sm, fx, fy, hx, hy, lr', lv', ok', e'⟩
          have hiv : i < v'.length := by omega
          refine ⟨_, rfl, _, rfl, y, _, _, _, rfl, rfl, SqL.of hy, intL_at hiv, rfl, _, rfl, ?_⟩
          by_cases z0 : itm v' i = 0
          · have e2 : clr m r' v' i = (r', v') := by
              cases m with
              | zero => rfl
              | succ m => unfold clr; rw [if_pos z0]
            rw [e2] at e'
            have er : r' = (clear r u i).1 := by rw [← e']
            have ev : v' = (clear r u i).2 := by rw [← e']
            show if (!decide (V.int (itm v' i) = V.int 0)) = true then _ else _
            rw [z0, decide_eq_true rfl]
            refine ⟨fun σ H2 => ∃ (c : Addr) (x5 x6 x7 x8 x9 : Option V), σ = [some (.ref d), some (.ref b), some (.ref y), some (.int ((i : Nat) : Int)), some (.ref c), x5, x6, x7, x8, x9] ∧ Same H' H2 ∧ F c ∧ IsL H2 c (posAt (clear r u i).1 i), ?_, ?_⟩
            · -- the sign
              have hir : i < r'.length := by omega
              refine ⟨_, rfl, _, rfl, x, _, _, _, rfl, rfl, SqL.of hx, intL_at hir, _, _, rfl, rfl, _, rfl, ?_⟩
              by_cases neg : itm r' i < 0
              · show if decide (itm r' i < 0) = true then _ else _
                rw [decide_eq_true neg]
                refine ⟨_, rfl, x, rfl, ⟨_, SqL.of hx⟩, fun D hD => lc_it (walk_list (xs := r'.map V.int)) (fun j H2 => Same H' H2 ∧ H2 D = some (.lst (((negV r').take j).map V.int))) ⟨(new_at hD).1, upd_same⟩ (fun j H2 _ q => SqL.of (q.1 _ _ hx)) ?_ ?_⟩
                · rintro j z H2 H'' hj ⟨sm2, hD'⟩ ⟨rfl, ey⟩
                  obtain ⟨n, en, rfl⟩ := map_at ey
                  refine ⟨rfl, ?_⟩
                  refine ⟨_, rfl, _, _, rfl, rfl, ?_⟩
                  refine ⟨_, hD', by rw [List.length_map, List.length_take, negV_len]; exact Nat.lt_of_le_of_lt (Nat.le_trans (Nat.min_le_right _ _) (by omega : r'.length ≤ 1000)) (by decide), fun y o z => ?_, ?_⟩
                  · rw [upd_ne (ne_of_none z hD)]
                    exact sm2 _ _ z
                  · rw [upd_same, take_snoc (n := 0 - n)]
                    rw [negV_map, List.getElem?_map, en]; rfl
                · rintro H2 ⟨s2, hD2⟩
                  rw [lm, ← negV_len r', List.take_length] at hD2
                  have hp : posAt (clear r u i).1 i = negV r' := by rw [← er]; unfold posAt; rw [if_pos neg]
                  exact ⟨D, _, _, _, _, _, rfl, s2, hF1 sm hD, by rw [hp]; exact hD2⟩
              · show if decide (itm r' i < 0) = true then _ else _
                rw [decide_eq_false neg]
                have hp : posAt (clear r u i).1 i = r' := by rw [← er]; unfold posAt; rw [if_neg neg]
                exact ⟨x, _, _, _, _, _, rfl, Same.refl _, fx, by rw [hp]; exact hx⟩
            · rintro σ H2 ⟨c, x5, x6, x7, x8, x9, rfl, s2, fc, hc⟩
              have s12 := sm.trans s2
              have len : kvs.length < sizeLine := Nat.lt_of_le_of_lt (Nat.le_trans hk (by omega : L + i ≤ 200000)) (by decide)
              refine ⟨_, rfl, _, rfl, _, rfl, d, _, rfl, DPut.k (k := Sum.inl ((i : Nat) : Int)) (s12 _ _ hd) len, ?_⟩
              have q := Tb.put (p := i) (s12 _ _ hd) hk (fun p => ⟨fun r hr => by obtain ⟨a, z1, z3, z2⟩ := (hv p).1 r hr; exact ⟨a, z1, z3, s12 _ _ z2⟩, (hv p).2⟩) fc hc (by omega)
              refine ⟨y, v', _, _, _, _, _, _, _, _, rfl, fun z o nz w => by rw [upd_ne nz]; exact s12 _ _ (bu z o nz w), fy, upL (s12 _ _ hd) (s2 _ _ hy), lv', q, by rw [List.length_set]; exact lc, fun s hs => ?_, ?_, ?_⟩
              · rcases List.mem_or_eq_of_mem_set hs with hs | hs
                · exact wc s hs
                · cases hs
                  rw [posAt_len, ← er]; exact lr'
              · rw [set_drop, ev]; exact okn
              · rw [set_drop, set_take (by omega), List.append_assoc, ev]; exact ec
          · show if (!decide (V.int (itm v' i) = V.int 0)) = true then _ else _
            rw [decide_eq_false (fun z => z0 (V.int.inj z))]
            cases m with
            | zero => exact absurd ok' z0
            | succ m =>
              obtain ok' | ⟨o1, o2, o3⟩ := ok'
              · exact absurd ok' z0
              · have e3 : clr (m + 1) r' v' i = clr m v' (addV r' (-((itm r' i).fdiv (itm v' i))) v') i := by rw [clr, if_neg z0]
                rw [e3] at e'
                have hir : i < r'.length := by omega
                refine ⟨fun σ2 H2 => ∃ (x y : Addr) (r' v' : Vec) (x5 x6 x7 x8 x9 : Option V), σ2 = [some (.ref d), some (.ref b), some (.ref y), some (.int ((i : Nat) : Int)), some (.ref x), x5, x6, x7, x8, x9] ∧ Same H1 H2 ∧ F x ∧ F y ∧ IsL H2 x r' ∧ IsL H2 y v' ∧ r'.length = v.length ∧ v'.length = v.length ∧ OkClr m r' v' i ∧ clr m r' v' i = clear r u i, fun σ2 H2 q => ⟨m, Nat.lt_succ_self m, q⟩, ?_⟩
                refine ⟨_, rfl, _, rfl, x, _, _, _, rfl, rfl, SqL.of hx, intL_at hir, _, rfl, _, rfl, y, _, _, _, rfl, rfl, SqL.of hy, intL_at hiv, _, _, rfl, rfl, o1, ?_⟩
                have ln : min (r'.map V.int).length (v'.map V.int).length = v.length := by rw [lm, lm, lr', lv', Nat.min_self]
                have la : (addV r' (-((itm r' i).fdiv (itm v' i))) v').length = v.length := (addV_len (lr'.trans lv'.symm)).trans lr'
                refine ⟨_, rfl, _, rfl, x, y, _, _, rfl, .inl ⟨SqL.of hx, SqL.of hy, fun D hD => lc_it (walk_zip (xs := r'.map V.int) (ys := v'.map V.int) ln.symm) (fun j H2 => Same H' H2 ∧ H2 D = some (.lst (((addV r' (-((itm r' i).fdiv (itm v' i))) v').take j).map V.int))) ⟨(new_at hD).1, upd_same⟩ (fun j H2 _ q => ⟨SqL.of (q.1 _ _ hx), SqL.of (q.1 _ _ hy)⟩) ?_ ?_⟩⟩
                · rintro j z H2 H'' hj ⟨sm2, hD'⟩ ⟨q, y1, y2, rfl, hq, rfl, e1, e2⟩
                  obtain ⟨n1, en1, rfl⟩ := map_at e1
                  obtain ⟨n2, en2, rfl⟩ := map_at e2
                  refine ⟨q, _, rfl, SqT.of upd_same, rfl, _, _, rfl, _, _, rfl, rfl, rfl, ?_⟩
                  refine ⟨_, rfl, _, rfl, _, rfl, _, _, rfl, rfl, mul_neg (o2 n2 (List.mem_of_getElem? en2)), _, _, rfl, rfl, ?_⟩
                  have nDq : D ≠ q := ne_of_none hD' hq
                  refine ⟨_, (upd_ne nDq).trans hD', by rw [List.length_map, List.length_take]; exact Nat.lt_of_le_of_lt (Nat.le_trans (Nat.min_le_right _ _) (la ▸ l1)) (by decide), fun y o z => ?_, ?_⟩
                  · rw [upd_ne (ne_of_none z hD)]
                    exact (new_at hq).1 _ _ (sm2 _ _ z)
                  · rw [upd_same, take_snoc (n := n1 - (itm r' i).fdiv (itm v' i) * n2)]
                    rw [← subV_eq, List.getElem?_zipWith, en1, en2]
                · rintro H2 ⟨s2, hD2⟩
                  rw [take_all la] at hD2
                  exact ⟨_, rfl, _, rfl, _, _, rfl, y, D, _, _, _, _, _, _, _, rfl, sm.trans s2, fy, hF1 sm hD, s2 _ _ hy, hD2, lv', la, o3, e'⟩
    · rintro σ H1 ⟨l, u, cur, x3, x4, x5, x6, x7, x8, x9, rfl, bu, fl, hl, lu, htb, lc, wc, okc, ec⟩
      have e1 : cur.drop v.length = [] := List.drop_of_length_le (by omega)
      have e2 : cur.take v.length = cur := List.take_of_length_le (by omega)
      rw [e1, e2] at ec
      have e3 : cur = putL t 0 v := by rw [← ec]; exact (List.append_nil cur).symm
      rw [← e3] at k
      exact k _ bu htb
end
end K06

namespace Lat
theorem EchT.wid {n : Nat} : ∀ {p : Nat} {t : Tab}, EchT n p t → ∀ r, some r ∈ t → r.length = n
  | _, [], _ => fun r h => nomatch h
  | p, o :: os, e => fun r h => by
    rcases List.mem_cons.mp h with z | h
    · exact (e.1 r z.symm).1
    · exact EchT.wid e.2 r h
end Lat
namespace K06
open PySem L2 RZ Lat
theorem Tb.new {F : Addr → Prop} {H : Hp} {d : Addr} (h : H d = none) (n : Nat) : Tb F (upd H d (.dK [])) d 0 (tab0 n) :=
  ⟨[], upd_same, Nat.le_refl _, fun p => ⟨fun r e => (by
    unfold tab0 at e
    rw [List.getElem?_replicate] at e
    by_cases h : p < n
    · rw [if_pos h] at e; cases e
    · rw [if_neg h] at e; cases e), fun _ => rfl⟩⟩
theorem intsD_shaped (v : Vec) : SeqAt.shaped (.list (v.map PyData.int)) = true := by
  have h1 : ∀ v : Vec, PyData.canLayAll0 (v.map PyData.int) = true ∧ PyData.depthAll (v.map PyData.int) = 0 := by
    intro v
    induction v with
    | nil => exact ⟨rfl, rfl⟩
    | cons n v ih => exact ⟨by simp only [List.map_cons, PyData.canLayAll0, PyData.canLay0, ih.1, Bool.and_self], by simp only [List.map_cons, PyData.depthAll, PyData.depth, ih.2]; rfl⟩
  show (PyData.canLay0 (.list (v.map PyData.int)) && decide (PyData.depth (.list (v.map PyData.int)) ≤ 64)) = true
  rw [Bool.and_eq_true]
  exact ⟨by simp only [PyData.canLay0]; exact (h1 v).1, decide_eq_true (by simp only [PyData.depth, (h1 v).2]; decide)⟩
theorem nils_eqv (v : Vec) : PyData.eqv (.list (v.map PyData.int)) (.list []) = decide (v = []) := by
  cases v with
  | nil => decide +kernel
  | cons n v => simp [PyData.eqv, PyData.eqvAll]
theorem filter_nil (u : Vec) : u.filter (fun n => decide (n ≠ 0)) = [] ↔ piv u = u.length := by
  rw [List.filter_eq_nil_iff]
  constructor
  · intro h
    refine zero_all rfl fun i hi => ?_
    have := h _ (List.mem_of_getElem? (itm_of hi))
    simpa using this
  · intro h n hn
    obtain ⟨i, rfl⟩ := mem_itm hn
    simp [Lat.itm_zero h i]
section
variable {P : Program} {w : World} {K : PySem.W.Frag} {mg : Str → Option Value} {base : Heap}
abbrev s_law_echelon : Stmt := top 32
abbrev n_law_echelon : List Str := ["_law_rows_here", "_law_known", "_law_row"]
theorem sc_law_echelon : FnScope n_law_echelon ["_law_rows_here"] (defScope s_law_echelon) := ⟨rfl, rfl, rfl, by decide +kernel, rfl, by decide +kernel, by decide +kernel⟩
def spEchelon : Sp := fun vs H Q _ => ∃ (F : Addr → Prop) (l : Addr) (n : Nat) (as : List V) (rs : List Vec), vs = [.ref l] ∧ (∀ a, H a = none → F a) ∧ H l = some (.lst as) ∧ Rows H n as rs ∧ n ≤ 1000 ∧ rs.length * n ≤ 100000 ∧ OkPuts (tab0 n) rs ∧ ∀ (H' : Hp) (d : Addr), Same H H' → Tb F H' d (rs.length * n) (putsL (tab0 n) rs) → Q (.ref d) H'
theorem ok_echelon (T : Txt mg) (g_law_put : Has P w K mg base 1 "_law_put" ["_law_known", "_law_row"] spPut) (F : DefAt K mg "_law_echelon" s_law_echelon ["_law_rows_here"]) : Has P w K mg base 2 "_law_echelon" ["_law_rows_here"] spEchelon := by
  refine F.has sc_law_echelon (fun vs H Q E h => ?_) (fun f cdv A outer s H vs Q E hr h => ?_)
  · obtain ⟨F, l, n, as, rs, rfl, _⟩ := h
    rfl
  · obtain ⟨F, l, n, as, rs, rfl, hF, hl, hrs, n1, hL, ok, k⟩ := h
    refine ⟨_, (pss_cons (ps_set (i := 1) sc_law_echelon.nd rfl (Or.inl rfl) pe_dnewK)
      (pss_cons (ps_for PassesOwn.never rfl (pi_list (pv 0)) (pg_name (i := 2) sc_law_echelon.nd rfl (Or.inl rfl)) (pss_one (ps_expr (pe_callHas g_law_put (hr.mono (by decide)) rfl (pa_cons (pv 1) (pa_cons (pv 2) pa_nil))))))
      (pss_one (ps_ret (pv 1))))), ?_⟩
    refine fun d hd => ?_
    obtain ⟨s0, hd0⟩ := new_at (o := .dK []) hd
    refine ⟨_, rfl, l, rfl, ⟨_, SqL.of (s0 _ _ hl)⟩, for_it (walk_list (xs := as)) (fun i σ H' => ∃ (x2 : Option V) (cur : Tab), σ = [some (.ref l), some (.ref d), x2] ∧ Same H H' ∧ Tb F H' d (i * n) cur ∧ EchT n 0 cur ∧ OkPuts cur (rs.drop i) ∧ putsL cur (rs.drop i) = putsL (tab0 n) rs)
      ⟨_, _, rfl, s0, by rw [Nat.zero_mul]; exact Tb.new hd n, (invT0 n).ech, ok, rfl⟩ (fun i σ H' _ q => SqL.of ((show Same H H' from by obtain ⟨_, _, _, sm, _⟩ := q; exact sm) _ _ hl)) ?_ ?_⟩
    · rintro i y σ H' H'' hi ⟨x2, cur, rfl, sm, tb, ec, okc, e⟩ ⟨rfl, ex⟩
      obtain ⟨a, r, er, rfl, hr0, lr⟩ := (hrs.keep sm).at ex
      have hlt := (List.getElem?_eq_some_iff.mp er).1
      have ed : rs.drop i = r :: rs.drop (i + 1) := by
        rw [List.drop_eq_getElem_cons hlt, (List.getElem?_eq_some_iff.mp er).2]
      rw [ed] at okc e
      obtain ⟨o1, o2⟩ := okc
      have lc := ec.len
      have hin : i * n ≤ 100000 := Nat.le_trans (Nat.mul_le_mul_right n (Nat.le_of_lt hlt)) hL
      refine ⟨_, rfl, _, rfl, F, d, a, i * n, cur, r, rfl, fun c hc => hF c (by
        cases q : H c with
        | none => rfl
        | some o => rw [sm _ _ q] at hc; cases hc), tb, hr0, by omega, fun s hs => (ec.wid s hs).trans lr.symm, by omega, hin, o1, fun H2 bu tb2 => ?_⟩
      refine ⟨_, _, rfl, fun y o z => bu y o (ne_of_none z hd) (sm _ _ z), ?_, putL_tab ec lr fun i hi => absurd hi (Nat.not_lt_zero _), o2, e⟩
      rw [Nat.add_mul, Nat.one_mul, ← lr]
      rw [← lr] at tb2
      exact tb2
    · rintro σ H' ⟨x2, cur, rfl, sm, tb, ec, okc, e⟩
      rw [hrs.len, List.drop_length] at e
      have e' : cur = putsL (tab0 n) rs := e
      rw [hrs.len] at tb
      rw [e'] at tb
      exact ⟨_, rfl, k _ d sm tb⟩
abbrev s_law_left : Stmt := top 33
abbrev n_law_left : List Str := ["_law_known", "_law_row", "_law_left_here", "_law_place", "_law_here", "_law_times", "_law_one", "_law_two"]
theorem sc_law_left : FnScope n_law_left ["_law_known", "_law_row"] (defScope s_law_left) := ⟨rfl, rfl, rfl, by decide +kernel, rfl, by decide +kernel, by decide +kernel⟩
def spLeft : Sp := fun vs H Q _ => ∃ (F : Addr → Prop) (d b : Addr) (L : Nat) (t : Tab) (v : Vec), vs = [.ref d, .ref b] ∧ Tb F H d L t ∧ IsV H b v ∧ v.length = t.length ∧ (∀ r, some r ∈ t → r.length = v.length) ∧ v.length ≤ 1000 ∧ OkLeft t 0 v ∧ ∀ (H' : Hp) (l : Addr), Same H H' → IsL H' l (leftL t 0 v) → (leftL t 0 v).length = v.length → Q (.ref l) H'
theorem ok_left (T : Txt mg) (F : DefAt K mg "_law_left" s_law_left ["_law_known", "_law_row"]) : Has P w K mg base 1 "_law_left" ["_law_known", "_law_row"] spLeft := by
  refine F.has sc_law_left (fun vs H Q E h => ?_) (fun f cdv A outer s H vs Q E hr h => ?_)
  · obtain ⟨F, d, b, L, t, v, rfl, _⟩ := h
    rfl
  · obtain ⟨F, d, b, L, t, v, rfl, ht, hb, lt, wt, l1, ok, k⟩ := h
    have hu := hu_of hr
    refine ⟨_, (pss_cons (ps_set (i := 2) sc_law_left.nd rfl (Or.inl rfl) (pe_callTy call_list_of (by rfl) T.z_list (by decide +kernel) (pa_cons (pv 1) pa_nil)))
      (pss_cons (ps_for PassesOwn.never rfl (pi_range1 rfl T.z_range (pa_cons (pe_callB call_len (by rfl) T.z_len (by decide +kernel) (pa_cons (pv 2) pa_nil)) pa_nil)) (pg_name (i := 3) sc_law_left.nd rfl (Or.inl rfl)) (pss_one (ps_if (pt_cmp (pc_din hu (pv 3) (pv 0))) (pss_cons (ps_set (i := 4) sc_law_left.nd rfl (Or.inl rfl) (pe_dget hu (pv 0) (pv 3) (fun _ _ => rfl)))
      (pss_cons (ps_set (i := 5) sc_law_left.nd rfl (Or.inr rfl) (pe_op op_fdivZ (pe_ix ix_list (pv 2) (pv 3) (fun _ _ => rfl)) (pe_ix ix_list (pv 4) (pv 3) (fun _ _ => rfl))))
      (pss_one (ps_setLc (i := 2) (own := [("_law_one", 6), ("_law_two", 7)]) (g := gTup K 2 (gCons (gName 6) (gCons (gName 7) gNil))) (by rfl) sc_law_left.nd rfl rfl (sw_true rfl rfl rfl (by decide +kernel)) (pi_zipA (by rfl) T.z_zip (pa_cons (pv 2) (pa_cons (pv 4) pa_nil))) (blkOk_by (own := [("_law_one", 6), ("_law_two", 7)]) (N := n_law_left) (sc := defScope s_law_left) (by decide +kernel)) (fun _ _ _ _ _ => (pg_tup rfl (pgs_cons (pg_name (i := 6) sc_law_left.nd rfl (Or.inl rfl)) (pgs_cons (pg_name (i := 7) sc_law_left.nd rfl (Or.inl rfl)) pgs_nil)))) (fun _ _ _ _ _ => pts_nil) (fun _ _ _ _ _ => (pe_op op_sub (pv 6) (pe_op op_mulX (pv 5) (pv 7)))))))) pss_nil)))
      (pss_one (ps_ret (pv 2))))), ?_⟩
    refine ⟨_, rfl, b, _, rfl, .inr (SqT.of hb), fun l0 hl0 => ?_⟩
    obtain ⟨s0, hl0'⟩ := new_at (o := .lst (v.map V.int)) hl0
    have lm : ∀ u : Vec, (u.map V.int).length = u.length := fun u => List.length_map ..
    refine ⟨_, rfl, _, _, rfl, .inl ⟨_, SqL.of hl0', rfl⟩, ?_⟩
    rw [lm]
    refine ⟨_, rfl, by omega, by omega, for_range (lo := 0) (n := v.length) (fun i σ H' => ∃ (l : Addr) (u : Vec) (x3 x4 x5 x6 x7 : Option V), σ = [some (.ref d), some (.ref b), some (.ref l), x3, x4, x5, x6, x7] ∧ Same H H' ∧ IsL H' l u ∧ u.length = v.length ∧ OkLeft (t.drop i) i u ∧ leftL (t.drop i) i u = leftL t 0 v) ⟨l0, v, _, _, _, _, _, rfl, s0, hl0', rfl, ok, rfl⟩ ?_ ?_⟩
    · rintro i σ H1 hi ⟨l, u, x3, x4, x5, x6, x7, rfl, sm, hl, lu, okl, el⟩
      have ei : (0 : Int) + ((i : Nat) : Int) = ((i : Nat) : Int) := by omega
      have hiu : i < u.length := by omega
      obtain ⟨o, eo⟩ : ∃ o, t[i]? = some o := ⟨_, List.getElem?_eq_getElem (by omega)⟩
      have ed := drop_at eo
      rw [ed] at okl el
      show gName 3 (V.int (0 + ((i : Nat) : Int))) _ _ _
      rw [ei]
      obtain ⟨kvs, hd, hk, hv⟩ := ht.keep sm
      refine ⟨_, rfl, _, rfl, d, _, rfl, DGet.k (k := Sum.inl ((i : Nat) : Int)) hd, _, rfl, ?_⟩
      cases o with
      | none =>
        have vn : valV kvs (Sum.inl ((i : Nat) : Int)) = none := (hv i).2 fun r q => by rw [eo] at q; cases q
        rw [vn]
        exact ⟨l, u, _, _, _, _, _, rfl, sm, hl, lu, okl, el⟩
      | some r =>
        obtain ⟨a, vs1, fa, ha⟩ := (hv i).1 r eo
        obtain ⟨o1, o2, o3⟩ := okl
        have lr : r.length = v.length := wt r (List.mem_of_getElem? eo)
        rw [vs1]
        refine ⟨_, rfl, _, rfl, d, .ref a, rfl, by rw [← vs1]; exact DGet.k (k := Sum.inl ((i : Nat) : Int)) hd, ?_⟩
        refine ⟨_, rfl, _, rfl, l, _, _, _, rfl, rfl, SqL.of hl, intL_at hiu, _, rfl, _, rfl, a, _, _, _, rfl, rfl, SqL.of ha, intL_at (by omega), _, _, rfl, rfl, o1, ?_⟩
        have ln : min (u.map V.int).length (r.map V.int).length = v.length := by rw [lm, lm, lu, lr, Nat.min_self]
        have la : (addV u (-((itm u i).fdiv (itm r i))) r).length = v.length := (addV_len (lu.trans lr.symm)).trans lu
        refine ⟨_, rfl, _, rfl, l, a, _, _, rfl, .inl ⟨SqL.of hl, SqL.of ha, fun D hD => lc_it (walk_zip (xs := u.map V.int) (ys := r.map V.int) ln.symm) (fun j H2 => Same H1 H2 ∧ H2 D = some (.lst (((addV u (-((itm u i).fdiv (itm r i))) r).take j).map V.int))) ⟨(new_at hD).1, upd_same⟩ (fun j H2 _ q => ⟨SqL.of (q.1 _ _ hl), SqL.of (q.1 _ _ ha)⟩) ?_ ?_⟩⟩
        · rintro j z H2 H'' hj ⟨sm2, hD'⟩ ⟨q, y1, y2, rfl, hq, rfl, e1, e2⟩
          obtain ⟨n1, en1, rfl⟩ := map_at e1
          obtain ⟨n2, en2, rfl⟩ := map_at e2
          refine ⟨q, _, rfl, SqT.of upd_same, rfl, _, _, rfl, _, _, rfl, rfl, rfl, ?_⟩
          refine ⟨_, rfl, _, rfl, _, rfl, _, _, rfl, rfl, o2 n2 (List.mem_of_getElem? en2), _, _, rfl, rfl, ?_⟩
          have nDq : D ≠ q := ne_of_none hD' hq
          refine ⟨_, (upd_ne nDq).trans hD', by rw [List.length_map, List.length_take]; exact Nat.lt_of_le_of_lt (Nat.le_trans (Nat.min_le_right _ _) (la ▸ l1)) (by decide), fun y o z => ?_, ?_⟩
          · rw [upd_ne (ne_of_none z hD)]
            exact (new_at hq).1 _ _ (sm2 _ _ z)
          · rw [upd_same, take_snoc (n := n1 - (itm u i).fdiv (itm r i) * n2)]
            rw [← subV_eq, List.getElem?_zipWith, en1, en2]
        · rintro H2 ⟨s2, hD2⟩
          rw [take_all la] at hD2
          exact ⟨D, _, _, _, _, _, _, rfl, sm.trans s2, hD2, la, o3, el⟩
    · rintro σ H1 ⟨l, u, x3, x4, x5, x6, x7, rfl, sm, hl, lu, okl, el⟩
      have e1 : t.drop v.length = [] := List.drop_of_length_le (by omega)
      rw [e1] at el
      have el' : u = leftL t 0 v := el
      subst el'
      exact ⟨_, rfl, k _ l sm hl lu⟩
abbrev s_law_is_in : Stmt := top 34
abbrev n_law_is_in : List Str := ["_law_known", "_law_row", "_law_number_here"]
theorem sc_law_is_in : FnScope n_law_is_in ["_law_known", "_law_row"] (defScope s_law_is_in) := ⟨rfl, rfl, rfl, by decide +kernel, rfl, by decide +kernel, by decide +kernel⟩
def spIsIn : Sp := fun vs H Q _ => ∃ (F : Addr → Prop) (d b : Addr) (L : Nat) (t : Tab) (v : Vec), vs = [.ref d, .ref b] ∧ Tb F H d L t ∧ IsV H b v ∧ v.length = t.length ∧ (∀ r, some r ∈ t → r.length = v.length) ∧ v.length ≤ 1000 ∧ OkLeft t 0 v ∧ ∀ (H' : Hp), Same H H' → Q (.bl (decide (piv (leftL t 0 v) = (leftL t 0 v).length))) H'
theorem ok_is_in (T : Txt mg) (g_law_left : Has P w K mg base 1 "_law_left" ["_law_known", "_law_row"] spLeft) (F : DefAt K mg "_law_is_in" s_law_is_in ["_law_known", "_law_row"]) : Has P w K mg base 2 "_law_is_in" ["_law_known", "_law_row"] spIsIn := by
  refine F.has sc_law_is_in (fun vs H Q E h => ?_) (fun f cdv A outer s H vs Q E hr h => ?_)
  · obtain ⟨F, d, b, L, t, v, rfl, _⟩ := h
    rfl
  · obtain ⟨F, d, b, L, t, v, rfl, ht, hb, lt, wt, l1, ok, k⟩ := h
    have hu := hr.units
    refine ⟨_, (pss_one (ps_ret (pe_cmpR (op_eqD hu) (pe_lc (own := [("_law_number_here", 2)]) (g := gName 2) (by rfl) sc_law_is_in.nd (pi_list (pe_callHas g_law_left (hr.mono (by decide)) rfl (pa_cons (pv 0) (pa_cons (pv 1) pa_nil)))) (blkOk_by (own := [("_law_number_here", 2)]) (N := n_law_is_in) (sc := defScope s_law_is_in) (by decide +kernel)) (fun _ _ _ _ _ => (pg_name (i := 2) sc_law_is_in.nd rfl (Or.inl rfl))) (fun _ _ _ _ _ => (pts_one (pt_cmpR op_ne (pv 2) pe_int (nomark _)))) (fun _ _ _ _ _ => (pv 2))) (pe_lst pa_nil) (nomark _)))), ?_⟩
    refine ⟨_, rfl, _, rfl, F, d, b, L, t, v, rfl, ht, hb, lt, wt, l1, ok, fun H1 l s1 hl ll => ?_⟩
    generalize leftL t 0 v = u at hl ll k
    refine ⟨l, rfl, ⟨_, SqL.of hl⟩, fun D hD => lc_it (walk_list (xs := u.map V.int)) (fun j H2 => Same H1 H2 ∧ H2 D = some (.lst (((u.take j).filter fun n => decide (n ≠ 0)).map V.int))) ⟨(new_at hD).1, upd_same⟩ (fun j H2 _ q => SqL.of (q.1 _ _ hl)) ?_ ?_⟩
    · rintro j z H2 H'' hj ⟨sm2, hD'⟩ ⟨rfl, ey⟩
      obtain ⟨n, en, rfl⟩ := map_at ey
      refine ⟨rfl, ?_⟩
      refine ⟨_, rfl, rfl, _, rfl, ?_⟩
      have et : u.take (j + 1) = u.take j ++ [n] := by rw [List.take_add_one, en]; rfl
      by_cases h0 : n = 0
      · subst h0
        show if (!decide (V.int 0 = V.int 0)) = true then _ else _
        rw [decide_eq_true rfl]
        refine ⟨sm2, ?_⟩
        rw [et, List.filter_append]
        simpa using hD'
      · show if (!decide (V.int n = V.int 0)) = true then _ else _
        rw [decide_eq_false (fun z => h0 (V.int.inj z))]
        refine ⟨_, rfl, _, hD', ?_, fun y o z => ?_, ?_⟩
        · rw [List.length_map]
          exact Nat.lt_of_le_of_lt (Nat.le_trans (List.length_filter_le _ _) (by rw [List.length_take]; exact Nat.le_trans (Nat.min_le_right _ _) (ll ▸ l1))) (by decide)
        · rw [upd_ne (ne_of_none z hD)]
          exact sm2 _ _ z
        · rw [upd_same, et, List.filter_append, List.map_append]
          simp [h0]
    · rintro H2 ⟨s2, hD2⟩
      rw [List.length_map, List.take_length] at hD2
      refine ⟨Nat.zero_le _, fun z hz => ?_⟩
      obtain ⟨s3, hz3⟩ := new_at (o := .lst []) hz
      refine ⟨.list ((u.filter fun n => decide (n ≠ 0)).map PyData.int), .list [], .lst (SqL.of (s3 _ _ hD2)) (ints_dp _), .lst (SqL.of hz3) .nil, intsD_shaped _, by decide +kernel, ?_⟩
      rw [nils_eqv, decide_eq_decide.mpr (filter_nil u)]
      exact k _ ((s1.trans s2).trans s3)
end
end K06

namespace K06
open PySem L2 RZ Lat
/-! ## k04: what the law asks of the vectors -/
/-- sums of the rows -/
def Sums (rs : List Vec) (f : Nat → Int) : Prop := ∀ S : (Nat → Int) → Prop, Cl S → (∀ r ∈ rs, S (itm r)) → S f
structure Facts04 (n : Nat) (rs : List Vec) (B : List Vec) (t : Tab) : Prop where
  eB : Ech n 0 B
  okB : OkGrows [] rs
  okT : OkPuts (tab0 n) rs
  eT : EchT n 0 t
  red : ∀ v : Vec, v.length = n → (∀ i, (itm v i).natAbs ≤ 2 ^ 32) → OkRed B v
  left : ∀ v : Vec, v.length = n → (∀ i, (itm v i).natAbs ≤ 2 ^ 32) → OkLeft t 0 v
  same : ∀ v : Vec, v.length = n → leftL t 0 v = redV B v
  lB : ∀ r ∈ B, r.length = n
  zero : ∀ v : Vec, v.length = n → Sums rs (itm v) → piv (redV B v) = (redV B v).length
  rest : ∀ v : Vec, v.length = n → Sums rs fun i => itm v i - itm (redV B v) i
  again : ∀ v u : Vec, v.length = n → u.length = n → Sums rs (fun i => itm v i - itm u i) → redV B v = redV B u
  short : ∀ v : Vec, v.length = n → (∀ i, (itm v i).natAbs ≤ 2 ^ 32) → ∀ m ∈ redV B v, m.natAbs.log2 < 1920
theorem grows_pos {n : Nat} : ∀ (rs B : List Vec), Ech n 0 B → PosP B → (∀ r ∈ rs, r.length = n) → Ech n 0 (grows B rs) ∧ PosP (grows B rs)
  | [], B, e, p, _ => ⟨e, p⟩
  | v :: rs, B, e, p, h => by
    obtain ⟨l, h2⟩ := List.forall_mem_cons.mp h
    have hlen : ∀ r ∈ B, r.length = v.length := fun r hr => ((e.row r hr).1).trans l.symm
    have lu := (redV_len B v hlen).trans l
    have es : Ech n 0 (stepped B (redV B v)) := stepped_ech e lu (Nat.zero_le _) fun i hi => absurd hi (Nat.not_lt_zero _)
    refine grows_pos rs (grow B v) ?_ ?_ h2
    · unfold grow; split
      · exact e
      · exact tidy_ech es
    · unfold grow; split
      · exact p
      · exact tidy_pos es
theorem grows_clo {S : (Nat → Int) → Prop} (C : Cl S) {n : Nat} : ∀ (rs B : List Vec), (∀ r ∈ B, r.length = n) → (∀ r ∈ rs, r.length = n) → ((∀ r ∈ grows B rs, S (itm r)) ↔ ((∀ r ∈ B, S (itm r)) ∧ ∀ r ∈ rs, S (itm r)))
  | [], B, _, _ => ⟨fun h => ⟨h, fun r h => nomatch h⟩, fun h => h.1⟩
  | v :: rs, B, hB, h => by
    obtain ⟨l, h2⟩ := List.forall_mem_cons.mp h
    have e : grows B (v :: rs) = grows (grow B v) rs := rfl
    rw [e, grows_clo C rs (grow B v) (grow_len l hB) h2, grow_cl C (fun r hr => (hB r hr).trans l.symm), List.forall_mem_cons, and_assoc]
theorem log_bound {m : Int} {k : Nat} (h : m.natAbs ≤ 2 ^ k) (hk : k < 1920) : m.natAbs.log2 < 1920 := by
  by_cases h0 : m.natAbs = 0
  · rw [h0]; decide
  · exact log_lt h0 h hk
theorem facts04 {n : Nat} (n1 : 1 ≤ n) (n5 : n ≤ 5) (rs : List Vec) (h : rs.length ≤ 5) (hr : ∀ r ∈ rs, r.length = n ∧ Within 44 r) : Facts04 n rs (grows [] rs) (putsL (tab0 n) rs) := by
  have hl : ∀ r ∈ rs, r.length = n := fun r q => (hr r q).1
  have IB := (grows_inv rs 0 [] (inv0 n) (by omega) hr).2
  rw [Nat.zero_add] at IB
  obtain ⟨okT, IT⟩ := puts_inv n5 rs 0 (tab0 n) (invT0 n) (by omega) hr
  rw [Nat.zero_add] at IT
  obtain ⟨eB, pB⟩ := grows_pos (n := n) rs [] trivial (fun s h => nomatch h) hl
  have eT := IT.ech
  have eT' := eT.ech
  have pT : PosP (rowsOf (putsL (tab0 n) rs)) := eT.pos
  have lB : ∀ r ∈ grows [] rs, r.length = n := fun r q => (eB.row r q).1
  have lT : ∀ r ∈ rowsOf (putsL (tab0 n) rs), r.length = n := fun r q => (eT'.row r q).1
  have cB : ∀ {S : (Nat → Int) → Prop}, Cl S → ((∀ r ∈ grows [] rs, S (itm r)) ↔ ∀ r ∈ rs, S (itm r)) := fun C => (grows_clo C rs [] (fun r q => nomatch q) hl).trans ⟨fun q => q.2, fun q => ⟨fun r z => (nomatch z), q⟩⟩
  have cT : ∀ {S : (Nat → Int) → Prop}, Cl S → ((∀ r ∈ rowsOf (putsL (tab0 n) rs), S (itm r)) ↔ ∀ r ∈ rs, S (itm r)) := fun C => (putsL_cl C (invT0 n).ech hl).trans ⟨fun q => q.2, fun q => ⟨fun r z => (by unfold tab0 at z; rw [rows_empty] at z; exact (nomatch z)), q⟩⟩
  have hBT : ∀ r ∈ grows [] rs, In (rowsOf (putsL (tab0 n) rs)) (itm r) := (cB (In.cl _)).mpr ((cT (In.cl _)).mp fun r q => In.mem _ _ q)
  have hTB : ∀ r ∈ rowsOf (putsL (tab0 n) rs), In (grows [] rs) (itm r) := (cT (In.cl _)).mpr ((cB (In.cl _)).mp fun r q => In.mem _ _ q)
  have inB : ∀ f, Sums rs f → In (grows [] rs) f := fun f q => q _ (In.cl _) ((cB (In.cl _)).mp fun r z => In.mem _ _ z)
  have eb5 : gb rs.length + rs.length * (gb rs.length + 2) ≤ 3000 := by
    have : ∀ k, k ≤ 5 → gb k + k * (gb k + 2) ≤ 3000 := by decide
    exact this _ h
  have gb5 : gb rs.length ≤ 454 := by
    have : ∀ k, k ≤ 5 → gb k ≤ 454 := by decide
    exact this _ h
  have aB : ∀ s ∈ grows [] rs, ∀ i, (itm s i).natAbs ≤ 2 ^ 3000 := fun s q i => Nat.le_trans (IB.all s q i) (Lat.p2le eb5)
  have pvB : ∀ s ∈ grows [] rs, (itm s (piv s)).natAbs ≤ 2 ^ 454 := fun s q => Nat.le_trans (IB.piv s q) (Lat.p2le gb5)
  have countB : (grows [] rs).length ≤ 5 := Nat.le_trans IB.count h
  have countT : (rowsOf (putsL (tab0 n) rs)).length ≤ 5 := Nat.le_trans IT.count h
  have pvT : ∀ s ∈ rowsOf (putsL (tab0 n) rs), (itm s (piv s)).natAbs ≤ 2 ^ 454 := fun s q => Nat.le_trans (IT.gh.piv s q) (Lat.p2le (Nat.le_trans (gbx_le n5) gbx_five))
  have sT : ∀ s ∈ rowsOf (putsL (tab0 n) rs), ∀ i, (itm s i).natAbs ≤ 2 ^ 600000 := fun s q i => Nat.le_trans (IT.size s q i) (Lat.p2le (by
    have : ∀ k, k ≤ 5 → sb k ≤ 600000 := by
      intro k hk
      have : k = 0 ∨ k = 1 ∨ k = 2 ∨ k = 3 ∨ k = 4 ∨ k = 5 := by omega
      rcases this with e | e | e | e | e | e <;> subst e <;> simp [sb, dbl]
    exact this _ h))
  have ghB : Gh 6 n (grows [] rs) := by
    obtain ⟨G, eG, h1, h2, h3⟩ := IT.gh.ex
    exact ⟨eB, G, eG, fun g q => In.sub (In.cl _) hTB (h1 g q), (cB (RIn.cl _)).mpr ((cT (RIn.cl _)).mp h2), h3⟩
  refine ⟨eB, math_ok n rs h hr, okT, eT, fun v l hv => ?_, fun v l hv => ?_, fun v l => ?_, lB, fun v l q => ?_, fun v l => ?_, fun v u l l' q => ?_, fun v l hv m hm => ?_⟩
  · have := Nat.mul_le_mul_right 3001 countB
    exact (redV_size (π := 454) (β := 3000) (ξ := 32) (by decide) eB l pvB aB hv (by omega)).1
  · have := Nat.mul_le_mul_right 600001 countT
    exact okLeft_of eT (redV_size (π := 454) (β := 600000) (ξ := 32) (by decide) eT' l pvT sT hv (by omega)).1
  · rw [leftL_red eT]
    exact (red_same eB eT' pB pT hBT hTB l l ((In.cl _).of (t := 0) (In.cl _).zero (In.cl _).zero fun i => by omega)).symm
  · exact red_zero eB l (inB _ q)
  · exact fun S C hS => redV_diff C _ v (fun r q => (lB r q).trans l.symm) ((cB C).mpr hS)
  · exact red_same eB eB pB pB (fun r q => In.mem _ _ q) (fun r q => In.mem _ _ q) l l' (inB _ q)
  · obtain ⟨i, rfl⟩ := mem_itm hm
    have q := ghB.red (w := 0) (y := 32) (z := 900) l hv n1 (Nat.le_trans (gbx_le n5) (by decide)) (fun k hk => by
      have : ∀ k, k ≤ 4 → (gbx 6 k + 32 + 1) + k * (gbx 6 k + 2) + 1 ≤ 900 := by decide
      exact this k (by omega)) (by decide) i
    exact log_bound q (by decide)
end K06

namespace K06
open PySem L2 RZ Lat
section
variable {P : Program} {w : World} {K : PySem.W.Frag} {mg : Str → Option Value} {base : Heap}
theorem itm_rep (n i : Nat) : itm (List.replicate n 0) i = 0 := by
  unfold itm
  rw [List.getD_eq_getElem?_getD, List.getElem?_replicate]
  split <;> rfl
abbrev s_law_sum : Stmt := top 36
abbrev n_law_sum : List Str := ["_law_box_here", "_law_rows_here", "_law_width", "_law_found", "_law_row", "_law_times", "_law_here", "_law_there"]
theorem sc_law_sum : FnScope n_law_sum ["_law_box_here", "_law_rows_here", "_law_width"] (defScope s_law_sum) := ⟨rfl, rfl, rfl, by decide +kernel, rfl, by decide +kernel, by decide +kernel⟩
def spSum : Sp := fun vs H Q _ => ∃ (b l : Addr) (n : Nat) (as : List V) (rs : List Vec), vs = [.ref b, .ref l, .int ((n : Nat) : Int)] ∧ Box H b ∧ l ≠ b ∧ H l = some (.lst as) ∧ Rows H n as rs ∧ 1 ≤ n ∧ n ≤ 12 ∧ rs.length ≤ 12 ∧ (∀ r ∈ rs, Within 44 r) ∧
  ∀ (H' : Hp) (p : Addr) (u : Vec), But b H H' → Box H' b → IsV H' p u → u.length = n → Sums rs (itm u) → Within 1600 u → Q (.ref p) H'
theorem ok_sum (T : Txt mg) (g_law_take : Has P w K mg base 1 "_law_take" ["_law_box_here", "_law_many"] spTake) (F : DefAt K mg "_law_sum" s_law_sum ["_law_box_here", "_law_rows_here", "_law_width"]) : Has P w K mg base 2 "_law_sum" ["_law_box_here", "_law_rows_here", "_law_width"] spSum := by
  refine F.has sc_law_sum (fun vs H Q E h => ?_) (fun f cdv A outer s H vs Q E hr h => ?_)
  · obtain ⟨b, l, n, as, rs, rfl, _⟩ := h
    rfl
  · obtain ⟨b, l, n, as, rs, rfl, hb, nlb, hl, hrs, n1, n2, lrs, wrs, k⟩ := h
    refine ⟨_, (pss_cons (ps_set (i := 3) sc_law_sum.nd rfl (Or.inl rfl) (pe_op op_rep (pe_lst (pa_cons pe_int pa_nil)) (pv 2)))
      (pss_cons (ps_for PassesOwn.never rfl (pi_list (pv 1)) (pg_name (i := 4) sc_law_sum.nd rfl (Or.inl rfl)) (pss_cons (ps_set (i := 5) sc_law_sum.nd rfl (Or.inr rfl) (pe_op op_sub (pe_callHas g_law_take (hr.mono (by decide)) rfl (pa_cons (pv 0) (pa_cons pe_int pa_nil))) pe_int))
      (pss_one (ps_setLc (i := 3) (own := [("_law_here", 6), ("_law_there", 7)]) (g := gTup K 2 (gCons (gName 6) (gCons (gName 7) gNil))) (by rfl) sc_law_sum.nd rfl rfl (sw_true rfl rfl rfl (by decide +kernel)) (pi_zipM (by rfl) T.z_zip (pa_cons (pv 3) (pa_cons (pv 4) pa_nil))) (blkOk_by (own := [("_law_here", 6), ("_law_there", 7)]) (N := n_law_sum) (sc := defScope s_law_sum) (by decide +kernel)) (fun _ _ _ _ _ => (pg_tup rfl (pgs_cons (pg_name (i := 6) sc_law_sum.nd rfl (Or.inl rfl)) (pgs_cons (pg_name (i := 7) sc_law_sum.nd rfl (Or.inl rfl)) pgs_nil)))) (fun _ _ _ _ _ => pts_nil) (fun _ _ _ _ _ => (pe_op op_add (pv 6) (pe_op op_mul (pv 5) (pv 7))))))))
      (pss_one (ps_ret (pe_callTy call_tuple_of (by rfl) T.z_tuple (by decide +kernel) (pa_cons (pv 3) pa_nil)))))), ?_⟩
    refine ⟨(by decide : 1 ≤ sizeLine), fun q hq => ?_⟩
    obtain ⟨s1, hq1⟩ := new_at (o := .lst [V.int 0]) hq
    refine ⟨_, rfl, q, ((n : Nat) : Int), _, rfl, rfl, hq1, by omega, by omega, by show 1 * ((n : Nat) : Int).toNat ≤ sizeLine; rw [Int.toNat_natCast, Nat.one_mul]; exact Nat.le_trans n2 (by decide), fun c0 hc0 => ?_⟩
    rw [Int.toNat_natCast, rep_zero]
    obtain ⟨s2, hc1⟩ := new_at (o := .lst ((List.replicate n (0 : Int)).map V.int)) hc0
    have s12 := s1.trans s2
    have hb2 := (hb.keep s1)
    refine ⟨_, rfl, l, rfl, ⟨_, SqL.of (s12 _ _ hl)⟩, for_it (walk_list (xs := as)) (fun i σ H' => ∃ (c : Addr) (acc : Vec) (x4 x5 x6 x7 : Option V), σ = [some (.ref b), some (.ref l), some (.int ((n : Nat) : Int)), some (.ref c), x4, x5, x6, x7] ∧ But b H H' ∧ Box H' b ∧ c ≠ b ∧ IsL H' c acc ∧ acc.length = n ∧ Sums rs (itm acc) ∧ Within (132 * ((i : Nat) : Int)) acc)
      ⟨c0, _, _, _, _, _, rfl, Same.but s12, hb.keep s12, hb2.ne hc0, hc1, List.length_replicate .., fun S C hS => ?_, fun x hx => ?_⟩ (fun i σ H' _ z => SqL.of ((show But b H H' from by obtain ⟨_, _, _, _, _, _, _, bu, _⟩ := z; exact bu) _ _ nlb hl)) ?_ ?_⟩
    · exact C.of (t := 0) C.zero C.zero fun i => by rw [itm_rep]; omega
    · rw [(List.mem_replicate.mp hx).2]; omega
    · rintro i y σ H' H'' hi ⟨c, acc, x4, x5, x6, x7, rfl, bu, hb', ncb, hc, lacc, sacc, wacc⟩ ⟨rfl, ex⟩
      have hrs' := hrs.but hb bu
      obtain ⟨a, r, er, rfl, hr0, lr⟩ := hrs'.at ex
      have hlt := (List.getElem?_eq_some_iff.mp er).1
      have hmem := List.mem_of_getElem? er
      refine ⟨_, rfl, b, 7, rfl, hb', by decide, by decide, fun d x y z d0 d1 => ⟨_, _, rfl, rfl, ?_⟩⟩
      have bu2 : But b H (upd H'' b (.lst [.int x, .int y, .int z])) := bu.trans But.upd'
      have hb2' : Box (upd H'' b (.lst [.int x, .int y, .int z])) b := Box.upd'
      have hc2 : IsL (upd H'' b (.lst [.int x, .int y, .int z])) c acc := (upd_ne ncb).trans hc
      have hr2 : IsV (upd H'' b (.lst [.int x, .int y, .int z])) a r := by
        obtain ⟨y1, y2, y3, hbx⟩ := hb'
        exact (upd_ne (ne_of hr0 hbx fun z => nomatch z)).trans hr0
      have la : (addV acc (d - 3) r).length = n := (addV_len (lacc.trans lr.symm)).trans lacc
      refine ⟨_, rfl, _, rfl, c, a, _, _, rfl, SqL.of hc2, SqT.of hr2, fun D hD => lc_it (walk_zipM (xs := acc.map V.int) (ys := r.map V.int) (n := n) (by rw [List.length_map]; exact lacc) (by rw [List.length_map]; exact lr)) (fun j H2 => Same (upd H'' b (.lst [.int x, .int y, .int z])) H2 ∧ H2 D = some (.lst (((addV acc (d - 3) r).take j).map V.int))) ⟨(new_at hD).1, upd_same⟩ (fun j H2 _ q => ⟨SqL.of (q.1 _ _ hc2), SqT.of (q.1 _ _ hr2)⟩) ?_ ?_⟩
      · rintro j z' H2 H3 hj ⟨sm2, hD'⟩ ⟨q, y1, y2, rfl, hq, rfl, e1, e2⟩
        obtain ⟨m1, em1, rfl⟩ := map_at e1
        obtain ⟨m2, em2, rfl⟩ := map_at e2
        refine ⟨q, _, rfl, SqT.of upd_same, rfl, _, _, rfl, _, _, rfl, rfl, rfl, ?_⟩
        refine ⟨_, rfl, _, rfl, _, rfl, _, _, rfl, rfl, .inl ⟨by omega, by omega⟩, _, _, rfl, rfl, ?_⟩
        have nDq : D ≠ q := ne_of_none hD' hq
        refine ⟨_, (upd_ne nDq).trans hD', by rw [List.length_map, List.length_take]; exact Nat.lt_of_le_of_lt (Nat.le_trans (Nat.min_le_right _ _) (la ▸ n2)) (by decide), fun y o z => ?_, ?_⟩
        · rw [upd_ne (ne_of_none z hD)]
          exact (new_at hq).1 _ _ (sm2 _ _ z)
        · rw [upd_same, take_snoc (n := m1 + (d - 3) * m2)]
          unfold addV
          rw [List.getElem?_zipWith, em1, em2]
      · rintro H2 ⟨s2, hD2⟩
        rw [take_all la] at hD2
        refine ⟨D, _, _, _, _, _, rfl, bu2.trans (Same.but s2), hb2'.keep s2, hb2'.ne hD, hD2, la, fun S C hS => C.of (t := d - 3) (sacc S C hS) (hS r hmem) fun i => itm_add (lacc.trans lr.symm) i, fun m hm => ?_⟩
        obtain ⟨j, hj0, ej⟩ := List.mem_iff_getElem.mp hm
        have hj : j < n := la ▸ hj0
        have ei : itm (addV acc (d - 3) r) j = m := by
          have := itm_of hj0
          rw [List.getElem?_eq_getElem hj0, ej] at this
          exact (Option.some.inj this).symm
        rw [← ei, itm_add (lacc.trans lr.symm)]
        have w1 := wacc _ (List.mem_of_getElem? (itm_of (show j < acc.length by omega)))
        have w2 := wrs r hmem _ (List.mem_of_getElem? (itm_of (show j < r.length by omega)))
        have c1 : -3 ≤ d - 3 ∧ d - 3 ≤ 3 := ⟨by omega, by omega⟩
        generalize d - 3 = t at c1 ⊢
        have q : -132 ≤ t * itm r j ∧ t * itm r j ≤ 132 := by
          obtain ⟨c2, c3⟩ := c1
          have : t = -3 ∨ t = -2 ∨ t = -1 ∨ t = 0 ∨ t = 1 ∨ t = 2 ∨ t = 3 := by omega
          rcases this with e | e | e | e | e | e | e <;> subst e <;> omega
        omega
    · rintro σ H' ⟨c, acc, x4, x5, x6, x7, rfl, bu, hb', ncb, hc, lacc, sacc, wacc⟩
      refine ⟨_, rfl, _, _, rfl, .inl ⟨SqL.of hc, fun p hp => ?_⟩⟩
      obtain ⟨s3, hp3⟩ := new_at (o := .tup (acc.map V.int)) hp
      refine k _ p acc (bu.trans (Same.but s3)) (hb'.keep s3) hp3 lacc sacc fun x hx => ?_
      have := wacc x hx
      rw [hrs.len] at this
      have e : ((rs.length : Nat) : Int) ≤ 12 := by omega
      omega
end
end K06

namespace K06
open PySem L2 RZ Lat
section
variable {P : Program} {w : World} {K : PySem.W.Frag} {mg : Str → Option Value} {base : Heap}
theorem iteSe {b : Bool} {A B : Prop} (h : b = true) (k : A) : if b = true then A else B := by rw [if_pos h]; exact k
theorem iteSf {b : Bool} {A B : Prop} (h : b = false) (k : B) : if b = true then A else B := by rw [h, if_neg (by decide)]; exact k
theorem within32 {v : Vec} {B : Int} (hB : B ≤ 4000000000) (w : ∀ m ∈ v, -B ≤ m ∧ m ≤ B) : ∀ i, (itm v i).natAbs ≤ 2 ^ 32 := fun i => by
  have e : (2 : Nat) ^ 32 = 4294967296 := by decide
  by_cases hi : i < v.length
  · have := w _ (List.mem_of_getElem? (itm_of hi))
    rw [e]; omega
  · rw [itm_out (by omega)]; exact Nat.zero_le _
theorem rep_of_zero {v : Vec} {n : Nat} (l : v.length = n) (h : piv v = v.length) : v = List.replicate n 0 := by
  refine vec_ext (by rw [List.length_replicate]; exact l) fun i => ?_
  rw [Lat.itm_zero h, itm_rep]
theorem ints_eqv : ∀ v : Vec, PyData.eqvAll (v.map PyData.int) (v.map PyData.int) = true
  | [] => by decide +kernel
  | n :: v => by
    have := ints_eqv v
    simp [PyData.eqvAll, PyData.eqv] at this ⊢
    exact this
theorem tup_eqv (v : Vec) : PyData.eqv (.tuple (v.map PyData.int)) (.tuple (v.map PyData.int)) = true := by
  simp only [PyData.eqv]; exact ints_eqv v
theorem tup_shaped (v : Vec) : SeqAt.shaped (.tuple (v.map PyData.int)) = true := by
  have := intsD_shaped v
  have h1 : (PyData.canLay0 (.list (v.map PyData.int)) && decide (PyData.depth (.list (v.map PyData.int)) ≤ 64)) = true := this
  show (PyData.canLay0 (.tuple (v.map PyData.int)) && decide (PyData.depth (.tuple (v.map PyData.int)) ≤ 64)) = true
  simp only [PyData.canLay0, PyData.depth] at h1 ⊢
  exact h1
theorem tup_dp {H : Hp} {a : Addr} {v : Vec} (h : IsV H a v) : Dp K H (.ref a) (.tuple (v.map PyData.int)) := .tup (SqT.of h) (ints_dp v)
/-- a tuple and a new one that is not empty, put together -/
def rCatF (K : PySem.W.Frag) : R2 := fun x y H Q => ∃ a b xs ys, x = .ref a ∧ y = .ref b ∧ SqT K H a xs ∧ H b = some (.tup ys) ∧ ys ≠ [] ∧ xs.length + ys.length ≤ sizeLine ∧ ∀ (H' : Hp) (p : Addr), Same H H' → H' p = some (.tup (xs ++ ys)) → Q (.ref p) H'
theorem op_catF {X : Cx} : OpR X (binaryOp .Add) (rCatF X.K) := fun pins s σ H x y v u Q I rx ry h => op_catA pins s σ H x y v u Q I rx ry (by
  obtain ⟨a, b, xs, ys, rfl, rfl, ha, hb, hy, hz, k⟩ := h
  refine ⟨a, b, xs, ys, rfl, rfl, ha, SqT.of hb, hz, fun e => k H b (Same.refl H) (by rw [e]; exact hb), fun _ e => absurd e hy, fun _ _ p hp => ?_⟩
  obtain ⟨s1, h1⟩ := new_at (o := .tup (xs ++ ys)) hp
  exact k _ p s1 h1)
theorem flat_zeros : ∀ k : Nat, Paired Flat ((List.replicate k (0 : Int)).map V.int) (List.replicate k true) := fun k => by
  have := flat_ints (List.replicate k (0 : Int))
  rw [List.length_replicate] at this
  exact this
theorem paired_snoc {xs : List V} {bs : List Bool} {x : V} {b : Bool} (h : Paired Flat xs bs) (f : Flat x b) : Paired Flat (xs ++ [x]) (bs ++ [b]) := by
  induction h with
  | nil => exact .cons f .nil
  | cons a _ ih => exact .cons a ih
/-- what is no vector of this width -/
def Odd (n : Nat) (H : Hp) (y : V) : Prop := NoTup H y ∨ ∃ (p : Addr) (xs : List V) (bs : List Bool), y = .ref p ∧ H p = some (.tup xs) ∧ Paired Flat xs bs ∧ xs.length ≤ 1000 ∧ (decide (xs.length = n) && bs.all id) = false
theorem Odd.keep {n : Nat} {H H' : Hp} {y : V} (s : Same H H') (h : Odd n H y) : Odd n H' y := by
  rcases h with h | ⟨p, xs, bs, rfl, hp, fl, l, e⟩
  · left
    cases h with
    | non => exact .non
    | int i => exact .int i
    | str z => exact .str z
    | lst h => exact .lst (s _ _ h)
  · exact .inr ⟨p, xs, bs, rfl, s _ _ hp, fl, l, e⟩
theorem cut_zeros (n : Nat) (h : 1 ≤ n) : cutV ((List.replicate n (0 : Int)).map V.int) (some 1) none = (List.replicate (n - 1) (0 : Int)).map V.int := by
  have e1 : HT.sIx ((List.replicate n (0 : Int)).map V.int).length 0 (some 1) = 1 := by
    have := HT.sIx_nat ((List.replicate n (0 : Int)).map V.int).length 0 1
    rw [List.length_map, List.length_replicate] at this ⊢
    refine Eq.trans this ?_
    omega
  unfold cutV
  rw [e1, HT.sIx_none, List.length_map, List.length_replicate, ← List.map_drop, List.drop_replicate, ← List.map_take, List.take_replicate, Nat.min_self]
theorem not_whole (n : Nat) (h : 1 ≤ n) : ¬ (HT.sIx ((List.replicate n (0 : Int)).map V.int).length 0 (some 1) = 0 ∧ HT.sIx ((List.replicate n (0 : Int)).map V.int).length ((List.replicate n (0 : Int)).map V.int).length none = ((List.replicate n (0 : Int)).map V.int).length) := fun z => by
  have := HT.sIx_nat ((List.replicate n (0 : Int)).map V.int).length 0 1
  rw [List.length_map, List.length_replicate] at this
  have z1 := z.1
  rw [List.length_map, List.length_replicate] at z1
  have e : HT.sIx n 0 (some 1) = HT.sIx n 0 (some ((1 : Nat) : Int)) := rfl
  omega
abbrev s_law : Stmt := top 37
abbrev n_law : List Str := ["_law_script", "_law_k", "_law_box_here", "_law_turn", "_law_width", "_law_rows_here", "_law_made", "_law_known", "_law_again", "_law_vector", "_law_near", "_law_far", "_law_left_here", "_law_rest", "_law_nought", "_law_odd", "_law_thing", "_law_number_here", "_law_at", "_law_here", "_law_there"]
theorem sc_law : FnScope n_law ["_law_script"] (defScope s_law) := ⟨rfl, rfl, rfl, by decide +kernel, rfl, by decide +kernel, by decide +kernel⟩
def spLaw (K : PySem.W.Frag) : Sp := fun vs H Q _ => ∃ (a : Addr) (ns : List Int), vs = [.ref a] ∧ SqL K H a (ns.map V.int) ∧ ns.length ≤ 63 ∧ ∀ H', Q (.bl true) H'
theorem ok_law {C fI fC fR f : Addr} {fdI fdC fdR fd : FuncData} (T : Txt mg) (CL : ClsL K mg C) (ML : Mk K C fI) (g_lattice : FnOk P w K mg base CX0 5 fI fdI ["self", "width", "rows"] (spLattice K C)) (bL : Binds K fdI ["self", "width", "rows"] [])
    (mR : Meth K C "reduced" fR) (g_reduced : FnOk P w K mg base CX0 3 fR fdR ["self", "vector"] (spRedM C)) (bR : Binds K fdR ["self", "vector"] [])
    (hsC : PySem.W.findIn K (.ref C) "__contains__" = some (some (.ref fC))) (fnC : PySem.W.isFn K (.ref fC) = true) (g_cont : FnOk P w K mg base CX0 4 fC fdC ["self", "x"] (spCont C)) (bC : Binds K fdC ["self", "x"] [])
    (F : Fun K "law" "law" s_law f fd) (hb : ∀ (s : Shared) (u : Value), K.In s.heap → BindsTo s fd ⟨[u], []⟩ [("_law_script", u)])
    (g_law_box : Has P w K mg base 1 "_law_box" ["_law_script", "_law_k", "_law_own"] (spBox K)) (g_law_take : Has P w K mg base 1 "_law_take" ["_law_box_here", "_law_many"] spTake) (g_law_number : Has P w K mg base 2 "_law_number" ["_law_box_here"] spNumber)
    (g_law_rows : Has P w K mg base 3 "_law_rows" ["_law_box_here", "_law_width", "_law_many", "_law_is_great"] spRows) (g_law_echelon : Has P w K mg base 2 "_law_echelon" ["_law_rows_here"] spEchelon) (g_law_left : Has P w K mg base 1 "_law_left" ["_law_known", "_law_row"] spLeft)
    (g_law_is_in : Has P w K mg base 2 "_law_is_in" ["_law_known", "_law_row"] spIsIn) (g_law_sum : Has P w K mg base 2 "_law_sum" ["_law_box_here", "_law_rows_here", "_law_width"] spSum) : LawOk P w K mg base 8 f (spLaw K) := by
  refine LawOk.of F sc_law hb fun cdv A s H v Q hg0 hr h => ?_
  have hg : (A.deeper (PyProof.Rows.envOfC "law" (defScope s_law) s.heap.objs.size f cdv)).guards = some [] := by
    first | exact hg0 | (simp [Around.deeper, hg0]) | (unfold Around.deeper; exact hg0)
  have hu : (A.deeper (PyProof.Rows.envOfC "law" (defScope s_law) s.heap.objs.size f cdv)).units + 64 < cLine := hr.units
  obtain ⟨a, ns, ev, hS, hlen, k⟩ := h
  cases ev
  refine ⟨_, (pss_cons (ps_for PassesOwn.never rfl (pi_range1 rfl T.z_range (pa_cons (pe_callB (call_max2 rfl) (by rfl) T.z_max (by decide +kernel) (pa_cons pe_int (pa_cons (pe_callB (call_min2 rfl) (by rfl) T.z_min (by decide +kernel) (pa_cons pe_int (pa_cons (pe_callB call_len (by rfl) T.z_len (by decide +kernel) (pa_cons (pv 0) pa_nil)) pa_nil))) pa_nil))) pa_nil)) (pg_name (i := 1) sc_law.nd rfl (Or.inl rfl)) (pss_cons (ps_set (i := 2) sc_law.nd rfl (Or.inr rfl) (pe_callHas g_law_box (hr.mono (by decide)) rfl (pa_cons (pv 0) (pa_cons (pv 1) (pa_cons pe_int pa_nil)))))
      (pss_one (ps_for PassesOwn.never rfl (pi_range1 rfl T.z_range (pa_cons pe_int pa_nil)) (pg_name (i := 3) sc_law.nd rfl (Or.inl rfl)) (pss_cons (ps_set (i := 4) sc_law.nd rfl (Or.inl rfl) (pe_op op_add pe_int (pe_callHas g_law_take (hr.mono (by decide)) rfl (pa_cons (pv 2) (pa_cons pe_int pa_nil)))))
      (pss_cons (ps_set (i := 5) sc_law.nd rfl (Or.inl rfl) (pe_callHas g_law_rows (hr.mono (by decide)) rfl (pa_cons (pv 2) (pa_cons (pv 4) (pa_cons (pe_callHas g_law_take (hr.mono (by decide)) rfl (pa_cons (pv 2) (pa_cons pe_int pa_nil))) (pa_cons pe_bl pa_nil))))))
      (pss_cons (ps_par (i := 6) (j := 7) (by rfl) sc_law.nd rfl rfl (by decide) rfl rfl (pa_cons (pe_make ML g_lattice (hr.mono (by decide)) rfl CL.m bL .nil pass0 (pa_cons (pv 4) (pa_cons (pv 5) pa_nil))) (pa_cons (pe_callHas g_law_echelon (hr.mono (by decide)) rfl (pa_cons (pv 5) pa_nil)) pa_nil)) (by rfl))
      (pss_cons (ps_for PassesOwn.never rfl (pi_range1 rfl T.z_range (pa_cons pe_int pa_nil)) (pg_name (i := 8) sc_law.nd rfl (Or.inl rfl)) (pss_cons (ps_set (i := 9) sc_law.nd rfl (Or.inl rfl) (pe_callHas g_law_sum (hr.mono (by decide)) rfl (pa_cons (pv 2) (pa_cons (pv 5) (pa_cons (pv 4) pa_nil)))))
      (pss_cons (ps_if (PW.pt (pw_or (pt_cmpR (op_notInO g_cont hsC fnC (hr.mono (by decide)) bC pass0) (pv 9) (pv 6) (by rfl)) (pw_or1 (pt_cmpR (op_neD hu) (pe_meth (pv 6) CL.cl mR g_reduced (hr.mono (by decide)) bR .nil pass0 (pa_cons (pv 9) pa_nil)) (pe_callTy call_tuple_of (by rfl) T.z_tuple (by decide +kernel) (pa_cons (pe_op op_rep (pe_lst (pa_cons pe_int pa_nil)) (pv 4)) pa_nil)) (nomark _))))) (pss_one (ps_ret pe_bl)) pss_nil)
      (pss_cons (ps_set (i := 10) sc_law.nd rfl (Or.inl rfl) (pe_callTy call_tuple_of (by rfl) T.z_tuple (by decide +kernel) (pa_cons (pe_lc (own := [("_law_number_here", 17)]) (g := gName 17) (by rfl) sc_law.nd (pi_tup (pv 9)) (blkOk_by (own := [("_law_number_here", 17)]) (N := n_law) (sc := defScope s_law) (by decide +kernel)) (fun _ _ _ _ _ => (pg_name (i := 17) sc_law.nd rfl (Or.inl rfl))) (fun _ _ _ _ _ => pts_nil) (fun _ _ _ _ _ => (pe_op op_sub (pe_op op_add (pv 17) (pe_op op_fdiv (pe_callHas g_law_take (hr.mono (by decide)) rfl (pa_cons (pv 2) (pa_cons pe_int pa_nil))) pe_int)) pe_int))) pa_nil)))
      (pss_cons (ps_if (pt_cmpR op_ne (pe_callB call_repr_bl (by rfl) T.z_repr (by decide +kernel) (pa_cons (pe_cmpR (op_inO g_cont hsC fnC (hr.mono (by decide)) bC pass0) (pv 10) (pv 6) (by rfl)) pa_nil)) (pe_callB call_repr_bl (by rfl) T.z_repr (by decide +kernel) (pa_cons (pe_callHas g_law_is_in (hr.mono (by decide)) rfl (pa_cons (pv 7) (pa_cons (pv 10) pa_nil))) pa_nil)) (nomark _)) (pss_one (ps_ret pe_bl)) pss_nil)
      (pss_cons (ps_set (i := 11) sc_law.nd rfl (Or.inl rfl) (pe_callTy call_tuple_of (by rfl) T.z_tuple (by decide +kernel) (pa_cons (pe_lc (own := [("_law_at", 18)]) (g := gName 18) (by rfl) sc_law.nd (pi_range1 rfl T.z_range (pa_cons (pv 4) pa_nil)) (blkOk_by (own := [("_law_at", 18)]) (N := n_law) (sc := defScope s_law) (by decide +kernel)) (fun _ _ _ _ _ => (pg_name (i := 18) sc_law.nd rfl (Or.inl rfl))) (fun _ _ _ _ _ => pts_nil) (fun _ _ _ _ _ => (pe_op op_fdiv (pe_callHas g_law_number (hr.mono (by decide)) rfl (pa_cons (pv 2) pa_nil)) pe_int))) pa_nil)))
      (pss_cons (ps_set (i := 12) sc_law.nd rfl (Or.inl rfl) (pe_meth (pv 6) CL.cl mR g_reduced (hr.mono (by decide)) bR .nil pass0 (pa_cons (pv 11) pa_nil)))
      (pss_cons (ps_if (pt_cmpR op_ne (pe_callB (call_reprD hg hu) (by rfl) T.z_repr (by decide +kernel) (pa_cons (pv 12) pa_nil)) (pe_callB (call_reprD hg hu) (by rfl) T.z_repr (by decide +kernel) (pa_cons (pe_callTy call_tuple_of (by rfl) T.z_tuple (by decide +kernel) (pa_cons (pe_callHas g_law_left (hr.mono (by decide)) rfl (pa_cons (pv 7) (pa_cons (pv 11) pa_nil))) pa_nil)) pa_nil)) (nomark _)) (pss_one (ps_ret pe_bl)) pss_nil)
      (pss_cons (ps_set (i := 13) sc_law.nd rfl (Or.inl rfl) (pe_callTy call_tuple_of (by rfl) T.z_tuple (by decide +kernel) (pa_cons (pe_lc (own := [("_law_here", 19), ("_law_there", 20)]) (g := gTup K 2 (gCons (gName 19) (gCons (gName 20) gNil))) (by rfl) sc_law.nd (pi_zipA (by rfl) T.z_zip (pa_cons (pv 11) (pa_cons (pv 12) pa_nil))) (blkOk_by (own := [("_law_here", 19), ("_law_there", 20)]) (N := n_law) (sc := defScope s_law) (by decide +kernel)) (fun _ _ _ _ _ => (pg_tup rfl (pgs_cons (pg_name (i := 19) sc_law.nd rfl (Or.inl rfl)) (pgs_cons (pg_name (i := 20) sc_law.nd rfl (Or.inl rfl)) pgs_nil)))) (fun _ _ _ _ _ => pts_nil) (fun _ _ _ _ _ => (pe_callTy call_int1 (by rfl) T.z_int (by decide +kernel) (pa_cons (pe_op op_sub (pv 19) (pv 20)) pa_nil)))) pa_nil)))
      (C8.pss_cut (ps_if (PW.pt (pw_and (pt_cmpR (op_eqD hu) (pe_lc (own := [("_law_number_here", 17)]) (g := gName 17) (by rfl) sc_law.nd (pi_tup (pv 13)) (blkOk_by (own := [("_law_number_here", 17)]) (N := n_law) (sc := defScope s_law) (by decide +kernel)) (fun _ _ _ _ _ => (pg_name (i := 17) sc_law.nd rfl (Or.inl rfl))) (fun _ _ _ _ _ => (pts_one (pt_cmpR op_ge (pe_callB call_abs (by rfl) T.z_abs (by decide +kernel) (pa_cons (pv 17) pa_nil)) (pe_op op_pow pe_int pe_int) (nomark _)))) (fun _ _ _ _ _ => pe_int)) (pe_lst pa_nil) (nomark _)) (pw_and1 (pt_cmpR (op_notInO g_cont hsC fnC (hr.mono (by decide)) bC pass0) (pv 13) (pv 6) (by rfl))))) (pss_one (ps_ret pe_bl)) pss_nil)
      (pss_one (ps_if (pt_cmpR (op_neD hu) (pe_meth (pv 6) CL.cl mR g_reduced (hr.mono (by decide)) bR .nil pass0 (pa_cons (pe_callTy call_tuple_of (by rfl) T.z_tuple (by decide +kernel) (pa_cons (pe_lc (own := [("_law_here", 19), ("_law_there", 20)]) (g := gTup K 2 (gCons (gName 19) (gCons (gName 20) gNil))) (by rfl) sc_law.nd (pi_zipA (by rfl) T.z_zip (pa_cons (pv 11) (pa_cons (pv 9) pa_nil))) (blkOk_by (own := [("_law_here", 19), ("_law_there", 20)]) (N := n_law) (sc := defScope s_law) (by decide +kernel)) (fun _ _ _ _ _ => (pg_tup rfl (pgs_cons (pg_name (i := 19) sc_law.nd rfl (Or.inl rfl)) (pgs_cons (pg_name (i := 20) sc_law.nd rfl (Or.inl rfl)) pgs_nil)))) (fun _ _ _ _ _ => pts_nil) (fun _ _ _ _ _ => (pe_op op_add (pv 19) (pv 20)))) pa_nil)) pa_nil)) (pv 12) (nomark _)) (pss_one (ps_ret pe_bl)) pss_nil))))))))))))
      (pss_cons (ps_set (i := 14) sc_law.nd rfl (Or.inl rfl) (pe_callTy call_tuple_of (by rfl) T.z_tuple (by decide +kernel) (pa_cons (pe_op op_rep (pe_lst (pa_cons pe_int pa_nil)) (pv 4)) pa_nil)))
      (pss_cons (ps_set (i := 15) sc_law.nd rfl (Or.inl rfl) (pe_lst (pa_cons pe_non (pa_cons pe_int (pa_cons pe_str (pa_cons (pe_callTy call_list_of (by rfl) T.z_list (by decide +kernel) (pa_cons (pv 14) pa_nil)) (pa_cons (pe_op op_catF (pv 14) (pe_tup (pa_cons pe_int pa_nil))) (pa_cons (pe_op op_catF (pe_slice sl_tupA (pv 14) (po_some pe_int) po_none) (pe_tup (pa_cons pe_bl pa_nil))) (pa_cons (pe_lst (pa_cons (pv 14) pa_nil)) pa_nil)))))))))
      (pss_one (ps_for PassesOwn.never rfl (pi_list (pe_op op_cat (pv 15) (pe_lst (pa_cons (pe_op op_catF (pe_slice sl_tupA (pv 14) (po_some pe_int) po_none) (pe_tup (pa_cons pe_non pa_nil))) pa_nil)))) (pg_name (i := 16) sc_law.nd rfl (Or.inl rfl)) (pss_one (ps_if (pt_cmpR (op_inO g_cont hsC fnC (hr.mono (by decide)) bC pass0) (pv 16) (pv 6) (by rfl)) (pss_one (ps_ret pe_bl)) pss_nil))))))))))))))
      (pss_one (ps_ret pe_bl))), ?_⟩
  have hlen' : (((ns.map V.int).length : Nat) : Int) ≤ 63 := by rw [List.length_map]; omega
  refine ⟨_, rfl, _, _, rfl, .inl ⟨_, hS, rfl⟩, _, _, rfl, _, _, rfl, ?_⟩
  have hN : ∀ m : Int, 0 ≤ m → ∃ N : Int, (if (if m < 3 then m else 3) > 1 then (if m < 3 then m else 3) else 1) = N ∧ 0 ≤ N ∧ N ≤ 3 := fun m hm => ⟨_, rfl, by split <;> (try split) <;> omega, by split <;> (try split) <;> omega⟩
  obtain ⟨N, eN, N0, N3⟩ := hN (((ns.map V.int).length : Nat) : Int) (Int.natCast_nonneg _)
  refine ⟨N, by rw [← eN], by omega, by omega, for_range (lo := 0) (n := N.toNat) (fun i σ H' => Same H H' ∧ ∃ x1 x2 x3 x4 x5 x6 x7 x8 x9 x10 x11 x12 x13 x14 x15 x16 x17 x18 x19 x20, σ = [some (.ref a), x1, x2, x3, x4, x5, x6, x7, x8, x9, x10, x11, x12, x13, x14, x15, x16, x17, x18, x19, x20]) ⟨Same.refl _, _, _, _, _, _, _, _, _, _, _, _, _, _, _, _, _, _, _, _, _, rfl⟩ ?_ (fun σ H' _ => k H')⟩
  rintro i σ H1 hi ⟨s1, x1, x2, x3, x4, x5, x6, x7, x8, x9, x10, x11, x12, x13, x14, x15, x16, x17, x18, x19, x20, rfl⟩
  refine ⟨_, rfl, _, rfl, a, ns, _, _, rfl, s1.seq hS, by omega, by omega, by decide, by decide, fun H2 b s2 hb0 hbox => ?_⟩
  -- for turn in range(3)
  refine ⟨3, rfl, by decide, by decide, for_range (lo := 0) (n := 3) (fun j σ H' => But b H2 H' ∧ Box H' b ∧ ∃ x3 x4 x5 x6 x7 x8 x9 x10 x11 x12 x13 x14 x15 x16 x17 x18 x19 x20, σ = [some (.ref a), some (.int (0 + ((i : Nat) : Int))), some (.ref b), x3, x4, x5, x6, x7, x8, x9, x10, x11, x12, x13, x14, x15, x16, x17, x18, x19, x20]) ⟨fun _ _ _ z => z, hbox, _, _, _, _, _, _, _, _, _, _, _, _, _, _, _, _, _, _, rfl⟩ ?_ ?_⟩
  · rintro j σ H3 hj ⟨bu3, hb3, x3, x4, x5, x6, x7, x8, x9, x10, x11, x12, x13, x14, x15, x16, x17, x18, x19, x20, rfl⟩
    refine ⟨_, rfl, b, 5, rfl, hb3, by decide, by decide, fun d u1 u2 u3 d0 d1 => ⟨_, _, rfl, rfl, ?_⟩⟩
    obtain ⟨n, en, n1, n5⟩ : ∃ n : Nat, (1 + d : Int) = ((n : Nat) : Int) ∧ 1 ≤ n ∧ n ≤ 5 := ⟨(1 + d).toNat, by omega, by omega, by omega⟩
    show gName 4 (V.int (1 + d)) _ _ _
    rw [en]
    have hb4 : Box (upd H3 b (.lst [.int u1, .int u2, .int u3])) b := Box.upd'
    refine ⟨_, rfl, _, rfl, _, rfl, b, 6, rfl, hb4, by decide, by decide, fun e v1 v2 v3 e0 e1 => ?_⟩
    obtain ⟨m, rfl⟩ : ∃ m : Nat, e = ((m : Nat) : Int) := ⟨e.toNat, by omega⟩
    refine ⟨b, n, m, rfl, Box.upd', n1, by omega, by omega, fun H5 l as rs nlb bu5 hb5 hl hrs lrs wrs => ?_⟩
    have good : ∀ r ∈ rs, r.length = n ∧ Within 44 r := fun r hr' => ⟨hrs.2 r hr', fun x hx => by have := wrs r hr' x hx; omega⟩
    have m5 : rs.length ≤ 5 := by omega
    have fx := facts04 n1 n5 rs m5 good
    refine ⟨_, rfl, _, rfl, fun x dx hx hdx ndx => ?_⟩
    have so : Same H5 (upd (upd H5 dx (.own x)) x (.ins C dx [])) := fun y o z => by
      rw [upd_ne (ne_of_none z hx), upd_ne (ne_of_none z hdx)]; exact z
    refine ⟨x, dx, l, n, as, rs, rfl, upd_same, n1, by omega, by omega, .inl (so _ _ hl), hrs.keep so, fx.okB, fun H6 kp6 lat6 => ⟨rfl, ?_⟩⟩
    have s6 : Same H5 H6 := fun y o z => kp6 y o (ne_of_none z hx) (so _ _ z)
    have hb6 := hb5.keep s6
    have hl6 := s6 _ _ hl
    have hrs6 := hrs.keep s6
    have nm : rs.length * n ≤ 25 := Nat.mul_le_mul m5 n5
    have hF : ∀ {G : Hp}, Box G b → ∀ c, G c = none → c ≠ b := fun {G} q c z => by
      obtain ⟨y1, y2, y3, q⟩ := q
      exact (ne_of_none q z).symm
    refine ⟨_, rfl, (fun c => c ≠ b), l, n, as, rs, rfl, hF hb6, hl6, hrs6, by omega, by omega, fx.okT, fun H7 d7 s7 tb7 => ⟨_, _, rfl, ?_⟩⟩
    generalize grows [] rs = B0 at fx lat6
    generalize ht0 : putsL (tab0 n) rs = t0 at fx tb7
    have ltab : t0.length = n := by have := fx.eT.len; omega
    have wtab : ∀ r, some r ∈ t0 → r.length = n := fx.eT.wid
    have lat7 := lat6.keep s7
    have hb7 := hb6.keep s7
    have hl7 := s7 _ _ hl6
    have hrs7 := hrs6.keep s7
    have ndr : ∀ {q : Addr}, (lf ((n : Nat) : Int) q).lookup ("reduced" : Str) = none := fun {q} => lf_none _ _ (by decide +kernel) (by decide +kernel)
    -- for again in range(8)
    refine ⟨8, rfl, by decide, by decide, for_range (lo := 0) (n := 8) (fun q σ H' => But b H7 H' ∧ Box H' b ∧ ∃ x8 x9 x10 x11 x12 x13 x14 x15 x16 x17 x18 x19 x20, σ = [some (.ref a), some (.int (0 + ((i : Nat) : Int))), some (.ref b), some (.int (0 + ((j : Nat) : Int))), some (.int ((n : Nat) : Int)), some (.ref l), some (.ref x), some (.ref d7), x8, x9, x10, x11, x12, x13, x14, x15, x16, x17, x18, x19, x20]) ⟨fun _ _ _ z => z, hb7, _, _, _, _, _, _, _, _, _, _, _, _, _, rfl⟩ ?_ ?_⟩
    · rintro q σ H8 hq ⟨bu8, hb8, x8, x9, x10, x11, x12, x13, x14, x15, x16, x17, x18, x19, x20, rfl⟩
      have hl8 := bu8 _ _ nlb hl7
      have hrs8 := hrs7.but hb7 bu8
      have lat8 := lat7.but hb7 bu8
      have tb8 := tb7.but hb7 (fun c h => h) bu8
      -- vector
      refine ⟨_, rfl, _, rfl, _, rfl, b, l, n, as, rs, rfl, hb8, nlb, hl8, hrs8, n1, by omega, by omega, fun r hr' => (good r hr').2, fun H9 vp u bu9 hb9 hvp lu su wu => ?_⟩
      have lat9 := lat8.but hb8 bu9
      have tb9 := tb8.but hb8 (fun c h => h) bu9
      have hl9 := bu9 _ _ nlb hl8
      have hrs9 := hrs8.but hb8 bu9
      have wu32 := within32 (B := 1600) (by decide) wu
      have zu := fx.zero u lu su
      obtain ⟨dx9, pb9, os9, hx9, hpb9, hos9⟩ := id lat9
      refine ⟨_, rfl, _, rfl, x, dx9, _, rfl, hx9, x, .ref vp, n, B0, rfl, lat9, by omega, .inl ⟨vp, u, rfl, hvp, lu, fx.red u lu wu32, fun H10 s10 => ?_⟩⟩
      rw [decide_eq_true zu]
      refine ⟨_, rfl, _, rfl, iteSf rfl ?_⟩
      have lat10 := lat9.keep s10
      have hvp10 := s10 _ _ hvp
      refine ⟨_, rfl, x, dx9, _, rfl, s10 _ _ hx9, ndr, _, rfl, x, vp, u, B0, rfl, by rw [lu]; exact lat10, hvp10, by omega, fx.red u lu wu32, fun H11 q1 s11 hq1 lq1 => ?_⟩
      refine ⟨(by decide : 1 ≤ sizeLine), fun z1 hz1 => ?_⟩
      obtain ⟨sz1, hz1'⟩ := new_at (o := .lst [V.int 0]) hz1
      refine ⟨_, rfl, z1, ((n : Nat) : Int), _, rfl, rfl, hz1', by omega, by omega, Nat.le_trans (show 1 * ((n : Nat) : Int).toNat ≤ 5 by omega) (by decide), fun z2 hz2 => ?_⟩
      rw [Int.toNat_natCast, rep_zero]
      obtain ⟨sz2, hz2'⟩ := new_at (o := .lst ((List.replicate n (0 : Int)).map V.int)) hz2
      refine ⟨_, _, rfl, .inl ⟨SqL.of hz2', fun z3 hz3 => ?_⟩⟩
      obtain ⟨sz3, hz3'⟩ := new_at (o := .tup ((List.replicate n (0 : Int)).map V.int)) hz3
      have s1114 := (sz1.trans sz2).trans sz3
      have er : redV B0 u = List.replicate n 0 := rep_of_zero (lq1.trans lu) zu
      refine ⟨_, _, tup_dp (s1114 _ _ hq1), tup_dp hz3', tup_shaped _, tup_shaped _, _, rfl, iteSf (by rw [er, tup_eqv]; rfl) ?_⟩
      have s914 := (s10.trans s11).trans s1114
      have lat14 := lat9.keep s914
      have tb14 := tb9.keep s914
      have hb14 := hb9.keep s914
      have hvp14 := s914 _ _ hvp
      have bu714 : But b H7 _ := (bu8.trans bu9).trans (Same.but s914)
      generalize (upd (upd (upd H11 z1 (HO.lst [V.int 0])) z2 (HO.lst (List.map V.int (List.replicate n 0)))) z3 (HO.tup (List.map V.int (List.replicate n 0)))) = H14 at *
      have nvb : vp ≠ b := by
        obtain ⟨y1, y2, y3, q⟩ := hb14
        exact ne_of hvp14 q fun z => nomatch z
      -- near
      refine ⟨_, rfl, vp, rfl, ⟨_, SqT.of hvp14⟩, fun D hD => lc_it (walk_tup (xs := u.map V.int)) (fun t H' => (∀ y o, y ≠ b → y ≠ D → H14 y = some o → H' y = some o) ∧ Box H' b ∧ ∃ g : Vec, H' D = some (.lst (g.map V.int)) ∧ g.length = t ∧ Within 1700 g) ?_ ?_ ?_ ?_⟩
      · exact ⟨fun y o _ nD z => by rw [upd_ne nD]; exact z, hb14.new hD, [], upd_same, rfl, fun y hy => nomatch hy⟩
      · exact fun t H' _ z => SqT.of (z.1 _ _ nvb (ne_of_none hvp14 hD) hvp14)
      · rintro t y H' H'' ht ⟨kp, hb', g, hD', lg, wg⟩ ⟨rfl, ey⟩
        obtain ⟨m1, em1, rfl⟩ := map_at ey
        have wm := wu m1 (List.mem_of_getElem? em1)
        refine ⟨rfl, ?_⟩
        refine ⟨_, rfl, _, rfl, b, 5, rfl, hb', by decide, by decide, fun d1 y1 y2 y3 d2 d3 => ⟨_, _, rfl, rfl, ⟨by decide, by decide⟩, _, _, rfl, rfl, _, _, rfl, rfl, ?_⟩⟩
        have nDb := hb14.ne hD
        have hh : 0 ≤ d1 / 2 ∧ d1 / 2 ≤ 2 := ⟨by omega, by omega⟩
        generalize d1 / 2 = hf at hh ⊢
        have ht' : t < n := by rw [List.length_map, lu] at ht; exact ht
        refine ⟨_, (upd_ne nDb).trans hD', by rw [List.length_map, lg]; exact Nat.lt_of_lt_of_le ht' (Nat.le_trans n5 (by decide)), fun y o nb nD z => by rw [upd_ne nD, upd_ne nb]; exact kp y o nb nD z, ?_, g ++ [m1 + hf - 1], ?_, by rw [List.length_append, lg]; rfl, ?_⟩
        · exact ⟨y1, y2, y3, by rw [upd_ne nDb.symm, upd_same]⟩
        · rw [upd_same, List.map_append]; rfl
        · intro y hy
          rcases List.mem_append.mp hy with hy | hy
          · exact wg y hy
          · rw [List.mem_singleton.mp hy]; omega
      rintro H15 ⟨kp15, hb15, g, hD15, lg, wg⟩
      rw [List.length_map, lu] at lg
      have bu15 : But b H14 H15 := fun y o nb z => kp15 y o nb (ne_of_none z hD) z
      refine ⟨_, _, rfl, .inl ⟨SqL.of hD15, fun np hnp => ?_⟩⟩
      obtain ⟨s16, hnp16⟩ := new_at (o := .tup (g.map V.int)) hnp
      have bu16 := bu15.trans (Same.but s16)
      have hb16 := hb15.keep s16
      have lat16 := lat14.but hb14 bu16
      have tb16 := tb14.but hb14 (fun c h => h) bu16
      have hvp16 := bu16 _ _ nvb hvp14
      have bu716 := bu714.trans bu16
      generalize upd H15 np (HO.tup (List.map V.int g)) = H16 at *
      -- repr(near in made) != repr(is_in(known, near))
      have wg32 := within32 (B := 1700) (by decide) wg
      obtain ⟨dx16, pb16, os16, hx16, hpb16, hos16⟩ := id lat16
      refine ⟨_, rfl, _, rfl, x, dx16, _, rfl, hx16, x, .ref np, n, B0, rfl, lat16, by omega, .inl ⟨np, g, rfl, hnp16, lg, fx.red g lg wg32, fun H17 s17 => ?_⟩⟩
      refine ⟨_, rfl, _, rfl, _, rfl, _, rfl, (fun c => c ≠ b), d7, np, _, t0, g, rfl, tb16.keep s17, s17 _ _ hnp16, by rw [lg, ltab], fun r hr' => (wtab r hr').trans lg.symm, by omega, fx.left g lg wg32, fun H18 s18 => ?_⟩
      rw [fx.same g lg]
      refine ⟨_, rfl, rfl, _, rfl, ?_⟩
      have fne : ∀ c : Bool, (false != c) = c := by decide
      rw [fne]
      refine iteNS (c := V.str (Str.ofString (if decide (piv (redV B0 g) = (redV B0 g).length) = true then "True" else "False")) = V.str (Str.ofString (if decide (piv (redV B0 g) = (redV B0 g).length) = true then "True" else "False"))) rfl ?_
      have s1618 := s17.trans s18
      have lat18 := lat16.keep s1618
      have tb18 := tb16.keep s1618
      have hb18 := hb16.keep s1618
      have hvp18 := s1618 _ _ hvp16
      have bu718 := bu716.trans (Same.but s1618)
      -- far
      refine ⟨_, rfl, ((n : Nat) : Int), rfl, by omega, by omega, fun D2 hD2 => lc_range (lo := 0) (n := n) (fun t H' => (∀ y o, y ≠ b → y ≠ D2 → H18 y = some o → H' y = some o) ∧ Box H' b ∧ ∃ g : Vec, H' D2 = some (.lst (g.map V.int)) ∧ g.length = t ∧ Within 1000000000 g) ?_ ?_ ?_⟩
      · exact ⟨fun y o _ nD z => by rw [upd_ne nD]; exact z, hb18.new hD2, [], upd_same, rfl, fun y hy => nomatch hy⟩
      · rintro t H' ht ⟨kp, hb', g2, hD', lg2, wg2⟩
        refine ⟨rfl, ?_⟩
        refine ⟨_, rfl, b, rfl, hb', fun H8' d1 but8 hb8' d2 d3 => ⟨_, _, rfl, rfl, ⟨by decide, by decide⟩, ?_⟩⟩
        have nDb := hb18.ne hD2
        have hh : -1000000000 ≤ d1 / 2 ∧ d1 / 2 ≤ 1000000000 := ⟨by omega, by omega⟩
        refine ⟨_, but8 _ _ nDb hD', by rw [List.length_map, lg2]; exact Nat.lt_of_lt_of_le ht (Nat.le_trans n5 (by decide)), fun y o nb nD z => by rw [upd_ne nD]; exact but8 _ _ nb (kp y o nb nD z), ?_, g2 ++ [d1 / 2], ?_, by rw [List.length_append, lg2]; rfl, ?_⟩
        · obtain ⟨y1, y2, y3, h⟩ := hb8'
          exact ⟨y1, y2, y3, by rw [upd_ne nDb.symm]; exact h⟩
        · rw [upd_same, List.map_append]; rfl
        · intro y hy
          rcases List.mem_append.mp hy with hy | hy
          · exact wg2 y hy
          · rw [List.mem_singleton.mp hy]; omega
      rintro H19 ⟨kp19, hb19, g2, hD19, lg2, wg2⟩
      have bu19 : But b H18 H19 := fun y o nb z => kp19 y o nb (ne_of_none z hD2) z
      refine ⟨_, _, rfl, .inl ⟨SqL.of hD19, fun fp hfp => ?_⟩⟩
      obtain ⟨s20, hfp20⟩ := new_at (o := .tup (g2.map V.int)) hfp
      have bu20 := bu19.trans (Same.but s20)
      have hb20 := hb19.keep s20
      have lat20 := lat18.but hb18 bu20
      have tb20 := tb18.but hb18 (fun c h => h) bu20
      have hvp20 := bu20 _ _ nvb hvp18
      have bu720 := bu718.trans bu20
      generalize upd H19 fp (HO.tup (List.map V.int g2)) = H20 at *
      -- left = made.reduced(far)
      have wf32 := within32 (B := 1000000000) (by decide) wg2
      have okf := fx.red g2 lg2 wf32
      have shf := fx.short g2 lg2 wf32
      obtain ⟨dx20, pb20, os20, hx20, hpb20, hos20⟩ := id lat20
      refine ⟨_, rfl, x, dx20, _, rfl, hx20, ndr, _, rfl, x, fp, g2, B0, rfl, by rw [lg2]; exact lat20, hfp20, by omega, okf, fun H21 qp s21 hqp lq => ?_⟩
      have lr : (redV B0 g2).length = n := lq.trans lg2
      obtain ⟨sh1, sh2, sh3, sh4⟩ := tup_shown shf (by omega)
      refine ⟨_, rfl, qp, _, rfl, tup_dp hqp, sh1, sh2, sh3, sh4, ?_⟩
      refine ⟨_, rfl, _, rfl, (fun c => c ≠ b), d7, fp, _, t0, g2, rfl, tb20.keep s21, s21 _ _ hfp20, by rw [lg2, ltab], fun r hr' => (wtab r hr').trans lg2.symm, by omega, fx.left g2 lg2 wf32, fun H22 lp s22 hlp llp => ?_⟩
      rw [fx.same g2 lg2] at hlp
      refine ⟨_, _, rfl, .inl ⟨SqL.of hlp, fun tp htp => ?_⟩⟩
      obtain ⟨s23, htp23⟩ := new_at (o := .tup ((redV B0 g2).map V.int)) htp
      refine ⟨tp, _, rfl, tup_dp htp23, sh1, sh2, sh3, sh4, rfl, _, rfl, iteNS (c := V.str _ = V.str _) rfl ?_⟩
      have s2023 := (s21.trans s22).trans s23
      have lat23 := lat20.keep s2023
      have tb23 := tb20.keep s2023
      have hb23 := hb20.keep s2023
      have hvp23 := s2023 _ _ hvp20
      have hfp23 := s2023 _ _ hfp20
      have hqp23 := (s22.trans s23) _ _ hqp
      have bu723 := bu720.trans (Same.but s2023)
      generalize upd H22 tp (HO.tup (List.map V.int (redV B0 g2))) = H23 at *
      -- rest
      have lm : ∀ u : Vec, (u.map V.int).length = u.length := fun u => List.length_map ..
      have lnr : min (g2.map V.int).length ((redV B0 g2).map V.int).length = n := by rw [lm, lm, lg2, lr, Nat.min_self]
      have lra : (addV g2 (-1) (redV B0 g2)).length = n := (addV_len (lg2.trans lr.symm)).trans lg2
      refine ⟨_, rfl, _, rfl, fp, qp, _, _, rfl, .inr ⟨SqT.of hfp23, SqT.of hqp23, fun D3 hD3 => lc_it (walk_zipT (xs := g2.map V.int) (ys := (redV B0 g2).map V.int) lnr.symm) (fun t H' => Same H23 H' ∧ H' D3 = some (.lst (((addV g2 (-1) (redV B0 g2)).take t).map V.int))) ⟨(new_at hD3).1, upd_same⟩ (fun t H' _ z => ⟨SqT.of (z.1 _ _ hfp23), SqT.of (z.1 _ _ hqp23)⟩) ?_ ?_⟩⟩
      · rintro t z H' H'' ht ⟨sm, hD'⟩ ⟨p, y1, y2, rfl, hp, rfl, e1, e2⟩
        obtain ⟨m1, em1, rfl⟩ := map_at e1
        obtain ⟨m2, em2, rfl⟩ := map_at e2
        refine ⟨p, _, rfl, SqT.of upd_same, rfl, _, _, rfl, _, _, rfl, rfl, rfl, ?_⟩
        refine ⟨_, rfl, _, rfl, _, _, rfl, rfl, .inl ⟨_, rfl, ?_⟩⟩
        have nDp : D3 ≠ p := ne_of_none hD' hp
        refine ⟨_, (upd_ne nDp).trans hD', by rw [List.length_map, List.length_take]; exact Nat.lt_of_le_of_lt (Nat.le_trans (Nat.min_le_right _ _) (lra ▸ n5)) (by decide), fun y o z => ?_, ?_⟩
        · rw [upd_ne (ne_of_none z hD3)]
          exact (new_at hp).1 _ _ (sm _ _ z)
        · rw [upd_same, take_snoc (n := m1 + -1 * m2)]
          · rw [show m1 + -1 * m2 = m1 - m2 by omega]
          · unfold addV
            rw [List.getElem?_zipWith, em1, em2]
      rintro H24 ⟨s24, hD24⟩
      rw [take_all lra] at hD24
      refine ⟨_, _, rfl, .inl ⟨SqL.of hD24, fun rp hrp => ?_⟩⟩
      obtain ⟨s25, hrp25⟩ := new_at (o := .tup ((addV g2 (-1) (redV B0 g2)).map V.int)) hrp
      have s2325 := s24.trans s25
      have srest : Sums rs (itm (addV g2 (-1) (redV B0 g2))) := fun S C hS => C.of (t := 0) (fx.rest g2 lg2 S C hS) C.zero fun t => by rw [itm_add (lg2.trans lr.symm)]; omega
      have zrest := fx.zero _ lra srest
      generalize addV g2 (-1) (redV B0 g2) = rv at hD24 s25 s2325 hrp25 lra srest zrest
      have lat25 := lat23.keep s2325
      have hb25 := hb23.keep s2325
      have tb25 := tb23.keep s2325
      have hvp25 := s2325 _ _ hvp23
      have hfp25 := s2325 _ _ hfp23
      have hqp25 := s2325 _ _ hqp23
      have bu725 := bu723.trans (Same.but s2325)
      generalize upd H24 rp (HO.tup (List.map V.int rv)) = H25 at *
      refine ⟨fun σ H' => Same H25 H' ∧ ∃ x14 x15 x16 x17 x18 x19 x20, σ = [some (.ref a), some (.int (0 + ((i : Nat) : Int))), some (.ref b), some (.int (0 + ((j : Nat) : Int))), some (.int ((n : Nat) : Int)), some (.ref l), some (.ref x), some (.ref d7), some (.int (0 + ((q : Nat) : Int))), some (.ref vp), some (.ref np), some (.ref fp), some (.ref qp), some (.ref rp), x14, x15, x16, x17, x18, x19, x20], ?_, ?_⟩
      · refine ⟨_, rfl, rp, rfl, ⟨_, SqT.of hrp25⟩, fun D4 hD4 => lc_it (walk_tup (xs := rv.map V.int)) (fun t H' => Same H25 H' ∧ H' D4 = some (.lst ((((rv.take t).filter fun m => decide (1000000000 ≤ (if m < 0 then -m else m))).map fun _ => (1 : Int)).map V.int))) ⟨(new_at hD4).1, upd_same⟩ (fun t H' _ z => SqT.of (z.1 _ _ hrp25)) ?_ ?_⟩
        · rintro t z H' H'' ht ⟨sm, hD'⟩ ⟨rfl, ey⟩
          obtain ⟨m1, em1, rfl⟩ := map_at ey
          refine ⟨rfl, ?_⟩
          refine ⟨_, rfl, _, rfl, _, _, rfl, rfl, ⟨by decide, by decide, by decide⟩, _, _, rfl, rfl, _, rfl, ?_⟩
          have et : rv.take (t + 1) = rv.take t ++ [m1] := by rw [List.take_add_one, em1]; rfl
          have e9 : (10 : Int) ^ (9 : Int).toNat = 1000000000 := by decide +kernel
          rw [e9]
          by_cases hbig : (1000000000 : Int) ≤ (if m1 < 0 then -m1 else m1)
          · rw [decide_eq_true hbig]
            refine ⟨_, hD', ?_, fun y o z => ?_, ?_⟩
            · rw [List.length_map, List.length_map]
              exact Nat.lt_of_le_of_lt (Nat.le_trans (List.length_filter_le _ _) (by rw [List.length_take]; exact Nat.le_trans (Nat.min_le_right _ _) (lra ▸ n5))) (by decide)
            · rw [upd_ne (ne_of_none z hD4)]
              exact sm _ _ z
            · rw [upd_same, et, List.filter_append, List.map_append, List.map_append]
              simp [hbig]
          · rw [decide_eq_false hbig]
            refine ⟨sm, ?_⟩
            rw [et, List.filter_append, List.map_append, List.map_append]
            simpa [hbig] using hD'
        rintro H26 ⟨s26, hD26⟩
        rw [lm, List.take_length] at hD26
        refine ⟨Nat.zero_le _, fun z4 hz4 => ?_⟩
        obtain ⟨s27, hz27⟩ := new_at (o := .lst []) hz4
        have s2527 := s26.trans s27
        refine ⟨.list (((rv.filter fun m => decide (1000000000 ≤ (if m < 0 then -m else m))).map fun _ => (1 : Int)).map PyData.int), .list [], .lst (SqL.of (s27 _ _ hD26)) (ints_dp _), .lst (SqL.of hz27) .nil, intsD_shaped _, by decide +kernel, _, rfl, ?_⟩
        rw [nils_eqv]
        by_cases hsm : ((rv.filter fun m => decide (1000000000 ≤ (if m < 0 then -m else m))).map fun _ => (1 : Int)) = []
        · rw [decide_eq_true hsm]
          have w9 : ∀ m ∈ rv, -1000000000 ≤ m ∧ m ≤ 1000000000 := fun m hm => by
            have h0 := List.filter_eq_nil_iff.mp (List.map_eq_nil_iff.mp hsm) m hm
            have h1 : ¬ (1000000000 ≤ (if m < 0 then -m else m)) := by simpa using h0
            split at h1 <;> omega
          have lat27 := lat25.keep s2527
          obtain ⟨dx27, pb27, os27, hx27, hpb27, hos27⟩ := id lat27
          refine ⟨_, rfl, _, rfl, x, dx27, _, rfl, hx27, x, .ref rp, n, B0, rfl, lat27, by omega, .inl ⟨rp, rv, rfl, s2527 _ _ hrp25, lra, fx.red rv lra (within32 (B := 1000000000) (by decide) w9), fun H28 s28 => ?_⟩⟩
          rw [decide_eq_true zrest]
          exact ⟨_, rfl, _, rfl, s2527.trans s28, _, _, _, _, _, _, _, rfl⟩
        · rw [decide_eq_false hsm]
          exact ⟨s2527, _, _, _, _, _, _, _, rfl⟩
      · rintro σ H29 ⟨s29, x14, x15, x16, x17, x18, x19, x20, rfl⟩
        have lat29 := lat25.keep s29
        have hb29 := hb25.keep s29
        have hvp29 := s29 _ _ hvp25
        have hfp29 := s29 _ _ hfp25
        have hqp29 := s29 _ _ hqp25
        have bu729 := bu725.trans (Same.but s29)
        obtain ⟨dx29, pb29, os29, hx29, hpb29, hos29⟩ := id lat29
        have lnv : min (g2.map V.int).length (u.map V.int).length = n := by rw [lm, lm, lg2, lu, Nat.min_self]
        have lfv : (addV g2 1 u).length = n := (addV_len (lg2.trans lu.symm)).trans lg2
        refine ⟨_, rfl, x, dx29, _, rfl, hx29, ndr, ?_⟩
        refine ⟨_, rfl, _, rfl, fp, vp, _, _, rfl, .inr ⟨SqT.of hfp29, SqT.of hvp29, fun D5 hD5 => lc_it (walk_zipT (xs := g2.map V.int) (ys := u.map V.int) lnv.symm) (fun t H' => Same H29 H' ∧ H' D5 = some (.lst (((addV g2 1 u).take t).map V.int))) ⟨(new_at hD5).1, upd_same⟩ (fun t H' _ z => ⟨SqT.of (z.1 _ _ hfp29), SqT.of (z.1 _ _ hvp29)⟩) ?_ ?_⟩⟩
        · rintro t z H' H'' ht ⟨sm, hD'⟩ ⟨p, y1, y2, rfl, hp, rfl, e1, e2⟩
          obtain ⟨m1, em1, rfl⟩ := map_at e1
          obtain ⟨m2, em2, rfl⟩ := map_at e2
          refine ⟨p, _, rfl, SqT.of upd_same, rfl, _, _, rfl, _, _, rfl, rfl, rfl, ?_⟩
          refine ⟨_, rfl, _, rfl, _, _, rfl, rfl, ?_⟩
          have nDp : D5 ≠ p := ne_of_none hD' hp
          refine ⟨_, (upd_ne nDp).trans hD', by rw [List.length_map, List.length_take]; exact Nat.lt_of_le_of_lt (Nat.le_trans (Nat.min_le_right _ _) (lfv ▸ n5)) (by decide), fun y o z => ?_, ?_⟩
          · rw [upd_ne (ne_of_none z hD5)]
            exact (new_at hp).1 _ _ (sm _ _ z)
          · rw [upd_same, take_snoc (n := m1 + 1 * m2)]
            · rw [Int.one_mul]
            · unfold addV
              rw [List.getElem?_zipWith, em1, em2]
        rintro H30 ⟨s30, hD30⟩
        rw [take_all lfv] at hD30
        refine ⟨_, _, rfl, .inl ⟨SqL.of hD30, fun wp hwp => ?_⟩⟩
        obtain ⟨s31, hwp31⟩ := new_at (o := .tup ((addV g2 1 u).map V.int)) hwp
        have s2931 := s30.trans s31
        have wf : ∀ m ∈ addV g2 1 u, -1000010000 ≤ m ∧ m ≤ 1000010000 := fun m hm => by
          obtain ⟨t, ht0, et⟩ := List.mem_iff_getElem.mp hm
          have ei : itm (addV g2 1 u) t = m := by
            have := itm_of ht0
            rw [List.getElem?_eq_getElem ht0, et] at this
            exact (Option.some.inj this).symm
          rw [← ei, itm_add (lg2.trans lu.symm), Int.one_mul]
          have q1 := wg2 _ (List.mem_of_getElem? (itm_of (show t < g2.length by omega)))
          have q2 := wu _ (List.mem_of_getElem? (itm_of (show t < u.length by omega)))
          omega
        have lat31 := lat29.keep s2931
        refine ⟨x, wp, addV g2 1 u, B0, rfl, by rw [lfv]; exact lat31, hwp31, by omega, fx.red _ lfv (within32 (B := 1000010000) (by decide) wf), fun H32 p32 s32 hp32 lp32 => ?_⟩
        have eqr : redV B0 (addV g2 1 u) = redV B0 g2 := fx.again _ _ lfv lg2 fun S C hS => C.of (t := 0) (su S C hS) C.zero fun t => by rw [itm_add (lg2.trans lu.symm)]; omega
        have s2932 := s2931.trans s32
        refine ⟨_, rfl, _, _, tup_dp hp32, tup_dp (s2932 _ _ hqp29), tup_shaped _, tup_shaped _, _, rfl, iteSf (by rw [eqr, tup_eqv]; rfl) ?_⟩
        exact ⟨bu729.trans (Same.but s2932), hb29.keep s2932, _, _, _, _, _, _, _, _, _, _, _, _, _, rfl⟩
    · rintro σ H8 ⟨bu8, hb8, x8, x9, x10, x11, x12, x13, x14, x15, x16, x17, x18, x19, x20, rfl⟩
      have lat8 := lat7.but hb7 bu8
      obtain ⟨dx8, pb8, os8, hx8, hpb8, hos8⟩ := id lat8
      refine ⟨(by decide : 1 ≤ sizeLine), fun z1 hz1 => ?_⟩
      obtain ⟨sz1, hz1'⟩ := new_at (o := .lst [V.int 0]) hz1
      refine ⟨_, rfl, z1, ((n : Nat) : Int), _, rfl, rfl, hz1', by omega, by omega, Nat.le_trans (show 1 * ((n : Nat) : Int).toNat ≤ 5 by omega) (by decide), fun z2 hz2 => ?_⟩
      rw [Int.toNat_natCast, rep_zero]
      obtain ⟨sz2, hz2'⟩ := new_at (o := .lst ((List.replicate n (0 : Int)).map V.int)) hz2
      refine ⟨_, _, rfl, .inl ⟨SqL.of hz2', fun z3 hz3 => ?_⟩⟩
      obtain ⟨sz3, hz3'⟩ := new_at (o := .tup ((List.replicate n (0 : Int)).map V.int)) hz3
      have s8a := (sz1.trans sz2).trans sz3
      generalize upd (upd (upd H8 z1 (HO.lst [V.int 0])) z2 (HO.lst (List.map V.int (List.replicate n 0)))) z3 (HO.tup (List.map V.int (List.replicate n 0))) = Ha at *
      -- the odd things
      refine ⟨_, rfl, z3, _, rfl, .inr (SqT.of hz3'), fun o1 ho1 => ?_⟩
      obtain ⟨t1, ho1'⟩ := new_at (o := .lst ((List.replicate n (0 : Int)).map V.int)) ho1
      refine ⟨_, rfl, (by decide : 1 ≤ sizeLine), fun o2 ho2 => ?_⟩
      obtain ⟨t2, ho2'⟩ := new_at (o := .tup [V.int 0]) ho2
      have t12 := t1.trans t2
      refine ⟨z3, o2, _, _, rfl, rfl, SqT.of (t12 _ _ hz3'), ho2', (fun z => nomatch z), by rw [List.length_map, List.length_replicate]; exact Nat.le_trans (Nat.add_le_add_right n5 1) (by decide), fun Hb o3 t3 ho3' => ?_⟩
      have t13 := t12.trans t3
      refine ⟨_, rfl, _, rfl, z3, _, rfl, SqT.of (t13 _ _ hz3'), fun w => absurd w (not_whole n n1), fun _ o4 ho4 => ?_⟩
      rw [cut_zeros n n1]
      obtain ⟨t4, ho4'⟩ := new_at (o := .tup ((List.replicate (n - 1) (0 : Int)).map V.int)) ho4
      refine ⟨(by decide : 1 ≤ sizeLine), fun o5 ho5 => ?_⟩
      obtain ⟨t5, ho5'⟩ := new_at (o := .tup [V.bl false]) ho5
      refine ⟨o4, o5, _, _, rfl, rfl, SqT.of (t5 _ _ ho4'), ho5', (fun z => nomatch z), by rw [List.length_map, List.length_replicate]; exact Nat.le_trans (Nat.add_le_add_right (show n - 1 ≤ 5 by omega) 1) (by decide), fun Hc o6 t6 ho6' => ?_⟩
      have t36 := (t4.trans t5).trans t6
      have t16 := t13.trans t36
      refine ⟨_, rfl, (by decide : 1 ≤ sizeLine), fun o7 ho7 => ?_⟩
      obtain ⟨t7, ho7'⟩ := new_at (o := .lst [V.ref z3]) ho7
      refine ⟨(by decide : 7 ≤ sizeLine), fun od hod => ?_⟩
      obtain ⟨t8, hod'⟩ := new_at (o := .lst [V.non, V.int 0, V.str "0", V.ref o1, V.ref o3, V.ref o6, V.ref o7]) hod
      have t18 := (t16.trans t7).trans t8
      have k1 := ((t2.trans t3).trans (t36.trans (t7.trans t8))) _ _ ho1'
      have k3 := (t36.trans (t7.trans t8)) _ _ ho3'
      have k6 := (t7.trans t8) _ _ ho6'
      have k7 := t8 _ _ ho7'
      generalize upd (upd Hc o7 (HO.lst [V.ref z3])) od (HO.lst [V.non, V.int 0, V.str (Str.ofString "0"), V.ref o1, V.ref o3, V.ref o6, V.ref o7]) = Hd at *
      -- and one more
      refine ⟨_, rfl, _, rfl, _, rfl, z3, _, rfl, SqT.of (t18 _ _ hz3'), fun w => absurd w (not_whole n n1), fun _ p4 hp4 => ?_⟩
      rw [cut_zeros n n1]
      obtain ⟨r4, hp4'⟩ := new_at (o := .tup ((List.replicate (n - 1) (0 : Int)).map V.int)) hp4
      refine ⟨(by decide : 1 ≤ sizeLine), fun p5 hp5 => ?_⟩
      obtain ⟨r5, hp5'⟩ := new_at (o := .tup [V.non]) hp5
      refine ⟨p4, p5, _, _, rfl, rfl, SqT.of (r5 _ _ hp4'), hp5', (fun z => nomatch z), by rw [List.length_map, List.length_replicate]; exact Nat.le_trans (Nat.add_le_add_right (show n - 1 ≤ 5 by omega) 1) (by decide), fun He p6 r6 hp6' => ?_⟩
      have r46 := (r4.trans r5).trans r6
      refine ⟨(by decide : 1 ≤ sizeLine), fun p7 hp7 => ?_⟩
      obtain ⟨r7, hp7'⟩ := new_at (o := .lst [V.ref p6]) hp7
      have r47 := r46.trans r7
      refine ⟨od, p7, _, _, rfl, rfl, r47 _ _ hod', hp7', (by decide : 8 ≤ sizeLine), fun p8 hp8 => ?_⟩
      obtain ⟨r8, hp8'⟩ := new_at (o := .lst ([V.non, V.int 0, V.str "0", V.ref o1, V.ref o3, V.ref o6, V.ref o7] ++ [V.ref p6])) hp8
      have r48 := r47.trans r8
      have h8 := (r7.trans r8) _ _ hp6'
      have j1 := r48 _ _ k1
      have j3 := r48 _ _ k3
      have j6 := r48 _ _ k6
      have j7 := r48 _ _ k7
      have all := (s8a.trans t18).trans r48
      generalize upd (upd He p7 (HO.lst [V.ref p6])) p8 (HO.lst ([V.non, V.int 0, V.str (Str.ofString "0"), V.ref o1, V.ref o3, V.ref o6, V.ref o7] ++ [V.ref p6])) = Hf at *
      have odd : ∀ y ∈ ([V.non, V.int 0, V.str "0", V.ref o1, V.ref o3, V.ref o6, V.ref o7] ++ [V.ref p6]), Odd n Hf y := by
        intro y hy
        have ln : ∀ k : Nat, ((List.replicate k (0 : Int)).map V.int).length = k := fun k => by rw [List.length_map, List.length_replicate]
        simp only [List.cons_append, List.nil_append, List.mem_cons, List.not_mem_nil, or_false] at hy
        rcases hy with e | e | e | e | e | e | e | e <;> subst e
        · exact .inl .non
        · exact .inl (.int 0)
        · exact .inl (.str _)
        · exact .inl (.lst j1)
        · refine .inr ⟨o3, _, _, rfl, j3, paired_snoc (flat_zeros n) (.int 0), by rw [List.length_append, ln]; show n + 1 ≤ 1000; omega, ?_⟩
          rw [List.length_append, ln, decide_eq_false (show ¬ n + [V.int 0].length = n by show ¬ n + 1 = n; omega), Bool.false_and]
        · refine .inr ⟨o6, _, _, rfl, j6, paired_snoc (flat_zeros (n - 1)) (.bl false), by rw [List.length_append, ln]; show n - 1 + 1 ≤ 1000; omega, ?_⟩
          rw [List.all_append]; simp
        · exact .inl (.lst j7)
        · refine .inr ⟨p6, _, _, rfl, h8, paired_snoc (flat_zeros (n - 1)) .non, by rw [List.length_append, ln]; show n - 1 + 1 ≤ 1000; omega, ?_⟩
          rw [List.all_append]; simp
      have latf := lat8.keep all
      have hbf := hb8.keep all
      have buf : But b H2 Hf := fun y o nb z => all _ _ (bu8 _ _ nb (s7 _ _ (s6 _ _ (bu5 y o nb (by rw [upd_ne nb, upd_ne nb]; exact bu3 y o nb z)))))
      refine ⟨p8, rfl, ⟨_, SqL.of hp8'⟩, for_it (walk_list (xs := [V.non, V.int 0, V.str "0", V.ref o1, V.ref o3, V.ref o6, V.ref o7] ++ [V.ref p6])) (fun t σ H' => Same Hf H' ∧ ∃ x16 x17 x18 x19 x20, σ = [some (.ref a), some (.int (0 + ((i : Nat) : Int))), some (.ref b), some (.int (0 + ((j : Nat) : Int))), some (.int ((n : Nat) : Int)), some (.ref l), some (.ref x), some (.ref d7), x8, x9, x10, x11, x12, x13, some (.ref z3), some (.ref od), x16, x17, x18, x19, x20]) ⟨Same.refl _, _, _, _, _, _, rfl⟩ (fun t σ H' _ z => SqL.of (z.1 _ _ hp8')) ?_ ?_⟩
      · rintro t y σ H' H'' ht ⟨sm, x16, x17, x18, x19, x20, rfl⟩ ⟨rfl, ey⟩
        have oy := (odd y (List.mem_of_getElem? ey)).keep sm
        have latg := latf.keep sm
        obtain ⟨dxg, pbg, osg, hxg, hpbg, hosg⟩ := id latg
        refine ⟨_, rfl, _, rfl, x, dxg, _, rfl, hxg, x, y, n, B0, rfl, latg, by omega, .inr ?_⟩
        rcases oy with nt | ⟨p, xs, bs, rfl, hp, fl, l1, e1⟩
        · exact .inr ⟨nt, _, rfl, _, rfl, iteSf rfl ⟨sm, _, _, _, _, _, rfl⟩⟩
        · exact .inl ⟨p, xs, bs, rfl, hp, fl, l1, e1, fun Hg sg => ⟨_, rfl, _, rfl, iteSf rfl ⟨sm.trans sg, _, _, _, _, _, rfl⟩⟩⟩
      · rintro σ H' ⟨sm, x16, x17, x18, x19, x20, rfl⟩
        exact ⟨buf.trans (Same.but sm), hbf.keep sm, _, _, _, _, _, _, _, _, _, _, _, _, _, _, _, _, _, _, rfl⟩
  · rintro σ H3 ⟨bu3, hb3, x3, x4, x5, x6, x7, x8, x9, x10, x11, x12, x13, x14, x15, x16, x17, x18, x19, x20, rfl⟩
    exact ⟨fun y o z => bu3 y o (ne_of_none (s1 _ _ z) hb0) (s2 _ _ (s1 _ _ z)), _, _, _, _, _, _, _, _, _, _, _, _, _, _, _, _, _, _, _, _, rfl⟩
end
end K06

namespace K06
open PySem L2
theorem facts {P : Program} {w : World} {K : PySem.W.Frag} {mg : Str → Option Value} {h : Heap} {fa : Addr} (X : K.In h) (G : h.Ns mainGlobals mg) (hfa : mg "law" = some (.ref fa))
    {C fI fR fC T0 t0 f_is_integer f_is_sequence f_is_width f_is_vector f_are_vectors f_added f_pivot_of f_is_zero f_reduced_by f_cleared f_stepped f_positive f_tidied f_grown f_law_box f_law_take f_law_small f_law_number f_law_rows f_law_put f_law_echelon f_law_left f_law_is_in f_law_sum f_law : Addr}
    {oc_Lattice_init kV_Lattice_init dc_Lattice_init pm_Lattice_init cd_Lattice_init ct_Lattice_init : Value} {od_Lattice_init an_Lattice_init : Option Addr} {sl_Lattice_init : Array (Option Value)}
    {ocT : Value} {odT od0 : Option Addr} {nT n0 : Nat} {slT sl0 : Array (Option Value)}
    {oc_Lattice_reduced kV_Lattice_reduced dc_Lattice_reduced pm_Lattice_reduced cd_Lattice_reduced ct_Lattice_reduced : Value} {od_Lattice_reduced an_Lattice_reduced : Option Addr} {sl_Lattice_reduced : Array (Option Value)}
    {oc_Lattice_contains kV_Lattice_contains dc_Lattice_contains pm_Lattice_contains cd_Lattice_contains ct_Lattice_contains : Value} {od_Lattice_contains an_Lattice_contains : Option Addr} {sl_Lattice_contains : Array (Option Value)}
    {oc_is_integer kV_is_integer dc_is_integer pm_is_integer cd_is_integer ct_is_integer : Value} {od_is_integer an_is_integer : Option Addr} {sl_is_integer : Array (Option Value)}
    {oc_is_sequence kV_is_sequence dc_is_sequence pm_is_sequence cd_is_sequence ct_is_sequence : Value} {od_is_sequence an_is_sequence : Option Addr} {sl_is_sequence : Array (Option Value)}
    {oc_is_width kV_is_width dc_is_width pm_is_width cd_is_width ct_is_width : Value} {od_is_width an_is_width : Option Addr} {sl_is_width : Array (Option Value)}
    {oc_is_vector kV_is_vector dc_is_vector pm_is_vector cd_is_vector ct_is_vector : Value} {od_is_vector an_is_vector : Option Addr} {sl_is_vector : Array (Option Value)}
    {oc_are_vectors kV_are_vectors dc_are_vectors pm_are_vectors cd_are_vectors ct_are_vectors : Value} {od_are_vectors an_are_vectors : Option Addr} {sl_are_vectors : Array (Option Value)}
    {oc_added kV_added dc_added pm_added cd_added ct_added : Value} {od_added an_added : Option Addr} {sl_added : Array (Option Value)}
    {oc_pivot_of kV_pivot_of dc_pivot_of pm_pivot_of cd_pivot_of ct_pivot_of : Value} {od_pivot_of an_pivot_of : Option Addr} {sl_pivot_of : Array (Option Value)}
    {oc_is_zero kV_is_zero dc_is_zero pm_is_zero cd_is_zero ct_is_zero : Value} {od_is_zero an_is_zero : Option Addr} {sl_is_zero : Array (Option Value)}
    {oc_reduced_by kV_reduced_by dc_reduced_by pm_reduced_by cd_reduced_by ct_reduced_by : Value} {od_reduced_by an_reduced_by : Option Addr} {sl_reduced_by : Array (Option Value)}
    {oc_cleared kV_cleared dc_cleared pm_cleared cd_cleared ct_cleared : Value} {od_cleared an_cleared : Option Addr} {sl_cleared : Array (Option Value)}
    {oc_stepped kV_stepped dc_stepped pm_stepped cd_stepped ct_stepped : Value} {od_stepped an_stepped : Option Addr} {sl_stepped : Array (Option Value)}
    {oc_positive kV_positive dc_positive pm_positive cd_positive ct_positive : Value} {od_positive an_positive : Option Addr} {sl_positive : Array (Option Value)}
    {oc_tidied kV_tidied dc_tidied pm_tidied cd_tidied ct_tidied : Value} {od_tidied an_tidied : Option Addr} {sl_tidied : Array (Option Value)}
    {oc_grown kV_grown dc_grown pm_grown cd_grown ct_grown : Value} {od_grown an_grown : Option Addr} {sl_grown : Array (Option Value)}
    {oc_law_box kV_law_box dc_law_box pm_law_box cd_law_box ct_law_box : Value} {od_law_box an_law_box : Option Addr} {sl_law_box : Array (Option Value)}
    {oc_law_take kV_law_take dc_law_take pm_law_take cd_law_take ct_law_take : Value} {od_law_take an_law_take : Option Addr} {sl_law_take : Array (Option Value)}
    {oc_law_small kV_law_small dc_law_small pm_law_small cd_law_small ct_law_small : Value} {od_law_small an_law_small : Option Addr} {sl_law_small : Array (Option Value)}
    {oc_law_number kV_law_number dc_law_number pm_law_number cd_law_number ct_law_number : Value} {od_law_number an_law_number : Option Addr} {sl_law_number : Array (Option Value)}
    {oc_law_rows kV_law_rows dc_law_rows pm_law_rows cd_law_rows ct_law_rows : Value} {od_law_rows an_law_rows : Option Addr} {sl_law_rows : Array (Option Value)}
    {oc_law_put kV_law_put dc_law_put pm_law_put cd_law_put ct_law_put : Value} {od_law_put an_law_put : Option Addr} {sl_law_put : Array (Option Value)}
    {oc_law_echelon kV_law_echelon dc_law_echelon pm_law_echelon cd_law_echelon ct_law_echelon : Value} {od_law_echelon an_law_echelon : Option Addr} {sl_law_echelon : Array (Option Value)}
    {oc_law_left kV_law_left dc_law_left pm_law_left cd_law_left ct_law_left : Value} {od_law_left an_law_left : Option Addr} {sl_law_left : Array (Option Value)}
    {oc_law_is_in kV_law_is_in dc_law_is_in pm_law_is_in cd_law_is_in ct_law_is_in : Value} {od_law_is_in an_law_is_in : Option Addr} {sl_law_is_in : Array (Option Value)}
    {oc_law_sum kV_law_sum dc_law_sum pm_law_sum cd_law_sum ct_law_sum : Value} {od_law_sum an_law_sum : Option Addr} {sl_law_sum : Array (Option Value)}
    {oc_law kV_law dc_law pm_law cd_law ct_law : Value} {od_law an_law : Option Addr} {sl_law : Array (Option Value)}
    (aC : PySem.W.nsIn K mainGlobals "Lattice" = some (some (.ref C)))
    (pg : PySem.W.plainGet K C Str.empty = true)
    (hd : PySem.W.hasDictIn K C = true)
    (po : PySem.W.plainOver K C = true)
    (sa : PySem.W.findIn K (.ref C) "__setattr__" = some (some (.builtin "object.__setattr__")))
    (mk : PySem.W.makesIn K C = true)
    (ini : PySem.W.findIn K (.ref C) "__init__" = some (some (.ref fI)))
    (fnI : PySem.W.isFn K (.ref fI) = true)
    (kC : PySem.W.keepIn K (.ref C) = true)
    (nW : PySem.W.findIn K (.ref C) "width" = some none)
    (nB : PySem.W.findIn K (.ref C) "basis" = some none)
    (mR : PySem.W.findIn K (.ref C) "reduced" = some (some (.ref fR)))
    (fnR : PySem.W.isFn K (.ref fR) = true)
    (mC : PySem.W.findIn K (.ref C) "__contains__" = some (some (.ref fC)))
    (fnC : PySem.W.isFn K (.ref fC) = true)
    (l_Lattice_init : K.lookup fI = some ⟨oc_Lattice_init, od_Lattice_init, .func (PySem.W.fnOf "__init__" "Lattice.__init__" (defArgs s_Lattice_init) (defBody s_Lattice_init) (defScope s_Lattice_init) (.ref T0) kV_Lattice_init dc_Lattice_init pm_Lattice_init an_Lattice_init cd_Lattice_init ct_Lattice_init), sl_Lattice_init⟩)
    (c_Lattice_init : PySem.W.codeIn K cd_Lattice_init "Lattice.__init__" = true)
    (k_Lattice_init : PySem.W.keepIn K (.ref fI) = true)
    (lT : K.lookup T0 = some ⟨ocT, odT, .seq #[.ref t0] nT, slT⟩)
    (l0 : K.lookup t0 = some ⟨.type "tuple", od0, .seq #[] n0, sl0⟩)
    (l_Lattice_reduced : K.lookup fR = some ⟨oc_Lattice_reduced, od_Lattice_reduced, .func (PySem.W.fnOf "reduced" "Lattice.reduced" (defArgs s_Lattice_reduced) (defBody s_Lattice_reduced) (defScope s_Lattice_reduced) .none kV_Lattice_reduced dc_Lattice_reduced pm_Lattice_reduced an_Lattice_reduced cd_Lattice_reduced ct_Lattice_reduced), sl_Lattice_reduced⟩)
    (c_Lattice_reduced : PySem.W.codeIn K cd_Lattice_reduced "Lattice.reduced" = true)
    (k_Lattice_reduced : PySem.W.keepIn K (.ref fR) = true)
    (l_Lattice_contains : K.lookup fC = some ⟨oc_Lattice_contains, od_Lattice_contains, .func (PySem.W.fnOf "__contains__" "Lattice.__contains__" (defArgs s_Lattice_contains) (defBody s_Lattice_contains) (defScope s_Lattice_contains) .none kV_Lattice_contains dc_Lattice_contains pm_Lattice_contains an_Lattice_contains cd_Lattice_contains ct_Lattice_contains), sl_Lattice_contains⟩)
    (c_Lattice_contains : PySem.W.codeIn K cd_Lattice_contains "Lattice.__contains__" = true)
    (k_Lattice_contains : PySem.W.keepIn K (.ref fC) = true)
    (a_is_integer : PySem.W.nsIn K mainGlobals "is_integer" = some (some (.ref f_is_integer)))
    (l_is_integer : K.lookup f_is_integer = some ⟨oc_is_integer, od_is_integer, .func (PySem.W.fnOf "is_integer" "is_integer" (defArgs s_is_integer) (defBody s_is_integer) (defScope s_is_integer) .none kV_is_integer dc_is_integer pm_is_integer an_is_integer cd_is_integer ct_is_integer), sl_is_integer⟩)
    (c_is_integer : PySem.W.codeIn K cd_is_integer "is_integer" = true)
    (k_is_integer : PySem.W.keepIn K (.ref f_is_integer) = true)
    (a_is_sequence : PySem.W.nsIn K mainGlobals "is_sequence" = some (some (.ref f_is_sequence)))
    (l_is_sequence : K.lookup f_is_sequence = some ⟨oc_is_sequence, od_is_sequence, .func (PySem.W.fnOf "is_sequence" "is_sequence" (defArgs s_is_sequence) (defBody s_is_sequence) (defScope s_is_sequence) .none kV_is_sequence dc_is_sequence pm_is_sequence an_is_sequence cd_is_sequence ct_is_sequence), sl_is_sequence⟩)
    (c_is_sequence : PySem.W.codeIn K cd_is_sequence "is_sequence" = true)
    (k_is_sequence : PySem.W.keepIn K (.ref f_is_sequence) = true)
    (a_is_width : PySem.W.nsIn K mainGlobals "is_width" = some (some (.ref f_is_width)))
    (l_is_width : K.lookup f_is_width = some ⟨oc_is_width, od_is_width, .func (PySem.W.fnOf "is_width" "is_width" (defArgs s_is_width) (defBody s_is_width) (defScope s_is_width) .none kV_is_width dc_is_width pm_is_width an_is_width cd_is_width ct_is_width), sl_is_width⟩)
    (c_is_width : PySem.W.codeIn K cd_is_width "is_width" = true)
    (k_is_width : PySem.W.keepIn K (.ref f_is_width) = true)
    (a_is_vector : PySem.W.nsIn K mainGlobals "is_vector" = some (some (.ref f_is_vector)))
    (l_is_vector : K.lookup f_is_vector = some ⟨oc_is_vector, od_is_vector, .func (PySem.W.fnOf "is_vector" "is_vector" (defArgs s_is_vector) (defBody s_is_vector) (defScope s_is_vector) .none kV_is_vector dc_is_vector pm_is_vector an_is_vector cd_is_vector ct_is_vector), sl_is_vector⟩)
    (c_is_vector : PySem.W.codeIn K cd_is_vector "is_vector" = true)
    (k_is_vector : PySem.W.keepIn K (.ref f_is_vector) = true)
    (a_are_vectors : PySem.W.nsIn K mainGlobals "are_vectors" = some (some (.ref f_are_vectors)))
    (l_are_vectors : K.lookup f_are_vectors = some ⟨oc_are_vectors, od_are_vectors, .func (PySem.W.fnOf "are_vectors" "are_vectors" (defArgs s_are_vectors) (defBody s_are_vectors) (defScope s_are_vectors) .none kV_are_vectors dc_are_vectors pm_are_vectors an_are_vectors cd_are_vectors ct_are_vectors), sl_are_vectors⟩)
    (c_are_vectors : PySem.W.codeIn K cd_are_vectors "are_vectors" = true)
    (k_are_vectors : PySem.W.keepIn K (.ref f_are_vectors) = true)
    (a_added : PySem.W.nsIn K mainGlobals "added" = some (some (.ref f_added)))
    (l_added : K.lookup f_added = some ⟨oc_added, od_added, .func (PySem.W.fnOf "added" "added" (defArgs s_added) (defBody s_added) (defScope s_added) .none kV_added dc_added pm_added an_added cd_added ct_added), sl_added⟩)
    (c_added : PySem.W.codeIn K cd_added "added" = true)
    (k_added : PySem.W.keepIn K (.ref f_added) = true)
    (a_pivot_of : PySem.W.nsIn K mainGlobals "pivot_of" = some (some (.ref f_pivot_of)))
    (l_pivot_of : K.lookup f_pivot_of = some ⟨oc_pivot_of, od_pivot_of, .func (PySem.W.fnOf "pivot_of" "pivot_of" (defArgs s_pivot_of) (defBody s_pivot_of) (defScope s_pivot_of) .none kV_pivot_of dc_pivot_of pm_pivot_of an_pivot_of cd_pivot_of ct_pivot_of), sl_pivot_of⟩)
    (c_pivot_of : PySem.W.codeIn K cd_pivot_of "pivot_of" = true)
    (k_pivot_of : PySem.W.keepIn K (.ref f_pivot_of) = true)
    (a_is_zero : PySem.W.nsIn K mainGlobals "is_zero" = some (some (.ref f_is_zero)))
    (l_is_zero : K.lookup f_is_zero = some ⟨oc_is_zero, od_is_zero, .func (PySem.W.fnOf "is_zero" "is_zero" (defArgs s_is_zero) (defBody s_is_zero) (defScope s_is_zero) .none kV_is_zero dc_is_zero pm_is_zero an_is_zero cd_is_zero ct_is_zero), sl_is_zero⟩)
    (c_is_zero : PySem.W.codeIn K cd_is_zero "is_zero" = true)
    (k_is_zero : PySem.W.keepIn K (.ref f_is_zero) = true)
    (a_reduced_by : PySem.W.nsIn K mainGlobals "reduced_by" = some (some (.ref f_reduced_by)))
    (l_reduced_by : K.lookup f_reduced_by = some ⟨oc_reduced_by, od_reduced_by, .func (PySem.W.fnOf "reduced_by" "reduced_by" (defArgs s_reduced_by) (defBody s_reduced_by) (defScope s_reduced_by) .none kV_reduced_by dc_reduced_by pm_reduced_by an_reduced_by cd_reduced_by ct_reduced_by), sl_reduced_by⟩)
    (c_reduced_by : PySem.W.codeIn K cd_reduced_by "reduced_by" = true)
    (k_reduced_by : PySem.W.keepIn K (.ref f_reduced_by) = true)
    (a_cleared : PySem.W.nsIn K mainGlobals "cleared" = some (some (.ref f_cleared)))
    (l_cleared : K.lookup f_cleared = some ⟨oc_cleared, od_cleared, .func (PySem.W.fnOf "cleared" "cleared" (defArgs s_cleared) (defBody s_cleared) (defScope s_cleared) .none kV_cleared dc_cleared pm_cleared an_cleared cd_cleared ct_cleared), sl_cleared⟩)
    (c_cleared : PySem.W.codeIn K cd_cleared "cleared" = true)
    (k_cleared : PySem.W.keepIn K (.ref f_cleared) = true)
    (a_stepped : PySem.W.nsIn K mainGlobals "stepped" = some (some (.ref f_stepped)))
    (l_stepped : K.lookup f_stepped = some ⟨oc_stepped, od_stepped, .func (PySem.W.fnOf "stepped" "stepped" (defArgs s_stepped) (defBody s_stepped) (defScope s_stepped) .none kV_stepped dc_stepped pm_stepped an_stepped cd_stepped ct_stepped), sl_stepped⟩)
    (c_stepped : PySem.W.codeIn K cd_stepped "stepped" = true)
    (k_stepped : PySem.W.keepIn K (.ref f_stepped) = true)
    (a_positive : PySem.W.nsIn K mainGlobals "positive" = some (some (.ref f_positive)))
    (l_positive : K.lookup f_positive = some ⟨oc_positive, od_positive, .func (PySem.W.fnOf "positive" "positive" (defArgs s_positive) (defBody s_positive) (defScope s_positive) .none kV_positive dc_positive pm_positive an_positive cd_positive ct_positive), sl_positive⟩)
    (c_positive : PySem.W.codeIn K cd_positive "positive" = true)
    (k_positive : PySem.W.keepIn K (.ref f_positive) = true)
    (a_tidied : PySem.W.nsIn K mainGlobals "tidied" = some (some (.ref f_tidied)))
    (l_tidied : K.lookup f_tidied = some ⟨oc_tidied, od_tidied, .func (PySem.W.fnOf "tidied" "tidied" (defArgs s_tidied) (defBody s_tidied) (defScope s_tidied) .none kV_tidied dc_tidied pm_tidied an_tidied cd_tidied ct_tidied), sl_tidied⟩)
    (c_tidied : PySem.W.codeIn K cd_tidied "tidied" = true)
    (k_tidied : PySem.W.keepIn K (.ref f_tidied) = true)
    (a_grown : PySem.W.nsIn K mainGlobals "grown" = some (some (.ref f_grown)))
    (l_grown : K.lookup f_grown = some ⟨oc_grown, od_grown, .func (PySem.W.fnOf "grown" "grown" (defArgs s_grown) (defBody s_grown) (defScope s_grown) .none kV_grown dc_grown pm_grown an_grown cd_grown ct_grown), sl_grown⟩)
    (c_grown : PySem.W.codeIn K cd_grown "grown" = true)
    (k_grown : PySem.W.keepIn K (.ref f_grown) = true)
    (a_law_box : PySem.W.nsIn K mainGlobals "_law_box" = some (some (.ref f_law_box)))
    (l_law_box : K.lookup f_law_box = some ⟨oc_law_box, od_law_box, .func (PySem.W.fnOf "_law_box" "_law_box" (defArgs s_law_box) (defBody s_law_box) (defScope s_law_box) .none kV_law_box dc_law_box pm_law_box an_law_box cd_law_box ct_law_box), sl_law_box⟩)
    (c_law_box : PySem.W.codeIn K cd_law_box "_law_box" = true)
    (k_law_box : PySem.W.keepIn K (.ref f_law_box) = true)
    (a_law_take : PySem.W.nsIn K mainGlobals "_law_take" = some (some (.ref f_law_take)))
    (l_law_take : K.lookup f_law_take = some ⟨oc_law_take, od_law_take, .func (PySem.W.fnOf "_law_take" "_law_take" (defArgs s_law_take) (defBody s_law_take) (defScope s_law_take) .none kV_law_take dc_law_take pm_law_take an_law_take cd_law_take ct_law_take), sl_law_take⟩)
    (c_law_take : PySem.W.codeIn K cd_law_take "_law_take" = true)
    (k_law_take : PySem.W.keepIn K (.ref f_law_take) = true)
    (a_law_small : PySem.W.nsIn K mainGlobals "_law_small" = some (some (.ref f_law_small)))
    (l_law_small : K.lookup f_law_small = some ⟨oc_law_small, od_law_small, .func (PySem.W.fnOf "_law_small" "_law_small" (defArgs s_law_small) (defBody s_law_small) (defScope s_law_small) .none kV_law_small dc_law_small pm_law_small an_law_small cd_law_small ct_law_small), sl_law_small⟩)
    (c_law_small : PySem.W.codeIn K cd_law_small "_law_small" = true)
    (k_law_small : PySem.W.keepIn K (.ref f_law_small) = true)
    (a_law_number : PySem.W.nsIn K mainGlobals "_law_number" = some (some (.ref f_law_number)))
    (l_law_number : K.lookup f_law_number = some ⟨oc_law_number, od_law_number, .func (PySem.W.fnOf "_law_number" "_law_number" (defArgs s_law_number) (defBody s_law_number) (defScope s_law_number) .none kV_law_number dc_law_number pm_law_number an_law_number cd_law_number ct_law_number), sl_law_number⟩)
    (c_law_number : PySem.W.codeIn K cd_law_number "_law_number" = true)
    (k_law_number : PySem.W.keepIn K (.ref f_law_number) = true)
    (a_law_rows : PySem.W.nsIn K mainGlobals "_law_rows" = some (some (.ref f_law_rows)))
    (l_law_rows : K.lookup f_law_rows = some ⟨oc_law_rows, od_law_rows, .func (PySem.W.fnOf "_law_rows" "_law_rows" (defArgs s_law_rows) (defBody s_law_rows) (defScope s_law_rows) .none kV_law_rows dc_law_rows pm_law_rows an_law_rows cd_law_rows ct_law_rows), sl_law_rows⟩)
    (c_law_rows : PySem.W.codeIn K cd_law_rows "_law_rows" = true)
    (k_law_rows : PySem.W.keepIn K (.ref f_law_rows) = true)
    (a_law_put : PySem.W.nsIn K mainGlobals "_law_put" = some (some (.ref f_law_put)))
    (l_law_put : K.lookup f_law_put = some ⟨oc_law_put, od_law_put, .func (PySem.W.fnOf "_law_put" "_law_put" (defArgs s_law_put) (defBody s_law_put) (defScope s_law_put) .none kV_law_put dc_law_put pm_law_put an_law_put cd_law_put ct_law_put), sl_law_put⟩)
    (c_law_put : PySem.W.codeIn K cd_law_put "_law_put" = true)
    (k_law_put : PySem.W.keepIn K (.ref f_law_put) = true)
    (a_law_echelon : PySem.W.nsIn K mainGlobals "_law_echelon" = some (some (.ref f_law_echelon)))
    (l_law_echelon : K.lookup f_law_echelon = some ⟨oc_law_echelon, od_law_echelon, .func (PySem.W.fnOf "_law_echelon" "_law_echelon" (defArgs s_law_echelon) (defBody s_law_echelon) (defScope s_law_echelon) .none kV_law_echelon dc_law_echelon pm_law_echelon an_law_echelon cd_law_echelon ct_law_echelon), sl_law_echelon⟩)
    (c_law_echelon : PySem.W.codeIn K cd_law_echelon "_law_echelon" = true)
    (k_law_echelon : PySem.W.keepIn K (.ref f_law_echelon) = true)
    (a_law_left : PySem.W.nsIn K mainGlobals "_law_left" = some (some (.ref f_law_left)))
    (l_law_left : K.lookup f_law_left = some ⟨oc_law_left, od_law_left, .func (PySem.W.fnOf "_law_left" "_law_left" (defArgs s_law_left) (defBody s_law_left) (defScope s_law_left) .none kV_law_left dc_law_left pm_law_left an_law_left cd_law_left ct_law_left), sl_law_left⟩)
    (c_law_left : PySem.W.codeIn K cd_law_left "_law_left" = true)
    (k_law_left : PySem.W.keepIn K (.ref f_law_left) = true)
    (a_law_is_in : PySem.W.nsIn K mainGlobals "_law_is_in" = some (some (.ref f_law_is_in)))
    (l_law_is_in : K.lookup f_law_is_in = some ⟨oc_law_is_in, od_law_is_in, .func (PySem.W.fnOf "_law_is_in" "_law_is_in" (defArgs s_law_is_in) (defBody s_law_is_in) (defScope s_law_is_in) .none kV_law_is_in dc_law_is_in pm_law_is_in an_law_is_in cd_law_is_in ct_law_is_in), sl_law_is_in⟩)
    (c_law_is_in : PySem.W.codeIn K cd_law_is_in "_law_is_in" = true)
    (k_law_is_in : PySem.W.keepIn K (.ref f_law_is_in) = true)
    (a_law_sum : PySem.W.nsIn K mainGlobals "_law_sum" = some (some (.ref f_law_sum)))
    (l_law_sum : K.lookup f_law_sum = some ⟨oc_law_sum, od_law_sum, .func (PySem.W.fnOf "_law_sum" "_law_sum" (defArgs s_law_sum) (defBody s_law_sum) (defScope s_law_sum) .none kV_law_sum dc_law_sum pm_law_sum an_law_sum cd_law_sum ct_law_sum), sl_law_sum⟩)
    (c_law_sum : PySem.W.codeIn K cd_law_sum "_law_sum" = true)
    (k_law_sum : PySem.W.keepIn K (.ref f_law_sum) = true)
    (a_law : PySem.W.nsIn K mainGlobals "law" = some (some (.ref f_law)))
    (l_law : K.lookup f_law = some ⟨oc_law, od_law, .func (PySem.W.fnOf "law" "law" (defArgs s_law) (defBody s_law) (defScope s_law) .none kV_law dc_law pm_law an_law cd_law ct_law), sl_law⟩)
    (c_law : PySem.W.codeIn K cd_law "law" = true)
    (k_law : PySem.W.keepIn K (.ref f_law) = true)
    (z_len : PySem.W.nsIn K mainGlobals "len" = some none)
    (z_abs : PySem.W.nsIn K mainGlobals "abs" = some none)
    (z_int : PySem.W.nsIn K mainGlobals "int" = some none)
    (z_max : PySem.W.nsIn K mainGlobals "max" = some none)
    (z_min : PySem.W.nsIn K mainGlobals "min" = some none)
    (z_range : PySem.W.nsIn K mainGlobals "range" = some none)
    (z_enumerate : PySem.W.nsIn K mainGlobals "enumerate" = some none)
    (z_isinstance : PySem.W.nsIn K mainGlobals "isinstance" = some none)
    (z_repr : PySem.W.nsIn K mainGlobals "repr" = some none)
    (z_zip : PySem.W.nsIn K mainGlobals "zip" = some none)
    (z_sum : PySem.W.nsIn K mainGlobals "sum" = some none)
    (z_all : PySem.W.nsIn K mainGlobals "all" = some none)
    (z_tuple : PySem.W.nsIn K mainGlobals "tuple" = some none)
    (z_list : PySem.W.nsIn K mainGlobals "list" = some none)
    (z_bool : PySem.W.nsIn K mainGlobals "bool" = some none)
    : ∀ base : Heap, K.In base → base.Ns mainGlobals mg → LawOk P w K mg base 8 fa (spLaw K) := by
  intro base _ _
  cases hfa.symm.trans (PySem.W.mg_of X G a_law)
  have T : Txt mg := ⟨PySem.W.mg_none_of X G z_len, PySem.W.mg_none_of X G z_abs, PySem.W.mg_none_of X G z_int, PySem.W.mg_none_of X G z_max, PySem.W.mg_none_of X G z_min, PySem.W.mg_none_of X G z_range, PySem.W.mg_none_of X G z_enumerate, PySem.W.mg_none_of X G z_isinstance, PySem.W.mg_none_of X G z_repr, PySem.W.mg_none_of X G z_zip, PySem.W.mg_none_of X G z_sum, PySem.W.mg_none_of X G z_all, PySem.W.mg_none_of X G z_tuple, PySem.W.mg_none_of X G z_list, PySem.W.mg_none_of X G z_bool⟩
  have CL : ClsL K mg C := ⟨⟨pg, hd, po, sa⟩, nW, nB, PySem.W.mg_of X G aC⟩
  have D_is_integer := fun_mk (st := s_is_integer) l_is_integer c_is_integer k_is_integer
  have A_is_integer : DefAt K mg "is_integer" s_is_integer ["value"] := ⟨f_is_integer, _, D_is_integer, PySem.W.mg_of X G a_is_integer, D_is_integer.binds (fun _ _ _ _ _ _ us hl => match us, hl with | [_], _ => rfl)⟩
  have D_is_sequence := fun_mk (st := s_is_sequence) l_is_sequence c_is_sequence k_is_sequence
  have A_is_sequence : DefAt K mg "is_sequence" s_is_sequence ["value"] := ⟨f_is_sequence, _, D_is_sequence, PySem.W.mg_of X G a_is_sequence, D_is_sequence.binds (fun _ _ _ _ _ _ us hl => match us, hl with | [_], _ => rfl)⟩
  have D_is_width := fun_mk (st := s_is_width) l_is_width c_is_width k_is_width
  have A_is_width : DefAt K mg "is_width" s_is_width ["value"] := ⟨f_is_width, _, D_is_width, PySem.W.mg_of X G a_is_width, D_is_width.binds (fun _ _ _ _ _ _ us hl => match us, hl with | [_], _ => rfl)⟩
  have D_is_vector := fun_mk (st := s_is_vector) l_is_vector c_is_vector k_is_vector
  have A_is_vector : DefAt K mg "is_vector" s_is_vector ["value", "width"] := ⟨f_is_vector, _, D_is_vector, PySem.W.mg_of X G a_is_vector, D_is_vector.binds (fun _ _ _ _ _ _ us hl => match us, hl with | [_, _], _ => rfl)⟩
  have D_are_vectors := fun_mk (st := s_are_vectors) l_are_vectors c_are_vectors k_are_vectors
  have A_are_vectors : DefAt K mg "are_vectors" s_are_vectors ["value", "width"] := ⟨f_are_vectors, _, D_are_vectors, PySem.W.mg_of X G a_are_vectors, D_are_vectors.binds (fun _ _ _ _ _ _ us hl => match us, hl with | [_, _], _ => rfl)⟩
  have D_added := fun_mk (st := s_added) l_added c_added k_added
  have A_added : DefAt K mg "added" s_added ["vector", "times", "other"] := ⟨f_added, _, D_added, PySem.W.mg_of X G a_added, D_added.binds (fun _ _ _ _ _ _ us hl => match us, hl with | [_, _, _], _ => rfl)⟩
  have D_pivot_of := fun_mk (st := s_pivot_of) l_pivot_of c_pivot_of k_pivot_of
  have A_pivot_of : DefAt K mg "pivot_of" s_pivot_of ["vector"] := ⟨f_pivot_of, _, D_pivot_of, PySem.W.mg_of X G a_pivot_of, D_pivot_of.binds (fun _ _ _ _ _ _ us hl => match us, hl with | [_], _ => rfl)⟩
  have D_is_zero := fun_mk (st := s_is_zero) l_is_zero c_is_zero k_is_zero
  have A_is_zero : DefAt K mg "is_zero" s_is_zero ["vector"] := ⟨f_is_zero, _, D_is_zero, PySem.W.mg_of X G a_is_zero, D_is_zero.binds (fun _ _ _ _ _ _ us hl => match us, hl with | [_], _ => rfl)⟩
  have D_reduced_by := fun_mk (st := s_reduced_by) l_reduced_by c_reduced_by k_reduced_by
  have A_reduced_by : DefAt K mg "reduced_by" s_reduced_by ["basis", "vector"] := ⟨f_reduced_by, _, D_reduced_by, PySem.W.mg_of X G a_reduced_by, D_reduced_by.binds (fun _ _ _ _ _ _ us hl => match us, hl with | [_, _], _ => rfl)⟩
  have D_cleared := fun_mk (st := s_cleared) l_cleared c_cleared k_cleared
  have A_cleared : DefAt K mg "cleared" s_cleared ["row", "vector", "at"] := ⟨f_cleared, _, D_cleared, PySem.W.mg_of X G a_cleared, D_cleared.binds (fun _ _ _ _ _ _ us hl => match us, hl with | [_, _, _], _ => rfl)⟩
  have D_stepped := fun_mk (st := s_stepped) l_stepped c_stepped k_stepped
  have A_stepped : DefAt K mg "stepped" s_stepped ["steps", "vector"] := ⟨f_stepped, _, D_stepped, PySem.W.mg_of X G a_stepped, D_stepped.binds (fun _ _ _ _ _ _ us hl => match us, hl with | [_, _], _ => rfl)⟩
  have D_positive := fun_mk (st := s_positive) l_positive c_positive k_positive
  have A_positive : DefAt K mg "positive" s_positive ["row"] := ⟨f_positive, _, D_positive, PySem.W.mg_of X G a_positive, D_positive.binds (fun _ _ _ _ _ _ us hl => match us, hl with | [_], _ => rfl)⟩
  have D_tidied := fun_mk (st := s_tidied) l_tidied c_tidied k_tidied
  have A_tidied : DefAt K mg "tidied" s_tidied ["steps"] := ⟨f_tidied, _, D_tidied, PySem.W.mg_of X G a_tidied, D_tidied.binds (fun _ _ _ _ _ _ us hl => match us, hl with | [_], _ => rfl)⟩
  have D_grown := fun_mk (st := s_grown) l_grown c_grown k_grown
  have A_grown : DefAt K mg "grown" s_grown ["basis", "vector"] := ⟨f_grown, _, D_grown, PySem.W.mg_of X G a_grown, D_grown.binds (fun _ _ _ _ _ _ us hl => match us, hl with | [_, _], _ => rfl)⟩
  have D_law_box := fun_mk (st := s_law_box) l_law_box c_law_box k_law_box
  have A_law_box : DefAt K mg "_law_box" s_law_box ["_law_script", "_law_k", "_law_own"] := ⟨f_law_box, _, D_law_box, PySem.W.mg_of X G a_law_box, D_law_box.binds (fun _ _ _ _ _ _ us hl => match us, hl with | [_, _, _], _ => rfl)⟩
  have D_law_take := fun_mk (st := s_law_take) l_law_take c_law_take k_law_take
  have A_law_take : DefAt K mg "_law_take" s_law_take ["_law_box_here", "_law_many"] := ⟨f_law_take, _, D_law_take, PySem.W.mg_of X G a_law_take, D_law_take.binds (fun _ _ _ _ _ _ us hl => match us, hl with | [_, _], _ => rfl)⟩
  have D_law_small := fun_mk (st := s_law_small) l_law_small c_law_small k_law_small
  have A_law_small : DefAt K mg "_law_small" s_law_small ["_law_box_here"] := ⟨f_law_small, _, D_law_small, PySem.W.mg_of X G a_law_small, D_law_small.binds (fun _ _ _ _ _ _ us hl => match us, hl with | [_], _ => rfl)⟩
  have D_law_number := fun_mk (st := s_law_number) l_law_number c_law_number k_law_number
  have A_law_number : DefAt K mg "_law_number" s_law_number ["_law_box_here"] := ⟨f_law_number, _, D_law_number, PySem.W.mg_of X G a_law_number, D_law_number.binds (fun _ _ _ _ _ _ us hl => match us, hl with | [_], _ => rfl)⟩
  have D_law_rows := fun_mk (st := s_law_rows) l_law_rows c_law_rows k_law_rows
  have A_law_rows : DefAt K mg "_law_rows" s_law_rows ["_law_box_here", "_law_width", "_law_many", "_law_is_great"] := ⟨f_law_rows, _, D_law_rows, PySem.W.mg_of X G a_law_rows, D_law_rows.binds (fun _ _ _ _ _ _ us hl => match us, hl with | [_, _, _, _], _ => rfl)⟩
  have D_law_put := fun_mk (st := s_law_put) l_law_put c_law_put k_law_put
  have A_law_put : DefAt K mg "_law_put" s_law_put ["_law_known", "_law_row"] := ⟨f_law_put, _, D_law_put, PySem.W.mg_of X G a_law_put, D_law_put.binds (fun _ _ _ _ _ _ us hl => match us, hl with | [_, _], _ => rfl)⟩
  have D_law_echelon := fun_mk (st := s_law_echelon) l_law_echelon c_law_echelon k_law_echelon
  have A_law_echelon : DefAt K mg "_law_echelon" s_law_echelon ["_law_rows_here"] := ⟨f_law_echelon, _, D_law_echelon, PySem.W.mg_of X G a_law_echelon, D_law_echelon.binds (fun _ _ _ _ _ _ us hl => match us, hl with | [_], _ => rfl)⟩
  have D_law_left := fun_mk (st := s_law_left) l_law_left c_law_left k_law_left
  have A_law_left : DefAt K mg "_law_left" s_law_left ["_law_known", "_law_row"] := ⟨f_law_left, _, D_law_left, PySem.W.mg_of X G a_law_left, D_law_left.binds (fun _ _ _ _ _ _ us hl => match us, hl with | [_, _], _ => rfl)⟩
  have D_law_is_in := fun_mk (st := s_law_is_in) l_law_is_in c_law_is_in k_law_is_in
  have A_law_is_in : DefAt K mg "_law_is_in" s_law_is_in ["_law_known", "_law_row"] := ⟨f_law_is_in, _, D_law_is_in, PySem.W.mg_of X G a_law_is_in, D_law_is_in.binds (fun _ _ _ _ _ _ us hl => match us, hl with | [_, _], _ => rfl)⟩
  have D_law_sum := fun_mk (st := s_law_sum) l_law_sum c_law_sum k_law_sum
  have A_law_sum : DefAt K mg "_law_sum" s_law_sum ["_law_box_here", "_law_rows_here", "_law_width"] := ⟨f_law_sum, _, D_law_sum, PySem.W.mg_of X G a_law_sum, D_law_sum.binds (fun _ _ _ _ _ _ us hl => match us, hl with | [_, _, _], _ => rfl)⟩
  have D_law := fun_mk (st := s_law) l_law c_law k_law
  have D_red := fun_mk (st := s_Lattice_reduced) l_Lattice_reduced c_Lattice_reduced k_Lattice_reduced
  have D_con := fun_mk (st := s_Lattice_contains) l_Lattice_contains c_Lattice_contains k_Lattice_contains
  have b_red := D_red.binds (ps := ["self", "vector"]) (fun _ _ _ _ _ _ us hl => match us, hl with | [_, _], _ => rfl)
  have b_con := D_con.binds (ps := ["self", "x"]) (fun _ _ _ _ _ _ us hl => match us, hl with | [_, _], _ => rfl)
  have FI : FunD K "__init__" "Lattice.__init__" (defArgs s_Lattice_init) (defBody s_Lattice_init) (defScope s_Lattice_init) [V.ref t0] [] fI _ := ⟨⟨_, _, _, _, _, _, _, _, _, _, rfl, l_Lattice_init, c_Lattice_init, .inr ⟨(fun z => nomatch z), T0, _, [.ref t0], nT, rfl, lT, rfl, .cons rfl .nil⟩, .inl rfl⟩, k_Lattice_init⟩
  obtain ⟨d0, v0, b0⟩ := FI.binds1 (ps := ["self", "width", "rows"]) 3 1 (fun z => nomatch z) rfl (fun _ _ _ _ _ _ _ us its hu hi => match us, hu, its, hi with | [_, _, _], _, [_], _ => ⟨_, rfl, rfl⟩)
  cases v0
  have g_is_integerG := ok_is_integerG (P := P) (w := w) (base := base) T A_is_integer
  have g_is_sequence := ok_is_sequence (P := P) (w := w) (base := base) T A_is_sequence
  have g_is_integer := ok_is_integer (P := P) (w := w) (base := base) g_is_integerG
  have g_is_width := ok_is_width (P := P) (w := w) (base := base) T g_is_integer A_is_width
  have g_is_vectorG := ok_is_vectorG (P := P) (w := w) (base := base) T g_is_integerG A_is_vector
  have g_is_vector := ok_is_vector (P := P) (w := w) (base := base) g_is_vectorG
  have g_are_vectors := ok_are_vectors (P := P) (w := w) (base := base) T g_is_sequence g_is_vector A_are_vectors
  have g_added := ok_added (P := P) (w := w) (base := base) T A_added
  have g_pivot_of := ok_pivot_of (P := P) (w := w) (base := base) T A_pivot_of
  have g_is_zero := ok_is_zero (P := P) (w := w) (base := base) T g_pivot_of A_is_zero
  have g_reduced_by := ok_reduced_by (P := P) (w := w) (base := base) T g_pivot_of g_added A_reduced_by
  have g_cleared := ok_cleared (P := P) (w := w) (base := base) T g_added A_cleared
  have g_stepped := ok_stepped (P := P) (w := w) (base := base) T g_pivot_of g_cleared g_is_zero A_stepped
  have g_positive := ok_positive (P := P) (w := w) (base := base) T g_pivot_of g_added A_positive
  have g_tidied := ok_tidied (P := P) (w := w) (base := base) T g_positive g_reduced_by A_tidied
  have g_grown := ok_grown (P := P) (w := w) (base := base) T g_reduced_by g_is_zero g_stepped g_tidied A_grown
  have g_box := ok_box (P := P) (w := w) (base := base) T A_law_box
  have g_take := ok_take (P := P) (w := w) (base := base) T A_law_take
  have g_small := ok_small (P := P) (w := w) (base := base) T g_take A_law_small
  have g_number := ok_number (P := P) (w := w) (base := base) T g_take A_law_number
  have g_rows := ok_rows (P := P) (w := w) (base := base) T g_take g_small g_number A_law_rows
  have g_put := ok_put (P := P) (w := w) (base := base) T A_law_put
  have g_echelon := ok_echelon (P := P) (w := w) (base := base) T g_put A_law_echelon
  have g_left := ok_left (P := P) (w := w) (base := base) T A_law_left
  have g_is_in := ok_is_in (P := P) (w := w) (base := base) T g_left A_law_is_in
  have g_sum := ok_sum (P := P) (w := w) (base := base) T g_take A_law_sum
  have gL := ok_lattice (P := P) (w := w) (base := base) T CL g_is_width g_are_vectors g_grown FI
  have gR := ok_redM (P := P) (w := w) (base := base) CL g_reduced_by D_red
  have gC := ok_cont (P := P) (w := w) (base := base) CL ⟨mR, fnR, k_Lattice_reduced⟩ gR b_red g_is_vectorG g_is_zero D_con
  exact ok_law T CL ⟨mk, ini, fnI, kC⟩ gL b0 ⟨mR, fnR, k_Lattice_reduced⟩ gR b_red mC fnC gC b_con D_law (fun s u _ => .of_eq rfl) g_box g_take g_number g_rows g_echelon g_left g_is_in g_sum
end K06

open PySem PySem.W PyProof.Rows in
set_option maxRecDepth 100000 in
set_option maxHeartbeats 0 in
theorem PySem.Challenge.cw_sumlives_k04_vectors_in_lattices_holds : PySem.Challenge.rw_sumlives_k04_vectors_in_lattices.Holds := by
  w_on; o_law; k_head; (case hw => w_witness2)
  k_fill
  refine L2.walk_law (l := PySem.Challenge.rw_sumlives_k04_vectors_in_lattices) (n := 63) (k := 8) (sp := K06.spLaw) rfl (by decide) rfl ⟨rfl, by decide, by decide⟩ (fun w h Y => PySem.W.kIn_of Y) ?F (fun K H a ns hl hS => ⟨a, ns, rfl, hS, hl, fun _ => rfl⟩)
  case F =>
    intro w mg fa h KX G hmg
    refine' K06.facts KX G hmg ?aC ?pg ?hd ?po ?sa ?mk ?ini ?fnI ?kC ?nW ?nB ?mR ?fnR ?mC ?fnC ?l_Lattice_init ?c_Lattice_init ?k_Lattice_init ?lT ?l0 ?l_Lattice_reduced ?c_Lattice_reduced ?k_Lattice_reduced ?l_Lattice_contains ?c_Lattice_contains ?k_Lattice_contains ?a_is_integer ?l_is_integer ?c_is_integer ?k_is_integer ?a_is_sequence ?l_is_sequence ?c_is_sequence ?k_is_sequence ?a_is_width ?l_is_width ?c_is_width ?k_is_width ?a_is_vector ?l_is_vector ?c_is_vector ?k_is_vector ?a_are_vectors ?l_are_vectors ?c_are_vectors ?k_are_vectors ?a_added ?l_added ?c_added ?k_added ?a_pivot_of ?l_pivot_of ?c_pivot_of ?k_pivot_of ?a_is_zero ?l_is_zero ?c_is_zero ?k_is_zero ?a_reduced_by ?l_reduced_by ?c_reduced_by ?k_reduced_by ?a_cleared ?l_cleared ?c_cleared ?k_cleared ?a_stepped ?l_stepped ?c_stepped ?k_stepped ?a_positive ?l_positive ?c_positive ?k_positive ?a_tidied ?l_tidied ?c_tidied ?k_tidied ?a_grown ?l_grown ?c_grown ?k_grown ?a_law_box ?l_law_box ?c_law_box ?k_law_box ?a_law_take ?l_law_take ?c_law_take ?k_law_take ?a_law_small ?l_law_small ?c_law_small ?k_law_small ?a_law_number ?l_law_number ?c_law_number ?k_law_number ?a_law_rows ?l_law_rows ?c_law_rows ?k_law_rows ?a_law_put ?l_law_put ?c_law_put ?k_law_put ?a_law_echelon ?l_law_echelon ?c_law_echelon ?k_law_echelon ?a_law_left ?l_law_left ?c_law_left ?k_law_left ?a_law_is_in ?l_law_is_in ?c_law_is_in ?k_law_is_in ?a_law_sum ?l_law_sum ?c_law_sum ?k_law_sum ?a_law ?l_law ?c_law ?k_law ?z_len ?z_abs ?z_int ?z_max ?z_min ?z_range ?z_enumerate ?z_isinstance ?z_repr ?z_zip ?z_sum ?z_all ?z_tuple ?z_list ?z_bool
    (case aC => k_is)
    (case pg => k_is)
    (case hd => k_is)
    (case po => k_is)
    (case sa => k_is)
    (case mk => k_is)
    (case ini => k_is)
    (case fnI => k_is)
    (case kC => k_is)
    (case nW => k_is)
    (case nB => k_is)
    (case mR => k_is)
    (case fnR => k_is)
    (case mC => k_is)
    (case fnC => k_is)
    (case l_Lattice_init => k_is)
    (case c_Lattice_init => k_is)
    (case k_Lattice_init => k_is)
    (case lT => k_is)
    (case l0 => k_is)
    (case l_Lattice_reduced => k_is)
    (case c_Lattice_reduced => k_is)
    (case k_Lattice_reduced => k_is)
    (case l_Lattice_contains => k_is)
    (case c_Lattice_contains => k_is)
    (case k_Lattice_contains => k_is)
    (case a_is_integer => k_is)
    (case l_is_integer => k_is)
    (case c_is_integer => k_is)
    (case k_is_integer => k_is)
    (case a_is_sequence => k_is)
    (case l_is_sequence => k_is)
    (case c_is_sequence => k_is)
    (case k_is_sequence => k_is)
    (case a_is_width => k_is)
    (case l_is_width => k_is)
    (case c_is_width => k_is)
    (case k_is_width => k_is)
    (case a_is_vector => k_is)
    (case l_is_vector => k_is)
    (case c_is_vector => k_is)
    (case k_is_vector => k_is)
    (case a_are_vectors => k_is)
    (case l_are_vectors => k_is)
    (case c_are_vectors => k_is)
    (case k_are_vectors => k_is)
    (case a_added => k_is)
    (case l_added => k_is)
    (case c_added => k_is)
    (case k_added => k_is)
    (case a_pivot_of => k_is)
    (case l_pivot_of => k_is)
    (case c_pivot_of => k_is)
    (case k_pivot_of => k_is)
    (case a_is_zero => k_is)
    (case l_is_zero => k_is)
    (case c_is_zero => k_is)
    (case k_is_zero => k_is)
    (case a_reduced_by => k_is)
    (case l_reduced_by => k_is)
    (case c_reduced_by => k_is)
    (case k_reduced_by => k_is)
    (case a_cleared => k_is)
    (case l_cleared => k_is)
    (case c_cleared => k_is)
    (case k_cleared => k_is)
    (case a_stepped => k_is)
    (case l_stepped => k_is)
    (case c_stepped => k_is)
    (case k_stepped => k_is)
    (case a_positive => k_is)
    (case l_positive => k_is)
    (case c_positive => k_is)
    (case k_positive => k_is)
    (case a_tidied => k_is)
    (case l_tidied => k_is)
    (case c_tidied => k_is)
    (case k_tidied => k_is)
    (case a_grown => k_is)
    (case l_grown => k_is)
    (case c_grown => k_is)
    (case k_grown => k_is)
    (case a_law_box => k_is)
    (case l_law_box => k_is)
    (case c_law_box => k_is)
    (case k_law_box => k_is)
    (case a_law_take => k_is)
    (case l_law_take => k_is)
    (case c_law_take => k_is)
    (case k_law_take => k_is)
    (case a_law_small => k_is)
    (case l_law_small => k_is)
    (case c_law_small => k_is)
    (case k_law_small => k_is)
    (case a_law_number => k_is)
    (case l_law_number => k_is)
    (case c_law_number => k_is)
    (case k_law_number => k_is)
    (case a_law_rows => k_is)
    (case l_law_rows => k_is)
    (case c_law_rows => k_is)
    (case k_law_rows => k_is)
    (case a_law_put => k_is)
    (case l_law_put => k_is)
    (case c_law_put => k_is)
    (case k_law_put => k_is)
    (case a_law_echelon => k_is)
    (case l_law_echelon => k_is)
    (case c_law_echelon => k_is)
    (case k_law_echelon => k_is)
    (case a_law_left => k_is)
    (case l_law_left => k_is)
    (case c_law_left => k_is)
    (case k_law_left => k_is)
    (case a_law_is_in => k_is)
    (case l_law_is_in => k_is)
    (case c_law_is_in => k_is)
    (case k_law_is_in => k_is)
    (case a_law_sum => k_is)
    (case l_law_sum => k_is)
    (case c_law_sum => k_is)
    (case k_law_sum => k_is)
    (case a_law => k_is)
    (case l_law => k_is)
    (case c_law => k_is)
    (case k_law => k_is)
    (case z_len => k_is)
    (case z_abs => k_is)
    (case z_int => k_is)
    (case z_max => k_is)
    (case z_min => k_is)
    (case z_range => k_is)
    (case z_enumerate => k_is)
    (case z_isinstance => k_is)
    (case z_repr => k_is)
    (case z_zip => k_is)
    (case z_sum => k_is)
    (case z_all => k_is)
    (case z_tuple => k_is)
    (case z_list => k_is)
    (case z_bool => k_is)
