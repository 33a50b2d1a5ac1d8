import PyProof.Rows.All
import Wide.All
import OpenK.AllK
import Wide.FinOn
import HandS.ForMost
import HandS.Zip
import HandS.Walk
import HandS.Star
import HandS.Style
import HandS.Gcd
import HandS.WideBits
import HandS.IsInst
import HandS.Defaults
import HandS.RaiseMore
import KE.GoesMore
import HandS.Wide
import HandS.Codes
import HandS.CallRecv
import PySem.Challenge.RW_sumlives_k06_divisors_of_forms
set_option Elab.async false
set_option maxRecDepth 100000
set_option maxHeartbeats 8000000
namespace L2
open PySem PySem.Spec PyProof.Rows RZ
section
variable {X : Cx}
/-- // by any number but 0 that the model divides itself -/
def CDivZ (i j : Int) : Prop := j ≠ 0 ∧ Builtin.divisionGoesByPylong i j = false
theorem op_fdivZ : OpR X (binaryOp .FloorDiv) (rI CDivZ fun i j => .int (i.fdiv j)) := opI fun _ _ _ _ _ _ _ hc q => floordiv_int hc.1 q (.inl hc.2)
/-- a for over a list or a tuple -/
def iSeq (K : PySem.W.Frag) (t : TE) : TI := fun σ H R => iList K t σ H R ∨ iTup K t σ H R
theorem pi_seq {tg l : Expr} {tl : TE} (h : PE X l tl) : PI X tg l (iSeq X.K tl) := ⟨fun pins s σ H R I q => q.elim ((pi_list h).run pins s σ H R I) ((pi_tup h).run pins s σ H R I)⟩
end
/-! ### enumerate(tuple) -/
def IteT (K : PySem.W.Frag) (a : Addr) : It :=
  ⟨fun i H => ∃ (ys : List V) (y : V), SqT K H a ys ∧ ys[i]? = some y,
   fun i H v H' => ∃ T y, v = .ref T ∧ H T = none ∧ H' = upd H T (.tup [.int (i : Nat), y]) ∧ ∀ ys, SqT K H a ys → ys[i]? = some y,
   fun i H => ∃ ys : List V, SqT K H a ys ∧ ys.length = i⟩
theorem turn_enumT {P : Program} {w : World} {K : PySem.W.Frag} {elts : List Expr} {kk : Nat} {tpos : Pos} (a e it : Addr) (hia : a ≠ it) (hea : a ≠ e) :
    Turn P w K (.Tuple elts kk tpos) (IteT K a) [e, it] e (fun i h => (∃ old, IsEnum h e it ((i : Nat) : Int) old) ∧ h.IsTupleIter it a i ∧ e ≠ it) where
  mem := List.mem_cons_self
  obj := fun i h st b hb => by
    obtain ⟨⟨old, he⟩, ⟨o, ho, _, hd⟩, _⟩ := st
    rcases List.mem_cons.mp hb with z | z
    · rw [z]
      exact ⟨_, he, fun v q => nomatch q⟩
    · rw [List.mem_singleton.mp z]
      exact ⟨o, ho, fun v q => by rw [hd] at q; cases q⟩
  keep := fun i h h' st k => by
    obtain ⟨⟨old, he⟩, hi, hne⟩ := st
    exact ⟨⟨old, k e (by simp) _ he⟩, hi.at fun o q => k it (by simp) o q, hne⟩
  item := by
    intro X hP hw hK hc i pins s σ H E I hf st hg
    subst hP hw hK
    obtain ⟨⟨old, he⟩, hit, hne⟩ := st
    obtain ⟨ys, y, hq, hy⟩ := hg
    obtain ⟨its, rv, p, hz⟩ := I.tuple hq
    obtain ⟨u, hu, ru⟩ := rv.get hy
    have hel : e < s.heap.objs.size := Heap.lt_size he
    have hil : it < s.heap.objs.size := by
      obtain ⟨_, q, _⟩ := id hit
      exact Heap.lt_size q
    have hsz : i < its.toArray.size := by
      rw [List.size_toArray]
      exact (List.getElem?_eq_some_iff.mp hu).1
    refine wpAny_pyNext_enum_itemD (Draws.tuple (A := X.A.in1) (I.ok.hd hc) it a hia its.toArray) he ⟨hit, p⟩ hsz hne (fun z => ?_) fun x h' tk hx ho st' hT hs1 hk => ?_
    · rcases List.mem_cons.mp z with z | z
      · exact hne z
      · exact hea (List.mem_singleton.mp z).symm
    have ex : x = u := by
      have z : its.toArray[i]? = some x := hx
      rw [show its.toArray[i]? = its[i]? by simp, hu] at z
      exact (Option.some.inj z).symm
    subst ex
    refine ⟨_, rfl, wpAny_letOwnedTupleGo_enum (s := { s with heap := h', toks := tk + 1 }) ho fun h'' he' sb => ?_⟩
    have hT2 : h''.get? s.heap.objs.size = some { cls := .type "tuple", data := .seq #[.int i tk, x] } := (sb.2 _ (Nat.ne_of_gt hel)).trans hT
    have new : ObjOk X.prog X.w (upd H s.heap.objs.size (.tup [.int (i : Nat), y])) h'' s.heap.objs.size (.tup [.int (i : Nat), y]) :=
      ⟨by show 2 ≤ sizeLine; decide, [.int i tk, x], .cons ⟨_, rfl⟩ (.cons ru .nil), _, hT2, rfl, _, rfl⟩
    have J : Inv X pins σ (upd H s.heap.objs.size (.tup [.int (i : Nat), y])) { s with heap := h'', toks := tk + 1 } :=
      I.turnedNew (ch := [e, it]) (fun b ob hb q => (sb.2 b fun z => hb (by simp [z])).trans (hk b ob (fun z => hb (by simp [z])) (fun z => hb (by simp [z])) q)) hf (Nat.le_refl _) new
    refine ⟨.ref s.heap.objs.size, _, J, rfl, ⟨_, y, rfl, I.hok.fresh (Nat.le_refl _), rfl, fun l hl => by rw [I.tuple_inj hl hq]; exact hy⟩, ⟨⟨x, ?_⟩, st'.1.at fun o q => (sb.2 it (Ne.symm hne)).trans q, hne⟩, fun b hb => ?_⟩
    · rw [show ((i + 1 : Nat) : Int) = (i : Int) + 1 by omega]
      exact he'
    · have hlt : b < s.heap.objs.size := by
        rcases List.mem_cons.mp hb with z | z
        · rw [z]; exact hel
        · rw [List.mem_singleton.mp z]; exact hil
      rw [upd_ne (Nat.ne_of_lt hlt)]
      exact (hf b hb).1
  done := by
    intro X hP hw hK hc i pins s σ H E I hf st hg
    subst hP hw hK
    obtain ⟨⟨old, he⟩, hit, hne⟩ := st
    obtain ⟨ys, hq, hy⟩ := hg
    obtain ⟨its, rv, p, hz⟩ := I.tuple hq
    obtain ⟨f0, f1, f2, f3, f4, f5⟩ := hf it (by simp)
    have hl := rv.length
    have hn : i = its.toArray.size := by rw [List.size_toArray]; omega
    subst hn
    exact wpAny_pyNext_enum_endD (Draws.tuple (A := X.A.in1) (I.ok.hd hc) it a hia its.toArray) he ⟨hit, p⟩ fun h' eb => ⟨rfl, I.turned (t' := s.toks) (fun b o hb q => eb b o hb q) f0 f1 f3 f4 f5⟩
  self := fun A i s Q E st h => by
    obtain ⟨⟨_, he⟩, _⟩ := st
    exact wpAny_pyIter_enum he h
theorem meets_enum_tup (t : Addr) (items : Array Value) : Meets (Builtin.«enumerate.__new__» ⟨[.type "enumerate", .ref t], []⟩) (fun _ R s => s.heap.IsTuple t items ∧
    R (.ok (.ret (.ref (s.heap.objs.size + 1)))) { s with heap := (s.heap.push { cls := .type "tuple_iterator", data := .fields #[.ref t, .int 0 0] }).push { cls := .type "enumerate", data := .fields #[.none, .bool false, .ref s.heap.objs.size, rawInt 0, .none, .none] } }) :=
  .of_wp fun prog w A R s h => by
    obtain ⟨hp, g, d, tk, os⟩ := s
    obtain ⟨ht, h⟩ := h
    have hsub := sub_enumerate
    have e1 : (hp.push { cls := .type "tuple_iterator", data := .fields #[.ref t, .int 0 0] }).objs.size = hp.objs.size + 1 := Heap.size_push ..
    have q1 : ∀ {A' : Around} {E : Value → Shared → Prop} {Q : Value → Shared → Prop}, Q (.ref hp.objs.size) ⟨hp.push { cls := .type "tuple_iterator", data := .fields #[.ref t, .int 0 0] }, g, d, tk, os⟩ →
        wpAny (model prog w) A' (pyIter (.ref t)) Q E ⟨hp, g, d, tk, os⟩ := fun q => wpAny_pyIter_tuple ht q
    wp_walk using q1
    refine wpAny_stack_any fun st => wpAny_pure ?_
    split
    · rename_i c _ _ _ _ _
      cases (c == Value.type "enumerate") <;> (wp_walk using q1; rw [e1]; exact ⟨_, rfl, h⟩)
    · wp_walk using q1
      rw [e1]; exact ⟨_, rfl, h⟩
theorem call_enum_tup {prog : Program} {w : World} {A : Around} {E : Value → Shared → Prop} {s : Shared} {t : Addr} {items : Array Value} {Q : Value → Shared → Prop} (ht : s.heap.IsTuple t items)
    (h : ∀ h', IsEnum h' (s.heap.objs.size + 1) s.heap.objs.size 0 .none → h'.IsTupleIter s.heap.objs.size t 0 → (∀ b o, s.heap.get? b = some o → h'.get? b = some o) → Q (.ref (s.heap.objs.size + 1)) { s with heap := h' }) :
    wpAny (model prog w) A (call (.type "enumerate") [.ref t]) Q E s := by
  refine callType_new F.called_enumerate (by decide) (F.typeCall_enumerate_1 _) (F.newCall_enumerate_1 _) (fun obj => F.args_object_init_2 obj _) F.entry_enumerate_new (meets_enum_tup t items) ⟨ht, ?_⟩
  have he : IsEnum ((s.heap.push { cls := .type "tuple_iterator", data := .fields #[.ref t, .int 0 0] }).push { cls := .type "enumerate", data := .fields #[.none, .bool false, .ref s.heap.objs.size, rawInt 0, .none, .none] }) (s.heap.objs.size + 1) s.heap.objs.size 0 .none := by
    heap_get
  exact ⟨⟨_, he, rfl⟩, h _ he ⟨_, Heap.get?_push_of_some _ (Heap.get?_push_size _ rfl), rfl, rfl⟩ fun b o x => Heap.get?_push_of_some _ (Heap.get?_push_of_some _ x)⟩
def iEnumT (K : PySem.W.Frag) (ta : TA) : TI := fun σ H R => ta σ H fun vs H1 => ∃ a ys, vs = [.ref a] ∧ SqT K H1 a ys ∧ R (IteT K a) H1
theorem pi_enumT {X : Cx} {e : Expr} {ta : TA} {p pos tpos : Pos} {elts : List Expr} {kk : Nat} (hg : Gl X "enumerate") (hm : X.mg "enumerate" = none) (ha : PA X [e] ta) (hs : starEach [e] X.env = [(false, eval e X.env)] := by rfl) :
    PI X (.Tuple elts kk tpos) (.Call (.Name "enumerate" p) [e] [] pos) (iEnumT X.K ta) := by
  refine ⟨fun pins s σ H R I h => Call_ (ld_blt I hg hm boot_enumerate (PyProof.Rows.callWith_type1 (thn (ha.run pos pins s σ H _ I h) fun us s1 z => ?_) hs rfl))⟩
  obtain ⟨vs, H1, I1, r1, a, ys, ex, hq, q⟩ := z
  subst ex
  match us, r1 with
  | [u], .cons r .nil =>
    obtain rfl : u = Value.ref a := r
    obtain ⟨its, rv, pt, hz⟩ := I1.tuple hq
    have la : a < s1.heap.objs.size := by
      obtain ⟨o, ho, _⟩ := id pt
      exact Heap.lt_size ho
    refine call_enum_tup (items := its.toArray) pt fun h' he hit hk => wpAny_pyIter_enum he ?_
    have I2 : Inv X pins σ H1 { s1 with heap := h' } := I1.kept (t' := s1.toks) hk
    refine ⟨s1.heap.objs.size + 1, [s1.heap.objs.size + 1, s1.heap.objs.size], _, _, H1, rfl, I2, turn_enumT a (s1.heap.objs.size + 1) s1.heap.objs.size (Nat.ne_of_lt la) (Nat.ne_of_lt (Nat.lt_succ_of_lt la)), ⟨⟨.none, he⟩, hit, Nat.succ_ne_self _⟩, fun b hb => ?_, q⟩
    have hle : s1.heap.objs.size ≤ b := by
      rcases List.mem_cons.mp hb with z | z
      · rw [z]; exact Nat.le_succ _
      · rw [List.mem_singleton.mp z]; exact Nat.le_refl _
    exact I1.fpOk hle (I1.hok.fresh hle)
theorem walk_enumT {K : PySem.W.Frag} {a : Addr} {ys : List V} : Walk (IteT K a) ys.length (fun H => SqT K H a ys) (YPair (fun i => some (.int (i : Nat))) (fun i => ys[i]?)) := by
  refine ⟨fun i H hi h => ⟨ys, ys[i], h, List.getElem?_eq_getElem hi⟩, fun H h => ⟨ys, h, rfl⟩, fun i H x H' hi h y => ?_⟩
  obtain ⟨T, z, e1, e2, e3, e4⟩ := y
  exact ⟨T, _, z, e1, e2, e3, rfl, e4 ys h⟩
theorem walk_zipT {K : PySem.W.Frag} {a b : Addr} {xs ys : List V} {n : Nat} (hn : n = min xs.length ys.length) : Walk (ItzT K a b) n (fun H => SqT K H a xs ∧ SqT K H b ys) (YPair (fun i => xs[i]?) (fun i => ys[i]?)) := by
  refine ⟨fun i H hi h => ⟨xs, ys, xs[i]'(by omega), ys[i]'(by omega), h.1, h.2, List.getElem?_eq_getElem _, List.getElem?_eq_getElem _⟩, fun H h => ⟨xs, ys, h.1, h.2, by omega⟩, fun i H x H' hi h y => ?_⟩
  obtain ⟨T, z, z2, e1, e2, e3, e4, e5⟩ := y
  exact ⟨T, z, z2, e1, e2, e3, e4 xs h.1, e5 ys h.2⟩
end L2

namespace L2
open PySem PySem.Spec PyProof.Rows
/-! ### a def that a def calls, by its name -/
def Has (P : Program) (w : World) (K : PySem.W.Frag) (mg : Str → Option Value) (base : Heap) (k : Nat) (nm : Str) (ps : List Str) (sp : Sp) : Prop :=
  ∃ (f : Addr) (fd : FuncData), FnOk P w K mg base CX0 k f fd ps sp ∧ mg nm = some (.ref f) ∧ PySem.W.keepIn K (.ref f) = true ∧ Binds K fd ps []
theorem pe_callHas {X : Cx} {k : Nat} {x : Str} {ps : List Str} {sp : Sp} {p pos : Pos} {e : Expr} {es : List Expr} {t : TA} (G : Has X.prog X.w X.K X.mg X.base k x ps sp) (hr : Room k X.A) (hg : Gl X x) (ha : PA X (e :: es) t)
    (hdb : (x == ("__debug__" : Str)) = false := by decide) (he : starEach (e :: es) X.env = (false, eval e X.env) :: starEach es X.env := by rfl) (hpl : (backTo pos (starEach es X.env)).any (·.1) = false := by rfl) :
    PE X (.Call (.Name x p) (e :: es) [] pos) (tCall sp [] E0 t) := by
  obtain ⟨f, fd, F, m, kp, b⟩ := G
  exact pe_call F hr hg m kp b .nil pass0 ha hdb he hpl
/-- where a def of the text stands behind the top -/
def DefAt (K : PySem.W.Frag) (mg : Str → Option Value) (nm : Str) (st : Stmt) (ps : List Str) : Prop :=
  ∃ (f : Addr) (fd : FuncData), Fun K nm nm st f fd ∧ mg nm = some (.ref f) ∧ Binds K fd ps []
theorem DefAt.has {P : Program} {w : World} {K : PySem.W.Frag} {mg : Str → Option Value} {base : Heap} {k : Nat} {nm : Str} {st : Stmt} {N ps : List Str} {sp : Sp} (F : DefAt K mg nm st ps) (S : FnScope N ps (defScope st)) (len : ∀ vs H Q E, sp vs H Q E → vs.length = ps.length)
    (hbody : ∀ (f : Addr) (cdv : Value) (A : Around) (outer : List Env) (s : Shared) (H : Hp) (vs : List V) (Q : VK) (E : XK), Room k (A.deeper (envOfC nm (defScope st) s.heap.objs.size f cdv)) → sp vs H Q E →
      ∃ t, PSs (cxOf CX0 P w K mg base N nm (defScope st) f cdv A outer s H E).nox (defBody st) t ∧ t { nx := fun _ H' => Q .non H', rt := Q } (start N vs) H) : Has P w K mg base (k + 1) nm ps sp := by
  obtain ⟨f, fd, F, m, b⟩ := F
  exact ⟨f, fd, F.ok S len (hbody f), m, F.kp, b⟩
end L2

/-! ## vectors: what the defs compute -/
namespace Lat
abbrev Vec := List Int
def addV (v : Vec) (t : Int) (w : Vec) : Vec := List.zipWith (fun n m => n + t * m) v w
def dotV (f v : Vec) : Int := (List.zipWith (fun n t => n * t) v f).sum
def piv : Vec → Nat
  | [] => 0
  | x :: v => if x ≠ 0 then 0 else piv v + 1
def itm (v : Vec) (i : Nat) : Int := v.getD i 0
def redV : List Vec → Vec → Vec
  | [], v => v
  | r :: rs, v => redV rs (addV v (-((itm v (piv r)).fdiv (itm r (piv r)))) r)
def clr : Nat → Vec → Vec → Nat → Vec × Vec
  | 0, r, v, _ => (r, v)
  | n + 1, r, v, i => if itm v i = 0 then (r, v) else clr n v (addV r (-((itm r i).fdiv (itm v i))) v) i
def clear (r v : Vec) (i : Nat) : Vec × Vec := clr (itm v i).natAbs r v i
def stepGo : List Vec → Vec → List Vec × Vec
  | [], l => ([], l)
  | r :: rs, l => if piv l < piv r then (l :: (stepGo rs r).1, (stepGo rs r).2) else ((clear r l (piv r)).1 :: (stepGo rs (clear r l (piv r)).2).1, (stepGo rs (clear r l (piv r)).2).2)
def stepped (steps : List Vec) (v : Vec) : List Vec := if piv (stepGo steps v).2 = (stepGo steps v).2.length then (stepGo steps v).1 else (stepGo steps v).1 ++ [(stepGo steps v).2]
def posV (r : Vec) : Vec := if itm r (piv r) > 0 then r else addV r (-2) r
def tidy : List Vec → List Vec
  | [] => []
  | r :: rs => redV (tidy rs) (posV r) :: tidy rs
def grow (basis : List Vec) (v : Vec) : List Vec := if piv (redV basis v) = (redV basis v).length then basis else tidy (stepped basis (redV basis v))

theorem piv_le : ∀ v : Vec, piv v ≤ v.length
  | [] => Nat.le_refl _
  | x :: v => by
    have h := piv_le v
    unfold piv
    split
    · exact Nat.zero_le _
    · exact Nat.succ_le_succ h
theorem addV_len {v : Vec} {t : Int} {w : Vec} (h : v.length = w.length) : (addV v t w).length = v.length := by
  unfold addV
  rw [List.length_zipWith, h, Nat.min_self]
theorem itm_of {v : Vec} {i : Nat} (h : i < v.length) : v[i]? = some (itm v i) := by
  unfold itm
  rw [List.getD_eq_getElem?_getD, List.getElem?_eq_getElem h]; rfl
theorem itm_add {v w : Vec} {t : Int} (h : v.length = w.length) (i : Nat) : itm (addV v t w) i = itm v i + t * itm w i := by
  unfold itm addV
  by_cases hi : i < v.length
  · have hw : i < w.length := by omega
    rw [List.getD_eq_getElem?_getD, List.getD_eq_getElem?_getD, List.getD_eq_getElem?_getD, List.getElem?_zipWith, List.getElem?_eq_getElem hi, List.getElem?_eq_getElem hw]
    rfl
  · have hw : w.length ≤ i := by omega
    rw [List.getD_eq_getElem?_getD, List.getD_eq_getElem?_getD, List.getD_eq_getElem?_getD, List.getElem?_zipWith, List.getElem?_eq_none (by omega : v.length ≤ i), List.getElem?_eq_none hw]
    simp
theorem piv_spec : ∀ v : Vec, (∀ j, j < piv v → itm v j = 0) ∧ (piv v < v.length → itm v (piv v) ≠ 0)
  | [] => ⟨fun j h => absurd h (Nat.not_lt_zero _), fun h => absurd h (Nat.not_lt_zero _)⟩
  | x :: v => by
    obtain ⟨h1, h2⟩ := piv_spec v
    unfold piv
    split
    · next hx => exact ⟨fun j h => absurd h (Nat.not_lt_zero _), fun _ => hx⟩
    · next hx =>
      have hx0 : x = 0 := Decidable.not_not.mp hx
      refine ⟨fun j h => ?_, fun h => ?_⟩
      · cases j with
        | zero => exact hx0
        | succ j => exact h1 j (Nat.lt_of_succ_lt_succ h)
      · exact h2 (Nat.lt_of_succ_lt_succ h)
theorem clr_len : ∀ (n : Nat) (r v : Vec) (i : Nat), r.length = v.length → (clr n r v i).1.length = r.length ∧ (clr n r v i).2.length = r.length
  | 0, r, v, i, h => ⟨rfl, h.symm⟩
  | n + 1, r, v, i, h => by
    unfold clr
    split
    · exact ⟨rfl, h.symm⟩
    · have e := addV_len (t := -((itm r i).fdiv (itm v i))) h
      obtain ⟨a, b⟩ := clr_len n v (addV r (-((itm r i).fdiv (itm v i))) v) i (by rw [e, h])
      exact ⟨a.trans h.symm, b.trans h.symm⟩
end Lat

namespace K06
open PySem L2 RZ Lat
def top (i : Nat) : Stmt := PySem.Challenge.pw_sumlives_k06_divisors_of_forms.main.body.getD i (.Pass ⟨0, 0, 0, 0⟩)
structure Txt (mg : Str → Option Value) : Prop where
  z_len : mg "len" = none
  z_abs : mg "abs" = none
  z_int : mg "int" = none
  z_max : mg "max" = none
  z_min : mg "min" = none
  z_range : mg "range" = none
  z_enumerate : mg "enumerate" = none
  z_isinstance : mg "isinstance" = none
  z_repr : mg "repr" = none
  z_zip : mg "zip" = none
  z_sum : mg "sum" = none
  z_all : mg "all" = none
  z_tuple : mg "tuple" = none
  z_list : mg "list" = none
  z_bool : mg "bool" = none
  m_gcd : mg "gcd" = some (.builtin "math.gcd")
theorem new_at {H : Hp} {p : Addr} {o : HO} (h : H p = none) : Same H (upd H p o) ∧ upd H p o p = some o :=
  ⟨fun b u z => by rw [upd_ne (ne_of_none z h)]; exact z, upd_same⟩
/-- a tuple of ints -/
abbrev IsV (H : Hp) (a : Addr) (v : Vec) : Prop := H a = some (.tup (v.map V.int))
theorem Same.sqt {K : PySem.W.Frag} {H H' : Hp} {a : Addr} {xs : List V} (e : Same H H') (h : SqT K H a xs) : SqT K H' a xs := by
  rcases h with (h | ⟨o, h⟩) | h
  · exact .inl (.inl (e _ _ h))
  · exact .inl (.inr ⟨o, e _ _ h⟩)
  · exact .inr h
theorem map_at {v : Vec} {i : Nat} {x : V} (h : (v.map V.int)[i]? = some x) : ∃ n, v[i]? = some n ∧ x = V.int n := by
  rw [List.getElem?_map] at h
  cases e : v[i]? with
  | none => rw [e] at h; cases h
  | some n => rw [e] at h; exact ⟨n, rfl, (Option.some.inj h).symm⟩
theorem take_snoc {v : Vec} {i : Nat} {n : Int} (h : v[i]? = some n) : ((v.take (i + 1)).map V.int) = (v.take i).map V.int ++ [V.int n] := by
  rw [List.take_add_one, h, List.map_append]; rfl
theorem take_all {v : Vec} {n : Nat} (h : v.length = n) : (v.take n).map V.int = v.map V.int := by rw [← h, List.take_length]
section
variable {P : Program} {w : World} {K : PySem.W.Frag} {mg : Str → Option Value} {base : Heap}
abbrev s_is_integer : Stmt := top 3
abbrev n_is_integer : List Str := ["value"]
theorem sc_is_integer : FnScope n_is_integer ["value"] (defScope s_is_integer) := ⟨rfl, rfl, rfl, by decide +kernel, rfl, by decide +kernel, by decide +kernel⟩
def spInt : Sp := fun vs H Q _ => ∃ i : Int, vs = [.int i] ∧ Q (.bl true) H
theorem ok_is_integer (T : Txt mg) (F : DefAt K mg "is_integer" s_is_integer ["value"]) : Has P w K mg base 1 "is_integer" ["value"] spInt := by
  refine F.has sc_is_integer (fun vs H Q E h => ?_) (fun f cdv A outer s H vs Q E hr h => ?_)
  · obtain ⟨i, rfl, _⟩ := h
    rfl
  · obtain ⟨i, rfl, k⟩ := h
    refine ⟨_, (pss_one (ps_ret (pe_and (pe_callB call_isi (by rfl) T.z_isinstance (by decide +kernel) (pa_cons (pv 0) (pa_cons (pe_bltn (v := .ty "int") (by rfl) T.z_int (by decide +kernel) rfl) pa_nil))) (pe_one (pe_not (pe_callB call_isi (by rfl) T.z_isinstance (by decide +kernel) (pa_cons (pv 0) (pa_cons (pe_bltn (v := .ty "bool") (by rfl) T.z_bool (by decide +kernel) rfl) pa_nil)))))))), ?_⟩
    refine ⟨_, rfl, _, _, _, _, true, rfl, .ty _, .base (.int i), kit_ty (by decide +kernel), _, rfl, ?_⟩
    refine ⟨_, rfl, _, _, _, _, false, rfl, .ty _, .base (.int i), kit_ty (by decide +kernel), _, rfl, k⟩
/-- a list of the run, or an empty tuple that the text has written -/
def InSeq (K : PySem.W.Frag) (H : Hp) (l : Addr) (as : List V) : Prop := H l = some (.lst as) ∨ ((∃ o, K.lookup l = some o ∧ o.cls = .type "tuple") ∧ as = [] ∧ SqT K H l [])
theorem InSeq.keep {K : PySem.W.Frag} {H H' : Hp} {l : Addr} {as : List V} (s : Same H H') (h : InSeq K H l as) : InSeq K H' l as := h.imp (s _ _) fun z => ⟨z.1, z.2.1, Same.sqt s z.2.2⟩
abbrev s_is_sequence : Stmt := top 4
abbrev n_is_sequence : List Str := ["value"]
theorem sc_is_sequence : FnScope n_is_sequence ["value"] (defScope s_is_sequence) := ⟨rfl, rfl, rfl, by decide +kernel, rfl, by decide +kernel, by decide +kernel⟩
def spSeq (K : PySem.W.Frag) : Sp := fun vs H Q _ => ∃ (l : Addr) (xs : List V), vs = [.ref l] ∧ InSeq K H l xs ∧ ∀ H', Same H H' → Q (.bl true) H'
theorem ok_is_sequence (T : Txt mg) (F : DefAt K mg "is_sequence" s_is_sequence ["value"]) : Has P w K mg base 1 "is_sequence" ["value"] (spSeq K) := by
  refine F.has sc_is_sequence (fun vs H Q E h => ?_) (fun f cdv A outer s H vs Q E hr h => ?_)
  · obtain ⟨l, xs, rfl, _⟩ := h
    rfl
  · obtain ⟨l, xs, rfl, hl, k⟩ := h
    refine ⟨_, (pss_one (ps_ret (pe_callB call_isiT (by rfl) T.z_isinstance (by decide +kernel) (pa_cons (pv 0) (pa_cons (pe_tup (pa_cons (pe_bltn (v := .ty "list") (by rfl) T.z_list (by decide +kernel) rfl) (pa_cons (pe_bltn (v := .ty "tuple") (by rfl) T.z_tuple (by decide +kernel) rfl) pa_nil))) pa_nil))))), ?_⟩
    refine ⟨_, rfl, (by decide : 2 ≤ sizeLine), fun t ht => ?_⟩
    obtain ⟨s1, h1⟩ := new_at (o := .tup [.ty "list", .ty "tuple"]) ht
    rcases hl with hl | ⟨⟨o, ho, hc⟩, _, _⟩
    · exact ⟨_, t, _, _, _, true, rfl, h1, .cons (.ty _) (.cons (.ty _) .nil), .base (.lst (s1 _ _ hl)), kitAny_cons (b := true) (kit_ty (by decide +kernel)) (fun z => nomatch z) (fun _ => rfl), k _ s1⟩
    · exact ⟨_, t, _, _, _, true, rfl, h1, .cons (.ty _) (.cons (.ty _) .nil), .kTuple ho hc, kitAny_cons (b := false) (kit_ty (by decide +kernel)) (fun _ => kitAny_cons (b := true) (kit_ty (by decide +kernel)) (fun z => nomatch z) (fun _ => rfl)) (fun z => nomatch z), k _ s1⟩
abbrev s_added : Stmt := top 8
abbrev n_added : List Str := ["vector", "times", "other", "number", "more"]
theorem sc_added : FnScope n_added ["vector", "times", "other"] (defScope s_added) := ⟨rfl, rfl, rfl, by decide +kernel, rfl, by decide +kernel, by decide +kernel⟩
def spAdded : Sp := fun vs H Q _ => ∃ (a b : Addr) (t : Int) (v u : Vec), vs = [.ref a, .int t, .ref b] ∧ IsV H a v ∧ IsV H b u ∧ v.length = u.length ∧ v.length ≤ 1000 ∧ (∀ m ∈ u, CMulX t m) ∧ ∀ (H' : Hp) (p : Addr), Same H H' → IsV H' p (addV v t u) → Q (.ref p) H'
theorem ok_added (T : Txt mg) (F : DefAt K mg "added" s_added ["vector", "times", "other"]) : Has P w K mg base 1 "added" ["vector", "times", "other"] spAdded := by
  refine F.has sc_added (fun vs H Q E h => ?_) (fun f cdv A outer s H vs Q E hr h => ?_)
  · obtain ⟨a, b, t, v, u, rfl, _⟩ := h
    rfl
  · obtain ⟨a, b, t, v, u, rfl, hv, hu, hl, h1, hm, k⟩ := h
    refine ⟨_, (pss_one (ps_ret (pe_callTy call_tuple_of (by rfl) T.z_tuple (by decide +kernel) (pa_cons (pe_lc (own := [("number", 3), ("more", 4)]) (g := gTup K 2 (gCons (gName 3) (gCons (gName 4) gNil))) (by rfl) sc_added.nd (pi_zipA (by rfl) T.z_zip (pa_cons (pv 0) (pa_cons (pv 2) pa_nil))) (blkOk_by (own := [("number", 3), ("more", 4)]) (N := n_added) (sc := defScope s_added) (by decide +kernel)) (fun _ _ _ _ _ => (pg_tup rfl (pgs_cons (pg_name (i := 3) sc_added.nd rfl (Or.inl rfl)) (pgs_cons (pg_name (i := 4) sc_added.nd rfl (Or.inl rfl)) pgs_nil)))) (fun _ _ _ _ _ => pts_nil) (fun _ _ _ _ _ => (pe_op op_add (pv 3) (pe_op op_mulX (pv 1) (pv 4))))) pa_nil)))), ?_⟩
    have lv : (v.map V.int).length = v.length := List.length_map ..
    have lu : (u.map V.int).length = u.length := List.length_map ..
    have la : (addV v t u).length = v.length := addV_len hl
    have ln : min (v.map V.int).length (u.map V.int).length = v.length := by rw [lv, lu, hl, Nat.min_self]
    refine ⟨_, rfl, _, rfl, a, b, _, _, rfl, .inr ⟨SqT.of hv, SqT.of hu, fun D hD => lc_it (walk_zipT (xs := v.map V.int) (ys := u.map V.int) ln.symm) (fun i H' => Same H H' ∧ H' D = some (.lst (((addV v t u).take i).map V.int))) ?_ ?_ ?_ ?_⟩⟩
    · exact ⟨(new_at hD).1, upd_same⟩
    · exact fun i H' _ q => ⟨SqT.of (q.1 _ _ hv), SqT.of (q.1 _ _ hu)⟩
    · rintro i x H' H'' hi ⟨sm, hD'⟩ ⟨q, y1, y2, rfl, hq, rfl, e1, e2⟩
      obtain ⟨n, en, rfl⟩ := map_at e1
      obtain ⟨m, em, rfl⟩ := map_at e2
      refine ⟨q, _, rfl, SqT.of upd_same, rfl, _, _, rfl, _, _, rfl, rfl, rfl, ?_⟩
      refine ⟨_, rfl, _, rfl, _, rfl, _, _, rfl, rfl, hm m (List.mem_of_getElem? em), _, _, rfl, rfl, ?_⟩
      have nDq : D ≠ q := ne_of_none hD' hq
      refine ⟨_, (upd_ne nDq).trans hD', by rw [List.length_map, List.length_take]; exact Nat.lt_of_le_of_lt (Nat.le_trans (Nat.min_le_right _ _) (la ▸ h1)) (by decide), fun x o z => ?_, ?_⟩
      · rw [upd_ne (ne_of_none z hD)]
        exact (new_at hq).1 _ _ (sm _ _ z)
      · rw [upd_same, take_snoc (n := n + t * m)]
        unfold addV
        rw [List.getElem?_zipWith, en, em]
    · rintro H' ⟨sm, hD'⟩
      rw [take_all la] at hD'
      refine ⟨_, _, rfl, .inl ⟨SqL.of hD', fun p hp => ?_⟩⟩
      obtain ⟨sp, hp1⟩ := new_at (o := .tup ((addV v t u).map V.int)) hp
      exact k _ p (sm.trans sp) hp1
abbrev s_value_at : Stmt := top 9
abbrev n_value_at : List Str := ["form", "vector", "number", "times"]
theorem sc_value_at : FnScope n_value_at ["form", "vector"] (defScope s_value_at) := ⟨rfl, rfl, rfl, by decide +kernel, rfl, by decide +kernel, by decide +kernel⟩
def spValueAt : Sp := fun vs H Q _ => ∃ (a b : Addr) (g v : Vec), vs = [.ref a, .ref b] ∧ IsV H a g ∧ IsV H b v ∧ v.length = g.length ∧ v.length ≤ 1000 ∧ (∀ n ∈ v, ∀ m ∈ g, CMulX n m) ∧ ∀ H', Same H H' → Q (.int (dotV g v)) H'
theorem ok_value_at (T : Txt mg) (F : DefAt K mg "value_at" s_value_at ["form", "vector"]) : Has P w K mg base 1 "value_at" ["form", "vector"] spValueAt := by
  refine F.has sc_value_at (fun vs H Q E h => ?_) (fun f cdv A outer s H vs Q E hr h => ?_)
  · obtain ⟨a, b, g, v, rfl, _⟩ := h
    rfl
  · obtain ⟨a, b, g, v, rfl, hg, hv, hl, h1, hm, k⟩ := h
    refine ⟨_, (pss_one (ps_ret (pe_callB (cr_sum rfl) (by rfl) T.z_sum (by decide +kernel) (pa_cons (pe_lc (own := [("number", 2), ("times", 3)]) (g := gTup K 2 (gCons (gName 2) (gCons (gName 3) gNil))) (by rfl) sc_value_at.nd (pi_zipA (by rfl) T.z_zip (pa_cons (pv 1) (pa_cons (pv 0) pa_nil))) (blkOk_by (own := [("number", 2), ("times", 3)]) (N := n_value_at) (sc := defScope s_value_at) (by decide +kernel)) (fun _ _ _ _ _ => (pg_tup rfl (pgs_cons (pg_name (i := 2) sc_value_at.nd rfl (Or.inl rfl)) (pgs_cons (pg_name (i := 3) sc_value_at.nd rfl (Or.inl rfl)) pgs_nil)))) (fun _ _ _ _ _ => pts_nil) (fun _ _ _ _ _ => (pe_op op_mulX (pv 2) (pv 3)))) pa_nil)))), ?_⟩
    have lv : (v.map V.int).length = v.length := List.length_map ..
    have lg : (g.map V.int).length = g.length := List.length_map ..
    have ln : min (v.map V.int).length (g.map V.int).length = v.length := by rw [lv, lg, hl, Nat.min_self]
    have la : (List.zipWith (fun n t : Int => n * t) v g).length = v.length := by rw [List.length_zipWith, hl, Nat.min_self]
    refine ⟨_, rfl, _, rfl, b, a, _, _, rfl, .inr ⟨SqT.of hv, SqT.of hg, fun D hD => lc_it (walk_zipT (xs := v.map V.int) (ys := g.map V.int) ln.symm) (fun i H' => Same H H' ∧ H' D = some (.lst (((List.zipWith (fun n t : Int => n * t) v g).take i).map V.int))) ?_ ?_ ?_ ?_⟩⟩
    · exact ⟨(new_at hD).1, upd_same⟩
    · exact fun i H' _ q => ⟨SqT.of (q.1 _ _ hv), SqT.of (q.1 _ _ hg)⟩
    · rintro i x H' H'' hi ⟨sm, hD'⟩ ⟨q, y1, y2, rfl, hq, rfl, e1, e2⟩
      obtain ⟨n, en, rfl⟩ := map_at e1
      obtain ⟨m, em, rfl⟩ := map_at e2
      refine ⟨q, _, rfl, SqT.of upd_same, rfl, _, _, rfl, _, _, rfl, rfl, rfl, ?_⟩
      refine ⟨_, rfl, _, rfl, _, _, rfl, rfl, hm n (List.mem_of_getElem? en) m (List.mem_of_getElem? em), ?_⟩
      have nDq : D ≠ q := ne_of_none hD' hq
      refine ⟨_, (upd_ne nDq).trans hD', by rw [List.length_map, List.length_take]; exact Nat.lt_of_le_of_lt (Nat.le_trans (Nat.min_le_right _ _) (la ▸ h1)) (by decide), fun x o z => ?_, ?_⟩
      · rw [upd_ne (ne_of_none z hD)]
        exact (new_at hq).1 _ _ (sm _ _ z)
      · rw [upd_same, take_snoc (n := n * m)]
        rw [List.getElem?_zipWith, en, em]
    · rintro H' ⟨sm, hD'⟩
      rw [take_all la] at hD'
      exact ⟨_, _, rfl, SqL.of hD', k _ sm⟩
abbrev s_pivot_of : Stmt := top 10
abbrev n_pivot_of : List Str := ["vector", "at", "number"]
theorem sc_pivot_of : FnScope n_pivot_of ["vector"] (defScope s_pivot_of) := ⟨rfl, rfl, rfl, by decide +kernel, rfl, by decide +kernel, by decide +kernel⟩
def spPivot : Sp := fun vs H Q _ => ∃ (a : Addr) (v : Vec), vs = [.ref a] ∧ IsV H a v ∧ ∀ H', Same H H' → Q (.int ((piv v : Nat) : Int)) H'
theorem ok_pivot_of (T : Txt mg) (F : DefAt K mg "pivot_of" s_pivot_of ["vector"]) : Has P w K mg base 1 "pivot_of" ["vector"] spPivot := by
  refine F.has sc_pivot_of (fun vs H Q E h => ?_) (fun f cdv A outer s H vs Q E hr h => ?_)
  · obtain ⟨a, v, rfl, _⟩ := h
    rfl
  · obtain ⟨a, v, rfl, hv, k⟩ := h
    refine ⟨_, (pss_cons (ps_for PassesOwn.never rfl (pi_enumT (by rfl) T.z_enumerate (pa_cons (pv 0) pa_nil)) (pg_tup rfl (pgs_cons (pg_name (i := 1) sc_pivot_of.nd rfl (Or.inl rfl)) (pgs_cons (pg_name (i := 2) sc_pivot_of.nd rfl (Or.inl rfl)) pgs_nil))) (pss_one (ps_if (pt_cmpR op_ne (pv 2) pe_int (nomark _)) (pss_one (ps_ret (pv 1))) pss_nil)))
      (pss_one (ps_ret (pe_callB call_len (by rfl) T.z_len (by decide +kernel) (pa_cons (pv 0) pa_nil))))), ?_⟩
    obtain ⟨z0, z1⟩ := piv_spec v
    refine ⟨_, rfl, a, _, rfl, SqT.of hv, for_it (walk_enumT (ys := v.map V.int)) (fun i σ H' => Same H H' ∧ i ≤ piv v ∧ ∃ x y, σ = [some (.ref a), x, y]) ⟨Same.refl _, Nat.zero_le _, _, _, rfl⟩ (fun i σ H' _ q => SqT.of (q.1 _ _ hv)) ?_ ?_⟩
    · rintro i x σ H' H'' hi ⟨sm, hp, x1, x2, rfl⟩ ⟨q, y1, y2, rfl, hq, rfl, e1, e2⟩
      obtain ⟨n, en, rfl⟩ := map_at e2
      cases e1
      rw [List.length_map] at hi
      have ei : itm v i = n := by
        have q1 := itm_of hi
        rw [en] at q1
        exact (Option.some.inj q1).symm
      refine ⟨q, _, rfl, SqT.of upd_same, rfl, _, _, rfl, _, _, rfl, rfl, ?_⟩
      refine ⟨_, rfl, rfl, _, rfl, ?_⟩
      have s2 := sm.trans (new_at (o := .tup [.int ((i : Nat) : Int), .int n]) hq).1
      by_cases h0 : n = 0
      · subst h0
        have hlt : i < piv v := by
          rcases Nat.lt_or_ge i (piv v) with h | h
          · exact h
          · have e : i = piv v := Nat.le_antisymm hp h
            exact absurd ei (by rw [e]; exact z1 (by rw [← e]; exact hi))
        show if (!decide (V.int 0 = V.int 0)) = true then _ else _
        rw [decide_eq_true rfl]
        exact ⟨s2, hlt, _, _, rfl⟩
      · have e : i = piv v := by
          rcases Nat.lt_or_ge i (piv v) with h | h
          · exact absurd (ei.symm.trans (z0 i h)) h0
          · exact Nat.le_antisymm hp h
        show if (!decide (V.int n = V.int 0)) = true then _ else _
        rw [decide_eq_false (fun z => h0 (V.int.inj z))]
        refine ⟨_, rfl, ?_⟩
        rw [e] at s2 ⊢
        exact k _ s2
    · rintro σ H' ⟨sm, hp, x1, x2, rfl⟩
      have e : piv v = v.length := by
        rw [List.length_map] at hp
        exact Nat.le_antisymm (piv_le v) hp
      refine ⟨_, rfl, _, _, rfl, .inr ⟨_, SqT.of (sm _ _ hv), rfl⟩, ?_⟩
      rw [List.length_map, ← e]
      exact k _ sm
abbrev s_is_zero : Stmt := top 11
abbrev n_is_zero : List Str := ["vector"]
theorem sc_is_zero : FnScope n_is_zero ["vector"] (defScope s_is_zero) := ⟨rfl, rfl, rfl, by decide +kernel, rfl, by decide +kernel, by decide +kernel⟩
def spZero : Sp := fun vs H Q _ => ∃ (a : Addr) (v : Vec), vs = [.ref a] ∧ IsV H a v ∧ ∀ H', Same H H' → Q (.bl (decide (piv v = v.length))) H'
theorem ok_is_zero (T : Txt mg) (g_pivot_of : Has P w K mg base 1 "pivot_of" ["vector"] spPivot) (F : DefAt K mg "is_zero" s_is_zero ["vector"]) : Has P w K mg base 2 "is_zero" ["vector"] spZero := by
  refine F.has sc_is_zero (fun vs H Q E h => ?_) (fun f cdv A outer s H vs Q E hr h => ?_)
  · obtain ⟨a, v, rfl, _⟩ := h
    rfl
  · obtain ⟨a, v, rfl, hv, k⟩ := h
    refine ⟨_, (pss_one (ps_ret (pe_cmpR op_eq (pe_callHas g_pivot_of (hr.mono (by decide)) rfl (pa_cons (pv 0) pa_nil)) (pe_callB call_len (by rfl) T.z_len (by decide +kernel) (pa_cons (pv 0) pa_nil)) (nomark _)))), ?_⟩
    refine ⟨_, rfl, a, v, rfl, hv, fun H' sm => ⟨_, rfl, _, _, rfl, .inr ⟨_, SqT.of (sm _ _ hv), rfl⟩, rfl, ?_⟩⟩
    rw [List.length_map]
    have e : decide (V.int ((piv v : Nat) : Int) = V.int ((v.length : Nat) : Int)) = decide (piv v = v.length) := by
      by_cases h : piv v = v.length
      · rw [h, decide_eq_true rfl, decide_eq_true rfl]
      · rw [decide_eq_false h, decide_eq_false (fun z => h (by have := V.int.inj z; omega))]
    rw [e]
    exact k _ sm
abbrev s_is_width : Stmt := top 5
abbrev n_is_width : List Str := ["value"]
theorem sc_is_width : FnScope n_is_width ["value"] (defScope s_is_width) := ⟨rfl, rfl, rfl, by decide +kernel, rfl, by decide +kernel, by decide +kernel⟩
def spWidth : Sp := fun vs H Q _ => ∃ n : Int, vs = [.int n] ∧ 1 ≤ n ∧ Q (.bl true) H
theorem ok_is_width (T : Txt mg) (g_is_integer : Has P w K mg base 1 "is_integer" ["value"] spInt) (F : DefAt K mg "is_width" s_is_width ["value"]) : Has P w K mg base 2 "is_width" ["value"] spWidth := by
  refine F.has sc_is_width (fun vs H Q E h => ?_) (fun f cdv A outer s H vs Q E hr h => ?_)
  · obtain ⟨n, rfl, _⟩ := h
    rfl
  · obtain ⟨n, rfl, h1, k⟩ := h
    refine ⟨_, (pss_one (ps_ret (pe_and (pe_callHas g_is_integer (hr.mono (by decide)) rfl (pa_cons (pv 0) pa_nil)) (pe_one (pe_cmpR op_ge (pv 0) pe_int (nomark _)))))), ?_⟩
    refine ⟨_, rfl, n, rfl, _, rfl, _, rfl, _, _, rfl, rfl, ?_⟩
    show Q (.bl (decide (1 ≤ n))) H
    rw [decide_eq_true h1]
    exact k
theorem all_true : ∀ n : Nat, (List.replicate n true).all id = true
  | 0 => rfl
  | n + 1 => by rw [List.replicate_succ, List.all_cons, all_true n]; rfl
theorem rep_snoc (n : Nat) : (List.replicate (n + 1) true).map V.bl = (List.replicate n true).map V.bl ++ [V.bl true] := by
  rw [List.replicate_succ', List.map_append]; rfl
abbrev s_is_vector : Stmt := top 6
abbrev n_is_vector : List Str := ["value", "width", "part"]
theorem sc_is_vector : FnScope n_is_vector ["value", "width"] (defScope s_is_vector) := ⟨rfl, rfl, rfl, by decide +kernel, rfl, by decide +kernel, by decide +kernel⟩
def spIsVector : Sp := fun vs H Q _ => ∃ (a : Addr) (v : Vec), vs = [.ref a, .int ((v.length : Nat) : Int)] ∧ IsV H a v ∧ v.length ≤ 1000 ∧ ∀ H', Same H H' → Q (.bl true) H'
theorem ok_is_vector (T : Txt mg) (g_is_integer : Has P w K mg base 1 "is_integer" ["value"] spInt) (F : DefAt K mg "is_vector" s_is_vector ["value", "width"]) : Has P w K mg base 2 "is_vector" ["value", "width"] spIsVector := by
  refine F.has sc_is_vector (fun vs H Q E h => ?_) (fun f cdv A outer s H vs Q E hr h => ?_)
  · obtain ⟨a, v, rfl, _⟩ := h
    rfl
  · obtain ⟨a, v, rfl, hv, h1, k⟩ := h
    refine ⟨_, (pss_one (ps_ret (pe_and (pe_callB call_isi (by rfl) T.z_isinstance (by decide +kernel) (pa_cons (pv 0) (pa_cons (pe_bltn (v := .ty "tuple") (by rfl) T.z_tuple (by decide +kernel) rfl) pa_nil))) (pe_and (pe_cmpR op_eq (pe_callB call_len (by rfl) T.z_len (by decide +kernel) (pa_cons (pv 0) pa_nil)) (pv 1) (nomark _)) (pe_one (pe_callB (cr_all rfl) (by rfl) T.z_all (by decide +kernel) (pa_cons (pe_lc (own := [("part", 2)]) (g := gName 2) (by rfl) sc_is_vector.nd (pi_tup (pv 0)) (blkOk_by (own := [("part", 2)]) (N := n_is_vector) (sc := defScope s_is_vector) (by decide +kernel)) (fun _ _ _ _ _ => (pg_name (i := 2) sc_is_vector.nd rfl (Or.inl rfl))) (fun _ _ _ _ _ => pts_nil) (fun _ _ _ _ _ => (pe_callHas g_is_integer (hr.mono (by decide)) rfl (pa_cons (pv 2) pa_nil)))) pa_nil))))))), ?_⟩
    refine ⟨_, rfl, _, _, _, _, true, rfl, .ty _, .base (.tup hv), kit_ty (by decide +kernel), _, rfl, ?_⟩
    refine ⟨_, rfl, _, _, rfl, .inr ⟨_, SqT.of hv, rfl⟩, _, rfl, rfl, _, rfl, ?_⟩
    rw [List.length_map]
    show if decide (V.int ((v.length : Nat) : Int) = V.int ((v.length : Nat) : Int)) = true then _ else _
    rw [decide_eq_true rfl]
    refine ⟨_, rfl, a, rfl, ⟨_, SqT.of hv⟩, fun D hD => lc_it (walk_tup (xs := v.map V.int)) (fun i H' => Same H H' ∧ H' D = some (.lst ((List.replicate i true).map V.bl))) ?_ ?_ ?_ ?_⟩
    · exact ⟨(new_at hD).1, upd_same⟩
    · exact fun i H' _ q => SqT.of (q.1 _ _ hv)
    · rintro i x H' H'' hi ⟨sm, hD'⟩ ⟨rfl, e1⟩
      obtain ⟨n, en, rfl⟩ := map_at e1
      rw [List.length_map] at hi
      refine ⟨rfl, ?_⟩
      refine ⟨_, rfl, n, rfl, ?_⟩
      refine ⟨_, hD', by rw [List.length_map, List.length_replicate]; exact Nat.lt_of_le_of_lt (Nat.le_trans (Nat.le_of_lt hi) h1) (by decide), fun x o z => ?_, ?_⟩
      · rw [upd_ne (ne_of_none z hD)]
        exact sm _ _ z
      · rw [upd_same, rep_snoc]
    · rintro H' ⟨sm, hD'⟩
      refine ⟨_, _, rfl, SqL.of hD', ?_⟩
      rw [all_true]
      exact k _ sm
/-- a row of vectors of one width -/
def Rows (H : Hp) (n : Nat) (as : List V) (vs : List Vec) : Prop := Paired (fun x v => ∃ a, x = V.ref a ∧ IsV H a v) as vs ∧ ∀ v ∈ vs, v.length = n
theorem Rows.keep {H H' : Hp} {n : Nat} {as : List V} {vs : List Vec} (s : Same H H') (h : Rows H n as vs) : Rows H' n as vs :=
  ⟨Paired.mapP h.1 fun x v z => by obtain ⟨a, e, q⟩ := z; exact ⟨a, e, s _ _ q⟩, h.2⟩
theorem paired_get {α β : Type} {R : α → β → Prop} : ∀ {xs : List α} {ys : List β} {i : Nat} {x : α}, Paired R xs ys → xs[i]? = some x → ∃ y, ys[i]? = some y ∧ R x y
  | _, _, _, _, .nil, e => by simp at e
  | _, _, 0, x, .cons r _, e => by simp at e; subst e; exact ⟨_, rfl, r⟩
  | _, _, i + 1, x, .cons _ t, e => by
    obtain ⟨y, h1, h2⟩ := paired_get (i := i) (x := x) t (by simpa using e)
    exact ⟨y, by simpa using h1, h2⟩
theorem Rows.at {H : Hp} {n i : Nat} {as : List V} {vs : List Vec} {x : V} (h : Rows H n as vs) (e : as[i]? = some x) : ∃ a v, vs[i]? = some v ∧ x = .ref a ∧ IsV H a v ∧ v.length = n := by
  obtain ⟨v, ev, a, ea, q⟩ := paired_get h.1 e
  exact ⟨a, v, ev, ea, q, h.2 v (List.mem_of_getElem? ev)⟩
theorem Rows.len {H : Hp} {n : Nat} {as : List V} {vs : List Vec} (h : Rows H n as vs) : as.length = vs.length := Paired.length h.1
abbrev s_are_vectors : Stmt := top 7
abbrev n_are_vectors : List Str := ["value", "width", "part"]
theorem sc_are_vectors : FnScope n_are_vectors ["value", "width"] (defScope s_are_vectors) := ⟨rfl, rfl, rfl, by decide +kernel, rfl, by decide +kernel, by decide +kernel⟩
def spAreVectors (K : PySem.W.Frag) : Sp := fun vs H Q _ => ∃ (l : Addr) (as : List V) (rs : List Vec) (n : Nat), vs = [.ref l, .int ((n : Nat) : Int)] ∧ InSeq K H l as ∧ Rows H n as rs ∧ n ≤ 1000 ∧ rs.length ≤ 1000 ∧ ∀ H', Same H H' → Q (.bl true) H'
theorem ok_are_vectors (T : Txt mg) (g_is_sequence : Has P w K mg base 1 "is_sequence" ["value"] (spSeq K)) (g_is_vector : Has P w K mg base 2 "is_vector" ["value", "width"] spIsVector) (F : DefAt K mg "are_vectors" s_are_vectors ["value", "width"]) : Has P w K mg base 3 "are_vectors" ["value", "width"] (spAreVectors K) := by
  refine F.has sc_are_vectors (fun vs H Q E h => ?_) (fun f cdv A outer s H vs Q E hr h => ?_)
  · obtain ⟨l, as, rs, n, rfl, _⟩ := h
    rfl
  · obtain ⟨l, as, rs, n, rfl, hl, hrs, hn, h1, k⟩ := h
    refine ⟨_, (pss_one (ps_ret (pe_and (pe_callHas g_is_sequence (hr.mono (by decide)) rfl (pa_cons (pv 0) pa_nil)) (pe_one (pe_callB (cr_all rfl) (by rfl) T.z_all (by decide +kernel) (pa_cons (pe_lc (own := [("part", 2)]) (g := gName 2) (by rfl) sc_are_vectors.nd (pi_seq (pv 0)) (blkOk_by (own := [("part", 2)]) (N := n_are_vectors) (sc := defScope s_are_vectors) (by decide +kernel)) (fun _ _ _ _ _ => (pg_name (i := 2) sc_are_vectors.nd rfl (Or.inl rfl))) (fun _ _ _ _ _ => pts_nil) (fun _ _ _ _ _ => (pe_callHas g_is_vector (hr.mono (by decide)) rfl (pa_cons (pv 2) (pa_cons (pv 1) pa_nil))))) pa_nil)))))), ?_⟩
    refine ⟨_, rfl, l, as, rfl, hl, fun H1 s1 => ⟨_, rfl, ?_⟩⟩
    rcases hl with hl | ⟨hk, has, hq⟩
    · refine Or.inl ⟨_, rfl, l, rfl, ⟨_, SqL.of (s1 _ _ hl)⟩, fun D hD => lc_it (walk_list (xs := as)) (fun i H' => Same H1 H' ∧ H' D = some (.lst ((List.replicate i true).map V.bl))) ?_ ?_ ?_ ?_⟩
      · exact ⟨(new_at hD).1, upd_same⟩
      · exact fun i H' _ q => SqL.of (q.1 _ _ (s1 _ _ hl))
      · rintro i x H' H'' hi ⟨sm, hD'⟩ ⟨rfl, e1⟩
        obtain ⟨a, v, ev, rfl, hv, lv⟩ := (hrs.keep (s1.trans sm)).at e1
        refine ⟨rfl, ?_⟩
        refine ⟨_, rfl, _, rfl, a, v, (by rw [lv]; rfl), hv, by omega, fun H2 s2 => ?_⟩
        have hi' : i < rs.length := hrs.len ▸ hi
        refine ⟨_, s2 _ _ hD', by rw [List.length_map, List.length_replicate]; exact Nat.lt_of_le_of_lt (Nat.le_trans (Nat.le_of_lt hi') h1) (by decide), fun x o z => ?_, ?_⟩
        · rw [upd_ne (ne_of_none z hD)]
          exact s2 _ _ (sm _ _ z)
        · rw [upd_same, rep_snoc]
      · rintro H' ⟨sm, hD'⟩
        refine ⟨_, _, rfl, SqL.of hD', ?_⟩
        rw [all_true]
        exact k _ (s1.trans sm)
    · subst has
      refine Or.inr ⟨_, rfl, l, rfl, ⟨_, Same.sqt s1 hq⟩, fun D hD => lc_it (walk_tup (xs := [])) (fun i H' => Same H1 H' ∧ H' D = some (.lst ((List.replicate i true).map V.bl))) ?_ ?_ ?_ ?_⟩
      · exact ⟨(new_at hD).1, upd_same⟩
      · exact fun i H' _ q => Same.sqt (s1.trans q.1) hq
      · exact fun i x H' H'' hi => absurd hi (Nat.not_lt_zero _)
      · rintro H' ⟨sm, hD'⟩
        refine ⟨_, _, rfl, SqL.of hD', ?_⟩
        rw [all_true]
        exact k _ (s1.trans sm)
end
end K06

namespace K06
open PySem L2 RZ Lat
section
variable {P : Program} {w : World} {K : PySem.W.Frag} {mg : Str → Option Value} {base : Heap}
def OkRed : List Vec → Vec → Prop
  | [], _ => True
  | r :: rs, v => piv r < r.length ∧ CDivZ (itm v (piv r)) (itm r (piv r)) ∧ (∀ m ∈ r, CMulX (-((itm v (piv r)).fdiv (itm r (piv r)))) m) ∧ OkRed rs (addV v (-((itm v (piv r)).fdiv (itm r (piv r)))) r)
/-- rows in a list or a tuple -/
def RowsAt (H : Hp) (b : Addr) (as : List V) : Prop := H b = some (.tup as) ∨ H b = some (.lst as)
theorem RowsAt.keep {H H' : Hp} {b : Addr} {as : List V} (s : Same H H') (h : RowsAt H b as) : RowsAt H' b as := h.imp (s _ _) (s _ _)
theorem int_at {v : Vec} {i : Nat} (h : i < v.length) : atI (v.map V.int) ((i : Nat) : Int) = some (V.int (itm v i)) := atI_nat (by rw [List.getElem?_map, itm_of h]; rfl)
abbrev s_reduced_by : Stmt := top 18
abbrev n_reduced_by : List Str := ["basis", "vector", "row", "at"]
theorem sc_reduced_by : FnScope n_reduced_by ["basis", "vector"] (defScope s_reduced_by) := ⟨rfl, rfl, rfl, by decide +kernel, rfl, by decide +kernel, by decide +kernel⟩
def spReduced : Sp := fun vs H Q _ => ∃ (b p : Addr) (as : List V) (rs : List Vec) (v : Vec), vs = [.ref b, .ref p] ∧ RowsAt H b as ∧ Rows H v.length as rs ∧ IsV H p v ∧ v.length ≤ 1000 ∧ OkRed rs v ∧ ∀ (H' : Hp) (q : Addr), Same H H' → IsV H' q (redV rs v) → (redV rs v).length = v.length → Q (.ref q) H'
theorem ok_reduced_by (T : Txt mg) (g_pivot_of : Has P w K mg base 1 "pivot_of" ["vector"] spPivot) (g_added : Has P w K mg base 1 "added" ["vector", "times", "other"] spAdded) (F : DefAt K mg "reduced_by" s_reduced_by ["basis", "vector"]) : Has P w K mg base 2 "reduced_by" ["basis", "vector"] spReduced := by
  refine F.has sc_reduced_by (fun vs H Q E h => ?_) (fun f cdv A outer s H vs Q E hr h => ?_)
  · obtain ⟨b, p, as, rs, v, rfl, _⟩ := h
    rfl
  · obtain ⟨b, p, as, rs, v, rfl, hb, hrs, hv, h1, ok, k⟩ := h
    refine ⟨_, (pss_cons (ps_for PassesOwn.never rfl (pi_seq (pv 0)) (pg_name (i := 2) sc_reduced_by.nd rfl (Or.inl rfl)) (pss_cons (ps_set (i := 3) sc_reduced_by.nd rfl (Or.inl rfl) (pe_callHas g_pivot_of (hr.mono (by decide)) rfl (pa_cons (pv 2) pa_nil)))
      (pss_one (ps_set (i := 1) sc_reduced_by.nd rfl (Or.inl rfl) (pe_callHas g_added (hr.mono (by decide)) rfl (pa_cons (pv 1) (pa_cons (pe_un un_neg (pe_op op_fdivZ (pe_ix ix_tup (pv 1) (pv 3) (fun _ _ => rfl)) (pe_ix ix_tup (pv 2) (pv 3) (fun _ _ => rfl)))) (pa_cons (pv 2) pa_nil))))))))
      (pss_one (ps_ret (pv 1)))), ?_⟩
    rcases hb with hb | hb
    · refine .inr ⟨_, rfl, b, rfl, ⟨_, SqT.of hb⟩, for_it (walk_tup (xs := as)) (fun i σ H' => ∃ (q : Addr) (u : Vec) (x2 x3 : Option V), σ = [some (.ref b), some (.ref q), x2, x3] ∧ Same H H' ∧ IsV H' q u ∧ u.length = v.length ∧ OkRed (rs.drop i) u ∧ redV (rs.drop i) u = redV rs v) ⟨p, v, _, _, rfl, Same.refl _, hv, rfl, ok, rfl⟩ (fun i σ H' _ q => SqT.of ((show Same H H' from by obtain ⟨_, _, _, _, _, sm, _⟩ := q; exact sm) _ _ hb)) ?_ ?_⟩
      · rintro i x σ H' H'' hi ⟨q, u, x2, x3, rfl, sm, hu, lu, oku, eu⟩ ⟨rfl, ex⟩
        obtain ⟨a, r, er, rfl, hr0, lr⟩ := (hrs.keep sm).at ex
        have hlt := (List.getElem?_eq_some_iff.mp er).1
        have ed : rs.drop i = r :: rs.drop (i + 1) := by
          rw [List.drop_eq_getElem_cons hlt, (List.getElem?_eq_some_iff.mp er).2]
        rw [ed] at oku eu
        obtain ⟨o1, o2, o3, o4⟩ := oku
        refine ⟨_, rfl, a, r, rfl, hr0, fun H1 s1 => ?_⟩
        refine ⟨_, rfl, _, rfl, _, rfl, q, _, _, _, rfl, rfl, SqT.of (s1 _ _ hu), int_at (by omega), _, rfl, _, rfl, a, _, _, _, rfl, rfl, SqT.of (s1 _ _ hr0), int_at o1, _, _, rfl, rfl, o2, _, rfl, _, rfl, ?_⟩
        refine ⟨q, a, _, u, r, rfl, s1 _ _ hu, s1 _ _ hr0, by omega, by omega, o3, fun H2 z s2 hz => ?_⟩
        exact ⟨z, _, _, _, rfl, (sm.trans s1).trans s2, hz, (addV_len (by omega)).trans lu, o4, eu⟩
      · rintro σ H' ⟨q, u, x2, x3, rfl, sm, hu, lu, oku, eu⟩
        rw [hrs.len, List.drop_length] at eu
        have eu' : u = redV rs v := eu
        subst eu'
        exact ⟨_, rfl, k _ q sm hu lu⟩
    · refine .inl ⟨_, rfl, b, rfl, ⟨_, SqL.of hb⟩, for_it (walk_list (xs := as)) (fun i σ H' => ∃ (q : Addr) (u : Vec) (x2 x3 : Option V), σ = [some (.ref b), some (.ref q), x2, x3] ∧ Same H H' ∧ IsV H' q u ∧ u.length = v.length ∧ OkRed (rs.drop i) u ∧ redV (rs.drop i) u = redV rs v) ⟨p, v, _, _, rfl, Same.refl _, hv, rfl, ok, rfl⟩ (fun i σ H' _ q => SqL.of ((show Same H H' from by obtain ⟨_, _, _, _, _, sm, _⟩ := q; exact sm) _ _ hb)) ?_ ?_⟩
      · rintro i x σ H' H'' hi ⟨q, u, x2, x3, rfl, sm, hu, lu, oku, eu⟩ ⟨rfl, ex⟩
        obtain ⟨a, r, er, rfl, hr0, lr⟩ := (hrs.keep sm).at ex
        have hlt := (List.getElem?_eq_some_iff.mp er).1
        have ed : rs.drop i = r :: rs.drop (i + 1) := by
          rw [List.drop_eq_getElem_cons hlt, (List.getElem?_eq_some_iff.mp er).2]
        rw [ed] at oku eu
        obtain ⟨o1, o2, o3, o4⟩ := oku
        refine ⟨_, rfl, a, r, rfl, hr0, fun H1 s1 => ?_⟩
        refine ⟨_, rfl, _, rfl, _, rfl, q, _, _, _, rfl, rfl, SqT.of (s1 _ _ hu), int_at (by omega), _, rfl, _, rfl, a, _, _, _, rfl, rfl, SqT.of (s1 _ _ hr0), int_at o1, _, _, rfl, rfl, o2, _, rfl, _, rfl, ?_⟩
        refine ⟨q, a, _, u, r, rfl, s1 _ _ hu, s1 _ _ hr0, by omega, by omega, o3, fun H2 z s2 hz => ?_⟩
        exact ⟨z, _, _, _, rfl, (sm.trans s1).trans s2, hz, (addV_len (by omega)).trans lu, o4, eu⟩
      · rintro σ H' ⟨q, u, x2, x3, rfl, sm, hu, lu, oku, eu⟩
        rw [hrs.len, List.drop_length] at eu
        have eu' : u = redV rs v := eu
        subst eu'
        exact ⟨_, rfl, k _ q sm hu lu⟩
/-- the turns of cleared keep to what the model can do -/
def OkClr : Nat → Vec → Vec → Nat → Prop
  | 0, _, v, i => itm v i = 0
  | n + 1, r, v, i => itm v i = 0 ∨ (CDivZ (itm r i) (itm v i) ∧ (∀ m ∈ v, CMulX (-((itm r i).fdiv (itm v i))) m) ∧ OkClr n v (addV r (-((itm r i).fdiv (itm v i))) v) i)
abbrev s_cleared : Stmt := top 19
abbrev n_cleared : List Str := ["row", "vector", "at"]
theorem sc_cleared : FnScope n_cleared ["row", "vector", "at"] (defScope s_cleared) := ⟨rfl, rfl, rfl, by decide +kernel, rfl, by decide +kernel, by decide +kernel⟩
def spCleared : Sp := fun vs H Q _ => ∃ (a p : Addr) (r v : Vec) (i n : Nat), vs = [.ref a, .ref p, .int ((i : Nat) : Int)] ∧ IsV H a r ∧ IsV H p v ∧ r.length = v.length ∧ v.length ≤ 1000 ∧ i < v.length ∧ OkClr n r v i ∧
  ∀ (H' : Hp) (t x y : Addr), Same H H' → H' t = some (.tup [.ref x, .ref y]) → IsV H' x (clr n r v i).1 → IsV H' y (clr n r v i).2 → Q (.ref t) H'
theorem ok_cleared (T : Txt mg) (g_added : Has P w K mg base 1 "added" ["vector", "times", "other"] spAdded) (F : DefAt K mg "cleared" s_cleared ["row", "vector", "at"]) : Has P w K mg base 2 "cleared" ["row", "vector", "at"] spCleared := by
  refine F.has sc_cleared (fun vs H Q E h => ?_) (fun f cdv A outer s H vs Q E hr h => ?_)
  · obtain ⟨a, p, r, v, i, n, rfl, _⟩ := h
    rfl
  · obtain ⟨a, p, r, v, i, n, rfl, ha, hp, hl, h1, hi, ok, k⟩ := h
    refine ⟨_, (pss_cons (ps_while PassesOwn.never (pt_cmpR op_ne (pe_ix ix_tup (pv 1) (pv 2) (fun _ _ => rfl)) pe_int (nomark _)) (pss_one (ps_par (i := 0) (j := 1) (by rfl) sc_cleared.nd rfl rfl (by decide) rfl rfl (pa_cons (pv 1) (pa_cons (pe_callHas g_added (hr.mono (by decide)) rfl (pa_cons (pv 0) (pa_cons (pe_un un_neg (pe_op op_fdivZ (pe_ix ix_tup (pv 0) (pv 2) (fun _ _ => rfl)) (pe_ix ix_tup (pv 1) (pv 2) (fun _ _ => rfl)))) (pa_cons (pv 1) pa_nil)))) pa_nil)) (by rfl))))
      (pss_one (ps_ret (pe_tup (pa_cons (pv 0) (pa_cons (pv 1) pa_nil)))))), ?_⟩
    refine ⟨fun m σ H' => ∃ (x y : Addr) (r' v' : Vec), σ = [some (.ref x), some (.ref y), some (.int ((i : Nat) : Int))] ∧ Same H H' ∧ IsV H' x r' ∧ IsV H' y v' ∧ r'.length = v'.length ∧ v'.length = v.length ∧ OkClr m r' v' i ∧ clr m r' v' i = clr n r v i, ⟨n, a, p, r, v, rfl, Same.refl _, ha, hp, hl, rfl, ok, rfl⟩, ?_⟩
    rintro m σ H' ⟨x, y, r', v', rfl, sm, hx, hy, hl', lv', ok', e'⟩
    refine ⟨_, rfl, _, rfl, y, _, _, _, rfl, rfl, SqT.of hy, int_at (by omega), rfl, _, rfl, ?_⟩
    have stop : itm v' i = 0 → clr m r' v' i = (r', v') := fun h0 => by
      cases m with
      | zero => rfl
      | succ m => unfold clr; rw [if_pos h0]
    by_cases h0 : itm v' i = 0
    · have e2 := stop h0
      show if (!decide (V.int (itm v' i) = V.int 0)) = true then _ else _
      rw [h0, decide_eq_true rfl]
      rw [e2] at e'
      refine ⟨_, rfl, _, rfl, (by decide : 2 ≤ sizeLine), fun t ht => ?_⟩
      obtain ⟨st, h2⟩ := new_at (o := .tup [.ref x, .ref y]) ht
      refine k _ t x y (sm.trans st) h2 (st _ _ ?_) (st _ _ ?_)
      · rw [← e']; exact hx
      · rw [← e']; exact hy
    · show if (!decide (V.int (itm v' i) = V.int 0)) = true then _ else _
      rw [decide_eq_false (fun z => h0 (V.int.inj z))]
      cases m with
      | zero => exact absurd ok' h0
      | succ m =>
        obtain ok' | ⟨o1, o2, o3⟩ := ok'
        · exact absurd ok' h0
        · have e3 : clr (m + 1) r' v' i = clr m v' (addV r' (-((itm r' i).fdiv (itm v' i))) v') i := by
            rw [clr, if_neg h0]
          rw [e3] at e'
          refine ⟨fun σ2 H2 => ∃ (x y : Addr) (r' v' : Vec), σ2 = [some (.ref x), some (.ref y), some (.int ((i : Nat) : Int))] ∧ Same H H2 ∧ IsV H2 x r' ∧ IsV H2 y v' ∧ r'.length = v'.length ∧ v'.length = v.length ∧ OkClr m r' v' i ∧ clr m r' v' i = clr n r v i, fun σ2 H2 q => ⟨m, Nat.lt_succ_self m, q⟩, ?_⟩
          refine ⟨_, rfl, _, rfl, _, rfl, _, rfl, x, _, _, _, rfl, rfl, SqT.of hx, int_at (by omega), _, rfl, _, rfl, y, _, _, _, rfl, rfl, SqT.of hy, int_at (by omega), _, _, rfl, rfl, o1, _, rfl, _, rfl, ?_⟩
          refine ⟨x, y, _, r', v', rfl, hx, hy, hl', by omega, o2, fun H2 z s2 hz => ?_⟩
          exact ⟨_, _, rfl, y, z, _, _, rfl, sm.trans s2, s2 _ _ hy, hz, by rw [addV_len hl', hl'], by rw [addV_len hl']; omega, o3, e'⟩
end
end K06

namespace K06
open PySem L2 RZ Lat
section
variable {P : Program} {w : World} {K : PySem.W.Frag} {mg : Str → Option Value} {base : Heap}
def OkStep : List Vec → Vec → Prop
  | [], _ => True
  | r :: rs, l => piv r < r.length ∧ ((piv l < piv r ∧ OkStep rs r) ∨ (¬ piv l < piv r ∧ OkClr (itm l (piv r)).natAbs r l (piv r) ∧ OkStep rs (clear r l (piv r)).2))
theorem Rows.lst_up {H : Hp} {n : Nat} {o : Addr} {ys xs as : List V} {vs : List Vec} (ho : H o = some (.lst ys)) (h : Rows H n as vs) : Rows (upd H o (.lst xs)) n as vs :=
  ⟨Paired.mapP h.1 fun x v z => by
    obtain ⟨a, e, q⟩ := z
    exact ⟨a, e, (upd_ne (ne_of q ho fun y => nomatch y)).trans q⟩, h.2⟩
theorem Rows.snoc {H : Hp} {n : Nat} {a : Addr} {as : List V} {vs : List Vec} {v : Vec} (h : Rows H n as vs) (hv : IsV H a v) (l : v.length = n) : Rows H n (as ++ [.ref a]) (vs ++ [v]) := by
  obtain ⟨h1, h2⟩ := h
  refine ⟨?_, fun u hu => ?_⟩
  · induction h1 with
    | nil => exact .cons ⟨a, rfl, hv⟩ .nil
    | cons r _ ih => exact .cons r (ih fun u hu => h2 u (List.mem_cons_of_mem _ hu))
  · rcases List.mem_append.mp hu with hu | hu
    · exact h2 u hu
    · rw [List.mem_singleton.mp hu]; exact l
theorem V_up {H : Hp} {a o : Addr} {ys xs : List V} {v : Vec} (ho : H o = some (.lst ys)) (h : IsV H a v) : IsV (upd H o (.lst xs)) a v := (upd_ne (ne_of h ho fun y => nomatch y)).trans h
abbrev s_stepped : Stmt := top 20
abbrev n_stepped : List Str := ["steps", "vector", "out", "left", "row", "at", "kept"]
theorem sc_stepped : FnScope n_stepped ["steps", "vector"] (defScope s_stepped) := ⟨rfl, rfl, rfl, by decide +kernel, rfl, by decide +kernel, by decide +kernel⟩
def spStepped : Sp := fun vs H Q _ => ∃ (b p : Addr) (as : List V) (rs : List Vec) (v : Vec), vs = [.ref b, .ref p] ∧ H b = some (.tup as) ∧ Rows H v.length as rs ∧ IsV H p v ∧ v.length ≤ 1000 ∧ rs.length ≤ 1000 ∧ OkStep rs v ∧
  ∀ (H' : Hp) (o : Addr) (os : List V), Same H H' → H' o = some (.lst os) → Rows H' v.length os (Lat.stepped rs v) → Q (.ref o) H'
theorem ok_stepped (T : Txt mg) (g_pivot_of : Has P w K mg base 1 "pivot_of" ["vector"] spPivot) (g_cleared : Has P w K mg base 2 "cleared" ["row", "vector", "at"] spCleared) (g_is_zero : Has P w K mg base 2 "is_zero" ["vector"] spZero) (F : DefAt K mg "stepped" s_stepped ["steps", "vector"]) :
    Has P w K mg base 3 "stepped" ["steps", "vector"] spStepped := by
  refine F.has sc_stepped (fun vs H Q E h => ?_) (fun f cdv A outer s H vs Q E hr h => ?_)
  · obtain ⟨b, p, as, rs, v, rfl, _⟩ := h
    rfl
  · obtain ⟨b, p, as, rs, v, rfl, hb, hrs, hv, h1, h2, ok, k⟩ := h
    refine ⟨_, (pss_cons (ps_set (i := 2) sc_stepped.nd rfl (Or.inl rfl) (pe_lst pa_nil))
      (pss_cons (ps_set (i := 3) sc_stepped.nd rfl (Or.inl rfl) (pv 1))
      (pss_cons (ps_for PassesOwn.never rfl (pi_tup (pv 0)) (pg_name (i := 4) sc_stepped.nd rfl (Or.inl rfl)) (pss_cons (ps_set (i := 5) sc_stepped.nd rfl (Or.inl rfl) (pe_callHas g_pivot_of (hr.mono (by decide)) rfl (pa_cons (pv 4) pa_nil)))
      (pss_one (ps_if (pt_cmpR op_lt (pe_callHas g_pivot_of (hr.mono (by decide)) rfl (pa_cons (pv 3) pa_nil)) (pv 5) (nomark _)) (pss_cons (ps_expr (pe_bm PySem.F.plainAttrs_list PySem.F.slot_list_append PySem.F.type_list_append mt_append (pv 2) (pa_cons (pv 3) pa_nil)))
      (pss_one (ps_set (i := 3) sc_stepped.nd rfl (Or.inl rfl) (pv 4)))) (pss_cons (ps_asg (pe_callHas g_cleared (hr.mono (by decide)) rfl (pa_cons (pv 4) (pa_cons (pv 3) (pa_cons (pv 5) pa_nil)))) (pg_tup rfl (pgs_cons (pg_name (i := 6) sc_stepped.nd rfl (Or.inl rfl)) (pgs_cons (pg_name (i := 3) sc_stepped.nd rfl (Or.inl rfl)) pgs_nil))))
      (pss_one (ps_expr (pe_bm PySem.F.plainAttrs_list PySem.F.slot_list_append PySem.F.type_list_append mt_append (pv 2) (pa_cons (pv 6) pa_nil)))))))))
      (pss_cons (ps_if (pt_not (pt_val (pe_callHas g_is_zero (hr.mono (by decide)) rfl (pa_cons (pv 3) pa_nil)))) (pss_one (ps_expr (pe_bm PySem.F.plainAttrs_list PySem.F.slot_list_append PySem.F.type_list_append mt_append (pv 2) (pa_cons (pv 3) pa_nil)))) pss_nil)
      (pss_one (ps_ret (pv 2))))))), ?_⟩
    refine ⟨Nat.zero_le _, fun o ho => ?_⟩
    obtain ⟨so, ho1⟩ := new_at (o := .lst []) ho
    refine ⟨_, rfl, ?_⟩
    refine ⟨_, rfl, b, rfl, ⟨_, SqT.of (so _ _ hb)⟩, for_it (walk_tup (xs := as)) (fun i σ H' => ∃ (q : Addr) (l : Vec) (outs : List V) (os : List Vec) (x4 x5 x6 : Option V), σ = [some (.ref b), some (.ref p), some (.ref o), some (.ref q), x4, x5, x6] ∧ Same H H' ∧ IsV H' q l ∧ l.length = v.length ∧
      H' o = some (.lst outs) ∧ Rows H' v.length outs os ∧ os.length = i ∧ OkStep (rs.drop i) l ∧ os ++ (stepGo (rs.drop i) l).1 = (stepGo rs v).1 ∧ (stepGo (rs.drop i) l).2 = (stepGo rs v).2) ⟨p, v, [], [], _, _, _, rfl, so, so _ _ hv, rfl, ho1, ⟨.nil, fun u hu => nomatch hu⟩, rfl, ok, rfl, rfl⟩ (fun i σ H' _ z => ?_) ?_ ?_⟩
    · obtain ⟨_, _, _, _, _, _, _, _, sm, _⟩ := z
      exact SqT.of (sm _ _ hb)
    · rintro i x σ H' H'' hi ⟨q, l, outs, os, x4, x5, x6, rfl, sm, hl, ll, hout, hos, los, okl, e1, e2⟩ ⟨rfl, ex⟩
      obtain ⟨a, r, er, rfl, hr0, lr⟩ := (hrs.keep sm).at ex
      have hlt := (List.getElem?_eq_some_iff.mp er).1
      have ed : rs.drop i = r :: rs.drop (i + 1) := by
        rw [List.drop_eq_getElem_cons hlt, (List.getElem?_eq_some_iff.mp er).2]
      rw [ed] at okl e1 e2
      obtain ⟨o1, o2⟩ := okl
      have lout : outs.length = i := (hos.len).trans los
      have small : outs.length < sizeLine := by rw [lout]; exact Nat.lt_of_le_of_lt (Nat.le_trans (Nat.le_of_lt hlt) h2) (by decide)
      refine ⟨_, rfl, a, r, rfl, hr0, fun H1 s1 => ?_⟩
      refine ⟨_, rfl, q, l, rfl, s1 _ _ hl, fun H2 s2 => ⟨_, rfl, _, _, rfl, rfl, _, rfl, ?_⟩⟩
      have s12 := s1.trans s2
      have ho2 := s12 _ _ hout
      have nho : ∀ x' u, H x' = some u → x' ≠ o := fun x' u z => ne_of_none z ho
      rcases o2 with ⟨hp, o3⟩ | ⟨hp, o3, o4⟩
      · show if decide (((piv l : Nat) : Int) < ((piv r : Nat) : Int)) = true then _ else _
        rw [decide_eq_true (by omega)]
        refine ⟨_, rfl, .inl ⟨rfl, _, SqL.of ho2⟩, _, rfl, o, _, _, rfl, rfl, ho2, small, ?_⟩
        have eg : stepGo (r :: rs.drop (i + 1)) l = (l :: (stepGo (rs.drop (i + 1)) r).1, (stepGo (rs.drop (i + 1)) r).2) := by rw [stepGo, if_pos hp]
        rw [eg] at e1 e2
        refine ⟨_, rfl, a, r, _, os ++ [l], _, _, _, rfl, fun x' u z => ?_, V_up ho2 (s12 _ _ hr0), lr, upd_same, Rows.snoc (Rows.lst_up ho2 (hos.keep s12)) (V_up ho2 (s12 _ _ hl)) ll, by rw [List.length_append, los]; rfl, o3, ?_, e2⟩
        · rw [upd_ne (nho x' u z)]; exact s12 _ _ (sm _ _ z)
        · rw [List.append_assoc]; exact e1
      · show if decide (((piv l : Nat) : Int) < ((piv r : Nat) : Int)) = true then _ else _
        rw [decide_eq_false (by omega)]
        refine ⟨_, rfl, _, rfl, _, rfl, a, q, r, l, piv r, (itm l (piv r)).natAbs, rfl, s12 _ _ hr0, s12 _ _ hl, by omega, by omega, by omega, o3, fun H3 t x y s3 ht hx hy => ?_⟩
        have ho3 := s3 _ _ ho2
        refine ⟨t, _, rfl, SqT.of ht, rfl, _, _, rfl, _, _, rfl, rfl, ?_⟩
        refine ⟨_, rfl, .inl ⟨rfl, _, SqL.of ho3⟩, _, rfl, o, _, _, rfl, rfl, ho3, small, ?_⟩
        have eg : stepGo (r :: rs.drop (i + 1)) l = ((clear r l (piv r)).1 :: (stepGo (rs.drop (i + 1)) (clear r l (piv r)).2).1, (stepGo (rs.drop (i + 1)) (clear r l (piv r)).2).2) := by rw [stepGo, if_neg hp]
        rw [eg] at e1 e2
        have s13 := s12.trans s3
        obtain ⟨c1, c2⟩ := clr_len (itm l (piv r)).natAbs r l (piv r) (by omega)
        refine ⟨y, _, _, os ++ [(clear r l (piv r)).1], _, _, _, rfl, fun x' u z => ?_, V_up ho3 hy, (by first | omega | (unfold clear; omega)), upd_same, Rows.snoc (Rows.lst_up ho3 (hos.keep s13)) (V_up ho3 hx) (by first | omega | (unfold clear; omega)), by rw [List.length_append, los]; rfl, o4, ?_, e2⟩
        · rw [upd_ne (nho x' u z)]; exact s13 _ _ (sm _ _ z)
        · rw [List.append_assoc]; exact e1
    · rintro σ H' ⟨q, l, outs, os, x4, x5, x6, rfl, sm, hl, ll, hout, hos, los, okl, e1, e2⟩
      rw [hrs.len, List.drop_length] at e1 e2
      have e1' : os = (stepGo rs v).1 := by rw [← e1]; exact (List.append_nil os).symm
      have e2' : l = (stepGo rs v).2 := e2
      refine ⟨_, rfl, q, l, rfl, hl, fun H1 s1 => ⟨_, rfl, ?_⟩⟩
      have ho1 := s1 _ _ hout
      by_cases hz : piv l = l.length
      · show if (!decide (piv l = l.length)) = true then _ else _
        rw [decide_eq_true hz]
        have ef : Lat.stepped rs v = os := by unfold Lat.stepped; rw [← e2', if_pos hz, e1']
        refine ⟨_, rfl, k _ o outs (sm.trans s1) ho1 ?_⟩
        rw [ef]; exact hos.keep s1
      · show if (!decide (piv l = l.length)) = true then _ else _
        rw [decide_eq_false hz]
        have ef : Lat.stepped rs v = os ++ [l] := by unfold Lat.stepped; rw [← e2', if_neg hz, e1']
        have lout : outs.length = os.length := hos.len
        have small : outs.length < sizeLine := by rw [lout, los, hrs.len]; exact Nat.lt_of_le_of_lt h2 (by decide)
        refine ⟨_, rfl, .inl ⟨rfl, _, SqL.of ho1⟩, _, rfl, o, _, _, rfl, rfl, ho1, small, ?_⟩
        refine ⟨_, rfl, k _ o _ (fun x' u z => ?_) upd_same ?_⟩
        · rw [upd_ne (ne_of_none z ho)]; exact s1 _ _ (sm _ _ z)
        · rw [ef]
          exact Rows.snoc (Rows.lst_up ho1 (hos.keep s1)) (V_up ho1 (s1 _ _ hl)) ll
def OkPos (r : Vec) : Prop := piv r < r.length ∧ ∀ m ∈ r, CMulX (-2) m
theorem posV_len (r : Vec) : (posV r).length = r.length := by
  unfold posV
  split
  · rfl
  · exact addV_len rfl
abbrev s_positive : Stmt := top 21
abbrev n_positive : List Str := ["row"]
theorem sc_positive : FnScope n_positive ["row"] (defScope s_positive) := ⟨rfl, rfl, rfl, by decide +kernel, rfl, by decide +kernel, by decide +kernel⟩
def spPositive : Sp := fun vs H Q _ => ∃ (a : Addr) (r : Vec), vs = [.ref a] ∧ IsV H a r ∧ r.length ≤ 1000 ∧ OkPos r ∧ ∀ (H' : Hp) (q : Addr), Same H H' → IsV H' q (posV r) → Q (.ref q) H'
theorem ok_positive (T : Txt mg) (g_pivot_of : Has P w K mg base 1 "pivot_of" ["vector"] spPivot) (g_added : Has P w K mg base 1 "added" ["vector", "times", "other"] spAdded) (F : DefAt K mg "positive" s_positive ["row"]) : Has P w K mg base 2 "positive" ["row"] spPositive := by
  refine F.has sc_positive (fun vs H Q E h => ?_) (fun f cdv A outer s H vs Q E hr h => ?_)
  · obtain ⟨a, r, rfl, _⟩ := h
    rfl
  · obtain ⟨a, r, rfl, ha, h1, ⟨o1, o2⟩, k⟩ := h
    refine ⟨_, (pss_one (ps_ret (pe_ifExp (pt_cmpR op_gt (pe_ix ix_tup (pv 0) (pe_callHas g_pivot_of (hr.mono (by decide)) rfl (pa_cons (pv 0) pa_nil)) (fun _ _ => rfl)) pe_int (nomark _)) (pv 0) (pe_callHas g_added (hr.mono (by decide)) rfl (pa_cons (pv 0) (pa_cons (pe_un un_neg pe_int) (pa_cons (pv 0) pa_nil))))))), ?_⟩
    refine ⟨_, rfl, _, rfl, a, r, rfl, ha, fun H1 s1 => ⟨a, _, _, _, rfl, rfl, SqT.of (s1 _ _ ha), int_at o1, _, _, rfl, rfl, _, rfl, ?_⟩⟩
    by_cases h0 : itm r (piv r) > 0
    · show if decide (0 < itm r (piv r)) = true then _ else _
      rw [decide_eq_true h0]
      have e : posV r = r := by unfold posV; rw [if_pos h0]
      exact ⟨_, rfl, k _ a s1 (by rw [e]; exact s1 _ _ ha)⟩
    · show if decide (0 < itm r (piv r)) = true then _ else _
      rw [decide_eq_false h0]
      have e : posV r = addV r (-2) r := by unfold posV; rw [if_neg h0]
      refine ⟨_, rfl, _, rfl, _, rfl, a, a, -2, r, r, rfl, s1 _ _ ha, s1 _ _ ha, rfl, h1, o2, fun H2 q s2 hq => k _ q (s1.trans s2) (by rw [e]; exact hq)⟩
def OkTidy : List Vec → Prop
  | [] => True
  | r :: rs => OkTidy rs ∧ OkPos r ∧ OkRed (tidy rs) (posV r)
theorem okTidy_drop : ∀ (i : Nat) (rs : List Vec), OkTidy rs → OkTidy (rs.drop i)
  | 0, _, h => h
  | _ + 1, [], h => h
  | i + 1, _ :: rs, h => okTidy_drop i rs h.1
theorem Rows.cons {H : Hp} {n : Nat} {a : Addr} {as : List V} {vs : List Vec} {v : Vec} (h : Rows H n as vs) (hv : IsV H a v) (l : v.length = n) : Rows H n (.ref a :: as) (v :: vs) :=
  ⟨.cons ⟨a, rfl, hv⟩ h.1, fun u hu => by
    rcases List.mem_cons.mp hu with hu | hu
    · rw [hu]; exact l
    · exact h.2 u hu⟩
theorem tidy_len : ∀ rs : List Vec, (tidy rs).length = rs.length
  | [] => rfl
  | r :: rs => by unfold tidy; rw [List.length_cons, List.length_cons, tidy_len rs]
abbrev s_tidied : Stmt := top 22
abbrev n_tidied : List Str := ["steps", "out", "row"]
theorem sc_tidied : FnScope n_tidied ["steps"] (defScope s_tidied) := ⟨rfl, rfl, rfl, by decide +kernel, rfl, by decide +kernel, by decide +kernel⟩
def spTidied : Sp := fun vs H Q _ => ∃ (l : Addr) (n : Nat) (as : List V) (rs : List Vec), vs = [.ref l] ∧ H l = some (.lst as) ∧ Rows H n as rs ∧ n ≤ 1000 ∧ rs.length ≤ 1000 ∧ OkTidy rs ∧ ∀ (H' : Hp) (q : Addr) (os : List V), Same H H' → H' q = some (.tup os) → Rows H' n os (tidy rs) → Q (.ref q) H'
theorem ok_tidied (T : Txt mg) (g_positive : Has P w K mg base 2 "positive" ["row"] spPositive) (g_reduced_by : Has P w K mg base 2 "reduced_by" ["basis", "vector"] spReduced) (F : DefAt K mg "tidied" s_tidied ["steps"]) : Has P w K mg base 3 "tidied" ["steps"] spTidied := by
  refine F.has sc_tidied (fun vs H Q E h => ?_) (fun f cdv A outer s H vs Q E hr h => ?_)
  · obtain ⟨l, n, as, rs, rfl, _⟩ := h
    rfl
  · obtain ⟨l, n, as, rs, rfl, hl, hrs, h1, h2, ok, k⟩ := h
    refine ⟨_, (pss_cons (ps_set (i := 1) sc_tidied.nd rfl (Or.inl rfl) (pe_lst pa_nil))
      (pss_cons (ps_for PassesOwn.never rfl (pi_list (pe_revL (pv 0))) (pg_name (i := 2) sc_tidied.nd rfl (Or.inl rfl)) (pss_one (ps_set (i := 1) sc_tidied.nd rfl (Or.inl rfl) (pe_lst (pa_cons (pe_callHas g_reduced_by (hr.mono (by decide)) rfl (pa_cons (pv 1) (pa_cons (pe_callHas g_positive (hr.mono (by decide)) rfl (pa_cons (pv 2) pa_nil)) pa_nil))) (StX.pa_star (pv 1) pa_nil))))))
      (pss_one (ps_ret (pe_callTy call_tuple_of (by rfl) T.z_tuple (by decide +kernel) (pa_cons (pv 1) pa_nil)))))), ?_⟩
    refine ⟨Nat.zero_le _, fun o ho => ?_⟩
    obtain ⟨so, ho1⟩ := new_at (o := .lst []) ho
    refine ⟨_, rfl, l, as, rfl, SqL.of (so _ _ hl), fun p hp => ?_⟩
    obtain ⟨sp, hp1⟩ := new_at (o := .lst as.reverse) hp
    have lrs : as.length = rs.length := hrs.len
    refine ⟨p, rfl, ⟨_, SqL.of hp1⟩, for_it (walk_list (xs := as.reverse)) (fun i σ H' => ∃ (o : Addr) (outs : List V) (x2 : Option V), σ = [some (.ref l), some (.ref o), x2] ∧ Same H H' ∧ H' p = some (.lst as.reverse) ∧ H' o = some (.lst outs) ∧ i ≤ rs.length ∧ Rows H' n outs (tidy (rs.drop (rs.length - i))))
      ⟨o, [], _, rfl, so.trans sp, hp1, sp _ _ ho1, Nat.zero_le _, by rw [Nat.sub_zero, List.drop_length]; exact ⟨.nil, fun u hu => nomatch hu⟩⟩ (fun i σ H' _ z => ?_) ?_ ?_⟩
    · obtain ⟨_, _, _, _, _, hp2, _⟩ := z
      exact SqL.of hp2
    · rintro i x σ H' H'' hi ⟨o, outs, x2, rfl, sm, hp2, hout, hi2, hos⟩ ⟨rfl, ex⟩
      rw [List.length_reverse] at hi
      rw [List.getElem?_reverse hi] at ex
      obtain ⟨a, r, er, rfl, hr0, lr⟩ := (hrs.keep sm).at ex
      have hlt := (List.getElem?_eq_some_iff.mp er).1
      have ed : rs.drop (rs.length - (i + 1)) = r :: rs.drop (rs.length - i) := by
        have e1 : rs.length - (i + 1) = as.length - 1 - i := by omega
        have e2 : rs.length - i = as.length - 1 - i + 1 := by omega
        rw [e1, e2, List.drop_eq_getElem_cons hlt, (List.getElem?_eq_some_iff.mp er).2]
      have okd := okTidy_drop (rs.length - (i + 1)) rs ok
      rw [ed] at okd
      obtain ⟨o1, o2, o3⟩ := okd
      refine ⟨_, rfl, _, rfl, a, r, rfl, hr0, by omega, o2, fun H1 q1 s1 hq1 => ?_⟩
      have lp := posV_len r
      have n1 : (posV r).length = n := lp.trans lr
      refine ⟨o, q1, outs, _, posV r, rfl, .inr (s1 _ _ hout), by rw [n1]; exact hos.keep s1, hq1, by omega, o3, fun H2 z s2 hz lz => ?_⟩
      have s12 := s1.trans s2
      refine ⟨_, rfl, o, outs, rfl, .inr (SqL.of (s12 _ _ hout)), ?_⟩
      have lout : outs.length = rs.length - (rs.length - i) := by rw [hos.len, tidy_len, List.length_drop]
      refine ⟨by show (V.ref z :: (outs ++ [])).length ≤ sizeLine; rw [List.append_nil, List.length_cons]; exact Nat.le_trans (by omega : outs.length + 1 ≤ 1001) (by decide), fun o' ho' => ?_⟩
      obtain ⟨s3, ho3⟩ := new_at (o := .lst (V.ref z :: (outs ++ []))) ho'
      have s13 := s12.trans s3
      refine ⟨o', _, _, rfl, sm.trans s13, s13 _ _ hp2, ho3, by omega, ?_⟩
      rw [ed]
      have fin : Rows _ n (V.ref z :: outs) (redV (tidy (rs.drop (rs.length - i))) (posV r) :: tidy (rs.drop (rs.length - i))) := Rows.cons (hos.keep s13) (s3 _ _ hz) (by omega)
      rw [show V.ref z :: (outs ++ []) = V.ref z :: outs by rw [List.append_nil]] at fin ⊢
      exact fin
    · rintro σ H' ⟨o, outs, x2, rfl, sm, hp2, hout, hi2, hos⟩
      rw [List.length_reverse, lrs, Nat.sub_self] at hos
      refine ⟨_, rfl, _, _, rfl, .inl ⟨SqL.of hout, fun t ht => ?_⟩⟩
      obtain ⟨s3, ht3⟩ := new_at (o := .tup outs) ht
      exact k _ t outs (sm.trans s3) ht3 (hos.keep s3)
def OkGrow (rs : List Vec) (v : Vec) : Prop := OkRed rs v ∧ (piv (redV rs v) = (redV rs v).length ∨ (OkStep rs (redV rs v) ∧ OkTidy (Lat.stepped rs (redV rs v)) ∧ (Lat.stepped rs (redV rs v)).length ≤ 1000))
abbrev s_grown : Stmt := top 23
abbrev n_grown : List Str := ["basis", "vector", "rest"]
theorem sc_grown : FnScope n_grown ["basis", "vector"] (defScope s_grown) := ⟨rfl, rfl, rfl, by decide +kernel, rfl, by decide +kernel, by decide +kernel⟩
def spGrown : Sp := fun vs H Q _ => ∃ (b p : Addr) (as : List V) (rs : List Vec) (v : Vec), vs = [.ref b, .ref p] ∧ H b = some (.tup as) ∧ Rows H v.length as rs ∧ IsV H p v ∧ v.length ≤ 1000 ∧ rs.length ≤ 1000 ∧ OkGrow rs v ∧
  ∀ (H' : Hp) (q : Addr) (os : List V), Same H H' → H' q = some (.tup os) → Rows H' v.length os (grow rs v) → Q (.ref q) H'
theorem ok_grown (T : Txt mg) (g_reduced_by : Has P w K mg base 2 "reduced_by" ["basis", "vector"] spReduced) (g_is_zero : Has P w K mg base 2 "is_zero" ["vector"] spZero) (g_stepped : Has P w K mg base 3 "stepped" ["steps", "vector"] spStepped) (g_tidied : Has P w K mg base 3 "tidied" ["steps"] spTidied)
    (F : DefAt K mg "grown" s_grown ["basis", "vector"]) : Has P w K mg base 4 "grown" ["basis", "vector"] spGrown := by
  refine F.has sc_grown (fun vs H Q E h => ?_) (fun f cdv A outer s H vs Q E hr h => ?_)
  · obtain ⟨b, p, as, rs, v, rfl, _⟩ := h
    rfl
  · obtain ⟨b, p, as, rs, v, rfl, hb, hrs, hv, h1, h2, ⟨o1, o2⟩, k⟩ := h
    refine ⟨_, (pss_cons (ps_set (i := 2) sc_grown.nd rfl (Or.inl rfl) (pe_callHas g_reduced_by (hr.mono (by decide)) rfl (pa_cons (pv 0) (pa_cons (pv 1) pa_nil))))
      (pss_cons (ps_if (pt_val (pe_callHas g_is_zero (hr.mono (by decide)) rfl (pa_cons (pv 2) pa_nil))) (pss_one (ps_ret (pv 0))) pss_nil)
      (pss_one (ps_ret (pe_callHas g_tidied (hr.mono (by decide)) rfl (pa_cons (pe_callHas g_stepped (hr.mono (by decide)) rfl (pa_cons (pv 0) (pa_cons (pv 2) pa_nil))) pa_nil)))))), ?_⟩
    refine ⟨_, rfl, _, rfl, b, p, as, rs, v, rfl, .inl hb, hrs, hv, h1, o1, fun H1 q s1 hq lq => ?_⟩
    refine ⟨_, rfl, q, _, rfl, hq, fun H2 s2 => ⟨_, rfl, ?_⟩⟩
    have s12 := s1.trans s2
    by_cases hz : piv (redV rs v) = (redV rs v).length
    · show if decide (piv (redV rs v) = (redV rs v).length) = true then _ else _
      rw [decide_eq_true hz]
      have e : grow rs v = rs := by unfold grow; rw [if_pos hz]
      exact ⟨_, rfl, k _ b as s12 (s12 _ _ hb) (by rw [e]; exact hrs.keep s12)⟩
    · show if decide (piv (redV rs v) = (redV rs v).length) = true then _ else _
      rw [decide_eq_false hz]
      have e : grow rs v = tidy (Lat.stepped rs (redV rs v)) := by unfold grow; rw [if_neg hz]
      rcases o2 with o2 | ⟨o2, o3, o4⟩
      · exact absurd o2 hz
      · refine ⟨_, rfl, _, rfl, b, q, as, rs, redV rs v, rfl, s12 _ _ hb, by rw [lq]; exact hrs.keep s12, s2 _ _ hq, by omega, h2, o2, fun H3 o os s3 ho3 hos => ?_⟩
        rw [lq] at hos
        refine ⟨o, v.length, os, _, rfl, ho3, hos, h1, o4, o3, fun H4 z zs s4 hz4 hzs => ?_⟩
        exact k _ z zs ((s12.trans s3).trans s4) hz4 (by rw [e]; exact hzs)
end
end K06

namespace K06
open PySem L2 RZ Lat
section
variable {P : Program} {w : World} {K : PySem.W.Frag} {mg : Str → Option Value} {base : Heap}
structure ClsL (K : PySem.W.Frag) (mg : Str → Option Value) (C : Addr) : Prop where
  cl : Cls K C
  nW : NoAttr K C "width"
  nB : NoAttr K C "basis"
  m : mg "Lattice" = some (.ref C)
def lf (n : Int) (b : Addr) : List (Str × V) := putF "basis" (.ref b) (putF "width" (.int n) [])
theorem wb : ¬ (("basis" : Str) = "width") := by decide +kernel
theorem lf_basis (n : Int) (b : Addr) : (lf n b).lookup ("basis" : Str) = some (.ref b) := by
  unfold lf
  rw [lookup_putF, if_pos rfl]
theorem lf_none (n : Int) (b : Addr) {m : Str} (h1 : ¬ m = "basis") (h2 : ¬ m = "width") : (lf n b).lookup m = none := by
  unfold lf
  rw [lookup_putF, if_neg h1, lookup_putF, if_neg h2]; rfl
/-- a lattice at x -/
def LatAt (C : Addr) (H : Hp) (x : Addr) (n : Nat) (rs : List Vec) : Prop := ∃ (dx b : Addr) (os : List V), H x = some (.ins C dx (lf ((n : Nat) : Int) b)) ∧ H b = some (.tup os) ∧ Rows H n os rs
theorem LatAt.keep {C : Addr} {H H' : Hp} {x : Addr} {n : Nat} {rs : List Vec} (s : Same H H') (h : LatAt C H x n rs) : LatAt C H' x n rs := by
  obtain ⟨dx, b, os, h1, h2, h3⟩ := h
  exact ⟨dx, b, os, s _ _ h1, s _ _ h2, h3.keep s⟩
theorem Rows.ins_up {H : Hp} {n : Nat} {x C dx : Addr} {fs gs : List (Str × V)} {as : List V} {vs : List Vec} (hx : H x = some (.ins C dx fs)) (h : Rows H n as vs) : Rows (upd H x (.ins C dx gs)) n as vs :=
  ⟨Paired.mapP h.1 fun y v z => by
    obtain ⟨a, e, q⟩ := z
    exact ⟨a, e, (upd_ne (ne_of q hx fun y => nomatch y)).trans q⟩, h.2⟩
def OkGrows : List Vec → List Vec → Prop
  | _, [] => True
  | bs, v :: vs => OkGrow bs v ∧ bs.length ≤ 1000 ∧ OkGrows (grow bs v) vs
def grows (bs vs : List Vec) : List Vec := vs.foldl grow bs
abbrev s_Lattice_init : Stmt := inClass (top 25) 0
abbrev n_Lattice_init : List Str := ["self", "width", "rows", "basis", "row"]
theorem sc_Lattice_init : FnScope n_Lattice_init ["self", "width", "rows"] (defScope s_Lattice_init) := ⟨rfl, rfl, rfl, by decide +kernel, rfl, by decide +kernel, by decide +kernel⟩
def spLattice (K : PySem.W.Frag) (C : Addr) : Sp := fun vs H Q _ => ∃ (x dx l : Addr) (n : Nat) (as : List V) (rs : List Vec), vs = [.ref x, .int ((n : Nat) : Int), .ref l] ∧ H x = some (.ins C dx []) ∧ 1 ≤ n ∧ n ≤ 1000 ∧ rs.length ≤ 1000 ∧ InSeq K H l as ∧ Rows H n as rs ∧ OkGrows [] rs ∧
  ∀ H' : Hp, (∀ y o, y ≠ x → H y = some o → H' y = some o) → LatAt C H' x n (grows [] rs) → Q .non H'
theorem ok_lattice {C fI : Addr} {fd : FuncData} {d : V} (T : Txt mg) (CL : ClsL K mg C) (g_is_width : Has P w K mg base 2 "is_width" ["value"] spWidth) (g_are_vectors : Has P w K mg base 3 "are_vectors" ["value", "width"] (spAreVectors K))
    (g_grown : Has P w K mg base 4 "grown" ["basis", "vector"] spGrown) (F : FunD K "__init__" "Lattice.__init__" (defArgs s_Lattice_init) (defBody s_Lattice_init) (defScope s_Lattice_init) [d] [] fI fd) : FnOk P w K mg base CX0 5 fI fd ["self", "width", "rows"] (spLattice K C) := by
  refine F.ok sc_Lattice_init (fun vs H Q E h => ?_) (fun cdv A outer s H vs Q E hr h => ?_)
  · obtain ⟨x, dx, l, n, as, rs, rfl, _⟩ := h
    rfl
  · obtain ⟨x, dx, l, n, as, rs, rfl, hx, n1, n2, lrs, hl, hrs, ok, k⟩ := h
    refine ⟨_, PSs.nox (X := cxOf CX0 P w K mg base n_Lattice_init "Lattice.__init__" (defScope s_Lattice_init) fI cdv A outer s H E) (pss_cons (ps_if (PW.pt (pw_or (pt_not (pt_val (pe_callHas g_is_width (hr.mono (by decide)) rfl (pa_cons (pv 1) pa_nil)))) (pw_or1 (pt_not (pt_val (pe_callHas g_are_vectors (hr.mono (by decide)) rfl (pa_cons (pv 2) (pa_cons (pv 1) pa_nil)))))))) (pss_one ps_never) pss_nil)
      (pss_cons (ps_set (i := 3) sc_Lattice_init.nd rfl (Or.inl rfl) (pe_tup pa_nil))
      (pss_cons (ps_for PassesOwn.never rfl (pi_seq (pv 2)) (pg_name (i := 4) sc_Lattice_init.nd rfl (Or.inl rfl)) (pss_one (ps_set (i := 3) sc_Lattice_init.nd rfl (Or.inl rfl) (pe_callHas g_grown (hr.mono (by decide)) rfl (pa_cons (pv 3) (pa_cons (pv 4) pa_nil))))))
      (pss_cons (ps_fld (pv 0) (pv 1) rfl)
      (pss_one (ps_fld (pv 0) (pv 3) rfl)))))), ?_⟩
    refine ⟨_, rfl, _, rfl, by omega, _, rfl, ?_⟩
    refine ⟨_, rfl, _, rfl, l, as, rs, n, rfl, hl, hrs, n2, lrs, fun H1 s1 => ⟨_, rfl, ?_⟩⟩
    refine ⟨Nat.zero_le _, fun b0 hb0 => ?_⟩
    obtain ⟨s2, hb1⟩ := new_at (o := .tup []) hb0
    have s12 := s1.trans s2
    rcases hl with hl | ⟨hk, has, hq⟩
    · refine Or.inl ⟨_, rfl, l, rfl, ⟨_, SqL.of (s12 _ _ hl)⟩, for_it (walk_list (xs := as)) (fun i σ H' => ∃ (b : Addr) (os : List V) (bs : List Vec) (x4 : Option V), σ = [some (.ref x), some (.int ((n : Nat) : Int)), some (.ref l), some (.ref b), x4] ∧ Same H H' ∧ H' b = some (.tup os) ∧ Rows H' n os bs ∧ OkGrows bs (rs.drop i) ∧ grows bs (rs.drop i) = grows [] rs) ⟨b0, [], [], _, rfl, s12, hb1, ⟨.nil, fun u hu => nomatch hu⟩, ok, rfl⟩ (fun i σ H' _ q => SqL.of ((show Same H H' from by obtain ⟨_, _, _, _, _, sm, _⟩ := q; exact sm) _ _ hl)) ?_ ?_⟩
      · rintro i y σ H' H'' hi ⟨b, os, bs, x4, rfl, sm, hb, hbs, okb, eb⟩ ⟨rfl, ex⟩
        obtain ⟨a, r, er, rfl, hr0, lr⟩ := (hrs.keep sm).at ex
        have hlt := (List.getElem?_eq_some_iff.mp er).1
        have ed : rs.drop i = r :: rs.drop (i + 1) := by
          rw [List.drop_eq_getElem_cons hlt, (List.getElem?_eq_some_iff.mp er).2]
        rw [ed] at okb eb
        obtain ⟨o1, o2, o3⟩ := okb
        refine ⟨_, rfl, _, rfl, b, a, os, bs, r, rfl, hb, by rw [lr]; exact hbs, hr0, by omega, o2, o1, fun H2 q os' s2 hq hos => ?_⟩
        rw [lr] at hos
        exact ⟨q, os', grow bs r, _, rfl, sm.trans s2, hq, hos, o3, eb⟩
      · rintro σ H' ⟨b, os, bs, x4, rfl, sm, hb, hbs, okb, eb⟩
        rw [hrs.len, List.drop_length] at eb
        have eb' : bs = grows [] rs := eb
        subst eb'
        have hx1 := sm _ _ hx
        refine ⟨_, rfl, _, rfl, x, C, dx, _, rfl, hx1, CL.cl, CL.nW, (by show 0 < 1000; decide), _, rfl, _, rfl, x, C, dx, _, rfl, upd_same, CL.cl, CL.nB, (by show 1 < 1000; decide), ?_⟩
        rw [upd_upd]
        have nbx : b ≠ x := ne_of hb hx1 fun z => nomatch z
        exact k _ (fun y o ny z => by rw [upd_ne ny]; exact sm _ _ z) ⟨dx, b, os, upd_same, (upd_ne nbx).trans hb, Rows.ins_up hx1 hbs⟩
    · subst has
      refine Or.inr ⟨_, rfl, l, rfl, ⟨_, Same.sqt s12 hq⟩, for_it (walk_tup (xs := [])) (fun i σ H' => ∃ (b : Addr) (os : List V) (bs : List Vec) (x4 : Option V), σ = [some (.ref x), some (.int ((n : Nat) : Int)), some (.ref l), some (.ref b), x4] ∧ Same H H' ∧ H' b = some (.tup os) ∧ Rows H' n os bs ∧ OkGrows bs (rs.drop i) ∧ grows bs (rs.drop i) = grows [] rs) ⟨b0, [], [], _, rfl, s12, hb1, ⟨.nil, fun u hu => nomatch hu⟩, ok, rfl⟩ (fun i σ H' _ q => Same.sqt (show Same H H' from by obtain ⟨_, _, _, _, _, sm, _⟩ := q; exact sm) hq) (fun i x σ H' H'' hi => absurd hi (Nat.not_lt_zero _)) ?_⟩
      · rintro σ H' ⟨b, os, bs, x4, rfl, sm, hb, hbs, okb, eb⟩
        rw [hrs.len, List.drop_length] at eb
        have eb' : bs = grows [] rs := eb
        subst eb'
        have hx1 := sm _ _ hx
        refine ⟨_, rfl, _, rfl, x, C, dx, _, rfl, hx1, CL.cl, CL.nW, (by show 0 < 1000; decide), _, rfl, _, rfl, x, C, dx, _, rfl, upd_same, CL.cl, CL.nB, (by show 1 < 1000; decide), ?_⟩
        rw [upd_upd]
        have nbx : b ≠ x := ne_of hb hx1 fun z => nomatch z
        exact k _ (fun y o ny z => by rw [upd_ne ny]; exact sm _ _ z) ⟨dx, b, os, upd_same, (upd_ne nbx).trans hb, Rows.ins_up hx1 hbs⟩
def gcdV (g : Vec) (rs : List Vec) : Nat := rs.foldl (fun m r => Nat.gcd m (dotV g r).natAbs) 0
abbrev s_Lattice_divisor : Stmt := inClass (top 25) 3
abbrev n_Lattice_divisor : List Str := ["self", "form", "most", "row"]
theorem sc_Lattice_divisor : FnScope n_Lattice_divisor ["self", "form"] (defScope s_Lattice_divisor) := ⟨rfl, rfl, rfl, by decide +kernel, rfl, by decide +kernel, by decide +kernel⟩
def spDivisor (C : Addr) : Sp := fun vs H Q _ => ∃ (x f : Addr) (g : Vec) (rs : List Vec), vs = [.ref x, .ref f] ∧ LatAt C H x g.length rs ∧ IsV H f g ∧ g.length ≤ 1000 ∧ (∀ r ∈ rs, ∀ n ∈ r, ∀ m ∈ g, CMulX n m) ∧ ∀ H', Same H H' → Q (.int ((gcdV g rs : Nat) : Int)) H'
theorem ok_divisor {C fI : Addr} {fd : FuncData} (T : Txt mg) (CL : ClsL K mg C) (g_value_at : Has P w K mg base 1 "value_at" ["form", "vector"] spValueAt) (F : Fun K "divisor" "Lattice.divisor" s_Lattice_divisor fI fd) : FnOk P w K mg base CX0 2 fI fd ["self", "form"] (spDivisor C) := by
  refine F.ok sc_Lattice_divisor (fun vs H Q E h => ?_) (fun cdv A outer s H vs Q E hr h => ?_)
  · obtain ⟨x, f, g, rs, rfl, _⟩ := h
    rfl
  · obtain ⟨x, f, g, rs, rfl, ⟨dx, b, os, hx, hb, hrs⟩, hf, lg, hm, k⟩ := h
    refine ⟨_, (pss_cons (ps_set (i := 2) sc_Lattice_divisor.nd rfl (Or.inl rfl) pe_int)
      (pss_cons (ps_for PassesOwn.never rfl (pi_tup (pe_fld (pv 0) rfl)) (pg_name (i := 3) sc_Lattice_divisor.nd rfl (Or.inl rfl)) (pss_one (ps_set (i := 2) sc_Lattice_divisor.nd rfl (Or.inl rfl) (pe_callBfun cr_gcd (by rfl) T.m_gcd (pa_cons (pv 2) (pa_cons (pe_callHas g_value_at (hr.mono (by decide)) rfl (pa_cons (pv 1) (pa_cons (pv 3) pa_nil))) pa_nil))))))
      (pss_one (ps_ret (pv 2))))), ?_⟩
    refine ⟨_, rfl, x, C, dx, _, _, rfl, hx, CL.cl, CL.nB, lf_basis _ _, b, rfl, ⟨_, SqT.of hb⟩, for_it (walk_tup (xs := os)) (fun i σ H' => ∃ (m : Nat) (x3 : Option V), σ = [some (.ref x), some (.ref f), some (.int ((m : Nat) : Int)), x3] ∧ Same H H' ∧ (rs.drop i).foldl (fun m r => Nat.gcd m (dotV g r).natAbs) m = gcdV g rs)
      ⟨0, _, rfl, Same.refl _, rfl⟩ (fun i σ H' _ q => SqT.of ((show Same H H' from by obtain ⟨_, _, _, sm, _⟩ := q; exact sm) _ _ hb)) ?_ ?_⟩
    · rintro i y σ H' H'' hi ⟨m, x3, rfl, sm, em⟩ ⟨rfl, ex⟩
      obtain ⟨a, r, er, rfl, hr0, lr⟩ := (hrs.keep sm).at ex
      have hlt := (List.getElem?_eq_some_iff.mp er).1
      have ed : rs.drop i = r :: rs.drop (i + 1) := by
        rw [List.drop_eq_getElem_cons hlt, (List.getElem?_eq_some_iff.mp er).2]
      rw [ed] at em
      refine ⟨_, rfl, _, rfl, _, rfl, f, a, g, r, rfl, sm _ _ hf, hr0, lr, by omega, hm r (List.mem_of_getElem? er), fun H1 s1 => ⟨_, _, rfl, ?_⟩⟩
      exact ⟨_, _, rfl, sm.trans s1, em⟩
    · rintro σ H' ⟨m, x3, rfl, sm, em⟩
      rw [hrs.len, List.drop_length] at em
      have em' : m = gcdV g rs := em
      subst em'
      exact ⟨_, rfl, k _ sm⟩
end
end K06

namespace K06
open PySem L2 RZ Lat
theorem two_at (c : Int) (b : Prop) [Decidable b] : ∃ v, atI [V.int 0, V.int c] (if decide b = true then 1 else 0) = some (V.int v) := by
  by_cases h : b
  · exact ⟨c, by rw [decide_eq_true h]; rfl⟩
  · exact ⟨0, by rw [decide_eq_false h]; rfl⟩
/-- a box: three ints -/
def Box (H : Hp) (b : Addr) : Prop := ∃ x y z : Int, H b = some (.lst [.int x, .int y, .int z])
section
variable {P : Program} {w : World} {K : PySem.W.Frag} {mg : Str → Option Value} {base : Heap}
abbrev s_law_take : Stmt := top 28
abbrev n_law_take : List Str := ["_law_box_here", "_law_many", "_law_digit", "_law_raw", "_law_wide"]
theorem sc_law_take : FnScope n_law_take ["_law_box_here", "_law_many"] (defScope s_law_take) := ⟨rfl, rfl, rfl, by decide +kernel, rfl, by decide +kernel, by decide +kernel⟩
def spTake : Sp := fun vs H Q _ => ∃ (b : Addr) (n : Int), vs = [.ref b, .int n] ∧ Box H b ∧ 0 < n ∧ n < 10000000000 ∧ ∀ (d x y z : Int), 0 ≤ d → d < n → Q (.int d) (upd H b (.lst [.int x, .int y, .int z]))
theorem ok_take (T : Txt mg) (F : DefAt K mg "_law_take" s_law_take ["_law_box_here", "_law_many"]) : Has P w K mg base 1 "_law_take" ["_law_box_here", "_law_many"] spTake := by
  refine F.has sc_law_take (fun vs H Q E h => ?_) (fun f cdv A outer s H vs Q E hr h => ?_)
  · obtain ⟨b, n, rfl, _⟩ := h
    rfl
  · obtain ⟨b, n, rfl, ⟨x, y, z, hb⟩, n0, n1, k⟩ := h
    refine ⟨_, (pss_cons (ps_if (pt_cmpR op_gt (pe_ix ix_list (pv 0) pe_int (fun _ _ => rfl)) pe_int (nomark _)) (pss_cons (ps_set (i := 2) sc_law_take.nd rfl (Or.inl rfl) (pe_op op_mod (pe_callTy call_int1 (by rfl) T.z_int (by decide +kernel) (pa_cons (pe_ix ix_list (pv 0) pe_int (fun _ _ => rfl)) pa_nil)) (pv 1)))
      (pss_cons (ps_asg (pe_op op_fdivW (pe_ix ix_list (pv 0) pe_int (fun _ _ => rfl)) (pv 1)) (pg_sub (pv 0) pe_int set_list))
      (pss_one (ps_ret (pv 2))))) pss_nil)
      (pss_cons (ps_asg (pe_op op_add (pe_ix ix_list (pv 0) pe_int (fun _ _ => rfl)) pe_int) (pg_sub (pv 0) pe_int set_list))
      (pss_cons (ps_set (i := 3) sc_law_take.nd rfl (Or.inl rfl) (pe_op op_mod (pe_callTy call_int1 (by rfl) T.z_int (by decide +kernel) (pa_cons (pe_op op_mul (pe_op op_add (pe_ix ix_list (pv 0) pe_int (fun _ _ => rfl)) (pe_op op_mul pe_int (pe_ix ix_list (pv 0) pe_int (fun _ _ => rfl)))) pe_int) pa_nil)) pe_int))
      (pss_cons (ps_asg (pe_op op_add (pe_op op_mod (pe_callTy call_int1 (by rfl) T.z_int (by decide +kernel) (pa_cons (pe_op op_add (pe_op op_mul (pv 3) pe_int) pe_int) pa_nil)) pe_int) pe_int) (pg_sub (pv 0) pe_int set_list))
      (pss_cons (ps_if (pt_cmpR op_lt (pv 1) (pe_op op_pow pe_int pe_int) (nomark _)) (pss_one (ps_ret (pe_op op_mod (pe_callTy call_int1 (by rfl) T.z_int (by decide +kernel) (pa_cons (pe_op op_fdiv (pe_op op_add (pe_op op_mul (pv 3) pe_int) (pe_ix ix_list (pv 0) pe_int (fun _ _ => rfl))) pe_int) pa_nil)) (pv 1)))) pss_nil)
      (pss_cons (ps_set (i := 4) sc_law_take.nd rfl (Or.inl rfl) (pe_op op_mul (pe_op op_add (pe_op op_mul (pv 3) pe_int) (pe_ix ix_list (pv 0) pe_int (fun _ _ => rfl))) (pe_op op_pow pe_int pe_int)))
      (pss_one (ps_ret (pe_op op_mod (pe_callTy call_int1 (by rfl) T.z_int (by decide +kernel) (pa_cons (pe_op op_add (pe_op op_add (pv 4) (pe_op op_mul (pe_op op_pow (pe_ix ix_list (pv 0) pe_int (fun _ _ => rfl)) pe_int) pe_int)) (pv 3)) pa_nil)) (pv 1)))))))))), ?_⟩
    -- if box[0] > 0: the digit; else the next number
    refine ⟨_, rfl, b, _, _, _, rfl, rfl, SqL.of hb, rfl, _, _, rfl, rfl, _, rfl, ite2 (fun _ => ?_) (fun _ => ?_)⟩
    · refine ⟨_, rfl, b, _, _, _, rfl, rfl, SqL.of hb, rfl, .inl ⟨_, rfl, _, rfl, _, _, rfl, rfl, n0, ?_⟩⟩
      refine ⟨_, rfl, b, _, _, _, rfl, rfl, SqL.of hb, rfl, _, rfl, _, _, rfl, rfl, wide_div n0 (show n.natAbs < 2 ^ 40 by omega) (by decide) (by decide), _, rfl, b, _, _, _, rfl, rfl, hb, rfl, _, rfl, ?_⟩
      exact k _ _ _ _ (Int.emod_nonneg _ (by omega)) (Int.emod_lt_of_pos _ n0)
    · refine ⟨_, rfl, b, _, _, _, rfl, rfl, SqL.of hb, rfl, _, _, rfl, rfl, _, rfl, b, _, _, _, rfl, rfl, hb, rfl, ?_⟩
      have h1 : upd H b (.lst [.int x, .int y, .int (z + 1)]) b = some (.lst [.int x, .int y, .int (z + 1)]) := upd_same
      refine ⟨_, rfl, b, _, _, _, rfl, rfl, SqL.of h1, rfl, _, rfl, b, _, _, _, rfl, rfl, SqL.of h1, rfl, _, _, rfl, rfl, .inl ⟨by decide, by decide⟩, _, _, rfl, rfl, _, _, rfl, rfl, .inr ⟨by decide, by decide⟩, .inl ⟨_, rfl, _, _, rfl, rfl, (by show (0 : Int) < 2147483647; decide), ?_⟩⟩
      generalize (y + 104729 * (z + 1)) * 69623 % 2147483647 = r
      refine ⟨_, rfl, _, _, rfl, rfl, .inr ⟨by decide, by decide⟩, _, _, rfl, rfl, .inl ⟨_, rfl, _, _, rfl, rfl, (by show (0 : Int) < 2147483629; decide), _, _, rfl, rfl, _, rfl, b, _, _, _, rfl, rfl, h1, rfl, ?_⟩⟩
      rw [upd_upd]
      refine ⟨_, rfl, _, _, rfl, rfl, ⟨by decide, by decide, by decide⟩, _, _, rfl, rfl, _, rfl, ?_⟩
      have e : decide (n < 2 ^ (40 : Int).toNat) = true := decide_eq_true (by
        have q : (2 : Int) ^ (40 : Int).toNat = 1099511627776 := by decide +kernel
        omega)
      rw [e]
      refine iteT ⟨_, rfl, _, _, rfl, rfl, .inr ⟨by decide, by decide⟩, _, rfl, b, _, _, _, rfl, rfl, SqL.of upd_same, rfl, _, _, rfl, rfl, _, _, rfl, rfl, ⟨by decide, by decide⟩, .inl ⟨_, rfl, _, rfl, _, _, rfl, rfl, n0, ?_⟩⟩
      exact k _ _ _ _ (Int.emod_nonneg _ (by omega)) (Int.emod_lt_of_pos _ n0)
abbrev s_law_box : Stmt := top 27
abbrev n_law_box : List Str := ["_law_script", "_law_k", "_law_own", "_law_cell", "_law_seed"]
theorem sc_law_box : FnScope n_law_box ["_law_script", "_law_k", "_law_own"] (defScope s_law_box) := ⟨rfl, rfl, rfl, by decide +kernel, rfl, by decide +kernel, by decide +kernel⟩
def spBox (K : PySem.W.Frag) : Sp := fun vs H Q _ => ∃ (a : Addr) (ns : List Int) (k o : Int), vs = [.ref a, .int k, .int o] ∧ SqL K H a (ns.map V.int) ∧ 0 ≤ k ∧ k < 1000 ∧ 0 ≤ o ∧ o < 1000 ∧ ∀ (H' : Hp) (p : Addr), Same H H' → H p = none → Box H' p → Q (.ref p) H'
theorem ok_box (T : Txt mg) (F : DefAt K mg "_law_box" s_law_box ["_law_script", "_law_k", "_law_own"]) : Has P w K mg base 1 "_law_box" ["_law_script", "_law_k", "_law_own"] (spBox K) := by
  refine F.has sc_law_box (fun vs H Q E h => ?_) (fun f cdv A outer s H vs Q E hr h => ?_)
  · obtain ⟨a, ns, k, o, rfl, _⟩ := h
    rfl
  · obtain ⟨a, ns, i, o, rfl, hS, i0, i1, o0, o1, k⟩ := h
    refine ⟨_, (pss_cons (ps_set (i := 3) sc_law_box.nd rfl (Or.inl rfl) (pe_op op_add (pe_op op_add (pe_op op_mul pe_int (pv 1)) (pe_op op_mul pe_int (pv 2))) pe_int))
      (pss_cons (ps_if (pt_cmpR op_lt (pv 1) (pe_callB call_len (by rfl) T.z_len (by decide +kernel) (pa_cons (pv 0) pa_nil)) (nomark _)) (pss_one (ps_set (i := 3) sc_law_box.nd rfl (Or.inl rfl) (pe_callB call_abs (by rfl) T.z_abs (by decide +kernel) (pa_cons (pe_ix ix_list (pv 0) (pv 1) (fun _ _ => rfl)) pa_nil)))) (pss_one (ps_if (pt_cmpR op_gt (pe_callB call_len (by rfl) T.z_len (by decide +kernel) (pa_cons (pv 0) pa_nil)) pe_int (nomark _)) (pss_one (ps_set (i := 3) sc_law_box.nd rfl (Or.inl rfl) (pe_op op_add (pv 3) (pe_op op_mul (pe_op op_mod (pe_callTy call_int1 (by rfl) T.z_int (by decide +kernel) (pa_cons (pe_callB call_abs (by rfl) T.z_abs (by decide +kernel) (pa_cons (pe_ix ix_list (pv 0) (pe_op op_mod (pe_callTy call_int1 (by rfl) T.z_int (by decide +kernel) (pa_cons (pv 1) pa_nil)) (pe_callB call_len (by rfl) T.z_len (by decide +kernel) (pa_cons (pv 0) pa_nil))) (fun _ _ => rfl)) pa_nil)) pa_nil)) pe_int) pe_int)))) pss_nil)))
      (pss_cons (ps_set (i := 4) sc_law_box.nd rfl (Or.inl rfl) (pe_op op_add (pe_op op_mod (pe_callTy call_int1 (by rfl) T.z_int (by decide +kernel) (pa_cons (pe_op op_add (pe_op op_mul (pe_op op_mod (pe_callTy call_int1 (by rfl) T.z_int (by decide +kernel) (pa_cons (pv 3) pa_nil)) pe_int) pe_int) (pe_op op_mul pe_int (pe_op op_add (pv 1) (pe_op op_mul pe_int (pv 2))))) pa_nil)) pe_int) pe_int))
      (pss_one (ps_ret (pe_lst (pa_cons (pe_ix ix_list (pe_lst (pa_cons pe_int (pa_cons (pv 3) pa_nil))) (pe_callTy call_int1 (by rfl) T.z_int (by decide +kernel) (pa_cons (pe_cmpR op_ge (pv 3) (pe_op op_pow pe_int pe_int) (nomark _)) pa_nil)) (fun _ _ => rfl)) (pa_cons (pv 4) (pa_cons pe_int pa_nil))))))))), ?_⟩
    refine ⟨_, rfl, _, _, rfl, rfl, .inl ⟨by decide, by decide⟩, _, rfl, _, _, rfl, rfl, .inl ⟨by decide, by decide⟩, _, _, rfl, rfl, _, _, rfl, rfl, ?_⟩
    have hlen : (ns.map V.int).length = ns.length := List.length_map ..
    -- the cell by three ways; what follows is the same
    refine ⟨_, rfl, _, rfl, _, _, rfl, .inl ⟨_, hS, rfl⟩, _, _, rfl, rfl, _, rfl, ite2 (fun h1 => ?_) (fun h1 => ?_)⟩
    · have h1' : i < ((ns.map V.int).length : Int) := of_decide_eq_true h1
      obtain ⟨j, rfl⟩ : ∃ j : Nat, i = (j : Int) := ⟨i.toNat, by omega⟩
      have hj : j < ns.length := by omega
      have ej : (ns.map V.int)[j]? = some (V.int ns[j]) := by rw [List.getElem?_map, List.getElem?_eq_getElem hj]; rfl
      refine ⟨_, rfl, _, rfl, a, _, _, _, rfl, rfl, hS, atI_nat ej, _, rfl, ?_⟩
      refine ⟨_, rfl, .inl ⟨_, rfl, _, _, rfl, rfl, (by show (0 : Int) < 2147483629; decide), _, _, rfl, rfl, .inr ⟨by decide, by decide⟩, _, rfl, _, rfl, _, _, rfl, rfl, .inl ⟨by decide, by decide⟩, _, _, rfl, rfl, _, _, rfl, rfl, .inl ⟨by decide, by decide⟩, _, _, rfl, rfl, .inl ⟨_, rfl, _, _, rfl, rfl, (by show (0 : Int) < 2147483629; decide), _, _, rfl, rfl, ?_⟩⟩⟩
      refine ⟨_, rfl, (by decide : 2 ≤ sizeLine), fun q hq => ⟨_, rfl, _, _, rfl, rfl, ⟨by decide, by decide, by decide⟩, _, _, rfl, rfl, .inr ⟨_, rfl, ?_⟩⟩⟩
      refine ⟨q, _, _, _, rfl, rfl, SqL.of upd_same, (two_at _ _).choose_spec, _, rfl, (by decide : 3 ≤ sizeLine), fun p hp => ?_⟩
      have npq : p ≠ q := fun z => by rw [z, upd_same] at hp; cases hp
      have hp0 : H p = none := by rw [upd_ne npq] at hp; exact hp
      refine k _ p (fun b o z => ?_) hp0 ⟨_, _, _, upd_same⟩
      rw [upd_ne (ne_of_none z hp0), upd_ne (ne_of_none z hq)]
      exact z
    · refine ⟨_, rfl, _, _, rfl, .inl ⟨_, hS, rfl⟩, _, _, rfl, rfl, _, rfl, ite2 (fun h2 => ?_) (fun h2 => ?_)⟩
      · have h2' : (0 : Int) < ((ns.map V.int).length : Int) := of_decide_eq_true h2
        have m0 := Int.emod_nonneg i (b := ((ns.map V.int).length : Int)) (by omega)
        have m1 := Int.emod_lt_of_pos i h2'
        obtain ⟨j, ej0⟩ : ∃ j : Nat, i % ((ns.map V.int).length : Int) = (j : Int) := ⟨(i % ((ns.map V.int).length : Int)).toNat, by omega⟩
        have hj : j < ns.length := by omega
        have ej : (ns.map V.int)[j]? = some (V.int ns[j]) := by rw [List.getElem?_map, List.getElem?_eq_getElem hj]; rfl
        refine ⟨_, rfl, _, rfl, _, rfl, .inl ⟨_, rfl, _, rfl, _, _, rfl, .inl ⟨_, hS, rfl⟩, _, _, rfl, rfl, h2', a, _, _, _, rfl, rfl, hS, (by rw [ej0]; exact atI_nat ej), _, rfl, .inl ⟨_, rfl, _, _, rfl, rfl, (by show (0 : Int) < 2147483629; decide), _, _, rfl, rfl, .inr ⟨by decide, by decide⟩, _, _, rfl, rfl, ?_⟩⟩⟩
        refine ⟨_, rfl, .inl ⟨_, rfl, _, _, rfl, rfl, (by show (0 : Int) < 2147483629; decide), _, _, rfl, rfl, .inr ⟨by decide, by decide⟩, _, rfl, _, rfl, _, _, rfl, rfl, .inl ⟨by decide, by decide⟩, _, _, rfl, rfl, _, _, rfl, rfl, .inl ⟨by decide, by decide⟩, _, _, rfl, rfl, .inl ⟨_, rfl, _, _, rfl, rfl, (by show (0 : Int) < 2147483629; decide), _, _, rfl, rfl, ?_⟩⟩⟩
        refine ⟨_, rfl, (by decide : 2 ≤ sizeLine), fun q hq => ⟨_, rfl, _, _, rfl, rfl, ⟨by decide, by decide, by decide⟩, _, _, rfl, rfl, .inr ⟨_, rfl, ?_⟩⟩⟩
        refine ⟨q, _, _, _, rfl, rfl, SqL.of upd_same, (two_at _ _).choose_spec, _, rfl, (by decide : 3 ≤ sizeLine), fun p hp => ?_⟩
        have npq : p ≠ q := fun z => by rw [z, upd_same] at hp; cases hp
        have hp0 : H p = none := by rw [upd_ne npq] at hp; exact hp
        refine k _ p (fun b o z => ?_) hp0 ⟨_, _, _, upd_same⟩
        rw [upd_ne (ne_of_none z hp0), upd_ne (ne_of_none z hq)]
        exact z
      · show tSeq _ _ _ _ _
        refine ⟨_, rfl, .inl ⟨_, rfl, _, _, rfl, rfl, (by show (0 : Int) < 2147483629; decide), _, _, rfl, rfl, .inr ⟨by decide, by decide⟩, _, rfl, _, rfl, _, _, rfl, rfl, .inl ⟨by decide, by decide⟩, _, _, rfl, rfl, _, _, rfl, rfl, .inl ⟨by decide, by decide⟩, _, _, rfl, rfl, .inl ⟨_, rfl, _, _, rfl, rfl, (by show (0 : Int) < 2147483629; decide), _, _, rfl, rfl, ?_⟩⟩⟩
        refine ⟨_, rfl, (by decide : 2 ≤ sizeLine), fun q hq => ⟨_, rfl, _, _, rfl, rfl, ⟨by decide, by decide, by decide⟩, _, _, rfl, rfl, .inr ⟨_, rfl, ?_⟩⟩⟩
        refine ⟨q, _, _, _, rfl, rfl, SqL.of upd_same, (two_at _ _).choose_spec, _, rfl, (by decide : 3 ≤ sizeLine), fun p hp => ?_⟩
        have npq : p ≠ q := fun z => by rw [z, upd_same] at hp; cases hp
        have hp0 : H p = none := by rw [upd_ne npq] at hp; exact hp
        refine k _ p (fun b o z => ?_) hp0 ⟨_, _, _, upd_same⟩
        rw [upd_ne (ne_of_none z hp0), upd_ne (ne_of_none z hq)]
        exact z
/-- but for the box all stands as before -/
def But (b : Addr) (H H' : Hp) : Prop := ∀ a o, a ≠ b → H a = some o → H' a = some o
theorem But.trans {b : Addr} {H H1 H2 : Hp} (s : But b H H1) (t : But b H1 H2) : But b H H2 := fun a o n z => t a o n (s a o n z)
theorem But.upd' {b : Addr} {H : Hp} {o : HO} : But b H (upd H b o) := fun a u n z => by rw [upd_ne n]; exact z
theorem Same.but {b : Addr} {H H' : Hp} (s : Same H H') : But b H H' := fun a o _ z => s a o z
theorem Box.keep {b : Addr} {H H' : Hp} (s : Same H H') (h : Box H b) : Box H' b := by
  obtain ⟨x, y, z, h⟩ := h
  exact ⟨x, y, z, s _ _ h⟩
theorem Box.upd' {b : Addr} {H : Hp} {x y z : Int} : Box (upd H b (.lst [.int x, .int y, .int z])) b := ⟨x, y, z, upd_same⟩
abbrev s_law_small : Stmt := top 31
abbrev n_law_small : List Str := ["_law_box_here"]
theorem sc_law_small : FnScope n_law_small ["_law_box_here"] (defScope s_law_small) := ⟨rfl, rfl, rfl, by decide +kernel, rfl, by decide +kernel, by decide +kernel⟩
def spSmall : Sp := fun vs H Q _ => ∃ b : Addr, vs = [.ref b] ∧ Box H b ∧ ∀ (H' : Hp) (d : Int), But b H H' → Box H' b → -4 ≤ d → d ≤ 4 → Q (.int d) H'
theorem ok_small (T : Txt mg) (g_law_take : Has P w K mg base 1 "_law_take" ["_law_box_here", "_law_many"] spTake) (F : DefAt K mg "_law_small" s_law_small ["_law_box_here"]) : Has P w K mg base 2 "_law_small" ["_law_box_here"] spSmall := by
  refine F.has sc_law_small (fun vs H Q E h => ?_) (fun f cdv A outer s H vs Q E hr h => ?_)
  · obtain ⟨b, rfl, _⟩ := h
    rfl
  · obtain ⟨b, rfl, hb, k⟩ := h
    refine ⟨_, (pss_one (ps_ret (pe_op op_sub (pe_callHas g_law_take (hr.mono (by decide)) rfl (pa_cons (pv 0) (pa_cons pe_int pa_nil))) pe_int))), ?_⟩
    refine ⟨_, rfl, b, 9, rfl, hb, by decide, by decide, fun d x y z d0 d1 => ⟨_, _, rfl, rfl, k _ _ But.upd' Box.upd' (by omega) (by omega)⟩⟩
abbrev s_law_number : Stmt := top 30
abbrev n_law_number : List Str := ["_law_box_here", "_law_most"]
theorem sc_law_number : FnScope n_law_number ["_law_box_here"] (defScope s_law_number) := ⟨rfl, rfl, rfl, by decide +kernel, rfl, by decide +kernel, by decide +kernel⟩
def spNumber : Sp := fun vs H Q _ => ∃ b : Addr, vs = [.ref b] ∧ Box H b ∧ ∀ (H' : Hp) (d : Int), But b H H' → Box H' b → -1000000000 ≤ d → d ≤ 1000000000 → Q (.int d) H'
theorem ok_number (T : Txt mg) (g_law_take : Has P w K mg base 1 "_law_take" ["_law_box_here", "_law_many"] spTake) (F : DefAt K mg "_law_number" s_law_number ["_law_box_here"]) : Has P w K mg base 2 "_law_number" ["_law_box_here"] spNumber := by
  refine F.has sc_law_number (fun vs H Q E h => ?_) (fun f cdv A outer s H vs Q E hr h => ?_)
  · obtain ⟨b, rfl, _⟩ := h
    rfl
  · obtain ⟨b, rfl, hb, k⟩ := h
    refine ⟨_, (pss_cons (ps_set (i := 1) sc_law_number.nd rfl (Or.inl rfl) (pe_ix ix_list (pe_lst (pa_cons pe_int (pa_cons pe_int (pa_cons pe_int (pa_cons pe_int (pa_cons pe_int (pa_cons pe_int pa_nil))))))) (pe_callHas g_law_take (hr.mono (by decide)) rfl (pa_cons (pv 0) (pa_cons pe_int pa_nil))) (fun _ _ => rfl)))
      (pss_one (ps_ret (pe_op op_sub (pe_callHas g_law_take (hr.mono (by decide)) rfl (pa_cons (pv 0) (pa_cons (pe_op op_add (pe_op op_mul pe_int (pv 1)) pe_int) pa_nil))) (pv 1))))), ?_⟩
    refine ⟨(by decide : 6 ≤ sizeLine), fun l hl => ?_⟩
    obtain ⟨s1, hl1⟩ := new_at (o := .lst [.int 3, .int 3, .int 9, .int 9, .int 40, .int 999999999]) hl
    have nlb : l ≠ b := by
      obtain ⟨x, y, z, h⟩ := hb
      exact (ne_of_none h hl).symm
    refine ⟨_, rfl, b, 6, rfl, hb.keep s1, by decide, by decide, fun d x y z d0 d1 => ?_⟩
    obtain ⟨j, rfl⟩ : ∃ j : Nat, d = (j : Int) := ⟨d.toNat, by omega⟩
    obtain ⟨m, em, m0, m1⟩ : ∃ m : Int, ([.int 3, .int 3, .int 9, .int 9, .int 40, .int 999999999] : List V)[j]? = some (.int m) ∧ 0 ≤ m ∧ m ≤ 999999999 := by
      match j, d1 with
      | 0, _ => exact ⟨_, rfl, by decide, by decide⟩
      | 1, _ => exact ⟨_, rfl, by decide, by decide⟩
      | 2, _ => exact ⟨_, rfl, by decide, by decide⟩
      | 3, _ => exact ⟨_, rfl, by decide, by decide⟩
      | 4, _ => exact ⟨_, rfl, by decide, by decide⟩
      | 5, _ => exact ⟨_, rfl, by decide, by decide⟩
      | n + 6, h => exact absurd h (by omega)
    refine ⟨l, _, _, _, rfl, rfl, SqL.of ((upd_ne nlb).trans hl1), atI_nat em, ?_⟩
    refine ⟨_, rfl, _, rfl, _, _, rfl, rfl, .inl ⟨by decide, by decide⟩, _, _, rfl, rfl, b, 2 * m + 1, rfl, Box.upd', by omega, by omega, fun d' x' y' z' d0' d1' => ⟨_, rfl, _, _, rfl, rfl, ?_⟩⟩
    exact k _ _ ((Same.but s1).trans (But.upd'.trans But.upd')) Box.upd' (by omega) (by omega)
abbrev s_law_value : Stmt := top 39
abbrev n_law_value : List Str := ["_law_form", "_law_row", "_law_here", "_law_there"]
theorem sc_law_value : FnScope n_law_value ["_law_form", "_law_row"] (defScope s_law_value) := ⟨rfl, rfl, rfl, by decide +kernel, rfl, by decide +kernel, by decide +kernel⟩
def dotL (g v : Vec) : Int := (List.zipWith (fun n t : Int => n * t) g v).sum
def spVal : Sp := fun vs H Q _ => ∃ (a b : Addr) (g v : Vec), vs = [.ref a, .ref b] ∧ IsV H a g ∧ IsV H b v ∧ v.length = g.length ∧ v.length ≤ 1000 ∧ (∀ n ∈ g, -1000000000 ≤ n ∧ n ≤ 1000000000) ∧ ∀ H', Same H H' → Q (.int (dotL g v)) H'
theorem ok_value (T : Txt mg) (F : DefAt K mg "_law_value" s_law_value ["_law_form", "_law_row"]) : Has P w K mg base 1 "_law_value" ["_law_form", "_law_row"] spVal := by
  refine F.has sc_law_value (fun vs H Q E h => ?_) (fun f cdv A outer s H vs Q E hr h => ?_)
  · obtain ⟨a, b, g, v, rfl, _⟩ := h
    rfl
  · obtain ⟨a, b, g, v, rfl, hg, hv, hl, h1, hm, k⟩ := h
    refine ⟨_, (pss_one (ps_ret (pe_callB (cr_sum rfl) (by rfl) T.z_sum (by decide +kernel) (pa_cons (pe_lc (own := [("_law_here", 2), ("_law_there", 3)]) (g := gTup K 2 (gCons (gName 2) (gCons (gName 3) gNil))) (by rfl) sc_law_value.nd (pi_zipA (by rfl) T.z_zip (pa_cons (pv 0) (pa_cons (pv 1) pa_nil))) (blkOk_by (own := [("_law_here", 2), ("_law_there", 3)]) (N := n_law_value) (sc := defScope s_law_value) (by decide +kernel)) (fun _ _ _ _ _ => (pg_tup rfl (pgs_cons (pg_name (i := 2) sc_law_value.nd rfl (Or.inl rfl)) (pgs_cons (pg_name (i := 3) sc_law_value.nd rfl (Or.inl rfl)) pgs_nil)))) (fun _ _ _ _ _ => pts_nil) (fun _ _ _ _ _ => (pe_op op_mul (pv 2) (pv 3)))) pa_nil)))), ?_⟩
    have ln : min (g.map V.int).length (v.map V.int).length = g.length := by rw [List.length_map, List.length_map, hl, Nat.min_self]
    have la : (List.zipWith (fun n t : Int => n * t) g v).length = g.length := by rw [List.length_zipWith, hl, Nat.min_self]
    refine ⟨_, rfl, _, rfl, a, b, _, _, rfl, .inr ⟨SqT.of hg, SqT.of hv, fun D hD => lc_it (walk_zipT (xs := g.map V.int) (ys := v.map V.int) ln.symm) (fun i H' => Same H H' ∧ H' D = some (.lst (((List.zipWith (fun n t : Int => n * t) g v).take i).map V.int))) ?_ ?_ ?_ ?_⟩⟩
    · exact ⟨(new_at hD).1, upd_same⟩
    · exact fun i H' _ q => ⟨SqT.of (q.1 _ _ hg), SqT.of (q.1 _ _ hv)⟩
    · rintro i x H' H'' hi ⟨sm, hD'⟩ ⟨q, y1, y2, rfl, hq, rfl, e1, e2⟩
      obtain ⟨n, en, rfl⟩ := map_at e1
      obtain ⟨m, em, rfl⟩ := map_at e2
      refine ⟨q, _, rfl, SqT.of upd_same, rfl, _, _, rfl, _, _, rfl, rfl, rfl, ?_⟩
      have hn := hm n (List.mem_of_getElem? en)
      refine ⟨_, rfl, _, rfl, _, _, rfl, rfl, .inl ⟨by omega, by omega⟩, ?_⟩
      have nDq : D ≠ q := ne_of_none hD' hq
      refine ⟨_, (upd_ne nDq).trans hD', by rw [List.length_map, List.length_take]; exact Nat.lt_of_le_of_lt (Nat.le_trans (Nat.min_le_right _ _) (la ▸ hl ▸ h1)) (by decide), fun x o z => ?_, ?_⟩
      · rw [upd_ne (ne_of_none z hD)]
        exact (new_at hq).1 _ _ (sm _ _ z)
      · rw [upd_same, take_snoc (n := n * m)]
        rw [List.getElem?_zipWith, en, em]
    · rintro H' ⟨sm, hD'⟩
      rw [take_all la] at hD'
      exact ⟨_, _, rfl, SqL.of hD', k _ sm⟩
end
end K06

namespace K06
open PySem L2 RZ Lat
section
variable {P : Program} {w : World} {K : PySem.W.Frag} {mg : Str → Option Value} {base : Heap}
def gcdL (ns : List Int) : Nat := ns.foldl (fun g n => Nat.gcd g n.natAbs) 0
abbrev s_law_common : Stmt := top 38
abbrev n_law_common : List Str := ["_law_numbers", "_law_found", "_law_number_here", "_law_one", "_law_two"]
theorem sc_law_common : FnScope n_law_common ["_law_numbers"] (defScope s_law_common) := ⟨rfl, rfl, rfl, by decide +kernel, rfl, by decide +kernel, by decide +kernel⟩
def spCommon : Sp := fun vs H Q _ => ∃ (l : Addr) (ns : List Int), vs = [.ref l] ∧ H l = some (.lst (ns.map V.int)) ∧ Q (.int ((gcdL ns : Nat) : Int)) H
theorem ok_common (T : Txt mg) (F : DefAt K mg "_law_common" s_law_common ["_law_numbers"]) : Has P w K mg base 1 "_law_common" ["_law_numbers"] spCommon := by
  refine F.has sc_law_common (fun vs H Q E h => ?_) (fun f cdv A outer s H vs Q E hr h => ?_)
  · obtain ⟨l, ns, rfl, _⟩ := h
    rfl
  · obtain ⟨l, ns, rfl, hl, k⟩ := h
    refine ⟨_, (pss_cons (ps_set (i := 1) sc_law_common.nd rfl (Or.inl rfl) pe_int)
      (pss_cons (ps_for PassesOwn.never rfl (pi_list (pv 0)) (pg_name (i := 2) sc_law_common.nd rfl (Or.inl rfl)) (pss_cons (ps_par (i := 3) (j := 4) (by rfl) sc_law_common.nd rfl rfl (by decide) rfl rfl (pa_cons (pv 1) (pa_cons (pe_callB call_abs (by rfl) T.z_abs (by decide +kernel) (pa_cons (pv 2) pa_nil)) pa_nil)) (by rfl))
      (pss_cons (ps_while PassesOwn.never (pt_cmpR op_gt (pv 4) pe_int (nomark _)) (pss_one (ps_par (i := 3) (j := 4) (by rfl) sc_law_common.nd rfl rfl (by decide) rfl rfl (pa_cons (pv 4) (pa_cons (pe_op op_mod (pe_callTy call_int1 (by rfl) T.z_int (by decide +kernel) (pa_cons (pv 3) pa_nil)) (pv 4)) pa_nil)) (by rfl))))
      (pss_one (ps_set (i := 1) sc_law_common.nd rfl (Or.inl rfl) (pv 3))))))
      (pss_one (ps_ret (pv 1))))), ?_⟩
    refine ⟨_, rfl, l, rfl, ⟨_, SqL.of hl⟩, for_it (walk_list (xs := ns.map V.int)) (fun i σ H' => ∃ (g : Nat) (x2 x3 x4 : Option V), σ = [some (.ref l), some (.int ((g : Nat) : Int)), x2, x3, x4] ∧ H' = H ∧ (ns.drop i).foldl (fun g n => Nat.gcd g n.natAbs) g = gcdL ns) ⟨0, _, _, _, rfl, rfl, rfl⟩ (fun i σ H' _ q => ?_) ?_ ?_⟩
    · obtain ⟨_, _, _, _, _, e, _⟩ := q
      rw [e]; exact SqL.of hl
    · rintro i y σ H' H'' hi ⟨g, x2, x3, x4, rfl, rfl, eg⟩ ⟨rfl, ex⟩
      obtain ⟨n, en, rfl⟩ := map_at ex
      have hlt := (List.getElem?_eq_some_iff.mp en).1
      have ed : ns.drop i = n :: ns.drop (i + 1) := by
        rw [List.drop_eq_getElem_cons hlt, (List.getElem?_eq_some_iff.mp en).2]
      rw [ed] at eg
      have ea : (if n < 0 then -n else n) = ((n.natAbs : Nat) : Int) := by split <;> omega
      refine ⟨_, rfl, _, rfl, _, rfl, _, _, rfl, ?_⟩
      rw [ea]
      refine ⟨fun m σ H' => H' = H'' ∧ ∃ x y : Nat, m = y ∧ σ = [some (.ref l), some (.int ((g : Nat) : Int)), some (.int n), some (.int ((x : Nat) : Int)), some (.int ((y : Nat) : Int))] ∧ Nat.gcd x y = Nat.gcd g n.natAbs, ⟨n.natAbs, rfl, g, n.natAbs, rfl, rfl, rfl⟩, ?_⟩
      rintro m σ H' ⟨rfl, x, y, rfl, rfl, exy⟩
      refine ⟨_, rfl, _, _, rfl, rfl, _, rfl, ?_⟩
      by_cases h0 : m = 0
      · subst h0
        show if decide ((0 : Int) < ((0 : Nat) : Int)) = true then _ else _
        rw [decide_eq_false (by omega)]
        rw [Nat.gcd_zero_right] at exy
        subst exy
        exact ⟨_, rfl, _, _, _, _, rfl, rfl, eg⟩
      · show if decide ((0 : Int) < ((m : Nat) : Int)) = true then _ else _
        rw [decide_eq_true (by omega)]
        refine ⟨fun σ2 H2 => H2 = H' ∧ ∃ x' y' : Nat, x' = m ∧ y' = x % m ∧ σ2 = [some (.ref l), some (.int ((g : Nat) : Int)), some (.int n), some (.int ((x' : Nat) : Int)), some (.int ((y' : Nat) : Int))], fun σ2 H2 q => ?_, ?_⟩
        · obtain ⟨q1, x', y', rfl, rfl, rfl⟩ := q
          refine ⟨x % x', Nat.mod_lt _ (by omega), q1, x', x % x', rfl, rfl, ?_⟩
          rw [← exy, Nat.gcd_comm x x', Nat.gcd_rec x' x, Nat.gcd_comm]
        · exact ⟨_, rfl, _, rfl, .inl ⟨_, rfl, _, rfl, _, _, rfl, rfl, (show (0 : Int) < ((m : Nat) : Int) by omega), _, _, rfl, rfl, m, x % m, rfl, rfl, rfl⟩⟩
    · rintro σ H' ⟨g, x2, x3, x4, rfl, rfl, eg⟩
      rw [List.length_map, List.drop_length] at eg
      have eg' : g = gcdL ns := eg
      subst eg'
      exact ⟨_, rfl, k⟩
end
end K06

namespace K06
open PySem L2 RZ Lat
section
variable {P : Program} {w : World} {K : PySem.W.Frag} {mg : Str → Option Value} {base : Heap}
/-- entries within -B .. B -/
def Within (B : Int) (v : Vec) : Prop := ∀ n ∈ v, -B ≤ n ∧ n ≤ B
def RowMid (b l : Addr) (n m i : Nat) (H1 : Hp) : St → Hp → Prop := fun σ H' => ∃ (ρ : Addr) (u : Vec) (x7 x8 x9 x10 x11 x12 : Option V),
  σ = [some (.ref b), some (.int ((n : Nat) : Int)), some (.int ((m : Nat) : Int)), some (.bl false), some (.ref l), some (.int (0 + ((i : Nat) : Int))), some (.ref ρ), x7, x8, x9, x10, x11, x12] ∧ But b H1 H' ∧ Box H' b ∧ ρ ≠ b ∧ H' ρ = some (.lst (u.map V.int)) ∧ u.length = n ∧ Within (4 + 8 * ((i : Nat) : Int)) u
theorem rep_zero : ∀ n : Nat, (List.replicate n [V.int 0]).flatten = (List.replicate n (0 : Int)).map V.int
  | 0 => rfl
  | n + 1 => by rw [List.replicate_succ, List.flatten_cons, rep_zero n, List.replicate_succ, List.map_cons]; rfl
theorem but_new {b p : Addr} {H : Hp} {o : HO} (h : H p = none) : But b H (upd H p o) := fun a u _ z => (new_at h).1 a u z
theorem Box.ne {b p : Addr} {H : Hp} (h : Box H b) (hp : H p = none) : p ≠ b := by
  obtain ⟨x, y, z, h⟩ := h
  exact (ne_of_none h hp).symm
theorem Box.new {b p : Addr} {H : Hp} {o : HO} (h : Box H b) (hp : H p = none) : Box (upd H p o) b := h.keep (new_at hp).1
theorem Rows.but {b : Addr} {H H' : Hp} {n : Nat} {as : List V} {vs : List Vec} (hb : Box H b) (s : But b H H') (h : Rows H n as vs) : Rows H' n as vs :=
  ⟨Paired.mapP h.1 fun x v z => by
    obtain ⟨a, e, q⟩ := z
    obtain ⟨x1, y1, z1, hb⟩ := hb
    exact ⟨a, e, s _ _ (ne_of q hb fun y => nomatch y) q⟩, h.2⟩
abbrev s_law_rows : Stmt := top 32
abbrev n_law_rows : List Str := ["_law_box_here", "_law_width", "_law_many", "_law_is_great", "_law_found", "_law_turn", "_law_row", "_law_first", "_law_last", "_law_at", "_law_here", "_law_there", "_law_number_here"]
theorem sc_law_rows : FnScope n_law_rows ["_law_box_here", "_law_width", "_law_many", "_law_is_great"] (defScope s_law_rows) := ⟨rfl, rfl, rfl, by decide +kernel, rfl, by decide +kernel, by decide +kernel⟩
def spRows : Sp := fun vs H Q _ => ∃ (b : Addr) (n m : Nat), vs = [.ref b, .int ((n : Nat) : Int), .int ((m : Nat) : Int), .bl false] ∧ Box H b ∧ 1 ≤ n ∧ n ≤ 12 ∧ m ≤ 12 ∧
  ∀ (H' : Hp) (l : Addr) (as : List V) (rs : List Vec), l ≠ b → But b H H' → Box H' b → H' l = some (.lst as) → Rows H' n as rs → rs.length = m → (∀ r ∈ rs, Within (4 + 8 * (m : Int)) r) → Q (.ref l) H'
theorem ok_rows (T : Txt mg) (g_law_take : Has P w K mg base 1 "_law_take" ["_law_box_here", "_law_many"] spTake) (g_law_small : Has P w K mg base 2 "_law_small" ["_law_box_here"] spSmall) (g_law_number : Has P w K mg base 2 "_law_number" ["_law_box_here"] spNumber)
    (F : DefAt K mg "_law_rows" s_law_rows ["_law_box_here", "_law_width", "_law_many", "_law_is_great"]) : Has P w K mg base 3 "_law_rows" ["_law_box_here", "_law_width", "_law_many", "_law_is_great"] spRows := by
  refine F.has sc_law_rows (fun vs H Q E h => ?_) (fun f cdv A outer s H vs Q E hr h => ?_)
  · obtain ⟨b, n, m, rfl, _⟩ := h
    rfl
  · obtain ⟨b, n, m, rfl, hb, n1, n2, m2, k⟩ := h
    have hu := hr.units
    refine ⟨_, (pss_cons (ps_set (i := 4) sc_law_rows.nd rfl (Or.inl rfl) (pe_lst pa_nil))
      (pss_cons (ps_for PassesOwn.never rfl (pi_range1 rfl T.z_range (pa_cons (pv 2) pa_nil)) (pg_name (i := 5) sc_law_rows.nd rfl (Or.inl rfl)) (pss_cons (ps_setLc (i := 6) (own := [("_law_at", 9)]) (g := gName 9) (by rfl) sc_law_rows.nd rfl rfl (sw_true rfl rfl rfl (by decide +kernel)) (pi_range1 rfl T.z_range (pa_cons (pv 1) pa_nil)) (blkOk_by (own := [("_law_at", 9)]) (N := n_law_rows) (sc := defScope s_law_rows) (by decide +kernel)) (fun _ _ _ _ _ => (pg_name (i := 9) sc_law_rows.nd rfl (Or.inl rfl))) (fun _ _ _ _ _ => pts_nil) (fun _ _ _ _ _ => (pe_ifExp (pt_val (pv 3)) (pe_callHas g_law_number (hr.mono (by decide)) rfl (pa_cons (pv 0) pa_nil)) (pe_callHas g_law_small (hr.mono (by decide)) rfl (pa_cons (pv 0) pa_nil)))))
      (C8.pss_cut (ps_if (PW.pt (pw_and (pt_cmpR op_gt (pe_callB call_len (by rfl) T.z_len (by decide +kernel) (pa_cons (pv 4) pa_nil)) pe_int (nomark _)) (pw_and1 (pt_cmpR op_eq (pe_callHas g_law_take (hr.mono (by decide)) rfl (pa_cons (pv 0) (pa_cons pe_int pa_nil))) pe_int (nomark _))))) (pss_cons (ps_par (i := 7) (j := 8) (by rfl) sc_law_rows.nd rfl rfl (by decide) rfl rfl (pa_cons (pe_ix ix_list (pv 4) pe_int (fun _ _ => rfl)) (pa_cons (pe_ix ix_list (pv 4) (pe_op op_sub (pe_callB call_len (by rfl) T.z_len (by decide +kernel) (pa_cons (pv 4) pa_nil)) pe_int) (fun _ _ => rfl)) pa_nil)) (by rfl))
      (pss_one (ps_setLc (i := 6) (own := [("_law_here", 10), ("_law_there", 11)]) (g := gTup K 2 (gCons (gName 10) (gCons (gName 11) gNil))) (by rfl) sc_law_rows.nd rfl rfl (sw_true rfl rfl rfl (by decide +kernel)) (pi_zipA (by rfl) T.z_zip (pa_cons (pv 7) (pa_cons (pv 8) pa_nil))) (blkOk_by (own := [("_law_here", 10), ("_law_there", 11)]) (N := n_law_rows) (sc := defScope s_law_rows) (by decide +kernel)) (fun _ _ _ _ _ => (pg_tup rfl (pgs_cons (pg_name (i := 10) sc_law_rows.nd rfl (Or.inl rfl)) (pgs_cons (pg_name (i := 11) sc_law_rows.nd rfl (Or.inl rfl)) pgs_nil)))) (fun _ _ _ _ _ => pts_nil) (fun _ _ _ _ _ => (pe_op op_sub (pe_op op_mul pe_int (pv 10)) (pv 11)))))) pss_nil)
      (C8.pss_cut (ps_if (pt_cmpR op_eq (pe_callHas g_law_take (hr.mono (by decide)) rfl (pa_cons (pv 0) (pa_cons pe_int pa_nil))) pe_int (nomark _)) (pss_one (ps_set (i := 6) sc_law_rows.nd rfl (Or.inl rfl) (pe_op op_rep (pe_lst (pa_cons pe_int pa_nil)) (pv 1)))) pss_nil)
      (C8.pss_cut (ps_if (pt_cmpR (op_neD hu) (pe_lc (own := [("_law_number_here", 12)]) (g := gName 12) (by rfl) sc_law_rows.nd (pi_list (pv 6)) (blkOk_by (own := [("_law_number_here", 12)]) (N := n_law_rows) (sc := defScope s_law_rows) (by decide +kernel)) (fun _ _ _ _ _ => (pg_name (i := 12) sc_law_rows.nd rfl (Or.inl rfl))) (fun _ _ _ _ _ => (pts_one (pt_cmpR op_gt (pe_callB call_abs (by rfl) T.z_abs (by decide +kernel) (pa_cons (pv 12) pa_nil)) pe_int (nomark _)))) (fun _ _ _ _ _ => (pv 12))) (pe_lst pa_nil) (nomark _)) (pss_one (ps_setLc (i := 6) (own := [("_law_at", 9)]) (g := gName 9) (by rfl) sc_law_rows.nd rfl rfl (sw_true rfl rfl rfl (by decide +kernel)) (pi_range1 rfl T.z_range (pa_cons (pv 1) pa_nil)) (blkOk_by (own := [("_law_at", 9)]) (N := n_law_rows) (sc := defScope s_law_rows) (by decide +kernel)) (fun _ _ _ _ _ => (pg_name (i := 9) sc_law_rows.nd rfl (Or.inl rfl))) (fun _ _ _ _ _ => pts_nil) (fun _ _ _ _ _ => (pe_callHas g_law_small (hr.mono (by decide)) rfl (pa_cons (pv 0) pa_nil))))) pss_nil)
      (pss_one (ps_expr (pe_bm PySem.F.plainAttrs_list PySem.F.slot_list_append PySem.F.type_list_append mt_append (pv 4) (pa_cons (pe_callTy call_tuple_of (by rfl) T.z_tuple (by decide +kernel) (pa_cons (pv 6) pa_nil)) pa_nil)))))))))
      (pss_one (ps_ret (pv 4))))), ?_⟩
    refine ⟨Nat.zero_le _, fun l hl => ?_⟩
    obtain ⟨sl, hl1⟩ := new_at (o := .lst []) hl
    have nlb : l ≠ b := by
      obtain ⟨x, y, z, h⟩ := hb
      exact (ne_of_none h hl).symm
    refine ⟨_, rfl, ((m : Nat) : Int), rfl, by omega, by omega, for_range (lo := 0) (n := m) (fun i σ H' => ∃ (as : List V) (rs : List Vec) (x5 x6 x7 x8 x9 x10 x11 x12 : Option V),
      σ = [some (.ref b), some (.int ((n : Nat) : Int)), some (.int ((m : Nat) : Int)), some (.bl false), some (.ref l), x5, x6, x7, x8, x9, x10, x11, x12] ∧ But b H H' ∧ Box H' b ∧ H' l = some (.lst as) ∧ Rows H' n as rs ∧ rs.length = i ∧ ∀ (j : Nat) (r : Vec), rs[j]? = some r → Within (4 + 8 * ((j : Nat) : Int)) r)
      ⟨[], [], _, _, _, _, _, _, _, _, rfl, Same.but sl, hb.keep sl, hl1, ⟨.nil, fun u hu => nomatch hu⟩, rfl, fun j r e => by simp at e⟩ ?_ ?_⟩
    · rintro i σ H1 hi ⟨as, rs, x5, x6, x7, x8, x9, x10, x11, x12, rfl, sm, hb1, hl2, hrs, lrs, wrs⟩
      -- row = [..]
      refine ⟨_, rfl, ((n : Nat) : Int), rfl, by omega, by omega, fun D hD => lc_range (lo := 0) (n := n) (fun j H' => (∀ x o, x ≠ b → x ≠ D → H1 x = some o → H' x = some o) ∧ Box H' b ∧ ∃ u : Vec, H' D = some (.lst (u.map V.int)) ∧ u.length = j ∧ Within 4 u) ?_ ?_ ?_⟩
      · exact ⟨fun x o _ nD z => by rw [upd_ne nD]; exact z, hb1.new hD, [], upd_same, rfl, fun x hx => nomatch hx⟩
      · rintro j H' hj ⟨kp, hb', u, hD', lu, wu⟩
        refine ⟨rfl, ?_⟩
        refine ⟨_, rfl, _, rfl, ?_⟩
        refine ⟨_, rfl, b, rfl, hb', fun H3 d but3 hb3 d0 d1 => ?_⟩
        have nDb := hb1.ne hD
        refine ⟨_, but3 _ _ nDb hD', by rw [List.length_map, lu]; exact Nat.lt_of_lt_of_le hj (Nat.le_trans n2 (by decide)), fun x o nb nD z => by rw [upd_ne nD]; exact but3 _ _ nb (kp x o nb nD z), ?_, u ++ [d], ?_, by rw [List.length_append, lu]; rfl, ?_⟩
        · obtain ⟨y1, y2, y3, h⟩ := hb3
          exact ⟨y1, y2, y3, by rw [upd_ne nDb.symm]; exact h⟩
        · rw [upd_same, List.map_append]; rfl
        · intro x hx
          rcases List.mem_append.mp hx with hx | hx
          · exact wu x hx
          · rw [List.mem_singleton.mp hx]; omega
      rintro H2 ⟨kp2, hb2, u, hD2, lu, wu⟩
      have nDb := hb1.ne hD
      have but2 : But b H1 H2 := fun x o nb z => kp2 x o nb (ne_of_none z hD) z
      have lmap : as.length = i := hrs.len.trans lrs
      refine ⟨RowMid b l n m i H1, ?_, ?_⟩
      · -- if len(found) > 1 and ..
        have hl3 := but2 _ _ nlb hl2
        refine ⟨_, rfl, _, _, rfl, .inl ⟨_, SqL.of hl3, rfl⟩, _, _, rfl, rfl, _, rfl, ?_⟩
        have wide : Within (4 + 8 * ((i : Nat) : Int)) u := fun x hx => by have := wu x hx; omega
        have no : RowMid b l n m i H1 [some (.ref b), some (.int ((n : Nat) : Int)), some (.int ((m : Nat) : Int)), some (.bl false), some (.ref l), some (.int (0 + ((i : Nat) : Int))), some (.ref D), x7, x8, x9, x10, x11, x12] H2 := ⟨D, u, _, _, _, _, _, _, rfl, but2, hb2, nDb, hD2, lu, wide⟩
        by_cases h1 : (1 : Int) < ((as.length : Nat) : Int)
        · show if decide ((1 : Int) < ((as.length : Nat) : Int)) = true then _ else _
          rw [decide_eq_true h1]
          refine ⟨_, rfl, b, 4, rfl, hb2, by decide, by decide, fun d x y z d0 d1 => ⟨rfl, _, rfl, ?_⟩⟩
          have bu3 : But b H1 (upd H2 b (.lst [.int x, .int y, .int z])) := but2.trans But.upd'
          have hD3 : (upd H2 b (.lst [.int x, .int y, .int z])) D = some (.lst (u.map V.int)) := (upd_ne nDb).trans hD2
          by_cases h0 : d = 0
          · show if decide (V.int d = V.int 0) = true then _ else _
            rw [decide_eq_true (by rw [h0])]
            have hl4 := bu3 _ _ nlb hl2
            have hrs4 := hrs.but hb1 bu3
            obtain ⟨y0, e0⟩ : ∃ y0, as[0]? = some y0 := ⟨_, List.getElem?_eq_getElem (by omega)⟩
            obtain ⟨yl, el⟩ : ∃ yl, as[as.length - 1]? = some yl := ⟨_, List.getElem?_eq_getElem (by omega)⟩
            obtain ⟨a0, r0, f0, rfl, g0, l0⟩ := hrs4.at e0
            obtain ⟨al, rl, fl, rfl, gl, ll⟩ := hrs4.at el
            have w0 := wrs 0 r0 f0
            have wl := wrs (as.length - 1) rl fl
            have ecast : ((as.length : Nat) : Int) - 1 = ((as.length - 1 : Nat) : Int) := by omega
            refine ⟨_, rfl, l, _, _, _, rfl, rfl, SqL.of hl4, atI_nat (j := 0) e0, _, rfl, _, rfl, _, _, rfl, .inl ⟨_, SqL.of hl4, rfl⟩, _, _, rfl, rfl, l, _, _, _, rfl, rfl, SqL.of hl4, (by rw [ecast]; exact atI_nat el), _, _, rfl, ?_⟩
            have ln : min (r0.map V.int).length (rl.map V.int).length = n := by rw [List.length_map, List.length_map, l0, ll, Nat.min_self]
            have la : (List.zipWith (fun p q : Int => 2 * p - q) r0 rl).length = n := by rw [List.length_zipWith, l0, ll, Nat.min_self]
            refine ⟨_, rfl, _, rfl, a0, al, _, _, rfl, .inr ⟨SqT.of g0, SqT.of gl, fun E hE => lc_it (walk_zipT (xs := r0.map V.int) (ys := rl.map V.int) ln.symm) (fun j H' => Same (upd H2 b (.lst [.int x, .int y, .int z])) H' ∧ H' E = some (.lst (((List.zipWith (fun p q : Int => 2 * p - q) r0 rl).take j).map V.int))) ?_ ?_ ?_ ?_⟩⟩
            · exact ⟨(new_at hE).1, upd_same⟩
            · exact fun j H' _ q => ⟨SqT.of (q.1 _ _ g0), SqT.of (q.1 _ _ gl)⟩
            · rintro j x' H' H'' hj ⟨sm', hE'⟩ ⟨q, y1, y2, rfl, hq, rfl, e1, e2⟩
              obtain ⟨p1, ep1, rfl⟩ := map_at e1
              obtain ⟨p2, ep2, rfl⟩ := map_at e2
              refine ⟨q, _, rfl, SqT.of upd_same, rfl, _, _, rfl, _, _, rfl, rfl, rfl, ?_⟩
              refine ⟨_, rfl, _, _, rfl, rfl, .inl ⟨by decide, by decide⟩, _, rfl, _, _, rfl, rfl, ?_⟩
              have nEq : E ≠ q := ne_of_none hE' hq
              refine ⟨_, (upd_ne nEq).trans hE', by rw [List.length_map, List.length_take]; exact Nat.lt_of_le_of_lt (Nat.le_trans (Nat.min_le_right _ _) (la ▸ n2)) (by decide), fun x' o z' => ?_, ?_⟩
              · rw [upd_ne (ne_of_none z' hE)]
                exact (new_at hq).1 _ _ (sm' _ _ z')
              · rw [upd_same, take_snoc (n := 2 * p1 - p2)]
                rw [List.getElem?_zipWith, ep1, ep2]
            · rintro H5 ⟨sm', hE'⟩
              rw [take_all la] at hE'
              have hbx : Box (upd H2 b (.lst [.int x, .int y, .int z])) b := Box.upd'
              refine ⟨E, _, _, _, _, _, _, _, rfl, bu3.trans (Same.but sm'), hbx.keep sm', hbx.ne hE, hE', la, ?_⟩
              intro v hv
              obtain ⟨j, hj, ev⟩ := List.mem_iff_getElem.mp hv
              rw [List.getElem_zipWith] at ev
              have q1 := w0 _ (List.getElem_mem (l := r0) (by rw [List.length_zipWith] at hj; omega : j < r0.length))
              have q2 := wl _ (List.getElem_mem (l := rl) (by rw [List.length_zipWith] at hj; omega : j < rl.length))
              omega
          · show if decide (V.int d = V.int 0) = true then _ else _
            rw [decide_eq_false (fun z' => h0 (V.int.inj z'))]
            exact ⟨D, u, _, _, _, _, _, _, rfl, bu3, Box.upd', nDb, hD3, lu, wide⟩
        · show if decide ((1 : Int) < ((as.length : Nat) : Int)) = true then _ else _
          rw [decide_eq_false h1]
          exact no
      · -- if take(8) == 0: row = [0] * width
        rintro σ3 H3 ⟨ρ, u3, x7, x8, x9, x10, x11, x12, rfl, bu3, hb3, nρ, hρ, lu3, wu3⟩
        refine ⟨RowMid b l n m i H1, ?_, ?_⟩
        · refine ⟨_, rfl, b, 8, rfl, hb3, by decide, by decide, fun d x y z d0 d1 => ⟨rfl, _, rfl, ?_⟩⟩
          have bu4 : But b H1 (upd H3 b (.lst [.int x, .int y, .int z])) := bu3.trans But.upd'
          have hbx : Box (upd H3 b (.lst [.int x, .int y, .int z])) b := Box.upd'
          by_cases h0 : d = 0
          · show if decide (V.int d = V.int 0) = true then _ else _
            rw [decide_eq_true (by rw [h0])]
            refine ⟨(by decide : 1 ≤ sizeLine), fun q hq => ?_⟩
            refine ⟨_, rfl, q, ((n : Nat) : Int), _, rfl, rfl, upd_same, by omega, by omega, by show 1 * ((n : Nat) : Int).toNat ≤ sizeLine; rw [Int.toNat_natCast, Nat.one_mul]; exact Nat.le_trans n2 (by decide), fun D3 hD3 => ?_⟩
            have hb4 := hbx.new (o := .lst [.int 0]) hq
            rw [Int.toNat_natCast, rep_zero]
            refine ⟨D3, List.replicate n 0, _, _, _, _, _, _, rfl, (bu4.trans (but_new hq)).trans (but_new hD3), hb4.new hD3, hb4.ne hD3, upd_same, List.length_replicate .., fun v hv => ?_⟩
            rw [(List.mem_replicate.mp hv).2]; omega
          · show if decide (V.int d = V.int 0) = true then _ else _
            rw [decide_eq_false (fun z' => h0 (V.int.inj z'))]
            exact ⟨ρ, u3, _, _, _, _, _, _, rfl, bu4, hbx, nρ, (upd_ne nρ).trans hρ, lu3, wu3⟩
        · -- if [..] != []
          rintro σ4 H4 ⟨ρ, u4, x7, x8, x9, x10, x11, x12, rfl, bu4, hb4, nρ4, hρ4, lu4, wu4⟩
          refine ⟨RowMid b l n m i H1, ?_, ?_⟩
          · refine ⟨_, rfl, ρ, rfl, ⟨_, SqL.of hρ4⟩, fun D4 hD4 => lc_it (walk_list (xs := u4.map V.int)) (fun j H' => Same H4 H' ∧ H' D4 = some (.lst [])) ?_ ?_ ?_ ?_⟩
            · exact ⟨(new_at hD4).1, upd_same⟩
            · exact fun j H' _ q => SqL.of (q.1 _ _ hρ4)
            · rintro j x' H' H'' hj ⟨sm', hD'⟩ ⟨rfl, e1⟩
              obtain ⟨v, ev, rfl⟩ := map_at e1
              have wv := wu4 v (List.mem_of_getElem? ev)
              refine ⟨rfl, ?_⟩
              refine ⟨_, rfl, _, rfl, _, _, rfl, rfl, _, rfl, ?_⟩
              have hno : ¬ ((999999999 : Int) < (if v < 0 then -v else v)) := by split <;> omega
              show if decide ((999999999 : Int) < (if v < 0 then -v else v)) = true then _ else _
              rw [decide_eq_false hno]
              exact ⟨sm', hD'⟩
            · rintro H5 ⟨sm', hD'⟩
              refine ⟨Nat.zero_le _, fun D5 hD5 => ?_⟩
              obtain ⟨s5, h5⟩ := new_at (o := .lst []) hD5
              refine ⟨.list [], .list [], .lst (SqL.of (s5 _ _ hD')) .nil, .lst (SqL.of h5) .nil, by decide +kernel, by decide +kernel, _, rfl, ?_⟩
              have e6 : (!PyData.eqv (.list []) (.list [])) = false := by decide +kernel
              show if (!PyData.eqv (.list []) (.list [])) = true then _ else _
              rw [e6]
              have s45 := sm'.trans s5
              exact ⟨ρ, u4, _, _, _, _, _, _, rfl, bu4.trans (Same.but s45), hb4.keep s45, nρ4, s45 _ _ hρ4, lu4, wu4⟩
          · -- found.append(tuple(row))
            rintro σ5 H5 ⟨ρ, u5, x7, x8, x9, x10, x11, x12, rfl, bu5, hb5, nρ5, hρ5, lu5, wu5⟩
            have hl5 := bu5 _ _ nlb hl2
            refine ⟨_, rfl, .inl ⟨rfl, _, SqL.of hl5⟩, _, rfl, _, _, rfl, .inl ⟨SqL.of hρ5, fun t ht => ?_⟩⟩
            obtain ⟨s6, ht6⟩ := new_at (o := .tup (u5.map V.int)) ht
            have hl6 := s6 _ _ hl5
            refine ⟨l, _, _, rfl, rfl, hl6, by rw [lmap]; exact Nat.lt_of_lt_of_le hi (Nat.le_trans m2 (by decide)), ?_⟩
            have bu6 : But b H1 (upd H5 t (.tup (u5.map V.int))) := bu5.trans (Same.but s6)
            refine ⟨as ++ [.ref t], rs ++ [u5], _, _, _, _, _, _, _, _, rfl, fun x o nb z => ?_, ?_, upd_same, Rows.snoc (Rows.lst_up hl6 (hrs.but hb1 bu6)) (V_up hl6 ht6) lu5, by rw [List.length_append, lrs]; rfl, fun j r e => ?_⟩
            · rw [upd_ne (ne_of_none z hl)]
              exact bu6 _ _ nb (sm _ _ nb z)
            · obtain ⟨y1, y2, y3, h⟩ := hb5.keep s6
              exact ⟨y1, y2, y3, (upd_ne nlb.symm).trans h⟩
            · by_cases hj : j < rs.length
              · rw [List.getElem?_append_left hj] at e
                exact wrs j r e
              · rw [List.getElem?_append_right (by omega)] at e
                have hj0 : j - rs.length = 0 := by
                  have := (List.getElem?_eq_some_iff.mp e).1
                  simp at this
                  omega
                rw [hj0] at e
                have er : u5 = r := Option.some.inj e
                have ej : j = i := by omega
                subst er ej
                exact wu5
    · rintro σ H1 ⟨as, rs, x5, x6, x7, x8, x9, x10, x11, x12, rfl, sm, hb1, hl2, hrs, lrs, wrs⟩
      refine ⟨_, rfl, k _ l as rs nlb sm hb1 hl2 hrs lrs fun r hr' => ?_⟩
      obtain ⟨j, hj, ev⟩ := List.mem_iff_getElem.mp hr'
      intro x hx
      have := wrs j r (by rw [List.getElem?_eq_getElem hj, ev]) x hx
      omega
end
end K06

namespace K06
open PySem L2 RZ Lat
theorem gcd_le (B : Nat) : ∀ (ns : List Int) (g : Nat), (∀ n ∈ ns, n.natAbs ≤ B) → ns.foldl (fun g n => Nat.gcd g n.natAbs) g ≤ g + ns.length * B
  | [], g, _ => by simp
  | n :: ns, g, h => by
    have h1 := gcd_le B ns (Nat.gcd g n.natAbs) fun x hx => h x (List.mem_cons_of_mem _ hx)
    have h2 : Nat.gcd g n.natAbs ≤ g + n.natAbs := by
      rcases Nat.eq_zero_or_pos g with e | e
      · rw [e, Nat.gcd_zero_left]; omega
      · exact Nat.le_trans (Nat.gcd_le_left _ e) (Nat.le_add_right _ _)
    have h3 := h n List.mem_cons_self
    rw [List.foldl_cons, List.length_cons, Nat.add_mul, Nat.one_mul]
    omega
theorem gcd_dvd : ∀ (ns : List Int) (g : Nat), (ns.foldl (fun g n => Nat.gcd g n.natAbs) g ∣ g) ∧ ∀ n ∈ ns, ((ns.foldl (fun g n => Nat.gcd g n.natAbs) g : Nat) : Int) ∣ n
  | [], g => ⟨Nat.dvd_refl _, fun n hn => nomatch hn⟩
  | n :: ns, g => by
    obtain ⟨h1, h2⟩ := gcd_dvd ns (Nat.gcd g n.natAbs)
    refine ⟨Nat.dvd_trans h1 (Nat.gcd_dvd_left _ _), fun m hm => ?_⟩
    rcases List.mem_cons.mp hm with e | hm
    · rw [e, List.foldl_cons]
      exact Int.ofNat_dvd_left.mpr (Nat.dvd_trans h1 (Nat.gcd_dvd_right _ _))
    · exact h2 m hm
theorem dotL_bound (B C : Nat) : ∀ (g v : Vec), (∀ n ∈ g, n.natAbs ≤ B) → (∀ n ∈ v, n.natAbs ≤ C) → (dotL g v).natAbs ≤ v.length * (B * C)
  | [], v, _, _ => by simp [dotL]
  | n :: g, [], _, _ => by simp [dotL]
  | n :: g, m :: v, h1, h2 => by
    have ih := dotL_bound B C g v (fun x hx => h1 x (List.mem_cons_of_mem _ hx)) fun x hx => h2 x (List.mem_cons_of_mem _ hx)
    have e : dotL (n :: g) (m :: v) = n * m + dotL g v := rfl
    have q : (n * m).natAbs ≤ B * C := by
      rw [Int.natAbs_mul]
      exact Nat.mul_le_mul (h1 n List.mem_cons_self) (h2 m List.mem_cons_self)
    rw [e, List.length_cons, Nat.add_mul, Nat.one_mul]
    have := Int.natAbs_add_le (n * m) (dotL g v)
    omega
theorem dotL_comb (a b : Int) : ∀ (g p q : Vec), p.length = g.length → q.length = g.length → dotL g (List.zipWith (fun x y : Int => a * x - b * y) p q) = a * dotL g p - b * dotL g q
  | [], [], [], _, _ => by simp [dotL]
  | n :: g, x :: p, y :: q, h1, h2 => by
    have ih := dotL_comb a b g p q (Nat.succ.inj h1) (Nat.succ.inj h2)
    have e1 : dotL (n :: g) (List.zipWith (fun x y : Int => a * x - b * y) (x :: p) (y :: q)) = n * (a * x - b * y) + dotL g (List.zipWith (fun x y : Int => a * x - b * y) p q) := rfl
    have e2 : dotL (n :: g) (x :: p) = n * x + dotL g p := rfl
    have e3 : dotL (n :: g) (y :: q) = n * y + dotL g q := rfl
    rw [e1, e2, e3, ih, Int.mul_sub, Int.mul_add, Int.mul_add, Int.mul_left_comm n a x, Int.mul_left_comm n b y]
    omega
  | [], _ :: _, _, h1, _ => by simp at h1
  | [], [], _ :: _, _, h2 => by simp at h2
  | _ :: _, [], _, h1, _ => by simp at h1
  | _ :: _, _ :: _, [], _, h2 => by simp at h2
theorem dotV_zero : ∀ (n : Nat) (v : Vec), dotV (List.replicate n 0) v = 0
  | 0, v => by simp [dotV]
  | n + 1, [] => by simp [dotV]
  | n + 1, x :: v => by
    have e : dotV (List.replicate (n + 1) 0) (x :: v) = x * 0 + dotV (List.replicate n 0) v := by rw [List.replicate_succ]; rfl
    rw [e, dotV_zero n v]; omega
theorem gcdV_zero (n : Nat) : ∀ rs : List Vec, gcdV (List.replicate n 0) rs = 0 := by
  intro rs
  have h : ∀ (rs : List Vec), rs.foldl (fun m r => Nat.gcd m (dotV (List.replicate n 0) r).natAbs) 0 = 0 := by
    intro rs
    induction rs with
    | nil => rfl
    | cons r rs ih => rw [List.foldl_cons, dotV_zero]; exact ih
  exact h rs
def rowD (v : Vec) : PyData := .tuple (v.map PyData.int)
theorem ints_dp {K : PySem.W.Frag} {H : Hp} : ∀ v : Vec, DpAll K H (v.map V.int) (v.map PyData.int)
  | [] => .nil
  | n :: v => .cons (.int n) (ints_dp v)
theorem rows_dp {K : PySem.W.Frag} {H : Hp} {as : List V} {rs : List Vec} (h : Paired (fun x v => ∃ a, x = V.ref a ∧ IsV H a v) as rs) : DpAll K H as (rs.map rowD) := by
  induction h with
  | nil => exact .nil
  | cons r _ ih =>
    obtain ⟨a, rfl, q⟩ := r
    exact .cons (.tup (SqT.of q) (ints_dp _)) ih
theorem rows_shaped (rs : List Vec) : SeqAt.shaped (.list (rs.map rowD)) = true := by
  have h1 : ∀ v : Vec, PyData.canLayAll0 (v.map PyData.int) = true ∧ PyData.depthAll (v.map PyData.int) = 0 := by
    intro v
    induction v with
    | nil => exact ⟨rfl, rfl⟩
    | cons n v ih => exact ⟨by simp only [List.map_cons, PyData.canLayAll0, PyData.canLay0, ih.1, Bool.and_self], by simp only [List.map_cons, PyData.depthAll, PyData.depth, ih.2]; rfl⟩
  have h2 : PyData.canLayAll0 (rs.map rowD) = true ∧ PyData.depthAll (rs.map rowD) ≤ 1 := by
    induction rs with
    | nil => exact ⟨rfl, Nat.zero_le _⟩
    | cons v rs ih =>
      refine ⟨by simp only [List.map_cons, PyData.canLayAll0, rowD, PyData.canLay0, (h1 v).1, ih.1, Bool.and_self], ?_⟩
      have := (h1 v).2
      simp only [List.map_cons, PyData.depthAll, rowD, PyData.depth]
      omega
  show (PyData.canLay0 (.list (rs.map rowD)) && decide (PyData.depth (.list (rs.map rowD)) ≤ 64)) = true
  rw [Bool.and_eq_true]
  exact ⟨by simp only [PyData.canLay0]; exact h2.1, decide_eq_true (by simp only [PyData.depth]; omega)⟩
theorem LatAt.but {C b : Addr} {H H' : Hp} {x : Addr} {n : Nat} {rs : List Vec} (hb : Box H b) (s : But b H H') (h : LatAt C H x n rs) : LatAt C H' x n rs := by
  obtain ⟨dx, p, os, h1, h2, h3⟩ := h
  obtain ⟨y1, y2, y3, hb'⟩ := id hb
  exact ⟨dx, p, os, s _ _ (ne_of h1 hb' fun z => nomatch z) h1, s _ _ (ne_of h2 hb' fun z => nomatch z) h2, h3.but hb s⟩
theorem mem_rows {rs : List Vec} {n : Nat} {B : Int} (h1 : ∀ r ∈ rs, r.length = n) (h2 : ∀ r ∈ rs, Within B r) : ∀ r ∈ rs, r.length = n ∧ Within B r := fun r hr => ⟨h1 r hr, h2 r hr⟩
theorem log_small {g : Nat} (h : g < 2 ^ 100) : ((g : Nat) : Int).natAbs.log2 < 1920 := by
  rw [Int.natAbs_natCast]
  rcases Nat.eq_zero_or_pos g with e | e
  · rw [e]; decide
  · exact Nat.lt_of_lt_of_le ((Nat.log2_lt (by omega)).mpr h) (by decide)
end K06

namespace K06
open PySem L2 RZ Lat
/-- what is asked of the vectors alone -/
structure MathOk : Prop where
  ok : ∀ (n : Nat) (rs : List Vec), n ≤ 5 → rs.length ≤ 5 → (∀ r ∈ rs, r.length = n ∧ Within 44 r) → OkGrows [] rs
  mul : ∀ (n : Nat) (rs : List Vec), n ≤ 5 → rs.length ≤ 5 → (∀ r ∈ rs, r.length = n ∧ Within 44 r) → ∀ r ∈ grows [] rs, ∀ x ∈ r, ∀ m : Int, -1000000000 ≤ m → m ≤ 1000000000 → CMulX x m
  gcd : ∀ (n : Nat) (rs : List Vec), n ≤ 5 → rs.length ≤ 5 → (∀ r ∈ rs, r.length = n ∧ Within 44 r) → ∀ g : Vec, g.length = n → gcdV g (grows [] rs) = gcdL (rs.map (dotL g))
section
variable {P : Program} {w : World} {K : PySem.W.Frag} {mg : Str → Option Value} {base : Heap}
abbrev s_law : Stmt := top 40
abbrev n_law : List Str := ["_law_script", "_law_k", "_law_box_here", "_law_turn", "_law_width", "_law_rows_here", "_law_made", "_law_again", "_law_shape", "_law_due", "_law_both", "_law_value_here", "_law_at", "_law_row", "_law_here", "_law_there"]
theorem sc_law : FnScope n_law ["_law_script"] (defScope s_law) := ⟨rfl, rfl, rfl, by decide +kernel, rfl, by decide +kernel, by decide +kernel⟩
def spLaw (K : PySem.W.Frag) : Sp := fun vs H Q _ => ∃ (a : Addr) (ns : List Int), vs = [.ref a] ∧ SqL K H a (ns.map V.int) ∧ ns.length ≤ 63 ∧ ∀ H', Q (.bl true) H'
theorem iteSe {b : Bool} {A B : Prop} (h : b = true) (k : A) : if b = true then A else B := by rw [if_pos h]; exact k
theorem iteSf {b : Bool} {A B : Prop} (h : b = false) (k : B) : if b = true then A else B := by rw [h, if_neg (by decide)]; exact k
theorem ok_law {C fI fD f t0 : Addr} {fdI fdD fd : FuncData} {ds : List Value} (MO : MathOk) (T : Txt mg) (CL : ClsL K mg C) (ML : Mk K C fI) (g_lattice : FnOk P w K mg base CX0 5 fI fdI ["self", "width", "rows"] (spLattice K C)) (bL : Binds K fdI ["self", "width", "rows"] [])
    (hT0 : ∃ o, K.lookup t0 = some o ∧ o.cls = .type "tuple") (qT0 : ∀ H, SqT K H t0 []) (vL1 : Vals [V.ref t0] ds) (bL1 : Binds K fdI ["self", "width", "rows"] ds)
    (mD : Meth K C "divisor" fD) (g_divisor : FnOk P w K mg base CX0 2 fD fdD ["self", "form"] (spDivisor C)) (bD : Binds K fdD ["self", "form"] [])
    (F : Fun K "law" "law" s_law f fd)
    (g_law_box : Has P w K mg base 1 "_law_box" ["_law_script", "_law_k", "_law_own"] (spBox K)) (g_law_take : Has P w K mg base 1 "_law_take" ["_law_box_here", "_law_many"] spTake) (g_law_number : Has P w K mg base 2 "_law_number" ["_law_box_here"] spNumber)
    (g_law_rows : Has P w K mg base 3 "_law_rows" ["_law_box_here", "_law_width", "_law_many", "_law_is_great"] spRows) (g_law_common : Has P w K mg base 1 "_law_common" ["_law_numbers"] spCommon) (g_law_value : Has P w K mg base 1 "_law_value" ["_law_form", "_law_row"] spVal) :
    FnOk P w K mg base CX0 8 f fd ["_law_script"] (spLaw K) := by
  refine F.ok sc_law (fun vs H Q E h => ?_) (fun cdv A outer s H vs Q E hr h => ?_)
  · obtain ⟨a, ns, rfl, _⟩ := h
    rfl
  · obtain ⟨a, ns, rfl, hS, hlen, k⟩ := h
    have hu := hr.units
    refine ⟨_, (pss_cons (ps_for PassesOwn.never rfl (pi_range1 rfl T.z_range (pa_cons (pe_callB (call_max2 rfl) (by rfl) T.z_max (by decide +kernel) (pa_cons pe_int (pa_cons (pe_callB (call_min2 rfl) (by rfl) T.z_min (by decide +kernel) (pa_cons pe_int (pa_cons (pe_callB call_len (by rfl) T.z_len (by decide +kernel) (pa_cons (pv 0) pa_nil)) pa_nil))) pa_nil))) pa_nil)) (pg_name (i := 1) sc_law.nd rfl (Or.inl rfl)) (pss_cons (ps_set (i := 2) sc_law.nd rfl (Or.inr rfl) (pe_callHas g_law_box (hr.mono (by decide)) rfl (pa_cons (pv 0) (pa_cons (pv 1) (pa_cons pe_int pa_nil)))))
      (pss_one (ps_for PassesOwn.never rfl (pi_range1 rfl T.z_range (pa_cons pe_int pa_nil)) (pg_name (i := 3) sc_law.nd rfl (Or.inl rfl)) (pss_cons (ps_set (i := 4) sc_law.nd rfl (Or.inl rfl) (pe_op op_add pe_int (pe_callHas g_law_take (hr.mono (by decide)) rfl (pa_cons (pv 2) (pa_cons pe_int pa_nil)))))
      (pss_cons (ps_set (i := 5) sc_law.nd rfl (Or.inl rfl) (pe_callHas g_law_rows (hr.mono (by decide)) rfl (pa_cons (pv 2) (pa_cons (pv 4) (pa_cons (pe_callHas g_law_take (hr.mono (by decide)) rfl (pa_cons (pv 2) (pa_cons pe_int pa_nil))) (pa_cons pe_bl pa_nil))))))
      (pss_cons (ps_set (i := 6) sc_law.nd rfl (Or.inl rfl) (pe_make ML g_lattice (hr.mono (by decide)) rfl CL.m bL .nil pass0 (pa_cons (pv 4) (pa_cons (pv 5) pa_nil))))
      (pss_cons (ps_for PassesOwn.never rfl (pi_range1 rfl T.z_range (pa_cons pe_int pa_nil)) (pg_name (i := 7) sc_law.nd rfl (Or.inl rfl)) (pss_cons (ps_set (i := 8) sc_law.nd rfl (Or.inr rfl) (pe_callTy call_tuple_of (by rfl) T.z_tuple (by decide +kernel) (pa_cons (pe_lc (own := [("_law_at", 12)]) (g := gName 12) (by rfl) sc_law.nd (pi_range1 rfl T.z_range (pa_cons (pv 4) pa_nil)) (blkOk_by (own := [("_law_at", 12)]) (N := n_law) (sc := defScope s_law) (by decide +kernel)) (fun _ _ _ _ _ => (pg_name (i := 12) sc_law.nd rfl (Or.inl rfl))) (fun _ _ _ _ _ => pts_nil) (fun _ _ _ _ _ => (pe_callHas g_law_number (hr.mono (by decide)) rfl (pa_cons (pv 2) pa_nil)))) pa_nil)))
      (pss_cons (ps_set (i := 9) sc_law.nd rfl (Or.inl rfl) (pe_callHas g_law_common (hr.mono (by decide)) rfl (pa_cons (pe_lc (own := [("_law_row", 13)]) (g := gName 13) (by rfl) sc_law.nd (pi_list (pv 5)) (blkOk_by (own := [("_law_row", 13)]) (N := n_law) (sc := defScope s_law) (by decide +kernel)) (fun _ _ _ _ _ => (pg_name (i := 13) sc_law.nd rfl (Or.inl rfl))) (fun _ _ _ _ _ => pts_nil) (fun _ _ _ _ _ => (pe_callHas g_law_value (hr.mono (by decide)) rfl (pa_cons (pv 8) (pa_cons (pv 13) pa_nil))))) pa_nil)))
      (pss_cons (ps_if (pt_cmpR op_ne (pe_callB SkE.call_repr_int (by rfl) T.z_repr (by decide +kernel) (pa_cons (pe_meth (pv 6) CL.cl mD g_divisor (hr.mono (by decide)) bD .nil pass0 (pa_cons (pv 8) pa_nil)) pa_nil)) (pe_callB SkE.call_repr_int (by rfl) T.z_repr (by decide +kernel) (pa_cons (pv 9) pa_nil)) (nomark _)) (pss_one (ps_ret pe_bl)) pss_nil)
      (pss_one (ps_if (pt_cmpR (op_neD hu) (pv 5) (pe_lst pa_nil) (nomark _)) (pss_cons (ps_set (i := 10) sc_law.nd rfl (Or.inl rfl) (pe_callTy call_tuple_of (by rfl) T.z_tuple (by decide +kernel) (pa_cons (pe_lc (own := [("_law_here", 14), ("_law_there", 15)]) (g := gTup K 2 (gCons (gName 14) (gCons (gName 15) gNil))) (by rfl) sc_law.nd (pi_zipA (by rfl) T.z_zip (pa_cons (pe_ix ix_list (pv 5) pe_int (fun _ _ => rfl)) (pa_cons (pe_ix ix_list (pv 5) (pe_op op_sub (pe_callB call_len (by rfl) T.z_len (by decide +kernel) (pa_cons (pv 5) pa_nil)) pe_int) (fun _ _ => rfl)) pa_nil))) (blkOk_by (own := [("_law_here", 14), ("_law_there", 15)]) (N := n_law) (sc := defScope s_law) (by decide +kernel)) (fun _ _ _ _ _ => (pg_tup rfl (pgs_cons (pg_name (i := 14) sc_law.nd rfl (Or.inl rfl)) (pgs_cons (pg_name (i := 15) sc_law.nd rfl (Or.inl rfl)) pgs_nil)))) (fun _ _ _ _ _ => pts_nil) (fun _ _ _ _ _ => (pe_op op_sub (pe_op op_mul pe_int (pv 14)) (pe_op op_mul pe_int (pv 15))))) pa_nil)))
      (pss_cons (ps_set (i := 11) sc_law.nd rfl (Or.inl rfl) (pe_callHas g_law_value (hr.mono (by decide)) rfl (pa_cons (pv 8) (pa_cons (pv 10) pa_nil))))
      (pss_one (ps_if (PW.pt (pw_or (PW.pt (pw_and (pt_cmpR op_eq (pv 9) pe_int (nomark _)) (pw_and1 (pt_cmpR op_ne (pv 11) pe_int (nomark _))))) (pw_or1 (PW.pt (pw_and (pt_cmpR op_ne (pv 9) pe_int (nomark _)) (pw_and1 (pt_cmpR op_ne (pe_op op_mod (pe_callTy call_int1 (by rfl) T.z_int (by decide +kernel) (pa_cons (pv 11) pa_nil)) (pv 9)) pe_int (nomark _)))))))) (pss_one (ps_ret pe_bl)) pss_nil)))) pss_nil))))))
      (pss_one (ps_if (pt_cmpR op_ne (pe_meth (pv 6) CL.cl mD g_divisor (hr.mono (by decide)) bD .nil pass0 (pa_cons (pe_callTy call_tuple_of (by rfl) T.z_tuple (by decide +kernel) (pa_cons (pe_op op_rep (pe_lst (pa_cons pe_int pa_nil)) (pv 4)) pa_nil)) pa_nil)) pe_int (nomark _)) (pss_one (ps_ret pe_bl)) pss_nil))))))))))
      (pss_one (ps_ret (pe_cmpR op_eq (pe_meth (pe_make ML g_lattice (hr.mono (by decide)) rfl CL.m bL1 vL1 pass0 (pa_cons pe_int pa_nil)) CL.cl mD g_divisor (hr.mono (by decide)) bD .nil pass0 (pa_cons (pe_tup (pa_cons pe_int (pa_cons pe_int pa_nil))) pa_nil)) pe_int (nomark _))))), ?_⟩
    have hlen' : (((ns.map V.int).length : Nat) : Int) ≤ 63 := by rw [List.length_map]; omega
    refine ⟨_, rfl, _, _, rfl, .inl ⟨_, hS, rfl⟩, _, _, rfl, _, _, rfl, ?_⟩
    have hN : ∀ m : Int, 0 ≤ m → ∃ N : Int, (if (if m < 3 then m else 3) > 1 then (if m < 3 then m else 3) else 1) = N ∧ 0 ≤ N ∧ N ≤ 3 := fun m hm => ⟨_, rfl, by split <;> (try split) <;> omega, by split <;> (try split) <;> omega⟩
    obtain ⟨N, eN, N0, N3⟩ := hN (((ns.map V.int).length : Nat) : Int) (Int.natCast_nonneg _)
    refine ⟨N, by rw [← eN], by omega, by omega, for_range (lo := 0) (n := N.toNat) (fun i σ H' => Same H H' ∧ ∃ x1 x2 x3 x4 x5 x6 x7 x8 x9 x10 x11 x12 x13 x14 x15, σ = [some (.ref a), x1, x2, x3, x4, x5, x6, x7, x8, x9, x10, x11, x12, x13, x14, x15]) ⟨Same.refl _, _, _, _, _, _, _, _, _, _, _, _, _, _, _, _, rfl⟩ ?_ ?_⟩
    · rintro i σ H1 hi ⟨s1, x1, x2, x3, x4, x5, x6, x7, x8, x9, x10, x11, x12, x13, x14, x15, rfl⟩
      refine ⟨_, rfl, _, rfl, a, ns, _, _, rfl, s1.seq hS, by omega, by omega, by decide, by decide, fun H2 b s2 hb0 hbox => ?_⟩
      -- for turn in range(4)
      refine ⟨4, rfl, by decide, by decide, for_range (lo := 0) (n := 4) (fun j σ H' => But b H2 H' ∧ Box H' b ∧ ∃ x3 x4 x5 x6 x7 x8 x9 x10 x11 x12 x13 x14 x15, σ = [some (.ref a), some (.int (0 + ((i : Nat) : Int))), some (.ref b), x3, x4, x5, x6, x7, x8, x9, x10, x11, x12, x13, x14, x15]) ⟨fun _ _ _ z => z, hbox, _, _, _, _, _, _, _, _, _, _, _, _, _, rfl⟩ ?_ ?_⟩
      · rintro j σ H3 hj ⟨bu3, hb3, x3, x4, x5, x6, x7, x8, x9, x10, x11, x12, x13, x14, x15, rfl⟩
        refine ⟨_, rfl, b, 5, rfl, hb3, by decide, by decide, fun d u1 u2 u3 d0 d1 => ⟨_, _, rfl, rfl, ?_⟩⟩
        obtain ⟨n, en, n1, n5⟩ : ∃ n : Nat, (1 + d : Int) = ((n : Nat) : Int) ∧ 1 ≤ n ∧ n ≤ 5 := ⟨(1 + d).toNat, by omega, by omega, by omega⟩
        show gName 4 (V.int (1 + d)) _ _ _
        rw [en]
        have hb4 : Box (upd H3 b (.lst [.int u1, .int u2, .int u3])) b := Box.upd'
        refine ⟨_, rfl, _, rfl, _, rfl, b, 6, rfl, hb4, by decide, by decide, fun e v1 v2 v3 e0 e1 => ?_⟩
        obtain ⟨m, rfl⟩ : ∃ m : Nat, e = ((m : Nat) : Int) := ⟨e.toNat, by omega⟩
        refine ⟨b, n, m, rfl, Box.upd', n1, by omega, by omega, fun H5 l as rs nlb bu5 hb5 hl hrs lrs wrs => ?_⟩
        have good : ∀ r ∈ rs, r.length = n ∧ Within 44 r := fun r hr' => ⟨hrs.2 r hr', fun x hx => by have := wrs r hr' x hx; omega⟩
        have m5 : rs.length ≤ 5 := by omega
        -- Lattice(width, rows)
        refine ⟨_, rfl, _, rfl, fun x dx hx hdx ndx => ?_⟩
        have so : Same H5 (upd (upd H5 dx (.own x)) x (.ins C dx [])) := fun y o z => by
          rw [upd_ne (ne_of_none z hx), upd_ne (ne_of_none z hdx)]; exact z
        refine ⟨x, dx, l, n, as, rs, rfl, upd_same, n1, by omega, by omega, .inl (so _ _ hl), hrs.keep so, MO.ok n rs n5 m5 good, fun H6 kp6 lat6 => ⟨rfl, ?_⟩⟩
        have s6 : Same H5 H6 := fun y o z => kp6 y o (ne_of_none z hx) (so _ _ z)
        have hb6 := hb5.keep s6
        have hl6 := s6 _ _ hl
        have hrs6 := hrs.keep s6
        -- for again in range(5)
        refine ⟨5, rfl, by decide, by decide, for_range (lo := 0) (n := 5) (fun q σ H' => But b H6 H' ∧ Box H' b ∧ ∃ x7 x8 x9 x10 x11 x12 x13 x14 x15, σ = [some (.ref a), some (.int (0 + ((i : Nat) : Int))), some (.ref b), some (.int (0 + ((j : Nat) : Int))), some (.int ((n : Nat) : Int)), some (.ref l), some (.ref x), x7, x8, x9, x10, x11, x12, x13, x14, x15]) ⟨fun _ _ _ z => z, hb6, _, _, _, _, _, _, _, _, _, rfl⟩ ?_ ?_⟩
        · rintro q σ H7 hq ⟨bu7, hb7, x7, x8, x9, x10, x11, x12, x13, x14, x15, rfl⟩
          have hl7 := bu7 _ _ nlb hl6
          have hrs7 := hrs6.but hb6 bu7
          have lat7 := lat6.but hb6 bu7
          -- shape
          refine ⟨_, rfl, ((n : Nat) : Int), rfl, by omega, by omega, fun D hD => lc_range (lo := 0) (n := n) (fun t H' => (∀ y o, y ≠ b → y ≠ D → H7 y = some o → H' y = some o) ∧ Box H' b ∧ ∃ g : Vec, H' D = some (.lst (g.map V.int)) ∧ g.length = t ∧ Within 1000000000 g) ?_ ?_ ?_⟩
          · exact ⟨fun y o _ nD z => by rw [upd_ne nD]; exact z, hb7.new hD, [], upd_same, rfl, fun y hy => nomatch hy⟩
          · rintro t H' ht ⟨kp, hb', g, hD', lg, wg⟩
            refine ⟨rfl, ?_⟩
            refine ⟨_, rfl, b, rfl, hb', fun H8 d but8 hb8 d0 d1 => ?_⟩
            have nDb := hb7.ne hD
            refine ⟨_, but8 _ _ nDb hD', by rw [List.length_map, lg]; exact Nat.lt_of_lt_of_le ht (Nat.le_trans n5 (by decide)), fun y o nb nD z => by rw [upd_ne nD]; exact but8 _ _ nb (kp y o nb nD z), ?_, g ++ [d], ?_, by rw [List.length_append, lg]; rfl, ?_⟩
            · obtain ⟨y1, y2, y3, h⟩ := hb8
              exact ⟨y1, y2, y3, by rw [upd_ne nDb.symm]; exact h⟩
            · rw [upd_same, List.map_append]; rfl
            · intro y hy
              rcases List.mem_append.mp hy with hy | hy
              · exact wg y hy
              · rw [List.mem_singleton.mp hy]; omega
          rintro H8 ⟨kp8, hb8, g, hD8, lg, wg⟩
          have bu78 : But b H7 H8 := fun y o nb z => kp8 y o nb (ne_of_none z hD) z
          refine ⟨_, _, rfl, .inl ⟨SqL.of hD8, fun sh hsh => ?_⟩⟩
          obtain ⟨s9, hg9⟩ := new_at (o := .tup (g.map V.int)) hsh
          have bu79 := bu78.trans (Same.but s9)
          have hb9 := hb8.keep s9
          have hl9 := bu79 _ _ nlb hl7
          have hrs9 := hrs7.but hb7 bu79
          have lat9 := lat7.but hb7 bu79
          have wgn : ∀ y ∈ g, y.natAbs ≤ 1000000000 := fun y hy => by have := wg y hy; omega
          have wrn : ∀ r ∈ rs, ∀ y ∈ r, y.natAbs ≤ 44 := fun r hr' y hy => by have := (good r hr').2 y hy; omega
          -- due
          refine ⟨_, rfl, l, rfl, ⟨_, SqL.of hl9⟩, fun D2 hD2 => lc_it (walk_list (xs := as)) (fun t H' => Same _ H' ∧ H' D2 = some (.lst (((rs.map (dotL g)).take t).map V.int))) ⟨(new_at hD2).1, upd_same⟩ (fun t H' _ z => SqL.of (z.1 _ _ hl9)) ?_ ?_⟩
          · rintro t y H' H'' ht ⟨sm, hD'⟩ ⟨rfl, ey⟩
            obtain ⟨ar, r, er, rfl, hr0, lr⟩ := (hrs9.keep sm).at ey
            refine ⟨rfl, ?_⟩
            refine ⟨_, rfl, _, rfl, sh, ar, g, r, rfl, sm _ _ hg9, hr0, by omega, by omega, wg, fun H' s' => ?_⟩
            have hlt := (List.getElem?_eq_some_iff.mp er).1
            refine ⟨_, s' _ _ hD', by rw [List.length_map, List.length_take, List.length_map]; exact Nat.lt_of_le_of_lt (Nat.le_trans (Nat.min_le_right _ _) m5) (by decide), fun y o z => ?_, ?_⟩
            · rw [upd_ne (ne_of_none z hD2)]
              exact s' _ _ (sm _ _ z)
            · rw [upd_same, take_snoc (n := dotL g r)]
              rw [List.getElem?_map, er]; rfl
          rintro H10 ⟨s10, hD10⟩
          rw [take_all (show (rs.map (dotL g)).length = as.length by rw [List.length_map]; exact hrs9.len.symm)] at hD10
          refine ⟨D2, _, rfl, hD10, ?_⟩
          have hg10 := s10 _ _ hg9
          have lat10 := lat9.keep s10
          obtain ⟨dx', pb, os, hx10, hpb, hos⟩ := id lat10
          have lgn : g.length = n := lg
          have eqd : gcdV g (grows [] rs) = gcdL (rs.map (dotL g)) := MO.gcd n rs n5 m5 good g lgn
          have small : gcdL (rs.map (dotL g)) < 2 ^ 100 := by
            have q1 := gcd_le (5 * (1000000000 * 44)) (rs.map (dotL g)) 0 fun y hy => by
              obtain ⟨r, hr', rfl⟩ := List.mem_map.mp hy
              have q2 := dotL_bound 1000000000 44 g r wgn (wrn r hr')
              have q3 : r.length ≤ 5 := by rw [(good r hr').1]; exact n5
              exact Nat.le_trans q2 (Nat.mul_le_mul_right _ q3)
            rw [List.length_map] at q1
            have q4 : rs.length * (5 * (1000000000 * 44)) ≤ 5 * (5 * (1000000000 * 44)) := Nat.mul_le_mul_right _ m5
            exact Nat.lt_of_le_of_lt (Nat.le_trans q1 (by omega)) (by decide : 5 * (5 * (1000000000 * 44)) < 2 ^ 100)
          -- repr(made.divisor(shape)) != repr(due)
          have nd : (lf ((n : Nat) : Int) pb).lookup ("divisor" : Str) = none := lf_none _ _ (by decide +kernel) (by decide +kernel)
          refine ⟨_, rfl, x, dx', _, rfl, hx10, nd, _, rfl, x, sh, g, grows [] rs, rfl, by rw [lgn]; exact lat10, hg10, by omega, fun r hr' y hy m' hm' => MO.mul n rs n5 m5 good r hr' y hy m' (wg m' hm').1 (wg m' hm').2, fun H11 s11 => ?_⟩
          rw [eqd]
          refine ⟨_, rfl, log_small small, _, rfl, _, rfl, log_small small, rfl, _, rfl, ?_⟩
          refine iteNS (c := V.str (Str.ofString (toString ((gcdL (rs.map (dotL g)) : Nat) : Int))) = V.str (Str.ofString (toString ((gcdL (rs.map (dotL g)) : Nat) : Int)))) rfl ?_
          have s911 := s10.trans s11
          have hl11 := s911 _ _ hl9
          have hrs11 := hrs9.keep s911
          have hg11 := s11 _ _ hg10
          have bu611 : But b H6 H11 := (bu7.trans bu79).trans (Same.but s911)
          have hb11 := hb9.keep s911
          -- if rows != []
          refine ⟨_, rfl, Nat.zero_le _, fun z hz => ?_⟩
          obtain ⟨s12, hz12⟩ := new_at (o := .lst []) hz
          refine ⟨.list (rs.map rowD), .list [], .lst (SqL.of (s12 _ _ hl11)) (rows_dp (hrs11.keep s12).1), .lst (SqL.of hz12) .nil, rows_shaped rs, by decide +kernel, _, rfl, ?_⟩
          by_cases hrs0 : rs = []
          · subst hrs0
            have e12 : (!PyData.eqv (.list (([] : List Vec).map rowD)) (.list [])) = false := by decide +kernel
            show if (!PyData.eqv (.list (([] : List Vec).map rowD)) (.list [])) = true then _ else _
            rw [e12]
            exact ⟨bu611.trans (Same.but s12), hb11.keep s12, _, _, _, _, _, _, _, _, _, rfl⟩
          · have e12 : (!PyData.eqv (.list (rs.map rowD)) (.list [])) = true := by
              cases hrc : rs with
              | nil => exact absurd hrc hrs0
              | cons r0 rr => simp [PyData.eqv, PyData.eqvAll]
            show if (!PyData.eqv (.list (rs.map rowD)) (.list [])) = true then _ else _
            rw [e12]
            have lpos : 0 < as.length := by
              rw [hrs9.len]
              exact List.length_pos_iff.mpr hrs0
            have hl12 := s12 _ _ hl11
            have hrs12 := hrs11.keep s12
            obtain ⟨w0, ew0⟩ : ∃ y0, as[0]? = some y0 := ⟨_, List.getElem?_eq_getElem (by omega)⟩
            obtain ⟨wl, ewl⟩ : ∃ yl, as[as.length - 1]? = some yl := ⟨_, List.getElem?_eq_getElem (by omega)⟩
            obtain ⟨a0, r0, f0, rfl, g0, l0⟩ := hrs12.at ew0
            obtain ⟨al, rl, fl, rfl, gl, ll⟩ := hrs12.at ewl
            have ecast : ((as.length : Nat) : Int) - 1 = ((as.length - 1 : Nat) : Int) := by omega
            have ln : min (r0.map V.int).length (rl.map V.int).length = n := by rw [List.length_map, List.length_map, l0, ll, Nat.min_self]
            have la : (List.zipWith (fun p q : Int => 3 * p - 5 * q) r0 rl).length = n := by rw [List.length_zipWith, l0, ll, Nat.min_self]
            refine ⟨_, rfl, l, _, _, _, rfl, rfl, SqL.of hl12, atI_nat (j := 0) ew0, _, rfl, _, rfl, _, _, rfl, .inl ⟨_, SqL.of hl12, rfl⟩, _, _, rfl, rfl, l, _, _, _, rfl, rfl, SqL.of hl12, (by rw [ecast]; exact atI_nat ewl), ?_⟩
            refine ⟨a0, al, _, _, rfl, .inr ⟨SqT.of g0, SqT.of gl, fun E hE => lc_it (walk_zipT (xs := r0.map V.int) (ys := rl.map V.int) ln.symm) (fun t H' => Same _ H' ∧ H' E = some (.lst (((List.zipWith (fun p q : Int => 3 * p - 5 * q) r0 rl).take t).map V.int))) ⟨(new_at hE).1, upd_same⟩ (fun t H' _ z => ⟨SqT.of (z.1 _ _ g0), SqT.of (z.1 _ _ gl)⟩) ?_ ?_⟩⟩
            · rintro t x' H' H'' ht ⟨sm', hE'⟩ ⟨p, y1, y2, rfl, hp, rfl, e1, e2⟩
              obtain ⟨p1, ep1, rfl⟩ := map_at e1
              obtain ⟨p2, ep2, rfl⟩ := map_at e2
              refine ⟨p, _, rfl, SqT.of upd_same, rfl, _, _, rfl, _, _, rfl, rfl, rfl, ?_⟩
              refine ⟨_, rfl, _, _, rfl, rfl, .inl ⟨by decide, by decide⟩, _, rfl, _, _, rfl, rfl, .inl ⟨by decide, by decide⟩, _, _, rfl, rfl, ?_⟩
              have nEq : E ≠ p := ne_of_none hE' hp
              refine ⟨_, (upd_ne nEq).trans hE', by rw [List.length_map, List.length_take]; exact Nat.lt_of_le_of_lt (Nat.le_trans (Nat.min_le_right _ _) (la ▸ n5)) (by decide), fun x' o z' => ?_, ?_⟩
              · rw [upd_ne (ne_of_none z' hE)]
                exact (new_at hp).1 _ _ (sm' _ _ z')
              · rw [upd_same, take_snoc (n := 3 * p1 - 5 * p2)]
                rw [List.getElem?_zipWith, ep1, ep2]
            rintro H13 ⟨s13, hE'⟩
            rw [take_all la] at hE'
            refine ⟨_, _, rfl, .inl ⟨SqL.of hE', fun bo hbo => ?_⟩⟩
            obtain ⟨s14, hbo14⟩ := new_at (o := .tup ((List.zipWith (fun p q : Int => 3 * p - 5 * q) r0 rl).map V.int)) hbo
            have s1114 := (s12.trans s13).trans s14
            refine ⟨_, rfl, _, rfl, sh, bo, g, _, rfl, s1114 _ _ hg11, hbo14, by omega, by omega, wg, fun H15 s15 => ?_⟩
            have s1115 := s1114.trans s15
            have ev : dotL g (List.zipWith (fun p q : Int => 3 * p - 5 * q) r0 rl) = 3 * dotL g r0 - 5 * dotL g rl := dotL_comb 3 5 g r0 rl (by omega) (by omega)
            have dv : ((gcdL (rs.map (dotL g)) : Nat) : Int) ∣ dotL g (List.zipWith (fun p q : Int => 3 * p - 5 * q) r0 rl) := by
              obtain ⟨_, q2⟩ := gcd_dvd (rs.map (dotL g)) 0
              have d1 := q2 (dotL g r0) (List.mem_map.mpr ⟨r0, List.mem_of_getElem? f0, rfl⟩)
              have d2 := q2 (dotL g rl) (List.mem_map.mpr ⟨rl, List.mem_of_getElem? fl, rfl⟩)
              rw [ev]
              exact Int.dvd_sub (Int.dvd_mul_of_dvd_right d1) (Int.dvd_mul_of_dvd_right d2)
            generalize dotL g (List.zipWith (fun p q : Int => 3 * p - 5 * q) r0 rl) = val at dv
            have fin : But b H6 H15 ∧ Box H15 b ∧ True := ⟨bu611.trans (Same.but s1115), hb11.keep s1115, trivial⟩
            generalize gcdL (rs.map (dotL g)) = G at dv
            have last : ∀ {A B : Prop}, B → if false = true then A else B := fun h => by rw [if_neg (by decide)]; exact h
            by_cases hG : G = 0
            · have hv : val = 0 := by rw [hG] at dv; exact Int.zero_dvd.mp dv
              refine ⟨_, rfl, rfl, _, rfl, iteSe (b := decide (V.int ((G : Nat) : Int) = V.int 0)) (decide_eq_true (by rw [hG]; rfl)) ?_⟩
              refine ⟨_, rfl, rfl, _, rfl, iteNS (c := V.int val = V.int 0) (by rw [hv]) ?_⟩
              refine ⟨_, rfl, rfl, _, rfl, iteNS (c := V.int ((G : Nat) : Int) = V.int 0) (by rw [hG]; rfl) ?_⟩
              exact ⟨fin.1, fin.2.1, _, _, _, _, _, _, _, _, _, rfl⟩
            · have hG' : V.int ((G : Nat) : Int) ≠ V.int 0 := fun z => hG (by have := V.int.inj z; omega)
              refine ⟨_, rfl, rfl, _, rfl, iteSf (b := decide (V.int ((G : Nat) : Int) = V.int 0)) (decide_eq_false hG') ?_⟩
              refine ⟨_, rfl, rfl, _, rfl, iteSe (b := !decide (V.int ((G : Nat) : Int) = V.int 0)) (by rw [decide_eq_false hG']; rfl) ?_⟩
              refine ⟨_, rfl, .inl ⟨val, rfl, _, rfl, _, _, rfl, rfl, (by omega : (0 : Int) < ((G : Nat) : Int)), rfl, _, rfl, iteNS (c := V.int (val % ((G : Nat) : Int)) = V.int 0) (by rw [Int.emod_eq_zero_of_dvd dv]) ?_⟩⟩
              exact ⟨fin.1, fin.2.1, _, _, _, _, _, _, _, _, _, rfl⟩
        · rintro σ H7 ⟨bu7, hb7, x7, x8, x9, x10, x11, x12, x13, x14, x15, rfl⟩
          have lat7 := lat6.but hb6 bu7
          obtain ⟨dx', pb, os, hx7, hpb, hos⟩ := id lat7
          have nd : (lf ((n : Nat) : Int) pb).lookup ("divisor" : Str) = none := lf_none _ _ (by decide +kernel) (by decide +kernel)
          refine ⟨_, rfl, x, dx', _, rfl, hx7, nd, (by decide : 1 ≤ sizeLine), fun z hz => ?_⟩
          obtain ⟨s8, hz8⟩ := new_at (o := .lst [V.int 0]) hz
          refine ⟨_, rfl, z, _, _, rfl, rfl, hz8, by omega, by omega, Nat.le_trans (show 1 * ((n : Nat) : Int).toNat ≤ 5 by omega) (by decide), fun z2 hz2 => ?_⟩
          obtain ⟨s9, hz9⟩ := new_at (o := .lst (List.replicate ((n : Nat) : Int).toNat [V.int 0]).flatten) hz2
          refine ⟨_, _, rfl, .inl ⟨SqL.of hz9, fun sh hsh => ?_⟩⟩
          obtain ⟨s10, hz10⟩ := new_at (o := .tup (List.replicate ((n : Nat) : Int).toNat [V.int 0]).flatten) hsh
          have eR : (List.replicate ((n : Nat) : Int).toNat [V.int 0]).flatten = (List.replicate n (0 : Int)).map V.int := by rw [rep_zero, Int.toNat_natCast]
          have s710 := (s8.trans s9).trans s10
          have lat10 := lat7.keep s710
          refine ⟨x, sh, List.replicate n 0, grows [] rs, rfl, by rw [List.length_replicate]; exact lat10, hz10.trans (congrArg (fun q => some (HO.tup q)) eR), by rw [List.length_replicate]; omega, fun r hr' y hy m' hm' => ?_, fun H11 s11 => ?_⟩
          · have := List.eq_of_mem_replicate hm'
            subst this
            exact MO.mul n rs n5 m5 good r hr' y hy 0 (by decide) (by decide)
          · refine ⟨rfl, _, rfl, iteNS (c := V.int ((gcdV (List.replicate n 0) (grows [] rs) : Nat) : Int) = V.int 0) (by rw [gcdV_zero]; rfl) ?_⟩
            have s711 := s710.trans s11
            have bu : But b H2 H11 := fun y o nb z => s711 _ _ (bu7 y o nb (s6 _ _ (bu5 y o nb (by
              rw [upd_ne nb, upd_ne nb]; exact bu3 y o nb z))))
            exact ⟨bu, hb7.keep s711, _, _, _, _, _, _, _, _, _, _, _, _, _, rfl⟩
      · rintro σ H3 ⟨bu3, hb3, x3, x4, x5, x6, x7, x8, x9, x10, x11, x12, x13, x14, x15, rfl⟩
        exact ⟨fun y o z => bu3 y o (ne_of_none (s1 _ _ z) hb0) (s2 _ _ (s1 _ _ z)), _, _, _, _, _, _, _, _, _, _, _, _, _, _, _, rfl⟩
    · rintro σ H1 ⟨s1, x1, x2, x3, x4, x5, x6, x7, x8, x9, x10, x11, x12, x13, x14, x15, rfl⟩
      refine fun x dx hx hdx ndx => ?_
      refine ⟨x, dx, t0, 2, [], [], rfl, upd_same, by decide, by decide, by decide, .inr ⟨hT0, rfl, qT0 _⟩, ⟨.nil, fun u hu => nomatch hu⟩, trivial, fun H2 kp lat => ⟨rfl, ?_⟩⟩
      obtain ⟨dx', pb, os, hx2, hpb, hos⟩ := id lat
      have nd : (lf ((2 : Nat) : Int) pb).lookup ("divisor" : Str) = none := lf_none _ _ (by decide +kernel) (by decide +kernel)
      refine ⟨x, dx', _, rfl, hx2, nd, (by decide : 2 ≤ sizeLine), fun g hg => ?_⟩
      obtain ⟨s3, hg3⟩ := new_at (o := .tup [V.int 3, V.int 4]) hg
      refine ⟨x, g, [3, 4], [], rfl, lat.keep s3, hg3, by decide, (fun r hr => nomatch hr), fun H4 s4 => ?_⟩
      refine ⟨rfl, ?_⟩
      have e : decide (V.int ((gcdV [3, 4] [] : Nat) : Int) = V.int 0) = true := decide_eq_true rfl
      show Q (.bl (decide (V.int ((gcdV [3, 4] [] : Nat) : Int) = V.int 0))) _
      rw [e]
      exact k _
end
end K06

namespace Lat
/-! ## sets of vectors closed under what the defs do -/
structure Cl (S : (Nat → Int) → Prop) : Prop where
  zero : S fun _ => 0
  add : ∀ f h t, S f → S h → S fun i => f i + t * h i
theorem Cl.of {S : (Nat → Int) → Prop} (C : Cl S) {f h g : Nat → Int} {t : Int} (a : S f) (b : S h) (e : ∀ i, g i = f i + t * h i) : S g := by
  rw [show g = _ from funext e]; exact C.add f h t a b
theorem Cl.scale {S : (Nat → Int) → Prop} (C : Cl S) {h : Nat → Int} (t : Int) (b : S h) : S fun i => t * h i :=
  C.of (t := t) C.zero b fun i => by rw [Int.zero_add]
theorem Cl.addV {S : (Nat → Int) → Prop} (C : Cl S) {v w : Vec} (t : Int) (l : v.length = w.length) (b : S (itm w)) : S (itm (addV v t w)) ↔ S (itm v) :=
  ⟨fun h => C.of (t := -t) h b fun i => by rw [itm_add l]; grind, fun h => C.of (t := t) h b fun i => itm_add l i⟩
theorem redV_len : ∀ (B : List Vec) (v : Vec), (∀ r ∈ B, r.length = v.length) → (redV B v).length = v.length
  | [], v, _ => rfl
  | r :: rs, v, h => by
    have e := addV_len (t := -((itm v (piv r)).fdiv (itm r (piv r)))) (h r List.mem_cons_self).symm
    have := redV_len rs (addV v (-((itm v (piv r)).fdiv (itm r (piv r)))) r) fun s hs => (h s (List.mem_cons_of_mem _ hs)).trans e.symm
    exact this.trans e
theorem redV_cl {S : (Nat → Int) → Prop} (C : Cl S) : ∀ (B : List Vec) (v : Vec), (∀ r ∈ B, r.length = v.length) → (∀ r ∈ B, S (itm r)) → (S (itm (redV B v)) ↔ S (itm v))
  | [], v, _, _ => Iff.rfl
  | r :: rs, v, h, hS => by
    have l := (h r List.mem_cons_self).symm
    have e := addV_len (t := -((itm v (piv r)).fdiv (itm r (piv r)))) l
    have := redV_cl C rs (addV v (-((itm v (piv r)).fdiv (itm r (piv r)))) r) (fun s hs => (h s (List.mem_cons_of_mem _ hs)).trans e.symm) fun s hs => hS s (List.mem_cons_of_mem _ hs)
    exact this.trans (C.addV _ l (hS r List.mem_cons_self))
theorem clr_cl {S : (Nat → Int) → Prop} (C : Cl S) : ∀ (n : Nat) (r v : Vec) (i : Nat), r.length = v.length → ((S (itm (clr n r v i).1) ∧ S (itm (clr n r v i).2)) ↔ (S (itm r) ∧ S (itm v)))
  | 0, r, v, i, _ => Iff.rfl
  | n + 1, r, v, i, l => by
    unfold clr
    split
    · exact Iff.rfl
    · have e := addV_len (t := -((itm r i).fdiv (itm v i))) l
      refine (clr_cl C n v (addV r (-((itm r i).fdiv (itm v i))) v) i (by rw [e, l])).trans ⟨fun h => ⟨(C.addV _ l h.1).mp h.2, h.1⟩, fun h => ⟨h.2, (C.addV _ l h.2).mpr h.1⟩⟩
theorem clear_len {r v : Vec} {i : Nat} (l : r.length = v.length) : (clear r v i).1.length = r.length ∧ (clear r v i).2.length = r.length := clr_len _ r v i l
theorem stepGo_len : ∀ (B : List Vec) (v : Vec) (n : Nat), v.length = n → (∀ r ∈ B, r.length = n) → (∀ r ∈ (stepGo B v).1, r.length = n) ∧ (stepGo B v).2.length = n
  | [], v, n, l, _ => ⟨fun r h => (nomatch h), l⟩
  | r :: rs, v, n, l, h => by
    have lr := h r List.mem_cons_self
    have h' : ∀ s ∈ rs, s.length = n := fun s hs => h s (List.mem_cons_of_mem _ hs)
    unfold stepGo
    split
    · obtain ⟨a, b⟩ := stepGo_len rs r n lr h'
      exact ⟨fun s hs => (List.mem_cons.mp hs).elim (fun e => e ▸ l) (a s), b⟩
    · obtain ⟨c1, c2⟩ := clear_len (i := piv r) (lr.trans l.symm)
      obtain ⟨a, b⟩ := stepGo_len rs (clear r v (piv r)).2 n (c2.trans lr) h'
      exact ⟨fun s hs => (List.mem_cons.mp hs).elim (fun e => e ▸ c1.trans lr) (a s), b⟩
theorem all_cons {S : Vec → Prop} {r : Vec} {rs : List Vec} : (∀ s ∈ r :: rs, S s) ↔ S r ∧ ∀ s ∈ rs, S s := List.forall_mem_cons
theorem stepGo_cl {S : (Nat → Int) → Prop} (C : Cl S) : ∀ (B : List Vec) (v : Vec), (∀ r ∈ B, r.length = v.length) → (((∀ r ∈ (stepGo B v).1, S (itm r)) ∧ S (itm (stepGo B v).2)) ↔ ((∀ r ∈ B, S (itm r)) ∧ S (itm v)))
  | [], v, _ => Iff.rfl
  | r :: rs, v, h => by
    have lr := h r List.mem_cons_self
    have h' : ∀ s ∈ rs, s.length = v.length := fun s hs => h s (List.mem_cons_of_mem _ hs)
    unfold stepGo
    split
    · have ih := stepGo_cl C rs r (fun s hs => (h' s hs).trans lr.symm)
      simp only [all_cons]
      grind
    · obtain ⟨c1, c2⟩ := clear_len (i := piv r) lr
      have ih := stepGo_cl C rs (clear r v (piv r)).2 (fun s hs => by rw [c2, lr]; exact h' s hs)
      have cc : (S (itm (clear r v (piv r)).1) ∧ S (itm (clear r v (piv r)).2)) ↔ _ := clr_cl C _ r v (piv r) lr
      simp only [all_cons]
      grind
theorem itm_zero {v : Vec} (h : piv v = v.length) (i : Nat) : itm v i = 0 := by
  by_cases hi : i < v.length
  · exact (piv_spec v).1 i (h ▸ hi)
  · unfold itm
    rw [List.getD_eq_getElem?_getD, List.getElem?_eq_none (by omega)]; rfl
theorem Cl.itm_zero {S : (Nat → Int) → Prop} (C : Cl S) {v : Vec} (h : piv v = v.length) : S (itm v) := by
  rw [show itm v = _ from funext (Lat.itm_zero h)]; exact C.zero
theorem stepped_len {B : List Vec} {v : Vec} {n : Nat} (l : v.length = n) (h : ∀ r ∈ B, r.length = n) : ∀ r ∈ stepped B v, r.length = n := by
  obtain ⟨a, b⟩ := stepGo_len B v n l h
  unfold stepped
  split
  · exact a
  · intro r hr
    rcases List.mem_append.mp hr with hr | hr
    · exact a r hr
    · rw [List.mem_singleton.mp hr]; exact b
theorem stepped_cl {S : (Nat → Int) → Prop} (C : Cl S) {B : List Vec} {v : Vec} (h : ∀ r ∈ B, r.length = v.length) : (∀ r ∈ stepped B v, S (itm r)) ↔ ((∀ r ∈ B, S (itm r)) ∧ S (itm v)) := by
  refine Iff.trans ?_ (stepGo_cl C B v h)
  unfold stepped
  split
  · next e => exact ⟨fun q => ⟨q, C.itm_zero e⟩, fun q => q.1⟩
  · rw [List.forall_mem_append]
    exact ⟨fun q => ⟨q.1, q.2 _ (List.mem_singleton.mpr rfl)⟩, fun q => ⟨q.1, fun r hr => by rw [List.mem_singleton.mp hr]; exact q.2⟩⟩
theorem posV_length (r : Vec) : (posV r).length = r.length := by
  unfold posV
  split
  · rfl
  · exact addV_len rfl
theorem posV_itm (r : Vec) : (∀ i, itm (posV r) i = itm r i) ∨ ∀ i, itm (posV r) i = - itm r i := by
  unfold posV
  split
  · exact .inl fun i => rfl
  · exact .inr fun i => by rw [itm_add rfl]; omega
theorem posV_cl {S : (Nat → Int) → Prop} (C : Cl S) (r : Vec) : S (itm (posV r)) ↔ S (itm r) := by
  rcases posV_itm r with h | h
  · rw [show itm (posV r) = itm r from funext h]
  · exact ⟨fun q => C.of (t := -1) C.zero q fun i => by rw [h]; omega, fun q => C.of (t := -1) C.zero q fun i => by rw [h]; omega⟩
theorem tidy_len : ∀ (B : List Vec) (n : Nat), (∀ r ∈ B, r.length = n) → ∀ r ∈ tidy B, r.length = n
  | [], n, _ => fun r h => nomatch h
  | r :: rs, n, h => by
    have ih := tidy_len rs n fun s hs => h s (List.mem_cons_of_mem _ hs)
    have lr : (posV r).length = n := (posV_length r).trans (h r List.mem_cons_self)
    unfold tidy
    exact fun s hs => (List.mem_cons.mp hs).elim (fun e => e ▸ (redV_len _ _ fun s hs => (ih s hs).trans lr.symm).trans lr) (ih s)
theorem tidy_cl {S : (Nat → Int) → Prop} (C : Cl S) : ∀ (B : List Vec) (n : Nat), (∀ r ∈ B, r.length = n) → ((∀ r ∈ tidy B, S (itm r)) ↔ ∀ r ∈ B, S (itm r))
  | [], n, _ => Iff.rfl
  | r :: rs, n, h => by
    have h' : ∀ s ∈ rs, s.length = n := fun s hs => h s (List.mem_cons_of_mem _ hs)
    have ih := tidy_cl C rs n h'
    have lr : (posV r).length = n := (posV_length r).trans (h r List.mem_cons_self)
    have lt := tidy_len rs n h'
    unfold tidy
    simp only [all_cons]
    have rc : (∀ s ∈ tidy rs, S (itm s)) → (S (itm (redV (tidy rs) (posV r))) ↔ S (itm (posV r))) := redV_cl C _ _ fun s hs => (lt s hs).trans lr.symm
    have pc := posV_cl C r
    grind
theorem grow_len {B : List Vec} {v : Vec} {n : Nat} (l : v.length = n) (h : ∀ r ∈ B, r.length = n) : ∀ r ∈ grow B v, r.length = n := by
  unfold grow
  split
  · exact h
  · exact tidy_len _ n (stepped_len ((redV_len B v fun r hr => (h r hr).trans l.symm).trans l) h)
theorem grow_cl {S : (Nat → Int) → Prop} (C : Cl S) {B : List Vec} {v : Vec} (h : ∀ r ∈ B, r.length = v.length) : (∀ r ∈ grow B v, S (itm r)) ↔ ((∀ r ∈ B, S (itm r)) ∧ S (itm v)) := by
  have lr := redV_len B v h
  have rc := redV_cl C B v h
  unfold grow
  split
  · next e => exact ⟨fun q => ⟨q, (rc q).mp (C.itm_zero e)⟩, fun q => q.1⟩
  · have hl : ∀ r ∈ B, r.length = (redV B v).length := fun r hr => (h r hr).trans lr.symm
    rw [tidy_cl C _ v.length (stepped_len lr h), stepped_cl C hl]
    exact ⟨fun q => ⟨q.1, (rc q.1).mp q.2⟩, fun q => ⟨q.1, (rc q.1).mpr q.2⟩⟩
end Lat

namespace Lat
/-! ## whole combinations of echelon rows -/
def In : List Vec → (Nat → Int) → Prop
  | [], f => ∀ i, f i = 0
  | r :: rs, f => ∃ a : Int, In rs fun i => f i - a * itm r i
theorem In.cl : ∀ B : List Vec, Cl (In B)
  | [] => ⟨fun i => rfl, fun f h t a b i => by
      have x : f i = 0 := a i
      have y : h i = 0 := b i
      show f i + t * h i = 0
      rw [x, y]; omega⟩
  | r :: rs => ⟨⟨0, (In.cl rs).of (t := 0) (In.cl rs).zero (In.cl rs).zero fun i => by show (0 : Int) - 0 * itm r i = 0 + 0 * 0; omega⟩, fun f h t a b => by
      obtain ⟨x, hx⟩ := a
      obtain ⟨y, hy⟩ := b
      exact ⟨x + t * y, (In.cl rs).of (t := t) hx hy fun i => by grind⟩⟩
theorem In.mem : ∀ (B : List Vec) (r : Vec), r ∈ B → In B (itm r)
  | s :: rs, r, h => by
    rcases List.mem_cons.mp h with e | h
    · subst e
      exact ⟨1, (In.cl rs).of (t := 0) (In.cl rs).zero (In.cl rs).zero fun i => by omega⟩
    · exact ⟨0, (In.cl rs).of (t := 0) (In.mem rs r h) (In.cl rs).zero fun i => by omega⟩
def Ech (n : Nat) : Nat → List Vec → Prop
  | _, [] => True
  | c, r :: rs => r.length = n ∧ c ≤ piv r ∧ piv r < n ∧ Ech n (piv r + 1) rs
theorem Ech.mono {n c d : Nat} (h : d ≤ c) : ∀ {B : List Vec}, Ech n c B → Ech n d B
  | [], _ => trivial
  | _ :: _, e => ⟨e.1, Nat.le_trans h e.2.1, e.2.2⟩
theorem Ech.row {n : Nat} : ∀ {c : Nat} {B : List Vec}, Ech n c B → ∀ r ∈ B, r.length = n ∧ c ≤ piv r ∧ piv r < n
  | _, [], _ => fun r h => nomatch h
  | c, s :: rs, e => fun r h => by
    rcases List.mem_cons.mp h with z | h
    · subst z; exact ⟨e.1, e.2.1, e.2.2.1⟩
    · obtain ⟨a, b, d⟩ := Ech.row e.2.2.2 r h
      exact ⟨a, by have := e.2.1; omega, d⟩
theorem Ech.ne {n c : Nat} {B : List Vec} (e : Ech n c B) {r : Vec} (h : r ∈ B) : itm r (piv r) ≠ 0 := by
  obtain ⟨a, _, b⟩ := e.row r h
  exact (piv_spec r).2 (a ▸ b)
theorem Ech.zero {n c : Nat} {B : List Vec} (e : Ech n c B) {r : Vec} (h : r ∈ B) {i : Nat} (hi : i < c) : itm r i = 0 :=
  (piv_spec r).1 i (Nat.lt_of_lt_of_le hi (e.row r h).2.1)
theorem Ech.inj {n : Nat} : ∀ {c : Nat} {B : List Vec}, Ech n c B → ∀ r ∈ B, ∀ s ∈ B, piv r = piv s → r = s
  | _, [], _ => fun r h => nomatch h
  | c, t :: rs, e => fun r hr s hs h => by
    rcases List.mem_cons.mp hr with z | hr
    · rcases List.mem_cons.mp hs with y | hs
      · exact z.trans y.symm
      · have := (e.2.2.2.row s hs).2.1
        rw [z] at h; omega
    · rcases List.mem_cons.mp hs with y | hs
      · have := (e.2.2.2.row r hr).2.1
        rw [y] at h; omega
      · exact Ech.inj e.2.2.2 r hr s hs h
theorem Ech.count {n : Nat} : ∀ {c : Nat} {B : List Vec}, Ech n c B → c ≤ n → c + B.length ≤ n
  | _, [], _, h => h
  | c, r :: rs, e, h => by
    have := Ech.count e.2.2.2 e.2.2.1
    have := e.2.1
    rw [List.length_cons]; omega
theorem In.low {n : Nat} : ∀ {c : Nat} {B : List Vec} {f : Nat → Int}, Ech n c B → In B f → ∀ i, i < c → f i = 0
  | _, [], _, _, h => fun i _ => h i
  | c, r :: rs, f, e, ⟨a, h⟩ => fun i hi => by
    have h1 := In.low e.2.2.2 h i (by have := e.2.1; omega)
    have h2 : itm r i = 0 := (piv_spec r).1 i (Nat.lt_of_lt_of_le hi e.2.1)
    have h3 : f i - a * itm r i = 0 := h1
    rw [h2] at h3; omega
theorem lead {n : Nat} : ∀ {c : Nat} {B : List Vec} {f : Nat → Int}, Ech n c B → In B f → (∀ i, f i = 0) ∨ ∃ s ∈ B, ∃ a : Int, a ≠ 0 ∧ (∀ i, i < piv s → f i = 0) ∧ f (piv s) = a * itm s (piv s)
  | _, [], _, _, h => .inl h
  | c, r :: rs, f, e, ⟨a, h⟩ => by
    by_cases ha : a = 0
    · subst ha
      have h' : In rs f := (In.cl rs).of (t := 0) h (In.cl rs).zero fun i => by omega
      rcases lead e.2.2.2 h' with z | ⟨s, hs, b, hb⟩
      · exact .inl z
      · exact .inr ⟨s, List.mem_cons_of_mem _ hs, b, hb⟩
    · refine .inr ⟨r, List.mem_cons_self, a, ha, fun i hi => ?_, ?_⟩
      · have h3 : f i - a * itm r i = 0 := In.low e.2.2.2 h i (by omega)
        rw [(piv_spec r).1 i hi] at h3; omega
      · have h3 : f (piv r) - a * itm r (piv r) = 0 := In.low e.2.2.2 h (piv r) (by omega)
        omega
/-! ## multiples of them -/
def RIn (G : List Vec) (f : Nat → Int) : Prop := ∃ D : Int, D ≠ 0 ∧ In G fun i => D * f i
theorem RIn.cl (G : List Vec) : Cl (RIn G) :=
  ⟨⟨1, by decide, (In.cl G).of (t := 0) (In.cl G).zero (In.cl G).zero fun i => by show (1 : Int) * 0 = 0 + 0 * 0; omega⟩, fun f h t ⟨D, hD, a⟩ ⟨E, hE, b⟩ =>
    ⟨D * E, Int.mul_ne_zero hD hE, (In.cl G).of (t := t * D) ((In.cl G).scale E a) b fun i => by grind⟩⟩
theorem RIn.of {G : List Vec} {f : Nat → Int} (h : In G f) : RIn G f := ⟨1, by decide, (In.cl G).of (t := 0) h (In.cl G).zero fun i => by omega⟩
/-- the pivots of two echelon families of one lattice -/
theorem piv_bound {n : Nat} {B G : List Vec} (eB : Ech n 0 B) (eG : Ech n 0 G) (hG : ∀ g ∈ G, In B (itm g)) (hB : ∀ s ∈ B, RIn G (itm s)) : ∀ s ∈ B, ∃ g ∈ G, piv g = piv s ∧ (itm s (piv s)).natAbs ≤ (itm g (piv g)).natAbs := by
  intro s hs
  obtain ⟨D, hD, h⟩ := hB s hs
  have sn := eB.ne hs
  rcases lead eG h with z | ⟨g, hg, a, ha, z, y⟩
  · exact absurd (z (piv s)) (Int.mul_ne_zero hD sn)
  · have gn := eG.ne hg
    have e : piv g = piv s := by
      rcases Nat.lt_trichotomy (piv g) (piv s) with l | l | l
      · have : itm s (piv g) = 0 := (piv_spec s).1 _ l
        rw [this, Int.mul_zero] at y
        exact absurd y.symm (Int.mul_ne_zero ha gn)
      · exact l
      · exact absurd (z _ l) (Int.mul_ne_zero hD sn)
    refine ⟨g, hg, e, ?_⟩
    rcases lead eB (hG g hg) with z' | ⟨s', hs', b, hb, z', y'⟩
    · exact absurd (z' _) gn
    · have sn' := eB.ne hs'
      have e' : piv s' = piv g := by
        rcases Nat.lt_trichotomy (piv s') (piv g) with l | l | l
        · rw [(piv_spec g).1 _ l] at y'
          exact absurd y'.symm (Int.mul_ne_zero hb sn')
        · exact l
        · exact absurd (z' _ l) gn
      have es := eB.inj s' hs' s hs (e'.trans e)
      subst es
      rw [e, y', Int.natAbs_mul]
      exact Nat.le_mul_of_pos_left _ (Int.natAbs_pos.mpr hb)
/-- what is small at the pivots is small -/
theorem all_bound {n b : Nat} (b1 : 1 ≤ b) : ∀ {c : Nat} {G : List Vec} {f : Nat → Int} {A : Nat}, Ech n c G → (∀ g ∈ G, ∀ i, (itm g i).natAbs ≤ b) → RIn G f → (∀ g ∈ G, (f (piv g)).natAbs ≤ A) → ∀ i, (f i).natAbs ≤ A * (4 * b) ^ G.length
  | _, [], f, A, _, _, ⟨D, hD, h⟩, _ => fun i => by
    have h3 : D * f i = 0 := h i
    rcases Int.mul_eq_zero.mp h3 with z | z
    · exact absurd z hD
    · rw [z]; exact Nat.zero_le _
  | c, g :: gs, f, A, e, hb, ⟨D, hD, a, h⟩, hA => fun i => by
    have gn : itm g (piv g) ≠ 0 := e.ne List.mem_cons_self
    have h0 : D * f (piv g) - a * itm g (piv g) = 0 := In.low e.2.2.2 h (piv g) (by omega)
    have hp := hA g List.mem_cons_self
    have hr : RIn gs fun i => itm g (piv g) * f i - f (piv g) * itm g i := ⟨D, hD, (In.cl gs).of (t := itm g (piv g)) (In.cl gs).zero h fun i => by grind⟩
    have ih := all_bound (A := 2 * b * A) b1 e.2.2.2 (fun s hs => hb s (List.mem_cons_of_mem _ hs)) hr (fun s hs => ?_) i
    · have hg := hb g List.mem_cons_self i
      have e1 : itm g (piv g) * f i = (itm g (piv g) * f i - f (piv g) * itm g i) + f (piv g) * itm g i := by omega
      have e2 : (f i).natAbs ≤ (itm g (piv g) * f i).natAbs := by
        rw [Int.natAbs_mul]; exact Nat.le_mul_of_pos_left _ (Int.natAbs_pos.mpr gn)
      have e3 := Int.natAbs_add_le (itm g (piv g) * f i - f (piv g) * itm g i) (f (piv g) * itm g i)
      rw [← e1] at e3
      have e4 : (f (piv g) * itm g i).natAbs ≤ A * b := by rw [Int.natAbs_mul]; exact Nat.mul_le_mul hp hg
      have e5 : 1 ≤ (4 * b) ^ gs.length := Nat.one_le_pow _ _ (by omega)
      have e6 : A * b ≤ A * b * (4 * b) ^ gs.length := Nat.le_mul_of_pos_right _ e5
      rw [List.length_cons, Nat.pow_succ]
      have e7 : 2 * b * A * (4 * b) ^ gs.length = 2 * (A * b * (4 * b) ^ gs.length) := by grind
      have e8 : A * ((4 * b) ^ gs.length * (4 * b)) = 4 * (A * b * (4 * b) ^ gs.length) := by grind
      rw [e7] at ih
      rw [e8]
      omega
    · have h1 := hA s (List.mem_cons_of_mem _ hs)
      have h2 := hb g List.mem_cons_self (piv g)
      have h3 := hb g List.mem_cons_self (piv s)
      have h4 : (itm g (piv g) * f (piv s)).natAbs ≤ b * A := by rw [Int.natAbs_mul]; exact Nat.mul_le_mul h2 h1
      have h5 : (f (piv g) * itm g (piv s)).natAbs ≤ A * b := by rw [Int.natAbs_mul]; exact Nat.mul_le_mul hp h3
      have h6 : 2 * b * A = b * A + A * b := by grind
      rw [h6]
      show (itm g (piv g) * f (piv s) - f (piv g) * itm g (piv s)).natAbs ≤ _
      omega
/-! ## ghosts: echelon vectors of the lattice, made with no division -/
def crossV (g v : Vec) : Vec := List.zipWith (fun x y => itm g (piv g) * x - itm v (piv g) * y) v g
theorem crossV_len {g v : Vec} (h : v.length = g.length) : (crossV g v).length = v.length := by
  unfold crossV; rw [List.length_zipWith, h, Nat.min_self]
theorem crossV_itm {g v : Vec} (h : v.length = g.length) (i : Nat) : itm (crossV g v) i = itm g (piv g) * itm v i - itm v (piv g) * itm g i := by
  have key : ∀ a b : Int, itm (List.zipWith (fun x y => a * x - b * y) v g) i = a * itm v i - b * itm g i := by
    intro a b
    unfold itm
    by_cases hi : i < v.length
    · have hw : i < g.length := by omega
      rw [List.getD_eq_getElem?_getD, List.getD_eq_getElem?_getD, List.getD_eq_getElem?_getD, List.getElem?_zipWith, List.getElem?_eq_getElem hi, List.getElem?_eq_getElem hw]
      rfl
    · have hw : g.length ≤ i := by omega
      rw [List.getD_eq_getElem?_getD, List.getD_eq_getElem?_getD, List.getD_eq_getElem?_getD, List.getElem?_zipWith, List.getElem?_eq_none (by omega : v.length ≤ i), List.getElem?_eq_none hw]
      simp
  exact key _ _
def insG : List Vec → Vec → List Vec
  | [], v => if piv v = v.length then [] else [v]
  | g :: gs, v => if piv v < piv g then v :: g :: gs else g :: insG gs (crossV g v)
theorem piv_ge {v : Vec} {c : Nat} (h : ∀ i, i < c → itm v i = 0) (hc : c ≤ v.length) : c ≤ piv v := by
  apply Nat.le_of_not_lt
  intro l
  exact (piv_spec v).2 (by omega) (h _ l)
theorem cross_zero {n : Nat} {g v : Vec} (hg : piv g < n) (lg : g.length = n) (lv : v.length = n) (h : ¬ piv v < piv g) : ∀ i, i < piv g + 1 → itm (crossV g v) i = 0 := by
  intro i hi
  rw [crossV_itm (lv.trans lg.symm)]
  by_cases e : i = piv g
  · subst e; grind
  · rw [(piv_spec v).1 i (by omega), (piv_spec g).1 i (by omega)]; omega
theorem insG_ech {n : Nat} : ∀ {c : Nat} {G : List Vec} {v : Vec}, Ech n c G → v.length = n → c ≤ n → (∀ i, i < c → itm v i = 0) → Ech n c (insG G v)
  | c, [], v, _, l, hc, z => by
    unfold insG
    split
    · trivial
    · exact ⟨l, piv_ge z (l ▸ hc), by have := piv_le v; omega, trivial⟩
  | c, g :: gs, v, e, l, hc, z => by
    unfold insG
    split
    · next h => exact ⟨l, piv_ge z (l ▸ hc), by have := e.2.2.1; omega, e.1, by omega, e.2.2⟩
    · next h =>
      have lc := crossV_len (l.trans e.1.symm)
      exact ⟨e.1, e.2.1, e.2.2.1, insG_ech e.2.2.2 (lc.trans l) (by have := e.2.2.1; omega) (cross_zero e.2.2.1 e.1 l h)⟩
theorem insG_cl {S : (Nat → Int) → Prop} (C : Cl S) {n : Nat} : ∀ {c : Nat} {G : List Vec} {v : Vec}, Ech n c G → v.length = n → (∀ g ∈ G, S (itm g)) → S (itm v) → ∀ g ∈ insG G v, S (itm g)
  | c, [], v, _, l, _, hv => by
    unfold insG
    split
    · exact fun g h => nomatch h
    · exact fun g h => by rw [List.mem_singleton.mp h]; exact hv
  | c, g :: gs, v, e, l, h, hv => by
    obtain ⟨h1, h2⟩ := List.forall_mem_cons.mp h
    unfold insG
    split
    · exact List.forall_mem_cons.mpr ⟨hv, h⟩
    · have lc := crossV_len (l.trans e.1.symm)
      refine List.forall_mem_cons.mpr ⟨h1, insG_cl C e.2.2.2 (lc.trans l) h2 ?_⟩
      exact C.of (t := - itm v (piv g)) (C.scale (itm g (piv g)) hv) h1 fun i => by rw [crossV_itm (l.trans e.1.symm)]; grind
theorem insG_old : ∀ {G : List Vec} {v : Vec}, ∀ g ∈ G, In (insG G v) (itm g)
  | g :: gs, v, s, hs => by
    unfold insG
    split
    · exact In.mem _ _ (List.mem_cons_of_mem _ hs)
    · rcases List.mem_cons.mp hs with e | hs
      · subst e; exact In.mem _ _ List.mem_cons_self
      · exact ⟨0, (In.cl _).of (t := 0) (insG_old s hs) (In.cl _).zero fun i => by omega⟩
theorem insG_new {n : Nat} : ∀ {c : Nat} {G : List Vec} {v : Vec}, Ech n c G → v.length = n → RIn (insG G v) (itm v)
  | c, [], v, _, l => by
    unfold insG
    split
    · next h => exact (RIn.cl []).itm_zero h
    · exact RIn.of (In.mem _ _ List.mem_cons_self)
  | c, g :: gs, v, e, l => by
    unfold insG
    split
    · exact RIn.of (In.mem _ _ List.mem_cons_self)
    · have lc := crossV_len (l.trans e.1.symm)
      obtain ⟨D, hD, h⟩ := insG_new (c := piv g + 1) (v := crossV g v) e.2.2.2 (lc.trans l)
      refine ⟨D * itm g (piv g), Int.mul_ne_zero hD (e.ne List.mem_cons_self), D * itm v (piv g), (In.cl _).of (t := 0) h (In.cl _).zero fun i => ?_⟩
      rw [crossV_itm (l.trans e.1.symm)]
      grind
theorem insG_count : ∀ {G : List Vec} {v : Vec}, (insG G v).length ≤ G.length + 1
  | [], v => by
    unfold insG
    split
    · exact Nat.zero_le _
    · exact Nat.le_refl 1
  | g :: gs, v => by
    unfold insG
    split
    · exact Nat.le_refl _
    · exact Nat.succ_le_succ insG_count
theorem insG_size {n b : Nat} (b1 : 1 ≤ b) : ∀ {c : Nat} {G : List Vec} {v : Vec} {x X : Nat}, Ech n c G → v.length = n → (∀ g ∈ G, ∀ i, (itm g i).natAbs ≤ b) → (∀ i, (itm v i).natAbs ≤ x) → b ≤ X → x * (2 * b) ^ G.length ≤ X → ∀ g ∈ insG G v, ∀ i, (itm g i).natAbs ≤ X
  | c, [], v, x, X, _, l, _, hv, _, h => by
    unfold insG
    split
    · exact fun g h => nomatch h
    · exact fun g hg i => by
        rw [List.mem_singleton.mp hg]
        have := hv i
        rw [List.length_nil, Nat.pow_zero] at h; omega
  | c, g :: gs, v, x, X, e, l, hG, hv, hb, h => by
    obtain ⟨h1, h2⟩ := List.forall_mem_cons.mp hG
    have e5 : 1 ≤ (2 * b) ^ (g :: gs).length := Nat.one_le_pow _ _ (by omega)
    have e6 : x ≤ x * (2 * b) ^ (g :: gs).length := Nat.le_mul_of_pos_right _ e5
    unfold insG
    split
    · exact List.forall_mem_cons.mpr ⟨fun i => Nat.le_trans (hv i) (Nat.le_trans e6 h), fun s hs i => Nat.le_trans (hG s hs i) hb⟩
    · have lc := crossV_len (l.trans e.1.symm)
      refine List.forall_mem_cons.mpr ⟨fun i => Nat.le_trans (h1 i) hb, insG_size b1 (x := x * (2 * b)) e.2.2.2 (lc.trans l) h2 (fun i => ?_) hb ?_⟩
      · rw [crossV_itm (l.trans e.1.symm)]
        have q1 : (itm g (piv g) * itm v i).natAbs ≤ b * x := by rw [Int.natAbs_mul]; exact Nat.mul_le_mul (h1 _) (hv i)
        have q2 : (itm v (piv g) * itm g i).natAbs ≤ x * b := by rw [Int.natAbs_mul]; exact Nat.mul_le_mul (hv _) (h1 i)
        have q3 : x * (2 * b) = b * x + x * b := by grind
        rw [q3]; omega
      · rw [List.length_cons, Nat.pow_succ] at h
        have q4 : x * (2 * b) * (2 * b) ^ gs.length = x * ((2 * b) ^ gs.length * (2 * b)) := by grind
        rw [q4]; exact h
end Lat

namespace Lat
/-! ## the defs keep the form -/
theorem fdiv_rem (a b : Int) (hb : 0 < b) : 0 ≤ a - a.fdiv b * b ∧ a - a.fdiv b * b < b := by
  have h1 := Int.fmod_nonneg_of_pos a hb
  have h2 := Int.fmod_lt_of_pos a hb
  have h3 := Int.fmod_def a b
  rw [Int.mul_comm] at h3
  omega
theorem fdiv_rem_neg (a b : Int) (hb : b < 0) : b < a - a.fdiv b * b ∧ a - a.fdiv b * b ≤ 0 := by
  have h := fdiv_rem (-a) (-b) (by omega)
  rw [Int.neg_fdiv_neg] at h
  have e : a.fdiv b * -b = -(a.fdiv b * b) := Int.mul_neg _ _
  omega
theorem fdiv_small (a b : Int) (hb : b ≠ 0) : (a + -(a.fdiv b) * b).natAbs < b.natAbs := by
  have e : a + -(a.fdiv b) * b = a - a.fdiv b * b := by grind
  rw [e]
  rcases Int.lt_or_gt_of_ne hb with h | h
  · have := fdiv_rem_neg a b h; omega
  · have := fdiv_rem a b h; omega
theorem itm_out {v : Vec} {i : Nat} (h : v.length ≤ i) : itm v i = 0 := by
  unfold itm
  rw [List.getD_eq_getElem?_getD, List.getElem?_eq_none h]; rfl
theorem piv_eq {v : Vec} {c : Nat} (z : ∀ i, i < c → itm v i = 0) (h : itm v c ≠ 0) : piv v = c := by
  have hc : c < v.length := by
    apply Nat.lt_of_not_le
    intro l; exact h (itm_out l)
  have h1 := piv_ge z (Nat.le_of_lt hc)
  rcases Nat.lt_or_ge c (piv v) with l | l
  · exact absurd ((piv_spec v).1 c l) h
  · omega
theorem redV_low {n : Nat} : ∀ {c : Nat} {B : List Vec} {v : Vec}, Ech n c B → v.length = n → ∀ i, i < c → itm (redV B v) i = itm v i
  | _, [], v, _, _ => fun i _ => rfl
  | c, r :: rs, v, e, l => fun i hi => by
    have lr : v.length = r.length := l.trans e.1.symm
    have ih := redV_low (v := addV v (-((itm v (piv r)).fdiv (itm r (piv r)))) r) e.2.2.2 ((addV_len lr).trans l) i (by have := e.2.1; omega)
    refine Eq.trans ih ?_
    rw [itm_add lr, (piv_spec r).1 i (Nat.lt_of_lt_of_le hi e.2.1)]; omega
theorem redV_small {n : Nat} : ∀ {c : Nat} {B : List Vec} {v : Vec}, Ech n c B → v.length = n → ∀ s ∈ B, (itm (redV B v) (piv s)).natAbs < (itm s (piv s)).natAbs
  | _, [], v, _, _ => fun s h => nomatch h
  | c, r :: rs, v, e, l => fun s hs => by
    have lr : v.length = r.length := l.trans e.1.symm
    have l' : (addV v (-((itm v (piv r)).fdiv (itm r (piv r)))) r).length = n := (addV_len lr).trans l
    rcases List.mem_cons.mp hs with z | hs
    · subst z
      have h1 := redV_low e.2.2.2 l' (piv s) (by omega)
      show (itm (redV rs (addV v (-((itm v (piv s)).fdiv (itm s (piv s)))) s)) (piv s)).natAbs < _
      rw [h1, itm_add lr]
      exact fdiv_small _ _ (e.ne List.mem_cons_self)
    · exact redV_small e.2.2.2 l' s hs
theorem posV_piv (r : Vec) (h : piv r < r.length) : piv (posV r) = piv r := by
  rcases posV_itm r with q | q
  · exact piv_eq (fun i hi => by rw [q]; exact (piv_spec r).1 i hi) (by rw [q]; exact (piv_spec r).2 h)
  · exact piv_eq (fun i hi => by rw [q, (piv_spec r).1 i hi]; rfl) (by rw [q]; have := (piv_spec r).2 h; omega)
theorem posV_abs (r : Vec) (i : Nat) : (itm (posV r) i).natAbs = (itm r i).natAbs := by
  rcases posV_itm r with q | q
  · rw [q]
  · rw [q, Int.natAbs_neg]
theorem clr_facts {n : Nat} : ∀ (m : Nat) (r v : Vec) (i : Nat), r.length = n → v.length = n → (itm v i).natAbs ≤ m → itm r i ≠ 0 → itm (clr m r v i).2 i = 0 ∧ itm (clr m r v i).1 i ≠ 0 ∧ ∀ j, itm r j = 0 → itm v j = 0 → itm (clr m r v i).1 j = 0 ∧ itm (clr m r v i).2 j = 0
  | 0, r, v, i, lr, lv, h, h0 => ⟨by show itm v i = 0; omega, h0, fun j a b => ⟨a, b⟩⟩
  | m + 1, r, v, i, lr, lv, h, h0 => by
    unfold clr
    split
    · next z => exact ⟨z, h0, fun j a b => ⟨a, b⟩⟩
    · next z =>
      have l := lr.trans lv.symm
      have e := itm_add (t := -((itm r i).fdiv (itm v i))) l i
      have sm := fdiv_small (itm r i) (itm v i) z
      rw [← e] at sm
      obtain ⟨a, b, c⟩ := clr_facts m v (addV r (-((itm r i).fdiv (itm v i))) v) i lv ((addV_len l).trans lr) (by omega) z
      exact ⟨a, b, fun j x y => c j y (by rw [itm_add l, x, y]; omega)⟩
theorem clear_facts {n : Nat} {r v : Vec} {i : Nat} (lr : r.length = n) (lv : v.length = n) (h : itm r i ≠ 0) : itm (clear r v i).2 i = 0 ∧ itm (clear r v i).1 i ≠ 0 ∧ ∀ j, itm r j = 0 → itm v j = 0 → itm (clear r v i).1 j = 0 ∧ itm (clear r v i).2 j = 0 :=
  clr_facts _ r v i lr lv (Nat.le_refl _) h
theorem stepped_nil (v : Vec) : stepped [] v = if piv v = v.length then [] else [v] := rfl
theorem stepped_cons (r : Vec) (rs : List Vec) (v : Vec) : stepped (r :: rs) v = if piv v < piv r then v :: stepped rs r else (clear r v (piv r)).1 :: stepped rs (clear r v (piv r)).2 := by
  unfold stepped
  rw [stepGo]
  split
  · by_cases h : piv (stepGo rs r).2 = (stepGo rs r).2.length
    · rw [if_pos h, if_pos h]
    · rw [if_neg h, if_neg h]; rfl
  · by_cases h : piv (stepGo rs (clear r v (piv r)).2).2 = (stepGo rs (clear r v (piv r)).2).2.length
    · rw [if_pos h, if_pos h]
    · rw [if_neg h, if_neg h]; rfl
theorem stepped_ech {n : Nat} : ∀ {c : Nat} {B : List Vec} {v : Vec}, Ech n c B → v.length = n → c ≤ n → (∀ i, i < c → itm v i = 0) → Ech n c (stepped B v)
  | c, [], v, _, l, hc, z => by
    rw [stepped_nil]
    split
    · trivial
    · exact ⟨l, piv_ge z (l ▸ hc), by have := piv_le v; omega, trivial⟩
  | c, r :: rs, v, e, l, hc, z => by
    rw [stepped_cons]
    split
    · next h =>
      have ih := stepped_ech (c := piv r) (Ech.mono (by omega) e.2.2.2) e.1 (Nat.le_of_lt e.2.2.1) (piv_spec r).1
      exact ⟨l, piv_ge z (l ▸ hc), by have := e.2.2.1; omega, Ech.mono (by omega) ih⟩
    · next h =>
      obtain ⟨c1, c2⟩ := clear_len (i := piv r) (e.1.trans l.symm)
      obtain ⟨f1, f2, f3⟩ := clear_facts (i := piv r) e.1 l (e.ne List.mem_cons_self)
      have f4 : ∀ j, j < piv r → itm (clear r v (piv r)).1 j = 0 ∧ itm (clear r v (piv r)).2 j = 0 := fun j hj => f3 j ((piv_spec r).1 j hj) ((piv_spec v).1 j (by omega))
      have pe : piv (clear r v (piv r)).1 = piv r := piv_eq (fun j hj => (f4 j hj).1) f2
      have ih := stepped_ech (v := (clear r v (piv r)).2) e.2.2.2 (c2.trans e.1) (by have := e.2.2.1; omega) (fun j hj => by
        by_cases q : j = piv r
        · rw [q]; exact f1
        · exact (f4 j (by omega)).2)
      exact ⟨c1.trans e.1, by rw [pe]; exact e.2.1, by rw [pe]; exact e.2.2.1, by rw [pe]; exact ih⟩
theorem stepped_count : ∀ {B : List Vec} {v : Vec}, (stepped B v).length ≤ B.length + 1
  | [], v => by
    rw [stepped_nil]
    split
    · exact Nat.zero_le _
    · exact Nat.le_refl 1
  | r :: rs, v => by
    rw [stepped_cons]
    split
    · exact Nat.succ_le_succ stepped_count
    · exact Nat.succ_le_succ stepped_count
theorem tidy_count : ∀ {B : List Vec}, (tidy B).length = B.length
  | [] => rfl
  | r :: rs => congrArg (· + 1) (tidy_count (B := rs))
theorem tidy_ech {n : Nat} : ∀ {c : Nat} {B : List Vec}, Ech n c B → Ech n c (tidy B)
  | c, [], _ => trivial
  | c, r :: rs, e => by
    have ih := tidy_ech e.2.2.2
    have lp : (posV r).length = n := (posV_length r).trans e.1
    have pp := posV_piv r (e.1 ▸ e.2.2.1)
    have lo := redV_low ih lp
    have pe : piv (redV (tidy rs) (posV r)) = piv r := piv_eq (fun i hi => by rw [lo i (by omega), ← Int.natAbs_eq_zero, posV_abs, (piv_spec r).1 i hi]; rfl) (by
      rw [lo _ (by omega)]
      intro q
      have := posV_abs r (piv r)
      rw [q] at this
      exact e.ne List.mem_cons_self (by omega))
    unfold tidy
    refine ⟨(redV_len _ _ fun s hs => (ih.row s hs).1.trans lp.symm).trans lp, ?_⟩
    rw [pe]
    exact ⟨e.2.1, e.2.2.1, ih⟩
/-- each row is small at the others' pivots -/
def Redd (B : List Vec) : Prop := ∀ s ∈ B, ∀ r ∈ B, (itm r (piv s)).natAbs ≤ (itm s (piv s)).natAbs
theorem tidy_redd {n : Nat} : ∀ {c : Nat} {B : List Vec}, Ech n c B → Redd (tidy B)
  | c, [], _ => fun s h => nomatch h
  | c, r :: rs, e => by
    have ih := tidy_redd e.2.2.2
    have et := tidy_ech e
    have lp : (posV r).length = n := (posV_length r).trans e.1
    have h' := tidy_ech e.2.2.2
    unfold tidy at et ⊢
    intro s hs t ht
    rcases List.mem_cons.mp hs with z | hs
    · rcases List.mem_cons.mp ht with y | ht
      · rw [z, y]; exact Nat.le_refl _
      · have : itm t (piv s) = 0 := by rw [z]; exact et.2.2.2.zero ht (Nat.lt_succ_self _)
        rw [this]; exact Nat.zero_le _
    · rcases List.mem_cons.mp ht with y | ht
      · rw [y]; exact Nat.le_of_lt (redV_small h' lp s hs)
      · exact ih s hs t ht
theorem In.sub {S : (Nat → Int) → Prop} (C : Cl S) : ∀ {B : List Vec} {f : Nat → Int}, (∀ r ∈ B, S (itm r)) → In B f → S f
  | [], f, _, h => by
    rw [show f = _ from funext h]; exact C.zero
  | r :: rs, f, hS, ⟨a, h⟩ => C.of (t := a) (In.sub C (fun s hs => hS s (List.mem_cons_of_mem _ hs)) h) (hS r List.mem_cons_self) fun i => by omega
end Lat

namespace K06
open PySem L2 RZ Lat
/-! ## sizes -/
theorem p2le {a b : Nat} (h : a ≤ b) : 2 ^ a ≤ 2 ^ b := Nat.pow_le_pow_right (by decide) h
theorem p2lt {a b : Nat} (h : a < b) : 2 ^ a < 2 ^ b := Nat.pow_lt_pow_right (by decide) h
theorem log_lt {j α k : Nat} (h0 : j ≠ 0) (h : j ≤ 2 ^ α) (ha : α < k) : j.log2 < k := (Nat.log2_lt h0).mpr (Nat.lt_of_le_of_lt h (p2lt ha))
theorem divz_ok {i j : Int} {α : Nat} (h0 : j ≠ 0) (h : j.natAbs ≤ 2 ^ α) (ha : α < 9000) : CDivZ i j :=
  ⟨h0, PyProof.noPylong_of_log2 (log_lt (Int.natAbs_ne_zero.mpr h0) h ha)⟩
theorem mul_ok {i j : Int} {α β : Nat} (ha : i.natAbs ≤ 2 ^ α) (hb : j.natAbs ≤ 2 ^ β) (h : α + β + 2 ≤ 134217728) : CMulX i j :=
  mulx_ok (a := α + 1) (b := β + 1) (Nat.lt_of_le_of_lt ha (p2lt (Nat.lt_succ_self _))) (Nat.lt_of_le_of_lt hb (p2lt (Nat.lt_succ_self _))) (by omega)
theorem fdiv_absP (a b : Int) (hb : 0 < b) : (a.fdiv b).natAbs ≤ a.natAbs := by
  have h := fdiv_rem a b hb
  generalize a.fdiv b = q at h ⊢
  rcases (by omega : q < 0 ∨ 0 ≤ q) with hq | hq
  · have h1 := Int.mul_le_mul_of_nonneg_left (show (1 : Int) ≤ b by omega) (show 0 ≤ -(q + 1) by omega)
    have h2 : -(q + 1) * b = -(q * b) - b := by grind
    rw [h2] at h1
    omega
  · have h1 := Int.mul_le_mul_of_nonneg_left (show (1 : Int) ≤ b by omega) hq
    omega
theorem fdiv_abs (a b : Int) (hb : b ≠ 0) : (a.fdiv b).natAbs ≤ a.natAbs := by
  rcases Int.lt_or_gt_of_ne hb with h | h
  · have := fdiv_absP (-a) (-b) (by omega)
    rw [Int.neg_fdiv_neg, Int.natAbs_neg] at this
    exact this
  · exact fdiv_absP a b h
theorem mem_itm {v : Vec} {m : Int} (h : m ∈ v) : ∃ i, itm v i = m := by
  obtain ⟨i, hi, e⟩ := List.mem_iff_getElem.mp h
  refine ⟨i, ?_⟩
  have := itm_of hi
  rw [List.getElem?_eq_getElem hi, e] at this
  exact (Option.some.inj this).symm
theorem redV_size {n π β : Nat} (hπ : π < 9000) : ∀ {c : Nat} {B : List Vec} {v : Vec} {ξ : Nat}, Ech n c B → v.length = n → (∀ s ∈ B, (itm s (piv s)).natAbs ≤ 2 ^ π) → (∀ s ∈ B, ∀ i, (itm s i).natAbs ≤ 2 ^ β) → (∀ i, (itm v i).natAbs ≤ 2 ^ ξ) →
    ξ + B.length * (β + 1) + β + 2 ≤ 134217728 → OkRed B v ∧ ∀ i, (itm (redV B v) i).natAbs ≤ 2 ^ (ξ + B.length * (β + 1))
  | c, [], v, ξ, _, _, _, _, hv, _ => ⟨trivial, fun i => by rw [List.length_nil, Nat.zero_mul]; exact hv i⟩
  | c, r :: rs, v, ξ, e, l, hp, hb, hv, ok => by
    obtain ⟨hp1, hp2⟩ := List.forall_mem_cons.mp hp
    obtain ⟨hb1, hb2⟩ := List.forall_mem_cons.mp hb
    have lr : v.length = r.length := l.trans e.1.symm
    have rn : itm r (piv r) ≠ 0 := e.ne List.mem_cons_self
    have hq := fdiv_abs (itm v (piv r)) (itm r (piv r)) rn
    have hq2 := Nat.le_trans hq (hv (piv r))
    rw [List.length_cons, Nat.add_mul, Nat.one_mul] at ok
    have ih := redV_size hπ (v := addV v (-((itm v (piv r)).fdiv (itm r (piv r)))) r) (ξ := ξ + (β + 1)) e.2.2.2 ((addV_len lr).trans l) hp2 hb2 (fun i => ?_) (by omega)
    · refine ⟨⟨e.1 ▸ e.2.2.1, divz_ok rn hp1 hπ, fun m hm => ?_, ih.1⟩, fun i => ?_⟩
      · obtain ⟨i, rfl⟩ := mem_itm hm
        exact mul_ok (α := ξ) (by rw [Int.natAbs_neg]; exact hq2) (hb1 i) (by omega)
      · refine Nat.le_trans (ih.2 i) (p2le ?_)
        rw [List.length_cons, Nat.add_mul, Nat.one_mul]; omega
    · rw [itm_add lr]
      have h1 : (-((itm v (piv r)).fdiv (itm r (piv r))) * itm r i).natAbs ≤ 2 ^ ξ * 2 ^ β := by
        rw [Int.natAbs_mul, Int.natAbs_neg]; exact Nat.mul_le_mul hq2 (hb1 i)
      have h2 := hv i
      have h3 : 2 ^ ξ ≤ 2 ^ ξ * 2 ^ β := Nat.le_mul_of_pos_right _ (Nat.two_pow_pos β)
      have h4 : 2 ^ (ξ + (β + 1)) = 2 ^ ξ * 2 ^ β * 2 := by rw [Nat.pow_add, Nat.pow_succ, Nat.mul_assoc]
      rw [h4]
      have := Int.natAbs_add_le (itm v i) (-((itm v (piv r)).fdiv (itm r (piv r))) * itm r i)
      omega
theorem sign_rem (a b : Int) (hb : b ≠ 0) : (0 ≤ b ∧ 0 ≤ a + -(a.fdiv b) * b) ∨ (b ≤ 0 ∧ a + -(a.fdiv b) * b ≤ 0) := by
  have e : a + -(a.fdiv b) * b = a - a.fdiv b * b := by grind
  rw [e]
  rcases Int.lt_or_gt_of_ne hb with h | h
  · exact .inr ⟨by omega, (fdiv_rem_neg a b h).2⟩
  · exact .inl ⟨by omega, (fdiv_rem a b h).1⟩
theorem euc_any (a b : Int) : (a.fdiv b).natAbs * b.natAbs ≤ a.natAbs + (a + -(a.fdiv b) * b).natAbs := by
  have e : a.fdiv b * b = a - (a + -(a.fdiv b) * b) := by grind
  rw [← Int.natAbs_mul, e]; omega
theorem euc (a b : Int) (hb : b ≠ 0) (hs : (0 ≤ a ∧ 0 ≤ b) ∨ (a ≤ 0 ∧ b ≤ 0)) : (a.fdiv b).natAbs * b.natAbs + (a + -(a.fdiv b) * b).natAbs = a.natAbs := by
  have e : a + -(a.fdiv b) * b = a - a.fdiv b * b := by grind
  rw [← Int.natAbs_mul, e]
  rcases Int.lt_or_gt_of_ne hb with h | h
  · have h1 := fdiv_rem_neg a b h
    generalize a.fdiv b = q at h1 ⊢
    rcases (by omega : q < 0 ∨ 0 ≤ q) with hq | hq
    · have h2 := Int.mul_le_mul_of_nonneg_left (show (1 : Int) ≤ -q by omega) (show 0 ≤ -b by omega)
      have h3 : -b * -q = q * b := by grind
      rw [h3] at h2
      omega
    · have h2 := Int.mul_nonneg hq (show 0 ≤ -b by omega)
      rw [Int.mul_neg] at h2
      omega
  · have h1 := fdiv_rem a b h
    generalize a.fdiv b = q at h1 ⊢
    rcases (by omega : q < 0 ∨ 0 ≤ q) with hq | hq
    · have h2 := Int.mul_le_mul_of_nonneg_left (show (1 : Int) ≤ -q by omega) (show 0 ≤ b by omega)
      have h3 : b * -q = -(q * b) := by grind
      rw [h3] at h2
      omega
    · have h2 := Int.mul_nonneg hq (show 0 ≤ b by omega)
      omega
theorem step_abs {a b : Int} {q : Int} {x y : Nat} (ha : a.natAbs ≤ x) (hb : b.natAbs ≤ y) : (a + -q * b).natAbs ≤ x + q.natAbs * y := by
  have h1 : (-q * b).natAbs ≤ q.natAbs * y := by rw [Int.natAbs_mul, Int.natAbs_neg]; exact Nat.mul_le_mul_left _ hb
  have := Int.natAbs_add_le a (-q * b)
  omega
theorem clr_size {n α χ : Nat} (hα : α < 9000) (hχ : α + χ + 2 ≤ 134217728) : ∀ (m : Nat) (r v : Vec) (i : Nat) (C : Nat → Prop) (Mr Mv X : Nat), r.length = n → v.length = n → itm r i ≠ 0 → ((0 ≤ itm r i ∧ 0 ≤ itm v i) ∨ (itm r i ≤ 0 ∧ itm v i ≤ 0)) →
    (∀ j, C j → (itm r j).natAbs ≤ Mr ∧ (itm v j).natAbs ≤ Mv) → Mr ≤ X → Mv * (itm r i).natAbs + Mr * (itm v i).natAbs ≤ X →
    (∀ j, C j → (itm (clr m r v i).1 j).natAbs ≤ X ∧ (itm (clr m r v i).2 j).natAbs ≤ X) ∧ ((∀ j, C j) → (itm v i).natAbs ≤ m → X ≤ 2 ^ χ → (itm r i).natAbs ≤ 2 ^ α → (itm v i).natAbs ≤ 2 ^ α → OkClr m r v i)
  | 0, r, v, i, C, Mr, Mv, X, lr, lv, h0, hs, hC, hX, hN => by
    have h1 : Mv ≤ Mv * (itm r i).natAbs := Nat.le_mul_of_pos_right _ (Int.natAbs_pos.mpr h0)
    exact ⟨fun j hj => ⟨Nat.le_trans (hC j hj).1 hX, Nat.le_trans (hC j hj).2 (by omega)⟩, fun _ hm _ _ _ => by show itm v i = 0; omega⟩
  | m + 1, r, v, i, C, Mr, Mv, X, lr, lv, h0, hs, hC, hX, hN => by
    have h1 : Mv ≤ Mv * (itm r i).natAbs := Nat.le_mul_of_pos_right _ (Int.natAbs_pos.mpr h0)
    by_cases hv : itm v i = 0
    · have e : clr (m + 1) r v i = (r, v) := by unfold clr; rw [if_pos hv]
      rw [e]
      exact ⟨fun j hj => ⟨Nat.le_trans (hC j hj).1 hX, Nat.le_trans (hC j hj).2 (by omega)⟩, fun _ _ _ _ _ => .inl hv⟩
    · have e : clr (m + 1) r v i = clr m v (addV r (-((itm r i).fdiv (itm v i))) v) i := by rw [clr, if_neg hv]
      have l := lr.trans lv.symm
      have ei := itm_add (t := -((itm r i).fdiv (itm v i))) l i
      have q1 := euc (itm r i) (itm v i) hv hs
      have q2 := sign_rem (itm r i) (itm v i) hv
      have q3 := fdiv_small (itm r i) (itm v i) hv
      rw [← ei] at q1 q2 q3
      have key : (Mr + ((itm r i).fdiv (itm v i)).natAbs * Mv) * (itm v i).natAbs + Mv * (itm (addV r (-((itm r i).fdiv (itm v i))) v) i).natAbs ≤ X := by
        have : (Mr + ((itm r i).fdiv (itm v i)).natAbs * Mv) * (itm v i).natAbs + Mv * (itm (addV r (-((itm r i).fdiv (itm v i))) v) i).natAbs = Mr * (itm v i).natAbs + Mv * (((itm r i).fdiv (itm v i)).natAbs * (itm v i).natAbs + (itm (addV r (-((itm r i).fdiv (itm v i))) v) i).natAbs) := by grind
        rw [this, q1]; omega
      have ih := clr_size hα hχ m v (addV r (-((itm r i).fdiv (itm v i))) v) i C Mv (Mr + ((itm r i).fdiv (itm v i)).natAbs * Mv) X lv ((addV_len l).trans lr) hv q2 (fun j hj => ⟨(hC j hj).2, by rw [itm_add l]; exact step_abs (hC j hj).1 (hC j hj).2⟩) (by omega) key
      rw [e]
      refine ⟨ih.1, fun hall hm hXχ hr hvα => .inr ⟨divz_ok hv hvα hα, fun x hx => ?_, ih.2 hall (by omega) hXχ hvα (by omega)⟩⟩
      obtain ⟨j, rfl⟩ := mem_itm hx
      exact mul_ok (α := α) (β := χ) (by rw [Int.natAbs_neg]; exact Nat.le_trans (fdiv_abs _ _ hv) hr) (Nat.le_trans (hC j (hall j)).2 (by omega)) hχ
theorem clear_size {n α χ : Nat} (hα : α < 9000) (hχ : α + χ + 2 ≤ 134217728) (r v : Vec) (i : Nat) (C : Nat → Prop) (M a : Nat) (lr : r.length = n) (lv : v.length = n) (h0 : itm r i ≠ 0) (a1 : 1 ≤ a) (ha : (itm r i).natAbs ≤ a) (hav : (itm v i).natAbs ≤ a)
    (hC : ∀ j, C j → (itm r j).natAbs ≤ M ∧ (itm v j).natAbs ≤ M) :
    (∀ j, C j → (itm (clear r v i).1 j).natAbs ≤ 4 * M * a ∧ (itm (clear r v i).2 j).natAbs ≤ 4 * M * a) ∧ ((∀ j, C j) → 4 * M * a ≤ 2 ^ χ → a ≤ 2 ^ α → OkClr (itm v i).natAbs r v i) := by
  have hM : M ≤ 4 * M * a := by
    have : 4 * M ≤ 4 * M * a := Nat.le_mul_of_pos_right _ a1
    omega
  unfold clear
  by_cases hv : itm v i = 0
  · have e : (itm v i).natAbs = 0 := by rw [hv]; rfl
    rw [e]
    exact ⟨fun j hj => ⟨Nat.le_trans (hC j hj).1 hM, Nat.le_trans (hC j hj).2 hM⟩, fun _ _ _ => hv⟩
  · obtain ⟨m, em⟩ : ∃ m, (itm v i).natAbs = m + 1 := ⟨(itm v i).natAbs - 1, by omega⟩
    rw [em]
    have e : clr (m + 1) r v i = clr m v (addV r (-((itm r i).fdiv (itm v i))) v) i := by rw [clr, if_neg hv]
    have l := lr.trans lv.symm
    have ei := itm_add (t := -((itm r i).fdiv (itm v i))) l i
    have q1 := euc_any (itm r i) (itm v i)
    have q2 := sign_rem (itm r i) (itm v i) hv
    have q3 := fdiv_small (itm r i) (itm v i) hv
    rw [← ei] at q1 q2 q3
    have key : (M + ((itm r i).fdiv (itm v i)).natAbs * M) * (itm v i).natAbs + M * (itm (addV r (-((itm r i).fdiv (itm v i))) v) i).natAbs ≤ 4 * M * a := by
      have e1 : (M + ((itm r i).fdiv (itm v i)).natAbs * M) * (itm v i).natAbs + M * (itm (addV r (-((itm r i).fdiv (itm v i))) v) i).natAbs = M * ((itm v i).natAbs + ((itm r i).fdiv (itm v i)).natAbs * (itm v i).natAbs + (itm (addV r (-((itm r i).fdiv (itm v i))) v) i).natAbs) := by grind
      have e2 : 4 * M * a = M * (4 * a) := by grind
      rw [e1, e2]
      exact Nat.mul_le_mul_left _ (by omega)
    have ih := clr_size hα hχ m v (addV r (-((itm r i).fdiv (itm v i))) v) i C M (M + ((itm r i).fdiv (itm v i)).natAbs * M) (4 * M * a) lv ((addV_len l).trans lr) hv q2 (fun j hj => ⟨(hC j hj).2, by rw [itm_add l]; exact step_abs (hC j hj).1 (hC j hj).2⟩) hM key
    rw [e]
    refine ⟨ih.1, fun hall hX haα => .inr ⟨divz_ok hv (Nat.le_trans hav haα) hα, fun x hx => ?_, ih.2 hall (by omega) hX (by omega) (by omega)⟩⟩
    obtain ⟨j, rfl⟩ := mem_itm hx
    exact mul_ok (α := α) (β := χ) (by rw [Int.natAbs_neg]; exact Nat.le_trans (fdiv_abs _ _ hv) (Nat.le_trans ha haα)) (Nat.le_trans (hC j (hall j)).2 (by omega)) hχ
end K06

namespace K06
open PySem L2 RZ Lat
def gd : Nat → Nat → Nat → Prop
  | 0, _, _ => True
  | k + 1, α, ξ => α < 9000 ∧ ξ + 2 * α + 4 ≤ 134217728 ∧ gd k (2 * α + 2) (ξ + α + 2)
def fxb : Nat → Nat → Nat → Nat
  | 0, _, ξ => ξ
  | k + 1, α, ξ => fxb k (2 * α + 2) (ξ + α + 2)
theorem fxb_ge : ∀ (k α ξ : Nat), ξ ≤ fxb k α ξ
  | 0, _, _ => Nat.le_refl _
  | k + 1, α, ξ => Nat.le_trans (by omega) (fxb_ge k (2 * α + 2) (ξ + α + 2))
theorem four (α β : Nat) : 4 * 2 ^ β * 2 ^ α = 2 ^ (β + α + 2) := by
  rw [Nat.pow_add, Nat.pow_add, Nat.mul_comm 4, Nat.mul_assoc, Nat.mul_comm 4, ← Nat.mul_assoc]
theorem stepped_size {n : Nat} (C : Nat → Prop) : ∀ {c : Nat} {B : List Vec} {v : Vec} {α ξ : Nat}, Ech n c B → v.length = n → (∀ s ∈ B, C (piv s)) → gd B.length α ξ →
    (∀ s ∈ B, (∀ i, (itm s i).natAbs ≤ 2 ^ ξ) ∧ ∀ i, C i → (itm s i).natAbs ≤ 2 ^ α) → (∀ i, (itm v i).natAbs ≤ 2 ^ ξ) → (∀ i, C i → (itm v i).natAbs ≤ 2 ^ α) →
    OkStep B v ∧ ∀ s ∈ stepped B v, ∀ i, (itm s i).natAbs ≤ 2 ^ fxb B.length α ξ
  | c, [], v, α, ξ, _, _, _, _, _, hv, _ => by
    refine ⟨trivial, ?_⟩
    rw [stepped_nil]
    split
    · exact fun s h => nomatch h
    · exact fun s hs i => by rw [List.mem_singleton.mp hs]; exact hv i
  | c, r :: rs, v, α, ξ, e, l, hp, g, hB, hv, hvC => by
    obtain ⟨hp1, hp2⟩ := List.forall_mem_cons.mp hp
    obtain ⟨hB1, hB2⟩ := List.forall_mem_cons.mp hB
    obtain ⟨g1, g2, g3⟩ := g
    have up : ∀ {x : Nat}, x ≤ 2 ^ ξ → x ≤ 2 ^ (ξ + α + 2) := fun h => Nat.le_trans h (p2le (by omega))
    have upA : ∀ {x : Nat}, x ≤ 2 ^ α → x ≤ 2 ^ (2 * α + 2) := fun h => Nat.le_trans h (p2le (by omega))
    have hB2' : ∀ s ∈ rs, (∀ i, (itm s i).natAbs ≤ 2 ^ (ξ + α + 2)) ∧ ∀ i, C i → (itm s i).natAbs ≤ 2 ^ (2 * α + 2) := fun s hs => ⟨fun i => up ((hB2 s hs).1 i), fun i hi => upA ((hB2 s hs).2 i hi)⟩
    have top := fxb_ge rs.length (2 * α + 2) (ξ + α + 2)
    rw [stepped_cons]
    by_cases h : piv v < piv r
    · rw [if_pos h]
      have ih := stepped_size C (v := r) e.2.2.2 e.1 hp2 g3 hB2' (fun i => up (hB1.1 i)) (fun i hi => upA (hB1.2 i hi))
      exact ⟨⟨e.1 ▸ e.2.2.1, .inl ⟨h, ih.1⟩⟩, List.forall_mem_cons.mpr ⟨fun i => Nat.le_trans (up (hv i)) (p2le top), ih.2⟩⟩
    · rw [if_neg h]
      have rn := e.ne List.mem_cons_self
      have a1 : 1 ≤ 2 ^ α := Nat.two_pow_pos α
      obtain ⟨c1, c2⟩ := clear_len (i := piv r) (e.1.trans l.symm)
      have z1 := clear_size (n := n) (χ := ξ + α + 2) g1 (by omega) r v (piv r) (fun _ => True) (2 ^ ξ) (2 ^ α) e.1 l rn a1 (hB1.2 _ hp1) (hvC _ hp1) (fun j _ => ⟨hB1.1 j, hv j⟩)
      have z2 := clear_size (n := n) (χ := ξ + α + 2) g1 (by omega) r v (piv r) C (2 ^ α) (2 ^ α) e.1 l rn a1 (hB1.2 _ hp1) (hvC _ hp1) (fun j hj => ⟨hB1.2 j hj, hvC j hj⟩)
      rw [four] at z1 z2
      have e2 : α + α + 2 = 2 * α + 2 := by omega
      rw [e2] at z2
      have ih := stepped_size C (v := (clear r v (piv r)).2) e.2.2.2 (c2.trans e.1) hp2 g3 hB2' (fun i => (z1.1 i trivial).2) (fun i hi => (z2.1 i hi).2)
      exact ⟨⟨e.1 ▸ e.2.2.1, .inr ⟨h, z1.2 (fun _ => trivial) (Nat.le_refl _) (Nat.le_refl _), ih.1⟩⟩, List.forall_mem_cons.mpr ⟨fun i => Nat.le_trans (z1.1 i trivial).1 (p2le top), ih.2⟩⟩
theorem tidy_pivs {n : Nat} : ∀ {c : Nat} {B : List Vec}, Ech n c B → ∀ s ∈ tidy B, ∃ r ∈ B, (itm s (piv s)).natAbs = (itm r (piv r)).natAbs
  | c, [], _ => fun s h => nomatch h
  | c, r :: rs, e => by
    have et := tidy_ech e
    have ih := tidy_pivs e.2.2.2
    have lp : (posV r).length = n := (posV_length r).trans e.1
    have pp := posV_piv r (e.1 ▸ e.2.2.1)
    have h' := tidy_ech e.2.2.2
    have lo := redV_low h' lp
    have pe : piv (redV (tidy rs) (posV r)) = piv r := piv_eq (fun i hi => by rw [lo i (by omega), ← Int.natAbs_eq_zero, posV_abs, (piv_spec r).1 i hi]; rfl) (by
      rw [lo _ (by omega)]
      intro q
      have := posV_abs r (piv r)
      rw [q] at this
      exact e.ne List.mem_cons_self (by omega))
    unfold tidy
    intro s hs
    rcases List.mem_cons.mp hs with z | hs
    · refine ⟨r, List.mem_cons_self, ?_⟩
      rw [z, pe, lo _ (by omega), posV_abs]
    · obtain ⟨t, ht, q⟩ := ih s hs
      exact ⟨t, List.mem_cons_of_mem _ ht, q⟩
def tb : Nat → Nat → Nat
  | 0, τ => τ
  | k + 1, τ => tb k τ + τ + k * (tb k τ + 1)
theorem tidy_size {n π τ : Nat} (hπ : π < 9000) : ∀ {c : Nat} {B : List Vec}, Ech n c B → (∀ s ∈ B, (itm s (piv s)).natAbs ≤ 2 ^ π) → (∀ s ∈ B, ∀ i, (itm s i).natAbs ≤ 2 ^ τ) → tb B.length τ + 4 ≤ 134217728 →
    OkTidy B ∧ ∀ s ∈ tidy B, ∀ i, (itm s i).natAbs ≤ 2 ^ tb B.length τ
  | c, [], _, _, _, _ => ⟨trivial, fun s h => nomatch h⟩
  | c, r :: rs, e, hp, hB, g => by
    obtain ⟨hp1, hp2⟩ := List.forall_mem_cons.mp hp
    obtain ⟨hB1, hB2⟩ := List.forall_mem_cons.mp hB
    have g' : tb rs.length τ + τ + rs.length * (tb rs.length τ + 1) + 4 ≤ 134217728 := g
    have ih := tidy_size hπ e.2.2.2 hp2 hB2 (by omega)
    have h' := tidy_ech e.2.2.2
    have lp : (posV r).length = n := (posV_length r).trans e.1
    have cnt : (tidy rs).length = rs.length := tidy_count
    have rz := redV_size hπ (v := posV r) (ξ := τ) h' lp (fun s hs => by
      obtain ⟨t, ht, q⟩ := tidy_pivs e.2.2.2 s hs
      rw [q]; exact hp2 t ht) ih.2 (fun i => by rw [posV_abs]; exact hB1 i) (by rw [cnt]; omega)
    rw [cnt] at rz
    have top : τ + rs.length * (tb rs.length τ + 1) ≤ tb (r :: rs).length τ := by
      show _ ≤ tb rs.length τ + τ + rs.length * (tb rs.length τ + 1)
      omega
    have top2 : tb rs.length τ ≤ tb (r :: rs).length τ := by
      show _ ≤ tb rs.length τ + τ + rs.length * (tb rs.length τ + 1)
      omega
    refine ⟨⟨ih.1, ⟨e.1 ▸ e.2.2.1, fun m hm => ?_⟩, rz.1⟩, ?_⟩
    · obtain ⟨i, rfl⟩ := mem_itm hm
      exact mul_ok (α := 1) (β := τ) (by decide) (hB1 i) (by omega)
    · unfold tidy
      exact List.forall_mem_cons.mpr ⟨fun i => Nat.le_trans (rz.2 i) (p2le top), fun s hs i => Nat.le_trans (ih.2 s hs i) (p2le top2)⟩
/-! ## all along the vectors -/
def gb : Nat → Nat
  | 0 => 0
  | j + 1 => 6 + j * (gb j + 1)
structure Inv (n j : Nat) (B : List Vec) : Prop where
  ech : Ech n 0 B
  count : B.length ≤ j
  redd : Redd B
  ghost : ∃ G, Ech n 0 G ∧ G.length ≤ j ∧ (∀ g ∈ G, In B (itm g)) ∧ (∀ s ∈ B, RIn G (itm s)) ∧ ∀ g ∈ G, ∀ i, (itm g i).natAbs ≤ 2 ^ gb j
theorem Inv.piv {n j : Nat} {B : List Vec} (I : Inv n j B) : ∀ s ∈ B, (itm s (piv s)).natAbs ≤ 2 ^ gb j := by
  obtain ⟨G, eG, _, h1, h2, h3⟩ := I.ghost
  intro s hs
  obtain ⟨g, hg, _, q⟩ := piv_bound I.ech eG h1 h2 s hs
  exact Nat.le_trans q (h3 g hg _)
theorem Inv.all {n j : Nat} {B : List Vec} (I : Inv n j B) : ∀ s ∈ B, ∀ i, (itm s i).natAbs ≤ 2 ^ (gb j + j * (gb j + 2)) := by
  have hp := I.piv
  obtain ⟨G, eG, c, h1, h2, h3⟩ := I.ghost
  intro s hs i
  have sn := I.ech
  have q := all_bound (b := 2 ^ gb j) (A := 2 ^ gb j) (Nat.two_pow_pos _) eG h3 (h2 s hs) (fun g hg => ?_) i
  · refine Nat.le_trans q ?_
    have e1 : 4 * 2 ^ gb j = 2 ^ (gb j + 2) := by rw [Nat.pow_add, Nat.mul_comm]
    rw [e1, ← Nat.pow_mul, ← Nat.pow_add]
    refine p2le ?_
    have := Nat.mul_le_mul_left (gb j + 2) c
    rw [Nat.mul_comm (gb j + 2) j] at this
    omega
  · -- the ghost's pivot is a pivot of the basis
    have gn := eG.ne hg
    rcases lead I.ech (h1 g hg) with z | ⟨t, ht, a, ha, z, y⟩
    · exact absurd (z _) gn
    · have tn := I.ech.ne ht
      have e' : Lat.piv t = Lat.piv g := by
        rcases Nat.lt_trichotomy (Lat.piv t) (Lat.piv g) with l | l | l
        · rw [(piv_spec g).1 _ l] at y
          exact absurd y.symm (Int.mul_ne_zero ha tn)
        · exact l
        · exact absurd (z _ l) gn
      rw [← e']
      exact Nat.le_trans (I.redd t ht s hs) (hp t ht)
theorem gb_le : ∀ j, j ≤ 4 → gb j ≤ 111 ∧ gb j ≤ gb (j + 1) ∧ gb (j + 1) ≤ 454 := by decide
theorem eb_le : ∀ j, j ≤ 4 → gb j + j * (gb j + 2) ≤ 563 := by decide
theorem gd_le : ∀ k, k ≤ 4 → gd k 111 2262 ∧ fxb k 111 2262 ≤ 6000 ∧ tb (k + 1) 6000 + 4 ≤ 134217728 := by
  intro k hk
  have : k = 0 ∨ k = 1 ∨ k = 2 ∨ k = 3 ∨ k = 4 := by omega
  rcases this with e | e | e | e | e <;> subst e <;> simp [gd, fxb, tb]
theorem tb_mono {τ : Nat} : ∀ k, tb k τ ≤ tb (k + 1) τ := fun k => by
  show _ ≤ tb k τ + τ + k * (tb k τ + 1)
  omega
theorem grow_inv {n j : Nat} {B : List Vec} {v : Vec} (I : Inv n j B) (hj : j ≤ 4) (l : v.length = n) (hv : ∀ i, (itm v i).natAbs ≤ 2 ^ 6) : OkGrow B v ∧ Inv n (j + 1) (grow B v) := by
  have hp := I.piv
  have hall := I.all
  obtain ⟨b1, b2, b3⟩ := gb_le j hj
  have b4 := eb_le j hj
  have hB6 : ∀ s ∈ B, ∀ i, (itm s i).natAbs ≤ 2 ^ 563 := fun s hs i => Nat.le_trans (hall s hs i) (p2le b4)
  have hp6 : ∀ s ∈ B, (itm s (piv s)).natAbs ≤ 2 ^ 111 := fun s hs => Nat.le_trans (hp s hs) (p2le b1)
  have cB : B.length ≤ 4 := Nat.le_trans I.count hj
  have hm : B.length * 564 ≤ 4 * 564 := Nat.mul_le_mul_right _ cB
  have rz := redV_size (π := 111) (β := 563) (by decide) I.ech l hp6 hB6 hv (by omega)
  have ru : ∀ i, (itm (redV B v) i).natAbs ≤ 2 ^ 2262 := fun i => Nat.le_trans (rz.2 i) (p2le (by omega))
  have hlen : ∀ r ∈ B, r.length = v.length := fun r hr => ((I.ech.row r hr).1).trans l.symm
  have lu := redV_len B v hlen
  have hlen' : ∀ r ∈ B, r.length = (redV B v).length := fun r hr => (hlen r hr).trans lu.symm
  obtain ⟨gdk, fk, tk⟩ := gd_le B.length cB
  have st := stepped_size (n := n) (fun i => ∃ s ∈ B, i = piv s) (v := redV B v) I.ech (lu.trans l) (fun s hs => ⟨s, hs, rfl⟩) gdk
    (fun s hs => ⟨fun i => Nat.le_trans (hB6 s hs i) (p2le (by decide)), fun i ⟨t, ht, e⟩ => e ▸ Nat.le_trans (I.redd t ht s hs) (hp6 t ht)⟩) ru
    (fun i ⟨t, ht, e⟩ => e ▸ Nat.le_trans (Nat.le_of_lt (redV_small I.ech l t ht)) (hp6 t ht))
  have es : Ech n 0 (stepped B (redV B v)) := stepped_ech I.ech (lu.trans l) (Nat.zero_le _) fun i hi => absurd hi (Nat.not_lt_zero _)
  have cs : (stepped B (redV B v)).length ≤ B.length + 1 := stepped_count
  -- the ghosts
  obtain ⟨G, eG, cG, h1, h2, h3⟩ := I.ghost
  have eG' : Ech n 0 (insG G v) := insG_ech eG l (Nat.zero_le _) fun i hi => absurd hi (Nat.not_lt_zero _)
  have cG' : (insG G v).length ≤ j + 1 := Nat.le_trans insG_count (Nat.succ_le_succ cG)
  have sG' : ∀ g ∈ insG G v, ∀ i, (itm g i).natAbs ≤ 2 ^ gb (j + 1) := by
    refine insG_size (b := 2 ^ gb j) (x := 2 ^ 6) (Nat.two_pow_pos _) eG l h3 hv (p2le b2) ?_
    have e1 : 2 * 2 ^ gb j = 2 ^ (gb j + 1) := by rw [Nat.pow_succ, Nat.mul_comm]
    rw [e1, ← Nat.pow_mul, ← Nat.pow_add]
    refine p2le ?_
    show _ ≤ 6 + j * (gb j + 1)
    have := Nat.mul_le_mul_left (gb j + 1) cG
    rw [Nat.mul_comm (gb j + 1) j] at this
    omega
  have rB : ∀ s ∈ B, RIn (insG G v) (itm s) := fun s hs => by
    obtain ⟨D, hD, h⟩ := h2 s hs
    exact ⟨D, hD, In.sub (In.cl _) (fun g hg => insG_old g hg) h⟩
  have rv : RIn (insG G v) (itm v) := insG_new eG l
  have mk : ∀ B' : List Vec, (∀ S, Cl S → ((∀ r ∈ B', S (itm r)) ↔ ((∀ r ∈ B, S (itm r)) ∧ S (itm v)))) → (∀ g ∈ insG G v, In B' (itm g)) ∧ ∀ s ∈ B', RIn (insG G v) (itm s) := by
    intro B' h
    obtain ⟨q1, q2⟩ := (h (In B') (In.cl B')).mp fun r hr => In.mem _ _ hr
    exact ⟨insG_cl (In.cl B') eG l (fun g hg => In.sub (In.cl B') q1 (h1 g hg)) q2, (h (RIn (insG G v)) (RIn.cl _)).mpr ⟨rB, rv⟩⟩
  have rc : ∀ {S : (Nat → Int) → Prop}, Cl S → (∀ r ∈ B, S (itm r)) → (S (itm (redV B v)) ↔ S (itm v)) := fun C => redV_cl C B v hlen
  have ss := mk (stepped B (redV B v)) fun S C => by
    rw [stepped_cl C hlen']
    exact ⟨fun q => ⟨q.1, (rc C q.1).mp q.2⟩, fun q => ⟨q.1, (rc C q.1).mpr q.2⟩⟩
  have sg := mk (grow B v) fun S C => grow_cl C hlen
  have ps : ∀ s ∈ stepped B (redV B v), (itm s (piv s)).natAbs ≤ 2 ^ 454 := fun s hs => by
    obtain ⟨g, hg, _, q⟩ := piv_bound es eG' ss.1 ss.2 s hs
    exact Nat.le_trans q (Nat.le_trans (sG' g hg _) (p2le b3))
  have td := tidy_size (π := 454) (τ := 6000) (by decide) es ps (fun s hs i => Nat.le_trans (st.2 s hs i) (p2le fk)) (by
    rcases Nat.lt_or_ge (stepped B (redV B v)).length (B.length + 1) with q | q
    · have q1 : ∀ m k : Nat, m ≤ k → tb m 6000 ≤ tb k 6000 := fun m k h => by
        induction h with
        | refl => exact Nat.le_refl _
        | step _ ih => exact Nat.le_trans ih (tb_mono _)
      have := q1 _ _ (Nat.le_of_lt q)
      omega
    · rw [Nat.le_antisymm cs q]; exact tk)
  refine ⟨⟨rz.1, .inr ⟨st.1, td.1, by omega⟩⟩, ?_⟩
  refine ⟨?_, ?_, ?_, insG G v, eG', cG', sg.1, sg.2, sG'⟩
  · unfold grow
    split
    · exact I.ech
    · exact tidy_ech es
  · unfold grow
    split
    · exact Nat.le_succ_of_le I.count
    · rw [tidy_count]; have := I.count; omega
  · unfold grow
    split
    · exact I.redd
    · exact tidy_redd es
theorem inv0 (n : Nat) : Inv n 0 [] := ⟨trivial, Nat.le_refl _, fun s h => (nomatch h), [], trivial, Nat.le_refl _, fun g h => (nomatch h), fun g h => (nomatch h), fun g h => (nomatch h)⟩
theorem grows_inv {n : Nat} : ∀ (rs : List Vec) (j : Nat) (B : List Vec), Inv n j B → j + rs.length ≤ 5 → (∀ r ∈ rs, r.length = n ∧ Within 44 r) → OkGrows B rs ∧ Inv n (j + rs.length) (grows B rs)
  | [], j, B, I, _, _ => ⟨trivial, I⟩
  | v :: vs, j, B, I, hj, h => by
    rw [List.length_cons] at hj ⊢
    obtain ⟨⟨l, w⟩, h2⟩ := List.forall_mem_cons.mp h
    have hv : ∀ i, (itm v i).natAbs ≤ 2 ^ 6 := fun i => by
      by_cases hi : i < v.length
      · have hm : itm v i ∈ v := List.mem_of_getElem? (itm_of hi)
        have := w _ hm
        show _ ≤ 64
        omega
      · rw [itm_out (by omega)]; exact Nat.zero_le _
    obtain ⟨g1, g2⟩ := grow_inv I (by omega) l hv
    have ih := grows_inv vs (j + 1) (grow B v) g2 (by omega) h2
    refine ⟨⟨g1, ?_, ih.1⟩, ?_⟩
    · have := I.count; omega
    · have e : j + (vs.length + 1) = j + 1 + vs.length := by omega
      rw [e]; exact ih.2
theorem math_ok (n : Nat) (rs : List Vec) (h : rs.length ≤ 5) (hr : ∀ r ∈ rs, r.length = n ∧ Within 44 r) : OkGrows [] rs := (grows_inv rs 0 [] (inv0 n) (by omega) hr).1
theorem math_mul (n : Nat) (rs : List Vec) (h : rs.length ≤ 5) (hr : ∀ r ∈ rs, r.length = n ∧ Within 44 r) : ∀ r ∈ grows [] rs, ∀ x ∈ r, ∀ m : Int, -1000000000 ≤ m → m ≤ 1000000000 → CMulX x m := by
  have I := (grows_inv rs 0 [] (inv0 n) (by omega) hr).2
  rw [Nat.zero_add] at I
  intro r hr' x hx m m1 m2
  obtain ⟨i, rfl⟩ := mem_itm hx
  have e : gb rs.length + rs.length * (gb rs.length + 2) ≤ 3000 := by
    have : ∀ k, k ≤ 5 → gb k + k * (gb k + 2) ≤ 3000 := by decide
    exact this _ h
  refine mul_ok (β := 30) (I.all r hr' i) ?_ (by omega)
  have : (2 : Nat) ^ 30 = 1073741824 := by decide
  rw [this]; omega
end K06

namespace K06
open PySem L2 RZ Lat
/-! ## the divisor -/
def lin : Vec → (Nat → Int) → Int
  | [], _ => 0
  | x :: f, h => h 0 * x + lin f fun i => h (i + 1)
theorem lin_zero : ∀ f : Vec, (lin f fun _ => 0) = 0
  | [] => rfl
  | x :: f => by
    show 0 * x + lin f (fun _ => 0) = 0
    rw [lin_zero f]; omega
theorem lin_add (t : Int) : ∀ (f : Vec) (h k : Nat → Int), (lin f fun i => h i + t * k i) = lin f h + t * lin f k
  | [], _, _ => by show (0 : Int) = 0 + t * 0; omega
  | x :: f, h, k => by
    have ih := lin_add t f (fun i => h (i + 1)) fun i => k (i + 1)
    show (h 0 + t * k 0) * x + lin f (fun i => h (i + 1) + t * k (i + 1)) = (h 0 * x + lin f fun i => h (i + 1)) + t * (k 0 * x + lin f fun i => k (i + 1))
    rw [ih]; grind
theorem lin_dotV : ∀ f v : Vec, dotV f v = lin f (itm v)
  | [], v => by cases v <;> rfl
  | x :: f, [] => by
    have e : itm [] = fun _ => 0 := by funext i; rfl
    rw [e, lin_zero]; rfl
  | x :: f, y :: v => by
    have ih := lin_dotV f v
    have e : dotV (x :: f) (y :: v) = y * x + dotV f v := rfl
    rw [e, ih]; rfl
theorem zip_comm : ∀ (g v : Vec), List.zipWith (fun n t : Int => n * t) g v = List.zipWith (fun n t : Int => n * t) v g
  | [], [] => rfl
  | [], _ :: _ => rfl
  | _ :: _, [] => rfl
  | a :: g, b :: v => by rw [List.zipWith_cons_cons, List.zipWith_cons_cons, Int.mul_comm, zip_comm g v]
theorem dotL_dotV (g v : Vec) : dotL g v = dotV g v := by
  unfold dotL dotV
  rw [zip_comm]
theorem div_cl (f : Vec) (d : Int) : Cl fun h => d ∣ lin f h :=
  ⟨by show d ∣ lin f (fun _ => 0); rw [lin_zero]; exact Int.dvd_zero _, fun h k t a b => by
    show d ∣ lin f (fun i => h i + t * k i)
    rw [lin_add]; exact Int.dvd_add a (Int.dvd_mul_of_dvd_right b)⟩
theorem dvd_fold (d : Nat) (f : Vec) : ∀ (rs : List Vec) (m : Nat), d ∣ rs.foldl (fun m r => Nat.gcd m (dotV f r).natAbs) m ↔ d ∣ m ∧ ∀ r ∈ rs, (d : Int) ∣ lin f (itm r)
  | [], m => ⟨fun h => ⟨h, fun r h => nomatch h⟩, fun h => h.1⟩
  | r :: rs, m => by
    rw [List.foldl_cons, dvd_fold d f rs, Nat.dvd_gcd_iff, List.forall_mem_cons, ← lin_dotV, Int.ofNat_dvd_left, and_assoc]
theorem gcdL_fold (g : Vec) : ∀ (rs : List Vec) (m : Nat), (rs.map (dotL g)).foldl (fun g n => Nat.gcd g n.natAbs) m = rs.foldl (fun m r => Nat.gcd m (dotV g r).natAbs) m
  | [], _ => rfl
  | r :: rs, m => by
    rw [List.map_cons, List.foldl_cons, List.foldl_cons, dotL_dotV, gcdL_fold g rs]
theorem grows_cl {S : (Nat → Int) → Prop} (C : Cl S) {n : Nat} : ∀ (rs B : List Vec), (∀ r ∈ B, r.length = n) → (∀ r ∈ rs, r.length = n) → ((∀ r ∈ grows B rs, S (itm r)) ↔ ((∀ r ∈ B, S (itm r)) ∧ ∀ r ∈ rs, S (itm r)))
  | [], B, _, _ => ⟨fun h => ⟨h, fun r h => nomatch h⟩, fun h => h.1⟩
  | v :: rs, B, hB, h => by
    obtain ⟨l, h2⟩ := List.forall_mem_cons.mp h
    have e : grows B (v :: rs) = grows (grow B v) rs := rfl
    rw [e, grows_cl C rs (grow B v) (grow_len l hB) h2, grow_cl C (fun r hr => (hB r hr).trans l.symm), List.forall_mem_cons, and_assoc]
theorem math_gcd (n : Nat) (rs : List Vec) (hr : ∀ r ∈ rs, r.length = n ∧ Within 44 r) (g : Vec) : gcdV g (grows [] rs) = gcdL (rs.map (dotL g)) := by
  have e : gcdL (rs.map (dotL g)) = rs.foldl (fun m r => Nat.gcd m (dotV g r).natAbs) 0 := gcdL_fold g rs 0
  rw [e]
  have q : ∀ d : Nat, d ∣ (grows [] rs).foldl (fun m r => Nat.gcd m (dotV g r).natAbs) 0 ↔ d ∣ rs.foldl (fun m r => Nat.gcd m (dotV g r).natAbs) 0 := fun d => by
    rw [dvd_fold, dvd_fold, grows_cl (div_cl g d) (n := n) rs [] (fun r h => nomatch h) fun r h => (hr r h).1]
    exact ⟨fun h => ⟨h.1, h.2.2⟩, fun h => ⟨h.1, fun r h => (nomatch h), h.2⟩⟩
  exact Nat.dvd_antisymm ((q _).mp (Nat.dvd_refl _)) ((q _).mpr (Nat.dvd_refl _))
end K06

namespace K06
open PySem L2
theorem mathOk : MathOk := ⟨fun n rs _ h hr => math_ok n rs h hr, fun n rs _ h hr => math_mul n rs h hr, fun n rs _ _ hr g _ => math_gcd n rs hr g⟩
theorem facts {P : Program} {w : World} {K : PySem.W.Frag} {mg : Str → Option Value} {h : Heap} {fa : Addr} (MO : MathOk) (X : K.In h) (G : h.Ns mainGlobals mg) (hfa : mg "law" = some (.ref fa))
    {C fI fD T0 t0 f_is_integer f_is_sequence f_is_width f_is_vector f_are_vectors f_added f_value_at f_pivot_of f_is_zero f_reduced_by f_cleared f_stepped f_positive f_tidied f_grown f_law_box f_law_take f_law_small f_law_number f_law_rows f_law_common f_law_value f_law : Addr}
    {oc_Lattice_init kV_Lattice_init dc_Lattice_init pm_Lattice_init cd_Lattice_init ct_Lattice_init : Value} {od_Lattice_init an_Lattice_init : Option Addr} {sl_Lattice_init : Array (Option Value)}
    {ocT : Value} {odT od0 : Option Addr} {nT n0 : Nat} {slT sl0 : Array (Option Value)}
    {oc_Lattice_divisor kV_Lattice_divisor dc_Lattice_divisor pm_Lattice_divisor cd_Lattice_divisor ct_Lattice_divisor : Value} {od_Lattice_divisor an_Lattice_divisor : Option Addr} {sl_Lattice_divisor : Array (Option Value)}
    {oc_is_integer kV_is_integer dc_is_integer pm_is_integer cd_is_integer ct_is_integer : Value} {od_is_integer an_is_integer : Option Addr} {sl_is_integer : Array (Option Value)}
    {oc_is_sequence kV_is_sequence dc_is_sequence pm_is_sequence cd_is_sequence ct_is_sequence : Value} {od_is_sequence an_is_sequence : Option Addr} {sl_is_sequence : Array (Option Value)}
    {oc_is_width kV_is_width dc_is_width pm_is_width cd_is_width ct_is_width : Value} {od_is_width an_is_width : Option Addr} {sl_is_width : Array (Option Value)}
    {oc_is_vector kV_is_vector dc_is_vector pm_is_vector cd_is_vector ct_is_vector : Value} {od_is_vector an_is_vector : Option Addr} {sl_is_vector : Array (Option Value)}
    {oc_are_vectors kV_are_vectors dc_are_vectors pm_are_vectors cd_are_vectors ct_are_vectors : Value} {od_are_vectors an_are_vectors : Option Addr} {sl_are_vectors : Array (Option Value)}
    {oc_added kV_added dc_added pm_added cd_added ct_added : Value} {od_added an_added : Option Addr} {sl_added : Array (Option Value)}
    {oc_value_at kV_value_at dc_value_at pm_value_at cd_value_at ct_value_at : Value} {od_value_at an_value_at : Option Addr} {sl_value_at : Array (Option Value)}
    {oc_pivot_of kV_pivot_of dc_pivot_of pm_pivot_of cd_pivot_of ct_pivot_of : Value} {od_pivot_of an_pivot_of : Option Addr} {sl_pivot_of : Array (Option Value)}
    {oc_is_zero kV_is_zero dc_is_zero pm_is_zero cd_is_zero ct_is_zero : Value} {od_is_zero an_is_zero : Option Addr} {sl_is_zero : Array (Option Value)}
    {oc_reduced_by kV_reduced_by dc_reduced_by pm_reduced_by cd_reduced_by ct_reduced_by : Value} {od_reduced_by an_reduced_by : Option Addr} {sl_reduced_by : Array (Option Value)}
    {oc_cleared kV_cleared dc_cleared pm_cleared cd_cleared ct_cleared : Value} {od_cleared an_cleared : Option Addr} {sl_cleared : Array (Option Value)}
    {oc_stepped kV_stepped dc_stepped pm_stepped cd_stepped ct_stepped : Value} {od_stepped an_stepped : Option Addr} {sl_stepped : Array (Option Value)}
    {oc_positive kV_positive dc_positive pm_positive cd_positive ct_positive : Value} {od_positive an_positive : Option Addr} {sl_positive : Array (Option Value)}
    {oc_tidied kV_tidied dc_tidied pm_tidied cd_tidied ct_tidied : Value} {od_tidied an_tidied : Option Addr} {sl_tidied : Array (Option Value)}
    {oc_grown kV_grown dc_grown pm_grown cd_grown ct_grown : Value} {od_grown an_grown : Option Addr} {sl_grown : Array (Option Value)}
    {oc_law_box kV_law_box dc_law_box pm_law_box cd_law_box ct_law_box : Value} {od_law_box an_law_box : Option Addr} {sl_law_box : Array (Option Value)}
    {oc_law_take kV_law_take dc_law_take pm_law_take cd_law_take ct_law_take : Value} {od_law_take an_law_take : Option Addr} {sl_law_take : Array (Option Value)}
    {oc_law_small kV_law_small dc_law_small pm_law_small cd_law_small ct_law_small : Value} {od_law_small an_law_small : Option Addr} {sl_law_small : Array (Option Value)}
    {oc_law_number kV_law_number dc_law_number pm_law_number cd_law_number ct_law_number : Value} {od_law_number an_law_number : Option Addr} {sl_law_number : Array (Option Value)}
    {oc_law_rows kV_law_rows dc_law_rows pm_law_rows cd_law_rows ct_law_rows : Value} {od_law_rows an_law_rows : Option Addr} {sl_law_rows : Array (Option Value)}
    {oc_law_common kV_law_common dc_law_common pm_law_common cd_law_common ct_law_common : Value} {od_law_common an_law_common : Option Addr} {sl_law_common : Array (Option Value)}
    {oc_law_value kV_law_value dc_law_value pm_law_value cd_law_value ct_law_value : Value} {od_law_value an_law_value : Option Addr} {sl_law_value : Array (Option Value)}
    {oc_law kV_law dc_law pm_law cd_law ct_law : Value} {od_law an_law : Option Addr} {sl_law : Array (Option Value)}
    (aC : PySem.W.nsIn K mainGlobals "Lattice" = some (some (.ref C)))
    (pg : PySem.W.plainGet K C Str.empty = true)
    (hd : PySem.W.hasDictIn K C = true)
    (po : PySem.W.plainOver K C = true)
    (sa : PySem.W.findIn K (.ref C) "__setattr__" = some (some (.builtin "object.__setattr__")))
    (mk : PySem.W.makesIn K C = true)
    (ini : PySem.W.findIn K (.ref C) "__init__" = some (some (.ref fI)))
    (fnI : PySem.W.isFn K (.ref fI) = true)
    (kC : PySem.W.keepIn K (.ref C) = true)
    (nW : PySem.W.findIn K (.ref C) "width" = some none)
    (nB : PySem.W.findIn K (.ref C) "basis" = some none)
    (mD : PySem.W.findIn K (.ref C) "divisor" = some (some (.ref fD)))
    (fnD : PySem.W.isFn K (.ref fD) = true)
    (l_Lattice_init : K.lookup fI = some ⟨oc_Lattice_init, od_Lattice_init, .func (PySem.W.fnOf "__init__" "Lattice.__init__" (defArgs s_Lattice_init) (defBody s_Lattice_init) (defScope s_Lattice_init) (.ref T0) kV_Lattice_init dc_Lattice_init pm_Lattice_init an_Lattice_init cd_Lattice_init ct_Lattice_init), sl_Lattice_init⟩)
    (c_Lattice_init : PySem.W.codeIn K cd_Lattice_init "Lattice.__init__" = true)
    (k_Lattice_init : PySem.W.keepIn K (.ref fI) = true)
    (lT : K.lookup T0 = some ⟨ocT, odT, .seq #[.ref t0] nT, slT⟩)
    (l0 : K.lookup t0 = some ⟨.type "tuple", od0, .seq #[] n0, sl0⟩)
    (l_Lattice_divisor : K.lookup fD = some ⟨oc_Lattice_divisor, od_Lattice_divisor, .func (PySem.W.fnOf "divisor" "Lattice.divisor" (defArgs s_Lattice_divisor) (defBody s_Lattice_divisor) (defScope s_Lattice_divisor) .none kV_Lattice_divisor dc_Lattice_divisor pm_Lattice_divisor an_Lattice_divisor cd_Lattice_divisor ct_Lattice_divisor), sl_Lattice_divisor⟩)
    (c_Lattice_divisor : PySem.W.codeIn K cd_Lattice_divisor "Lattice.divisor" = true)
    (k_Lattice_divisor : PySem.W.keepIn K (.ref fD) = true)
    (a_is_integer : PySem.W.nsIn K mainGlobals "is_integer" = some (some (.ref f_is_integer)))
    (l_is_integer : K.lookup f_is_integer = some ⟨oc_is_integer, od_is_integer, .func (PySem.W.fnOf "is_integer" "is_integer" (defArgs s_is_integer) (defBody s_is_integer) (defScope s_is_integer) .none kV_is_integer dc_is_integer pm_is_integer an_is_integer cd_is_integer ct_is_integer), sl_is_integer⟩)
    (c_is_integer : PySem.W.codeIn K cd_is_integer "is_integer" = true)
    (k_is_integer : PySem.W.keepIn K (.ref f_is_integer) = true)
    (a_is_sequence : PySem.W.nsIn K mainGlobals "is_sequence" = some (some (.ref f_is_sequence)))
    (l_is_sequence : K.lookup f_is_sequence = some ⟨oc_is_sequence, od_is_sequence, .func (PySem.W.fnOf "is_sequence" "is_sequence" (defArgs s_is_sequence) (defBody s_is_sequence) (defScope s_is_sequence) .none kV_is_sequence dc_is_sequence pm_is_sequence an_is_sequence cd_is_sequence ct_is_sequence), sl_is_sequence⟩)
    (c_is_sequence : PySem.W.codeIn K cd_is_sequence "is_sequence" = true)
    (k_is_sequence : PySem.W.keepIn K (.ref f_is_sequence) = true)
    (a_is_width : PySem.W.nsIn K mainGlobals "is_width" = some (some (.ref f_is_width)))
    (l_is_width : K.lookup f_is_width = some ⟨oc_is_width, od_is_width, .func (PySem.W.fnOf "is_width" "is_width" (defArgs s_is_width) (defBody s_is_width) (defScope s_is_width) .none kV_is_width dc_is_width pm_is_width an_is_width cd_is_width ct_is_width), sl_is_width⟩)
    (c_is_width : PySem.W.codeIn K cd_is_width "is_width" = true)
    (k_is_width : PySem.W.keepIn K (.ref f_is_width) = true)
    (a_is_vector : PySem.W.nsIn K mainGlobals "is_vector" = some (some (.ref f_is_vector)))
    (l_is_vector : K.lookup f_is_vector = some ⟨oc_is_vector, od_is_vector, .func (PySem.W.fnOf "is_vector" "is_vector" (defArgs s_is_vector) (defBody s_is_vector) (defScope s_is_vector) .none kV_is_vector dc_is_vector pm_is_vector an_is_vector cd_is_vector ct_is_vector), sl_is_vector⟩)
    (c_is_vector : PySem.W.codeIn K cd_is_vector "is_vector" = true)
    (k_is_vector : PySem.W.keepIn K (.ref f_is_vector) = true)
    (a_are_vectors : PySem.W.nsIn K mainGlobals "are_vectors" = some (some (.ref f_are_vectors)))
    (l_are_vectors : K.lookup f_are_vectors = some ⟨oc_are_vectors, od_are_vectors, .func (PySem.W.fnOf "are_vectors" "are_vectors" (defArgs s_are_vectors) (defBody s_are_vectors) (defScope s_are_vectors) .none kV_are_vectors dc_are_vectors pm_are_vectors an_are_vectors cd_are_vectors ct_are_vectors), sl_are_vectors⟩)
    (c_are_vectors : PySem.W.codeIn K cd_are_vectors "are_vectors" = true)
    (k_are_vectors : PySem.W.keepIn K (.ref f_are_vectors) = true)
    (a_added : PySem.W.nsIn K mainGlobals "added" = some (some (.ref f_added)))
    (l_added : K.lookup f_added = some ⟨oc_added, od_added, .func (PySem.W.fnOf "added" "added" (defArgs s_added) (defBody s_added) (defScope s_added) .none kV_added dc_added pm_added an_added cd_added ct_added), sl_added⟩)
    (c_added : PySem.W.codeIn K cd_added "added" = true)
    (k_added : PySem.W.keepIn K (.ref f_added) = true)
    (a_value_at : PySem.W.nsIn K mainGlobals "value_at" = some (some (.ref f_value_at)))
    (l_value_at : K.lookup f_value_at = some ⟨oc_value_at, od_value_at, .func (PySem.W.fnOf "value_at" "value_at" (defArgs s_value_at) (defBody s_value_at) (defScope s_value_at) .none kV_value_at dc_value_at pm_value_at an_value_at cd_value_at ct_value_at), sl_value_at⟩)
    (c_value_at : PySem.W.codeIn K cd_value_at "value_at" = true)
    (k_value_at : PySem.W.keepIn K (.ref f_value_at) = true)
    (a_pivot_of : PySem.W.nsIn K mainGlobals "pivot_of" = some (some (.ref f_pivot_of)))
    (l_pivot_of : K.lookup f_pivot_of = some ⟨oc_pivot_of, od_pivot_of, .func (PySem.W.fnOf "pivot_of" "pivot_of" (defArgs s_pivot_of) (defBody s_pivot_of) (defScope s_pivot_of) .none kV_pivot_of dc_pivot_of pm_pivot_of an_pivot_of cd_pivot_of ct_pivot_of), sl_pivot_of⟩)
    (c_pivot_of : PySem.W.codeIn K cd_pivot_of "pivot_of" = true)
    (k_pivot_of : PySem.W.keepIn K (.ref f_pivot_of) = true)
    (a_is_zero : PySem.W.nsIn K mainGlobals "is_zero" = some (some (.ref f_is_zero)))
    (l_is_zero : K.lookup f_is_zero = some ⟨oc_is_zero, od_is_zero, .func (PySem.W.fnOf "is_zero" "is_zero" (defArgs s_is_zero) (defBody s_is_zero) (defScope s_is_zero) .none kV_is_zero dc_is_zero pm_is_zero an_is_zero cd_is_zero ct_is_zero), sl_is_zero⟩)
    (c_is_zero : PySem.W.codeIn K cd_is_zero "is_zero" = true)
    (k_is_zero : PySem.W.keepIn K (.ref f_is_zero) = true)
    (a_reduced_by : PySem.W.nsIn K mainGlobals "reduced_by" = some (some (.ref f_reduced_by)))
    (l_reduced_by : K.lookup f_reduced_by = some ⟨oc_reduced_by, od_reduced_by, .func (PySem.W.fnOf "reduced_by" "reduced_by" (defArgs s_reduced_by) (defBody s_reduced_by) (defScope s_reduced_by) .none kV_reduced_by dc_reduced_by pm_reduced_by an_reduced_by cd_reduced_by ct_reduced_by), sl_reduced_by⟩)
    (c_reduced_by : PySem.W.codeIn K cd_reduced_by "reduced_by" = true)
    (k_reduced_by : PySem.W.keepIn K (.ref f_reduced_by) = true)
    (a_cleared : PySem.W.nsIn K mainGlobals "cleared" = some (some (.ref f_cleared)))
    (l_cleared : K.lookup f_cleared = some ⟨oc_cleared, od_cleared, .func (PySem.W.fnOf "cleared" "cleared" (defArgs s_cleared) (defBody s_cleared) (defScope s_cleared) .none kV_cleared dc_cleared pm_cleared an_cleared cd_cleared ct_cleared), sl_cleared⟩)
    (c_cleared : PySem.W.codeIn K cd_cleared "cleared" = true)
    (k_cleared : PySem.W.keepIn K (.ref f_cleared) = true)
    (a_stepped : PySem.W.nsIn K mainGlobals "stepped" = some (some (.ref f_stepped)))
    (l_stepped : K.lookup f_stepped = some ⟨oc_stepped, od_stepped, .func (PySem.W.fnOf "stepped" "stepped" (defArgs s_stepped) (defBody s_stepped) (defScope s_stepped) .none kV_stepped dc_stepped pm_stepped an_stepped cd_stepped ct_stepped), sl_stepped⟩)
    (c_stepped : PySem.W.codeIn K cd_stepped "stepped" = true)
    (k_stepped : PySem.W.keepIn K (.ref f_stepped) = true)
    (a_positive : PySem.W.nsIn K mainGlobals "positive" = some (some (.ref f_positive)))
    (l_positive : K.lookup f_positive = some ⟨oc_positive, od_positive, .func (PySem.W.fnOf "positive" "positive" (defArgs s_positive) (defBody s_positive) (defScope s_positive) .none kV_positive dc_positive pm_positive an_positive cd_positive ct_positive), sl_positive⟩)
    (c_positive : PySem.W.codeIn K cd_positive "positive" = true)
    (k_positive : PySem.W.keepIn K (.ref f_positive) = true)
    (a_tidied : PySem.W.nsIn K mainGlobals "tidied" = some (some (.ref f_tidied)))
    (l_tidied : K.lookup f_tidied = some ⟨oc_tidied, od_tidied, .func (PySem.W.fnOf "tidied" "tidied" (defArgs s_tidied) (defBody s_tidied) (defScope s_tidied) .none kV_tidied dc_tidied pm_tidied an_tidied cd_tidied ct_tidied), sl_tidied⟩)
    (c_tidied : PySem.W.codeIn K cd_tidied "tidied" = true)
    (k_tidied : PySem.W.keepIn K (.ref f_tidied) = true)
    (a_grown : PySem.W.nsIn K mainGlobals "grown" = some (some (.ref f_grown)))
    (l_grown : K.lookup f_grown = some ⟨oc_grown, od_grown, .func (PySem.W.fnOf "grown" "grown" (defArgs s_grown) (defBody s_grown) (defScope s_grown) .none kV_grown dc_grown pm_grown an_grown cd_grown ct_grown), sl_grown⟩)
    (c_grown : PySem.W.codeIn K cd_grown "grown" = true)
    (k_grown : PySem.W.keepIn K (.ref f_grown) = true)
    (a_law_box : PySem.W.nsIn K mainGlobals "_law_box" = some (some (.ref f_law_box)))
    (l_law_box : K.lookup f_law_box = some ⟨oc_law_box, od_law_box, .func (PySem.W.fnOf "_law_box" "_law_box" (defArgs s_law_box) (defBody s_law_box) (defScope s_law_box) .none kV_law_box dc_law_box pm_law_box an_law_box cd_law_box ct_law_box), sl_law_box⟩)
    (c_law_box : PySem.W.codeIn K cd_law_box "_law_box" = true)
    (k_law_box : PySem.W.keepIn K (.ref f_law_box) = true)
    (a_law_take : PySem.W.nsIn K mainGlobals "_law_take" = some (some (.ref f_law_take)))
    (l_law_take : K.lookup f_law_take = some ⟨oc_law_take, od_law_take, .func (PySem.W.fnOf "_law_take" "_law_take" (defArgs s_law_take) (defBody s_law_take) (defScope s_law_take) .none kV_law_take dc_law_take pm_law_take an_law_take cd_law_take ct_law_take), sl_law_take⟩)
    (c_law_take : PySem.W.codeIn K cd_law_take "_law_take" = true)
    (k_law_take : PySem.W.keepIn K (.ref f_law_take) = true)
    (a_law_small : PySem.W.nsIn K mainGlobals "_law_small" = some (some (.ref f_law_small)))
    (l_law_small : K.lookup f_law_small = some ⟨oc_law_small, od_law_small, .func (PySem.W.fnOf "_law_small" "_law_small" (defArgs s_law_small) (defBody s_law_small) (defScope s_law_small) .none kV_law_small dc_law_small pm_law_small an_law_small cd_law_small ct_law_small), sl_law_small⟩)
    (c_law_small : PySem.W.codeIn K cd_law_small "_law_small" = true)
    (k_law_small : PySem.W.keepIn K (.ref f_law_small) = true)
    (a_law_number : PySem.W.nsIn K mainGlobals "_law_number" = some (some (.ref f_law_number)))
    (l_law_number : K.lookup f_law_number = some ⟨oc_law_number, od_law_number, .func (PySem.W.fnOf "_law_number" "_law_number" (defArgs s_law_number) (defBody s_law_number) (defScope s_law_number) .none kV_law_number dc_law_number pm_law_number an_law_number cd_law_number ct_law_number), sl_law_number⟩)
    (c_law_number : PySem.W.codeIn K cd_law_number "_law_number" = true)
    (k_law_number : PySem.W.keepIn K (.ref f_law_number) = true)
    (a_law_rows : PySem.W.nsIn K mainGlobals "_law_rows" = some (some (.ref f_law_rows)))
    (l_law_rows : K.lookup f_law_rows = some ⟨oc_law_rows, od_law_rows, .func (PySem.W.fnOf "_law_rows" "_law_rows" (defArgs s_law_rows) (defBody s_law_rows) (defScope s_law_rows) .none kV_law_rows dc_law_rows pm_law_rows an_law_rows cd_law_rows ct_law_rows), sl_law_rows⟩)
    (c_law_rows : PySem.W.codeIn K cd_law_rows "_law_rows" = true)
    (k_law_rows : PySem.W.keepIn K (.ref f_law_rows) = true)
    (a_law_common : PySem.W.nsIn K mainGlobals "_law_common" = some (some (.ref f_law_common)))
    (l_law_common : K.lookup f_law_common = some ⟨oc_law_common, od_law_common, .func (PySem.W.fnOf "_law_common" "_law_common" (defArgs s_law_common) (defBody s_law_common) (defScope s_law_common) .none kV_law_common dc_law_common pm_law_common an_law_common cd_law_common ct_law_common), sl_law_common⟩)
    (c_law_common : PySem.W.codeIn K cd_law_common "_law_common" = true)
    (k_law_common : PySem.W.keepIn K (.ref f_law_common) = true)
    (a_law_value : PySem.W.nsIn K mainGlobals "_law_value" = some (some (.ref f_law_value)))
    (l_law_value : K.lookup f_law_value = some ⟨oc_law_value, od_law_value, .func (PySem.W.fnOf "_law_value" "_law_value" (defArgs s_law_value) (defBody s_law_value) (defScope s_law_value) .none kV_law_value dc_law_value pm_law_value an_law_value cd_law_value ct_law_value), sl_law_value⟩)
    (c_law_value : PySem.W.codeIn K cd_law_value "_law_value" = true)
    (k_law_value : PySem.W.keepIn K (.ref f_law_value) = true)
    (a_law : PySem.W.nsIn K mainGlobals "law" = some (some (.ref f_law)))
    (l_law : K.lookup f_law = some ⟨oc_law, od_law, .func (PySem.W.fnOf "law" "law" (defArgs s_law) (defBody s_law) (defScope s_law) .none kV_law dc_law pm_law an_law cd_law ct_law), sl_law⟩)
    (c_law : PySem.W.codeIn K cd_law "law" = true)
    (k_law : PySem.W.keepIn K (.ref f_law) = true)
    (z_len : PySem.W.nsIn K mainGlobals "len" = some none)
    (z_abs : PySem.W.nsIn K mainGlobals "abs" = some none)
    (z_int : PySem.W.nsIn K mainGlobals "int" = some none)
    (z_max : PySem.W.nsIn K mainGlobals "max" = some none)
    (z_min : PySem.W.nsIn K mainGlobals "min" = some none)
    (z_range : PySem.W.nsIn K mainGlobals "range" = some none)
    (z_enumerate : PySem.W.nsIn K mainGlobals "enumerate" = some none)
    (z_isinstance : PySem.W.nsIn K mainGlobals "isinstance" = some none)
    (z_repr : PySem.W.nsIn K mainGlobals "repr" = some none)
    (z_zip : PySem.W.nsIn K mainGlobals "zip" = some none)
    (z_sum : PySem.W.nsIn K mainGlobals "sum" = some none)
    (z_all : PySem.W.nsIn K mainGlobals "all" = some none)
    (z_tuple : PySem.W.nsIn K mainGlobals "tuple" = some none)
    (z_list : PySem.W.nsIn K mainGlobals "list" = some none)
    (z_bool : PySem.W.nsIn K mainGlobals "bool" = some none)
    (m_gcd : PySem.W.nsIn K mainGlobals "gcd" = some (some (.builtin "math.gcd")))
    : ∃ fd : FuncData, (∀ (s : Shared) (u : Value), BindsTo s fd ⟨[u], []⟩ [("_law_script", u)]) ∧ ∀ base : Heap, K.In base → base.Ns mainGlobals mg → FnOk P w K mg base CX0 8 fa fd ["_law_script"] (spLaw K) := by
  cases hfa.symm.trans (PySem.W.mg_of X G a_law)
  have T : Txt mg := ⟨PySem.W.mg_none_of X G z_len, PySem.W.mg_none_of X G z_abs, PySem.W.mg_none_of X G z_int, PySem.W.mg_none_of X G z_max, PySem.W.mg_none_of X G z_min, PySem.W.mg_none_of X G z_range, PySem.W.mg_none_of X G z_enumerate, PySem.W.mg_none_of X G z_isinstance, PySem.W.mg_none_of X G z_repr, PySem.W.mg_none_of X G z_zip, PySem.W.mg_none_of X G z_sum, PySem.W.mg_none_of X G z_all, PySem.W.mg_none_of X G z_tuple, PySem.W.mg_none_of X G z_list, PySem.W.mg_none_of X G z_bool, PySem.W.mg_of X G m_gcd⟩
  have CL : ClsL K mg C := ⟨⟨pg, hd, po, sa⟩, nW, nB, PySem.W.mg_of X G aC⟩
  have D_is_integer := fun_mk (st := s_is_integer) l_is_integer c_is_integer k_is_integer
  have A_is_integer : DefAt K mg "is_integer" s_is_integer ["value"] := ⟨f_is_integer, _, D_is_integer, PySem.W.mg_of X G a_is_integer, D_is_integer.binds (fun _ _ _ _ _ _ us hl => match us, hl with | [_], _ => rfl)⟩
  have D_is_sequence := fun_mk (st := s_is_sequence) l_is_sequence c_is_sequence k_is_sequence
  have A_is_sequence : DefAt K mg "is_sequence" s_is_sequence ["value"] := ⟨f_is_sequence, _, D_is_sequence, PySem.W.mg_of X G a_is_sequence, D_is_sequence.binds (fun _ _ _ _ _ _ us hl => match us, hl with | [_], _ => rfl)⟩
  have D_is_width := fun_mk (st := s_is_width) l_is_width c_is_width k_is_width
  have A_is_width : DefAt K mg "is_width" s_is_width ["value"] := ⟨f_is_width, _, D_is_width, PySem.W.mg_of X G a_is_width, D_is_width.binds (fun _ _ _ _ _ _ us hl => match us, hl with | [_], _ => rfl)⟩
  have D_is_vector := fun_mk (st := s_is_vector) l_is_vector c_is_vector k_is_vector
  have A_is_vector : DefAt K mg "is_vector" s_is_vector ["value", "width"] := ⟨f_is_vector, _, D_is_vector, PySem.W.mg_of X G a_is_vector, D_is_vector.binds (fun _ _ _ _ _ _ us hl => match us, hl with | [_, _], _ => rfl)⟩
  have D_are_vectors := fun_mk (st := s_are_vectors) l_are_vectors c_are_vectors k_are_vectors
  have A_are_vectors : DefAt K mg "are_vectors" s_are_vectors ["value", "width"] := ⟨f_are_vectors, _, D_are_vectors, PySem.W.mg_of X G a_are_vectors, D_are_vectors.binds (fun _ _ _ _ _ _ us hl => match us, hl with | [_, _], _ => rfl)⟩
  have D_added := fun_mk (st := s_added) l_added c_added k_added
  have A_added : DefAt K mg "added" s_added ["vector", "times", "other"] := ⟨f_added, _, D_added, PySem.W.mg_of X G a_added, D_added.binds (fun _ _ _ _ _ _ us hl => match us, hl with | [_, _, _], _ => rfl)⟩
  have D_value_at := fun_mk (st := s_value_at) l_value_at c_value_at k_value_at
  have A_value_at : DefAt K mg "value_at" s_value_at ["form", "vector"] := ⟨f_value_at, _, D_value_at, PySem.W.mg_of X G a_value_at, D_value_at.binds (fun _ _ _ _ _ _ us hl => match us, hl with | [_, _], _ => rfl)⟩
  have D_pivot_of := fun_mk (st := s_pivot_of) l_pivot_of c_pivot_of k_pivot_of
  have A_pivot_of : DefAt K mg "pivot_of" s_pivot_of ["vector"] := ⟨f_pivot_of, _, D_pivot_of, PySem.W.mg_of X G a_pivot_of, D_pivot_of.binds (fun _ _ _ _ _ _ us hl => match us, hl with | [_], _ => rfl)⟩
  have D_is_zero := fun_mk (st := s_is_zero) l_is_zero c_is_zero k_is_zero
  have A_is_zero : DefAt K mg "is_zero" s_is_zero ["vector"] := ⟨f_is_zero, _, D_is_zero, PySem.W.mg_of X G a_is_zero, D_is_zero.binds (fun _ _ _ _ _ _ us hl => match us, hl with | [_], _ => rfl)⟩
  have D_reduced_by := fun_mk (st := s_reduced_by) l_reduced_by c_reduced_by k_reduced_by
  have A_reduced_by : DefAt K mg "reduced_by" s_reduced_by ["basis", "vector"] := ⟨f_reduced_by, _, D_reduced_by, PySem.W.mg_of X G a_reduced_by, D_reduced_by.binds (fun _ _ _ _ _ _ us hl => match us, hl with | [_, _], _ => rfl)⟩
  have D_cleared := fun_mk (st := s_cleared) l_cleared c_cleared k_cleared
  have A_cleared : DefAt K mg "cleared" s_cleared ["row", "vector", "at"] := ⟨f_cleared, _, D_cleared, PySem.W.mg_of X G a_cleared, D_cleared.binds (fun _ _ _ _ _ _ us hl => match us, hl with | [_, _, _], _ => rfl)⟩
  have D_stepped := fun_mk (st := s_stepped) l_stepped c_stepped k_stepped
  have A_stepped : DefAt K mg "stepped" s_stepped ["steps", "vector"] := ⟨f_stepped, _, D_stepped, PySem.W.mg_of X G a_stepped, D_stepped.binds (fun _ _ _ _ _ _ us hl => match us, hl with | [_, _], _ => rfl)⟩
  have D_positive := fun_mk (st := s_positive) l_positive c_positive k_positive
  have A_positive : DefAt K mg "positive" s_positive ["row"] := ⟨f_positive, _, D_positive, PySem.W.mg_of X G a_positive, D_positive.binds (fun _ _ _ _ _ _ us hl => match us, hl with | [_], _ => rfl)⟩
  have D_tidied := fun_mk (st := s_tidied) l_tidied c_tidied k_tidied
  have A_tidied : DefAt K mg "tidied" s_tidied ["steps"] := ⟨f_tidied, _, D_tidied, PySem.W.mg_of X G a_tidied, D_tidied.binds (fun _ _ _ _ _ _ us hl => match us, hl with | [_], _ => rfl)⟩
  have D_grown := fun_mk (st := s_grown) l_grown c_grown k_grown
  have A_grown : DefAt K mg "grown" s_grown ["basis", "vector"] := ⟨f_grown, _, D_grown, PySem.W.mg_of X G a_grown, D_grown.binds (fun _ _ _ _ _ _ us hl => match us, hl with | [_, _], _ => rfl)⟩
  have D_law_box := fun_mk (st := s_law_box) l_law_box c_law_box k_law_box
  have A_law_box : DefAt K mg "_law_box" s_law_box ["_law_script", "_law_k", "_law_own"] := ⟨f_law_box, _, D_law_box, PySem.W.mg_of X G a_law_box, D_law_box.binds (fun _ _ _ _ _ _ us hl => match us, hl with | [_, _, _], _ => rfl)⟩
  have D_law_take := fun_mk (st := s_law_take) l_law_take c_law_take k_law_take
  have A_law_take : DefAt K mg "_law_take" s_law_take ["_law_box_here", "_law_many"] := ⟨f_law_take, _, D_law_take, PySem.W.mg_of X G a_law_take, D_law_take.binds (fun _ _ _ _ _ _ us hl => match us, hl with | [_, _], _ => rfl)⟩
  have D_law_small := fun_mk (st := s_law_small) l_law_small c_law_small k_law_small
  have A_law_small : DefAt K mg "_law_small" s_law_small ["_law_box_here"] := ⟨f_law_small, _, D_law_small, PySem.W.mg_of X G a_law_small, D_law_small.binds (fun _ _ _ _ _ _ us hl => match us, hl with | [_], _ => rfl)⟩
  have D_law_number := fun_mk (st := s_law_number) l_law_number c_law_number k_law_number
  have A_law_number : DefAt K mg "_law_number" s_law_number ["_law_box_here"] := ⟨f_law_number, _, D_law_number, PySem.W.mg_of X G a_law_number, D_law_number.binds (fun _ _ _ _ _ _ us hl => match us, hl with | [_], _ => rfl)⟩
  have D_law_rows := fun_mk (st := s_law_rows) l_law_rows c_law_rows k_law_rows
  have A_law_rows : DefAt K mg "_law_rows" s_law_rows ["_law_box_here", "_law_width", "_law_many", "_law_is_great"] := ⟨f_law_rows, _, D_law_rows, PySem.W.mg_of X G a_law_rows, D_law_rows.binds (fun _ _ _ _ _ _ us hl => match us, hl with | [_, _, _, _], _ => rfl)⟩
  have D_law_common := fun_mk (st := s_law_common) l_law_common c_law_common k_law_common
  have A_law_common : DefAt K mg "_law_common" s_law_common ["_law_numbers"] := ⟨f_law_common, _, D_law_common, PySem.W.mg_of X G a_law_common, D_law_common.binds (fun _ _ _ _ _ _ us hl => match us, hl with | [_], _ => rfl)⟩
  have D_law_value := fun_mk (st := s_law_value) l_law_value c_law_value k_law_value
  have A_law_value : DefAt K mg "_law_value" s_law_value ["_law_form", "_law_row"] := ⟨f_law_value, _, D_law_value, PySem.W.mg_of X G a_law_value, D_law_value.binds (fun _ _ _ _ _ _ us hl => match us, hl with | [_, _], _ => rfl)⟩
  have D_law := fun_mk (st := s_law) l_law c_law k_law
  have D_div := fun_mk (st := s_Lattice_divisor) l_Lattice_divisor c_Lattice_divisor k_Lattice_divisor
  have FI : FunD K "__init__" "Lattice.__init__" (defArgs s_Lattice_init) (defBody s_Lattice_init) (defScope s_Lattice_init) [V.ref t0] [] fI _ := ⟨⟨_, _, _, _, _, _, _, _, _, _, rfl, l_Lattice_init, c_Lattice_init, .inr ⟨(fun z => nomatch z), T0, _, [.ref t0], nT, rfl, lT, rfl, .cons rfl .nil⟩, .inl rfl⟩, k_Lattice_init⟩
  obtain ⟨d0, v0, b0⟩ := FI.binds1 (ps := ["self", "width", "rows"]) 3 1 (fun z => nomatch z) rfl (fun _ _ _ _ _ _ _ us its hu hi => match us, hu, its, hi with | [_, _, _], _, [_], _ => ⟨_, rfl, rfl⟩)
  obtain ⟨d1, v1, b1⟩ := FI.binds1 (ps := ["self", "width", "rows"]) 2 0 (fun z => nomatch z) rfl (fun _ _ _ _ _ _ _ us its hu hi => match us, hu, its, hi with | [_, _], _, [_], _ => ⟨_, rfl, rfl⟩)
  cases v0
  have hb : ∀ (s : Shared) (u : Value), BindsTo s (PySem.W.fnOf "law" "law" (defArgs s_law) (defBody s_law) (defScope s_law) .none kV_law dc_law pm_law an_law cd_law ct_law) ⟨[u], []⟩ [("_law_script", u)] := fun s u => .of_eq rfl
  refine ⟨_, hb, fun base _ _ => ?_⟩
  have g_is_integer := ok_is_integer (P := P) (w := w) (base := base) T A_is_integer
  have g_is_sequence := ok_is_sequence (P := P) (w := w) (base := base) T A_is_sequence
  have g_is_width := ok_is_width (P := P) (w := w) (base := base) T g_is_integer A_is_width
  have g_is_vector := ok_is_vector (P := P) (w := w) (base := base) T g_is_integer A_is_vector
  have g_are_vectors := ok_are_vectors (P := P) (w := w) (base := base) T g_is_sequence g_is_vector A_are_vectors
  have g_added := ok_added (P := P) (w := w) (base := base) T A_added
  have g_value_at := ok_value_at (P := P) (w := w) (base := base) T A_value_at
  have g_pivot_of := ok_pivot_of (P := P) (w := w) (base := base) T A_pivot_of
  have g_is_zero := ok_is_zero (P := P) (w := w) (base := base) T g_pivot_of A_is_zero
  have g_reduced_by := ok_reduced_by (P := P) (w := w) (base := base) T g_pivot_of g_added A_reduced_by
  have g_cleared := ok_cleared (P := P) (w := w) (base := base) T g_added A_cleared
  have g_stepped := ok_stepped (P := P) (w := w) (base := base) T g_pivot_of g_cleared g_is_zero A_stepped
  have g_positive := ok_positive (P := P) (w := w) (base := base) T g_pivot_of g_added A_positive
  have g_tidied := ok_tidied (P := P) (w := w) (base := base) T g_positive g_reduced_by A_tidied
  have g_grown := ok_grown (P := P) (w := w) (base := base) T g_reduced_by g_is_zero g_stepped g_tidied A_grown
  have g_box := ok_box (P := P) (w := w) (base := base) T A_law_box
  have g_take := ok_take (P := P) (w := w) (base := base) T A_law_take
  have g_small := ok_small (P := P) (w := w) (base := base) T g_take A_law_small
  have g_number := ok_number (P := P) (w := w) (base := base) T g_take A_law_number
  have g_rows := ok_rows (P := P) (w := w) (base := base) T g_take g_small g_number A_law_rows
  have g_common := ok_common (P := P) (w := w) (base := base) T A_law_common
  have g_value := ok_value (P := P) (w := w) (base := base) T A_law_value
  have gL := ok_lattice (P := P) (w := w) (base := base) T CL g_is_width g_are_vectors g_grown FI
  have gD := ok_divisor (P := P) (w := w) (base := base) T CL g_value_at D_div
  exact ok_law MO T CL ⟨mk, ini, fnI, kC⟩ gL b0 ⟨_, l0, rfl⟩ (fun H => .inr ⟨_, _, _, l0, rfl, rfl, Nat.zero_le _, .nil⟩) v1 b1 ⟨mD, fnD, k_Lattice_divisor⟩ gD (D_div.binds (ps := ["self", "form"]) (fun _ _ _ _ _ _ us hl => match us, hl with | [_, _], _ => rfl)) D_law g_box g_take g_number g_rows g_common g_value
end K06

open PySem PySem.W PyProof.Rows in
set_option maxRecDepth 100000 in
set_option maxHeartbeats 0 in
theorem PySem.Challenge.cw_sumlives_k06_divisors_of_forms_holds : PySem.Challenge.rw_sumlives_k06_divisors_of_forms.Holds := by
  w_on; o_law; k_head; (case hw => w_witness2)
  k_fill
  refine L2.walk_ofK (l := PySem.Challenge.rw_sumlives_k06_divisors_of_forms) (n := 63) (k := 8) (CX := L2.CX0) (sp := K06.spLaw) (x := "_law_script") rfl (by decide) rfl ⟨rfl, by decide, by decide⟩ (fun w h Y => PySem.W.kIn_of Y) ?F (fun K H a ns hl _ hS => ⟨a, ns, rfl, hS, hl, fun _ => rfl⟩) (fun _ _ _ _ h => h)
  case F =>
    intro w mg fa h KX G hmg
    refine' K06.facts K06.mathOk KX G hmg ?aC ?pg ?hd ?po ?sa ?mk ?ini ?fnI ?kC ?nW ?nB ?mD ?fnD ?l_Lattice_init ?c_Lattice_init ?k_Lattice_init ?lT ?l0 ?l_Lattice_divisor ?c_Lattice_divisor ?k_Lattice_divisor ?a_is_integer ?l_is_integer ?c_is_integer ?k_is_integer ?a_is_sequence ?l_is_sequence ?c_is_sequence ?k_is_sequence ?a_is_width ?l_is_width ?c_is_width ?k_is_width ?a_is_vector ?l_is_vector ?c_is_vector ?k_is_vector ?a_are_vectors ?l_are_vectors ?c_are_vectors ?k_are_vectors ?a_added ?l_added ?c_added ?k_added ?a_value_at ?l_value_at ?c_value_at ?k_value_at ?a_pivot_of ?l_pivot_of ?c_pivot_of ?k_pivot_of ?a_is_zero ?l_is_zero ?c_is_zero ?k_is_zero ?a_reduced_by ?l_reduced_by ?c_reduced_by ?k_reduced_by ?a_cleared ?l_cleared ?c_cleared ?k_cleared ?a_stepped ?l_stepped ?c_stepped ?k_stepped ?a_positive ?l_positive ?c_positive ?k_positive ?a_tidied ?l_tidied ?c_tidied ?k_tidied ?a_grown ?l_grown ?c_grown ?k_grown ?a_law_box ?l_law_box ?c_law_box ?k_law_box ?a_law_take ?l_law_take ?c_law_take ?k_law_take ?a_law_small ?l_law_small ?c_law_small ?k_law_small ?a_law_number ?l_law_number ?c_law_number ?k_law_number ?a_law_rows ?l_law_rows ?c_law_rows ?k_law_rows ?a_law_common ?l_law_common ?c_law_common ?k_law_common ?a_law_value ?l_law_value ?c_law_value ?k_law_value ?a_law ?l_law ?c_law ?k_law ?z_len ?z_abs ?z_int ?z_max ?z_min ?z_range ?z_enumerate ?z_isinstance ?z_repr ?z_zip ?z_sum ?z_all ?z_tuple ?z_list ?z_bool ?m_gcd
    (case aC => k_is)
    (case pg => k_is)
    (case hd => k_is)
    (case po => k_is)
    (case sa => k_is)
    (case mk => k_is)
    (case ini => k_is)
    (case fnI => k_is)
    (case kC => k_is)
    (case nW => k_is)
    (case nB => k_is)
    (case mD => k_is)
    (case fnD => k_is)
    (case l_Lattice_init => k_is)
    (case c_Lattice_init => k_is)
    (case k_Lattice_init => k_is)
    (case lT => k_is)
    (case l0 => k_is)
    (case l_Lattice_divisor => k_is)
    (case c_Lattice_divisor => k_is)
    (case k_Lattice_divisor => k_is)
    (case a_is_integer => k_is)
    (case l_is_integer => k_is)
    (case c_is_integer => k_is)
    (case k_is_integer => k_is)
    (case a_is_sequence => k_is)
    (case l_is_sequence => k_is)
    (case c_is_sequence => k_is)
    (case k_is_sequence => k_is)
    (case a_is_width => k_is)
    (case l_is_width => k_is)
    (case c_is_width => k_is)
    (case k_is_width => k_is)
    (case a_is_vector => k_is)
    (case l_is_vector => k_is)
    (case c_is_vector => k_is)
    (case k_is_vector => k_is)
    (case a_are_vectors => k_is)
    (case l_are_vectors => k_is)
    (case c_are_vectors => k_is)
    (case k_are_vectors => k_is)
    (case a_added => k_is)
    (case l_added => k_is)
    (case c_added => k_is)
    (case k_added => k_is)
    (case a_value_at => k_is)
    (case l_value_at => k_is)
    (case c_value_at => k_is)
    (case k_value_at => k_is)
    (case a_pivot_of => k_is)
    (case l_pivot_of => k_is)
    (case c_pivot_of => k_is)
    (case k_pivot_of => k_is)
    (case a_is_zero => k_is)
    (case l_is_zero => k_is)
    (case c_is_zero => k_is)
    (case k_is_zero => k_is)
    (case a_reduced_by => k_is)
    (case l_reduced_by => k_is)
    (case c_reduced_by => k_is)
    (case k_reduced_by => k_is)
    (case a_cleared => k_is)
    (case l_cleared => k_is)
    (case c_cleared => k_is)
    (case k_cleared => k_is)
    (case a_stepped => k_is)
    (case l_stepped => k_is)
    (case c_stepped => k_is)
    (case k_stepped => k_is)
    (case a_positive => k_is)
    (case l_positive => k_is)
    (case c_positive => k_is)
    (case k_positive => k_is)
    (case a_tidied => k_is)
    (case l_tidied => k_is)
    (case c_tidied => k_is)
    (case k_tidied => k_is)
    (case a_grown => k_is)
    (case l_grown => k_is)
    (case c_grown => k_is)
    (case k_grown => k_is)
    (case a_law_box => k_is)
    (case l_law_box => k_is)
    (case c_law_box => k_is)
    (case k_law_box => k_is)
    (case a_law_take => k_is)
    (case l_law_take => k_is)
    (case c_law_take => k_is)
    (case k_law_take => k_is)
    (case a_law_small => k_is)
    (case l_law_small => k_is)
    (case c_law_small => k_is)
    (case k_law_small => k_is)
    (case a_law_number => k_is)
    (case l_law_number => k_is)
    (case c_law_number => k_is)
    (case k_law_number => k_is)
    (case a_law_rows => k_is)
    (case l_law_rows => k_is)
    (case c_law_rows => k_is)
    (case k_law_rows => k_is)
    (case a_law_common => k_is)
    (case l_law_common => k_is)
    (case c_law_common => k_is)
    (case k_law_common => k_is)
    (case a_law_value => k_is)
    (case l_law_value => k_is)
    (case c_law_value => k_is)
    (case k_law_value => k_is)
    (case a_law => k_is)
    (case l_law => k_is)
    (case c_law => k_is)
    (case k_law => k_is)
    (case z_len => k_is)
    (case z_abs => k_is)
    (case z_int => k_is)
    (case z_max => k_is)
    (case z_min => k_is)
    (case z_range => k_is)
    (case z_enumerate => k_is)
    (case z_isinstance => k_is)
    (case z_repr => k_is)
    (case z_zip => k_is)
    (case z_sum => k_is)
    (case z_all => k_is)
    (case z_tuple => k_is)
    (case z_list => k_is)
    (case z_bool => k_is)
    (case m_gcd => k_is)
