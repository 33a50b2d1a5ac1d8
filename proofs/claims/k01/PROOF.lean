import PyProof.Rows.All
import Wide.All
import OpenK.AllK
import Wide.FinOn
import HandS.ForMost
import HandS.Exc
import HandS.ExcOwn
import HandS.ExcInit
import HandS.ExcValue
import HandS.ExcIs
import HandS.IsInst
import HandS.Defaults
import HandS.Walk
import PySem.Challenge.RW_sumlives_k01_errors
set_option Elab.async false
set_option maxRecDepth 100000
set_option maxHeartbeats 8000000
/-! ## errors as values -/
namespace PySem
namespace KwX
open PySem.HandSPX Builtin Builtin.ObjectAttr
/-- at C stands the class object of an own error -/
def Kls (h : Heap) (C : Addr) (bmB : List Value) (newId : String) : Prop :=
  ∃ a1 a2 N bs bm b1 sn sub ab col dd k0 k1 k2 k3 k5, (∀ Y : String, bm.contains (.type Y) = bmB.contains (.type Y)) ∧
    h.get? C = some (excClassObj a1 a2 C N bs bm b1 sn sub ab col dd k0 k1 k2 k3 k5 newId)
/-- the heap behind the making, ahead of __init__ -/
abbrev mkH (h : Heap) (C : Addr) : Heap := (h.push (W.kdv_tup [])).push (excO C h.objs.size)
theorem Kls.up {h : Heap} {C : Addr} {bmB : List Value} {newId : String} (k : Kls h C bmB newId) : Kls (mkH h C) C bmB newId := by
  obtain ⟨a1, a2, N, bs, bm, b1, sn, sub, ab, col, dd, k0, k1, k2, k3, k5, e, g⟩ := k
  exact ⟨a1, a2, N, bs, bm, b1, sn, sub, ab, col, dd, k0, k1, k2, k3, k5, e, Heap.get?_push_of_some _ (Heap.get?_push_of_some _ g)⟩
section
variable {bmB : List Value} {B newId initId : String} {P0 : Program} {W0 : World} {G : Around} {h : Heap} {gs : Array GenState} {dr : Drawn} {t : Nat} {os : OsState} {C : Addr} {kw : List (Str × Value)}
theorem look_kw {M : Model} {Ex : Value → Shared → Prop} {Q : Unit → Shared → Prop} (F : ExcBaseFacts B newId initId bmB) (k : Kls h C bmB newId) (hq : Q () ⟨h, gs, dr, t, os⟩) :
    wpAny M G (checkBuiltinCall newId ⟨[.ref C], kw⟩) Q Ex ⟨h, gs, dr, t, os⟩ := by
  obtain ⟨a1, a2, N, bs, bm, b1, sn, sub, ab, col, dd, k0, k1, k2, k3, k5, eT, hC⟩ := k
  have i1 : (Value.ref C :: bm).contains (.type B) = true := by rw [List.contains_cons, eT, F.hasB, Bool.or_true]
  have i2 := F.noStar; unfold checkBuiltinCall; simp only [F.newKind, F.newSplit, F.newRow]
  repeat (first
    | refine wpAny_loadPart_at hC ?_
    | (refine wpAny_isSubtype_exc hC ?_; rw [i1])
    | refine wpAny_staticBase_exc hC ?_
    | refine wpAny_madeBy_exc hC ?_
    | simp only [bne_self_eq_false, Bool.false_eq_true, if_false]
    | wp_step)
  exact hq
theorem new_kw {R : Result → Shared → Prop} (F : ExcBaseFacts B newId initId bmB) (k : Kls h C bmB newId) (hq : R (.ok (.ret (.ref (h.objs.size + 1)))) ⟨mkH h C, gs, dr, t, os⟩) :
    codeAny (model P0 W0) G (.builtin newId ⟨[.ref C], kw⟩) R ⟨h, gs, dr, t, os⟩ := by
  obtain ⟨a1, a2, N, bs, bm, b1, sn, sub, ab, col, dd, k0, k1, k2, k3, k5, eT, hC⟩ := k
  have z0 : ([] : List Value).length ≤ sizeLine := Nat.zero_le _; have z1 := F.ends
  have i1 : (Value.ref C :: bm).contains (.type B) = true := by rw [List.contains_cons, eT, F.hasB, Bool.or_true]
  have i2 : (Value.ref C :: bm).contains (.type "AttributeError") = false := by rw [List.contains_cons, eT, F.noAttr] <;> rfl
  have i3 : (Value.ref C :: bm).contains (.type "NameError") = false := by rw [List.contains_cons, eT, F.noName] <;> rfl
  refine codeAny_builtinAt F.entry ?_; unfold Builtin.«BaseException.__new__»
  refine wpAt_bind ?_; show wpAt _ _ _ (stack >>= _) _ _ _
  refine wpAt_bind (wpAt_stack fun p0 below => wpAt_of_wpAny ?_); wp_walk; refine wpAt_of_wpAny ?_; rw [F.owner]
  repeat (first
    | with_reducible refine wpAny_madeHere_exc F.canon hC ?_
    | with_reducible refine wpAny_loadPart_at hC ?_
    | (with_reducible refine wpAny_isSubtype_exc hC ?_; first | rw [i1] | rw [i2] | rw [i3])
    | wp_step)
  show R _ _; rw [Heap.size_push]; exact hq
theorem tcall_kw {Ex : Value → Shared → Prop} {Q : Fin → Shared → Prop} {fI : Addr} (F : ExcBaseFacts B newId initId bmB) (k : Kls h C bmB newId)
    (hi : W.Looks (model P0 W0) h (typeLookup (.ref C) "__init__") (some (.ref fI))) (hb : ∀ o, W.Looks (model P0 W0) h (bindSpecial (.ref fI) o) (.ref fI, [o]))
    (hq : codeAny (model P0 W0) G (.call (.ref fI) ⟨[.ref (h.objs.size + 1)], kw⟩)
      (fun r z => match r with | .ok (.ret v) => v = .none ∧ Q (.done (.ret (.ref (h.objs.size + 1)))) z | .ok _ => False | .error e => Ex e z) ⟨mkH h C, gs, dr, t, os⟩) :
    wpAny (model P0 W0) G (Builtin.«type.__call__» ⟨[.ref C], kw⟩) Q Ex ⟨h, gs, dr, t, os⟩ := by
  have kU := k.up
  have kk := k
  obtain ⟨a1, a2, N, bs, bm, b1, sn, sub, ab, col, dd, k0, k1, k2, k3, k5, eT, hC⟩ := k
  repeat (first
    | with_reducible refine wpAny_loadPart_at hC ?_
    | with_reducible refine wpAny_madeBy_exc hC ?_
    | wp_step)
  refine codeAny_call_builtin_code (Code.quiet_builtin _ F.quiet) (look_kw F kk (new_kw F kk ?_)); show wpAny _ _ _ _ _ _
  have hup : ∀ b o, h.get? b = some o → (mkH h C).get? b = some o := fun b o e => Heap.get?_push_of_some _ (Heap.get?_push_of_some _ e)
  have c1 := hup _ _ hC
  have c2 : (mkH h C).get? (h.objs.size + 1) = some (excO C h.objs.size) := by unfold mkH; heap_get
  have c3 : (Value.ref C :: bm).contains (.ref C) = true := by simp
  have c4 := hi.keeps hup
  have c5 := (hb (.ref (h.objs.size + 1))).keeps hup
  unfold isInstance
  repeat (first
    | with_reducible refine wpAny_loadPart_at c2 ?_
    | (with_reducible refine wpAny_isSubtype_exc c1 ?_; rw [c3])
    | wp_step)
  show wpAny _ _ (typeLookup (.ref C) _) _ _ _; refine c4.at (wpAny_holding (wpAny_bind (c5.at ?_)))
  refine wpAny_bind (wpAny_call (codeAny_mono hq fun r z q => ?_))
  match r, q with
  | .error e, q => exact q
  | .ok .next, q => exact q.elim
  | .ok .brk, q => exact q.elim
  | .ok .cont, q => exact q.elim
  | .ok (.ret v), q =>
    obtain ⟨e, q⟩ := q
    subst e
    first | exact wpAny_pure (wpAny_pure q) | (wp_walk; exact q)
theorem call_kw {R : Result → Shared → Prop} {fI : Addr} (F : ExcBaseFacts B newId initId bmB) (k : Kls h C bmB newId)
    (hi : W.Looks (model P0 W0) h (typeLookup (.ref C) "__init__") (some (.ref fI))) (hb : ∀ o, W.Looks (model P0 W0) h (bindSpecial (.ref fI) o) (.ref fI, [o]))
    (hq : codeAny (model P0 W0) (G.under (.builtin "type.__call__" ⟨[.ref C], kw⟩)) (.call (.ref fI) ⟨[.ref (h.objs.size + 1)], kw⟩) (W.InitBack (h.objs.size + 1) R) ⟨mkH h C, gs, dr, t, os⟩) :
    codeAny (model P0 W0) G (.call (.ref C) ⟨[], kw⟩) R ⟨h, gs, dr, t, os⟩ := by
  have kk := k
  obtain ⟨a1, a2, N, bs, bm, b1, sn, sub, ab, col, dd, k0, k1, k2, k3, k5, eT, hC⟩ := k
  have f1 := tc_lookup; have f2 := tc_bind (.ref C)
  have ty : (⟨h, gs, dr, t, os⟩ : Shared).TypeIs (.ref C) "type" := ⟨_, hC, rfl⟩
  refine codeAny_of_tree ?_; show wpAny _ _ (callAny (.ref C) _) _ _ _
  repeat (any_goals (first
    | assumption
    | with_reducible refine wpAny_loadPart_at hC ?_
    | wp_step))
  refine ⟨rfl, codeAny_call_builtin_at (Code.quiet_builtin _ (by decide +kernel)) entry_typeCall (wpAny_check_type_call_sub hC (tcall_kw F kk hi hb (codeAny_mono hq fun r z q => ?_)))⟩
  match r, q with
  | .error e, q => exact q
  | .ok .next, q => exact q
  | .ok .brk, q => exact q
  | .ok .cont, q => exact q
  | .ok (.ret v), q => exact q
end
end KwX
end PySem

namespace L2
open PySem PySem.Spec PyProof.Rows
/-! ### an own error as a value -/
/-- an error of the class at C stands at a, with the fields fs -/
def ErrAt (H : Hp) (a C : Addr) (fs : List (Str × V)) : Prop := (fs = [] ∧ (H a = some (exo a C none) ∨ H a = some (ExO (.ref C) a))) ∨ ∃ d, H a = some (exo a C (some d)) ∧ H d = some (exd d fs)
/-- its class as K has it -/
structure ErrC (K : PySem.W.Frag) (C fI : Addr) (fd : FuncData) : Prop where
  ox : OexC K C
  init : PySem.W.findIn K (.ref C) "__init__" = some (some (.ref fI))
  tyI : PySem.W.typeIn K (.ref fI) = some (.type "function")
section
variable {X : Cx} {CX : CXT} {x nmK : Str} {C fI : Addr} {k : Nat} {fd : FuncData} {ps : List Str} {sp : Sp} {e : Expr} {es : List Expr} {kws : List Keyword} {ta tk : TA} {p pos : Pos}
/-- C(e, ..) as a value -/
def tErr (C : Addr) (sp : Sp) (ta : TA) : TE := fun σ H Q => ta σ H fun vs H1 => vs.length ≤ 1000 ∧ ∀ a, H1 a = none → sp (.ref a :: vs) (upd H1 a (exo a C none)) (fun v H2 => v = .non ∧ Q (.ref a) H2) E0
theorem err_end {pins : List (Addr × Obj)} {σ : St} {H1 : Hp} {Q : VK} {hp hp2 : Heap} {g : Array GenState} {dr : Drawn} {t : Nat} {os : OsState} {a : Addr} {vs : List V} {us : List Value} {args : Args}
    (T : ErrC X.K C fI fd) (F1 : FnOk X.prog X.w X.K X.mg X.base CX0 k fI fd ps sp) (hr : Room (k + 1) X.A) (I1 : Inv X pins σ H1 ⟨hp, g, dr, t, os⟩) (us0 : List Value) (kw : List (Str × Value))
    (hget : hp2.get? a = some (PySem.HandSPX.excO C hp.objs.size)) (kk : ∀ b o, hp.get? b = some o → hp2.get? b = some o) (ha : hp.objs.size ≤ a)
    (hb : ∀ s : Shared, X.K.In s.heap → BindsTo s fd args (ps.zip us)) (r2 : Vals (V.ref a :: vs) us) (q : sp (.ref a :: vs) (upd H1 a (exo a C none)) (fun v H2 => v = .non ∧ Q (.ref a) H2) E0) :
    codeAny (model X.prog X.w) (X.A.under (.builtin "type.__call__" ⟨.ref C :: us0, kw⟩)) (.call (.ref fI) args) (PySem.W.InitBack a fun r s' => match r with | .ok (.ret u) => EP X pins σ Q u s' | .ok _ => False | .error z => X.xe z s') ⟨hp2, g, dr, t, os⟩ := by
  have I2 : Inv X pins σ (upd H1 a (exo a C none)) ⟨hp2, g, dr, t, os⟩ := I1.laid (t' := t) (a := a) (o := exo a C none) (h' := hp2) kk ha (exo_ok hget)
  refine codeAny_mono (F1.run _ X.stack _ _ args us _ _ E0 (hr.make C us0 kw) (I2.env0.make C us0 kw) (hb _ I2.kIn) r2 q) fun r s' hq' => ?_
  match r, hq' with
  | .error z, hq' => exact hq'.elim
  | .ok .next, hq' => exact hq'.elim
  | .ok .brk, hq' => exact hq'.elim
  | .ok .cont, hq' => exact hq'.elim
  | .ok (.ret u), hq' =>
    obtain ⟨v, H', I3, rv, ev, q3⟩ := I2.after hq'
    subst ev
    exact ⟨rv, ⟨V.ref a, H', I3, rfl, q3⟩⟩
theorem run_back {pins : List (Addr × Obj)} {σ : St} {Q : VK} {s : Shared} {f : Value} {us : List Value} {kw : List (Str × Value)}
    (h : codeAny (model X.prog X.w) X.A (.call f ⟨us, kw⟩) (fun r s' => match r with | .ok (.ret u) => EP X pins σ Q u s' | .ok _ => False | .error z => X.xe z s') s) :
    wpAny (model X.prog X.w) X.A (call f us kw) (EP X pins σ Q) X.xe s := by
  refine wpAny_call (codeAny_mono h fun r s' hq' => ?_)
  match r, hq' with
  | .error z, hq' => exact hq'
  | .ok .next, hq' => exact hq'.elim
  | .ok .brk, hq' => exact hq'.elim
  | .ok .cont, hq' => exact hq'.elim
  | .ok (.ret u), hq' => exact hq'
theorem pe_err (T : ErrC X.K C fI fd) (F1 : FnOk X.prog X.w X.K X.mg X.base CX0 k fI fd ps sp) (hr : Room (k + 1) X.A) (hb : Binds X.K fd ps []) (hg : Gl X x) (hm : X.mg x = some (.ref C)) (ha : PA X (e :: es) ta)
    (hdb : (x == ("__debug__" : Str)) = false := by decide) (he : starEach (e :: es) X.env = (false, eval e X.env) :: starEach es X.env := by rfl) (hpl : (backTo pos (starEach es X.env)).any (·.1) = false := by rfl) :
    PE X (.Call (.Name x p) (e :: es) [] pos) (tErr C sp ta) := by
  refine ⟨fun pins s σ H Q I h => wpAny_Call_Name_kw (ld_glob I hg hm ?_ hdb)⟩
  refine PySem.W.callWith_K (h₀ := X.base) I.ok.mod.kin T.ox.kC (thn (ha.run pos pins s σ H _ I h) fun us s1 z => ?_) he hpl
  obtain ⟨vs, H1, I1, r1, hz, q1⟩ := z
  refine ⟨I1.kIn, ?_⟩
  obtain ⟨n1, n2, n3, bs, bm, n4, n5, n6, n7, n8, n9, n10, n11, n12, n13, hC, hbm⟩ := T.ox.cls
  obtain ⟨hp, g, dr, t, os⟩ := s1
  have hn : H1 (hp.objs.size + 1) = none := I1.hok.fresh (Nat.le_succ _)
  have hq := q1 (hp.objs.size + 1) hn
  have r2 : Vals (V.ref (hp.objs.size + 1) :: vs) (Value.ref (hp.objs.size + 1) :: us) := .cons rfl r1
  have hl : (Value.ref (hp.objs.size + 1) :: us).length = ps.length := r2.length.symm.trans (F1.len _ _ _ _ hq)
  have hus : us.length ≤ sizeLine := by
    have z := Paired.length r1
    rw [sizeLine_eq]; omega
  refine run_back (PySem.HandSPX.call_own F.excBase_ValueError (fun Y => PySem.HandSPX.refsVE_contains Y bm hbm) (I1.kIn _ _ hC) (PySem.W.looks_findIn I1.kIn T.init) (fun o => PySem.W.bind_fn I1.kIn o T.tyI) hus ?_)
  refine err_end (args := ⟨Value.ref (hp.objs.size + 1) :: us, []⟩) (hp2 := (hp.push (PySem.W.kdv_tup us)).push (PySem.HandSPX.excO C hp.objs.size)) T F1 hr I1 us [] (by heap_get) (fun b o z => Heap.get?_push_of_some _ (Heap.get?_push_of_some _ z)) (Nat.le_succ _) (fun s' K' => ?_) r2 hq
  have z := hb s' (Value.ref (hp.objs.size + 1) :: us) K' (by rw [List.append_nil]; exact hl)
  rw [List.append_nil] at z
  exact z
/-- C(name=e) as a value -/
theorem pe_errK (T : ErrC X.K C fI fd) (F1 : FnOk X.prog X.w X.K X.mg X.base CX0 k fI fd ps sp) (hr : Room (k + 1) X.A) (hb : ∀ (s : Shared) (u w : Value), X.K.In s.heap → BindsTo s fd ⟨[u], [(nmK, w)]⟩ (ps.zip [u, w]))
    (hg : Gl X x) (hm : X.mg x = some (.ref C)) (hkw : PK X kws tk) (hall : (backToKw pos (keywordEach kws X.env)).all (·.1.isSome) = true := by rfl) (hks : (backToKw pos (keywordEach kws X.env)).filterMap (·.1) = [nmK] := by rfl)
    (hdb : (x == ("__debug__" : Str)) = false := by decide) (hpl : ((backTo pos (starEach [] X.env)).any (·.1) || (backToKw pos (keywordEach kws X.env)).any (·.1.isNone)) = false := by rfl) :
    PE X (.Call (.Name x p) [] kws pos) (fun σ H Q => tk σ H fun vs H1 => vs.length = 1 ∧ ∀ a, H1 a = none → sp (.ref a :: vs) (upd H1 a (exo a C none)) (fun v H2 => v = .non ∧ Q (.ref a) H2) E0) := by
  refine ⟨fun pins s σ H Q I h => wpAny_Call_Name_kw (ld_glob I hg hm ?_ hdb)⟩
  refine PySem.W.callWith_KW0 (h₀ := X.base) I.ok.mod.kin T.ox.kC hall (thn (hkw.run pos pins s σ H _ I h) fun ws s1 z => ?_) hpl
  obtain ⟨vs, H1, I1, r1, hz, q1⟩ := z
  refine ⟨I1.kIn, ?_⟩
  rw [hks]
  obtain ⟨n1, n2, n3, bs, bm, n4, n5, n6, n7, n8, n9, n10, n11, n12, n13, hC, hbm⟩ := T.ox.cls
  obtain ⟨hp, g, dr, t, os⟩ := s1
  have hn : H1 (hp.objs.size + 1) = none := I1.hok.fresh (Nat.le_succ _)
  have hq := q1 (hp.objs.size + 1) hn
  match vs, ws, r1, hz, hq with
  | [v], [w], .cons rv .nil, _, hq =>
    have r2 : Vals [V.ref (hp.objs.size + 1), v] [Value.ref (hp.objs.size + 1), w] := .cons rfl (.cons rv .nil)
    show wpAny _ _ (call (.ref C) [] [(nmK, w)]) _ _ _
    refine run_back (PySem.KwX.call_kw F.excBase_ValueError ⟨_, _, _, _, bm, _, _, _, _, _, _, _, _, _, _, _, fun Y => PySem.HandSPX.refsVE_contains Y bm hbm, I1.kIn _ _ hC⟩ (PySem.W.looks_findIn I1.kIn T.init) (fun o => PySem.W.bind_fn I1.kIn o T.tyI) ?_)
    exact err_end (args := ⟨[Value.ref (hp.objs.size + 1)], [(nmK, w)]⟩) (hp2 := PySem.KwX.mkH hp C) T F1 hr I1 [] [(nmK, w)] (by unfold PySem.KwX.mkH; heap_get) (fun b o z => Heap.get?_push_of_some _ (Heap.get?_push_of_some _ z)) (Nat.le_succ _) (fun s' K' => hb s' _ _ K') r2 hq
/-- C() of a class without an own __init__ -/
theorem pe_err0 {bmB : List Value} {B newId initId : String} (F : ExcBaseFacts B newId initId bmB) (q : PySem.W.excIn X.K C bmB newId = true) (hm : X.mg x = some (.ref C)) (kC : PySem.W.keepIn X.K (.ref C) = true) (hg : Gl X x) (hdb : (x == ("__debug__" : Str)) = false := by decide) :
    PE X (.Call (.Name x p) [] [] pos) (fun _ H Q => ∀ a, H a = none → Q (.ref a) (upd H a (ExO (.ref C) a))) := by
  refine ⟨fun pins s σ H Q I h => wpAny_Call_Name_kw (ld_glob I hg hm ?_ hdb)⟩
  refine PySem.W.callWith_K0 I.kIn kC ?_
  show wpAny _ _ (call (.ref C) []) _ _ _
  obtain ⟨bm, N, nm, qn, bs, hdct, sn, sub, ab, col, dd, k0, k1, k2, k3, k5, mN, hC, hN, hni, T⟩ := exc_obj I.kIn q
  refine wpAny_call_exc_subT F T hC hN hni (fun h' a hm2 => ?_) (Nat.zero_le _)
  have hn : H a = none := I.hok.gone hm2.new
  obtain ⟨t2, ht, _, _⟩ := hm2.there
  exact ⟨.ref a, upd H a (ExO (.ref C) a), I.laidN hm2.keeps hm2.new hn (exO_ok ht ⟨rfl, rfl⟩ rfl rfl rfl (show 4 < 6 by decide)), rfl, h a hn⟩
end
end L2

namespace PySem.W
open PySem PySem.Spec PySem.Calls PyProof.Rows
/-- what isinstance asks of the class D of an own error -/
structure ErrIs (K : Frag) (D : Addr) : Prop where
  ga : findIn K (.ref D) "__getattribute__" = some (some (.builtin "BaseException.__getattribute__"))
  gg : findIn K (.ref D) "__getattr__" = some none
  sb : subIn K (.ref D) (.type "BaseException") = some true
  hd : hasDictIn K D = true
  cl : findIn K (.ref D) "__class__" = some (some (.builtin "object.__class__"))
  gt : specialIn K (.builtin "object.__class__") "__get__" = some (some (.builtin "getset_descriptor.__get__"))
  tk : takesIn K (.builtin "object.__class__") = some true
  mo : mroIn K D (.type "object") = some true
theorem ErrIs.is {K : Frag} {D : Addr} (Z : ErrIs K D) : (clsIn K D).isSome = true := by
  obtain ⟨cd, e, _⟩ := any_some Z.hd
  rw [e]; rfl
theorem ErrIs.found {K : Frag} {D : Addr} (Z : ErrIs K D) (od : Option Obj) : findObj K D od "__class__" = some (.bind (.builtin "getset_descriptor.__get__") (.builtin "object.__class__")) := by
  cases od with
  | none => exact findObj_dataN Z.is Z.cl Z.gt Z.tk
  | some o => exact findObj_data Z.is Z.cl Z.gt Z.tk
theorem ErrIs.asked {prog : Program} {w : World} {G : Around} {Ex : Value → Shared → Prop} {s : Shared} {K : Frag} {x D : Addr} {ox : Obj} {od : Option Obj} {Q : Option Value → Shared → Prop} (Z : ErrIs K D) (KI : K.In s.heap) (I : InstAt s.heap x ox D od)
    (h : Q (some (.ref D)) { s with toks := s.toks + 1 }) : wpAny (model prog w) G (getAttr? (.ref x) "__class__") Q Ex s := by
  obtain ⟨hp, g, d, t, os⟩ := s
  have a0 := I.type (M := model prog w)
  have a1 := looks_findIn (M := model prog w) KI Z.ga
  have a2 := looks_findIn (M := model prog w) KI Z.gg
  have a3 := looks_find (M := model prog w) KI I (Z.found od)
  have a4 : Looks (model prog w) hp (isInstance (.ref x) (.type "BaseException")) true := a0.andThen (looks_subIn KI Z.sb)
  have n1 : (Value.builtin "BaseException.__getattribute__" == Value.builtin "object.__getattribute__") = false := by decide +kernel
  have n2 : (onTheHeap (Value.ref D) && Value.builtin "BaseException.__getattribute__" == Value.builtin "object.__getattribute__") = false := by rw [n1, Bool.and_false]
  have n3 : (false && onTheHeap (Value.builtin "BaseException.__getattribute__")) = false := rfl
  unfold getAttr? getAttrBy? getAttrBy
  refine wpAny_bind (wpAny_mkText (wpAny_bind (wpAny_attempt (wpAny_holding (wpAny_bind (a0.at (wpAny_bind (a1.at ?_))))))))
  show wpAny _ _ (if (onTheHeap (Value.ref D) && Value.builtin "BaseException.__getattribute__" == Value.builtin "object.__getattribute__") = true then _ else _) _ _ _
  rw [n2, if_neg Bool.false_ne_true]; unfold getAttrByItsOwn hookBefore; refine wpAny_bind ?_
  rw [if_pos (show onTheHeap (Value.ref D) = true from rfl)]; refine a2.at (wpAny_bind (wpAny_attempt (wpAny_holding ?_)))
  unfold callGetattribute; rw [n3, if_neg Bool.false_ne_true]; unfold boundAndCalled; rw [PySem.F.excAttr_ValueError.ga.bind (.ref x)]
  refine wpAny_bind (wpAny_pure ?_); show wpAny _ _ (call (.builtin "BaseException.__getattribute__") [.ref x, .str "__class__" t]) _ _ _
  refine wpAny_call (codeAny_call_builtin PySem.F.excAttr_ValueError.ga.plain PySem.F.entry_bexc_ga (@check_slot (model prog w) _ _ ⟨hp, g, d, t + 1, os⟩ "BaseException.__getattribute__" "BaseException" "__getattribute__" (.ref x) [.str "__class__" t] [] _ (by decide +kernel) (by decide +kernel) a4 (PySem.F.args_bexc_ga (.ref x) (.str "__class__" t)) ?_))
  unfold Builtin.«object.__getattribute__»; refine wpAny_bind (wpAny_of_eq (a := ((Value.ref x : Value), [Value.str "__class__" t])) (by first | rfl | (simp only [slotArgs]; rfl)) (wpAny_bind (wpAny_pure (wpAny_bind (a0.at (wpAny_bind (a3.at ?_)))))))
  show wpAny _ _ (holding [Value.builtin "object.__class__"] (call (.builtin "getset_descriptor.__get__") [.builtin "object.__class__", .ref x, .ref D]) >>= ret) _ _ _
  refine wpAny_bind (wpAny_holding (wpAny_call (class_get (s := ⟨hp, g, d, t + 1, os⟩) (ox := ox) (od := od) KI I Z.mo (wpAny_pure ?_))))
  show wpAny _ _ (handedOut (.ref D)) _ _ _; rw [handedOut_of (v := .ref D) rfl]
  first | exact wpAny_pure (wpAny_pure h) | exact wpAny_pure h | exact wpAny_pure (wpAny_bind (wpAny_pure (wpAny_pure h)))
theorem ErrIs.kit {K : Frag} {D x : Addr} {ox : Obj} {od : Option Obj} (Z : ErrIs K D) : KitX K (.ref x) (.ref D) (fun h => InstAt h x ox D od) := by
  obtain ⟨cd, hc, _⟩ := any_some Z.hd
  have at_ : ∃ c' d' k' sl', K.lookup D = some ⟨c', d', .cls k', sl'⟩ := by
    unfold clsIn at hc
    split at hc
    · exact ⟨_, _, _, _, by assumption⟩
    · cases hc
  obtain ⟨c', d', k', sl', ho⟩ := at_
  refine ⟨fun _ _ _ I => I.type, fun _ _ KI _ => ?_, fun h tp dd its n sl KI ht => Bool.eq_false_iff.mpr fun q => ?_, fun KI I k => Z.asked KI I k⟩
  · intro A' Q' E' s' k q
    unfold isType loadHead; exact wpAny_bind (wpAny_loadPart (k _ _ (KI _ _ ho)) (wpAny_pure q))
  · have e : D = tp := Value.ref.inj (beq_iff_eq.mp q)
    rw [← e] at ht
    cases (KI _ _ ho).symm.trans ht
end PySem.W
namespace L2
open PySem PySem.Spec PyProof.Rows
section
variable {X : Cx} {pins : List (Addr × Obj)} {σ : St} {H : Hp} {s : Shared} {a C : Addr} {fs : List (Str × V)}
/-- such an error as the library's lookups see it -/
theorem ErrAt.inst (I : Inv X pins σ H s) (h : ErrAt H a C fs) : ∃ ox od, PySem.W.InstAt s.heap a ox C od ∧ ∀ (n : Str) (v : V), fs.lookup n = some v → ∃ u o, od = some o ∧ PySem.W.lookIn n o = some (some u) ∧ RelV v u := by
  rcases h with ⟨rfl, h | h⟩ | ⟨d, h, hd⟩
  · obtain ⟨t1, q⟩ := exo_at I.hok h
    exact ⟨_, none, ⟨q, rfl, rfl, trivial⟩, fun n v z => by simp at z⟩
  · have x0 : ObjOk X.prog X.w H s.heap a (.ext fun h => ∃ (oe : Obj) (vs : Array Value), h.get? a = some oe ∧ Zc (.ref C) none oe ∧ oe.data = .fields vs ∧ vs[1]? = some .none ∧ vs[2]? = some .none ∧ 4 < vs.size) := I.hok a _ h
    obtain ⟨⟨oe, vs, q, z, dt, _⟩, _⟩ := x0
    obtain ⟨oc, od, oda, osl⟩ := oe
    obtain ⟨z1, z2⟩ := z
    dsimp only at z1 z2 dt
    subst z1 z2 dt
    exact ⟨_, none, ⟨q, rfl, rfl, trivial⟩, fun n v z => by simp at z⟩
  · obtain ⟨t1, q⟩ := exo_at I.hok h
    obtain ⟨mA, hns, rel⟩ := exd_at I.hok hd
    obtain ⟨od, ho, hl⟩ := lookIn_ns hns
    refine ⟨_, some od, ⟨q, rfl, rfl, ho⟩, fun n v z => ?_⟩
    obtain ⟨u, hu, ru⟩ := RelO.some_of (v := v) (o := mA n) (by rw [← z]; exact rel n)
    exact ⟨u, od, rfl, by rw [hl, hu], ru⟩
/-- isinstance(x, c), x an own error -/
def rIsErr (K : PySem.W.Frag) : List V → Hp → VK → Prop := fun xs H Q => ∃ (a C : Addr) (fs : List (Str × V)) (c : V) (cv : Value) (b : Bool), xs = [.ref a, c] ∧ ErrAt H a C fs ∧ ClsV c cv ∧ PySem.W.ErrIs K C ∧ PySem.W.kitOne K (.ref C) cv = some b ∧ Q (.bl b) H
theorem call_isErr : CallR X (.builtin "isinstance") (rIsErr X.K) := by
  intro pins s σ H xs us Q I r h
  obtain ⟨a, C, fs, c, cv, b, rfl, hE, hc, Z, e, q⟩ := h
  obtain ⟨u1, u2, rfl, r1, r2⟩ := vals2 r
  cases (show u1 = Value.ref a from r1)
  have e2 := hc.eq r2
  subst e2
  obtain ⟨ox, od, J, _⟩ := hE.inst I
  exact PySem.W.kia_one Z.kit I.kIn J e (fun z => nomatch z) fun tk => ⟨.bl b, H, I.tok tk, rfl, q⟩
/-- x.n, x an own error -/
def tErrF (K : PySem.W.Frag) (n : Str) (te : TE) : TE := fun σ H Q => te σ H fun x H1 => ∃ (a C : Addr) (fs : List (Str × V)) (v : V), x = .ref a ∧ ErrAt H1 a C fs ∧ PySem.W.ErrIs K C ∧ PySem.W.findIn K (.ref C) n = some none ∧ fs.lookup n = some v ∧ Q v H1
theorem pe_errF {e : Expr} {te : TE} {pos : Pos} {n : Str} (he : PE X e te) (hb : attributeBase e n X.env (eval e X.env) = eval e X.env := by rfl) : PE X (.Attribute e n pos) (tErrF X.K n te) := by
  refine ⟨fun pins s σ H Q I h => attr_of hb (thn (he.run pins s σ H _ I h) fun u s1 hh => ?_)⟩
  obtain ⟨x, H1, I1, rx, a, C, fs, v, ex, hE, Z, hno, hl, q⟩ := hh
  subst ex
  obtain rfl : u = Value.ref a := rx
  obtain ⟨ox, od, J, get⟩ := hE.inst I1
  obtain ⟨u, o, rfl, hu, ru⟩ := get n v hl
  exact HandSPX.exc_get I1.kIn J Z.ga Z.gg Z.sb (PySem.W.findObj_own Z.hd hno rfl (by rw [hu])) (handed_of ru) ⟨v, H1, I1.tok _, ru, q⟩
/-- repr(x), x a list or tuple of data, where nothing else is being shown -/
def rRepr (K : PySem.W.Frag) : List V → Hp → VK → Prop := fun xs H Q => ∃ (a : Addr) (d : PyData), xs = [.ref a] ∧ Dp K H (.ref a) d ∧ d.showable = true ∧ d.hasDict = false ∧ d.depth ≤ 60 ∧ d.shown.length ≤ sizeLine ∧ Q (.str d.shown) H
theorem call_reprD (hg : X.A.guards = some []) (hu : X.A.units + 64 < cLine) : CallR X (.builtin "repr") (rRepr X.K) := by
  intro pins s σ H xs us Q I r h
  obtain ⟨a, d, rfl, hd, h1, h2, h3, h4, q⟩ := h
  match us, r with
  | [u], .cons r1 .nil =>
    obtain ⟨as, R⟩ := Dp.reads I d _ u hd r1
    obtain rfl : u = Value.ref a := r1
    refine repr_of_reads' R h1 (fun z => ?_) hg (by omega) (fun b o z => z) (fun h' u' tk k => ?_) h4
    · rw [h2] at z; cases z
    · exact ⟨.str d.shown, H, I.kept (t' := tk) k, ⟨_, rfl⟩, q⟩
end
end L2

namespace L2
open PySem PySem.Spec PyProof.Rows PySem.W
/-- a law's def keeps its promise where nothing is being shown around the call -/
structure LawOk (P : Program) (w : World) (K : PySem.W.Frag) (mg : Str → Option Value) (base : Heap) (k : Nat) (f : Addr) (sp : Sp) : Prop where
  run : ∀ (A : Around) (s : Shared) (H : Hp) (u : Value) (v : V) (Q : VK), A.guards = some [] → Room k A → Env0 P w K mg base A [] s H → RelV v u → sp [v] H Q E0 → codeAny (model P w) A (.call (.ref f) ⟨[u], []⟩) (CR CX0 [] P w H s Q E0) s
theorem LawOk.of {P : Program} {w : World} {K : PySem.W.Frag} {mg : Str → Option Value} {base : Heap} {k : Nat} {f : Addr} {nm qual x : Str} {st : Stmt} {fd : FuncData} {N : List Str} {sp : Sp} (F : Fun K nm qual st f fd) (S : FnScope N [x] (defScope st))
    (hb : ∀ (s : Shared) (u : Value), K.In s.heap → BindsTo s fd ⟨[u], []⟩ [(x, u)])
    (body : ∀ (cdv : Value) (A : Around) (s : Shared) (H : Hp) (v : V) (Q : VK), A.guards = some [] → Room k (A.deeper (envOfC qual (defScope st) s.heap.objs.size f cdv)) → sp [v] H Q E0 →
      ∃ t, PSs (cxOf CX0 P w K mg base N qual (defScope st) f cdv A [] s H E0).nox (defBody st) t ∧ t { nx := fun _ H' => Q .non H', rt := Q } (start N [v]) H) : LawOk P w K mg base (k + 1) f sp := by
  obtain ⟨oc, od, kV, doc, pm, an, cdv, ct, osl, e, lk, hcd⟩ := F.ex
  subst e
  refine ⟨fun A s H u v Q hg hr z0 r q => ?_⟩
  have KI : K.In s.heap := z0.mod.kin.keeps fun b o y => (z0.bs b o y).1
  have zl : s.heap.NoLimit := z0.mod.nolimit.keeps fun b o y => (z0.bs b o y).1
  have kinds : ∀ y ∈ [x].zip [u], (defScope st).names.lookup y.1 = some .local ∨ ((defScope st).names.lookup y.1 = some .cell ∧ ((cellsFrom (s.heap.objs.size + 1) (defScope st).names []).lookup y.1).isSome = true) := by
    rintro ⟨n, v'⟩ hy
    exact (S.par n (List.of_mem_zip hy).1).imp (fun y => y) fun y => ⟨y, PySem.W.cellsFrom_some _ _ _ (.inl y)⟩
  refine codeAny_call_function hr.depth (KI _ _ lk) rfl S.co S.gen rfl (PySem.W.codeRec_of KI hcd) (hb s u KI _ _ _ _ (wpAny_newFunctionEnv_cells S.kind kinds fun env he s1 y => ?_))
  subst he
  obtain ⟨t, ht, hq⟩ := body cdv A s H v Q hg (hr.deeper _) q
  have I := inv_start (CX := CX0) (E := E0) S hr.hd z0 rfl (.cons r .nil) y
  refine ⟨zl.keeps y.toInCall.keep, codeAny_func (wpAny_mono (ht.nox.run [] s1 (start N [v]) H _ I hq) (fun fl s' hs => ?_) fun _ _ hs => hs)⟩
  match fl, hs with
  | .ret u, ⟨v, σ', H', J, rv, q⟩ => exact ⟨v, H', J.os, J.bare, J.base, J.hok, rv, q⟩
  | .next, ⟨σ', H', J, q⟩ => exact ⟨V.non, H', J.os, J.bare, J.base, J.hok, rfl, q⟩
  | .brk, ⟨_, _, _, q⟩ => exact q.elim
  | .cont, ⟨_, _, _, q⟩ => exact q.elim

/-- what the caller of the law sees: nothing stood there but the script, locked -/
theorem LawOk.called {P : Program} {w : World} {K : PySem.W.Frag} {mg mb : Str → Option Value} {k : Nat} {fa a : Addr} {sp : Sp} {z : Shared} {vs : List Value} {ns : List Int} (KI : K.In z.heap) (g1 : z.heap.Ns mainGlobals mg) (g2 : z.heap.Ns builtinsNs mb)
    (g3 : ∀ x : Str, x ≠ "__name__" → mb x = bootBuiltins x) (g4 : z.heap.NoLimit) (g5 : z.gens = #[]) (ha : z.heap.get? a = some { cls := .type "list", data := .seq vs.toArray }) (hi : IntsAre vs ns) (hl : ns.length ≤ sizeLine) (hr : Room k callerA)
    (F : ∀ base : Heap, K.In base → base.Ns mainGlobals mg → LawOk P w K mg base k fa sp) (hsp : ∀ H : Hp, SqL K H a (ns.map V.int) → sp [.ref a] H (fun v _ => v = .bl true) E0) :
    codeAny (model P w) callerA (.call (.ref fa) ⟨[.ref a], []⟩) (fun r s' => r = .ok (.ret (.bool true)) ∧ OldK z.heap s'.heap ∧ s'.os = z.os ∧ AllBare s'.gens) z := by
  have rv := vals_ints hi
  have lv := hi.length
  have main : ∀ H : Hp, (∀ b u, H b = some u → b = a ∧ K.lookup a = none ∧ ∃ ys, u = .frz { cls := .type "list", data := .seq vs.toArray } ys) → SqL K H a (ns.map V.int) → HOk P w H z.heap →
      codeAny (model P w) callerA (.call (.ref fa) ⟨[.ref a], []⟩) (fun r s' => r = .ok (.ret (.bool true)) ∧ OldK z.heap s'.heap ∧ s'.os = z.os ∧ AllBare s'.gens) z := by
    intro H hA hS hok
    have no : ∀ {b : Addr} {o : Obj}, z.heap.get? b = some o → (b = a → K.lookup a ≠ none ∨ ∃ es ep, o.data = .dict es ep) → H b = none := fun {b o} e d => by
      cases q : H b with
      | none => rfl
      | some u =>
        obtain ⟨e1, e2, _⟩ := hA b u q
        rcases d e1 with d1 | ⟨es, ep, d1⟩
        · exact absurd e2 d1
        · rw [e1] at e
          cases ha.symm.trans e
          cases d1
    have kb : K.In (hidT z.heap H) := fun b o e => hidT_get (KI b o e) (no (KI b o e) fun _ => .inl (by rw [← (by assumption : b = a), e]; simp))
    have nb : ∀ {b : Addr} {m : Str → Option Value}, z.heap.Ns b m → (hidT z.heap H).Ns b m := fun {b m} q => by
      obtain ⟨o, es, ep, e, d, r⟩ := q
      exact ⟨o, es, ep, hidT_get e (no e fun _ => .inr ⟨es, ep, d⟩), d, r⟩
    have z0 : Env0 P w K mg (hidT z.heap H) callerA [] z H := by
      refine ⟨rfl, ⟨kb, nb g1, ⟨mb, nb g2, g3⟩, ?_⟩, fun b o e => of_hidT e, Nat.le_of_eq (hidT_size _ _), trivial, fun b hb => absurd (show b ∈ ([] : List Addr) from hb) (by simp), hok, .of_eq g5⟩
      obtain ⟨mc, q1, q2⟩ := g4
      exact ⟨mc, nb q1, q2⟩
    refine codeAny_mono ((F _ kb (nb g1)).run callerA z H (.ref a) (.ref a) (fun v _ => v = .bl true) rfl hr z0 rfl (hsp H hS)) fun r s' h => ?_
    match r, h with
    | .error e, h => exact h.elim
    | .ok .next, h => exact h.elim
    | .ok .brk, h => exact h.elim
    | .ok .cont, h => exact h.elim
    | .ok (.ret u), ⟨v, H', os, bare, un, hok', r', q⟩ =>
      subst q
      obtain rfl : u = Value.bool true := r'
      refine ⟨rfl, OldK.of_keep fun b o e => ?_, os, bare⟩
      cases q : H b with
      | none => exact un.keep b o e q (fun y => absurd (show b ∈ ([] : List Addr) from y) (by simp)) (by simp)
      | some u =>
        obtain ⟨e1, _, ys, e2⟩ := hA b u q
        subst e2
        obtain ⟨y1, _⟩ := hok b _ q
        obtain ⟨y2, _⟩ := hok' b _ (un.frzs b _ ys q)
        cases e.symm.trans y1
        exact y2
  cases hk : K.lookup a with
  | some o =>
    cases (KI a o hk).symm.trans ha
    exact main (fun _ => none) (fun b u y => nomatch y) (.inr ⟨_, vs.toArray, _, hk, rfl, rfl, rfl, by rw [List.size_toArray, lv]; exact hl, by simpa using rv⟩) fun b u y => nomatch y
  | none =>
    have key : ∀ b u, (if b = a then some (HO.frz { cls := .type "list", data := .seq vs.toArray } (.lst (ns.map V.int))) else none) = some u → b = a ∧ u = .frz { cls := .type "list", data := .seq vs.toArray } (.lst (ns.map V.int)) := fun b u y => by
      by_cases hb : b = a
      · rw [if_pos hb] at y
        exact ⟨hb, (Option.some.inj y).symm⟩
      · rw [if_neg hb] at y
        cases y
    refine main (fun b => if b = a then some (.frz { cls := .type "list", data := .seq vs.toArray } (.lst (ns.map V.int))) else none) (fun b u y => ?_) (.inl (.inr ⟨_, if_pos rfl⟩)) fun b u y => ?_
    · obtain ⟨y1, y2⟩ := key b u y
      exact ⟨y1, hk, _, y2⟩
    · obtain ⟨y1, y2⟩ := key b u y
      subst y1 y2
      exact ⟨ha, by rw [List.length_map]; exact hl, vs, _, rv, ha⟩
theorem walk_law {l : PySem.W.OpenLaw} {n k : Nat} {q : Program} {loose : List Str} {XP : (Str → Option Value) → Heap → Prop} {YP : World → Heap → Prop} {d : DefRec} {K : Params → PySem.W.Frag} {sp : PySem.W.Frag → Sp} (hn : l.most = some n) (hn2 : n ≤ sizeLine)
    (hdf : d.params.defaults = []) (hr : Room k callerA) (hY : ∀ (w : World) (h : Heap), YP w h → (K w.params).In h)
    (F : ∀ (w : World) (mg : Str → Option Value) (fa : Addr) (h : Heap), (K w.params).In h → h.Ns mainGlobals mg → mg d.name = some (.ref fa) → ∀ base : Heap, (K w.params).In base → base.Ns mainGlobals mg → LawOk l.prog w (K w.params) mg base k fa (sp (K w.params)))
    (hsp : ∀ (K : PySem.W.Frag) (H : Hp) (a : Addr) (ns : List Int), ns.length ≤ n → SqL K H a (ns.map V.int) → sp K [.ref a] H (fun v _ => v = .bl true) E0) : PySem.W.WalkO q loose XP YP l.row.toRowW d [] (fun f vs => PySem.call f vs) := by
  refine Att.attach_call hn hdf fun w s₀ s₁ mg mb fa o pm cd doc a vs ns G Y ho hd hcd hmg hobj hints hlen hg => ?_
  exact LawOk.called (hY w _ Y) G.T.g G.T.b G.T.builtins G.T.nolimit hg hobj hints (Nat.le_trans hlen hn2) hr (F w mg fa _ (hY w _ Y) G.T.g hmg) fun H hS => hsp _ H a ns hlen hS
end L2

namespace L2
open PySem PySem.Spec PyProof.Rows
/-! ### a def that a def calls, by its name -/
def Has (P : Program) (w : World) (K : PySem.W.Frag) (mg : Str → Option Value) (base : Heap) (k : Nat) (nm : Str) (ps : List Str) (sp : Sp) : Prop :=
  ∃ (f : Addr) (fd : FuncData), FnOk P w K mg base CX0 k f fd ps sp ∧ mg nm = some (.ref f) ∧ PySem.W.keepIn K (.ref f) = true ∧ Binds K fd ps []
theorem pe_callHas {X : Cx} {k : Nat} {x : Str} {ps : List Str} {sp : Sp} {p pos : Pos} {e : Expr} {es : List Expr} {t : TA} (G : Has X.prog X.w X.K X.mg X.base k x ps sp) (hr : Room k X.A) (hg : Gl X x) (ha : PA X (e :: es) t)
    (hdb : (x == ("__debug__" : Str)) = false := by decide) (he : starEach (e :: es) X.env = (false, eval e X.env) :: starEach es X.env := by rfl) (hpl : (backTo pos (starEach es X.env)).any (·.1) = false := by rfl) :
    PE X (.Call (.Name x p) (e :: es) [] pos) (tCall sp [] E0 t) := by
  obtain ⟨f, fd, F, m, kp, b⟩ := G
  exact pe_call F hr hg m kp b .nil pass0 ha hdb he hpl
/-- where a def of the text stands behind the top -/
def DefAt (K : PySem.W.Frag) (mg : Str → Option Value) (nm : Str) (st : Stmt) (ps : List Str) : Prop :=
  ∃ (f : Addr) (fd : FuncData), Fun K nm nm st f fd ∧ mg nm = some (.ref f) ∧ Binds K fd ps []
theorem DefAt.has {P : Program} {w : World} {K : PySem.W.Frag} {mg : Str → Option Value} {base : Heap} {k : Nat} {nm : Str} {st : Stmt} {N ps : List Str} {sp : Sp} (F : DefAt K mg nm st ps) (S : FnScope N ps (defScope st)) (len : ∀ vs H Q E, sp vs H Q E → vs.length = ps.length)
    (hbody : ∀ (f : Addr) (cdv : Value) (A : Around) (outer : List Env) (s : Shared) (H : Hp) (vs : List V) (Q : VK) (E : XK), Room k (A.deeper (envOfC nm (defScope st) s.heap.objs.size f cdv)) → sp vs H Q E →
      ∃ t, PSs (cxOf CX0 P w K mg base N nm (defScope st) f cdv A outer s H E).nox (defBody st) t ∧ t { nx := fun _ H' => Q .non H', rt := Q } (start N vs) H) : Has P w K mg base (k + 1) nm ps sp := by
  obtain ⟨f, fd, F, m, b⟩ := F
  exact ⟨f, fd, F.ok S len (hbody f), m, F.kp, b⟩
end L2
namespace K01
open PySem L2
def top (i : Nat) : Stmt := PySem.Challenge.pw_sumlives_k01_errors.main.body.getD i (.Pass ⟨0, 0, 0, 0⟩)
structure Txt (mg : Str → Option Value) : Prop where
  z_len : mg "len" = none
  z_abs : mg "abs" = none
  z_int : mg "int" = none
  z_max : mg "max" = none
  z_min : mg "min" = none
  z_range : mg "range" = none
  z_enumerate : mg "enumerate" = none
  z_isinstance : mg "isinstance" = none
  z_repr : mg "repr" = none
  z_ValueError : mg "ValueError" = none
theorem two_at (c : Int) (b : Prop) [Decidable b] : ∃ v, atI [V.int 0, V.int c] (if decide b = true then 1 else 0) = some (V.int v) := by
  by_cases h : b
  · exact ⟨c, by rw [decide_eq_true h]; rfl⟩
  · exact ⟨0, by rw [decide_eq_false h]; rfl⟩
/-- a box: three ints -/
def Box (H : Hp) (b : Addr) : Prop := ∃ x y z : Int, H b = some (.lst [.int x, .int y, .int z])
section
variable {P : Program} {w : World} {K : PySem.W.Frag} {mg : Str → Option Value} {base : Heap}
abbrev s_law_take : Stmt := top 15
abbrev n_law_take : List Str := ["_law_box_here", "_law_many", "_law_digit", "_law_raw", "_law_wide"]
theorem sc_law_take : FnScope n_law_take ["_law_box_here", "_law_many"] (defScope s_law_take) := ⟨rfl, rfl, rfl, by decide +kernel, rfl, by decide +kernel, by decide +kernel⟩
def spTake : Sp := fun vs H Q _ => ∃ (b : Addr) (n : Int), vs = [.ref b, .int n] ∧ Box H b ∧ 0 < n ∧ n < 1000000 ∧ ∀ (d x y z : Int), 0 ≤ d → d < n → Q (.int d) (upd H b (.lst [.int x, .int y, .int z]))
theorem ok_take (T : Txt mg) (F : DefAt K mg "_law_take" s_law_take ["_law_box_here", "_law_many"]) : Has P w K mg base 1 "_law_take" ["_law_box_here", "_law_many"] spTake := by
  refine F.has sc_law_take (fun vs H Q E h => ?_) (fun f cdv A outer s H vs Q E hr h => ?_)
  · obtain ⟨b, n, rfl, _⟩ := h
    rfl
  · obtain ⟨b, n, rfl, ⟨x, y, z, hb⟩, n0, n1, k⟩ := h
    refine ⟨_, (pss_cons (ps_if (pt_cmpR op_gt (pe_ix ix_list (pv 0) pe_int (fun _ _ => rfl)) pe_int (nomark _)) (pss_cons (ps_set (i := 2) sc_law_take.nd rfl (Or.inl rfl) (pe_op op_mod (pe_callTy call_int1 (by rfl) T.z_int (by decide +kernel) (pa_cons (pe_ix ix_list (pv 0) pe_int (fun _ _ => rfl)) pa_nil)) (pv 1)))
      (pss_cons (ps_asg (pe_op op_fdiv (pe_ix ix_list (pv 0) pe_int (fun _ _ => rfl)) (pv 1)) (pg_sub (pv 0) pe_int set_list))
      (pss_one (ps_ret (pv 2))))) pss_nil)
      (pss_cons (ps_asg (pe_op op_add (pe_ix ix_list (pv 0) pe_int (fun _ _ => rfl)) pe_int) (pg_sub (pv 0) pe_int set_list))
      (pss_cons (ps_set (i := 3) sc_law_take.nd rfl (Or.inl rfl) (pe_op op_mod (pe_callTy call_int1 (by rfl) T.z_int (by decide +kernel) (pa_cons (pe_op op_mul (pe_op op_add (pe_ix ix_list (pv 0) pe_int (fun _ _ => rfl)) (pe_op op_mul pe_int (pe_ix ix_list (pv 0) pe_int (fun _ _ => rfl)))) pe_int) pa_nil)) pe_int))
      (pss_cons (ps_asg (pe_op op_add (pe_op op_mod (pe_callTy call_int1 (by rfl) T.z_int (by decide +kernel) (pa_cons (pe_op op_add (pe_op op_mul (pv 3) pe_int) pe_int) pa_nil)) pe_int) pe_int) (pg_sub (pv 0) pe_int set_list))
      (pss_cons (ps_if (pt_cmpR op_lt (pv 1) (pe_op op_pow pe_int pe_int) (nomark _)) (pss_one (ps_ret (pe_op op_mod (pe_callTy call_int1 (by rfl) T.z_int (by decide +kernel) (pa_cons (pe_op op_fdiv (pe_op op_add (pe_op op_mul (pv 3) pe_int) (pe_ix ix_list (pv 0) pe_int (fun _ _ => rfl))) pe_int) pa_nil)) (pv 1)))) pss_nil)
      (pss_cons (ps_set (i := 4) sc_law_take.nd rfl (Or.inl rfl) (pe_op op_mul (pe_op op_add (pe_op op_mul (pv 3) pe_int) (pe_ix ix_list (pv 0) pe_int (fun _ _ => rfl))) (pe_op op_pow pe_int pe_int)))
      (pss_one (ps_ret (pe_op op_mod (pe_callTy call_int1 (by rfl) T.z_int (by decide +kernel) (pa_cons (pe_op op_add (pe_op op_add (pv 4) (pe_op op_mul (pe_op op_pow (pe_ix ix_list (pv 0) pe_int (fun _ _ => rfl)) pe_int) pe_int)) (pv 3)) pa_nil)) (pv 1)))))))))), ?_⟩
    -- if box[0] > 0: the digit; else the next number
    refine ⟨_, rfl, b, _, _, _, rfl, rfl, SqL.of hb, rfl, _, _, rfl, rfl, _, rfl, ite2 (fun _ => ?_) (fun _ => ?_)⟩
    · refine ⟨_, rfl, b, _, _, _, rfl, rfl, SqL.of hb, rfl, .inl ⟨_, rfl, _, rfl, _, _, rfl, rfl, n0, ?_⟩⟩
      refine ⟨_, rfl, b, _, _, _, rfl, rfl, SqL.of hb, rfl, _, rfl, _, _, rfl, rfl, ⟨n0, by omega⟩, _, rfl, b, _, _, _, rfl, rfl, hb, rfl, _, rfl, ?_⟩
      exact k _ _ _ _ (Int.emod_nonneg _ (by omega)) (Int.emod_lt_of_pos _ n0)
    · refine ⟨_, rfl, b, _, _, _, rfl, rfl, SqL.of hb, rfl, _, _, rfl, rfl, _, rfl, b, _, _, _, rfl, rfl, hb, rfl, ?_⟩
      have h1 : upd H b (.lst [.int x, .int y, .int (z + 1)]) b = some (.lst [.int x, .int y, .int (z + 1)]) := upd_same
      refine ⟨_, rfl, b, _, _, _, rfl, rfl, SqL.of h1, rfl, _, rfl, b, _, _, _, rfl, rfl, SqL.of h1, rfl, _, _, rfl, rfl, .inl ⟨by decide, by decide⟩, _, _, rfl, rfl, _, _, rfl, rfl, .inr ⟨by decide, by decide⟩, .inl ⟨_, rfl, _, _, rfl, rfl, (by show (0 : Int) < 2147483647; decide), ?_⟩⟩
      generalize (y + 104729 * (z + 1)) * 69623 % 2147483647 = r
      refine ⟨_, rfl, _, _, rfl, rfl, .inr ⟨by decide, by decide⟩, _, _, rfl, rfl, .inl ⟨_, rfl, _, _, rfl, rfl, (by show (0 : Int) < 2147483629; decide), _, _, rfl, rfl, _, rfl, b, _, _, _, rfl, rfl, h1, rfl, ?_⟩⟩
      rw [upd_upd]
      refine ⟨_, rfl, _, _, rfl, rfl, ⟨by decide, by decide, by decide⟩, _, _, rfl, rfl, _, rfl, ?_⟩
      have e : decide (n < 2 ^ (40 : Int).toNat) = true := decide_eq_true (by
        have q : (2 : Int) ^ (40 : Int).toNat = 1099511627776 := by decide +kernel
        omega)
      rw [e]
      refine iteT ⟨_, rfl, _, _, rfl, rfl, .inr ⟨by decide, by decide⟩, _, rfl, b, _, _, _, rfl, rfl, SqL.of upd_same, rfl, _, _, rfl, rfl, _, _, rfl, rfl, ⟨by decide, by decide⟩, .inl ⟨_, rfl, _, rfl, _, _, rfl, rfl, n0, ?_⟩⟩
      exact k _ _ _ _ (Int.emod_nonneg _ (by omega)) (Int.emod_lt_of_pos _ n0)
abbrev s_law_pick : Stmt := top 16
abbrev n_law_pick : List Str := ["_law_box_here", "_law_items"]
theorem sc_law_pick : FnScope n_law_pick ["_law_box_here", "_law_items"] (defScope s_law_pick) := ⟨rfl, rfl, rfl, by decide +kernel, rfl, by decide +kernel, by decide +kernel⟩
def spPick : Sp := fun vs H Q _ => ∃ (b l : Addr) (xs : List V), vs = [.ref b, .ref l] ∧ Box H b ∧ H l = some (.lst xs) ∧ 0 < xs.length ∧ xs.length < 1000 ∧ l ≠ b ∧ ∀ (j : Nat) (v : V) (x y z : Int), xs[j]? = some v → Q v (upd H b (.lst [.int x, .int y, .int z]))
theorem ok_pick (T : Txt mg) (g_law_take : Has P w K mg base 1 "_law_take" ["_law_box_here", "_law_many"] spTake) (F : DefAt K mg "_law_pick" s_law_pick ["_law_box_here", "_law_items"]) : Has P w K mg base 2 "_law_pick" ["_law_box_here", "_law_items"] spPick := by
  refine F.has sc_law_pick (fun vs H Q E h => ?_) (fun f cdv A outer s H vs Q E hr h => ?_)
  · obtain ⟨b, l, xs, rfl, _⟩ := h
    rfl
  · obtain ⟨b, l, xs, rfl, hb, hl, l0, l1, nlb, k⟩ := h
    refine ⟨_, (pss_one (ps_ret (pe_ix ix_list (pv 1) (pe_callHas g_law_take (hr.mono (by decide)) rfl (pa_cons (pv 0) (pa_cons (pe_callB call_len (by rfl) T.z_len (by decide +kernel) (pa_cons (pv 1) pa_nil)) pa_nil))) (fun _ _ => rfl)))), ?_⟩
    refine ⟨_, rfl, _, rfl, _, rfl, _, _, rfl, .inl ⟨xs, SqL.of hl, rfl⟩, b, (xs.length : Int), rfl, hb, by omega, by omega, fun d x y z d0 d1 => ?_⟩
    obtain ⟨j, rfl⟩ : ∃ j : Nat, d = (j : Int) := ⟨d.toNat, by omega⟩
    have hj : j < xs.length := by omega
    refine ⟨l, xs, _, xs[j], rfl, rfl, SqL.of (by rw [upd_ne nlb]; exact hl), atI_nat (List.getElem?_eq_getElem hj), k j _ _ _ _ (List.getElem?_eq_getElem hj)⟩
abbrev s_law_box : Stmt := top 14
abbrev n_law_box : List Str := ["_law_script", "_law_k", "_law_own", "_law_cell", "_law_seed"]
theorem sc_law_box : FnScope n_law_box ["_law_script", "_law_k", "_law_own"] (defScope s_law_box) := ⟨rfl, rfl, rfl, by decide +kernel, rfl, by decide +kernel, by decide +kernel⟩
def spBox (K : PySem.W.Frag) : Sp := fun vs H Q _ => ∃ (a : Addr) (ns : List Int) (k o : Int), vs = [.ref a, .int k, .int o] ∧ SqL K H a (ns.map V.int) ∧ 0 ≤ k ∧ k < 1000 ∧ 0 ≤ o ∧ o < 1000 ∧ ∀ (H' : Hp) (p : Addr), Same H H' → H p = none → Box H' p → Q (.ref p) H'
theorem ok_box (T : Txt mg) (F : DefAt K mg "_law_box" s_law_box ["_law_script", "_law_k", "_law_own"]) : Has P w K mg base 1 "_law_box" ["_law_script", "_law_k", "_law_own"] (spBox K) := by
  refine F.has sc_law_box (fun vs H Q E h => ?_) (fun f cdv A outer s H vs Q E hr h => ?_)
  · obtain ⟨a, ns, k, o, rfl, _⟩ := h
    rfl
  · obtain ⟨a, ns, i, o, rfl, hS, i0, i1, o0, o1, k⟩ := h
    refine ⟨_, (pss_cons (ps_set (i := 3) sc_law_box.nd rfl (Or.inl rfl) (pe_op op_add (pe_op op_add (pe_op op_mul pe_int (pv 1)) (pe_op op_mul pe_int (pv 2))) pe_int))
      (pss_cons (ps_if (pt_cmpR op_lt (pv 1) (pe_callB call_len (by rfl) T.z_len (by decide +kernel) (pa_cons (pv 0) pa_nil)) (nomark _)) (pss_one (ps_set (i := 3) sc_law_box.nd rfl (Or.inl rfl) (pe_callB call_abs (by rfl) T.z_abs (by decide +kernel) (pa_cons (pe_ix ix_list (pv 0) (pv 1) (fun _ _ => rfl)) pa_nil)))) (pss_one (ps_if (pt_cmpR op_gt (pe_callB call_len (by rfl) T.z_len (by decide +kernel) (pa_cons (pv 0) pa_nil)) pe_int (nomark _)) (pss_one (ps_set (i := 3) sc_law_box.nd rfl (Or.inl rfl) (pe_op op_add (pv 3) (pe_op op_mul (pe_op op_mod (pe_callTy call_int1 (by rfl) T.z_int (by decide +kernel) (pa_cons (pe_callB call_abs (by rfl) T.z_abs (by decide +kernel) (pa_cons (pe_ix ix_list (pv 0) (pe_op op_mod (pe_callTy call_int1 (by rfl) T.z_int (by decide +kernel) (pa_cons (pv 1) pa_nil)) (pe_callB call_len (by rfl) T.z_len (by decide +kernel) (pa_cons (pv 0) pa_nil))) (fun _ _ => rfl)) pa_nil)) pa_nil)) pe_int) pe_int)))) pss_nil)))
      (pss_cons (ps_set (i := 4) sc_law_box.nd rfl (Or.inl rfl) (pe_op op_add (pe_op op_mod (pe_callTy call_int1 (by rfl) T.z_int (by decide +kernel) (pa_cons (pe_op op_add (pe_op op_mul (pe_op op_mod (pe_callTy call_int1 (by rfl) T.z_int (by decide +kernel) (pa_cons (pv 3) pa_nil)) pe_int) pe_int) (pe_op op_mul pe_int (pe_op op_add (pv 1) (pe_op op_mul pe_int (pv 2))))) pa_nil)) pe_int) pe_int))
      (pss_one (ps_ret (pe_lst (pa_cons (pe_ix ix_list (pe_lst (pa_cons pe_int (pa_cons (pv 3) pa_nil))) (pe_callTy call_int1 (by rfl) T.z_int (by decide +kernel) (pa_cons (pe_cmpR op_ge (pv 3) (pe_op op_pow pe_int pe_int) (nomark _)) pa_nil)) (fun _ _ => rfl)) (pa_cons (pv 4) (pa_cons pe_int pa_nil))))))))), ?_⟩
    refine ⟨_, rfl, _, _, rfl, rfl, .inl ⟨by decide, by decide⟩, _, rfl, _, _, rfl, rfl, .inl ⟨by decide, by decide⟩, _, _, rfl, rfl, _, _, rfl, rfl, ?_⟩
    have hlen : (ns.map V.int).length = ns.length := List.length_map ..
    -- the cell by three ways; what follows is the same
    refine ⟨_, rfl, _, rfl, _, _, rfl, .inl ⟨_, hS, rfl⟩, _, _, rfl, rfl, _, rfl, ite2 (fun h1 => ?_) (fun h1 => ?_)⟩
    · have h1' : i < ((ns.map V.int).length : Int) := of_decide_eq_true h1
      obtain ⟨j, rfl⟩ : ∃ j : Nat, i = (j : Int) := ⟨i.toNat, by omega⟩
      have hj : j < ns.length := by omega
      have ej : (ns.map V.int)[j]? = some (V.int ns[j]) := by rw [List.getElem?_map, List.getElem?_eq_getElem hj]; rfl
      refine ⟨_, rfl, _, rfl, a, _, _, _, rfl, rfl, hS, atI_nat ej, _, rfl, ?_⟩
      refine ⟨_, rfl, .inl ⟨_, rfl, _, _, rfl, rfl, (by show (0 : Int) < 2147483629; decide), _, _, rfl, rfl, .inr ⟨by decide, by decide⟩, _, rfl, _, rfl, _, _, rfl, rfl, .inl ⟨by decide, by decide⟩, _, _, rfl, rfl, _, _, rfl, rfl, .inl ⟨by decide, by decide⟩, _, _, rfl, rfl, .inl ⟨_, rfl, _, _, rfl, rfl, (by show (0 : Int) < 2147483629; decide), _, _, rfl, rfl, ?_⟩⟩⟩
      refine ⟨_, rfl, (by decide : 2 ≤ sizeLine), fun q hq => ⟨_, rfl, _, _, rfl, rfl, ⟨by decide, by decide, by decide⟩, _, _, rfl, rfl, .inr ⟨_, rfl, ?_⟩⟩⟩
      refine ⟨q, _, _, _, rfl, rfl, SqL.of upd_same, (two_at _ _).choose_spec, _, rfl, (by decide : 3 ≤ sizeLine), fun p hp => ?_⟩
      have npq : p ≠ q := fun z => by rw [z, upd_same] at hp; cases hp
      have hp0 : H p = none := by rw [upd_ne npq] at hp; exact hp
      refine k _ p (fun b o z => ?_) hp0 ⟨_, _, _, upd_same⟩
      rw [upd_ne (ne_of_none z hp0), upd_ne (ne_of_none z hq)]
      exact z
    · refine ⟨_, rfl, _, _, rfl, .inl ⟨_, hS, rfl⟩, _, _, rfl, rfl, _, rfl, ite2 (fun h2 => ?_) (fun h2 => ?_)⟩
      · have h2' : (0 : Int) < ((ns.map V.int).length : Int) := of_decide_eq_true h2
        have m0 := Int.emod_nonneg i (b := ((ns.map V.int).length : Int)) (by omega)
        have m1 := Int.emod_lt_of_pos i h2'
        obtain ⟨j, ej0⟩ : ∃ j : Nat, i % ((ns.map V.int).length : Int) = (j : Int) := ⟨(i % ((ns.map V.int).length : Int)).toNat, by omega⟩
        have hj : j < ns.length := by omega
        have ej : (ns.map V.int)[j]? = some (V.int ns[j]) := by rw [List.getElem?_map, List.getElem?_eq_getElem hj]; rfl
        refine ⟨_, rfl, _, rfl, _, rfl, .inl ⟨_, rfl, _, rfl, _, _, rfl, .inl ⟨_, hS, rfl⟩, _, _, rfl, rfl, h2', a, _, _, _, rfl, rfl, hS, (by rw [ej0]; exact atI_nat ej), _, rfl, .inl ⟨_, rfl, _, _, rfl, rfl, (by show (0 : Int) < 2147483629; decide), _, _, rfl, rfl, .inr ⟨by decide, by decide⟩, _, _, rfl, rfl, ?_⟩⟩⟩
        refine ⟨_, rfl, .inl ⟨_, rfl, _, _, rfl, rfl, (by show (0 : Int) < 2147483629; decide), _, _, rfl, rfl, .inr ⟨by decide, by decide⟩, _, rfl, _, rfl, _, _, rfl, rfl, .inl ⟨by decide, by decide⟩, _, _, rfl, rfl, _, _, rfl, rfl, .inl ⟨by decide, by decide⟩, _, _, rfl, rfl, .inl ⟨_, rfl, _, _, rfl, rfl, (by show (0 : Int) < 2147483629; decide), _, _, rfl, rfl, ?_⟩⟩⟩
        refine ⟨_, rfl, (by decide : 2 ≤ sizeLine), fun q hq => ⟨_, rfl, _, _, rfl, rfl, ⟨by decide, by decide, by decide⟩, _, _, rfl, rfl, .inr ⟨_, rfl, ?_⟩⟩⟩
        refine ⟨q, _, _, _, rfl, rfl, SqL.of upd_same, (two_at _ _).choose_spec, _, rfl, (by decide : 3 ≤ sizeLine), fun p hp => ?_⟩
        have npq : p ≠ q := fun z => by rw [z, upd_same] at hp; cases hp
        have hp0 : H p = none := by rw [upd_ne npq] at hp; exact hp
        refine k _ p (fun b o z => ?_) hp0 ⟨_, _, _, upd_same⟩
        rw [upd_ne (ne_of_none z hp0), upd_ne (ne_of_none z hq)]
        exact z
      · show tSeq _ _ _ _ _
        refine ⟨_, rfl, .inl ⟨_, rfl, _, _, rfl, rfl, (by show (0 : Int) < 2147483629; decide), _, _, rfl, rfl, .inr ⟨by decide, by decide⟩, _, rfl, _, rfl, _, _, rfl, rfl, .inl ⟨by decide, by decide⟩, _, _, rfl, rfl, _, _, rfl, rfl, .inl ⟨by decide, by decide⟩, _, _, rfl, rfl, .inl ⟨_, rfl, _, _, rfl, rfl, (by show (0 : Int) < 2147483629; decide), _, _, rfl, rfl, ?_⟩⟩⟩
        refine ⟨_, rfl, (by decide : 2 ≤ sizeLine), fun q hq => ⟨_, rfl, _, _, rfl, rfl, ⟨by decide, by decide, by decide⟩, _, _, rfl, rfl, .inr ⟨_, rfl, ?_⟩⟩⟩
        refine ⟨q, _, _, _, rfl, rfl, SqL.of upd_same, (two_at _ _).choose_spec, _, rfl, (by decide : 3 ≤ sizeLine), fun p hp => ?_⟩
        have npq : p ≠ q := fun z => by rw [z, upd_same] at hp; cases hp
        have hp0 : H p = none := by rw [upd_ne npq] at hp; exact hp
        refine k _ p (fun b o z => ?_) hp0 ⟨_, _, _, upd_same⟩
        rw [upd_ne (ne_of_none z hp0), upd_ne (ne_of_none z hq)]
        exact z
/-! ### the menu's values -/
inductive FlatD : V → PyData → Prop
  | non : FlatD .non .none
  | bl (c : Bool) : FlatD (.bl c) (.bool c)
  | int (i : Int) : FlatD (.int i) (.int i)
  | str (x : Str) : FlatD (.str x) (.str x)
inductive Mv (B : Addr → Prop) (H : Hp) : V → PyData → Prop
  | flat {v : V} {d : PyData} (h : FlatD v d) : Mv B H v d
  | lst {a : Addr} {xs : List V} {ds : List PyData} (n : ¬ B a) (h : H a = some (.lst xs)) (r : Paired FlatD xs ds) : Mv B H (.ref a) (.list ds)
  | tup {a : Addr} {xs : List V} {ds : List PyData} (n : ¬ B a) (h : H a = some (.tup xs)) (r : Paired FlatD xs ds) : Mv B H (.ref a) (.tuple ds)
theorem Mv.mono {B B' : Addr → Prop} {H : Hp} (k : ∀ a, B' a → B a) {v : V} {d : PyData} (m : Mv B H v d) : Mv B' H v d := by
  cases m with
  | flat h => exact .flat h
  | lst n h r => exact .lst (fun z => n (k _ z)) h r
  | tup n h r => exact .tup (fun z => n (k _ z)) h r
def menu : List PyData := [.int 0, .int (-3), .int (10 ^ 18), .str "", .str "note", .none, .bool true, .list [], .list [.int 1, .str "a"], .tuple [.str "x", .none], .tuple [], .str "rests"]
theorem Mv.keep {B : Addr → Prop} {H H' : Hp} (k : ∀ a o, ¬ B a → H a = some o → H' a = some o) {v : V} {d : PyData} (m : Mv B H v d) : Mv B H' v d := by
  cases m with
  | flat h => exact .flat h
  | lst n h r => exact .lst n (k _ _ n h) r
  | tup n h r => exact .tup n (k _ _ n h) r
theorem FlatD.dp {K : PySem.W.Frag} {H : Hp} {v : V} {d : PyData} (m : FlatD v d) : Dp K H v d := by
  cases m with
  | non => exact .non
  | bl c => exact .bl c
  | int i => exact .int i
  | str x => exact .str x
theorem flats_dp {K : PySem.W.Frag} {H : Hp} {xs : List V} {ds : List PyData} (r : Paired FlatD xs ds) : DpAll K H xs ds := by
  induction r with
  | nil => exact .nil
  | cons a _ ih => exact .cons a.dp ih
theorem Mv.dp {K : PySem.W.Frag} {B : Addr → Prop} {H : Hp} {v : V} {d : PyData} (m : Mv B H v d) : Dp K H v d := by
  cases m with
  | flat h => exact h.dp
  | lst n h r => exact .lst (SqL.of h) (flats_dp r)
  | tup n h r => exact .tup (SqT.of h) (flats_dp r)
theorem free_upd {H : Hp} {p q : Addr} {o : HO} (h : upd H p o q = none) : q ≠ p ∧ H q = none := by
  have n : q ≠ p := fun e => by
    rw [e, upd_same] at h
    cases h
  rw [upd_ne n] at h
  exact ⟨n, h⟩
abbrev s_law_value : Stmt := top 17
abbrev n_law_value : List Str := ["_law_box_here"]
theorem sc_law_value : FnScope n_law_value ["_law_box_here"] (defScope s_law_value) := ⟨rfl, rfl, rfl, by decide +kernel, rfl, by decide +kernel, by decide +kernel⟩
/-- but for the box all stands as before -/
def But (b : Addr) (H H' : Hp) : Prop := ∀ a o, a ≠ b → H a = some o → H' a = some o
def spValue : Sp := fun vs H Q _ => ∃ b : Addr, vs = [.ref b] ∧ Box H b ∧ ∀ (H' : Hp) (v : V) (d : PyData), Box H' b → But b H H' → Mv (fun x => x = b ∨ H x ≠ none) H' v d → d ∈ menu → Q v H'
theorem ok_value (T : Txt mg) (g_law_pick : Has P w K mg base 2 "_law_pick" ["_law_box_here", "_law_items"] spPick) (F : DefAt K mg "_law_value" s_law_value ["_law_box_here"]) : Has P w K mg base 3 "_law_value" ["_law_box_here"] spValue := by
  refine F.has sc_law_value (fun vs H Q E h => ?_) (fun f cdv A outer s H vs Q E hr h => ?_)
  · obtain ⟨b, rfl, _⟩ := h
    rfl
  · obtain ⟨b, rfl, ⟨x0, y0, z0, hb⟩, k⟩ := h
    refine ⟨_, (pss_one (ps_ret (pe_callHas g_law_pick (hr.mono (by decide)) rfl (pa_cons (pv 0) (pa_cons (pe_lst (pa_cons pe_int (pa_cons (pe_un un_neg pe_int) (pa_cons (pe_op op_pow pe_int pe_int) (pa_cons pe_str (pa_cons pe_str (pa_cons pe_non (pa_cons pe_bl (pa_cons (pe_lst pa_nil) (pa_cons (pe_lst (pa_cons pe_int (pa_cons pe_str pa_nil))) (pa_cons (pe_tup (pa_cons pe_str (pa_cons pe_non pa_nil))) (pa_cons (pe_tup pa_nil) (pa_cons pe_str pa_nil))))))))))))) pa_nil))))), ?_⟩
    refine ⟨_, rfl, _, rfl, _, _, rfl, rfl, ⟨by decide, by decide, by decide⟩, Nat.zero_le _, fun p1 q1 => ⟨(by decide : 2 ≤ sizeLine), fun p2 q2 => ⟨(by decide : 2 ≤ sizeLine), fun p3 q3 => ⟨Nat.zero_le _, fun p4 q4 => ⟨(by decide : 12 ≤ sizeLine), fun l ql => ?_⟩⟩⟩⟩⟩
    obtain ⟨n21, f2⟩ := free_upd q2
    obtain ⟨n32, q3'⟩ := free_upd q3
    obtain ⟨n31, f3⟩ := free_upd q3'
    obtain ⟨n43, q4'⟩ := free_upd q4
    obtain ⟨n42, q4''⟩ := free_upd q4'
    obtain ⟨n41, f4⟩ := free_upd q4''
    obtain ⟨nl4, ql1⟩ := free_upd ql
    obtain ⟨nl3, ql2⟩ := free_upd ql1
    obtain ⟨nl2, ql3⟩ := free_upd ql2
    obtain ⟨nl1, fl⟩ := free_upd ql3
    have b1 := ne_of_none hb q1
    have b2 := ne_of_none hb f2
    have b3 := ne_of_none hb f3
    have b4 := ne_of_none hb f4
    have bl := ne_of_none hb fl
    refine ⟨b, l, _, rfl, ⟨x0, y0, z0, by rw [upd_ne bl, upd_ne b4, upd_ne b3, upd_ne b2, upd_ne b1]; exact hb⟩, upd_same, (by show 0 < 12; decide), (by show 12 < 1000; decide), bl.symm, fun j v x y z hj => ?_⟩
    have hbox : Box (upd (upd (upd (upd (upd (upd H p1 (.lst [])) p2 (.lst [.int 1, .str "a"])) p3 (.tup [.str "x", .non])) p4 (.tup [])) l (.lst [.int 0, .int (-3), .int (10 ^ 18), .str "", .str "note", .non, .bl true, .ref p1, .ref p2, .ref p3, .ref p4, .str "rests"])) b (.lst [.int x, .int y, .int z])) b := ⟨x, y, z, upd_same⟩
    have hbut : But b H (upd (upd (upd (upd (upd (upd H p1 (.lst [])) p2 (.lst [.int 1, .str "a"])) p3 (.tup [.str "x", .non])) p4 (.tup [])) l (.lst [.int 0, .int (-3), .int (10 ^ 18), .str "", .str "note", .non, .bl true, .ref p1, .ref p2, .ref p3, .ref p4, .str "rests"])) b (.lst [.int x, .int y, .int z])) := fun a o na ha => by
      rw [upd_ne na, upd_ne (ne_of_none ha fl), upd_ne (ne_of_none ha f4), upd_ne (ne_of_none ha f3), upd_ne (ne_of_none ha f2), upd_ne (ne_of_none ha q1)]
      exact ha
    obtain ⟨d, m, hd⟩ : ∃ d, Mv (fun x => x = b ∨ H x ≠ none) (upd (upd (upd (upd (upd (upd H p1 (.lst [])) p2 (.lst [.int 1, .str "a"])) p3 (.tup [.str "x", .non])) p4 (.tup [])) l (.lst [.int 0, .int (-3), .int (10 ^ 18), .str "", .str "note", .non, .bl true, .ref p1, .ref p2, .ref p3, .ref p4, .str "rests"])) b (.lst [.int x, .int y, .int z])) v d ∧ d ∈ menu := by
      match j, hj with
      | 0, hj => cases hj; exact ⟨_, .flat (.int 0), by simp [menu]⟩
      | 1, hj => cases hj; exact ⟨_, .flat (.int (-3)), by simp [menu]⟩
      | 2, hj => cases hj; exact ⟨_, .flat (.int (10 ^ 18)), by simp [menu]⟩
      | 3, hj => cases hj; exact ⟨_, .flat (.str ""), by simp [menu]⟩
      | 4, hj => cases hj; exact ⟨_, .flat (.str "note"), by simp [menu]⟩
      | 5, hj => cases hj; exact ⟨_, .flat .non, by simp [menu]⟩
      | 6, hj => cases hj; exact ⟨_, .flat (.bl true), by simp [menu]⟩
      | 7, hj => cases hj; exact ⟨_, .lst (fun z => z.elim b1.symm (fun y => y q1)) (by rw [upd_ne b1.symm, upd_ne nl1.symm, upd_ne n41.symm, upd_ne n31.symm, upd_ne n21.symm, upd_same]) .nil, by simp [menu]⟩
      | 8, hj => cases hj; exact ⟨_, .lst (fun z => z.elim b2.symm (fun y => y f2)) (by rw [upd_ne b2.symm, upd_ne nl2.symm, upd_ne n42.symm, upd_ne n32.symm, upd_same]) (.cons (.int 1) (.cons (.str "a") .nil)), by simp [menu]⟩
      | 9, hj => cases hj; exact ⟨_, .tup (fun z => z.elim b3.symm (fun y => y f3)) (by rw [upd_ne b3.symm, upd_ne nl3.symm, upd_ne n43.symm, upd_same]) (.cons (.str "x") (.cons .non .nil)), by simp [menu]⟩
      | 10, hj => cases hj; exact ⟨_, .tup (fun z => z.elim b4.symm (fun y => y f4)) (by rw [upd_ne b4.symm, upd_ne nl4.symm, upd_same]) .nil, by simp [menu]⟩
      | 11, hj => cases hj; exact ⟨_, .flat (.str "rests"), by simp [menu]⟩
      | n + 12, hj => exact absurd hj (by simp)
    exact k _ v d hbox hbut m hd
end
end K01

namespace K01
open PySem L2
theorem same_free {H : Hp} {p : Addr} {o : HO} (h : H p = none) : Same H (upd H p o) := fun b u z => by
  rw [upd_ne (ne_of_none z h)]
  exact z
theorem ErrAt.keep {H H' : Hp} {a C : Addr} {fs : List (Str × V)} (s : Same H H') (h : ErrAt H a C fs) : ErrAt H' a C fs := by
  rcases h with ⟨e, h | h⟩ | ⟨d, h, k⟩
  · exact .inl ⟨e, .inl (s _ _ h)⟩
  · exact .inl ⟨e, .inr (s _ _ h)⟩
  · exact .inr ⟨d, s _ _ h, s _ _ k⟩
def spInit (C : Addr) (fld : Str) : Sp := fun vs H Q _ => ∃ (a : Addr) (v : V), vs = [.ref a, v] ∧ H a = some (exo a C none) ∧ ∀ d, H d = none → d ≠ a → Q .non (upd (upd H d (exd d [(fld, v)])) a (exo a C (some d)))
section
variable {P : Program} {w : World} {K : PySem.W.Frag} {mg : Str → Option Value} {base : Heap}
/-- an own error with one field, as the text and the top have it -/
def ErrK (P : Program) (w : World) (K : PySem.W.Frag) (mg : Str → Option Value) (base : Heap) (nm fld : Str) (C : Addr) : Prop :=
  ∃ (fI : Addr) (fd : FuncData), ErrC K C fI fd ∧ FnOk P w K mg base CX0 1 fI fd ["self", fld] (spInit C fld) ∧ mg nm = some (.ref C) ∧ Binds K fd ["self", fld] [] ∧
    (∀ (s : Shared) (u w : Value), K.In s.heap → BindsTo s fd ⟨[u], [(fld, w)]⟩ ((["self", fld] : List Str).zip [u, w])) ∧ PySem.W.ErrIs K C ∧ PySem.W.findIn K (.ref C) fld = some none
/-- one without -/
structure Err0 (K : PySem.W.Frag) (mg : Str → Option Value) (nm : Str) (C : Addr) : Prop where
  q : PySem.W.excIn K C PySem.HandSPX.veTail "ValueError.__new__" = true
  m : mg nm = some (.ref C)
  k : PySem.W.keepIn K (.ref C) = true
  i : PySem.W.ErrIs K C
theorem ok_init {fI C : Addr} {fd : FuncData} {fld qual : Str} {st : Stmt} (F : Fun K "__init__" qual st fI fd) (S : FnScope (["self", fld] : List Str) (["self", fld] : List Str) (defScope st)) (ox : OexC K C) (hno : PySem.W.findIn K (.ref C) fld = some none)
    (hb : ∀ (cdv : Value) (A : Around) (outer : List Env) (s : Shared) (H : Hp) (E : XK), PSs (cxOf CX0 P w K mg base (["self", fld] : List Str) qual (defScope st) fI cdv A outer s H E).nox (defBody st) (tOst K fld (tVar 0) (tVar 1))) : FnOk P w K mg base CX0 1 fI fd ["self", fld] (spInit C fld) := by
  refine F.ok S (fun vs H Q E h => ?_) (fun cdv A outer s H vs Q E hr h => ?_)
  · obtain ⟨a, v, rfl, _⟩ := h
    rfl
  · obtain ⟨a, v, rfl, ha, k⟩ := h
    exact ⟨_, hb _ _ _ _ _ _, _, rfl, _, rfl, a, C, rfl, ox, hno, .inl ⟨ha, fun d h1 h2 => k d h1 h2⟩⟩
section
variable {X : Cx} {nm fld : Str} {C : Addr} {p pos : Pos} {e : Expr} {es : List Expr} {ta tk : TA} {kws : List Keyword}
theorem init_q {H1 : Hp} {v : V} {Q : VK} {a : Addr} (ha : H1 a = none) (q : ∀ H2 a, Same H1 H2 → ErrAt H2 a C [(fld, v)] → Q (.ref a) H2) : spInit C fld [.ref a, v] (upd H1 a (exo a C none)) (fun u H2 => u = .non ∧ Q (.ref a) H2) E0 := by
  refine ⟨a, v, rfl, upd_same, fun d hd nd => ⟨rfl, q _ a (fun b o z => ?_) (.inr ⟨d, upd_same, ?_⟩)⟩⟩
  · have n1 := ne_of_none z ha
    have n2 : b ≠ d := fun y => by
      rw [← y, upd_ne n1, z] at hd
      cases hd
    rw [upd_ne n1, upd_ne n2, upd_ne n1]; exact z
  · rw [upd_ne nd, upd_same]
theorem err_new {H : Hp} {C x d : Addr} {fld : Str} {v : V} (hx : H x = none) (hd : upd H x (exo x C none) d = none) (nd : d ≠ x) : Same H (upd (upd (upd H x (exo x C none)) d (exd d [(fld, v)])) x (exo x C (some d))) ∧ ErrAt (upd (upd (upd H x (exo x C none)) d (exd d [(fld, v)])) x (exo x C (some d))) x C [(fld, v)] := by
  refine ⟨fun b o z => ?_, .inr ⟨d, upd_same, by rw [upd_ne nd, upd_same]⟩⟩
  have n1 := ne_of_none z hx
  have n2 : b ≠ d := fun y => by
    rw [← y, upd_ne n1, z] at hd
    cases hd
  rw [upd_ne n1, upd_ne n2, upd_ne n1]; exact z
theorem new_at {H : Hp} {p : Addr} {o : HO} (h : H p = none) : Same H (upd H p o) ∧ upd H p o p = some o := ⟨same_free h, upd_same⟩
theorem lst_at {H : Hp} {p : Addr} {ys xs : List V} (_ : H p = some (.lst ys)) : upd H p (.lst xs) p = some (.lst xs) := upd_same
/-- an error stays where a list is changed -/
theorem err_up {H : Hp} {p a C : Addr} {ys xs : List V} {fs : List (Str × V)} (hp : H p = some (.lst ys)) (h : ErrAt H a C fs) : ErrAt (upd H p (.lst xs)) a C fs := by
  have no : ∀ {b : Addr} {φ : Heap → Prop}, H b = some (.ext φ) → b ≠ p := fun {b φ} z e => by
    rw [e, hp] at z
    cases z
  rcases h with ⟨e, h | h⟩ | ⟨d, h, k⟩
  · exact .inl ⟨e, .inl ((upd_ne (no h)).trans h)⟩
  · exact .inl ⟨e, .inr ((upd_ne (no h)).trans h)⟩
  · exact .inr ⟨d, (upd_ne (no h)).trans h, (upd_ne (no k)).trans k⟩
theorem mk_q {H1 : Hp} {v : V} {Q : VK} (q : ∀ H2 a, Same H1 H2 → ErrAt H2 a C [(fld, v)] → Q (.ref a) H2) : [v].length ≤ 1000 ∧ ∀ a, H1 a = none → spInit C fld (.ref a :: [v]) (upd H1 a (exo a C none)) (fun u H2 => u = .non ∧ Q (.ref a) H2) E0 :=
  ⟨by show 1 ≤ 1000; decide, fun a ha => init_q ha q⟩
theorem mkK_q {H1 : Hp} {v : V} {Q : VK} (q : ∀ H2 a, Same H1 H2 → ErrAt H2 a C [(fld, v)] → Q (.ref a) H2) : [v].length = 1 ∧ ∀ a, H1 a = none → spInit C fld (.ref a :: [v]) (upd H1 a (exo a C none)) (fun u H2 => u = .non ∧ Q (.ref a) H2) E0 :=
  ⟨rfl, fun a ha => init_q ha q⟩
theorem mk0_q {H1 : Hp} {Q : VK} (q : ∀ H2 a, Same H1 H2 → ErrAt H2 a C [] → Q (.ref a) H2) : ∀ a, H1 a = none → Q (.ref a) (upd H1 a (ExO (.ref C) a)) := fun a ha => q _ a (same_free ha) (.inl ⟨rfl, .inr upd_same⟩)
theorem pe_mk (E : ErrK X.prog X.w X.K X.mg X.base nm fld C) (hr : Room 2 X.A) (hg : Gl X nm) (ha : PA X (e :: es) ta) (hdb : (nm == ("__debug__" : Str)) = false := by decide)
    (he : starEach (e :: es) X.env = (false, eval e X.env) :: starEach es X.env := by rfl) (hpl : (backTo pos (starEach es X.env)).any (·.1) = false := by rfl) : PE X (.Call (.Name nm p) (e :: es) [] pos) (tErr C (spInit C fld) ta) := by
  obtain ⟨fI, fd, ec, F, m, b, _⟩ := E
  exact pe_err ec F hr b hg m ha hdb he hpl
def tErrK (C : Addr) (fld : Str) (tk : TA) : TE := fun σ H Q => tk σ H fun vs H1 => vs.length = 1 ∧ ∀ a, H1 a = none → spInit C fld (.ref a :: vs) (upd H1 a (exo a C none)) (fun v H2 => v = .non ∧ Q (.ref a) H2) E0
theorem pe_mkK (E : ErrK X.prog X.w X.K X.mg X.base nm fld C) (hr : Room 2 X.A) (hg : Gl X nm) (hkw : PK X kws tk) (hall : (backToKw pos (keywordEach kws X.env)).all (·.1.isSome) = true) (hks : (backToKw pos (keywordEach kws X.env)).filterMap (·.1) = [fld])
    (hdb : (nm == ("__debug__" : Str)) = false := by decide) (hpl : ((backTo pos (starEach [] X.env)).any (·.1) || (backToKw pos (keywordEach kws X.env)).any (·.1.isNone)) = false := by rfl) : PE X (.Call (.Name nm p) [] kws pos) (tErrK C fld tk) := by
  obtain ⟨fI, fd, ec, F, m, b, bk, _⟩ := E
  exact pe_errK ec F hr bk hg m hkw hall hks hdb hpl
def tErr0 (C : Addr) : TE := fun _ H Q => ∀ a, H a = none → Q (.ref a) (upd H a (ExO (.ref C) a))
theorem pe_mk0 (E : Err0 X.K X.mg nm C) (hg : Gl X nm) (hdb : (nm == ("__debug__" : Str)) = false := by decide) : PE X (.Call (.Name nm p) [] [] pos) (tErr0 C) := pe_err0 F.excBase_ValueError E.q E.m E.k hg hdb
end
/-- the eleven classes, and what is asked of them -/
structure Errs (P : Program) (w : World) (K : PySem.W.Frag) (mg : Str → Option Value) (base : Heap) (c : Nat → Addr) : Prop where
  e_InvalidText : ErrK P w K mg base "InvalidText" "at" (c 0)
  e_InvalidRow : ErrK P w K mg base "InvalidRow" "part" (c 1)
  e_InvalidBook : ErrK P w K mg base "InvalidBook" "word" (c 2)
  e_InvalidLife : ErrK P w K mg base "InvalidLife" "at" (c 3)
  e_NoStatement : ErrK P w K mg base "NoStatement" "at" (c 4)
  e_NoTotal : ErrK P w K mg base "NoTotal" "name" (c 5)
  e_NoEvent : ErrK P w K mg base "NoEvent" "name" (c 6)
  e_Refused : ErrK P w K mg base "Refused" "word" (c 7)
  e_InvalidVector : Err0 K mg "InvalidVector" (c 8)
  e_InvalidCommand : Err0 K mg "InvalidCommand" (c 9)
  e_Mismatch : Err0 K mg "Mismatch" (c 10)
theorem ErrK.m {nm fld : Str} {C : Addr} (E : ErrK P w K mg base nm fld C) : mg nm = some (.ref C) := by
  obtain ⟨_, _, _, _, m, _⟩ := E
  exact m
theorem ErrK.i {nm fld : Str} {C : Addr} (E : ErrK P w K mg base nm fld C) : PySem.W.ErrIs K C ∧ PySem.W.findIn K (.ref C) fld = some none := by
  obtain ⟨_, _, _, _, _, _, _, i⟩ := E
  exact i
/-- what isinstance says of them -/
structure Kits (K : PySem.W.Frag) (mg : Str → Option Value) (c : Nat → Addr) (cS : Addr) : Prop where
  k : ∀ i j, i < 11 → j < 11 → PySem.W.kitOne K (.ref (c i)) (.ref (c j)) = some (decide (j = i))
  s : ∀ i, i < 11 → PySem.W.kitOne K (.ref (c i)) (.ref cS) = some true
  v : ∀ i, i < 11 → PySem.W.kitOne K (.ref (c i)) (.type "ValueError") = some true
  m : mg "SumError" = some (.ref cS)
theorem Errs.is {c : Nat → Addr} (E : Errs P w K mg base c) : ∀ i, i < 11 → PySem.W.ErrIs K (c i)
  | 0, _ => E.e_InvalidText.i.1
  | 1, _ => E.e_InvalidRow.i.1
  | 2, _ => E.e_InvalidBook.i.1
  | 3, _ => E.e_InvalidLife.i.1
  | 4, _ => E.e_NoStatement.i.1
  | 5, _ => E.e_NoTotal.i.1
  | 6, _ => E.e_NoEvent.i.1
  | 7, _ => E.e_Refused.i.1
  | 8, _ => E.e_InvalidVector.i
  | 9, _ => E.e_InvalidCommand.i
  | 10, _ => E.e_Mismatch.i
  | n + 11, h => absurd h (by omega)
/-- the eleven errors of eight values -/
def tab (c : Nat → Addr) (v : Nat → V) : List (Addr × List (Str × V)) :=
  [(c 0, [("at", v 0)]), (c 1, [("part", v 1)]), (c 2, [("word", v 2)]), (c 3, [("at", v 3)]), (c 4, [("at", v 4)]), (c 5, [("name", v 5)]), (c 6, [("name", v 6)]), (c 7, [("word", v 7)]), (c 8, []), (c 9, []), (c 10, [])]
def IsErr (H : Hp) (x : V) (e : Addr × List (Str × V)) : Prop := ∃ a, x = .ref a ∧ ErrAt H a e.1 e.2
def MadeAt (H : Hp) (p : Addr) (es : List (Addr × List (Str × V))) : Prop := ∃ xs, H p = some (.lst xs) ∧ Paired (IsErr H) xs es
theorem IsErr.keep {H H' : Hp} {x : V} {e : Addr × List (Str × V)} (s : Same H H') (h : IsErr H x e) : IsErr H' x e := by
  obtain ⟨a, e1, h⟩ := h
  exact ⟨a, e1, K01.ErrAt.keep s h⟩
theorem MadeAt.keep {H H' : Hp} {p : Addr} {es : List (Addr × List (Str × V))} (s : Same H H') (h : MadeAt H p es) : MadeAt H' p es := by
  obtain ⟨xs, h1, h2⟩ := h
  exact ⟨xs, s _ _ h1, Paired.mapP h2 fun _ _ z => z.keep s⟩
/-- a list of eight values -/
def Eight (H : Hp) (l : Addr) (v : Nat → V) : Prop := H l = some (.lst [v 0, v 1, v 2, v 3, v 4, v 5, v 6, v 7])
abbrev s_law_made : Stmt := top 19
abbrev n_law_made : List Str := ["_law_some", "_law_found"]
theorem sc_law_made : FnScope n_law_made ["_law_some"] (defScope s_law_made) := ⟨rfl, rfl, rfl, by decide +kernel, rfl, by decide +kernel, by decide +kernel⟩
def spMade (c : Nat → Addr) : Sp := fun vs H Q _ => ∃ (l : Addr) (v : Nat → V), vs = [.ref l] ∧ Eight H l v ∧ ∀ (H' : Hp) (p : Addr), Same H H' → MadeAt H' p (tab c v) → Q (.ref p) H'
theorem ok_made {c : Nat → Addr} (T : Txt mg) (E : Errs P w K mg base c) (F : DefAt K mg "_law_made" s_law_made ["_law_some"]) : Has P w K mg base 3 "_law_made" ["_law_some"] (spMade c) := by
  obtain ⟨e_InvalidText, e_InvalidRow, e_InvalidBook, e_InvalidLife, e_NoStatement, e_NoTotal, e_NoEvent, e_Refused, e_InvalidVector, e_InvalidCommand, e_Mismatch⟩ := E
  refine F.has sc_law_made (fun vs H Q E h => ?_) (fun f cdv A outer s H vs Q E hr h => ?_)
  · obtain ⟨l, v, rfl, _⟩ := h
    rfl
  · obtain ⟨l, v, rfl, hl, k⟩ := h
    refine ⟨_, (pss_cons (ps_set (i := 1) sc_law_made.nd rfl (Or.inl rfl) (pe_lst (pa_cons (pe_mk e_InvalidText (hr.mono (by decide)) rfl (pa_cons (pe_ix ix_list (pv 0) pe_int (fun _ _ => rfl)) pa_nil)) (pa_cons (pe_mk e_InvalidRow (hr.mono (by decide)) rfl (pa_cons (pe_ix ix_list (pv 0) pe_int (fun _ _ => rfl)) pa_nil)) (pa_cons (pe_mk e_InvalidBook (hr.mono (by decide)) rfl (pa_cons (pe_ix ix_list (pv 0) pe_int (fun _ _ => rfl)) pa_nil)) (pa_cons (pe_mk e_InvalidLife (hr.mono (by decide)) rfl (pa_cons (pe_ix ix_list (pv 0) pe_int (fun _ _ => rfl)) pa_nil)) pa_nil))))))
      (pss_cons (ps_expr (pe_bm PySem.F.plainAttrs_list PySem.F.slot_list_extend PySem.F.type_list_extend mt_extend (pv 1) (pa_cons (pe_lst (pa_cons (pe_mk e_NoStatement (hr.mono (by decide)) rfl (pa_cons (pe_ix ix_list (pv 0) pe_int (fun _ _ => rfl)) pa_nil)) (pa_cons (pe_mk e_NoTotal (hr.mono (by decide)) rfl (pa_cons (pe_ix ix_list (pv 0) pe_int (fun _ _ => rfl)) pa_nil)) (pa_cons (pe_mk e_NoEvent (hr.mono (by decide)) rfl (pa_cons (pe_ix ix_list (pv 0) pe_int (fun _ _ => rfl)) pa_nil)) (pa_cons (pe_mk e_Refused (hr.mono (by decide)) rfl (pa_cons (pe_ix ix_list (pv 0) pe_int (fun _ _ => rfl)) pa_nil)) pa_nil))))) pa_nil)))
      (pss_one (ps_ret (pe_op op_cat (pv 1) (pe_lst (pa_cons (pe_mk0 e_InvalidVector rfl) (pa_cons (pe_mk0 e_InvalidCommand rfl) (pa_cons (pe_mk0 e_Mismatch rfl) pa_nil))))))))), ?_⟩
    refine ⟨_, rfl, l, _, _, _, rfl, rfl, SqL.of hl, rfl, (by show 1 ≤ 1000; decide), fun x0 y0 => ⟨x0, _, rfl, upd_same, fun d0 z0 n0 => ⟨rfl, ?_⟩⟩⟩
    obtain ⟨t0, E0⟩ := err_new (C := c 0) (fld := "at") (v := v 0) y0 z0 n0
    refine ⟨_, rfl, l, _, _, _, rfl, rfl, SqL.of (t0 _ _ hl), rfl, (by show 1 ≤ 1000; decide), fun x1 y1 => ⟨x1, _, rfl, upd_same, fun d1 z1 n1 => ⟨rfl, ?_⟩⟩⟩
    obtain ⟨t1, E1⟩ := err_new (C := c 1) (fld := "part") (v := v 1) y1 z1 n1
    refine ⟨_, rfl, l, _, _, _, rfl, rfl, SqL.of ((t0.trans t1) _ _ hl), rfl, (by show 1 ≤ 1000; decide), fun x2 y2 => ⟨x2, _, rfl, upd_same, fun d2 z2 n2 => ⟨rfl, ?_⟩⟩⟩
    obtain ⟨t2, E2⟩ := err_new (C := c 2) (fld := "word") (v := v 2) y2 z2 n2
    refine ⟨_, rfl, l, _, _, _, rfl, rfl, SqL.of (((t0.trans t1).trans t2) _ _ hl), rfl, (by show 1 ≤ 1000; decide), fun x3 y3 => ⟨x3, _, rfl, upd_same, fun d3 z3 n3 => ⟨rfl, ?_⟩⟩⟩
    obtain ⟨t3, E3⟩ := err_new (C := c 3) (fld := "at") (v := v 3) y3 z3 n3
    refine ⟨(by decide : 4 ≤ sizeLine), fun p hp => ?_⟩
    obtain ⟨sp, hp0⟩ := new_at (o := .lst [.ref x0, .ref x1, .ref x2, .ref x3]) hp
    have sA := ((((t0.trans t1).trans t2).trans t3)).trans sp
    have hl2 := sA _ _ hl
    refine ⟨_, rfl, .inl ⟨rfl, _, SqL.of hp0⟩, _, rfl, l, _, _, _, rfl, rfl, SqL.of hl2, rfl, (by show 1 ≤ 1000; decide), fun x4 y4 => ⟨x4, _, rfl, upd_same, fun d4 z4 n4 => ⟨rfl, ?_⟩⟩⟩
    obtain ⟨t4, E4⟩ := err_new (C := c 4) (fld := "at") (v := v 4) y4 z4 n4
    refine ⟨_, rfl, l, _, _, _, rfl, rfl, SqL.of (t4 _ _ hl2), rfl, (by show 1 ≤ 1000; decide), fun x5 y5 => ⟨x5, _, rfl, upd_same, fun d5 z5 n5 => ⟨rfl, ?_⟩⟩⟩
    obtain ⟨t5, E5⟩ := err_new (C := c 5) (fld := "name") (v := v 5) y5 z5 n5
    refine ⟨_, rfl, l, _, _, _, rfl, rfl, SqL.of ((t4.trans t5) _ _ hl2), rfl, (by show 1 ≤ 1000; decide), fun x6 y6 => ⟨x6, _, rfl, upd_same, fun d6 z6 n6 => ⟨rfl, ?_⟩⟩⟩
    obtain ⟨t6, E6⟩ := err_new (C := c 6) (fld := "name") (v := v 6) y6 z6 n6
    refine ⟨_, rfl, l, _, _, _, rfl, rfl, SqL.of (((t4.trans t5).trans t6) _ _ hl2), rfl, (by show 1 ≤ 1000; decide), fun x7 y7 => ⟨x7, _, rfl, upd_same, fun d7 z7 n7 => ⟨rfl, ?_⟩⟩⟩
    obtain ⟨t7, E7⟩ := err_new (C := c 7) (fld := "word") (v := v 7) y7 z7 n7
    refine ⟨(by decide : 4 ≤ sizeLine), fun q hq => ?_⟩
    obtain ⟨sq, hq0⟩ := new_at (o := .lst [.ref x4, .ref x5, .ref x6, .ref x7]) hq
    have sB := ((((t4.trans t5).trans t6).trans t7)).trans sq
    have hp1 := sB _ _ hp0
    refine ⟨p, q, _, _, rfl, rfl, hp1, hq0, (by decide : 8 ≤ sizeLine), ?_⟩
    have hp2 := lst_at (xs := [.ref x0, .ref x1, .ref x2, .ref x3, .ref x4, .ref x5, .ref x6, .ref x7]) hp1
    have F0 := err_up (xs := [.ref x0, .ref x1, .ref x2, .ref x3, .ref x4, .ref x5, .ref x6, .ref x7]) hp1 (K01.ErrAt.keep sB (K01.ErrAt.keep sp (K01.ErrAt.keep t3 (K01.ErrAt.keep t2 (K01.ErrAt.keep t1 E0)))))
    have F1 := err_up (xs := [.ref x0, .ref x1, .ref x2, .ref x3, .ref x4, .ref x5, .ref x6, .ref x7]) hp1 (K01.ErrAt.keep sB (K01.ErrAt.keep sp (K01.ErrAt.keep t3 (K01.ErrAt.keep t2 E1))))
    have F2 := err_up (xs := [.ref x0, .ref x1, .ref x2, .ref x3, .ref x4, .ref x5, .ref x6, .ref x7]) hp1 (K01.ErrAt.keep sB (K01.ErrAt.keep sp (K01.ErrAt.keep t3 E2)))
    have F3 := err_up (xs := [.ref x0, .ref x1, .ref x2, .ref x3, .ref x4, .ref x5, .ref x6, .ref x7]) hp1 (K01.ErrAt.keep sB (K01.ErrAt.keep sp E3))
    have F4 := err_up (xs := [.ref x0, .ref x1, .ref x2, .ref x3, .ref x4, .ref x5, .ref x6, .ref x7]) hp1 (K01.ErrAt.keep sq (K01.ErrAt.keep t7 (K01.ErrAt.keep t6 (K01.ErrAt.keep t5 E4))))
    have F5 := err_up (xs := [.ref x0, .ref x1, .ref x2, .ref x3, .ref x4, .ref x5, .ref x6, .ref x7]) hp1 (K01.ErrAt.keep sq (K01.ErrAt.keep t7 (K01.ErrAt.keep t6 E5)))
    have F6 := err_up (xs := [.ref x0, .ref x1, .ref x2, .ref x3, .ref x4, .ref x5, .ref x6, .ref x7]) hp1 (K01.ErrAt.keep sq (K01.ErrAt.keep t7 E6))
    have F7 := err_up (xs := [.ref x0, .ref x1, .ref x2, .ref x3, .ref x4, .ref x5, .ref x6, .ref x7]) hp1 (K01.ErrAt.keep sq E7)
    have nlp : l ≠ p := ne_of_none (((((t0.trans t1).trans t2).trans t3)) _ _ hl) hp
    have hlC : upd _ p (.lst [.ref x0, .ref x1, .ref x2, .ref x3, .ref x4, .ref x5, .ref x6, .ref x7]) l = some _ := (upd_ne nlp).trans (sB _ _ hl2)
    refine ⟨_, rfl, fun x8 y8 => fun x9 y9 => fun x10 y10 => ?_⟩
    obtain ⟨t8, e8⟩ := new_at (o := ExO (.ref (c 8)) x8) y8
    obtain ⟨t9, e9⟩ := new_at (o := ExO (.ref (c 9)) x9) y9
    obtain ⟨t10, e10⟩ := new_at (o := ExO (.ref (c 10)) x10) y10
    have E8 : ErrAt _ x8 (c 8) [] := .inl ⟨rfl, .inr e8⟩
    have E9 : ErrAt _ x9 (c 9) [] := .inl ⟨rfl, .inr e9⟩
    have E10 : ErrAt _ x10 (c 10) [] := .inl ⟨rfl, .inr e10⟩
    refine ⟨(by decide : 3 ≤ sizeLine), fun r hr0 => ?_⟩
    obtain ⟨sr, hr1⟩ := new_at (o := .lst [.ref x8, .ref x9, .ref x10]) hr0
    have sD := ((t8.trans t9).trans t10).trans sr
    refine ⟨p, r, _, _, rfl, rfl, sD _ _ hp2, hr1, (by decide : 11 ≤ sizeLine), fun s0 hs0 => ?_⟩
    obtain ⟨se, hs1⟩ := new_at (o := .lst [.ref x0, .ref x1, .ref x2, .ref x3, .ref x4, .ref x5, .ref x6, .ref x7, .ref x8, .ref x9, .ref x10]) hs0
    refine k _ s0 (fun b o z => ?_) ⟨_, hs1, ?_⟩
    · have nbp : b ≠ p := ne_of_none (((((t0.trans t1).trans t2).trans t3)) _ _ z) hp
      exact (sD.trans se) _ _ ((upd_ne nbp).trans ((sA.trans sB) _ _ z))
    · exact .cons ⟨x0, rfl, K01.ErrAt.keep (sD.trans se) F0⟩ (.cons ⟨x1, rfl, K01.ErrAt.keep (sD.trans se) F1⟩ (.cons ⟨x2, rfl, K01.ErrAt.keep (sD.trans se) F2⟩ (.cons ⟨x3, rfl, K01.ErrAt.keep (sD.trans se) F3⟩ (.cons ⟨x4, rfl, K01.ErrAt.keep (sD.trans se) F4⟩ (.cons ⟨x5, rfl, K01.ErrAt.keep (sD.trans se) F5⟩ (.cons ⟨x6, rfl, K01.ErrAt.keep (sD.trans se) F6⟩ (.cons ⟨x7, rfl, K01.ErrAt.keep (sD.trans se) F7⟩ (.cons ⟨x8, rfl, (K01.ErrAt.keep se (K01.ErrAt.keep sr (K01.ErrAt.keep t10 (K01.ErrAt.keep t9 E8))))⟩ (.cons ⟨x9, rfl, (K01.ErrAt.keep se (K01.ErrAt.keep sr (K01.ErrAt.keep t10 E9)))⟩ (.cons ⟨x10, rfl, (K01.ErrAt.keep se (K01.ErrAt.keep sr E10))⟩ (.nil)))))))))))
end
end K01

namespace K01
open PySem L2
section
variable {P : Program} {w : World} {K : PySem.W.Frag} {mg : Str → Option Value} {base : Heap}
def tab8 (c : Nat → Addr) (v : Nat → V) : List (Addr × List (Str × V)) :=
  [(c 0, [("at", v 0)]), (c 1, [("part", v 1)]), (c 2, [("word", v 2)]), (c 3, [("at", v 3)]), (c 4, [("at", v 4)]), (c 5, [("name", v 5)]), (c 6, [("name", v 6)]), (c 7, [("word", v 7)])]
abbrev s_law_named : Stmt := top 20
abbrev n_law_named : List Str := ["_law_some", "_law_found"]
theorem sc_law_named : FnScope n_law_named ["_law_some"] (defScope s_law_named) := ⟨rfl, rfl, rfl, by decide +kernel, rfl, by decide +kernel, by decide +kernel⟩
def spNamed (c : Nat → Addr) : Sp := fun vs H Q _ => ∃ (l : Addr) (v : Nat → V), vs = [.ref l] ∧ Eight H l v ∧ ∀ (H' : Hp) (p : Addr), Same H H' → MadeAt H' p (tab8 c v) → Q (.ref p) H'
theorem ok_named {c : Nat → Addr} (T : Txt mg) (E : Errs P w K mg base c) (F : DefAt K mg "_law_named" s_law_named ["_law_some"]) : Has P w K mg base 3 "_law_named" ["_law_some"] (spNamed c) := by
  obtain ⟨e_InvalidText, e_InvalidRow, e_InvalidBook, e_InvalidLife, e_NoStatement, e_NoTotal, e_NoEvent, e_Refused, e_InvalidVector, e_InvalidCommand, e_Mismatch⟩ := E
  refine F.has sc_law_named (fun vs H Q E h => ?_) (fun f cdv A outer s H vs Q E hr h => ?_)
  · obtain ⟨l, v, rfl, _⟩ := h
    rfl
  · obtain ⟨l, v, rfl, hl, k⟩ := h
    refine ⟨_, (pss_cons (ps_set (i := 1) sc_law_named.nd rfl (Or.inl rfl) (pe_lst (pa_cons (pe_mkK e_InvalidText (hr.mono (by decide)) rfl (pk_cons (pe_ix ix_list (pv 0) pe_int (fun _ _ => rfl)) pk_nil) rfl rfl) (pa_cons (pe_mkK e_InvalidRow (hr.mono (by decide)) rfl (pk_cons (pe_ix ix_list (pv 0) pe_int (fun _ _ => rfl)) pk_nil) rfl rfl) (pa_cons (pe_mkK e_InvalidBook (hr.mono (by decide)) rfl (pk_cons (pe_ix ix_list (pv 0) pe_int (fun _ _ => rfl)) pk_nil) rfl rfl) pa_nil)))))
      (pss_cons (ps_expr (pe_bm PySem.F.plainAttrs_list PySem.F.slot_list_extend PySem.F.type_list_extend mt_extend (pv 1) (pa_cons (pe_lst (pa_cons (pe_mkK e_InvalidLife (hr.mono (by decide)) rfl (pk_cons (pe_ix ix_list (pv 0) pe_int (fun _ _ => rfl)) pk_nil) rfl rfl) (pa_cons (pe_mkK e_NoStatement (hr.mono (by decide)) rfl (pk_cons (pe_ix ix_list (pv 0) pe_int (fun _ _ => rfl)) pk_nil) rfl rfl) (pa_cons (pe_mkK e_NoTotal (hr.mono (by decide)) rfl (pk_cons (pe_ix ix_list (pv 0) pe_int (fun _ _ => rfl)) pk_nil) rfl rfl) pa_nil)))) pa_nil)))
      (pss_one (ps_ret (pe_op op_cat (pv 1) (pe_lst (pa_cons (pe_mkK e_NoEvent (hr.mono (by decide)) rfl (pk_cons (pe_ix ix_list (pv 0) pe_int (fun _ _ => rfl)) pk_nil) rfl rfl) (pa_cons (pe_mkK e_Refused (hr.mono (by decide)) rfl (pk_cons (pe_ix ix_list (pv 0) pe_int (fun _ _ => rfl)) pk_nil) rfl rfl) pa_nil)))))))), ?_⟩
    refine ⟨_, rfl, l, _, _, _, rfl, rfl, SqL.of hl, rfl, rfl, fun x0 y0 => ⟨x0, _, rfl, upd_same, fun d0 z0 n0 => ⟨rfl, ?_⟩⟩⟩
    obtain ⟨t0, E0⟩ := err_new (C := c 0) (fld := "at") (v := v 0) y0 z0 n0
    refine ⟨_, rfl, l, _, _, _, rfl, rfl, SqL.of (t0 _ _ hl), rfl, rfl, fun x1 y1 => ⟨x1, _, rfl, upd_same, fun d1 z1 n1 => ⟨rfl, ?_⟩⟩⟩
    obtain ⟨t1, E1⟩ := err_new (C := c 1) (fld := "part") (v := v 1) y1 z1 n1
    refine ⟨_, rfl, l, _, _, _, rfl, rfl, SqL.of ((t0.trans t1) _ _ hl), rfl, rfl, fun x2 y2 => ⟨x2, _, rfl, upd_same, fun d2 z2 n2 => ⟨rfl, ?_⟩⟩⟩
    obtain ⟨t2, E2⟩ := err_new (C := c 2) (fld := "word") (v := v 2) y2 z2 n2
    refine ⟨(by decide : 3 ≤ sizeLine), fun p hp => ?_⟩
    obtain ⟨sp, hp0⟩ := new_at (o := .lst [.ref x0, .ref x1, .ref x2]) hp
    have sA := (((t0.trans t1).trans t2)).trans sp
    have hl2 := sA _ _ hl
    refine ⟨_, rfl, .inl ⟨rfl, _, SqL.of hp0⟩, _, rfl, l, _, _, _, rfl, rfl, SqL.of hl2, rfl, rfl, fun x3 y3 => ⟨x3, _, rfl, upd_same, fun d3 z3 n3 => ⟨rfl, ?_⟩⟩⟩
    obtain ⟨t3, E3⟩ := err_new (C := c 3) (fld := "at") (v := v 3) y3 z3 n3
    refine ⟨_, rfl, l, _, _, _, rfl, rfl, SqL.of (t3 _ _ hl2), rfl, rfl, fun x4 y4 => ⟨x4, _, rfl, upd_same, fun d4 z4 n4 => ⟨rfl, ?_⟩⟩⟩
    obtain ⟨t4, E4⟩ := err_new (C := c 4) (fld := "at") (v := v 4) y4 z4 n4
    refine ⟨_, rfl, l, _, _, _, rfl, rfl, SqL.of ((t3.trans t4) _ _ hl2), rfl, rfl, fun x5 y5 => ⟨x5, _, rfl, upd_same, fun d5 z5 n5 => ⟨rfl, ?_⟩⟩⟩
    obtain ⟨t5, E5⟩ := err_new (C := c 5) (fld := "name") (v := v 5) y5 z5 n5
    refine ⟨(by decide : 3 ≤ sizeLine), fun q hq => ?_⟩
    obtain ⟨sq, hq0⟩ := new_at (o := .lst [.ref x3, .ref x4, .ref x5]) hq
    have sB := (((t3.trans t4).trans t5)).trans sq
    have hp1 := sB _ _ hp0
    refine ⟨p, q, _, _, rfl, rfl, hp1, hq0, (by decide : 6 ≤ sizeLine), ?_⟩
    have hp2 := lst_at (xs := [.ref x0, .ref x1, .ref x2, .ref x3, .ref x4, .ref x5]) hp1
    have F0 := err_up (xs := [.ref x0, .ref x1, .ref x2, .ref x3, .ref x4, .ref x5]) hp1 (K01.ErrAt.keep sB (K01.ErrAt.keep sp (K01.ErrAt.keep t2 (K01.ErrAt.keep t1 E0))))
    have F1 := err_up (xs := [.ref x0, .ref x1, .ref x2, .ref x3, .ref x4, .ref x5]) hp1 (K01.ErrAt.keep sB (K01.ErrAt.keep sp (K01.ErrAt.keep t2 E1)))
    have F2 := err_up (xs := [.ref x0, .ref x1, .ref x2, .ref x3, .ref x4, .ref x5]) hp1 (K01.ErrAt.keep sB (K01.ErrAt.keep sp E2))
    have F3 := err_up (xs := [.ref x0, .ref x1, .ref x2, .ref x3, .ref x4, .ref x5]) hp1 (K01.ErrAt.keep sq (K01.ErrAt.keep t5 (K01.ErrAt.keep t4 E3)))
    have F4 := err_up (xs := [.ref x0, .ref x1, .ref x2, .ref x3, .ref x4, .ref x5]) hp1 (K01.ErrAt.keep sq (K01.ErrAt.keep t5 E4))
    have F5 := err_up (xs := [.ref x0, .ref x1, .ref x2, .ref x3, .ref x4, .ref x5]) hp1 (K01.ErrAt.keep sq E5)
    have nlp : l ≠ p := ne_of_none ((((t0.trans t1).trans t2)) _ _ hl) hp
    have hlC : upd _ p (.lst [.ref x0, .ref x1, .ref x2, .ref x3, .ref x4, .ref x5]) l = some _ := (upd_ne nlp).trans (sB _ _ hl2)
    refine ⟨_, rfl, _, rfl, l, _, _, _, rfl, rfl, SqL.of hlC, rfl, rfl, fun x6 y6 => ⟨x6, _, rfl, upd_same, fun d6 z6 n6 => ⟨rfl, ?_⟩⟩⟩
    obtain ⟨t6, E6⟩ := err_new (C := c 6) (fld := "name") (v := v 6) y6 z6 n6
    refine ⟨_, rfl, l, _, _, _, rfl, rfl, SqL.of (t6 _ _ hlC), rfl, rfl, fun x7 y7 => ⟨x7, _, rfl, upd_same, fun d7 z7 n7 => ⟨rfl, ?_⟩⟩⟩
    obtain ⟨t7, E7⟩ := err_new (C := c 7) (fld := "word") (v := v 7) y7 z7 n7
    refine ⟨(by decide : 2 ≤ sizeLine), fun r hr0 => ?_⟩
    obtain ⟨sr, hr1⟩ := new_at (o := .lst [.ref x6, .ref x7]) hr0
    have sD := ((t6.trans t7)).trans sr
    refine ⟨p, r, _, _, rfl, rfl, sD _ _ hp2, hr1, (by decide : 8 ≤ sizeLine), fun s0 hs0 => ?_⟩
    obtain ⟨se, hs1⟩ := new_at (o := .lst [.ref x0, .ref x1, .ref x2, .ref x3, .ref x4, .ref x5, .ref x6, .ref x7]) hs0
    refine k _ s0 (fun b o z => ?_) ⟨_, hs1, ?_⟩
    · have nbp : b ≠ p := ne_of_none ((((t0.trans t1).trans t2)) _ _ z) hp
      exact (sD.trans se) _ _ ((upd_ne nbp).trans ((sA.trans sB) _ _ z))
    · exact .cons ⟨x0, rfl, K01.ErrAt.keep (sD.trans se) F0⟩ (.cons ⟨x1, rfl, K01.ErrAt.keep (sD.trans se) F1⟩ (.cons ⟨x2, rfl, K01.ErrAt.keep (sD.trans se) F2⟩ (.cons ⟨x3, rfl, K01.ErrAt.keep (sD.trans se) F3⟩ (.cons ⟨x4, rfl, K01.ErrAt.keep (sD.trans se) F4⟩ (.cons ⟨x5, rfl, K01.ErrAt.keep (sD.trans se) F5⟩ (.cons ⟨x6, rfl, (K01.ErrAt.keep se (K01.ErrAt.keep sr (K01.ErrAt.keep t7 E6)))⟩ (.cons ⟨x7, rfl, (K01.ErrAt.keep se (K01.ErrAt.keep sr E7))⟩ (.nil))))))))
abbrev s_law_kept : Stmt := top 21
abbrev n_law_kept : List Str := ["_law_made_here", "_law_found"]
theorem sc_law_kept : FnScope n_law_kept ["_law_made_here"] (defScope s_law_kept) := ⟨rfl, rfl, rfl, by decide +kernel, rfl, by decide +kernel, by decide +kernel⟩
def spKept (c : Nat → Addr) : Sp := fun vs H Q _ => ∃ (p : Addr) (es : List (Addr × List (Str × V))) (v : Nat → V), vs = [.ref p] ∧ MadeAt H p es ∧ es.take 8 = tab8 c v ∧ ∀ (H' : Hp) (r : Addr), Same H H' → Eight H' r v → Q (.ref r) H'
theorem at_list {H : Hp} {p : Addr} {xs : List V} {i : Nat} {x : V} (h : xs[i]? = some x) : atI xs (i : Int) = some x := atI_nat h
theorem ok_kept {c : Nat → Addr} (T : Txt mg) (ER : Errs P w K mg base c) (F : DefAt K mg "_law_kept" s_law_kept ["_law_made_here"]) : Has P w K mg base 1 "_law_kept" ["_law_made_here"] (spKept c) := by
  refine F.has sc_law_kept (fun vs H Q E h => ?_) (fun f cdv A outer s H vs Q E hr h => ?_)
  · obtain ⟨p, es, v, rfl, _⟩ := h
    rfl
  · obtain ⟨p, es, v, rfl, ⟨xs, hp, hx⟩, he, k⟩ := h
    refine ⟨_, (pss_cons (ps_set (i := 1) sc_law_kept.nd rfl (Or.inl rfl) (pe_lst (pa_cons (pe_errF (pe_ix ix_list (pv 0) pe_int (fun _ _ => rfl))) (pa_cons (pe_errF (pe_ix ix_list (pv 0) pe_int (fun _ _ => rfl))) (pa_cons (pe_errF (pe_ix ix_list (pv 0) pe_int (fun _ _ => rfl))) (pa_cons (pe_errF (pe_ix ix_list (pv 0) pe_int (fun _ _ => rfl))) (pa_cons (pe_errF (pe_ix ix_list (pv 0) pe_int (fun _ _ => rfl))) pa_nil)))))))
      (pss_one (ps_ret (pe_op op_cat (pv 1) (pe_lst (pa_cons (pe_errF (pe_ix ix_list (pv 0) pe_int (fun _ _ => rfl))) (pa_cons (pe_errF (pe_ix ix_list (pv 0) pe_int (fun _ _ => rfl))) (pa_cons (pe_errF (pe_ix ix_list (pv 0) pe_int (fun _ _ => rfl))) pa_nil)))))))), ?_⟩
    have e1 : es = tab8 c v ++ es.drop 8 := by rw [← he, List.take_append_drop]
    rw [e1] at hx
    unfold tab8 at hx
    simp only [List.cons_append, List.nil_append] at hx
    cases hx with | cons r0 hx => ?_
    cases hx with | cons r1 hx => ?_
    cases hx with | cons r2 hx => ?_
    cases hx with | cons r3 hx => ?_
    cases hx with | cons r4 hx => ?_
    cases hx with | cons r5 hx => ?_
    cases hx with | cons r6 hx => ?_
    cases hx with | cons r7 hx => ?_
    obtain ⟨a0, rfl, h0⟩ := r0
    obtain ⟨a1, rfl, h1⟩ := r1
    obtain ⟨a2, rfl, h2⟩ := r2
    obtain ⟨a3, rfl, h3⟩ := r3
    obtain ⟨a4, rfl, h4⟩ := r4
    obtain ⟨a5, rfl, h5⟩ := r5
    obtain ⟨a6, rfl, h6⟩ := r6
    obtain ⟨a7, rfl, h7⟩ := r7
    refine ⟨_, rfl, p, _, _, _, rfl, rfl, SqL.of hp, (atI_nat (j := 0) rfl), a0, c 0, _, _, rfl, h0, ER.e_InvalidText.i.1, ER.e_InvalidText.i.2, rfl, _, rfl, p, _, _, _, rfl, rfl, SqL.of hp, (atI_nat (j := 1) rfl), a1, c 1, _, _, rfl, h1, ER.e_InvalidRow.i.1, ER.e_InvalidRow.i.2, rfl, _, rfl, p, _, _, _, rfl, rfl, SqL.of hp, (atI_nat (j := 2) rfl), a2, c 2, _, _, rfl, h2, ER.e_InvalidBook.i.1, ER.e_InvalidBook.i.2, rfl, _, rfl, p, _, _, _, rfl, rfl, SqL.of hp, (atI_nat (j := 3) rfl), a3, c 3, _, _, rfl, h3, ER.e_InvalidLife.i.1, ER.e_InvalidLife.i.2, rfl, _, rfl, p, _, _, _, rfl, rfl, SqL.of hp, (atI_nat (j := 4) rfl), a4, c 4, _, _, rfl, h4, ER.e_NoStatement.i.1, ER.e_NoStatement.i.2, rfl, (by decide : 5 ≤ sizeLine), fun q hq => ?_⟩
    obtain ⟨sq, hq0⟩ := new_at (o := .lst [v 0, v 1, v 2, v 3, v 4]) hq
    refine ⟨_, rfl, _, rfl, p, _, _, _, rfl, rfl, SqL.of (sq _ _ hp), (atI_nat (j := 5) rfl), a5, c 5, _, _, rfl, (K01.ErrAt.keep sq h5), ER.e_NoTotal.i.1, ER.e_NoTotal.i.2, rfl, _, rfl, p, _, _, _, rfl, rfl, SqL.of (sq _ _ hp), (atI_nat (j := 6) rfl), a6, c 6, _, _, rfl, (K01.ErrAt.keep sq h6), ER.e_NoEvent.i.1, ER.e_NoEvent.i.2, rfl, _, rfl, p, _, _, _, rfl, rfl, SqL.of (sq _ _ hp), (atI_nat (j := 7) rfl), a7, c 7, _, _, rfl, (K01.ErrAt.keep sq h7), ER.e_Refused.i.1, ER.e_Refused.i.2, rfl, (by decide : 3 ≤ sizeLine), fun r hr0 => ?_⟩
    obtain ⟨sr, hr1⟩ := new_at (o := .lst [v 5, v 6, v 7]) hr0
    refine ⟨q, r, _, _, rfl, rfl, sr _ _ hq0, hr1, (by decide : 8 ≤ sizeLine), fun u hu => ?_⟩
    obtain ⟨su, hu1⟩ := new_at (o := .lst [v 0, v 1, v 2, v 3, v 4, v 5, v 6, v 7]) hu
    exact k _ u ((sq.trans sr).trans su) hu1
end
end K01

namespace K01
open PySem L2
section
variable {P : Program} {w : World} {K : PySem.W.Frag} {mg : Str → Option Value} {base : Heap}
structure TxtC (mg : Str → Option Value) (c : Nat → Addr) : Prop where
  z_isinstance : mg "isinstance" = none
  m_InvalidText : mg "InvalidText" = some (.ref (c 0))
  m_InvalidRow : mg "InvalidRow" = some (.ref (c 1))
  m_InvalidBook : mg "InvalidBook" = some (.ref (c 2))
  m_InvalidLife : mg "InvalidLife" = some (.ref (c 3))
  m_NoStatement : mg "NoStatement" = some (.ref (c 4))
  m_NoTotal : mg "NoTotal" = some (.ref (c 5))
  m_NoEvent : mg "NoEvent" = some (.ref (c 6))
  m_Refused : mg "Refused" = some (.ref (c 7))
  m_InvalidVector : mg "InvalidVector" = some (.ref (c 8))
  m_InvalidCommand : mg "InvalidCommand" = some (.ref (c 9))
  m_Mismatch : mg "Mismatch" = some (.ref (c 10))
theorem Errs.txt {c : Nat → Addr} (T : Txt mg) (E : Errs P w K mg base c) : TxtC mg c :=
  ⟨T.z_isinstance, E.e_InvalidText.m, E.e_InvalidRow.m, E.e_InvalidBook.m, E.e_InvalidLife.m, E.e_NoStatement.m, E.e_NoTotal.m, E.e_NoEvent.m, E.e_Refused.m, E.e_InvalidVector.m, E.e_InvalidCommand.m, E.e_Mismatch.m⟩
abbrev s_law_sorts : Stmt := top 18
abbrev n_law_sorts : List Str := ["_law_one", "_law_found"]
theorem sc_law_sorts : FnScope n_law_sorts ["_law_one"] (defScope s_law_sorts) := ⟨rfl, rfl, rfl, by decide +kernel, rfl, by decide +kernel, by decide +kernel⟩
def sorts (i : Nat) : List V := (List.range 11).map fun j => V.bl (decide (j = i))
def spSorts (c : Nat → Addr) : Sp := fun vs H Q _ => ∃ (a : Addr) (i : Nat) (fs : List (Str × V)), vs = [.ref a] ∧ i < 11 ∧ ErrAt H a (c i) fs ∧ ∀ (H' : Hp) (r : Addr), Same H H' → H' r = some (.lst (sorts i)) → Q (.ref r) H'
theorem ok_sorts {c : Nat → Addr} {cS : Addr} (T0 : Txt mg) (ER : Errs P w K mg base c) (KT : Kits K mg c cS) (F : DefAt K mg "_law_sorts" s_law_sorts ["_law_one"]) : Has P w K mg base 1 "_law_sorts" ["_law_one"] (spSorts c) := by
  have T := ER.txt T0
  refine F.has sc_law_sorts (fun vs H Q E h => ?_) (fun f cdv A outer s H vs Q E hr h => ?_)
  · obtain ⟨a, i, fs, rfl, _⟩ := h
    rfl
  · obtain ⟨a, i, fs, rfl, hi, hE, k⟩ := h
    have is := ER.is i hi
    refine ⟨_, (pss_cons (ps_set (i := 1) sc_law_sorts.nd rfl (Or.inl rfl) (pe_lst (pa_cons (pe_callB call_isErr (by rfl) T.z_isinstance (by decide +kernel) (pa_cons (pv 0) (pa_cons (pe_glob (v := .ref _) rfl T.m_InvalidText rfl) pa_nil))) (pa_cons (pe_callB call_isErr (by rfl) T.z_isinstance (by decide +kernel) (pa_cons (pv 0) (pa_cons (pe_glob (v := .ref _) rfl T.m_InvalidRow rfl) pa_nil))) (pa_cons (pe_callB call_isErr (by rfl) T.z_isinstance (by decide +kernel) (pa_cons (pv 0) (pa_cons (pe_glob (v := .ref _) rfl T.m_InvalidBook rfl) pa_nil))) pa_nil)))))
      (pss_cons (ps_expr (pe_bm PySem.F.plainAttrs_list PySem.F.slot_list_extend PySem.F.type_list_extend mt_extend (pv 1) (pa_cons (pe_lst (pa_cons (pe_callB call_isErr (by rfl) T.z_isinstance (by decide +kernel) (pa_cons (pv 0) (pa_cons (pe_glob (v := .ref _) rfl T.m_InvalidLife rfl) pa_nil))) (pa_cons (pe_callB call_isErr (by rfl) T.z_isinstance (by decide +kernel) (pa_cons (pv 0) (pa_cons (pe_glob (v := .ref _) rfl T.m_NoStatement rfl) pa_nil))) (pa_cons (pe_callB call_isErr (by rfl) T.z_isinstance (by decide +kernel) (pa_cons (pv 0) (pa_cons (pe_glob (v := .ref _) rfl T.m_NoTotal rfl) pa_nil))) pa_nil)))) pa_nil)))
      (pss_cons (ps_expr (pe_bm PySem.F.plainAttrs_list PySem.F.slot_list_extend PySem.F.type_list_extend mt_extend (pv 1) (pa_cons (pe_lst (pa_cons (pe_callB call_isErr (by rfl) T.z_isinstance (by decide +kernel) (pa_cons (pv 0) (pa_cons (pe_glob (v := .ref _) rfl T.m_NoEvent rfl) pa_nil))) (pa_cons (pe_callB call_isErr (by rfl) T.z_isinstance (by decide +kernel) (pa_cons (pv 0) (pa_cons (pe_glob (v := .ref _) rfl T.m_Refused rfl) pa_nil))) (pa_cons (pe_callB call_isErr (by rfl) T.z_isinstance (by decide +kernel) (pa_cons (pv 0) (pa_cons (pe_glob (v := .ref _) rfl T.m_InvalidVector rfl) pa_nil))) pa_nil)))) pa_nil)))
      (pss_one (ps_ret (pe_op op_cat (pv 1) (pe_lst (pa_cons (pe_callB call_isErr (by rfl) T.z_isinstance (by decide +kernel) (pa_cons (pv 0) (pa_cons (pe_glob (v := .ref _) rfl T.m_InvalidCommand rfl) pa_nil))) (pa_cons (pe_callB call_isErr (by rfl) T.z_isinstance (by decide +kernel) (pa_cons (pv 0) (pa_cons (pe_glob (v := .ref _) rfl T.m_Mismatch rfl) pa_nil))) pa_nil))))))))), ?_⟩
    refine ⟨_, rfl, a, c i, fs, .ref (c 0), .ref (c 0), _, rfl, hE, .own _, is, KT.k i 0 hi (by decide), _, rfl, a, c i, fs, .ref (c 1), .ref (c 1), _, rfl, hE, .own _, is, KT.k i 1 hi (by decide), _, rfl, a, c i, fs, .ref (c 2), .ref (c 2), _, rfl, hE, .own _, is, KT.k i 2 hi (by decide), (by decide : 3 ≤ sizeLine), fun p hp => ?_⟩
    obtain ⟨s1, h1⟩ := new_at (o := .lst [V.bl (decide (0 = i)), V.bl (decide (1 = i)), V.bl (decide (2 = i))]) hp
    have E1 := K01.ErrAt.keep s1 hE
    refine ⟨_, rfl, .inl ⟨rfl, _, SqL.of h1⟩, _, rfl, a, c i, fs, .ref (c 3), .ref (c 3), _, rfl, E1, .own _, is, KT.k i 3 hi (by decide), _, rfl, a, c i, fs, .ref (c 4), .ref (c 4), _, rfl, E1, .own _, is, KT.k i 4 hi (by decide), _, rfl, a, c i, fs, .ref (c 5), .ref (c 5), _, rfl, E1, .own _, is, KT.k i 5 hi (by decide), (by decide : 3 ≤ sizeLine), fun q hq => ?_⟩
    obtain ⟨s2, h2⟩ := new_at (o := .lst [V.bl (decide (3 = i)), V.bl (decide (4 = i)), V.bl (decide (5 = i))]) hq
    refine ⟨p, q, _, _, rfl, rfl, s2 _ _ h1, h2, (by decide : 6 ≤ sizeLine), ?_⟩
    have E2 := err_up (xs := [V.bl (decide (0 = i)), V.bl (decide (1 = i)), V.bl (decide (2 = i)), V.bl (decide (3 = i)), V.bl (decide (4 = i)), V.bl (decide (5 = i))]) (s2 _ _ h1) (K01.ErrAt.keep s2 E1)
    have h3 := lst_at (xs := [V.bl (decide (0 = i)), V.bl (decide (1 = i)), V.bl (decide (2 = i)), V.bl (decide (3 = i)), V.bl (decide (4 = i)), V.bl (decide (5 = i))]) (s2 _ _ h1)
    refine ⟨_, rfl, .inl ⟨rfl, _, SqL.of h3⟩, _, rfl, a, c i, fs, .ref (c 6), .ref (c 6), _, rfl, E2, .own _, is, KT.k i 6 hi (by decide), _, rfl, a, c i, fs, .ref (c 7), .ref (c 7), _, rfl, E2, .own _, is, KT.k i 7 hi (by decide), _, rfl, a, c i, fs, .ref (c 8), .ref (c 8), _, rfl, E2, .own _, is, KT.k i 8 hi (by decide), (by decide : 3 ≤ sizeLine), fun r hr0 => ?_⟩
    obtain ⟨s4, h4⟩ := new_at (o := .lst [V.bl (decide (6 = i)), V.bl (decide (7 = i)), V.bl (decide (8 = i))]) hr0
    refine ⟨p, r, _, _, rfl, rfl, s4 _ _ h3, h4, (by decide : 9 ≤ sizeLine), ?_⟩
    have E3 := err_up (xs := [V.bl (decide (0 = i)), V.bl (decide (1 = i)), V.bl (decide (2 = i)), V.bl (decide (3 = i)), V.bl (decide (4 = i)), V.bl (decide (5 = i)), V.bl (decide (6 = i)), V.bl (decide (7 = i)), V.bl (decide (8 = i))]) (s4 _ _ h3) (K01.ErrAt.keep s4 E2)
    have h5 := lst_at (xs := [V.bl (decide (0 = i)), V.bl (decide (1 = i)), V.bl (decide (2 = i)), V.bl (decide (3 = i)), V.bl (decide (4 = i)), V.bl (decide (5 = i)), V.bl (decide (6 = i)), V.bl (decide (7 = i)), V.bl (decide (8 = i))]) (s4 _ _ h3)
    refine ⟨_, rfl, _, rfl, a, c i, fs, .ref (c 9), .ref (c 9), _, rfl, E3, .own _, is, KT.k i 9 hi (by decide), _, rfl, a, c i, fs, .ref (c 10), .ref (c 10), _, rfl, E3, .own _, is, KT.k i 10 hi (by decide), (by decide : 2 ≤ sizeLine), fun u hu => ?_⟩
    obtain ⟨s6, h6⟩ := new_at (o := .lst [V.bl (decide (9 = i)), V.bl (decide (10 = i))]) hu
    refine ⟨p, u, _, _, rfl, rfl, s6 _ _ h5, h6, (by decide : 11 ≤ sizeLine), fun z hz => ?_⟩
    obtain ⟨s7, h7⟩ := new_at (o := .lst (sorts i)) hz
    refine k _ z (fun b o y => ?_) h7
    have nbp := ne_of_none y hp
    exact (s6.trans s7) _ _ ((upd_ne nbp).trans (s4 _ _ ((upd_ne nbp).trans (s2 _ _ (s1 _ _ y)))))
end
end K01

namespace K01
open PySem L2
section
variable {P : Program} {w : World} {K : PySem.W.Frag} {mg : Str → Option Value} {base : Heap}
theorem menu_all : ∀ d ∈ menu, d.showable = true ∧ d.hasDict = false ∧ d.depth ≤ 1 ∧ d.shown.length ≤ 40 := by
  intro d hd
  simp only [menu, List.mem_cons, List.not_mem_nil, or_false] at hd
  rcases hd with h | h | h | h | h | h | h | h | h | h | h | h <;> (subst h; exact ⟨by decide +kernel, by decide +kernel, by decide +kernel, by decide +kernel⟩)
theorem all_ok : ∀ ds : List PyData, (∀ d ∈ ds, d ∈ menu) → PyData.showableAll ds = true ∧ PyData.hasDictAll ds = false ∧ PyData.depthAll ds ≤ 1 ∧ ((PyData.shownAll ds).map (·.length)).sum ≤ 40 * ds.length ∧ (PyData.shownAll ds).length = ds.length
  | [], _ => ⟨rfl, rfl, by simp [PyData.depthAll], by simp [PyData.shownAll], by simp [PyData.shownAll]⟩
  | d :: ds, h => by
    obtain ⟨a1, a2, a3, a4, a5⟩ := all_ok ds fun x hx => h x (List.mem_cons_of_mem _ hx)
    obtain ⟨b1, b2, b3, b4⟩ := menu_all d (h d List.mem_cons_self)
    refine ⟨?_, ?_, ?_, ?_, ?_⟩
    · simp only [PyData.showableAll, a1, b1, Bool.and_self]
    · simp only [PyData.hasDictAll, a2, b2, Bool.or_self]
    · simp only [PyData.depthAll]; omega
    · simp only [PyData.shownAll, List.map_cons, List.sum_cons, List.length_cons]; omega
    · simp only [PyData.shownAll, List.length_cons, a5]
theorem list_ok {ds : List PyData} (h : ∀ d ∈ ds, d ∈ menu) (l : ds.length = 8) : (PyData.list ds).showable = true ∧ (PyData.list ds).hasDict = false ∧ (PyData.list ds).depth ≤ 60 ∧ (PyData.list ds).shown.length ≤ sizeLine := by
  obtain ⟨a1, a2, a3, a4, a5⟩ := all_ok ds h
  refine ⟨?_, ?_, ?_, ?_⟩
  · simpa only [PyData.showable] using a1
  · simpa only [PyData.hasDict] using a2
  · simp only [PyData.depth]; omega
  · have q := listText_len_le (PyData.shownAll ds)
    simp only [PyData.shown]
    rw [sizeLine_eq]; omega
theorem mvs_dp {K : PySem.W.Frag} {B : Addr → Prop} {H : Hp} {vs : List V} {ds : List PyData} (r : Paired (Mv B H) vs ds) : DpAll K H vs ds := by
  induction r with
  | nil => exact .nil
  | cons a _ ih => exact .cons a.dp ih
/-- the eight drawn values in the list at D -/
def Drawn (B : Addr → Prop) (H : Hp) (D : Addr) (v : Nat → V) (ds : List PyData) : Prop := Eight H D v ∧ Paired (Mv B H) [v 0, v 1, v 2, v 3, v 4, v 5, v 6, v 7] ds ∧ ∀ d ∈ ds, d ∈ menu
theorem Drawn.len {B : Addr → Prop} {H : Hp} {D : Addr} {v : Nat → V} {ds : List PyData} (h : Drawn B H D v ds) : ds.length = 8 := (Paired.length h.2.1).symm
theorem Drawn.keep {B : Addr → Prop} {H H' : Hp} {D : Addr} {v : Nat → V} {ds : List PyData} (s : Same H H') (h : Drawn B H D v ds) : Drawn B H' D v ds :=
  ⟨s _ _ h.1, Paired.mapP h.2.1 fun _ _ m => m.keep fun a o _ z => s a o z, h.2.2⟩
theorem Drawn.dp {K : PySem.W.Frag} {B : Addr → Prop} {H : Hp} {D r : Addr} {v : Nat → V} {ds : List PyData} (h : Drawn B H D v ds) (e : Eight H r v) : Dp K H (.ref r) (.list ds) := .lst (SqL.of e) (mvs_dp h.2.1)
theorem eight_of {vs : List V} (h : vs.length = 8) : ∃ v : Nat → V, vs = [v 0, v 1, v 2, v 3, v 4, v 5, v 6, v 7] := by
  match vs, h with
  | [a, b, c, d, e, f, g, i], _ => exact ⟨fun n => [a, b, c, d, e, f, g, i].getD n .non, rfl⟩
theorem tab_at (c : Nat → Addr) (v : Nat → V) : ∀ i, i < 11 → ∃ fs, (tab c v)[i]? = some (c i, fs)
  | 0, _ => ⟨_, rfl⟩
  | 1, _ => ⟨_, rfl⟩
  | 2, _ => ⟨_, rfl⟩
  | 3, _ => ⟨_, rfl⟩
  | 4, _ => ⟨_, rfl⟩
  | 5, _ => ⟨_, rfl⟩
  | 6, _ => ⟨_, rfl⟩
  | 7, _ => ⟨_, rfl⟩
  | 8, _ => ⟨_, rfl⟩
  | 9, _ => ⟨_, rfl⟩
  | 10, _ => ⟨_, rfl⟩
  | n + 11, h => absurd h (by omega)
theorem paired_snoc {α β : Type} {R : α → β → Prop} {xs : List α} {ys : List β} {x : α} {y : β} (h : Paired R xs ys) (r : R x y) : Paired R (xs ++ [x]) (ys ++ [y]) := by
  induction h with
  | nil => exact .cons r .nil
  | cons a _ ih => exact .cons a ih
theorem paired_at {α β : Type} {R : α → β → Prop} : ∀ {xs : List α} {ys : List β} {i : Nat} {x : α} {y : β}, Paired R xs ys → xs[i]? = some x → ys[i]? = some y → R x y
  | _, _, 0, _, _, .cons r _, e1, e2 => by simp at e1 e2; subst e1 e2; exact r
  | _, _, i + 1, _, _, .cons _ t, e1, e2 => paired_at (i := i) t (by simpa using e1) (by simpa using e2)
  | _, _, _, _, _, .nil, e1, _ => by simp at e1
theorem bools_dp {K : PySem.W.Frag} {H : Hp} : ∀ bs : List Bool, DpAll K H (bs.map V.bl) (bs.map PyData.bool)
  | [] => .nil
  | b :: bs => .cons (.bl b) (bools_dp bs)
def bools (i : Nat) : List Bool := (List.range 11).map fun j => decide (j = i)
theorem sorts_eq (i : Nat) : sorts i = (bools i).map V.bl := by unfold sorts bools; rw [List.map_map]; rfl
theorem bools_shaped (i : Nat) : SeqAt.shaped (.list ((bools i).map PyData.bool)) = true := by
  have h : ∀ bs : List Bool, PyData.canLayAll0 (bs.map PyData.bool) = true ∧ PyData.depthAll (bs.map PyData.bool) = 0 := by
    intro bs
    induction bs with
    | nil => exact ⟨rfl, rfl⟩
    | cons b bs ih => exact ⟨by simp only [List.map_cons, PyData.canLayAll0, PyData.canLay0, ih.1, Bool.and_self], by simp only [List.map_cons, PyData.depthAll, PyData.depth, ih.2]; rfl⟩
  obtain ⟨h1, h2⟩ := h (bools i)
  show (PyData.canLay0 (.list ((bools i).map PyData.bool)) && decide (PyData.depth (.list ((bools i).map PyData.bool)) ≤ 64)) = true
  rw [Bool.and_eq_true]
  exact ⟨by simp only [PyData.canLay0]; exact h1, decide_eq_true (by simp only [PyData.depth]; omega)⟩
end
end K01

namespace K01
open PySem L2
section
variable {P : Program} {w : World} {K : PySem.W.Frag} {mg : Str → Option Value} {base : Heap}
structure TxtL (mg : Str → Option Value) (cS : Addr) : Prop extends Txt mg where
  m_SumError : mg "SumError" = some (.ref cS)
abbrev s_law : Stmt := top 22
abbrev n_law : List Str := ["_law_script", "_law_k", "_law_box_here", "_law_some", "_law_made_here", "_law_spot", "_law_one", "_law_row", "_law_held", "_law_turn", "_law_other"]
theorem sc_law : FnScope n_law ["_law_script"] (defScope s_law) := ⟨rfl, rfl, rfl, by decide +kernel, rfl, by decide +kernel, by decide +kernel⟩
def spLaw (K : PySem.W.Frag) : Sp := fun vs H Q _ => ∃ (a : Addr) (ns : List Int), vs = [.ref a] ∧ SqL K H a (ns.map V.int) ∧ ns.length ≤ 63 ∧ ∀ H', Q (.bl true) H'
theorem ok_law {c : Nat → Addr} {cS : Addr} {f : Addr} {fd : FuncData} (T0 : Txt mg) (ER : Errs P w K mg base c) (KT : Kits K mg c cS) (F : Fun K "law" "law" s_law f fd) (hb : ∀ (s : Shared) (u : Value), K.In s.heap → BindsTo s fd ⟨[u], []⟩ [("_law_script", u)])
    (g_law_box : Has P w K mg base 1 "_law_box" ["_law_script", "_law_k", "_law_own"] (spBox K)) (g_law_value : Has P w K mg base 3 "_law_value" ["_law_box_here"] spValue) (g_law_made : Has P w K mg base 3 "_law_made" ["_law_some"] (spMade c))
    (g_law_named : Has P w K mg base 3 "_law_named" ["_law_some"] (spNamed c)) (g_law_kept : Has P w K mg base 1 "_law_kept" ["_law_made_here"] (spKept c)) (g_law_sorts : Has P w K mg base 1 "_law_sorts" ["_law_one"] (spSorts c)) : LawOk P w K mg base 4 f (spLaw K) := by
  have T : TxtL mg cS := ⟨T0, KT.m⟩
  refine LawOk.of F sc_law hb fun cdv A s H v Q hg0 hr h => ?_
  have hg : (A.deeper (PyProof.Rows.envOfC "law" (defScope s_law) s.heap.objs.size f cdv)).guards = some [] := by
    first | exact hg0 | (simp [Around.deeper, hg0]) | (unfold Around.deeper; exact hg0)
  have hu : (A.deeper (PyProof.Rows.envOfC "law" (defScope s_law) s.heap.objs.size f cdv)).units + 64 < cLine := hr.units
  obtain ⟨a, ns, ev, hS, hlen, k⟩ := h
  cases ev
  refine ⟨_, (pss_cons (ps_for PassesOwn.never rfl (pi_range1 rfl T.z_range (pa_cons (pe_callB (call_max2 rfl) (by rfl) T.z_max (by decide +kernel) (pa_cons pe_int (pa_cons (pe_callB (call_min2 rfl) (by rfl) T.z_min (by decide +kernel) (pa_cons pe_int (pa_cons (pe_callB call_len (by rfl) T.z_len (by decide +kernel) (pa_cons (pv 0) pa_nil)) pa_nil))) pa_nil))) pa_nil)) (pg_name (i := 1) sc_law.nd rfl (Or.inl rfl)) (pss_cons (ps_set (i := 2) sc_law.nd rfl (Or.inr rfl) (pe_callHas g_law_box (hr.mono (by decide)) rfl (pa_cons (pv 0) (pa_cons (pv 1) (pa_cons pe_int pa_nil)))))
      (pss_cons (ps_setLc (i := 3) (own := [("_law_turn", 9)]) (g := gName 9) (by rfl) sc_law.nd rfl rfl (sw_true rfl rfl rfl (by decide +kernel)) (pi_range1 rfl T.z_range (pa_cons pe_int pa_nil)) (blkOk_by (own := [("_law_turn", 9)]) (N := n_law) (sc := defScope s_law) (by decide +kernel)) (fun _ _ _ _ _ => (pg_name (i := 9) sc_law.nd rfl (Or.inl rfl))) (fun _ _ _ _ _ => pts_nil) (fun _ _ _ _ _ => (pe_callHas g_law_value (hr.mono (by decide)) rfl (pa_cons (pv 2) pa_nil))))
      (pss_cons (ps_set (i := 4) sc_law.nd rfl (Or.inl rfl) (pe_callHas g_law_made (hr.mono (by decide)) rfl (pa_cons (pv 3) pa_nil)))
      (pss_cons (ps_for PassesOwn.never rfl (pi_enum (by rfl) T.z_enumerate (pa_cons (pv 4) pa_nil)) (pg_tup rfl (pgs_cons (pg_name (i := 5) sc_law.nd rfl (Or.inr rfl)) (pgs_cons (pg_name (i := 6) sc_law.nd rfl (Or.inl rfl)) pgs_nil))) (pss_cons (ps_if (pt_cmpR (op_neD hu) (pe_callHas g_law_sorts (hr.mono (by decide)) rfl (pa_cons (pv 6) pa_nil)) (pe_lc (own := [("_law_other", 10)]) (g := gName 10) (by rfl) sc_law.nd (pi_range1 rfl T.z_range (pa_cons pe_int pa_nil)) (blkOk_by (own := [("_law_other", 10)]) (N := n_law) (sc := defScope s_law) (by decide +kernel)) (fun _ _ _ _ _ => (pg_name (i := 10) sc_law.nd rfl (Or.inl rfl))) (fun _ _ _ _ _ => pts_nil) (fun _ _ _ _ _ => (pe_cmpR op_eq (pv 10) (pv 5) (nomark _)))) (nomark _)) (pss_one (ps_ret pe_bl)) pss_nil)
      (pss_one (ps_if (PW.pt (pw_or (pt_not (pt_val (pe_callB call_isErr (by rfl) T.z_isinstance (by decide +kernel) (pa_cons (pv 6) (pa_cons (pe_glob (v := .ref _) rfl T.m_SumError rfl) pa_nil))))) (pw_or1 (pt_not (pt_val (pe_callB call_isErr (by rfl) T.z_isinstance (by decide +kernel) (pa_cons (pv 6) (pa_cons (pe_bltn (v := .ty "ValueError") (by rfl) T.z_ValueError (by decide +kernel) rfl) pa_nil)))))))) (pss_one (ps_ret pe_bl)) pss_nil))))
      (pss_cons (ps_if (PW.pt (pw_or (pt_cmpR op_ne (pe_callB (call_reprD hg hu) (by rfl) T.z_repr (by decide +kernel) (pa_cons (pe_callHas g_law_kept (hr.mono (by decide)) rfl (pa_cons (pv 4) pa_nil)) pa_nil)) (pe_callB (call_reprD hg hu) (by rfl) T.z_repr (by decide +kernel) (pa_cons (pv 3) pa_nil)) (nomark _)) (pw_or1 (pt_cmpR op_ne (pe_callB (call_reprD hg hu) (by rfl) T.z_repr (by decide +kernel) (pa_cons (pe_callHas g_law_kept (hr.mono (by decide)) rfl (pa_cons (pe_callHas g_law_named (hr.mono (by decide)) rfl (pa_cons (pv 3) pa_nil)) pa_nil)) pa_nil)) (pe_callB (call_reprD hg hu) (by rfl) T.z_repr (by decide +kernel) (pa_cons (pv 3) pa_nil)) (nomark _))))) (pss_one (ps_ret pe_bl)) pss_nil)
      (pss_cons (ps_set (i := 7) sc_law.nd rfl (Or.inl rfl) (pe_lst (pa_cons pe_int pa_nil)))
      (pss_cons (ps_set (i := 8) sc_law.nd rfl (Or.inl rfl) (pe_callHas g_law_made (hr.mono (by decide)) rfl (pa_cons (pe_op op_rep (pe_lst (pa_cons (pv 7) pa_nil)) pe_int) pa_nil)))
      (pss_cons (ps_expr (pe_bm PySem.F.plainAttrs_list PySem.F.slot_list_append PySem.F.type_list_append mt_append (pv 7) (pa_cons pe_int pa_nil)))
      (pss_one (ps_if (pt_cmpR (op_neD hu) (pe_callHas g_law_kept (hr.mono (by decide)) rfl (pa_cons (pv 8) pa_nil)) (pe_op op_rep (pe_lst (pa_cons (pe_lst (pa_cons pe_int (pa_cons pe_int pa_nil))) pa_nil)) pe_int) (nomark _)) (pss_one (ps_ret pe_bl)) pss_nil)))))))))))
      (pss_one (ps_ret pe_bl))), ?_⟩
  refine ⟨_, rfl, _, _, rfl, .inl ⟨_, hS, rfl⟩, _, _, rfl, _, _, rfl, ?_⟩
  have hlen' : (((ns.map V.int).length : Nat) : Int) ≤ 63 := by rw [List.length_map]; omega
  have hN : ∀ m : Int, 0 ≤ m → ∃ N : Int, (if (if m < 3 then m else 3) > 1 then (if m < 3 then m else 3) else 1) = N ∧ 0 ≤ N ∧ N ≤ 3 := fun m hm => ⟨_, rfl, by split <;> (try split) <;> omega, by split <;> (try split) <;> omega⟩
  obtain ⟨N, eN, N0, N3⟩ := hN (((ns.map V.int).length : Nat) : Int) (Int.natCast_nonneg _)
  refine ⟨N, by rw [← eN], by omega, by omega, for_range (lo := 0) (n := N.toNat) (fun i σ H' => Same H H' ∧ ∃ x1 x2 x3 x4 x5 x6 x7 x8 x9 x10, σ = [some (.ref a), x1, x2, x3, x4, x5, x6, x7, x8, x9, x10]) ⟨Same.refl _, _, _, _, _, _, _, _, _, _, _, rfl⟩ ?_ (fun σ H' _ => k H')⟩
  rintro i σ H1 hi ⟨s1, x1, x2, x3, x4, x5, x6, x7, x8, x9, x10, rfl⟩
  refine ⟨_, rfl, _, rfl, a, ns, _, _, rfl, s1.seq hS, by omega, by omega, by decide, by decide, fun H2 b s2 hb0 hbox => ?_⟩
  -- some = [_law_value(box) for turn in range(8)]
  refine ⟨8, rfl, by decide, by decide, fun D hD => lc_range (lo := 0) (n := 8) (fun j H' => Box H' b ∧ (∀ x o, x ≠ b → x ≠ D → H2 x = some o → H' x = some o) ∧ ∃ vs ds, H' D = some (.lst vs) ∧ vs.length = j ∧ Paired (Mv (fun x => x = b ∨ x = D) H') vs ds ∧ ∀ d ∈ ds, d ∈ menu) ?_ ?_ ?_⟩
  · obtain ⟨y1, y2, y3, hb⟩ := hbox
    exact ⟨⟨y1, y2, y3, by rw [upd_ne (ne_of_none hb hD)]; exact hb⟩, fun x o _ n z => by rw [upd_ne n]; exact z, [], [], upd_same, rfl, .nil, fun d hd => nomatch hd⟩
  · rintro j H' hj ⟨hb', kp, vs, ds, hD', hl, hp, hm⟩
    refine ⟨rfl, ?_⟩
    refine ⟨_, rfl, b, rfl, hb', fun H3 v d hb3 but3 m3 d3 => ?_⟩
    have nDb : D ≠ b := fun z => by
      obtain ⟨y1, y2, y3, hb⟩ := hbox
      rw [← z, hD] at hb
      cases hb
    have hD3 : H3 D = some (.lst vs) := but3 D _ nDb hD'
    refine ⟨vs, hD3, by rw [hl]; exact Nat.lt_trans hj (by decide), ?_, fun x o n1 n2 z => by rw [upd_ne n2]; exact but3 x o n1 (kp x o n1 n2 z), vs ++ [v], ds ++ [d], upd_same, by rw [List.length_append, hl]; rfl, ?_, fun e he => ?_⟩
    · obtain ⟨y1, y2, y3, hb⟩ := hb3
      exact ⟨y1, y2, y3, by rw [upd_ne nDb.symm]; exact hb⟩
    · refine paired_snoc (Paired.mapP hp fun x y m => m.keep fun q o n z => ?_) ?_
      · rw [upd_ne fun y => n (.inr y)]
        exact but3 q o (fun y => n (.inl y)) z
      · refine (m3.mono (B' := fun x => x = b ∨ x = D) fun q z => z.imp (fun y => y) fun y => by rw [y, hD']; simp).keep fun q o n z => ?_
        rw [upd_ne fun y => n (.inr y)]
        exact z
    · rcases List.mem_append.mp he with he | he
      · exact hm e he
      · rw [List.mem_singleton.mp he]; exact d3
  rintro H3 ⟨_, kp, vs, ds, hD3, hl, hp, hm⟩
  obtain ⟨v, rfl⟩ := eight_of hl
  have dr : Drawn (fun x => x = b ∨ x = D) H3 D v ds := ⟨hD3, hp, hm⟩
  have s3 : Same H H3 := fun x o z => kp x o (ne_of_none (s1 _ _ z) hb0) (ne_of_none (s2 _ _ (s1 _ _ z)) hD) (s2 _ _ (s1 _ _ z))
  -- made = _law_made(some)
  refine ⟨_, rfl, D, v, rfl, hD3, fun H4 p s4 hm4 => ?_⟩
  have dr4 := dr.keep s4
  obtain ⟨xs, hxs, pxs⟩ := id hm4
  have lx : xs.length = 11 := Paired.length pxs
  refine ⟨_, rfl, p, xs, rfl, SqL.of hxs, for_it walk_enum (fun j σ H' => Same H4 H' ∧ ∃ x5 x6 x7 x8 x9 x10, σ = [some (.ref a), some (.int (0 + (i : Int))), some (.ref b), some (.ref D), some (.ref p), x5, x6, x7, x8, x9, x10]) ⟨Same.refl _, _, _, _, _, _, _, rfl⟩ (fun j σ H' _ h => SqL.of (h.1 _ _ hxs)) ?_ ?_⟩
  · rintro j y σ H' H'' hj ⟨s5, x5, x6, x7, x8, x9, x10, rfl⟩ ⟨t, y1, y2, rfl, ht, rfl, e1, e2⟩
    have hj11 : j < 11 := by omega
    obtain ⟨fs, et⟩ := tab_at c v j hj11
    have ey1 : y1 = V.int ((j : Nat) : Int) := (Option.some.inj e1).symm
    subst ey1
    obtain ⟨aj, rfl, hE0⟩ := paired_at pxs e2 et
    have s6 : Same H4 (upd H' t (.tup [.int ((j : Nat) : Int), .ref aj])) := s5.trans (same_free ht)
    have hE := K01.ErrAt.keep s6 hE0
    refine ⟨t, _, rfl, SqT.of upd_same, rfl, _, _, rfl, _, _, rfl, rfl, ?_⟩
    -- _law_sorts(one) != [other == spot ..]
    refine ⟨_, rfl, aj, j, fs, rfl, hj11, hE, fun H5 r s7 hr5 => ?_⟩
    refine ⟨11, rfl, by decide, by decide, fun D2 hD2 => lc_range (lo := 0) (n := 11) (fun m H' => (∀ x o, x ≠ D2 → H5 x = some o → H' x = some o) ∧ H' D2 = some (.lst (((List.range m).map fun q => decide (q = j)).map V.bl))) ?_ ?_ ?_⟩
    · exact ⟨fun x o n z => by rw [upd_ne n]; exact z, upd_same⟩
    · rintro m H6 hm6 ⟨kp6, hd6⟩
      refine ⟨rfl, ?_⟩
      refine ⟨_, rfl, _, rfl, rfl, _, hd6, by rw [List.length_map, List.length_map, List.length_range]; exact Nat.lt_trans hm6 (by decide), fun x o n z => by rw [upd_ne n]; exact kp6 x o n z, ?_⟩
      have e7 : decide (V.int (0 + (m : Int)) = V.int ((j : Nat) : Int)) = decide (m = j) := by
        by_cases q : m = j
        · rw [q, decide_eq_true rfl, decide_eq_true (by rw [Int.zero_add])]
        · rw [decide_eq_false q, decide_eq_false (fun z => q (by have z2 := V.int.inj z; omega))]
      rw [upd_same, e7, List.range_succ, List.map_append, List.map_append]
      rfl
    · rintro H6 ⟨kp6, hd6⟩
      have hr6 : H6 r = some (.lst ((bools j).map V.bl)) := by
        rw [← sorts_eq]
        exact kp6 r _ (ne_of_none hr5 hD2) hr5
      have s8 : Same H4 H6 := fun x o z => kp6 x o (ne_of_none (s7 _ _ (s6 _ _ z)) hD2) (s7 _ _ (s6 _ _ z))
      refine ⟨_, _, .lst (SqL.of hr6) (bools_dp _), .lst (SqL.of hd6) (bools_dp _), bools_shaped j, bools_shaped j, _, rfl, ?_⟩
      have e8 : PyData.eqv (.list ((bools j).map PyData.bool)) (.list ((bools j).map PyData.bool)) = true := SeqAt.eqv_refl _ (SeqAt.canLay_of_shaped (bools_shaped j))
      show if (!PyData.eqv (.list ((bools j).map PyData.bool)) (.list ((bools j).map PyData.bool))) = true then _ else _
      rw [e8]
      have hE9 := K01.ErrAt.keep s8 hE0
      have is := ER.is j hj11
      refine ⟨_, rfl, aj, c j, fs, .ref cS, .ref cS, _, rfl, hE9, .own _, is, KT.s j hj11, _, rfl, ?_⟩
      refine ⟨_, rfl, aj, c j, fs, .ty "ValueError", .type "ValueError", _, rfl, hE9, .ty _, is, KT.v j hj11, _, rfl, ?_⟩
      exact ⟨s8, _, _, _, _, _, _, rfl⟩
  · rintro σ H5 ⟨s5, x5, x6, x7, x8, x9, x10, rfl⟩
    have s45 : Same H H5 := (s3.trans s4).trans s5
    have dr5 := dr4.keep s5
    have ok := list_ok dr5.2.2 dr5.len
    -- repr(kept(made)) != repr(some) or repr(kept(named(some))) != repr(some)
    refine ⟨_, rfl, p, tab c v, v, rfl, hm4.keep s5, rfl, fun H6 r6 s6 he6 => ?_⟩
    have dr6 := dr5.keep s6
    refine ⟨r6, .list ds, rfl, dr6.dp he6, ok.1, ok.2.1, ok.2.2.1, ok.2.2.2, _, rfl, D, .list ds, rfl, dr6.dp dr6.1, ok.1, ok.2.1, ok.2.2.1, ok.2.2.2, rfl, _, rfl, ?_⟩
    refine iteNS (c := V.str (PyData.list ds).shown = V.str (PyData.list ds).shown) rfl ?_
    refine ⟨_, rfl, D, v, rfl, dr6.1, fun H7 p7 s7 hm7 => ?_⟩
    refine ⟨p7, tab8 c v, v, rfl, hm7, rfl, fun H8 r8 s8 he8 => ?_⟩
    have dr8 := dr6.keep (s7.trans s8)
    refine ⟨r8, .list ds, rfl, dr8.dp he8, ok.1, ok.2.1, ok.2.2.1, ok.2.2.2, _, rfl, D, .list ds, rfl, dr8.dp dr8.1, ok.1, ok.2.1, ok.2.2.1, ok.2.2.2, rfl, _, rfl, ?_⟩
    refine iteNS (c := V.str (PyData.list ds).shown = V.str (PyData.list ds).shown) rfl ?_
    have s58 : Same H H8 := ((s45.trans s6).trans s7).trans s8
    -- row = [1]; held = _law_made([row] * 8); row.append(2)
    refine ⟨(by decide : 1 ≤ sizeLine), fun q hq => ?_⟩
    refine ⟨_, rfl, (by decide : 1 ≤ sizeLine), fun u hu => ?_⟩
    refine ⟨u, 8, [.ref q], rfl, rfl, upd_same, by decide, by decide, (by decide : 1 * 8 ≤ sizeLine), fun m hm => ?_⟩
    refine ⟨m, fun _ => .ref q, rfl, (show Eight _ m (fun _ => .ref q) from upd_same), fun H9 p9 s9 hm9 => ?_⟩
    have nqu := ne_of_none (upd_same (H := H8) (a := q) (o := .lst [.int 1])) hu
    have q1 : upd (upd H8 q (.lst [.int 1])) u (.lst [.ref q]) q = some (.lst [.int 1]) := (upd_ne nqu).trans upd_same
    have q2 := (same_free (o := .lst (List.replicate (8 : Int).toNat [V.ref q]).flatten) hm) q _ q1
    have hq9 : H9 q = some (.lst [.int 1]) := s9 _ _ q2
    refine ⟨_, rfl, .inl ⟨rfl, _, SqL.of hq9⟩, q, _, _, rfl, rfl, hq9, (by decide : 1 < sizeLine), ?_⟩
    obtain ⟨ys, hys, pys⟩ := hm9
    have lys : ys.length = 11 := Paired.length pys
    have np9 : p9 ≠ q := ne_of hys hq9 fun z => by
      have z2 : ys = [V.int 1] := HO.lst.inj z
      rw [z2] at lys
      cases lys
    have hm10 : MadeAt (upd H9 q (.lst [.int 1, .int 2])) p9 (tab c fun _ => .ref q) := by
      refine ⟨ys, (upd_ne np9).trans hys, Paired.mapP pys ?_⟩
      rintro x e ⟨b', rfl, hE⟩
      exact ⟨b', rfl, err_up hq9 hE⟩
    refine ⟨_, rfl, p9, _, (fun _ => V.ref q), rfl, hm10, rfl, fun H11 r11 s11 he11 => ?_⟩
    refine ⟨(by decide : 2 ≤ sizeLine), fun w1 hw1 => ?_⟩
    refine ⟨(by decide : 1 ≤ sizeLine), fun w2 hw2 => ?_⟩
    refine ⟨w2, 8, [.ref w1], rfl, rfl, upd_same, by decide, by decide, (by decide : 1 * 8 ≤ sizeLine), fun w3 hw3 => ?_⟩
    have hq11 : H11 q = some (.lst [.int 1, .int 2]) := s11 q _ upd_same
    have f1 := new_at (o := .lst [.int 1, .int 2]) hw1
    have f2 := new_at (o := .lst [.ref w1]) hw2
    have f3 := new_at (o := .lst (List.replicate (8 : Int).toNat [V.ref w1]).flatten) hw3
    have sw := (f1.1.trans f2.1).trans f3.1
    have one_dp : ∀ (H' : Hp) (z : Addr), H' z = some (.lst [.int 1, .int 2]) → Dp K H' (.ref z) (.list [.int 1, .int 2]) := fun H' z hz => .lst (SqL.of hz) (.cons (.int 1) (.cons (.int 2) .nil))
    have dq := one_dp _ q (sw _ _ hq11)
    have dw := one_dp _ w1 (f3.1 _ _ (f2.1 _ _ f1.2))
    refine ⟨.list (List.replicate 8 (.list [.int 1, .int 2])), .list (List.replicate 8 (.list [.int 1, .int 2])), .lst (SqL.of (sw _ _ he11)) ?_, .lst (SqL.of f3.2) ?_, by decide +kernel, by decide +kernel, _, rfl, ?_⟩
    · exact .cons dq (.cons dq (.cons dq (.cons dq (.cons dq (.cons dq (.cons dq (.cons dq .nil)))))))
    · exact .cons dw (.cons dw (.cons dw (.cons dw (.cons dw (.cons dw (.cons dw (.cons dw .nil)))))))
    have e12 : (!PyData.eqv (.list (List.replicate 8 (.list [.int 1, .int 2]))) (.list (List.replicate 8 (.list [.int 1, .int 2])))) = false := by decide +kernel
    show if (!PyData.eqv (.list (List.replicate 8 (.list [.int 1, .int 2]))) (.list (List.replicate 8 (.list [.int 1, .int 2])))) = true then _ else _
    rw [e12]
    have s8q : ∀ x o, H x = some o → x ≠ q := fun x o z => ne_of_none (s58 _ _ z) hq
    refine ⟨fun x o z => ?_, _, _, _, _, _, _, _, _, _, _, rfl⟩
    refine sw _ _ (s11 _ _ ((upd_ne (s8q x o z)).trans (s9 _ _ ?_)))
    exact (same_free hm) _ _ ((same_free hu) _ _ ((same_free hq) _ _ (s58 _ _ z)))
end
end K01

namespace K01
open PySem L2
section
variable {K : PySem.W.Frag}
theorem kit_self (C : Addr) : PySem.W.kitOne K (.ref C) (.ref C) = some true := by
  unfold PySem.W.kitOne
  rw [if_pos (beq_self_eq_true _)]
theorem kit_up {C D : Addr} (h : PySem.W.subIn K (.ref C) (.ref D) = some true) (i : (PySem.W.clsIn K D).isSome = true) (t : PySem.W.typeIn K (.ref D) = some (.type "type")) : PySem.W.kitOne K (.ref C) (.ref D) = some true := by
  unfold PySem.W.kitOne PySem.W.kitCls
  by_cases e : (Value.ref C == Value.ref D) = true
  · rw [if_pos e]
  · rw [if_neg e]
    show (if ((PySem.W.clsIn K D).isSome && PySem.W.typeIn K (.ref D) == some (.type "type")) = true then PySem.W.subIn K (.ref C) (.ref D) else none) = _
    rw [i, t, if_pos (by rfl)]
    exact h
theorem kit_other {C D : Addr} (s : PySem.W.subIn K (.ref C) (.ref C) = some true) (h : PySem.W.subIn K (.ref C) (.ref D) = some false) (i : (PySem.W.clsIn K D).isSome = true) (t : PySem.W.typeIn K (.ref D) = some (.type "type")) : PySem.W.kitOne K (.ref C) (.ref D) = some false := by
  unfold PySem.W.kitOne PySem.W.kitCls
  by_cases e : (Value.ref C == Value.ref D) = true
  · have e2 := beq_iff_eq.mp e
    rw [← e2, s] at h
    cases h
  · rw [if_neg e]
    show (if ((PySem.W.clsIn K D).isSome && PySem.W.typeIn K (.ref D) == some (.type "type")) = true then PySem.W.subIn K (.ref C) (.ref D) else none) = _
    rw [i, t, if_pos (by rfl)]
    exact h
theorem kit_ve {C : Addr} (h : PySem.W.subIn K (.ref C) (.type "ValueError") = some true) : PySem.W.kitOne K (.ref C) (.type "ValueError") = some true := by
  unfold PySem.W.kitOne PySem.W.kitCls
  rw [if_neg (by intro z; cases (beq_iff_eq.mp z))]
  show (if PySem.W.kitMeta "ValueError" = true then PySem.W.subIn K (.ref C) (.type "ValueError") else none) = some true
  rw [if_pos (by decide +kernel)]
  exact h
theorem kit_is {C : Addr} (h : PySem.W.hasDictIn K C = true) : (PySem.W.clsIn K C).isSome = true := by
  obtain ⟨cd, e, _⟩ := PySem.W.any_some h
  rw [e]; rfl
end
abbrev s_InvalidText_init : Stmt := inClass (top 3) 0
abbrev n_InvalidText_init : List Str := ["self", "at"]
theorem sc_InvalidText_init : FnScope n_InvalidText_init ["self", "at"] (defScope s_InvalidText_init) := ⟨rfl, rfl, rfl, by decide +kernel, rfl, by decide +kernel, by decide +kernel⟩
abbrev s_InvalidRow_init : Stmt := inClass (top 4) 0
abbrev n_InvalidRow_init : List Str := ["self", "part"]
theorem sc_InvalidRow_init : FnScope n_InvalidRow_init ["self", "part"] (defScope s_InvalidRow_init) := ⟨rfl, rfl, rfl, by decide +kernel, rfl, by decide +kernel, by decide +kernel⟩
abbrev s_InvalidBook_init : Stmt := inClass (top 5) 0
abbrev n_InvalidBook_init : List Str := ["self", "word"]
theorem sc_InvalidBook_init : FnScope n_InvalidBook_init ["self", "word"] (defScope s_InvalidBook_init) := ⟨rfl, rfl, rfl, by decide +kernel, rfl, by decide +kernel, by decide +kernel⟩
abbrev s_InvalidLife_init : Stmt := inClass (top 6) 0
abbrev n_InvalidLife_init : List Str := ["self", "at"]
theorem sc_InvalidLife_init : FnScope n_InvalidLife_init ["self", "at"] (defScope s_InvalidLife_init) := ⟨rfl, rfl, rfl, by decide +kernel, rfl, by decide +kernel, by decide +kernel⟩
abbrev s_NoStatement_init : Stmt := inClass (top 8) 0
abbrev n_NoStatement_init : List Str := ["self", "at"]
theorem sc_NoStatement_init : FnScope n_NoStatement_init ["self", "at"] (defScope s_NoStatement_init) := ⟨rfl, rfl, rfl, by decide +kernel, rfl, by decide +kernel, by decide +kernel⟩
abbrev s_NoTotal_init : Stmt := inClass (top 9) 0
abbrev n_NoTotal_init : List Str := ["self", "name"]
theorem sc_NoTotal_init : FnScope n_NoTotal_init ["self", "name"] (defScope s_NoTotal_init) := ⟨rfl, rfl, rfl, by decide +kernel, rfl, by decide +kernel, by decide +kernel⟩
abbrev s_NoEvent_init : Stmt := inClass (top 10) 0
abbrev n_NoEvent_init : List Str := ["self", "name"]
theorem sc_NoEvent_init : FnScope n_NoEvent_init ["self", "name"] (defScope s_NoEvent_init) := ⟨rfl, rfl, rfl, by decide +kernel, rfl, by decide +kernel, by decide +kernel⟩
abbrev s_Refused_init : Stmt := inClass (top 12) 0
abbrev n_Refused_init : List Str := ["self", "word"]
theorem sc_Refused_init : FnScope n_Refused_init ["self", "word"] (defScope s_Refused_init) := ⟨rfl, rfl, rfl, by decide +kernel, rfl, by decide +kernel, by decide +kernel⟩
theorem facts {P : Program} {w : World} {K : PySem.W.Frag} {mg : Str → Option Value} {h : Heap} {fa : Addr} (X : K.In h) (G : h.Ns mainGlobals mg) (hfa : mg "law" = some (.ref fa))
    {C0 C1 C2 C3 C4 C5 C6 C7 C8 C9 C10 I0 I1 I2 I3 I4 I5 I6 I7 cS f_law_box f_law_take f_law_pick f_law_value f_law_sorts f_law_made f_law_named f_law_kept f_law : Addr}
    {nm0 qn0 : Str} {N0 : Addr} {bs0 bm0 : List Value} {sn0 : List Str} {su0 : List Value} {ab0 : Bool} {co0 : Option Bool} {dd0 : Option Addr} {ka0 kb0 kc0 kd0 kf0 : Option Value}
    {oc0 kV0 dc0 pm0 cd0 ct0 : Value} {od0 an0 : Option Addr} {sl0 : Array (Option Value)}
    {nm1 qn1 : Str} {N1 : Addr} {bs1 bm1 : List Value} {sn1 : List Str} {su1 : List Value} {ab1 : Bool} {co1 : Option Bool} {dd1 : Option Addr} {ka1 kb1 kc1 kd1 kf1 : Option Value}
    {oc1 kV1 dc1 pm1 cd1 ct1 : Value} {od1 an1 : Option Addr} {sl1 : Array (Option Value)}
    {nm2 qn2 : Str} {N2 : Addr} {bs2 bm2 : List Value} {sn2 : List Str} {su2 : List Value} {ab2 : Bool} {co2 : Option Bool} {dd2 : Option Addr} {ka2 kb2 kc2 kd2 kf2 : Option Value}
    {oc2 kV2 dc2 pm2 cd2 ct2 : Value} {od2 an2 : Option Addr} {sl2 : Array (Option Value)}
    {nm3 qn3 : Str} {N3 : Addr} {bs3 bm3 : List Value} {sn3 : List Str} {su3 : List Value} {ab3 : Bool} {co3 : Option Bool} {dd3 : Option Addr} {ka3 kb3 kc3 kd3 kf3 : Option Value}
    {oc3 kV3 dc3 pm3 cd3 ct3 : Value} {od3 an3 : Option Addr} {sl3 : Array (Option Value)}
    {nm4 qn4 : Str} {N4 : Addr} {bs4 bm4 : List Value} {sn4 : List Str} {su4 : List Value} {ab4 : Bool} {co4 : Option Bool} {dd4 : Option Addr} {ka4 kb4 kc4 kd4 kf4 : Option Value}
    {oc4 kV4 dc4 pm4 cd4 ct4 : Value} {od4 an4 : Option Addr} {sl4 : Array (Option Value)}
    {nm5 qn5 : Str} {N5 : Addr} {bs5 bm5 : List Value} {sn5 : List Str} {su5 : List Value} {ab5 : Bool} {co5 : Option Bool} {dd5 : Option Addr} {ka5 kb5 kc5 kd5 kf5 : Option Value}
    {oc5 kV5 dc5 pm5 cd5 ct5 : Value} {od5 an5 : Option Addr} {sl5 : Array (Option Value)}
    {nm6 qn6 : Str} {N6 : Addr} {bs6 bm6 : List Value} {sn6 : List Str} {su6 : List Value} {ab6 : Bool} {co6 : Option Bool} {dd6 : Option Addr} {ka6 kb6 kc6 kd6 kf6 : Option Value}
    {oc6 kV6 dc6 pm6 cd6 ct6 : Value} {od6 an6 : Option Addr} {sl6 : Array (Option Value)}
    {nm7 qn7 : Str} {N7 : Addr} {bs7 bm7 : List Value} {sn7 : List Str} {su7 : List Value} {ab7 : Bool} {co7 : Option Bool} {dd7 : Option Addr} {ka7 kb7 kc7 kd7 kf7 : Option Value}
    {oc7 kV7 dc7 pm7 cd7 ct7 : Value} {od7 an7 : Option Addr} {sl7 : Array (Option Value)}
    {oc_law_box kV_law_box dc_law_box pm_law_box cd_law_box ct_law_box : Value} {od_law_box an_law_box : Option Addr} {sl_law_box : Array (Option Value)}
    {oc_law_take kV_law_take dc_law_take pm_law_take cd_law_take ct_law_take : Value} {od_law_take an_law_take : Option Addr} {sl_law_take : Array (Option Value)}
    {oc_law_pick kV_law_pick dc_law_pick pm_law_pick cd_law_pick ct_law_pick : Value} {od_law_pick an_law_pick : Option Addr} {sl_law_pick : Array (Option Value)}
    {oc_law_value kV_law_value dc_law_value pm_law_value cd_law_value ct_law_value : Value} {od_law_value an_law_value : Option Addr} {sl_law_value : Array (Option Value)}
    {oc_law_sorts kV_law_sorts dc_law_sorts pm_law_sorts cd_law_sorts ct_law_sorts : Value} {od_law_sorts an_law_sorts : Option Addr} {sl_law_sorts : Array (Option Value)}
    {oc_law_made kV_law_made dc_law_made pm_law_made cd_law_made ct_law_made : Value} {od_law_made an_law_made : Option Addr} {sl_law_made : Array (Option Value)}
    {oc_law_named kV_law_named dc_law_named pm_law_named cd_law_named ct_law_named : Value} {od_law_named an_law_named : Option Addr} {sl_law_named : Array (Option Value)}
    {oc_law_kept kV_law_kept dc_law_kept pm_law_kept cd_law_kept ct_law_kept : Value} {od_law_kept an_law_kept : Option Addr} {sl_law_kept : Array (Option Value)}
    {oc_law kV_law dc_law pm_law cd_law ct_law : Value} {od_law an_law : Option Addr} {sl_law : Array (Option Value)}
    (aC0 : PySem.W.nsIn K mainGlobals "InvalidText" = some (some (.ref C0)))
    (lC0 : K.lookup C0 = some (excClassObj nm0 qn0 C0 N0 bs0 bm0 true sn0 su0 ab0 co0 dd0 ka0 kb0 kc0 kd0 kf0 "ValueError.__new__"))
    (rB0 : PySem.HandSPX.refsVE bm0 = true)
    (sa0 : PySem.W.findIn K (.ref C0) "__setattr__" = some (some (.builtin "object.__setattr__")))
    (in0 : PySem.W.findIn K (.ref C0) "__init__" = some (some (.ref I0)))
    (ti0 : PySem.W.typeIn K (.ref I0) = some (.type "function"))
    (lf0 : K.lookup I0 = some ⟨oc0, od0, .func (PySem.W.fnOf "__init__" "InvalidText.__init__" (defArgs s_InvalidText_init) (defBody s_InvalidText_init) (defScope s_InvalidText_init) .none kV0 dc0 pm0 an0 cd0 ct0), sl0⟩)
    (cf0 : PySem.W.codeIn K cd0 "InvalidText.__init__" = true)
    (kf_0 : PySem.W.keepIn K (.ref I0) = true)
    (no0 : PySem.W.findIn K (.ref C0) "at" = some none)
    (aC1 : PySem.W.nsIn K mainGlobals "InvalidRow" = some (some (.ref C1)))
    (lC1 : K.lookup C1 = some (excClassObj nm1 qn1 C1 N1 bs1 bm1 true sn1 su1 ab1 co1 dd1 ka1 kb1 kc1 kd1 kf1 "ValueError.__new__"))
    (rB1 : PySem.HandSPX.refsVE bm1 = true)
    (sa1 : PySem.W.findIn K (.ref C1) "__setattr__" = some (some (.builtin "object.__setattr__")))
    (in1 : PySem.W.findIn K (.ref C1) "__init__" = some (some (.ref I1)))
    (ti1 : PySem.W.typeIn K (.ref I1) = some (.type "function"))
    (lf1 : K.lookup I1 = some ⟨oc1, od1, .func (PySem.W.fnOf "__init__" "InvalidRow.__init__" (defArgs s_InvalidRow_init) (defBody s_InvalidRow_init) (defScope s_InvalidRow_init) .none kV1 dc1 pm1 an1 cd1 ct1), sl1⟩)
    (cf1 : PySem.W.codeIn K cd1 "InvalidRow.__init__" = true)
    (kf_1 : PySem.W.keepIn K (.ref I1) = true)
    (no1 : PySem.W.findIn K (.ref C1) "part" = some none)
    (aC2 : PySem.W.nsIn K mainGlobals "InvalidBook" = some (some (.ref C2)))
    (lC2 : K.lookup C2 = some (excClassObj nm2 qn2 C2 N2 bs2 bm2 true sn2 su2 ab2 co2 dd2 ka2 kb2 kc2 kd2 kf2 "ValueError.__new__"))
    (rB2 : PySem.HandSPX.refsVE bm2 = true)
    (sa2 : PySem.W.findIn K (.ref C2) "__setattr__" = some (some (.builtin "object.__setattr__")))
    (in2 : PySem.W.findIn K (.ref C2) "__init__" = some (some (.ref I2)))
    (ti2 : PySem.W.typeIn K (.ref I2) = some (.type "function"))
    (lf2 : K.lookup I2 = some ⟨oc2, od2, .func (PySem.W.fnOf "__init__" "InvalidBook.__init__" (defArgs s_InvalidBook_init) (defBody s_InvalidBook_init) (defScope s_InvalidBook_init) .none kV2 dc2 pm2 an2 cd2 ct2), sl2⟩)
    (cf2 : PySem.W.codeIn K cd2 "InvalidBook.__init__" = true)
    (kf_2 : PySem.W.keepIn K (.ref I2) = true)
    (no2 : PySem.W.findIn K (.ref C2) "word" = some none)
    (aC3 : PySem.W.nsIn K mainGlobals "InvalidLife" = some (some (.ref C3)))
    (lC3 : K.lookup C3 = some (excClassObj nm3 qn3 C3 N3 bs3 bm3 true sn3 su3 ab3 co3 dd3 ka3 kb3 kc3 kd3 kf3 "ValueError.__new__"))
    (rB3 : PySem.HandSPX.refsVE bm3 = true)
    (sa3 : PySem.W.findIn K (.ref C3) "__setattr__" = some (some (.builtin "object.__setattr__")))
    (in3 : PySem.W.findIn K (.ref C3) "__init__" = some (some (.ref I3)))
    (ti3 : PySem.W.typeIn K (.ref I3) = some (.type "function"))
    (lf3 : K.lookup I3 = some ⟨oc3, od3, .func (PySem.W.fnOf "__init__" "InvalidLife.__init__" (defArgs s_InvalidLife_init) (defBody s_InvalidLife_init) (defScope s_InvalidLife_init) .none kV3 dc3 pm3 an3 cd3 ct3), sl3⟩)
    (cf3 : PySem.W.codeIn K cd3 "InvalidLife.__init__" = true)
    (kf_3 : PySem.W.keepIn K (.ref I3) = true)
    (no3 : PySem.W.findIn K (.ref C3) "at" = some none)
    (aC4 : PySem.W.nsIn K mainGlobals "NoStatement" = some (some (.ref C4)))
    (lC4 : K.lookup C4 = some (excClassObj nm4 qn4 C4 N4 bs4 bm4 true sn4 su4 ab4 co4 dd4 ka4 kb4 kc4 kd4 kf4 "ValueError.__new__"))
    (rB4 : PySem.HandSPX.refsVE bm4 = true)
    (sa4 : PySem.W.findIn K (.ref C4) "__setattr__" = some (some (.builtin "object.__setattr__")))
    (in4 : PySem.W.findIn K (.ref C4) "__init__" = some (some (.ref I4)))
    (ti4 : PySem.W.typeIn K (.ref I4) = some (.type "function"))
    (lf4 : K.lookup I4 = some ⟨oc4, od4, .func (PySem.W.fnOf "__init__" "NoStatement.__init__" (defArgs s_NoStatement_init) (defBody s_NoStatement_init) (defScope s_NoStatement_init) .none kV4 dc4 pm4 an4 cd4 ct4), sl4⟩)
    (cf4 : PySem.W.codeIn K cd4 "NoStatement.__init__" = true)
    (kf_4 : PySem.W.keepIn K (.ref I4) = true)
    (no4 : PySem.W.findIn K (.ref C4) "at" = some none)
    (aC5 : PySem.W.nsIn K mainGlobals "NoTotal" = some (some (.ref C5)))
    (lC5 : K.lookup C5 = some (excClassObj nm5 qn5 C5 N5 bs5 bm5 true sn5 su5 ab5 co5 dd5 ka5 kb5 kc5 kd5 kf5 "ValueError.__new__"))
    (rB5 : PySem.HandSPX.refsVE bm5 = true)
    (sa5 : PySem.W.findIn K (.ref C5) "__setattr__" = some (some (.builtin "object.__setattr__")))
    (in5 : PySem.W.findIn K (.ref C5) "__init__" = some (some (.ref I5)))
    (ti5 : PySem.W.typeIn K (.ref I5) = some (.type "function"))
    (lf5 : K.lookup I5 = some ⟨oc5, od5, .func (PySem.W.fnOf "__init__" "NoTotal.__init__" (defArgs s_NoTotal_init) (defBody s_NoTotal_init) (defScope s_NoTotal_init) .none kV5 dc5 pm5 an5 cd5 ct5), sl5⟩)
    (cf5 : PySem.W.codeIn K cd5 "NoTotal.__init__" = true)
    (kf_5 : PySem.W.keepIn K (.ref I5) = true)
    (no5 : PySem.W.findIn K (.ref C5) "name" = some none)
    (aC6 : PySem.W.nsIn K mainGlobals "NoEvent" = some (some (.ref C6)))
    (lC6 : K.lookup C6 = some (excClassObj nm6 qn6 C6 N6 bs6 bm6 true sn6 su6 ab6 co6 dd6 ka6 kb6 kc6 kd6 kf6 "ValueError.__new__"))
    (rB6 : PySem.HandSPX.refsVE bm6 = true)
    (sa6 : PySem.W.findIn K (.ref C6) "__setattr__" = some (some (.builtin "object.__setattr__")))
    (in6 : PySem.W.findIn K (.ref C6) "__init__" = some (some (.ref I6)))
    (ti6 : PySem.W.typeIn K (.ref I6) = some (.type "function"))
    (lf6 : K.lookup I6 = some ⟨oc6, od6, .func (PySem.W.fnOf "__init__" "NoEvent.__init__" (defArgs s_NoEvent_init) (defBody s_NoEvent_init) (defScope s_NoEvent_init) .none kV6 dc6 pm6 an6 cd6 ct6), sl6⟩)
    (cf6 : PySem.W.codeIn K cd6 "NoEvent.__init__" = true)
    (kf_6 : PySem.W.keepIn K (.ref I6) = true)
    (no6 : PySem.W.findIn K (.ref C6) "name" = some none)
    (aC7 : PySem.W.nsIn K mainGlobals "Refused" = some (some (.ref C7)))
    (lC7 : K.lookup C7 = some (excClassObj nm7 qn7 C7 N7 bs7 bm7 true sn7 su7 ab7 co7 dd7 ka7 kb7 kc7 kd7 kf7 "ValueError.__new__"))
    (rB7 : PySem.HandSPX.refsVE bm7 = true)
    (sa7 : PySem.W.findIn K (.ref C7) "__setattr__" = some (some (.builtin "object.__setattr__")))
    (in7 : PySem.W.findIn K (.ref C7) "__init__" = some (some (.ref I7)))
    (ti7 : PySem.W.typeIn K (.ref I7) = some (.type "function"))
    (lf7 : K.lookup I7 = some ⟨oc7, od7, .func (PySem.W.fnOf "__init__" "Refused.__init__" (defArgs s_Refused_init) (defBody s_Refused_init) (defScope s_Refused_init) .none kV7 dc7 pm7 an7 cd7 ct7), sl7⟩)
    (cf7 : PySem.W.codeIn K cd7 "Refused.__init__" = true)
    (kf_7 : PySem.W.keepIn K (.ref I7) = true)
    (no7 : PySem.W.findIn K (.ref C7) "word" = some none)
    (kC0 : PySem.W.keepIn K (.ref C0) = true)
    (ex0 : PySem.W.subIn K (.ref C0) (.type "BaseException") = some true)
    (ve0 : PySem.W.subIn K (.ref C0) (.type "ValueError") = some true)
    (ty0 : PySem.W.typeIn K (.ref C0) = some (.type "type"))
    (ga0 : PySem.W.findIn K (.ref C0) "__getattribute__" = some (some (.builtin "BaseException.__getattribute__")))
    (gg0 : PySem.W.findIn K (.ref C0) "__getattr__" = some none)
    (hd0 : PySem.W.hasDictIn K C0 = true)
    (cl0 : PySem.W.findIn K (.ref C0) "__class__" = some (some (.builtin "object.__class__")))
    (mo0 : PySem.W.mroIn K C0 (.type "object") = some true)
    (kC1 : PySem.W.keepIn K (.ref C1) = true)
    (ex1 : PySem.W.subIn K (.ref C1) (.type "BaseException") = some true)
    (ve1 : PySem.W.subIn K (.ref C1) (.type "ValueError") = some true)
    (ty1 : PySem.W.typeIn K (.ref C1) = some (.type "type"))
    (ga1 : PySem.W.findIn K (.ref C1) "__getattribute__" = some (some (.builtin "BaseException.__getattribute__")))
    (gg1 : PySem.W.findIn K (.ref C1) "__getattr__" = some none)
    (hd1 : PySem.W.hasDictIn K C1 = true)
    (cl1 : PySem.W.findIn K (.ref C1) "__class__" = some (some (.builtin "object.__class__")))
    (mo1 : PySem.W.mroIn K C1 (.type "object") = some true)
    (kC2 : PySem.W.keepIn K (.ref C2) = true)
    (ex2 : PySem.W.subIn K (.ref C2) (.type "BaseException") = some true)
    (ve2 : PySem.W.subIn K (.ref C2) (.type "ValueError") = some true)
    (ty2 : PySem.W.typeIn K (.ref C2) = some (.type "type"))
    (ga2 : PySem.W.findIn K (.ref C2) "__getattribute__" = some (some (.builtin "BaseException.__getattribute__")))
    (gg2 : PySem.W.findIn K (.ref C2) "__getattr__" = some none)
    (hd2 : PySem.W.hasDictIn K C2 = true)
    (cl2 : PySem.W.findIn K (.ref C2) "__class__" = some (some (.builtin "object.__class__")))
    (mo2 : PySem.W.mroIn K C2 (.type "object") = some true)
    (kC3 : PySem.W.keepIn K (.ref C3) = true)
    (ex3 : PySem.W.subIn K (.ref C3) (.type "BaseException") = some true)
    (ve3 : PySem.W.subIn K (.ref C3) (.type "ValueError") = some true)
    (ty3 : PySem.W.typeIn K (.ref C3) = some (.type "type"))
    (ga3 : PySem.W.findIn K (.ref C3) "__getattribute__" = some (some (.builtin "BaseException.__getattribute__")))
    (gg3 : PySem.W.findIn K (.ref C3) "__getattr__" = some none)
    (hd3 : PySem.W.hasDictIn K C3 = true)
    (cl3 : PySem.W.findIn K (.ref C3) "__class__" = some (some (.builtin "object.__class__")))
    (mo3 : PySem.W.mroIn K C3 (.type "object") = some true)
    (kC4 : PySem.W.keepIn K (.ref C4) = true)
    (ex4 : PySem.W.subIn K (.ref C4) (.type "BaseException") = some true)
    (ve4 : PySem.W.subIn K (.ref C4) (.type "ValueError") = some true)
    (ty4 : PySem.W.typeIn K (.ref C4) = some (.type "type"))
    (ga4 : PySem.W.findIn K (.ref C4) "__getattribute__" = some (some (.builtin "BaseException.__getattribute__")))
    (gg4 : PySem.W.findIn K (.ref C4) "__getattr__" = some none)
    (hd4 : PySem.W.hasDictIn K C4 = true)
    (cl4 : PySem.W.findIn K (.ref C4) "__class__" = some (some (.builtin "object.__class__")))
    (mo4 : PySem.W.mroIn K C4 (.type "object") = some true)
    (kC5 : PySem.W.keepIn K (.ref C5) = true)
    (ex5 : PySem.W.subIn K (.ref C5) (.type "BaseException") = some true)
    (ve5 : PySem.W.subIn K (.ref C5) (.type "ValueError") = some true)
    (ty5 : PySem.W.typeIn K (.ref C5) = some (.type "type"))
    (ga5 : PySem.W.findIn K (.ref C5) "__getattribute__" = some (some (.builtin "BaseException.__getattribute__")))
    (gg5 : PySem.W.findIn K (.ref C5) "__getattr__" = some none)
    (hd5 : PySem.W.hasDictIn K C5 = true)
    (cl5 : PySem.W.findIn K (.ref C5) "__class__" = some (some (.builtin "object.__class__")))
    (mo5 : PySem.W.mroIn K C5 (.type "object") = some true)
    (kC6 : PySem.W.keepIn K (.ref C6) = true)
    (ex6 : PySem.W.subIn K (.ref C6) (.type "BaseException") = some true)
    (ve6 : PySem.W.subIn K (.ref C6) (.type "ValueError") = some true)
    (ty6 : PySem.W.typeIn K (.ref C6) = some (.type "type"))
    (ga6 : PySem.W.findIn K (.ref C6) "__getattribute__" = some (some (.builtin "BaseException.__getattribute__")))
    (gg6 : PySem.W.findIn K (.ref C6) "__getattr__" = some none)
    (hd6 : PySem.W.hasDictIn K C6 = true)
    (cl6 : PySem.W.findIn K (.ref C6) "__class__" = some (some (.builtin "object.__class__")))
    (mo6 : PySem.W.mroIn K C6 (.type "object") = some true)
    (kC7 : PySem.W.keepIn K (.ref C7) = true)
    (ex7 : PySem.W.subIn K (.ref C7) (.type "BaseException") = some true)
    (ve7 : PySem.W.subIn K (.ref C7) (.type "ValueError") = some true)
    (ty7 : PySem.W.typeIn K (.ref C7) = some (.type "type"))
    (ga7 : PySem.W.findIn K (.ref C7) "__getattribute__" = some (some (.builtin "BaseException.__getattribute__")))
    (gg7 : PySem.W.findIn K (.ref C7) "__getattr__" = some none)
    (hd7 : PySem.W.hasDictIn K C7 = true)
    (cl7 : PySem.W.findIn K (.ref C7) "__class__" = some (some (.builtin "object.__class__")))
    (mo7 : PySem.W.mroIn K C7 (.type "object") = some true)
    (aC8 : PySem.W.nsIn K mainGlobals "InvalidVector" = some (some (.ref C8)))
    (qC8 : PySem.W.excIn K C8 PySem.HandSPX.veTail "ValueError.__new__" = true)
    (kC8 : PySem.W.keepIn K (.ref C8) = true)
    (ex8 : PySem.W.subIn K (.ref C8) (.type "BaseException") = some true)
    (ve8 : PySem.W.subIn K (.ref C8) (.type "ValueError") = some true)
    (ty8 : PySem.W.typeIn K (.ref C8) = some (.type "type"))
    (ga8 : PySem.W.findIn K (.ref C8) "__getattribute__" = some (some (.builtin "BaseException.__getattribute__")))
    (gg8 : PySem.W.findIn K (.ref C8) "__getattr__" = some none)
    (hd8 : PySem.W.hasDictIn K C8 = true)
    (cl8 : PySem.W.findIn K (.ref C8) "__class__" = some (some (.builtin "object.__class__")))
    (mo8 : PySem.W.mroIn K C8 (.type "object") = some true)
    (aC9 : PySem.W.nsIn K mainGlobals "InvalidCommand" = some (some (.ref C9)))
    (qC9 : PySem.W.excIn K C9 PySem.HandSPX.veTail "ValueError.__new__" = true)
    (kC9 : PySem.W.keepIn K (.ref C9) = true)
    (ex9 : PySem.W.subIn K (.ref C9) (.type "BaseException") = some true)
    (ve9 : PySem.W.subIn K (.ref C9) (.type "ValueError") = some true)
    (ty9 : PySem.W.typeIn K (.ref C9) = some (.type "type"))
    (ga9 : PySem.W.findIn K (.ref C9) "__getattribute__" = some (some (.builtin "BaseException.__getattribute__")))
    (gg9 : PySem.W.findIn K (.ref C9) "__getattr__" = some none)
    (hd9 : PySem.W.hasDictIn K C9 = true)
    (cl9 : PySem.W.findIn K (.ref C9) "__class__" = some (some (.builtin "object.__class__")))
    (mo9 : PySem.W.mroIn K C9 (.type "object") = some true)
    (aC10 : PySem.W.nsIn K mainGlobals "Mismatch" = some (some (.ref C10)))
    (qC10 : PySem.W.excIn K C10 PySem.HandSPX.veTail "ValueError.__new__" = true)
    (kC10 : PySem.W.keepIn K (.ref C10) = true)
    (ex10 : PySem.W.subIn K (.ref C10) (.type "BaseException") = some true)
    (ve10 : PySem.W.subIn K (.ref C10) (.type "ValueError") = some true)
    (ty10 : PySem.W.typeIn K (.ref C10) = some (.type "type"))
    (ga10 : PySem.W.findIn K (.ref C10) "__getattribute__" = some (some (.builtin "BaseException.__getattribute__")))
    (gg10 : PySem.W.findIn K (.ref C10) "__getattr__" = some none)
    (hd10 : PySem.W.hasDictIn K C10 = true)
    (cl10 : PySem.W.findIn K (.ref C10) "__class__" = some (some (.builtin "object.__class__")))
    (mo10 : PySem.W.mroIn K C10 (.type "object") = some true)
    (aS : PySem.W.nsIn K mainGlobals "SumError" = some (some (.ref cS)))
    (tyS : PySem.W.typeIn K (.ref cS) = some (.type "type"))
    (hdS : PySem.W.hasDictIn K cS = true)
    (gt : PySem.W.specialIn K (.builtin "object.__class__") "__get__" = some (some (.builtin "getset_descriptor.__get__")))
    (tk : PySem.W.takesIn K (.builtin "object.__class__") = some true)
    (su0 : PySem.W.subIn K (.ref C0) (.ref cS) = some true)
    (s0_0 : PySem.W.subIn K (.ref C0) (.ref C0) = some true)
    (s0_1 : PySem.W.subIn K (.ref C0) (.ref C1) = some false)
    (s0_2 : PySem.W.subIn K (.ref C0) (.ref C2) = some false)
    (s0_3 : PySem.W.subIn K (.ref C0) (.ref C3) = some false)
    (s0_4 : PySem.W.subIn K (.ref C0) (.ref C4) = some false)
    (s0_5 : PySem.W.subIn K (.ref C0) (.ref C5) = some false)
    (s0_6 : PySem.W.subIn K (.ref C0) (.ref C6) = some false)
    (s0_7 : PySem.W.subIn K (.ref C0) (.ref C7) = some false)
    (s0_8 : PySem.W.subIn K (.ref C0) (.ref C8) = some false)
    (s0_9 : PySem.W.subIn K (.ref C0) (.ref C9) = some false)
    (s0_10 : PySem.W.subIn K (.ref C0) (.ref C10) = some false)
    (su1 : PySem.W.subIn K (.ref C1) (.ref cS) = some true)
    (s1_0 : PySem.W.subIn K (.ref C1) (.ref C0) = some false)
    (s1_1 : PySem.W.subIn K (.ref C1) (.ref C1) = some true)
    (s1_2 : PySem.W.subIn K (.ref C1) (.ref C2) = some false)
    (s1_3 : PySem.W.subIn K (.ref C1) (.ref C3) = some false)
    (s1_4 : PySem.W.subIn K (.ref C1) (.ref C4) = some false)
    (s1_5 : PySem.W.subIn K (.ref C1) (.ref C5) = some false)
    (s1_6 : PySem.W.subIn K (.ref C1) (.ref C6) = some false)
    (s1_7 : PySem.W.subIn K (.ref C1) (.ref C7) = some false)
    (s1_8 : PySem.W.subIn K (.ref C1) (.ref C8) = some false)
    (s1_9 : PySem.W.subIn K (.ref C1) (.ref C9) = some false)
    (s1_10 : PySem.W.subIn K (.ref C1) (.ref C10) = some false)
    (su2 : PySem.W.subIn K (.ref C2) (.ref cS) = some true)
    (s2_0 : PySem.W.subIn K (.ref C2) (.ref C0) = some false)
    (s2_1 : PySem.W.subIn K (.ref C2) (.ref C1) = some false)
    (s2_2 : PySem.W.subIn K (.ref C2) (.ref C2) = some true)
    (s2_3 : PySem.W.subIn K (.ref C2) (.ref C3) = some false)
    (s2_4 : PySem.W.subIn K (.ref C2) (.ref C4) = some false)
    (s2_5 : PySem.W.subIn K (.ref C2) (.ref C5) = some false)
    (s2_6 : PySem.W.subIn K (.ref C2) (.ref C6) = some false)
    (s2_7 : PySem.W.subIn K (.ref C2) (.ref C7) = some false)
    (s2_8 : PySem.W.subIn K (.ref C2) (.ref C8) = some false)
    (s2_9 : PySem.W.subIn K (.ref C2) (.ref C9) = some false)
    (s2_10 : PySem.W.subIn K (.ref C2) (.ref C10) = some false)
    (su3 : PySem.W.subIn K (.ref C3) (.ref cS) = some true)
    (s3_0 : PySem.W.subIn K (.ref C3) (.ref C0) = some false)
    (s3_1 : PySem.W.subIn K (.ref C3) (.ref C1) = some false)
    (s3_2 : PySem.W.subIn K (.ref C3) (.ref C2) = some false)
    (s3_3 : PySem.W.subIn K (.ref C3) (.ref C3) = some true)
    (s3_4 : PySem.W.subIn K (.ref C3) (.ref C4) = some false)
    (s3_5 : PySem.W.subIn K (.ref C3) (.ref C5) = some false)
    (s3_6 : PySem.W.subIn K (.ref C3) (.ref C6) = some false)
    (s3_7 : PySem.W.subIn K (.ref C3) (.ref C7) = some false)
    (s3_8 : PySem.W.subIn K (.ref C3) (.ref C8) = some false)
    (s3_9 : PySem.W.subIn K (.ref C3) (.ref C9) = some false)
    (s3_10 : PySem.W.subIn K (.ref C3) (.ref C10) = some false)
    (su4 : PySem.W.subIn K (.ref C4) (.ref cS) = some true)
    (s4_0 : PySem.W.subIn K (.ref C4) (.ref C0) = some false)
    (s4_1 : PySem.W.subIn K (.ref C4) (.ref C1) = some false)
    (s4_2 : PySem.W.subIn K (.ref C4) (.ref C2) = some false)
    (s4_3 : PySem.W.subIn K (.ref C4) (.ref C3) = some false)
    (s4_4 : PySem.W.subIn K (.ref C4) (.ref C4) = some true)
    (s4_5 : PySem.W.subIn K (.ref C4) (.ref C5) = some false)
    (s4_6 : PySem.W.subIn K (.ref C4) (.ref C6) = some false)
    (s4_7 : PySem.W.subIn K (.ref C4) (.ref C7) = some false)
    (s4_8 : PySem.W.subIn K (.ref C4) (.ref C8) = some false)
    (s4_9 : PySem.W.subIn K (.ref C4) (.ref C9) = some false)
    (s4_10 : PySem.W.subIn K (.ref C4) (.ref C10) = some false)
    (su5 : PySem.W.subIn K (.ref C5) (.ref cS) = some true)
    (s5_0 : PySem.W.subIn K (.ref C5) (.ref C0) = some false)
    (s5_1 : PySem.W.subIn K (.ref C5) (.ref C1) = some false)
    (s5_2 : PySem.W.subIn K (.ref C5) (.ref C2) = some false)
    (s5_3 : PySem.W.subIn K (.ref C5) (.ref C3) = some false)
    (s5_4 : PySem.W.subIn K (.ref C5) (.ref C4) = some false)
    (s5_5 : PySem.W.subIn K (.ref C5) (.ref C5) = some true)
    (s5_6 : PySem.W.subIn K (.ref C5) (.ref C6) = some false)
    (s5_7 : PySem.W.subIn K (.ref C5) (.ref C7) = some false)
    (s5_8 : PySem.W.subIn K (.ref C5) (.ref C8) = some false)
    (s5_9 : PySem.W.subIn K (.ref C5) (.ref C9) = some false)
    (s5_10 : PySem.W.subIn K (.ref C5) (.ref C10) = some false)
    (su6 : PySem.W.subIn K (.ref C6) (.ref cS) = some true)
    (s6_0 : PySem.W.subIn K (.ref C6) (.ref C0) = some false)
    (s6_1 : PySem.W.subIn K (.ref C6) (.ref C1) = some false)
    (s6_2 : PySem.W.subIn K (.ref C6) (.ref C2) = some false)
    (s6_3 : PySem.W.subIn K (.ref C6) (.ref C3) = some false)
    (s6_4 : PySem.W.subIn K (.ref C6) (.ref C4) = some false)
    (s6_5 : PySem.W.subIn K (.ref C6) (.ref C5) = some false)
    (s6_6 : PySem.W.subIn K (.ref C6) (.ref C6) = some true)
    (s6_7 : PySem.W.subIn K (.ref C6) (.ref C7) = some false)
    (s6_8 : PySem.W.subIn K (.ref C6) (.ref C8) = some false)
    (s6_9 : PySem.W.subIn K (.ref C6) (.ref C9) = some false)
    (s6_10 : PySem.W.subIn K (.ref C6) (.ref C10) = some false)
    (su7 : PySem.W.subIn K (.ref C7) (.ref cS) = some true)
    (s7_0 : PySem.W.subIn K (.ref C7) (.ref C0) = some false)
    (s7_1 : PySem.W.subIn K (.ref C7) (.ref C1) = some false)
    (s7_2 : PySem.W.subIn K (.ref C7) (.ref C2) = some false)
    (s7_3 : PySem.W.subIn K (.ref C7) (.ref C3) = some false)
    (s7_4 : PySem.W.subIn K (.ref C7) (.ref C4) = some false)
    (s7_5 : PySem.W.subIn K (.ref C7) (.ref C5) = some false)
    (s7_6 : PySem.W.subIn K (.ref C7) (.ref C6) = some false)
    (s7_7 : PySem.W.subIn K (.ref C7) (.ref C7) = some true)
    (s7_8 : PySem.W.subIn K (.ref C7) (.ref C8) = some false)
    (s7_9 : PySem.W.subIn K (.ref C7) (.ref C9) = some false)
    (s7_10 : PySem.W.subIn K (.ref C7) (.ref C10) = some false)
    (su8 : PySem.W.subIn K (.ref C8) (.ref cS) = some true)
    (s8_0 : PySem.W.subIn K (.ref C8) (.ref C0) = some false)
    (s8_1 : PySem.W.subIn K (.ref C8) (.ref C1) = some false)
    (s8_2 : PySem.W.subIn K (.ref C8) (.ref C2) = some false)
    (s8_3 : PySem.W.subIn K (.ref C8) (.ref C3) = some false)
    (s8_4 : PySem.W.subIn K (.ref C8) (.ref C4) = some false)
    (s8_5 : PySem.W.subIn K (.ref C8) (.ref C5) = some false)
    (s8_6 : PySem.W.subIn K (.ref C8) (.ref C6) = some false)
    (s8_7 : PySem.W.subIn K (.ref C8) (.ref C7) = some false)
    (s8_8 : PySem.W.subIn K (.ref C8) (.ref C8) = some true)
    (s8_9 : PySem.W.subIn K (.ref C8) (.ref C9) = some false)
    (s8_10 : PySem.W.subIn K (.ref C8) (.ref C10) = some false)
    (su9 : PySem.W.subIn K (.ref C9) (.ref cS) = some true)
    (s9_0 : PySem.W.subIn K (.ref C9) (.ref C0) = some false)
    (s9_1 : PySem.W.subIn K (.ref C9) (.ref C1) = some false)
    (s9_2 : PySem.W.subIn K (.ref C9) (.ref C2) = some false)
    (s9_3 : PySem.W.subIn K (.ref C9) (.ref C3) = some false)
    (s9_4 : PySem.W.subIn K (.ref C9) (.ref C4) = some false)
    (s9_5 : PySem.W.subIn K (.ref C9) (.ref C5) = some false)
    (s9_6 : PySem.W.subIn K (.ref C9) (.ref C6) = some false)
    (s9_7 : PySem.W.subIn K (.ref C9) (.ref C7) = some false)
    (s9_8 : PySem.W.subIn K (.ref C9) (.ref C8) = some false)
    (s9_9 : PySem.W.subIn K (.ref C9) (.ref C9) = some true)
    (s9_10 : PySem.W.subIn K (.ref C9) (.ref C10) = some false)
    (su10 : PySem.W.subIn K (.ref C10) (.ref cS) = some true)
    (s10_0 : PySem.W.subIn K (.ref C10) (.ref C0) = some false)
    (s10_1 : PySem.W.subIn K (.ref C10) (.ref C1) = some false)
    (s10_2 : PySem.W.subIn K (.ref C10) (.ref C2) = some false)
    (s10_3 : PySem.W.subIn K (.ref C10) (.ref C3) = some false)
    (s10_4 : PySem.W.subIn K (.ref C10) (.ref C4) = some false)
    (s10_5 : PySem.W.subIn K (.ref C10) (.ref C5) = some false)
    (s10_6 : PySem.W.subIn K (.ref C10) (.ref C6) = some false)
    (s10_7 : PySem.W.subIn K (.ref C10) (.ref C7) = some false)
    (s10_8 : PySem.W.subIn K (.ref C10) (.ref C8) = some false)
    (s10_9 : PySem.W.subIn K (.ref C10) (.ref C9) = some false)
    (s10_10 : PySem.W.subIn K (.ref C10) (.ref C10) = some true)
    (a_law_box : PySem.W.nsIn K mainGlobals "_law_box" = some (some (.ref f_law_box)))
    (l_law_box : K.lookup f_law_box = some ⟨oc_law_box, od_law_box, .func (PySem.W.fnOf "_law_box" "_law_box" (defArgs s_law_box) (defBody s_law_box) (defScope s_law_box) .none kV_law_box dc_law_box pm_law_box an_law_box cd_law_box ct_law_box), sl_law_box⟩)
    (c_law_box : PySem.W.codeIn K cd_law_box "_law_box" = true)
    (k_law_box : PySem.W.keepIn K (.ref f_law_box) = true)
    (a_law_take : PySem.W.nsIn K mainGlobals "_law_take" = some (some (.ref f_law_take)))
    (l_law_take : K.lookup f_law_take = some ⟨oc_law_take, od_law_take, .func (PySem.W.fnOf "_law_take" "_law_take" (defArgs s_law_take) (defBody s_law_take) (defScope s_law_take) .none kV_law_take dc_law_take pm_law_take an_law_take cd_law_take ct_law_take), sl_law_take⟩)
    (c_law_take : PySem.W.codeIn K cd_law_take "_law_take" = true)
    (k_law_take : PySem.W.keepIn K (.ref f_law_take) = true)
    (a_law_pick : PySem.W.nsIn K mainGlobals "_law_pick" = some (some (.ref f_law_pick)))
    (l_law_pick : K.lookup f_law_pick = some ⟨oc_law_pick, od_law_pick, .func (PySem.W.fnOf "_law_pick" "_law_pick" (defArgs s_law_pick) (defBody s_law_pick) (defScope s_law_pick) .none kV_law_pick dc_law_pick pm_law_pick an_law_pick cd_law_pick ct_law_pick), sl_law_pick⟩)
    (c_law_pick : PySem.W.codeIn K cd_law_pick "_law_pick" = true)
    (k_law_pick : PySem.W.keepIn K (.ref f_law_pick) = true)
    (a_law_value : PySem.W.nsIn K mainGlobals "_law_value" = some (some (.ref f_law_value)))
    (l_law_value : K.lookup f_law_value = some ⟨oc_law_value, od_law_value, .func (PySem.W.fnOf "_law_value" "_law_value" (defArgs s_law_value) (defBody s_law_value) (defScope s_law_value) .none kV_law_value dc_law_value pm_law_value an_law_value cd_law_value ct_law_value), sl_law_value⟩)
    (c_law_value : PySem.W.codeIn K cd_law_value "_law_value" = true)
    (k_law_value : PySem.W.keepIn K (.ref f_law_value) = true)
    (a_law_sorts : PySem.W.nsIn K mainGlobals "_law_sorts" = some (some (.ref f_law_sorts)))
    (l_law_sorts : K.lookup f_law_sorts = some ⟨oc_law_sorts, od_law_sorts, .func (PySem.W.fnOf "_law_sorts" "_law_sorts" (defArgs s_law_sorts) (defBody s_law_sorts) (defScope s_law_sorts) .none kV_law_sorts dc_law_sorts pm_law_sorts an_law_sorts cd_law_sorts ct_law_sorts), sl_law_sorts⟩)
    (c_law_sorts : PySem.W.codeIn K cd_law_sorts "_law_sorts" = true)
    (k_law_sorts : PySem.W.keepIn K (.ref f_law_sorts) = true)
    (a_law_made : PySem.W.nsIn K mainGlobals "_law_made" = some (some (.ref f_law_made)))
    (l_law_made : K.lookup f_law_made = some ⟨oc_law_made, od_law_made, .func (PySem.W.fnOf "_law_made" "_law_made" (defArgs s_law_made) (defBody s_law_made) (defScope s_law_made) .none kV_law_made dc_law_made pm_law_made an_law_made cd_law_made ct_law_made), sl_law_made⟩)
    (c_law_made : PySem.W.codeIn K cd_law_made "_law_made" = true)
    (k_law_made : PySem.W.keepIn K (.ref f_law_made) = true)
    (a_law_named : PySem.W.nsIn K mainGlobals "_law_named" = some (some (.ref f_law_named)))
    (l_law_named : K.lookup f_law_named = some ⟨oc_law_named, od_law_named, .func (PySem.W.fnOf "_law_named" "_law_named" (defArgs s_law_named) (defBody s_law_named) (defScope s_law_named) .none kV_law_named dc_law_named pm_law_named an_law_named cd_law_named ct_law_named), sl_law_named⟩)
    (c_law_named : PySem.W.codeIn K cd_law_named "_law_named" = true)
    (k_law_named : PySem.W.keepIn K (.ref f_law_named) = true)
    (a_law_kept : PySem.W.nsIn K mainGlobals "_law_kept" = some (some (.ref f_law_kept)))
    (l_law_kept : K.lookup f_law_kept = some ⟨oc_law_kept, od_law_kept, .func (PySem.W.fnOf "_law_kept" "_law_kept" (defArgs s_law_kept) (defBody s_law_kept) (defScope s_law_kept) .none kV_law_kept dc_law_kept pm_law_kept an_law_kept cd_law_kept ct_law_kept), sl_law_kept⟩)
    (c_law_kept : PySem.W.codeIn K cd_law_kept "_law_kept" = true)
    (k_law_kept : PySem.W.keepIn K (.ref f_law_kept) = true)
    (a_law : PySem.W.nsIn K mainGlobals "law" = some (some (.ref f_law)))
    (l_law : K.lookup f_law = some ⟨oc_law, od_law, .func (PySem.W.fnOf "law" "law" (defArgs s_law) (defBody s_law) (defScope s_law) .none kV_law dc_law pm_law an_law cd_law ct_law), sl_law⟩)
    (c_law : PySem.W.codeIn K cd_law "law" = true)
    (k_law : PySem.W.keepIn K (.ref f_law) = true)
    (z_len : PySem.W.nsIn K mainGlobals "len" = some none)
    (z_abs : PySem.W.nsIn K mainGlobals "abs" = some none)
    (z_int : PySem.W.nsIn K mainGlobals "int" = some none)
    (z_max : PySem.W.nsIn K mainGlobals "max" = some none)
    (z_min : PySem.W.nsIn K mainGlobals "min" = some none)
    (z_range : PySem.W.nsIn K mainGlobals "range" = some none)
    (z_enumerate : PySem.W.nsIn K mainGlobals "enumerate" = some none)
    (z_isinstance : PySem.W.nsIn K mainGlobals "isinstance" = some none)
    (z_repr : PySem.W.nsIn K mainGlobals "repr" = some none)
    (z_ValueError : PySem.W.nsIn K mainGlobals "ValueError" = some none)
    : ∀ base : Heap, K.In base → base.Ns mainGlobals mg → LawOk P w K mg base 4 fa (spLaw K) := by
  intro base _ _
  cases hfa.symm.trans (PySem.W.mg_of X G a_law)
  have is0 : PySem.W.ErrIs K C0 := ⟨ga0, gg0, ex0, hd0, cl0, gt, tk, mo0⟩
  have is1 : PySem.W.ErrIs K C1 := ⟨ga1, gg1, ex1, hd1, cl1, gt, tk, mo1⟩
  have is2 : PySem.W.ErrIs K C2 := ⟨ga2, gg2, ex2, hd2, cl2, gt, tk, mo2⟩
  have is3 : PySem.W.ErrIs K C3 := ⟨ga3, gg3, ex3, hd3, cl3, gt, tk, mo3⟩
  have is4 : PySem.W.ErrIs K C4 := ⟨ga4, gg4, ex4, hd4, cl4, gt, tk, mo4⟩
  have is5 : PySem.W.ErrIs K C5 := ⟨ga5, gg5, ex5, hd5, cl5, gt, tk, mo5⟩
  have is6 : PySem.W.ErrIs K C6 := ⟨ga6, gg6, ex6, hd6, cl6, gt, tk, mo6⟩
  have is7 : PySem.W.ErrIs K C7 := ⟨ga7, gg7, ex7, hd7, cl7, gt, tk, mo7⟩
  have is8 : PySem.W.ErrIs K C8 := ⟨ga8, gg8, ex8, hd8, cl8, gt, tk, mo8⟩
  have is9 : PySem.W.ErrIs K C9 := ⟨ga9, gg9, ex9, hd9, cl9, gt, tk, mo9⟩
  have is10 : PySem.W.ErrIs K C10 := ⟨ga10, gg10, ex10, hd10, cl10, gt, tk, mo10⟩
  have ox0 : OexC K C0 := ⟨⟨_, _, _, _, _, _, _, _, _, _, _, _, _, _, _, lC0, rB0⟩, sa0, ex0, ty0, kC0⟩
  have F0 := fun_mk (st := s_InvalidText_init) lf0 cf0 kf_0
  have e0 : ErrK P w K mg base "InvalidText" "at" C0 := ⟨I0, _, ⟨ox0, in0, ti0⟩, ok_init F0 sc_InvalidText_init ox0 no0 (fun cdv A outer s H E => (pss_one (ps_ost (pv 0) (pv 1)))), PySem.W.mg_of X G aC0, F0.binds (ps := ["self", "at"]) (fun _ _ _ _ _ _ us hl => match us, hl with | [_, _], _ => rfl), fun s u w _ => .of_eq rfl, is0, no0⟩
  have ox1 : OexC K C1 := ⟨⟨_, _, _, _, _, _, _, _, _, _, _, _, _, _, _, lC1, rB1⟩, sa1, ex1, ty1, kC1⟩
  have F1 := fun_mk (st := s_InvalidRow_init) lf1 cf1 kf_1
  have e1 : ErrK P w K mg base "InvalidRow" "part" C1 := ⟨I1, _, ⟨ox1, in1, ti1⟩, ok_init F1 sc_InvalidRow_init ox1 no1 (fun cdv A outer s H E => (pss_one (ps_ost (pv 0) (pv 1)))), PySem.W.mg_of X G aC1, F1.binds (ps := ["self", "part"]) (fun _ _ _ _ _ _ us hl => match us, hl with | [_, _], _ => rfl), fun s u w _ => .of_eq rfl, is1, no1⟩
  have ox2 : OexC K C2 := ⟨⟨_, _, _, _, _, _, _, _, _, _, _, _, _, _, _, lC2, rB2⟩, sa2, ex2, ty2, kC2⟩
  have F2 := fun_mk (st := s_InvalidBook_init) lf2 cf2 kf_2
  have e2 : ErrK P w K mg base "InvalidBook" "word" C2 := ⟨I2, _, ⟨ox2, in2, ti2⟩, ok_init F2 sc_InvalidBook_init ox2 no2 (fun cdv A outer s H E => (pss_one (ps_ost (pv 0) (pv 1)))), PySem.W.mg_of X G aC2, F2.binds (ps := ["self", "word"]) (fun _ _ _ _ _ _ us hl => match us, hl with | [_, _], _ => rfl), fun s u w _ => .of_eq rfl, is2, no2⟩
  have ox3 : OexC K C3 := ⟨⟨_, _, _, _, _, _, _, _, _, _, _, _, _, _, _, lC3, rB3⟩, sa3, ex3, ty3, kC3⟩
  have F3 := fun_mk (st := s_InvalidLife_init) lf3 cf3 kf_3
  have e3 : ErrK P w K mg base "InvalidLife" "at" C3 := ⟨I3, _, ⟨ox3, in3, ti3⟩, ok_init F3 sc_InvalidLife_init ox3 no3 (fun cdv A outer s H E => (pss_one (ps_ost (pv 0) (pv 1)))), PySem.W.mg_of X G aC3, F3.binds (ps := ["self", "at"]) (fun _ _ _ _ _ _ us hl => match us, hl with | [_, _], _ => rfl), fun s u w _ => .of_eq rfl, is3, no3⟩
  have ox4 : OexC K C4 := ⟨⟨_, _, _, _, _, _, _, _, _, _, _, _, _, _, _, lC4, rB4⟩, sa4, ex4, ty4, kC4⟩
  have F4 := fun_mk (st := s_NoStatement_init) lf4 cf4 kf_4
  have e4 : ErrK P w K mg base "NoStatement" "at" C4 := ⟨I4, _, ⟨ox4, in4, ti4⟩, ok_init F4 sc_NoStatement_init ox4 no4 (fun cdv A outer s H E => (pss_one (ps_ost (pv 0) (pv 1)))), PySem.W.mg_of X G aC4, F4.binds (ps := ["self", "at"]) (fun _ _ _ _ _ _ us hl => match us, hl with | [_, _], _ => rfl), fun s u w _ => .of_eq rfl, is4, no4⟩
  have ox5 : OexC K C5 := ⟨⟨_, _, _, _, _, _, _, _, _, _, _, _, _, _, _, lC5, rB5⟩, sa5, ex5, ty5, kC5⟩
  have F5 := fun_mk (st := s_NoTotal_init) lf5 cf5 kf_5
  have e5 : ErrK P w K mg base "NoTotal" "name" C5 := ⟨I5, _, ⟨ox5, in5, ti5⟩, ok_init F5 sc_NoTotal_init ox5 no5 (fun cdv A outer s H E => (pss_one (ps_ost (pv 0) (pv 1)))), PySem.W.mg_of X G aC5, F5.binds (ps := ["self", "name"]) (fun _ _ _ _ _ _ us hl => match us, hl with | [_, _], _ => rfl), fun s u w _ => .of_eq rfl, is5, no5⟩
  have ox6 : OexC K C6 := ⟨⟨_, _, _, _, _, _, _, _, _, _, _, _, _, _, _, lC6, rB6⟩, sa6, ex6, ty6, kC6⟩
  have F6 := fun_mk (st := s_NoEvent_init) lf6 cf6 kf_6
  have e6 : ErrK P w K mg base "NoEvent" "name" C6 := ⟨I6, _, ⟨ox6, in6, ti6⟩, ok_init F6 sc_NoEvent_init ox6 no6 (fun cdv A outer s H E => (pss_one (ps_ost (pv 0) (pv 1)))), PySem.W.mg_of X G aC6, F6.binds (ps := ["self", "name"]) (fun _ _ _ _ _ _ us hl => match us, hl with | [_, _], _ => rfl), fun s u w _ => .of_eq rfl, is6, no6⟩
  have ox7 : OexC K C7 := ⟨⟨_, _, _, _, _, _, _, _, _, _, _, _, _, _, _, lC7, rB7⟩, sa7, ex7, ty7, kC7⟩
  have F7 := fun_mk (st := s_Refused_init) lf7 cf7 kf_7
  have e7 : ErrK P w K mg base "Refused" "word" C7 := ⟨I7, _, ⟨ox7, in7, ti7⟩, ok_init F7 sc_Refused_init ox7 no7 (fun cdv A outer s H E => (pss_one (ps_ost (pv 0) (pv 1)))), PySem.W.mg_of X G aC7, F7.binds (ps := ["self", "word"]) (fun _ _ _ _ _ _ us hl => match us, hl with | [_, _], _ => rfl), fun s u w _ => .of_eq rfl, is7, no7⟩
  have e8 : Err0 K mg "InvalidVector" C8 := ⟨qC8, PySem.W.mg_of X G aC8, kC8, is8⟩
  have e9 : Err0 K mg "InvalidCommand" C9 := ⟨qC9, PySem.W.mg_of X G aC9, kC9, is9⟩
  have e10 : Err0 K mg "Mismatch" C10 := ⟨qC10, PySem.W.mg_of X G aC10, kC10, is10⟩
  have ER : Errs P w K mg base (fun n => [C0, C1, C2, C3, C4, C5, C6, C7, C8, C9, C10].getD n 0) := ⟨e0, e1, e2, e3, e4, e5, e6, e7, e8, e9, e10⟩
  have KT : Kits K mg (fun n => [C0, C1, C2, C3, C4, C5, C6, C7, C8, C9, C10].getD n 0) cS := by
    refine ⟨fun i j hi hj => ?_, fun i hi => ?_, fun i hi => ?_, PySem.W.mg_of X G aS⟩
    · match i, hi with
      | 0, _ => match j, hj with
        | 0, _ => exact kit_self _
        | 1, _ => exact kit_other s0_0 s0_1 is1.is ty1
        | 2, _ => exact kit_other s0_0 s0_2 is2.is ty2
        | 3, _ => exact kit_other s0_0 s0_3 is3.is ty3
        | 4, _ => exact kit_other s0_0 s0_4 is4.is ty4
        | 5, _ => exact kit_other s0_0 s0_5 is5.is ty5
        | 6, _ => exact kit_other s0_0 s0_6 is6.is ty6
        | 7, _ => exact kit_other s0_0 s0_7 is7.is ty7
        | 8, _ => exact kit_other s0_0 s0_8 is8.is ty8
        | 9, _ => exact kit_other s0_0 s0_9 is9.is ty9
        | 10, _ => exact kit_other s0_0 s0_10 is10.is ty10
        | n + 11, hj => exact absurd hj (by omega)
      | 1, _ => match j, hj with
        | 0, _ => exact kit_other s1_1 s1_0 is0.is ty0
        | 1, _ => exact kit_self _
        | 2, _ => exact kit_other s1_1 s1_2 is2.is ty2
        | 3, _ => exact kit_other s1_1 s1_3 is3.is ty3
        | 4, _ => exact kit_other s1_1 s1_4 is4.is ty4
        | 5, _ => exact kit_other s1_1 s1_5 is5.is ty5
        | 6, _ => exact kit_other s1_1 s1_6 is6.is ty6
        | 7, _ => exact kit_other s1_1 s1_7 is7.is ty7
        | 8, _ => exact kit_other s1_1 s1_8 is8.is ty8
        | 9, _ => exact kit_other s1_1 s1_9 is9.is ty9
        | 10, _ => exact kit_other s1_1 s1_10 is10.is ty10
        | n + 11, hj => exact absurd hj (by omega)
      | 2, _ => match j, hj with
        | 0, _ => exact kit_other s2_2 s2_0 is0.is ty0
        | 1, _ => exact kit_other s2_2 s2_1 is1.is ty1
        | 2, _ => exact kit_self _
        | 3, _ => exact kit_other s2_2 s2_3 is3.is ty3
        | 4, _ => exact kit_other s2_2 s2_4 is4.is ty4
        | 5, _ => exact kit_other s2_2 s2_5 is5.is ty5
        | 6, _ => exact kit_other s2_2 s2_6 is6.is ty6
        | 7, _ => exact kit_other s2_2 s2_7 is7.is ty7
        | 8, _ => exact kit_other s2_2 s2_8 is8.is ty8
        | 9, _ => exact kit_other s2_2 s2_9 is9.is ty9
        | 10, _ => exact kit_other s2_2 s2_10 is10.is ty10
        | n + 11, hj => exact absurd hj (by omega)
      | 3, _ => match j, hj with
        | 0, _ => exact kit_other s3_3 s3_0 is0.is ty0
        | 1, _ => exact kit_other s3_3 s3_1 is1.is ty1
        | 2, _ => exact kit_other s3_3 s3_2 is2.is ty2
        | 3, _ => exact kit_self _
        | 4, _ => exact kit_other s3_3 s3_4 is4.is ty4
        | 5, _ => exact kit_other s3_3 s3_5 is5.is ty5
        | 6, _ => exact kit_other s3_3 s3_6 is6.is ty6
        | 7, _ => exact kit_other s3_3 s3_7 is7.is ty7
        | 8, _ => exact kit_other s3_3 s3_8 is8.is ty8
        | 9, _ => exact kit_other s3_3 s3_9 is9.is ty9
        | 10, _ => exact kit_other s3_3 s3_10 is10.is ty10
        | n + 11, hj => exact absurd hj (by omega)
      | 4, _ => match j, hj with
        | 0, _ => exact kit_other s4_4 s4_0 is0.is ty0
        | 1, _ => exact kit_other s4_4 s4_1 is1.is ty1
        | 2, _ => exact kit_other s4_4 s4_2 is2.is ty2
        | 3, _ => exact kit_other s4_4 s4_3 is3.is ty3
        | 4, _ => exact kit_self _
        | 5, _ => exact kit_other s4_4 s4_5 is5.is ty5
        | 6, _ => exact kit_other s4_4 s4_6 is6.is ty6
        | 7, _ => exact kit_other s4_4 s4_7 is7.is ty7
        | 8, _ => exact kit_other s4_4 s4_8 is8.is ty8
        | 9, _ => exact kit_other s4_4 s4_9 is9.is ty9
        | 10, _ => exact kit_other s4_4 s4_10 is10.is ty10
        | n + 11, hj => exact absurd hj (by omega)
      | 5, _ => match j, hj with
        | 0, _ => exact kit_other s5_5 s5_0 is0.is ty0
        | 1, _ => exact kit_other s5_5 s5_1 is1.is ty1
        | 2, _ => exact kit_other s5_5 s5_2 is2.is ty2
        | 3, _ => exact kit_other s5_5 s5_3 is3.is ty3
        | 4, _ => exact kit_other s5_5 s5_4 is4.is ty4
        | 5, _ => exact kit_self _
        | 6, _ => exact kit_other s5_5 s5_6 is6.is ty6
        | 7, _ => exact kit_other s5_5 s5_7 is7.is ty7
        | 8, _ => exact kit_other s5_5 s5_8 is8.is ty8
        | 9, _ => exact kit_other s5_5 s5_9 is9.is ty9
        | 10, _ => exact kit_other s5_5 s5_10 is10.is ty10
        | n + 11, hj => exact absurd hj (by omega)
      | 6, _ => match j, hj with
        | 0, _ => exact kit_other s6_6 s6_0 is0.is ty0
        | 1, _ => exact kit_other s6_6 s6_1 is1.is ty1
        | 2, _ => exact kit_other s6_6 s6_2 is2.is ty2
        | 3, _ => exact kit_other s6_6 s6_3 is3.is ty3
        | 4, _ => exact kit_other s6_6 s6_4 is4.is ty4
        | 5, _ => exact kit_other s6_6 s6_5 is5.is ty5
        | 6, _ => exact kit_self _
        | 7, _ => exact kit_other s6_6 s6_7 is7.is ty7
        | 8, _ => exact kit_other s6_6 s6_8 is8.is ty8
        | 9, _ => exact kit_other s6_6 s6_9 is9.is ty9
        | 10, _ => exact kit_other s6_6 s6_10 is10.is ty10
        | n + 11, hj => exact absurd hj (by omega)
      | 7, _ => match j, hj with
        | 0, _ => exact kit_other s7_7 s7_0 is0.is ty0
        | 1, _ => exact kit_other s7_7 s7_1 is1.is ty1
        | 2, _ => exact kit_other s7_7 s7_2 is2.is ty2
        | 3, _ => exact kit_other s7_7 s7_3 is3.is ty3
        | 4, _ => exact kit_other s7_7 s7_4 is4.is ty4
        | 5, _ => exact kit_other s7_7 s7_5 is5.is ty5
        | 6, _ => exact kit_other s7_7 s7_6 is6.is ty6
        | 7, _ => exact kit_self _
        | 8, _ => exact kit_other s7_7 s7_8 is8.is ty8
        | 9, _ => exact kit_other s7_7 s7_9 is9.is ty9
        | 10, _ => exact kit_other s7_7 s7_10 is10.is ty10
        | n + 11, hj => exact absurd hj (by omega)
      | 8, _ => match j, hj with
        | 0, _ => exact kit_other s8_8 s8_0 is0.is ty0
        | 1, _ => exact kit_other s8_8 s8_1 is1.is ty1
        | 2, _ => exact kit_other s8_8 s8_2 is2.is ty2
        | 3, _ => exact kit_other s8_8 s8_3 is3.is ty3
        | 4, _ => exact kit_other s8_8 s8_4 is4.is ty4
        | 5, _ => exact kit_other s8_8 s8_5 is5.is ty5
        | 6, _ => exact kit_other s8_8 s8_6 is6.is ty6
        | 7, _ => exact kit_other s8_8 s8_7 is7.is ty7
        | 8, _ => exact kit_self _
        | 9, _ => exact kit_other s8_8 s8_9 is9.is ty9
        | 10, _ => exact kit_other s8_8 s8_10 is10.is ty10
        | n + 11, hj => exact absurd hj (by omega)
      | 9, _ => match j, hj with
        | 0, _ => exact kit_other s9_9 s9_0 is0.is ty0
        | 1, _ => exact kit_other s9_9 s9_1 is1.is ty1
        | 2, _ => exact kit_other s9_9 s9_2 is2.is ty2
        | 3, _ => exact kit_other s9_9 s9_3 is3.is ty3
        | 4, _ => exact kit_other s9_9 s9_4 is4.is ty4
        | 5, _ => exact kit_other s9_9 s9_5 is5.is ty5
        | 6, _ => exact kit_other s9_9 s9_6 is6.is ty6
        | 7, _ => exact kit_other s9_9 s9_7 is7.is ty7
        | 8, _ => exact kit_other s9_9 s9_8 is8.is ty8
        | 9, _ => exact kit_self _
        | 10, _ => exact kit_other s9_9 s9_10 is10.is ty10
        | n + 11, hj => exact absurd hj (by omega)
      | 10, _ => match j, hj with
        | 0, _ => exact kit_other s10_10 s10_0 is0.is ty0
        | 1, _ => exact kit_other s10_10 s10_1 is1.is ty1
        | 2, _ => exact kit_other s10_10 s10_2 is2.is ty2
        | 3, _ => exact kit_other s10_10 s10_3 is3.is ty3
        | 4, _ => exact kit_other s10_10 s10_4 is4.is ty4
        | 5, _ => exact kit_other s10_10 s10_5 is5.is ty5
        | 6, _ => exact kit_other s10_10 s10_6 is6.is ty6
        | 7, _ => exact kit_other s10_10 s10_7 is7.is ty7
        | 8, _ => exact kit_other s10_10 s10_8 is8.is ty8
        | 9, _ => exact kit_other s10_10 s10_9 is9.is ty9
        | 10, _ => exact kit_self _
        | n + 11, hj => exact absurd hj (by omega)
      | n + 11, hi => exact absurd hi (by omega)
    · match i, hi with
      | 0, _ => exact kit_up su0 (kit_is hdS) tyS
      | 1, _ => exact kit_up su1 (kit_is hdS) tyS
      | 2, _ => exact kit_up su2 (kit_is hdS) tyS
      | 3, _ => exact kit_up su3 (kit_is hdS) tyS
      | 4, _ => exact kit_up su4 (kit_is hdS) tyS
      | 5, _ => exact kit_up su5 (kit_is hdS) tyS
      | 6, _ => exact kit_up su6 (kit_is hdS) tyS
      | 7, _ => exact kit_up su7 (kit_is hdS) tyS
      | 8, _ => exact kit_up su8 (kit_is hdS) tyS
      | 9, _ => exact kit_up su9 (kit_is hdS) tyS
      | 10, _ => exact kit_up su10 (kit_is hdS) tyS
      | n + 11, hi => exact absurd hi (by omega)
    · match i, hi with
      | 0, _ => exact kit_ve ve0
      | 1, _ => exact kit_ve ve1
      | 2, _ => exact kit_ve ve2
      | 3, _ => exact kit_ve ve3
      | 4, _ => exact kit_ve ve4
      | 5, _ => exact kit_ve ve5
      | 6, _ => exact kit_ve ve6
      | 7, _ => exact kit_ve ve7
      | 8, _ => exact kit_ve ve8
      | 9, _ => exact kit_ve ve9
      | 10, _ => exact kit_ve ve10
      | n + 11, hi => exact absurd hi (by omega)
  have T : Txt mg := ⟨PySem.W.mg_none_of X G z_len, PySem.W.mg_none_of X G z_abs, PySem.W.mg_none_of X G z_int, PySem.W.mg_none_of X G z_max, PySem.W.mg_none_of X G z_min, PySem.W.mg_none_of X G z_range, PySem.W.mg_none_of X G z_enumerate, PySem.W.mg_none_of X G z_isinstance, PySem.W.mg_none_of X G z_repr, PySem.W.mg_none_of X G z_ValueError⟩
  have D_law_box := fun_mk (st := s_law_box) l_law_box c_law_box k_law_box
  have A_law_box : DefAt K mg "_law_box" s_law_box ["_law_script", "_law_k", "_law_own"] := ⟨f_law_box, _, D_law_box, PySem.W.mg_of X G a_law_box, D_law_box.binds (fun _ _ _ _ _ _ us hl => match us, hl with | [_, _, _], _ => rfl)⟩
  have D_law_take := fun_mk (st := s_law_take) l_law_take c_law_take k_law_take
  have A_law_take : DefAt K mg "_law_take" s_law_take ["_law_box_here", "_law_many"] := ⟨f_law_take, _, D_law_take, PySem.W.mg_of X G a_law_take, D_law_take.binds (fun _ _ _ _ _ _ us hl => match us, hl with | [_, _], _ => rfl)⟩
  have D_law_pick := fun_mk (st := s_law_pick) l_law_pick c_law_pick k_law_pick
  have A_law_pick : DefAt K mg "_law_pick" s_law_pick ["_law_box_here", "_law_items"] := ⟨f_law_pick, _, D_law_pick, PySem.W.mg_of X G a_law_pick, D_law_pick.binds (fun _ _ _ _ _ _ us hl => match us, hl with | [_, _], _ => rfl)⟩
  have D_law_value := fun_mk (st := s_law_value) l_law_value c_law_value k_law_value
  have A_law_value : DefAt K mg "_law_value" s_law_value ["_law_box_here"] := ⟨f_law_value, _, D_law_value, PySem.W.mg_of X G a_law_value, D_law_value.binds (fun _ _ _ _ _ _ us hl => match us, hl with | [_], _ => rfl)⟩
  have D_law_sorts := fun_mk (st := s_law_sorts) l_law_sorts c_law_sorts k_law_sorts
  have A_law_sorts : DefAt K mg "_law_sorts" s_law_sorts ["_law_one"] := ⟨f_law_sorts, _, D_law_sorts, PySem.W.mg_of X G a_law_sorts, D_law_sorts.binds (fun _ _ _ _ _ _ us hl => match us, hl with | [_], _ => rfl)⟩
  have D_law_made := fun_mk (st := s_law_made) l_law_made c_law_made k_law_made
  have A_law_made : DefAt K mg "_law_made" s_law_made ["_law_some"] := ⟨f_law_made, _, D_law_made, PySem.W.mg_of X G a_law_made, D_law_made.binds (fun _ _ _ _ _ _ us hl => match us, hl with | [_], _ => rfl)⟩
  have D_law_named := fun_mk (st := s_law_named) l_law_named c_law_named k_law_named
  have A_law_named : DefAt K mg "_law_named" s_law_named ["_law_some"] := ⟨f_law_named, _, D_law_named, PySem.W.mg_of X G a_law_named, D_law_named.binds (fun _ _ _ _ _ _ us hl => match us, hl with | [_], _ => rfl)⟩
  have D_law_kept := fun_mk (st := s_law_kept) l_law_kept c_law_kept k_law_kept
  have A_law_kept : DefAt K mg "_law_kept" s_law_kept ["_law_made_here"] := ⟨f_law_kept, _, D_law_kept, PySem.W.mg_of X G a_law_kept, D_law_kept.binds (fun _ _ _ _ _ _ us hl => match us, hl with | [_], _ => rfl)⟩
  have D_law := fun_mk (st := s_law) l_law c_law k_law
  have g_law_take := ok_take (P := P) (w := w) (base := base) T A_law_take
  have g_law_pick := ok_pick T g_law_take A_law_pick
  have g_law_value := ok_value T g_law_pick A_law_value
  have g_law_box := ok_box (P := P) (w := w) (base := base) T A_law_box
  exact ok_law T ER KT D_law (fun s u _ => .of_eq rfl) g_law_box g_law_value (ok_made T ER A_law_made) (ok_named T ER A_law_named) (ok_kept T ER A_law_kept) (ok_sorts T ER KT A_law_sorts)
end K01

open PySem PySem.W PyProof.Rows in
set_option maxRecDepth 100000 in
set_option maxHeartbeats 0 in
theorem PySem.Challenge.cw_sumlives_k01_errors_holds : PySem.Challenge.rw_sumlives_k01_errors.Holds := by
  w_on; o_law; k_head; (case hw => w_witness2)
  k_fill
  refine L2.walk_law (l := PySem.Challenge.rw_sumlives_k01_errors) (n := 63) (k := 4) (sp := K01.spLaw) rfl (by decide) rfl ⟨rfl, by decide, by decide⟩ (fun w h Y => PySem.W.kIn_of Y) ?F (fun K H a ns hl hS => ⟨a, ns, rfl, hS, hl, fun _ => rfl⟩)
  case F =>
    intro w mg fa h KX G hmg
    refine' K01.facts KX G hmg ?aC0 ?lC0 ?rB0 ?sa0 ?in0 ?ti0 ?lf0 ?cf0 ?kf_0 ?no0 ?aC1 ?lC1 ?rB1 ?sa1 ?in1 ?ti1 ?lf1 ?cf1 ?kf_1 ?no1 ?aC2 ?lC2 ?rB2 ?sa2 ?in2 ?ti2 ?lf2 ?cf2 ?kf_2 ?no2 ?aC3 ?lC3 ?rB3 ?sa3 ?in3 ?ti3 ?lf3 ?cf3 ?kf_3 ?no3 ?aC4 ?lC4 ?rB4 ?sa4 ?in4 ?ti4 ?lf4 ?cf4 ?kf_4 ?no4 ?aC5 ?lC5 ?rB5 ?sa5 ?in5 ?ti5 ?lf5 ?cf5 ?kf_5 ?no5 ?aC6 ?lC6 ?rB6 ?sa6 ?in6 ?ti6 ?lf6 ?cf6 ?kf_6 ?no6 ?aC7 ?lC7 ?rB7 ?sa7 ?in7 ?ti7 ?lf7 ?cf7 ?kf_7 ?no7 ?kC0 ?ex0 ?ve0 ?ty0 ?ga0 ?gg0 ?hd0 ?cl0 ?mo0 ?kC1 ?ex1 ?ve1 ?ty1 ?ga1 ?gg1 ?hd1 ?cl1 ?mo1 ?kC2 ?ex2 ?ve2 ?ty2 ?ga2 ?gg2 ?hd2 ?cl2 ?mo2 ?kC3 ?ex3 ?ve3 ?ty3 ?ga3 ?gg3 ?hd3 ?cl3 ?mo3 ?kC4 ?ex4 ?ve4 ?ty4 ?ga4 ?gg4 ?hd4 ?cl4 ?mo4 ?kC5 ?ex5 ?ve5 ?ty5 ?ga5 ?gg5 ?hd5 ?cl5 ?mo5 ?kC6 ?ex6 ?ve6 ?ty6 ?ga6 ?gg6 ?hd6 ?cl6 ?mo6 ?kC7 ?ex7 ?ve7 ?ty7 ?ga7 ?gg7 ?hd7 ?cl7 ?mo7 ?aC8 ?qC8 ?kC8 ?ex8 ?ve8 ?ty8 ?ga8 ?gg8 ?hd8 ?cl8 ?mo8 ?aC9 ?qC9 ?kC9 ?ex9 ?ve9 ?ty9 ?ga9 ?gg9 ?hd9 ?cl9 ?mo9 ?aC10 ?qC10 ?kC10 ?ex10 ?ve10 ?ty10 ?ga10 ?gg10 ?hd10 ?cl10 ?mo10 ?aS ?tyS ?hdS ?gt ?tk ?su0 ?s0_0 ?s0_1 ?s0_2 ?s0_3 ?s0_4 ?s0_5 ?s0_6 ?s0_7 ?s0_8 ?s0_9 ?s0_10 ?su1 ?s1_0 ?s1_1 ?s1_2 ?s1_3 ?s1_4 ?s1_5 ?s1_6 ?s1_7 ?s1_8 ?s1_9 ?s1_10 ?su2 ?s2_0 ?s2_1 ?s2_2 ?s2_3 ?s2_4 ?s2_5 ?s2_6 ?s2_7 ?s2_8 ?s2_9 ?s2_10 ?su3 ?s3_0 ?s3_1 ?s3_2 ?s3_3 ?s3_4 ?s3_5 ?s3_6 ?s3_7 ?s3_8 ?s3_9 ?s3_10 ?su4 ?s4_0 ?s4_1 ?s4_2 ?s4_3 ?s4_4 ?s4_5 ?s4_6 ?s4_7 ?s4_8 ?s4_9 ?s4_10 ?su5 ?s5_0 ?s5_1 ?s5_2 ?s5_3 ?s5_4 ?s5_5 ?s5_6 ?s5_7 ?s5_8 ?s5_9 ?s5_10 ?su6 ?s6_0 ?s6_1 ?s6_2 ?s6_3 ?s6_4 ?s6_5 ?s6_6 ?s6_7 ?s6_8 ?s6_9 ?s6_10 ?su7 ?s7_0 ?s7_1 ?s7_2 ?s7_3 ?s7_4 ?s7_5 ?s7_6 ?s7_7 ?s7_8 ?s7_9 ?s7_10 ?su8 ?s8_0 ?s8_1 ?s8_2 ?s8_3 ?s8_4 ?s8_5 ?s8_6 ?s8_7 ?s8_8 ?s8_9 ?s8_10 ?su9 ?s9_0 ?s9_1 ?s9_2 ?s9_3 ?s9_4 ?s9_5 ?s9_6 ?s9_7 ?s9_8 ?s9_9 ?s9_10 ?su10 ?s10_0 ?s10_1 ?s10_2 ?s10_3 ?s10_4 ?s10_5 ?s10_6 ?s10_7 ?s10_8 ?s10_9 ?s10_10 ?a_law_box ?l_law_box ?c_law_box ?k_law_box ?a_law_take ?l_law_take ?c_law_take ?k_law_take ?a_law_pick ?l_law_pick ?c_law_pick ?k_law_pick ?a_law_value ?l_law_value ?c_law_value ?k_law_value ?a_law_sorts ?l_law_sorts ?c_law_sorts ?k_law_sorts ?a_law_made ?l_law_made ?c_law_made ?k_law_made ?a_law_named ?l_law_named ?c_law_named ?k_law_named ?a_law_kept ?l_law_kept ?c_law_kept ?k_law_kept ?a_law ?l_law ?c_law ?k_law ?z_len ?z_abs ?z_int ?z_max ?z_min ?z_range ?z_enumerate ?z_isinstance ?z_repr ?z_ValueError
    (case aC0 => k_is)
    (case lC0 => k_is)
    (case rB0 => exact (by decide +kernel))
    (case sa0 => k_is)
    (case in0 => k_is)
    (case ti0 => k_is)
    (case lf0 => k_is)
    (case cf0 => k_is)
    (case kf_0 => k_is)
    (case no0 => k_is)
    (case aC1 => k_is)
    (case lC1 => k_is)
    (case rB1 => exact (by decide +kernel))
    (case sa1 => k_is)
    (case in1 => k_is)
    (case ti1 => k_is)
    (case lf1 => k_is)
    (case cf1 => k_is)
    (case kf_1 => k_is)
    (case no1 => k_is)
    (case aC2 => k_is)
    (case lC2 => k_is)
    (case rB2 => exact (by decide +kernel))
    (case sa2 => k_is)
    (case in2 => k_is)
    (case ti2 => k_is)
    (case lf2 => k_is)
    (case cf2 => k_is)
    (case kf_2 => k_is)
    (case no2 => k_is)
    (case aC3 => k_is)
    (case lC3 => k_is)
    (case rB3 => exact (by decide +kernel))
    (case sa3 => k_is)
    (case in3 => k_is)
    (case ti3 => k_is)
    (case lf3 => k_is)
    (case cf3 => k_is)
    (case kf_3 => k_is)
    (case no3 => k_is)
    (case aC4 => k_is)
    (case lC4 => k_is)
    (case rB4 => exact (by decide +kernel))
    (case sa4 => k_is)
    (case in4 => k_is)
    (case ti4 => k_is)
    (case lf4 => k_is)
    (case cf4 => k_is)
    (case kf_4 => k_is)
    (case no4 => k_is)
    (case aC5 => k_is)
    (case lC5 => k_is)
    (case rB5 => exact (by decide +kernel))
    (case sa5 => k_is)
    (case in5 => k_is)
    (case ti5 => k_is)
    (case lf5 => k_is)
    (case cf5 => k_is)
    (case kf_5 => k_is)
    (case no5 => k_is)
    (case aC6 => k_is)
    (case lC6 => k_is)
    (case rB6 => exact (by decide +kernel))
    (case sa6 => k_is)
    (case in6 => k_is)
    (case ti6 => k_is)
    (case lf6 => k_is)
    (case cf6 => k_is)
    (case kf_6 => k_is)
    (case no6 => k_is)
    (case aC7 => k_is)
    (case lC7 => k_is)
    (case rB7 => exact (by decide +kernel))
    (case sa7 => k_is)
    (case in7 => k_is)
    (case ti7 => k_is)
    (case lf7 => k_is)
    (case cf7 => k_is)
    (case kf_7 => k_is)
    (case no7 => k_is)
    (case kC0 => k_is)
    (case ex0 => k_is)
    (case ve0 => k_is)
    (case ty0 => k_is)
    (case ga0 => k_is)
    (case gg0 => k_is)
    (case hd0 => k_is)
    (case cl0 => k_is)
    (case mo0 => k_is)
    (case kC1 => k_is)
    (case ex1 => k_is)
    (case ve1 => k_is)
    (case ty1 => k_is)
    (case ga1 => k_is)
    (case gg1 => k_is)
    (case hd1 => k_is)
    (case cl1 => k_is)
    (case mo1 => k_is)
    (case kC2 => k_is)
    (case ex2 => k_is)
    (case ve2 => k_is)
    (case ty2 => k_is)
    (case ga2 => k_is)
    (case gg2 => k_is)
    (case hd2 => k_is)
    (case cl2 => k_is)
    (case mo2 => k_is)
    (case kC3 => k_is)
    (case ex3 => k_is)
    (case ve3 => k_is)
    (case ty3 => k_is)
    (case ga3 => k_is)
    (case gg3 => k_is)
    (case hd3 => k_is)
    (case cl3 => k_is)
    (case mo3 => k_is)
    (case kC4 => k_is)
    (case ex4 => k_is)
    (case ve4 => k_is)
    (case ty4 => k_is)
    (case ga4 => k_is)
    (case gg4 => k_is)
    (case hd4 => k_is)
    (case cl4 => k_is)
    (case mo4 => k_is)
    (case kC5 => k_is)
    (case ex5 => k_is)
    (case ve5 => k_is)
    (case ty5 => k_is)
    (case ga5 => k_is)
    (case gg5 => k_is)
    (case hd5 => k_is)
    (case cl5 => k_is)
    (case mo5 => k_is)
    (case kC6 => k_is)
    (case ex6 => k_is)
    (case ve6 => k_is)
    (case ty6 => k_is)
    (case ga6 => k_is)
    (case gg6 => k_is)
    (case hd6 => k_is)
    (case cl6 => k_is)
    (case mo6 => k_is)
    (case kC7 => k_is)
    (case ex7 => k_is)
    (case ve7 => k_is)
    (case ty7 => k_is)
    (case ga7 => k_is)
    (case gg7 => k_is)
    (case hd7 => k_is)
    (case cl7 => k_is)
    (case mo7 => k_is)
    (case aC8 => k_is)
    (case qC8 => k_exc)
    (case kC8 => k_is)
    (case ex8 => k_is)
    (case ve8 => k_is)
    (case ty8 => k_is)
    (case ga8 => k_is)
    (case gg8 => k_is)
    (case hd8 => k_is)
    (case cl8 => k_is)
    (case mo8 => k_is)
    (case aC9 => k_is)
    (case qC9 => k_exc)
    (case kC9 => k_is)
    (case ex9 => k_is)
    (case ve9 => k_is)
    (case ty9 => k_is)
    (case ga9 => k_is)
    (case gg9 => k_is)
    (case hd9 => k_is)
    (case cl9 => k_is)
    (case mo9 => k_is)
    (case aC10 => k_is)
    (case qC10 => k_exc)
    (case kC10 => k_is)
    (case ex10 => k_is)
    (case ve10 => k_is)
    (case ty10 => k_is)
    (case ga10 => k_is)
    (case gg10 => k_is)
    (case hd10 => k_is)
    (case cl10 => k_is)
    (case mo10 => k_is)
    (case aS => k_is)
    (case tyS => k_is)
    (case hdS => k_is)
    (case gt => k_is)
    (case tk => k_is)
    (case su0 => k_is)
    (case s0_0 => k_is)
    (case s0_1 => k_is)
    (case s0_2 => k_is)
    (case s0_3 => k_is)
    (case s0_4 => k_is)
    (case s0_5 => k_is)
    (case s0_6 => k_is)
    (case s0_7 => k_is)
    (case s0_8 => k_is)
    (case s0_9 => k_is)
    (case s0_10 => k_is)
    (case su1 => k_is)
    (case s1_0 => k_is)
    (case s1_1 => k_is)
    (case s1_2 => k_is)
    (case s1_3 => k_is)
    (case s1_4 => k_is)
    (case s1_5 => k_is)
    (case s1_6 => k_is)
    (case s1_7 => k_is)
    (case s1_8 => k_is)
    (case s1_9 => k_is)
    (case s1_10 => k_is)
    (case su2 => k_is)
    (case s2_0 => k_is)
    (case s2_1 => k_is)
    (case s2_2 => k_is)
    (case s2_3 => k_is)
    (case s2_4 => k_is)
    (case s2_5 => k_is)
    (case s2_6 => k_is)
    (case s2_7 => k_is)
    (case s2_8 => k_is)
    (case s2_9 => k_is)
    (case s2_10 => k_is)
    (case su3 => k_is)
    (case s3_0 => k_is)
    (case s3_1 => k_is)
    (case s3_2 => k_is)
    (case s3_3 => k_is)
    (case s3_4 => k_is)
    (case s3_5 => k_is)
    (case s3_6 => k_is)
    (case s3_7 => k_is)
    (case s3_8 => k_is)
    (case s3_9 => k_is)
    (case s3_10 => k_is)
    (case su4 => k_is)
    (case s4_0 => k_is)
    (case s4_1 => k_is)
    (case s4_2 => k_is)
    (case s4_3 => k_is)
    (case s4_4 => k_is)
    (case s4_5 => k_is)
    (case s4_6 => k_is)
    (case s4_7 => k_is)
    (case s4_8 => k_is)
    (case s4_9 => k_is)
    (case s4_10 => k_is)
    (case su5 => k_is)
    (case s5_0 => k_is)
    (case s5_1 => k_is)
    (case s5_2 => k_is)
    (case s5_3 => k_is)
    (case s5_4 => k_is)
    (case s5_5 => k_is)
    (case s5_6 => k_is)
    (case s5_7 => k_is)
    (case s5_8 => k_is)
    (case s5_9 => k_is)
    (case s5_10 => k_is)
    (case su6 => k_is)
    (case s6_0 => k_is)
    (case s6_1 => k_is)
    (case s6_2 => k_is)
    (case s6_3 => k_is)
    (case s6_4 => k_is)
    (case s6_5 => k_is)
    (case s6_6 => k_is)
    (case s6_7 => k_is)
    (case s6_8 => k_is)
    (case s6_9 => k_is)
    (case s6_10 => k_is)
    (case su7 => k_is)
    (case s7_0 => k_is)
    (case s7_1 => k_is)
    (case s7_2 => k_is)
    (case s7_3 => k_is)
    (case s7_4 => k_is)
    (case s7_5 => k_is)
    (case s7_6 => k_is)
    (case s7_7 => k_is)
    (case s7_8 => k_is)
    (case s7_9 => k_is)
    (case s7_10 => k_is)
    (case su8 => k_is)
    (case s8_0 => k_is)
    (case s8_1 => k_is)
    (case s8_2 => k_is)
    (case s8_3 => k_is)
    (case s8_4 => k_is)
    (case s8_5 => k_is)
    (case s8_6 => k_is)
    (case s8_7 => k_is)
    (case s8_8 => k_is)
    (case s8_9 => k_is)
    (case s8_10 => k_is)
    (case su9 => k_is)
    (case s9_0 => k_is)
    (case s9_1 => k_is)
    (case s9_2 => k_is)
    (case s9_3 => k_is)
    (case s9_4 => k_is)
    (case s9_5 => k_is)
    (case s9_6 => k_is)
    (case s9_7 => k_is)
    (case s9_8 => k_is)
    (case s9_9 => k_is)
    (case s9_10 => k_is)
    (case su10 => k_is)
    (case s10_0 => k_is)
    (case s10_1 => k_is)
    (case s10_2 => k_is)
    (case s10_3 => k_is)
    (case s10_4 => k_is)
    (case s10_5 => k_is)
    (case s10_6 => k_is)
    (case s10_7 => k_is)
    (case s10_8 => k_is)
    (case s10_9 => k_is)
    (case s10_10 => k_is)
    (case a_law_box => k_is)
    (case l_law_box => k_is)
    (case c_law_box => k_is)
    (case k_law_box => k_is)
    (case a_law_take => k_is)
    (case l_law_take => k_is)
    (case c_law_take => k_is)
    (case k_law_take => k_is)
    (case a_law_pick => k_is)
    (case l_law_pick => k_is)
    (case c_law_pick => k_is)
    (case k_law_pick => k_is)
    (case a_law_value => k_is)
    (case l_law_value => k_is)
    (case c_law_value => k_is)
    (case k_law_value => k_is)
    (case a_law_sorts => k_is)
    (case l_law_sorts => k_is)
    (case c_law_sorts => k_is)
    (case k_law_sorts => k_is)
    (case a_law_made => k_is)
    (case l_law_made => k_is)
    (case c_law_made => k_is)
    (case k_law_made => k_is)
    (case a_law_named => k_is)
    (case l_law_named => k_is)
    (case c_law_named => k_is)
    (case k_law_named => k_is)
    (case a_law_kept => k_is)
    (case l_law_kept => k_is)
    (case c_law_kept => k_is)
    (case k_law_kept => k_is)
    (case a_law => k_is)
    (case l_law => k_is)
    (case c_law => k_is)
    (case k_law => k_is)
    (case z_len => k_is)
    (case z_abs => k_is)
    (case z_int => k_is)
    (case z_max => k_is)
    (case z_min => k_is)
    (case z_range => k_is)
    (case z_enumerate => k_is)
    (case z_isinstance => k_is)
    (case z_repr => k_is)
    (case z_ValueError => k_is)
