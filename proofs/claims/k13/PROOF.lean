import PyProof.Rows.All
import Wide.All
import OpenK.AllK
import Wide.FinOn
import HandS.ForMost
import HandS.ForExc
import HandS.ExcInit
import HandS.ExcIs
import HandS.IsInst
import HandS.Defaults
import HandS.MakeKwOnly
import HandS.Flow
import KE.KExcIs
import HandS.ExcField
import HandS.OwnEq
import HandS.TupMul
import HandS.TupAny
import HandS.Style
import HandS.CallSlots
import KE.DataMinMax
import HandS.RaiseMore
import HandS.TryOnly
import PyProof.Rows.ReprOcc
import HandS.Exc
import HandS.Zip
import HandS.Deep
import KE.SortData
import KE.GoesMore
import KE.KTupSum
import KE.DataFind
import PySem.Challenge.RW_cutorall_k13_papers_of_sides
set_option Elab.async false
set_option linter.all false
set_option maxRecDepth 100000
set_option maxHeartbeats 4000000
namespace Ek
open PySem PySem.W PySem.Calls PyProof.Rows PySem.HandSPX
section
variable {prog : Program} {w : World} {A : Around} {E : Value → Shared → Prop} {R : Result → Shared → Prop} {h : Heap} {g : Array GenState} {d : Drawn} {t : Nat} {os : OsState}
variable {nm q : Str} {C N fI : Addr} {bs bm bmB : List Value} {hdct : Bool} {sn : List Str} {sub : List Value} {ab : Bool} {col : Option Bool} {dd : Option Addr} {k0 k1 k2 k3 k5 : Option Value} {B newId initId : String}
/-- the check ahead of an own exception's making, keywords or none -/
theorem chk_kw (F : ExcBaseFacts B newId initId bmB) (hT : ∀ X : String, bm.contains (.type X) = bmB.contains (.type X)) {us : List Value} {kw : List (Str × Value)} {Q : Unit → Shared → Prop}
    (hC : h.get? C = some (excClassObj nm q C N bs bm hdct sn sub ab col dd k0 k1 k2 k3 k5 newId)) (z : Q () ⟨h, g, d, t, os⟩) : wpAny (model prog w) A (checkBuiltinCall newId ⟨.ref C :: us, kw⟩) Q E ⟨h, g, d, t, os⟩ := by
  have isB : (Value.ref C :: bm).contains (.type B) = true := by rw [List.contains_cons, hT, F.hasB, Bool.or_true]
  have st := F.noStar
  simp only [checkBuiltinCall, F.newKind, F.newSplit, F.newRow]
  repeat (first | (refine wpAny_isSubtype_exc hC ?_; rw [isB]) | refine wpAny_staticBase_exc hC ?_ | refine wpAny_madeBy_exc hC ?_ | refine wpAny_loadPart_at hC ?_ | simp only [bne_self_eq_false, Bool.false_eq_true, if_false] | wp_step)
  exact z
/-- what is laid: the tuple of the values by place, the exception -/
def laid (h : Heap) (C : Addr) (us : List Value) : Heap := (h.push (W.kdv_tup us)).push (excO C h.objs.size)
theorem new_kw (F : ExcBaseFacts B newId initId bmB) (hT : ∀ X : String, bm.contains (.type X) = bmB.contains (.type X)) {us : List Value} {kw : List (Str × Value)} (hC : h.get? C = some (excClassObj nm q C N bs bm hdct sn sub ab col dd k0 k1 k2 k3 k5 newId))
    (hz : us.length ≤ sizeLine) (z : R (.ok (.ret (.ref (h.objs.size + 1)))) ⟨laid h C us, g, d, t, os⟩) : codeAny (model prog w) A (.builtin newId ⟨.ref C :: us, kw⟩) R ⟨h, g, d, t, os⟩ := by
  have en := F.ends
  have isB : (Value.ref C :: bm).contains (.type B) = true := by rw [List.contains_cons, hT, F.hasB, Bool.or_true]
  have isA : (Value.ref C :: bm).contains (.type "AttributeError") = false := by rw [List.contains_cons, hT, F.noAttr]; rfl
  have isN : (Value.ref C :: bm).contains (.type "NameError") = false := by rw [List.contains_cons, hT, F.noName]; rfl
  refine codeAny_builtinAt F.entry ?_
  unfold Builtin.«BaseException.__new__»
  refine PySem.wpAt_bind ?_
  show PySem.wpAt _ _ _ (stack >>= _) _ _ _
  refine PySem.wpAt_bind (PySem.wpAt_stack fun p below => PySem.wpAt_of_wpAny ?_)
  wp_walk
  refine PySem.wpAt_of_wpAny ?_
  rw [F.owner]
  repeat (first | (with_reducible refine wpAny_isSubtype_exc hC ?_; first | rw [isB] | rw [isA] | rw [isN]) | with_reducible refine wpAny_madeHere_exc F.canon hC ?_ | with_reducible refine wpAny_loadPart_at hC ?_ | wp_step)
  show R _ _
  rw [Heap.size_push]
  exact z
theorem made_kw (F : ExcBaseFacts B newId initId bmB) (hT : ∀ X : String, bm.contains (.type X) = bmB.contains (.type X)) {us : List Value} {kw : List (Str × Value)} {Q : Fin → Shared → Prop} (hC : h.get? C = some (excClassObj nm q C N bs bm hdct sn sub ab col dd k0 k1 k2 k3 k5 newId))
    (hi : W.Looks (model prog w) h (typeLookup (.ref C) "__init__") (some (.ref fI))) (hb : ∀ self, W.Looks (model prog w) h (bindSpecial (.ref fI) self) (.ref fI, [self])) (hz : us.length ≤ sizeLine)
    (y : codeAny (model prog w) A (.call (.ref fI) ⟨.ref (h.objs.size + 1) :: us, kw⟩) (fun r s' => match r with | .ok (.ret v) => v = .none ∧ Q (.done (.ret (.ref (h.objs.size + 1)))) s' | .ok _ => False | .error e => E e s') ⟨laid h C us, g, d, t, os⟩) :
    wpAny (model prog w) A (Builtin.«type.__call__» ⟨.ref C :: us, kw⟩) Q E ⟨h, g, d, t, os⟩ := by
  repeat (first | with_reducible refine wpAny_madeBy_exc hC ?_ | with_reducible refine wpAny_loadPart_at hC ?_ | wp_step)
  refine codeAny_call_builtin_code (Code.quiet_builtin _ F.quiet) (chk_kw F hT hC (new_kw F hT hC hz (show wpAny _ _ _ _ _ _ from ?_)))
  have k : ∀ b o, h.get? b = some o → (laid h C us).get? b = some o := fun b o e => Heap.get?_push_of_some _ (Heap.get?_push_of_some _ e)
  have hx : (laid h C us).get? (h.objs.size + 1) = some (excO C h.objs.size) := by unfold laid; heap_get
  have isC : (Value.ref C :: bm).contains (.ref C) = true := by simp
  unfold isInstance
  repeat (first | (with_reducible refine wpAny_isSubtype_exc (k _ _ hC) ?_; rw [isC]) | with_reducible refine wpAny_loadPart_at hx ?_ | wp_step)
  refine (show wpAny _ _ (typeLookup (.ref C) _) _ _ _ from (hi.keeps k).at (wpAny_holding (wpAny_bind (((hb (.ref (h.objs.size + 1))).keeps k).at (wpAny_bind (wpAny_call (codeAny_mono y fun r s' z => ?_)))))))
  rcases r with e | (v | _ | _ | _) <;> first | exact z | exact z.elim | skip
  obtain ⟨rfl, z⟩ := z
  first | exact wpAny_pure (wpAny_pure z) | (wp_walk; exact z)
/-- C(.., k = v, ..) of an own exception class with its own __init__ -/
theorem call_kw (F : ExcBaseFacts B newId initId bmB) (hT : ∀ X : String, bm.contains (.type X) = bmB.contains (.type X)) {us : List Value} {kw : List (Str × Value)} (hC : h.get? C = some (excClassObj nm q C N bs bm hdct sn sub ab col dd k0 k1 k2 k3 k5 newId))
    (hi : W.Looks (model prog w) h (typeLookup (.ref C) "__init__") (some (.ref fI))) (hb : ∀ self, W.Looks (model prog w) h (bindSpecial (.ref fI) self) (.ref fI, [self])) (hz : us.length ≤ sizeLine)
    (y : codeAny (model prog w) (A.under (.builtin "type.__call__" ⟨.ref C :: us, kw⟩)) (.call (.ref fI) ⟨.ref (h.objs.size + 1) :: us, kw⟩) (W.InitBack (h.objs.size + 1) R) ⟨laid h C us, g, d, t, os⟩) :
    codeAny (model prog w) A (.call (.ref C) ⟨us, kw⟩) R ⟨h, g, d, t, os⟩ := by
  have f1 := tc_lookup
  have f2 := tc_bind (.ref C)
  have ty : (⟨h, g, d, t, os⟩ : Shared).TypeIs (.ref C) "type" := ⟨_, hC, rfl⟩
  refine codeAny_of_tree (show wpAny _ _ (callAny (.ref C) _) _ _ _ from ?_)
  repeat (any_goals (first | with_reducible refine wpAny_loadPart_at hC ?_ | assumption | wp_step))
  refine ⟨rfl, codeAny_call_builtin_at (Code.quiet_builtin _ (by decide +kernel)) entry_typeCall (wpAny_check_type_call_sub hC (made_kw F hT hC hi hb hz (codeAny_mono y fun r s' z => ?_)))⟩
  rcases r with e | (v | _ | _ | _) <;> exact z
end
end Ek

namespace Ek
open PySem PySem.Spec PyProof.Rows L2
/-! ### own exceptions as values -/
/-- at a: an exception of the class at C that has the fields fs -/
def XA (H : Hp) (a C : Addr) (fs : List (Str × V)) : Prop := ∃ d, H a = some (exo a C (some d)) ∧ H d = some (exd d fs)
/-- C(..), its own __init__ keeping sp -/
def tEx (C : Addr) (sp : Sp) (ta : TA) : TE := fun σ H Q => ta σ H fun vs H1 => vs.length ≤ 1000 ∧ ∀ a, H1 a = none → sp (.ref a :: vs) (upd H1 a (exo a C none)) (fun v H2 => v = .non ∧ Q (.ref a) H2) E0
section
variable {X : Cx} {CX : CXT} {x : Str} {C fI : Addr} {k : Nat} {fd : FuncData} {ps ks : List Str} {sp : Sp} {p pos : Pos} {e : Expr} {es : List Expr} {kws : List Keyword} {ta : TA}
theorem run_ex {pins : List (Addr × Obj)} {σ : L2.St} {H : Hp} {s : Shared} {Q : VK} {us all : List Value} {kw : List (Str × Value)} {vs : List V} (T : OexC X.K C) (iC : PySem.W.findIn X.K (.ref C) "__init__" = some (some (.ref fI))) (tI : PySem.W.typeIn X.K (.ref fI) = some (.type "function"))
    (F : FnOk X.prog X.w X.K X.mg X.base CX k fI fd ps sp) (hr : Room (k + 1) X.A) (hb : ∀ (s : Shared) (self : Value), X.K.In s.heap → BindsTo s fd ⟨self :: us, kw⟩ (ps.zip (self :: all))) (hx : Passes CX X E0) (I : Inv X pins σ H s) (hz : us.length ≤ sizeLine) (r : Vals vs all)
    (h : ∀ a, H a = none → sp (.ref a :: vs) (upd H a (exo a C none)) (fun v H2 => v = .non ∧ Q (.ref a) H2) E0) : wpAny (model X.prog X.w) X.A (call (.ref C) us kw) (EP X pins σ Q) X.xe s := by
  obtain ⟨nm, q, N, bs, bm, sn, sub, ab, col, dd, k0, k1, k2, k3, k5, hC, hbm⟩ := T.cls
  obtain ⟨hp, g, dr, tk, os⟩ := s
  have sz : hp.objs.size ≤ hp.objs.size + 1 := Nat.le_succ _
  have hq := h (hp.objs.size + 1) (I.hok.fresh sz)
  have kk : ∀ b o, hp.get? b = some o → (laid hp C us).get? b = some o := fun b o e => Heap.get?_push_of_some _ (Heap.get?_push_of_some _ e)
  have gx : (laid hp C us).get? (hp.objs.size + 1) = some (PySem.HandSPX.excO C hp.objs.size) := by unfold laid; heap_get
  have I2 : Inv X pins σ (upd H (hp.objs.size + 1) (exo (hp.objs.size + 1) C none)) ⟨laid hp C us, g, dr, tk, os⟩ := I.laid (t' := tk) (a := hp.objs.size + 1) (o := exo (hp.objs.size + 1) C none) (h' := laid hp C us) kk sz (exo_ok gx)
  refine wpAny_call (call_kw PySem.F.excBase_ValueError (fun Y => PySem.HandSPX.refsVE_contains Y bm hbm) (I.kIn _ _ hC) (PySem.W.looks_findIn I.kIn iC) (fun self => PySem.W.bind_fn I.kIn self tI) hz
    (codeAny_mono (F.run _ X.stack _ _ ⟨Value.ref (hp.objs.size + 1) :: us, kw⟩ (Value.ref (hp.objs.size + 1) :: all) _ _ E0 (hr.make C us kw) (I2.env0.make C us kw) (hb _ _ I2.kIn) (show Vals (V.ref (hp.objs.size + 1) :: vs) (Value.ref (hp.objs.size + 1) :: all) from .cons rfl r) hq) fun r s' z => ?_))
  cases r with
  | error er => exact hx pins σ _ _ er s' I2 z
  | ok fl =>
    cases fl with
    | ret u =>
      obtain ⟨v, H2, I3, rv, ev, q3⟩ := I2.after z
      subst ev
      exact ⟨rv, ⟨V.ref (hp.objs.size + 1), H2, I3, rfl, q3⟩⟩
    | next => exact False.elim z
    | brk => exact False.elim z
    | cont => exact False.elim z
/-- C(e, ..) as a value -/
theorem pe_ex (T : OexC X.K C) (iC : PySem.W.findIn X.K (.ref C) "__init__" = some (some (.ref fI))) (tI : PySem.W.typeIn X.K (.ref fI) = some (.type "function")) (F : FnOk X.prog X.w X.K X.mg X.base CX k fI fd ps sp) (hr : Room (k + 1) X.A) (hg : Gl X x) (hm : X.mg x = some (.ref C))
    (hb : Binds X.K fd ps []) (hx : Passes CX X E0) (ha : PA X (e :: es) ta) (hdb : (x == ("__debug__" : Str)) = false := by decide)
    (he : starEach (e :: es) X.env = (false, eval e X.env) :: starEach es X.env := by rfl) (hpl : (backTo pos (starEach es X.env)).any (·.1) = false := by rfl) : PE X (.Call (.Name x p) (e :: es) [] pos) (tEx C sp ta) := by
  refine ⟨fun pins s σ H Q I h => ?_⟩
  refine wpAny_Call_Name_kw (ld_glob I hg hm ?_ hdb)
  refine PySem.W.callWith_K (h₀ := X.base) I.ok.mod.kin T.kC (thn (ha.run pos pins s σ H _ I h) fun us s1 ⟨vs, H1, I1, r, hz, q⟩ => ⟨I1.kIn, ?_⟩) he hpl
  have hl : ∀ self : Value, ((self :: us) ++ []).length = ps.length := fun self => by
    have z := F.len _ _ _ _ (q (s1.heap.objs.size) (I1.hok.fresh (Nat.le_refl _)))
    rw [← z, List.append_nil, List.length_cons, List.length_cons, ← r.length]
  refine run_ex (all := us) (kw := []) T iC tI F hr (fun s2 self KX => ?_) hx I1 (by show us.length ≤ sizeLine; rw [← r.length, sizeLine_eq]; omega) r q
  have z := hb s2 (self :: us) KX (hl self)
  rw [List.append_nil] at z
  exact z
/-- C(k = v, ..) as a value -/
theorem pe_exk (T : OexC X.K C) (iC : PySem.W.findIn X.K (.ref C) "__init__" = some (some (.ref fI))) (tI : PySem.W.typeIn X.K (.ref fI) = some (.type "function")) (F : FnOk X.prog X.w X.K X.mg X.base CX k fI fd ps sp) (hr : Room (k + 1) X.A)
    (hg : Gl X x) (hm : X.mg x = some (.ref C)) (hps : ps.length = ks.length + 1) (hb : ∀ (s : Shared) (self : Value) (ws : List Value), ws.length = ks.length → BindsTo s fd ⟨[self], ks.zip ws⟩ (ps.zip (self :: ws))) (hx : Passes CX X E0) (hkw : PK X kws ta)
    (hall : (backToKw pos (keywordEach kws X.env)).all (·.1.isSome) = true := by rfl) (hks : (backToKw pos (keywordEach kws X.env)).filterMap (·.1) = ks := by rfl) (hdb : (x == ("__debug__" : Str)) = false := by decide)
    (hpl : ((backTo pos (starEach [] X.env)).any (·.1) || (backToKw pos (keywordEach kws X.env)).any (·.1.isNone)) = false := by rfl) :
    PE X (.Call (.Name x p) [] kws pos) (tEx C sp ta) := by
  refine ⟨fun pins s σ H Q I h => ?_⟩
  refine wpAny_Call_Name_kw (ld_glob I hg hm ?_ hdb)
  refine PySem.W.callWith_KW0 (h₀ := X.base) I.ok.mod.kin T.kC hall ?_ hpl
  refine thn (hkw.run pos pins s σ H _ I h) fun ws s2 ⟨zs, H2, I2, rz, hz, q2⟩ => ⟨I2.kIn, ?_⟩
  rw [hks]
  have hl : ws.length = ks.length := by
    have z := F.len _ _ _ _ (q2 (s2.heap.objs.size) (I2.hok.fresh (Nat.le_refl _)))
    rw [← rz.length]
    exact Nat.succ.inj (z.trans hps)
  exact run_ex (us := []) (all := ws) T iC tI F hr (fun s3 self _ => hb s3 self ws hl) hx I2 (Nat.zero_le _) rz q2
/-- e.f of such an exception -/
def tXA (K : PySem.W.Frag) (f : Str) (te : TE) : TE := fun σ H Q => te σ H fun x H1 => ∃ a C fs v, x = .ref a ∧ XfC K C ∧ PySem.W.findIn K (.ref C) f = some none ∧ XA H1 a C fs ∧ fs.lookup f = some v ∧ Q v H1
theorem pe_xa {n : Str} {te : TE} (he : PE X e te) (hb : attributeBase e n X.env (eval e X.env) = eval e X.env := by rfl) : PE X (.Attribute e n pos) (tXA X.K n te) := by
  refine ⟨fun pins s σ H Q I h => ?_⟩
  refine attr_of hb (thn (he.run pins s σ H _ I h) fun u s1 ⟨x, H1, I1, rx, a, C, fs, v, ex, T, hno, ⟨d, ha, hd⟩, l, q⟩ => ?_)
  subst ex
  obtain rfl : u = Value.ref a := rx
  obtain ⟨t1, ho⟩ := exo_at I1.hok ha
  obtain ⟨mA, hns, rel⟩ := exd_at I1.hok hd
  obtain ⟨od, hod, hl⟩ := lookIn_ns hns
  obtain ⟨u, hu, ru⟩ := RelO.some_of (v := v) (o := mA n) (by rw [← l]; exact rel n)
  have J : PySem.W.InstAt s1.heap a { cls := .ref C, dict := some d, data := .fields #[.ref t1, .none, .none, .none, .bool false, .none] } C (some od) := ⟨ho, rfl, rfl, hod⟩
  exact HandSPX.exc_get I1.kIn J T.ga T.gg T.exC (PySem.W.findObj_own T.hdC hno rfl (by rw [hl, hu])) (handed_of ru) ⟨v, H1, I1.tok _, ru, q⟩
/-- isinstance(e, c), e such an exception -/
def rIsX (K : PySem.W.Frag) : List V → Hp → VK → Prop := fun xs H Q => ∃ (a C : Addr) (fs : List (Str × V)) (c : V) (u : Value) (b : Bool), xs = [.ref a, c] ∧ XA H a C fs ∧ ExcC K C ∧ ClsV c u ∧ PySem.W.kitOne K (.ref C) u = some b ∧ Q (.bl b) H
theorem call_isX : CallR X (.builtin "isinstance") (rIsX X.K) := by
  intro pins s σ H xs us Q I r h
  obtain ⟨a, D, fs, c, u, b, rfl, ⟨d, ha, hd⟩, C, k, e, q⟩ := h
  obtain ⟨u1, u2, rfl, r1, r2⟩ := vals2 r
  have e2 := k.eq r2
  subst e2
  obtain rfl : u1 = Value.ref a := r1
  obtain ⟨t1, ho⟩ := exo_at I.hok ha
  obtain ⟨mA, hns, rel⟩ := exd_at I.hok hd
  obtain ⟨od, hod, hl⟩ := lookIn_ns hns
  have J : PySem.W.InstAt s.heap a { cls := .ref D, dict := some d, data := .fields #[.ref t1, .none, .none, .none, .bool false, .none] } D (some od) := ⟨ho, rfl, rfl, hod⟩
  have hcl : (PySem.W.clsIn X.K D).isSome = true := by
    obtain ⟨cd, hc, _⟩ := PySem.W.any_some C.hd
    rw [hc]
    rfl
  exact PySem.W.kia_one (PySem.W.kitx_exc hcl C.hg C.hk C.hs C.ha C.hn C.ht C.hm) I.kIn J e (fun z => nomatch z) fun tk => ⟨.bl b, H, I.kept (t' := tk) fun _ _ z => z, rfl, q⟩
end
/-! ### repr of data -/
/-- what repr may be asked of -/
def Okd (d : PyData) : Prop := d.showable = true ∧ d.hasDict = false ∧ d.depth ≤ 32 ∧ d.shown.length ≤ 1000000
def rRepr (K : PySem.W.Frag) : List V → Hp → VK → Prop := fun xs H Q => ∃ x d, xs = [x] ∧ Dp K H x d ∧ isDisplay d = true ∧ Okd d ∧ Q (.str d.shown) H
section
variable {X : Cx}
theorem call_repr (hg : X.A.guards = some []) (hu : X.A.units + 64 < cLine) : CallR X (.builtin "repr") (rRepr X.K) := by
  intro pins s σ H xs us Q I r h
  obtain ⟨x, d, rfl, hd, hdis, ⟨h1, h2, h3, h4⟩, q⟩ := h
  obtain ⟨u, rfl, ru⟩ := vals1 r
  obtain ⟨as, hr⟩ := Dp.reads I d x u hd ru
  obtain ⟨a, rfl⟩ := isRef_of_reads hr hdis
  exact repr_of_reads' hr h1 (PyData.noDict_hsm h2) hg (by omega) (fun _ _ e => e) (fun h' u tk hk => ⟨.str d.shown, H, I.kept (t' := tk) hk, ⟨u, rfl⟩, q⟩) (by rw [sizeLine_eq]; omega)
end
end Ek

namespace Ek
open PySem PySem.Spec PyProof.Rows L2
/-! ### promises of defs that are called while nothing is being shown (so that repr may be asked) -/
structure FnG (P : Program) (w : World) (K : PySem.W.Frag) (mg : Str → Option Value) (base : Heap) (CX : CXT) (k : Nat) (f : Addr) (fd : FuncData) (ps : List Str) (sp : Sp) : Prop where
  len : ∀ vs H Q E, sp vs H Q E → vs.length = ps.length
  run : ∀ (A : Around) (outer : List Env) (s : Shared) (H : Hp) (args : Args) (us : List Value) (vs : List V) (Q : VK) (E : XK), Room k A → A.guards = some [] → Env0 P w K mg base A outer s H →
    BindsTo s fd args (ps.zip us) → Vals vs us → sp vs H Q E → codeAny (model P w) A (.call (.ref f) args) (CR CX outer P w H s Q E) s
section
variable {P : Program} {w : World} {K : PySem.W.Frag} {mg : Str → Option Value} {base : Heap} {CX : CXT} {k : Nat} {f : Addr} {fd : FuncData} {ps : List Str} {sp : Sp}
theorem FnG.mono {j : Nat} (F : FnG P w K mg base CX j f fd ps sp) (h : j ≤ k) : FnG P w K mg base CX k f fd ps sp := ⟨F.len, fun A outer s H args us vs Q E hr => F.run A outer s H args us vs Q E (hr.mono h)⟩
/-- a def by its body -/
theorem okGX {x qual : Str} {st : Stmt} {N : List Str} (F : Fun K x qual st f fd) (S : FnScope N ps (defScope st)) (len : ∀ vs H Q E, sp vs H Q E → vs.length = ps.length)
    (body : ∀ (cdv : Value) (A : Around) (outer : List Env) (s : Shared) (H : Hp) (vs : List V) (Q : VK) (E : XK), Room k (A.deeper (envOfC qual (defScope st) s.heap.objs.size f cdv)) → A.guards = some [] → sp vs H Q E →
      ∃ t, PSs (cxOf CX P w K mg base N qual (defScope st) f cdv A outer s H E) (defBody st) t ∧ t { nx := fun _ H' => Q .non H', rt := Q } (start N vs) H) : FnG P w K mg base CX (k + 1) f fd ps sp := by
  obtain ⟨oc, od, kV, doc, pm, an, cdv, ct, osl, rfl, lk, hcd⟩ := F.ex
  constructor
  · exact len
  intro A outer s H args us vs Q E hr gd e0 hb r hsp
  have KX : K.In s.heap := e0.mod.kin.keeps fun b o e => (e0.bs b o e).1
  have kd : ∀ y ∈ ps.zip us, (defScope st).names.lookup y.1 = some .local ∨ ((defScope st).names.lookup y.1 = some .cell ∧ ((cellsFrom (s.heap.objs.size + 1) (defScope st).names []).lookup y.1).isSome = true) := by
    rintro ⟨n, v⟩ hy
    exact (S.par n (List.of_mem_zip hy).1).imp id fun q => ⟨q, PySem.W.cellsFrom_some _ _ _ (.inl q)⟩
  refine codeAny_call_function hr.depth (KX _ _ lk) rfl S.co S.gen rfl (PySem.W.codeRec_of KX hcd) (hb _ _ _ _ (wpAny_newFunctionEnv_cells S.kind kd fun env he s1 x => ?_))
  subst he
  obtain ⟨t, ht, hq⟩ := body cdv A outer s H vs Q E (hr.deeper _) gd hsp
  refine ⟨(e0.mod.nolimit.keeps fun b o e => (e0.bs b o e).1).keeps x.toInCall.keep, codeAny_func (wpAny_mono (ht.run [] s1 _ _ _ (inv_start S hr.hd e0 (len _ _ _ _ hsp) r x) hq) (fun fl s' hs => ?_) fun e s' hs => hs)⟩
  rcases fl with _ | _ | _ | u
  · obtain ⟨σ', H', J, q⟩ := hs
    exact ⟨V.non, H', J.os, J.bare, J.base, J.hok, rfl, q⟩
  · exact False.elim (by obtain ⟨_, _, _, q⟩ := hs; exact q)
  · exact False.elim (by obtain ⟨_, _, _, q⟩ := hs; exact q)
  · obtain ⟨v, σ', H', J, rv, q⟩ := hs
    exact ⟨v, H', J.os, J.bare, J.base, J.hok, rv, q⟩
theorem okG {x qual : Str} {st : Stmt} {N : List Str} (F : Fun K x qual st f fd) (S : FnScope N ps (defScope st)) (len : ∀ vs H Q E, sp vs H Q E → vs.length = ps.length)
    (body : ∀ (cdv : Value) (A : Around) (outer : List Env) (s : Shared) (H : Hp) (vs : List V) (Q : VK) (E : XK), Room k (A.deeper (envOfC qual (defScope st) s.heap.objs.size f cdv)) → A.guards = some [] → sp vs H Q E →
      ∃ t, PSs (cxOf CX0 P w K mg base N qual (defScope st) f cdv A outer s H E).nox (defBody st) t ∧ t { nx := fun _ H' => Q .non H', rt := Q } (start N vs) H) : FnG P w K mg base CX0 (k + 1) f fd ps sp :=
  okGX F S len fun cdv A outer s H vs Q E hr gd hsp => by
    obtain ⟨t, h, q⟩ := body cdv A outer s H vs Q E hr gd hsp
    exact ⟨t, h.nox, q⟩
end
section
variable {X : Cx} {CX : CXT} {x : Str} {f : Addr} {k : Nat} {fd : FuncData} {ps : List Str} {sp : Sp} {E : XK} {ds : List Value} {dvs : List V} {p pos : Pos} {e : Expr} {es : List Expr} {t : TA}
/-- f(e, ..) of such a def -/
theorem pe_callG (F : FnG X.prog X.w X.K X.mg X.base CX k f fd ps sp) (hr : Room k X.A) (gd : X.A.guards = some []) (hg : Gl X x) (hm : X.mg x = some (.ref f)) (hk : PySem.W.keepIn X.K (.ref f) = true) (hb : Binds X.K fd ps ds) (hd : Vals dvs ds) (hx : Passes CX X E) (ha : PA X (e :: es) t)
    (hdb : (x == ("__debug__" : Str)) = false := by decide) (he : starEach (e :: es) X.env = (false, eval e X.env) :: starEach es X.env := by rfl) (hpl : (backTo pos (starEach es X.env)).any (·.1) = false := by rfl) : PE X (.Call (.Name x p) (e :: es) [] pos) (tCall sp dvs E t) := by
  constructor
  intro pins s σ H Q I h
  refine wpAny_Call_Name_kw (ld_glob I hg hm (PySem.W.callWith_K (h₀ := X.base) I.ok.mod.kin hk (thn (ha.run pos pins s σ H _ I h) fun us s1 ⟨vs, H1, I1, r, q⟩ => ⟨I1.kIn, ?_⟩) he hpl) hdb)
  have r2 := r.append hd
  have hl : (us ++ ds).length = ps.length := r2.length.symm.trans (F.len _ _ _ _ q)
  refine wpAny_call (codeAny_mono (F.run X.A X.stack s1 H1 ⟨us, []⟩ (us ++ ds) (vs ++ dvs) Q E hr gd I1.env0 (hb s1 us I1.kIn hl) r2 q) fun r s' z => ?_)
  rcases r with er | (_ | _ | _ | u)
  · exact hx pins σ H1 s1 er s' I1 z
  · exact False.elim z
  · exact False.elim z
  · exact False.elim z
  · exact I1.after z
/-- less asked, the same said -/
theorem imp {e : Expr} {te te' : TE} (h : PE X e te) (i : ∀ σ H Q, te' σ H Q → te σ H Q) : PE X e te' := ⟨fun pins s σ H Q I q => h.run pins s σ H Q I (i σ H Q q)⟩
end
/-! ### the law's call -/
theorem law_callG {P : Program} {w : World} {K : PySem.W.Frag} {mg mb : Str → Option Value} {k : Nat} {fa a : Addr} {fd : FuncData} {x : Str} {sp : Sp} {s : Shared} {vs : List Value} {ns : List Int} (KX : K.In s.heap) (gl : s.heap.Ns mainGlobals mg) (bl : s.heap.Ns builtinsNs mb)
    (bb : ∀ x : Str, x ≠ "__name__" → mb x = bootBuiltins x) (lim : s.heap.NoLimit) (hg : s.gens = #[]) (ha : s.heap.get? a = some { cls := .type "list", data := .seq vs.toArray }) (hi : IntsAre vs ns) (hl : ns.length ≤ sizeLine) (hr : Room k callerA)
    (F : ∀ base : Heap, K.In base → base.Ns mainGlobals mg → FnG P w K mg base CX0 k fa fd [x] sp) (hb : ∀ (s : Shared) (u : Value), BindsTo s fd ⟨[u], []⟩ [(x, u)])
    (hsp : ∀ H : Hp, Only H → SqL K H a (ns.map V.int) → sp [.ref a] H (fun v _ => v = .bl true) fun _ _ _ => False) :
    codeAny (model P w) callerA (.call (.ref fa) ⟨[.ref a], []⟩) (fun r s' => r = .ok (.ret (.bool true)) ∧ OldK s.heap s'.heap ∧ s'.os = s.os ∧ AllBare s'.gens) s := by
  have core : ∀ H : Hp, Only H → SqL K H a (ns.map V.int) → HOk P w H s.heap → (∀ b u, H b = some u → b = a ∧ K.lookup a = none) →
      codeAny (model P w) callerA (.call (.ref fa) ⟨[.ref a], []⟩) (fun r s' => r = .ok (.ret (.bool true)) ∧ OldK s.heap s'.heap ∧ s'.os = s.os ∧ AllBare s'.gens) s := fun H hO hS ok one => by
    have free : ∀ b, b ≠ a → H b = none := fun b hb => by
      cases q : H b with
      | none => rfl
      | some u => exact absurd (one b u q).1 hb
    have dct : ∀ {b : Addr} {o : Obj} {es : Array DictEntry} {ep : Nat}, s.heap.get? b = some o → o.data = .dict es ep → H b = none := fun {b o es ep} e d => free b fun z => by
      rw [z, ha] at e
      cases e
      exact nomatch d
    have nsK : ∀ {b : Addr} {m : Str → Option Value}, s.heap.Ns b m → (hidT s.heap H).Ns b m := fun {b m} ⟨o, es, ep, e, d, r⟩ => ⟨o, es, ep, hidT_get e (dct e d), d, r⟩
    have kb : K.In (hidT s.heap H) := fun b o e => hidT_get (KX b o e) (by
      cases q : H b with
      | none => rfl
      | some u =>
        obtain ⟨rfl, z⟩ := one b u q
        rw [z] at e
        exact nomatch e)
    have md : Mod K mg (hidT s.heap H) := ⟨kb, nsK gl, ⟨mb, nsK bl, bb⟩, by obtain ⟨mc, h1, h2⟩ := lim; exact ⟨mc, nsK h1, h2⟩⟩
    have e0 : Env0 P w K mg (hidT s.heap H) callerA [] s H := ⟨rfl, md, fun b o e => of_hidT e, Nat.le_of_eq (hidT_size _ _), trivial, (fun b hb => by have z : b ∈ ([] : List Addr) := hb; cases z), ok, .of_eq hg⟩
    refine codeAny_mono ((F _ kb (nsK gl)).run callerA [] s H ⟨[.ref a], []⟩ [.ref a] [.ref a] _ _ hr rfl e0 (hb s (.ref a)) (.cons rfl .nil) (hsp H hO hS)) fun r s' h => ?_
    rcases r with e | (_ | _ | _ | u)
    · exact False.elim h
    · exact False.elim h
    · exact False.elim h
    · exact False.elim h
    · obtain ⟨v, H', os, bare, un, ok', r', q⟩ := h
      obtain rfl : v = .bl true := q
      obtain rfl : u = Value.bool true := r'
      refine ⟨rfl, OldK.of_keep fun b o e => ?_, os, bare⟩
      cases q : H b with
      | none => exact un.keep b o e q (by intro z; have z' : b ∈ ([] : List Addr) := z; cases z') (by simp)
      | some u =>
        rcases hO b with z | ⟨ob, xs, z⟩
        · rw [q] at z
          cases z
        · obtain ⟨e1, _⟩ := ok b _ z
          obtain ⟨e2, _⟩ := ok' b _ (un.frzs b ob _ z)
          rw [← e1, e] at *
          exact e2
  cases hk : K.lookup a with
  | some o =>
    have e := KX a o hk
    rw [ha] at e
    cases e
    exact core (fun _ => none) (fun _ => .inl rfl) (.inr ⟨_, vs.toArray, _, hk, rfl, rfl, rfl, by rw [List.size_toArray, hi.length]; exact hl, by simpa using vals_ints hi⟩) (fun b u z => nomatch (show (none : Option HO) = some u from z)) fun b u z => nomatch (show (none : Option HO) = some u from z)
  | none =>
    have pos : ∀ {b : Addr} {u : HO}, (if b = a then some (HO.frz { cls := .type "list", data := .seq vs.toArray } (.lst (ns.map V.int))) else none) = some u → b = a ∧ HO.frz { cls := .type "list", data := .seq vs.toArray } (.lst (ns.map V.int)) = u := fun {b u} z => by
      by_cases hb : b = a
      · rw [if_pos hb] at z
        exact ⟨hb, Option.some.inj z⟩
      · rw [if_neg hb] at z
        cases z
    refine core (fun b => if b = a then some (.frz { cls := .type "list", data := .seq vs.toArray } (.lst (ns.map V.int))) else none) (fun b => ?_) (.inl (.inr ⟨_, if_pos rfl⟩)) (fun b u z => ?_) fun b u z => ⟨(pos z).1, hk⟩
    · by_cases hb : b = a
      · exact .inr ⟨_, _, if_pos hb⟩
      · exact .inl (if_neg hb)
    · obtain ⟨rfl, rfl⟩ := pos z
      exact ⟨ha, by rw [List.length_map]; exact hl, vs, _, vals_ints hi, ha⟩
theorem walk_ofG {l : PySem.W.OpenLaw} {n k : Nat} {q : Program} {loose : List Str} {XP : (Str → Option Value) → Heap → Prop} {YP : World → Heap → Prop} {d : DefRec} {K : Params → PySem.W.Frag} {sp : PySem.W.Frag → Sp} {x : Str} (hn : l.most = some n) (hn2 : n ≤ sizeLine) (hdf : d.params.defaults = [])
    (hr : Room k callerA) (hY : ∀ (w : World) (h : Heap), YP w h → (K w.params).In h)
    (F : ∀ (w : World) (mg : Str → Option Value) (fa : Addr) (h : Heap), (K w.params).In h → h.Ns mainGlobals mg → mg d.name = some (.ref fa) → ∃ fd : FuncData, (∀ (s : Shared) (u : Value), BindsTo s fd ⟨[u], []⟩ [(x, u)]) ∧
      ∀ base : Heap, (K w.params).In base → base.Ns mainGlobals mg → FnG l.prog w (K w.params) mg base CX0 k fa fd [x] (sp (K w.params)))
    (hsp : ∀ (K : PySem.W.Frag) (H : Hp) (a : Addr) (ns : List Int), ns.length ≤ n → Only H → SqL K H a (ns.map V.int) → sp K [.ref a] H (fun v _ => v = .bl true) fun _ _ _ => False) : PySem.W.WalkO q loose XP YP l.row.toRowW d [] (fun f vs => PySem.call f vs) := by
  refine Att.attach_call hn hdf fun w s₀ s₁ mg mb fa o pm cd doc a vs ns G Y ho hd hcd hmg hobj hints hlen hg => ?_
  obtain ⟨fd, hb, hF⟩ := F w mg fa _ (hY w _ Y) G.T.g hmg
  exact law_callG (hY w _ Y) G.T.g G.T.b G.T.builtins G.T.nolimit hg hobj hints (Nat.le_trans hlen hn2) hr hF hb fun H hO hS => hsp _ H a ns hlen hO hS
end Ek

namespace Ek
open PySem PySem.Spec PyProof.Rows L2
/-! ### heaps and places -/
theorem at_z {α : Type} {xs : List α} {z : Int} {j : Nat} {v : α} (e : z = (j : Int)) (h : xs[j]? = some v) : atI xs z = some v := by
  rw [e]
  exact atI_nat h
theorem ix_z {n : Nat} {z : Int} {j : Nat} (e : z = (j : Int)) (h : j < n) : ixN n z = some j := by
  unfold ixN
  rw [e, if_pos (by omega), if_pos (by omega)]
  simp
theorem in64 {x n : Int} (hn : 0 < n ∧ n < 2147483648) : -(2 ^ 64) < x % n ∧ x % n < 2 ^ 64 := by
  have a := Int.emod_nonneg x (show n ≠ 0 by omega)
  have b := Int.emod_lt_of_pos x hn.1
  constructor
  · exact Int.lt_of_lt_of_le (by decide) a
  · exact Int.lt_trans (Int.lt_trans b hn.2) (by decide)
theorem same_upd {H : Hp} {p : Addr} {o : HO} (h : H p = none) : Same H (upd H p o) := fun b x e => by
  rw [upd_ne (ne_of_none e h)]
  exact e
theorem sl {K : PySem.W.Frag} {H : Hp} {a : Addr} {xs : List V} (h : H a = some (.lst xs)) : SqL K H a xs := .inl (.inl h)
theorem tl {K : PySem.W.Frag} {H : Hp} {a : Addr} {xs : List V} (h : H a = some (.tup xs)) : SqT K H a xs := .inl (.inl h)
/-- all but the hand is as it was -/
def Kp (h : Addr) (H H' : Hp) : Prop := ∀ b o, b ≠ h → H b = some o → H' b = some o
theorem Kp.refl {h : Addr} {H : Hp} : Kp h H H := fun _ _ _ e => e
theorem Kp.trans {h : Addr} {H H1 H2 : Hp} (a : Kp h H H1) (b : Kp h H1 H2) : Kp h H H2 := fun c o n e => b c o n (a c o n e)
theorem Kp.of {h : Addr} {H H1 : Hp} (a : Same H H1) : Kp h H H1 := fun c o _ e => a c o e
/-- the hand: a list of the drawn numbers and the place of the next -/
def Hd (H : Hp) (h : Addr) : Prop := ∃ (d : Addr) (ds : List Int) (t : Nat), H h = some (.lst [.ref d, .int (t : Int)]) ∧ H d = some (.lst (ds.map V.int)) ∧ d ≠ h ∧ ∀ x ∈ ds, 0 ≤ x
theorem Hd.same {H H' : Hp} {h : Addr} (s : Same H H') (x : Hd H h) : Hd H' h := by
  obtain ⟨d, ds, t, h1, h2, n, p⟩ := x
  exact ⟨d, ds, t, s _ _ h1, s _ _ h2, n, p⟩
theorem Hd.ne {H : Hp} {h b : Addr} (x : Hd H h) (e : H b = none) : b ≠ h := fun z => by
  obtain ⟨d, ds, t, h1, _⟩ := x
  rw [z, h1] at e
  cases e
theorem Hd.ns {H : Hp} {h b : Addr} {o : HO} (x : Hd H h) (e : H b = some o) (n : ∀ d t, o ≠ .lst [.ref d, .int t]) : b ≠ h := fun z => by
  obtain ⟨d, ds, t, h1, _⟩ := x
  rw [z, h1] at e
  exact n _ _ (Option.some.inj e).symm
/-! ### what a display of exceptions leaves -/
theorem XA.mono {H H' : Hp} {a C : Addr} {fs : List (Str × V)} (s : Same H H') (x : XA H a C fs) : XA H' a C fs := by
  obtain ⟨d, h1, h2⟩ := x
  exact ⟨d, s _ _ h1, s _ _ h2⟩
/-- exceptions at es, of these classes, with these fields -/
abbrev XAs (H : Hp) (es : List Addr) (cfs : List (Addr × List (Str × V))) : Prop := Paired (fun e (cf : Addr × List (Str × V)) => XA H e cf.1 cf.2) es cfs
theorem XAs.mono {H H' : Hp} {es : List Addr} {cfs : List (Addr × List (Str × V))} (s : Same H H') (x : XAs H es cfs) : XAs H' es cfs := by
  induction x with
  | nil => exact .nil
  | cons a _ ih => exact .cons (XA.mono s a) ih
theorem paired_app {α β : Type} {F : α → β → Prop} {a c : List α} {b d : List β} (x : Paired F a b) (y : Paired F c d) : Paired F (a ++ c) (b ++ d) := by
  induction x with
  | nil => exact y
  | cons h _ ih => exact .cons h ih
theorem paired_get {α β : Type} {F : α → β → Prop} {a : List α} {b : List β} (x : Paired F a b) : ∀ {i : Nat} {z : β}, b[i]? = some z → ∃ y, a[i]? = some y ∧ F y z := by
  induction x with
  | nil => intro i z h; simp at h
  | cons p _ ih =>
    intro i z h
    cases i with
    | zero => exact ⟨_, rfl, by cases h; exact p⟩
    | succ i => exact ih (by simpa using h)
theorem paired_len {α β : Type} {F : α → β → Prop} {a : List α} {b : List β} (x : Paired F a b) : a.length = b.length := by
  induction x with
  | nil => rfl
  | cons _ _ ih => rw [List.length_cons, List.length_cons, ih]
/-- what the __init__ of such a class leaves -/
def spX1 (K : PySem.W.Frag) (f : Str) : Sp := fun vs H Q _ => ∃ (a C : Addr) (y : V), vs = [.ref a, y] ∧ OexC K C ∧ PySem.W.findIn K (.ref C) f = some none ∧ H a = some (exo a C none) ∧ ∀ H', (∀ b o, b ≠ a → H b = some o → H' b = some o) → XA H' a C [(f, y)] → Q .non H'
def spX2 (K : PySem.W.Frag) (f g : Str) : Sp := fun vs H Q _ => ∃ (a C : Addr) (y z : V), vs = [.ref a, y, z] ∧ OexC K C ∧ PySem.W.findIn K (.ref C) f = some none ∧ PySem.W.findIn K (.ref C) g = some none ∧ H a = some (exo a C none) ∧
  ∀ H', (∀ b o, b ≠ a → H b = some o → H' b = some o) → XA H' a C [(g, z), (f, y)] → Q .non H'
theorem x1_end {H : Hp} {a C d : Addr} {f : Str} {y : V} (nd : H d = none) (ne : d ≠ a) :
    (∀ b o, b ≠ a → H b = some o → (upd (upd H d (exd d [(f, y)])) a (exo a C (some d))) b = some o) ∧ XA (upd (upd H d (exd d [(f, y)])) a (exo a C (some d))) a C [(f, y)] := by
  refine ⟨fun b o n e => ?_, d, upd_same, ?_⟩
  · rw [upd_ne n, upd_ne (ne_of_none e nd)]
    exact e
  · rw [upd_ne ne, upd_same]
theorem x2_end {H : Hp} {a C d : Addr} {f g : Str} {y z : V} (nd : H d = none) (ne : d ≠ a) :
    (∀ b o, b ≠ a → H b = some o → (upd (upd (upd H d (exd d [(f, y)])) a (exo a C (some d))) d (exd d [(g, z), (f, y)])) b = some o) ∧ XA (upd (upd (upd H d (exd d [(f, y)])) a (exo a C (some d))) d (exd d [(g, z), (f, y)])) a C [(g, z), (f, y)] := by
  refine ⟨fun b o n e => ?_, d, ?_, upd_same⟩
  · rw [upd_ne (ne_of_none e nd), upd_ne n, upd_ne (ne_of_none e nd)]
    exact e
  · rw [upd_ne ne.symm, upd_same]
/-- arguments that are values whatever the heap -/
def EvV (ta : TA) (σ : L2.St) (vs : List V) : Prop := ∀ (H : Hp) (Q : List V → Hp → Prop), Q vs H → ta σ H Q
theorem evv_nil {σ : L2.St} : EvV tNil σ [] := fun _ _ q => q
theorem evv_c {σ : L2.St} {v : V} {ta : TA} {vs : List V} (h : EvV ta σ vs) : EvV (tCons (tC v) ta) σ (v :: vs) := fun H Q q => h H _ q
theorem evv_v {σ : L2.St} {i : Nat} {v : V} {ta : TA} {vs : List V} (e : σ[i]? = some (some v)) (h : EvV ta σ vs) : EvV (tCons (tVar i) ta) σ (v :: vs) := fun H Q q => ⟨v, e, h H _ q⟩
def EvX (ta : TA) (σ : L2.St) (cfs : List (Addr × List (Str × V))) : Prop := ∀ (H : Hp) (Q : List V → Hp → Prop), (∀ (es : List Addr) (H2 : Hp), Same H H2 → XAs H2 es cfs → Q (es.map V.ref) H2) → ta σ H Q
theorem evx_nil {σ : L2.St} : EvX tNil σ [] := fun H Q q => q [] H (Same.refl H) .nil
theorem evx_1 {K : PySem.W.Frag} {σ : L2.St} {C : Addr} {f : Str} {y : V} {ta tr : TA} {cfs : List (Addr × List (Str × V))} (T : OexC K C) (n : PySem.W.findIn K (.ref C) f = some none) (h : EvV ta σ [y]) (hr : EvX tr σ cfs) : EvX (tCons (tEx C (spX1 K f) ta) tr) σ ((C, [(f, y)]) :: cfs) := fun H Q q =>
  h H _ ⟨by show 1 ≤ 1000; decide, fun a na => ⟨a, C, y, rfl, T, n, upd_same, fun H' k xa => ⟨rfl, hr H' _ fun es H2 s p => q (a :: es) H2 (fun b o e => s b o (k b o (ne_of_none e na) (by rw [upd_ne (ne_of_none e na)]; exact e))) (.cons (XA.mono s xa) p)⟩⟩⟩
theorem evx_2 {K : PySem.W.Frag} {σ : L2.St} {C : Addr} {f g : Str} {y z : V} {ta tr : TA} {cfs : List (Addr × List (Str × V))} (T : OexC K C) (n : PySem.W.findIn K (.ref C) f = some none) (n2 : PySem.W.findIn K (.ref C) g = some none) (h : EvV ta σ [y, z]) (hr : EvX tr σ cfs) :
    EvX (tCons (tEx C (spX2 K f g) ta) tr) σ ((C, [(g, z), (f, y)]) :: cfs) := fun H Q q =>
  h H _ ⟨by show 2 ≤ 1000; decide, fun a na => ⟨a, C, y, z, rfl, T, n, n2, upd_same, fun H' k xa => ⟨rfl, hr H' _ fun es H2 s p => q (a :: es) H2 (fun b o e => s b o (k b o (ne_of_none e na) (by rw [upd_ne (ne_of_none e na)]; exact e))) (.cons (XA.mono s xa) p)⟩⟩⟩
/-- [X(..), ..] -/
theorem st_list {σ : L2.St} {H : Hp} {ta : TA} {cfs : List (Addr × List (Str × V))} {Q : VK} (ev : EvX ta σ cfs) (hz : cfs.length ≤ 1000) (k : ∀ L es H', H L = none → Same H H' → H' L = some (.lst (es.map V.ref)) → XAs H' es cfs → Q (.ref L) H') : tLst ta σ H Q :=
  ev H _ fun es H2 s p => ⟨by rw [List.length_map, paired_len p]; exact Nat.le_of_lt (small1000 hz), fun L nL => k L es _ (s.free nL) (s.trans (same_upd nL)) upd_same (XAs.mono (same_upd nL) p)⟩
/-- found + [X(..), ..] -/
theorem st_more {σ : L2.St} {H : Hp} {i : Nat} {L : Addr} {es : List Addr} {ta : TA} {cfs old : List (Addr × List (Str × V))} {Q : VK} (ev : EvX ta σ cfs) (hσ : σ[i]? = some (some (.ref L))) (hL : H L = some (.lst (es.map V.ref))) (ho : XAs H es old) (hz : old.length + cfs.length ≤ 1000)
    (k : ∀ L' es' H', H L' = none → Same H H' → H' L' = some (.lst (es'.map V.ref)) → XAs H' es' (old ++ cfs) → Q (.ref L') H') : tOp rCat (tVar i) (tLst ta) σ H Q :=
  ⟨.ref L, hσ, st_list ev (by omega) fun L2 es2 H2 n2 s2 h2 p2 => ⟨L, L2, _, _, rfl, rfl, s2 _ _ hL, h2, by rw [List.length_map, List.length_map, paired_len p2, paired_len ho]; exact Nat.le_of_lt (small1000 hz), fun p np =>
    k p (es ++ es2) _ (s2.free np) (s2.trans (same_upd np)) (by rw [upd_same, List.map_append]) (XAs.mono (same_upd np) (paired_app (XAs.mono s2 ho) p2))⟩⟩
/-! ### statements, one by one -/
section
variable {D : Ends} {σ : L2.St} {H : Hp} {a b : TS} {te : TE} {g : TG} {i : Nat}
theorem q_seq (h : a { D with nx := fun s h => b D s h } σ H) : tSeq a b D σ H := h
theorem q_set (h : te σ H fun v H1 => D.nx (σ.set i (some v)) H1) : tAsg te (gName i) D σ H := h
theorem q_setc {v : V} (h : D.nx (σ.set i (some v)) H) : tAsg (tC v) (gName i) D σ H := h
theorem q_next (h : D.nx σ H) : tNext D σ H := h
theorem q_if {t : TT} {c : TS} (h : t σ H fun b H1 => if b = true then a D σ H1 else c D σ H1) : tIfS t a c D σ H := h
theorem q_ret (h : te σ H D.rt) : tRet te D σ H := h
end
/-! ### data that may be shown: at most n signs, at most k deep -/
structure Sm (n k : Nat) (d : PyData) : Prop where
  s : d.showable = true
  h : d.hasDict = false
  l : d.depth ≤ k
  z : d.shown.length ≤ n
theorem Sm.mono {n k n' k' : Nat} {d : PyData} (x : Sm n k d) (h1 : n ≤ n') (h2 : k ≤ k') : Sm n' k' d := ⟨x.s, x.h, Nat.le_trans x.l h2, Nat.le_trans x.z h1⟩
theorem Sm.okd {n k : Nat} {d : PyData} (x : Sm n k d) (h1 : n ≤ 1000000) (h2 : k ≤ 32) : Okd d := ⟨x.s, x.h, Nat.le_trans x.l h2, Nat.le_trans x.z h1⟩
theorem Sm.all {n k : Nat} : ∀ {ds : List PyData}, (∀ d ∈ ds, Sm n k d) → PyData.showableAll ds = true ∧ PyData.hasDictAll ds = false ∧ PyData.depthAll ds ≤ k ∧ ((PyData.shownAll ds).map (·.length)).sum ≤ ds.length * n ∧ (PyData.shownAll ds).length = ds.length
  | [], _ => ⟨by simp only [PyData.showableAll], by simp only [PyData.hasDictAll], by simp only [PyData.depthAll]; exact Nat.zero_le _, by simp [PyData.shownAll], by simp [PyData.shownAll]⟩
  | x :: xs, h => by
    obtain ⟨h1, h2, h3, h4⟩ := h x List.mem_cons_self
    obtain ⟨a, b, c, e, l⟩ := Sm.all (ds := xs) fun d m => h d (List.mem_cons_of_mem _ m)
    refine ⟨by simp only [PyData.showableAll, h1, a, Bool.and_self], by simp only [PyData.hasDictAll, h2, b, Bool.or_self], by simp only [PyData.depthAll]; omega, ?_, by simp only [PyData.shownAll, List.length_cons, l]⟩
    simp only [PyData.shownAll, List.map_cons, List.sum_cons, List.length_cons, Nat.succ_mul]
    omega
theorem Sm.list {n k : Nat} {ds : List PyData} (h : ∀ d ∈ ds, Sm n k d) : Sm (ds.length * n + 2 * ds.length + 3) (k + 1) (.list ds) := by
  obtain ⟨a, b, c, e, l⟩ := Sm.all h
  refine ⟨by simp only [PyData.showable, a], by simp only [PyData.hasDict, b], by simp only [PyData.depth]; omega, ?_⟩
  have z := listText_len_le (PyData.shownAll ds)
  simp only [PyData.shown]
  omega
theorem Sm.tuple {n k : Nat} {ds : List PyData} (h : ∀ d ∈ ds, Sm n k d) : Sm (ds.length * n + 2 * ds.length + 3) (k + 1) (.tuple ds) := by
  obtain ⟨a, b, c, e, l⟩ := Sm.all h
  refine ⟨by simp only [PyData.showable, a], by simp only [PyData.hasDict, b], by simp only [PyData.depth]; omega, ?_⟩
  have z := tupleText_len_le (PyData.shownAll ds)
  simp only [PyData.shown]
  omega
theorem Sm.int {i : Int} (h : i.natAbs < 10 ^ 12) : Sm 13 0 (.int i) := by
  refine ⟨?_, by simp only [PyData.hasDict], by simp only [PyData.depth]; exact Nat.le_refl _, PyData.shown_int_le h⟩
  simp only [PyData.showable, decide_eq_true_eq]
  by_cases z : i.natAbs = 0
  · rw [z]
    decide
  · exact Nat.lt_trans ((Nat.log2_lt z).mpr (Nat.lt_trans h (by decide : 10 ^ 12 < 2 ^ 40))) (by decide)
theorem DpAll.rep {K : PySem.W.Frag} {H : Hp} {v : V} {d : PyData} (h : Dp K H v d) : ∀ n : Nat, DpAll K H (List.replicate n v) (List.replicate n d)
  | 0 => .nil
  | n + 1 => .cons h (DpAll.rep h n)
mutual
theorem Dp.same {K : PySem.W.Frag} {H H' : Hp} (s : Same H H') : ∀ {v : V} {d : PyData}, Dp K H v d → Dp K H' v d
  | _, _, .non => .non
  | _, _, .bl b => .bl b
  | _, _, .int i => .int i
  | _, _, .str x => .str x
  | _, _, .lst h a => .lst (s.seq h) (DpAll.same s a)
  | _, _, .tup h a => .tup (by
      rcases h with (h | ⟨o, h⟩) | h
      · exact .inl (.inl (s _ _ h))
      · exact .inl (.inr ⟨o, s _ _ h⟩)
      · exact .inr h) (DpAll.same s a)
theorem DpAll.same {K : PySem.W.Frag} {H H' : Hp} (s : Same H H') : ∀ {vs : List V} {ds : List PyData}, DpAll K H vs ds → DpAll K H' vs ds
  | _, _, .nil => .nil
  | _, _, .cons h a => .cons (Dp.same s h) (DpAll.same s a)
end
/-- data that the hand is no part of -/
def Dps (K : PySem.W.Frag) (h : Addr) (H : Hp) (v : V) (d : PyData) : Prop := ∀ H', Kp h H H' → Dp K H' v d
theorem Dps.kp {K : PySem.W.Frag} {h : Addr} {H H' : Hp} {v : V} {d : PyData} (x : Dps K h H v d) (k : Kp h H H') : Dps K h H' v d := fun H2 k2 => x H2 (k.trans k2)
theorem Dps.now {K : PySem.W.Frag} {h : Addr} {H : Hp} {v : V} {d : PyData} (x : Dps K h H v d) : Dp K H v d := x H Kp.refl
/-! ### own exception classes, one and two fields -/
structure Cl1 (P : Program) (w : World) (K : PySem.W.Frag) (mg : Str → Option Value) (base : Heap) (x f : Str) (C : Addr) : Prop where
  g : mg x = some (.ref C)
  o : OexC K C
  xf : XfC K C
  xe : ExcC K C
  no : PySem.W.findIn K (.ref C) f = some none
  made : ∃ fI fd, PySem.W.findIn K (.ref C) "__init__" = some (some (.ref fI)) ∧ PySem.W.typeIn K (.ref fI) = some (.type "function") ∧ FnOk P w K mg base CX0 1 fI fd ["self", f] (spX1 K f) ∧ Binds K fd ["self", f] [] ∧
    ∀ (s : Shared) (self : Value) (ws : List Value), ws.length = [f].length → BindsTo s fd ⟨[self], [f].zip ws⟩ ((["self", f] : List Str).zip (self :: ws))
structure Cl2 (P : Program) (w : World) (K : PySem.W.Frag) (mg : Str → Option Value) (base : Heap) (x f g2 : Str) (C : Addr) : Prop where
  g : mg x = some (.ref C)
  o : OexC K C
  xf : XfC K C
  xe : ExcC K C
  no : PySem.W.findIn K (.ref C) f = some none
  no2 : PySem.W.findIn K (.ref C) g2 = some none
  made : ∃ fI fd, PySem.W.findIn K (.ref C) "__init__" = some (some (.ref fI)) ∧ PySem.W.typeIn K (.ref fI) = some (.type "function") ∧ FnOk P w K mg base CX0 1 fI fd ["self", f, g2] (spX2 K f g2) ∧ Binds K fd ["self", f, g2] [] ∧
    ∀ (s : Shared) (self : Value) (ws : List Value), ws.length = [f, g2].length → BindsTo s fd ⟨[self], [f, g2].zip ws⟩ ((["self", f, g2] : List Str).zip (self :: ws))
section
variable {X : Cx} {x f g2 : Str} {C : Addr} {p pos : Pos} {e : Expr} {es : List Expr} {kws : List Keyword} {ta : TA}
theorem pe_c1 (c : Cl1 X.prog X.w X.K X.mg X.base x f C) (hr : Room 2 X.A) (hg : Gl X x) (ha : PA X (e :: es) ta) (hdb : (x == ("__debug__" : Str)) = false := by decide) (he : starEach (e :: es) X.env = (false, eval e X.env) :: starEach es X.env := by rfl)
    (hpl : (backTo pos (starEach es X.env)).any (·.1) = false := by rfl) : PE X (.Call (.Name x p) (e :: es) [] pos) (tEx C (spX1 X.K f) ta) := by
  obtain ⟨fI, fd, i, t, F, b, _⟩ := c.made
  exact pe_ex c.o i t F hr hg c.g b pass0 ha hdb he hpl
theorem pe_k1 (c : Cl1 X.prog X.w X.K X.mg X.base x f C) (hr : Room 2 X.A) (hg : Gl X x) (hkw : PK X kws ta) (hall : (backToKw pos (keywordEach kws X.env)).all (·.1.isSome) = true := by rfl) (hks : (backToKw pos (keywordEach kws X.env)).filterMap (·.1) = [f] := by rfl)
    (hdb : (x == ("__debug__" : Str)) = false := by decide) (hpl : ((backTo pos (starEach [] X.env)).any (·.1) || (backToKw pos (keywordEach kws X.env)).any (·.1.isNone)) = false := by rfl) : PE X (.Call (.Name x p) [] kws pos) (tEx C (spX1 X.K f) ta) := by
  obtain ⟨fI, fd, i, t, F, _, b⟩ := c.made
  exact pe_exk (ks := [f]) c.o i t F hr hg c.g rfl b pass0 hkw hall hks hdb hpl
theorem pe_c2 (c : Cl2 X.prog X.w X.K X.mg X.base x f g2 C) (hr : Room 2 X.A) (hg : Gl X x) (ha : PA X (e :: es) ta) (hdb : (x == ("__debug__" : Str)) = false := by decide) (he : starEach (e :: es) X.env = (false, eval e X.env) :: starEach es X.env := by rfl)
    (hpl : (backTo pos (starEach es X.env)).any (·.1) = false := by rfl) : PE X (.Call (.Name x p) (e :: es) [] pos) (tEx C (spX2 X.K f g2) ta) := by
  obtain ⟨fI, fd, i, t, F, b, _⟩ := c.made
  exact pe_ex c.o i t F hr hg c.g b pass0 ha hdb he hpl
theorem pe_k2 (c : Cl2 X.prog X.w X.K X.mg X.base x f g2 C) (hr : Room 2 X.A) (hg : Gl X x) (hkw : PK X kws ta) (hall : (backToKw pos (keywordEach kws X.env)).all (·.1.isSome) = true := by rfl) (hks : (backToKw pos (keywordEach kws X.env)).filterMap (·.1) = [f, g2] := by rfl)
    (hdb : (x == ("__debug__" : Str)) = false := by decide) (hpl : ((backTo pos (starEach [] X.env)).any (·.1) || (backToKw pos (keywordEach kws X.env)).any (·.1.isNone)) = false := by rfl) : PE X (.Call (.Name x p) [] kws pos) (tEx C (spX2 X.K f g2) ta) := by
  obtain ⟨fI, fd, i, t, F, _, b⟩ := c.made
  exact pe_exk (ks := [f, g2]) c.o i t F hr hg c.g rfl b pass0 hkw hall hks hdb hpl
end
/-- e.f of an own exception, within a comprehension -/
theorem pe_xak {X : Cx} (K : PySem.W.Frag) {e : Expr} {te : TE} {n : Str} {pos : Pos} (hK : X.K = K) (he : PE X e te) (hb : attributeBase e n X.env (eval e X.env) = eval e X.env := by rfl) : PE X (.Attribute e n pos) (tXA K n te) := by
  subst hK
  exact pe_xa he hb
end Ek

namespace Ek
open PySem PySem.Spec PyProof.Rows L2
/-! ### min of a tuple of ints -/
section
variable {prog : Program} {w : World} {A : Around} {E : Value → Shared → Prop} {s : Shared} {l : Addr} {xs : Array (Int × Tok)}
theorem min_intTup {its : List Value} {ns : List Int} {Q : Value → Shared → Prop} (hh : A.handled = none) (hl : s.heap.IsTuple l its.toArray) (hi : IntsAre its ns) (hne : 0 < ns.length)
    (h : ∀ h' tk M t', (∀ b o, s.heap.get? b = some o → h'.get? b = some o) → M ∈ ns → (∀ a, a ∈ ns → M ≤ a) → Q (.int M t') { s with heap := h', toks := tk }) : wpAny (model prog w) A (call (.builtin "min") [.ref l]) Q E s := by
  obtain ⟨xs, e⟩ := hi.allInts.items
  have hn : numsOf (intItems xs).toList = ns := by rw [← e]; exact hi.numsOf
  rw [nums_intItems] at hn
  subst hn
  rw [e] at hl
  have sz : 0 < xs.size := by simpa using hne
  have hlt : l < s.heap.objs.size := by obtain ⟨_, z, _⟩ := hl; exact Heap.lt_size z
  refine call_min_walk (wpAny_pyIter_tuple hl ?_)
  refine ⟨_, _, _, _, _, _, _, rfl, Walks.tuple (A := A.in1) hh _ l (Nat.ne_of_lt hlt) (intItems xs), ⟨⟨_, Heap.get?_push_size _ rfl, rfl, rfl⟩, hl.push _⟩, (fun b hb => ?_), (by simpa [intItems] using sz), CmpOf.ints_lt (numAt xs) (fun _ _ => intItems_at), fun v h' tk hP hk => ?_⟩
  · show b < (s.heap.push _).objs.size
    rw [Heap.size_push]
    simp only [List.mem_cons, List.not_mem_nil, or_false] at hb
    rcases hb with rfl | rfl
    · exact Nat.lt_succ_self _
    · exact Nat.lt_succ_of_lt hlt
  · have hv : (intItems xs)[argBest (fun i j => decide (numAt xs i < numAt xs j)) (xs.size - 1)]? = some v := by simpa [intItems] using hP
    obtain ⟨t, rfl⟩ := intItems_at hv
    obtain ⟨h1, h2⟩ := argBest_lt (numAt xs) (xs.size - 1)
    refine h h' tk _ t (fun b o z => hk b o (fun hm => ?_) (Heap.get?_push_of_some _ z)) ?_ fun a ha => ?_
    · simp only [List.mem_cons, List.not_mem_nil, or_false] at hm
      exact absurd (hm ▸ Heap.lt_size z) (Nat.lt_irrefl _)
    · rw [numAt_eq]
      exact PySem.getD_mem (by rw [List.length_map, Array.length_toList]; omega)
    · obtain ⟨j, hj, rfl⟩ := mem_getD ha
      rw [List.length_map, Array.length_toList] at hj
      rw [← numAt_eq]
      exact h2 j (by omega)
end
def rMinT (K : PySem.W.Frag) : List V → Hp → VK → Prop := fun vs H Q => ∃ (a : Addr) (ns : List Int), vs = [V.ref a] ∧ SqT K H a (ns.map V.int) ∧ 0 < ns.length ∧ ∀ m, m ∈ ns → (∀ y, y ∈ ns → m ≤ y) → Q (.int m) H
/-- '0' times a size -/
def rRep0 : R2 := fun x y H Q => ∃ k : Nat, x = .str "0" ∧ y = .int (k : Int) ∧ ((k = 1 ∧ Q (.str "0") H) ∨ (k = 2 ∧ Q (.str "00") H) ∨ (k = 3 ∧ Q (.str "000") H))
section
variable {X : Cx}
theorem call_minT (hc : X.calm = true) : CallR X (.builtin "min") (rMinT X.K) := by
  intro pins s σ H vs us Q I r h
  obtain ⟨a, ns, rfl, hs, hne, q⟩ := h
  obtain ⟨its, rv, hl, _⟩ := I.tuple hs
  rw [Vals.ref1 r]
  exact min_intTup (I.ok.hd hc) hl rv.ints hne fun h' tk m t' hk h1 h2 => ⟨.int _, H, I.kept hk, ⟨_, rfl⟩, q m h1 h2⟩
/-- a == y by a's own ==; y of whatever type -/
def rOwnEq (K : PySem.W.Frag) (C : Addr) (sp : Sp) (E : XK) : R2 := fun x y H Q => ∃ (a dx : Addr) (fs : List (Str × V)) (t : Value), x = .ref a ∧ H a = some (.ins C dx fs) ∧ TyOf K H y t ∧ PySem.W.notFirst K C t = true ∧ sp [x, y] H (fun v H' => ∃ b, v = .bl b ∧ Q v H') E
theorem op_ownEq {CX : CXT} {C f : Addr} {fd : FuncData} {ps : List Str} {k : Nat} {sp : Sp} {E : XK} (F : FnOk X.prog X.w X.K X.mg X.base CX k f fd ps sp) (hr : Room k X.A) (hs : PySem.W.findIn X.K (.ref C) "__eq__" = some (some (.ref f))) (hf : PySem.W.isFn X.K (.ref f) = true)
    (hb : Binds X.K fd ps []) (hx : Passes CX X E) : OpR X (compareOp .Eq) (rOwnEq X.K C sp E) := by
  intro pins s σ H x y v u Q I rx ry h
  obtain ⟨a, dx, fs, t, rfl, ha, ty, hn, hsp⟩ := h
  obtain rfl : v = Value.ref a := rx
  obtain ⟨mA, J, _⟩ := ins_get I.hok ha
  obtain ⟨od, J, _⟩ := J.look
  obtain ⟨m, hF⟩ := I.fr
  obtain ⟨PP, Z, pp, _⟩ := kit_of I ry (.base ty)
  show wpAny (model X.prog X.w) X.A (richCompare .Eq (.ref a) u) (EP X pins σ Q) X.xe s
  refine PySem.W.cmp_K (op := .Eq) (tb := t) hr.units0 hF I.ok.mod.kin J (Z.ty _ _ I.kIn pp) hn hs hf ?_
  have r2 : Vals [V.ref a, y] [Value.ref a, u] := .cons rfl (.cons ry .nil)
  have hl := F.len _ _ _ _ hsp
  refine wpAny_call (codeAny_mono (F.run X.A X.stack s H ⟨[.ref a, u], []⟩ [.ref a, u] [.ref a, y] _ E hr I.env0 (by
    have z := hb s [.ref a, u] I.kIn (by simpa using hl)
    simpa using z) r2 hsp) fun r s' z => ?_)
  rcases r with e | (_ | _ | _ | w)
  · exact hx pins σ H s e s' I z
  · exact False.elim z
  · exact False.elim z
  · exact False.elim z
  · obtain ⟨z, H', I', rz, b, ez, q⟩ := I.after z
    subst ez
    obtain rfl : w = Value.bool b := rz
    exact ⟨.bl b, H', I', rfl, q⟩
theorem op_rep0 : OpR X (binaryOp .Mult) rRep0 := by
  intro pins s σ H x y v u Q I rx ry h
  obtain ⟨k, rfl, rfl, h⟩ := h
  obtain ⟨t, rfl⟩ := rx
  obtain ⟨t2, rfl⟩ := ry
  rcases h with ⟨rfl, q⟩ | ⟨rfl, q⟩ | ⟨rfl, q⟩
  · exact PySem.P.mul_str (by decide +kernel) (fun _ _ => by decide +kernel) (fun _ _ => by decide +kernel) (show Made.post (Made.val (.str "0" t)) _ _ from ⟨.str "0", H, I, ⟨t, rfl⟩, q⟩)
  · exact PySem.P.mul_str (by decide +kernel) (fun _ _ => by decide +kernel) (fun _ _ => by decide +kernel) (show Made.post (Made.str ⟨#[48, 48]⟩) _ _ from ⟨by decide +kernel, .str "00", H, I.tok _, ⟨_, rfl⟩, q⟩)
  · exact PySem.P.mul_str (by decide +kernel) (fun _ _ => by decide +kernel) (fun _ _ => by decide +kernel) (show Made.post (Made.str ⟨#[48, 48, 48]⟩) _ _ from ⟨by decide +kernel, .str "000", H, I.tok _, ⟨_, rfl⟩, q⟩)
end
/-! ### making and calling where what is raised is caught -/
def tMakeS (C : Addr) (sp : Sp) (E : L2.St → XK) (t : TA) : TE := fun σ H Q => t σ H fun vs H1 => ∀ x dx, H1 x = none → H1 dx = none → dx ≠ x → sp (.ref x :: vs) (upd (upd H1 dx (.own x)) x (.ins C dx [])) (fun v H2 => v = .non ∧ Q (.ref x) H2) (E σ)
def tMethS (C : Addr) (m : Str) (sp : Sp) (E : L2.St → XK) (ta : TE) (t : TA) : TE := fun σ H Q => ta σ H fun x H1 => ∃ a dx fs, x = .ref a ∧ H1 a = some (.ins C dx fs) ∧ fs.lookup m = none ∧ t σ H1 fun vs H2 => sp (x :: vs) H2 Q (E σ)
section
variable {X : Cx} {CX : CXT} {k : Nat} {f C : Addr} {fd : FuncData} {ps : List Str} {sp : Sp} {E : L2.St → XK} {x m : Str} {p pos apos : Pos} {e o : Expr} {es : List Expr} {ta : TE} {t : TA}
theorem pe_makeS (M : Mk X.K C f) (F : FnOk X.prog X.w X.K X.mg X.base CX k f fd ps sp) (hr : Room (k + 1) X.A) (hg : Gl X x) (hm : X.mg x = some (.ref C)) (hb : Binds X.K fd ps []) (hx : ∀ σ, PassesAt CX X σ (E σ)) (ha : PA X (e :: es) t) (hdb : (x == ("__debug__" : Str)) = false := by decide)
    (he : starEach (e :: es) X.env = (false, eval e X.env) :: starEach es X.env := by rfl) (hpl : (backTo pos (starEach es X.env)).any (·.1) = false := by rfl) : PE X (.Call (.Name x p) (e :: es) [] pos) (tMakeS C sp E t) := by
  refine ⟨fun pins s σ H Q I h => ?_⟩
  refine wpAny_Call_Name_kw (ld_glob I hg hm (PySem.W.callWith_K (h₀ := X.base) I.ok.mod.kin M.kp (thn (ha.run pos pins s σ H _ I h) fun us s1 ⟨vs, H1, I1, r, q⟩ => ⟨I1.kIn, ?_⟩) he hpl) hdb)
  have hq := q (s1.heap.objs.size + 1) s1.heap.objs.size (I1.hok.fresh (Nat.le_succ _)) (I1.hok.fresh (Nat.le_refl _)) (Nat.ne_of_lt (Nat.lt_succ_self _))
  have I2 := Inv.made (C := C) I1
  have r2 : Vals (V.ref (s1.heap.objs.size + 1) :: vs) (Value.ref (s1.heap.objs.size + 1) :: us) := .cons rfl r
  have hl : (Value.ref (s1.heap.objs.size + 1) :: us).length = ps.length := r2.length.symm.trans (F.len _ _ _ _ hq)
  refine wpAny_call (make_map (f := f) I1.kIn M.makes M.init (beq_iff_eq.mp M.fn) (codeAny_mono (F.run _ X.stack _ _ ⟨Value.ref (s1.heap.objs.size + 1) :: us, []⟩ (Value.ref (s1.heap.objs.size + 1) :: us) _ _ (E σ) (hr.make C us []) (I2.env0.make C us []) (by
    have z := hb _ (Value.ref (s1.heap.objs.size + 1) :: us) I2.kIn (by simpa using hl)
    simpa using z) r2 hq) fun r s' z => ?_))
  rcases r with er | (_ | _ | _ | u)
  · exact hx σ pins _ _ er s' I2 z
  · exact False.elim z
  · exact False.elim z
  · exact False.elim z
  · obtain ⟨v, H', I3, rv, ev, q3⟩ := I2.after z
    subst ev
    exact ⟨rv, ⟨V.ref (s1.heap.objs.size + 1), H', I3, rfl, q3⟩⟩
theorem run_S {pins : List (Addr × Obj)} {σ : L2.St} {H : Hp} {s : Shared} {Q : VK} {us : List Value} {vs : List V} {args : Args} (F : FnOk X.prog X.w X.K X.mg X.base CX k f fd ps sp) (hr : Room k X.A) (hb : BindsTo s fd args (ps.zip us)) (hx : PassesAt CX X σ (E σ)) (I : Inv X pins σ H s) (r : Vals vs us)
    (h : sp vs H Q (E σ)) : wpAny (model X.prog X.w) X.A (call (.ref f) args.pos args.kw) (EP X pins σ Q) X.xe s := by
  refine wpAny_call (codeAny_mono (F.run X.A X.stack s H args us vs Q (E σ) hr I.env0 hb r h) fun r s' z => ?_)
  rcases r with er | (_ | _ | _ | u)
  · exact hx pins _ _ er s' I z
  · exact False.elim z
  · exact False.elim z
  · exact False.elim z
  · exact I.after z
/-- o.m(k = v, ..) -/
theorem pe_methKS {kws : List Keyword} {ks : List Str} {pl : Sem Bool} (he : PE X o ta) (c : Cls X.K C) (hm : Meth X.K C m f) (F : FnOk X.prog X.w X.K X.mg X.base CX k f fd ps sp) (hr : Room k X.A) (hps : ps.length = ks.length + 1)
    (hb : ∀ (s : Shared) (self : Value) (ws : List Value), ws.length = ks.length → BindsTo s fd ⟨[self], ks.zip ws⟩ (ps.zip (self :: ws))) (hx : ∀ σ, PassesAt CX X σ (E σ)) (hkw : PK X kws t)
    (hall : (backToKw pos (keywordEach kws X.env)).all (·.1.isSome) = true := by rfl) (hks : (backToKw pos (keywordEach kws X.env)).filterMap (·.1) = ks := by rfl) (hpl : ((backTo pos (starEach [] X.env)).any (·.1) || (backToKw pos (keywordEach kws X.env)).any (·.1.isNone)) = false := by rfl)
    (ht : eval (.Call (.Attribute o m apos) [] kws pos) X.env = (do
      let ov ← eval o X.env
      standAt apos.atName
      let (f, first) ← holding [ov] (getMethod ov m pl)
      callWith pos f first (backTo pos (starEach [] X.env)) (backToKw pos (keywordEach kws X.env))) := by rfl) : PE X (.Call (.Attribute o m apos) [] kws pos) (tMethS C m sp E ta t) := by
  refine ⟨fun pins s σ H Q I h => ?_⟩
  refine PySem.W.methodCall_KW (pl := pl) (thn (he.run pins s σ H _ I h) fun u s1 ⟨x, H1, I1, rx, a, dx, fs, ex, ea, l, q⟩ => ?_) ht
  subst ex
  obtain rfl : u = Value.ref a := rx
  refine getmeth_ok I1 ea c hm l ?_
  refine PySem.W.callWith_KW0 (first := [.ref a]) (h₀ := X.base) I1.ok.mod.kin hm.kp hall ?_ hpl
  refine thn (hkw.run pos pins s1 σ H1 _ I1 q) fun ws s2 ⟨zs, H2, I2, rz, q2⟩ => ⟨I2.kIn, ?_⟩
  rw [hks]
  have hl : ws.length = ks.length := by
    have z := F.len _ _ _ _ q2
    rw [← rz.length]
    exact Nat.succ.inj (z.trans hps)
  exact run_S (args := ⟨[.ref a], ks.zip ws⟩) (us := .ref a :: ws) F hr (hb s2 _ ws hl) (hx σ) I2 (show Vals (V.ref a :: zs) (Value.ref a :: ws) from .cons rfl rz) q2
end
/-- isinstance(e, c), e the exception that the suite holds, d its own dict -/
def rIsES (K : PySem.W.Frag) (a : Addr) (cls : Value) (d : Option Addr) : List V → Hp → VK → Prop := fun xs H Q => ∃ (D dd : Addr) (fs : List (Str × V)) (c : V) (u : Value) (b : Bool), xs = [.ref a, c] ∧ cls = .ref D ∧ ExcC K D ∧ d = some dd ∧ H dd = some (.xd fs) ∧ ClsV c u ∧ PySem.W.kitOne K (.ref D) u = some b ∧ Q (.bl b) H
theorem call_isES {X : Cx} {a : Addr} {oe : Obj} {cls : Value} {d : Option Addr} {pn : List (Addr × Obj)} (hz : Zc cls d oe) (hf : ∃ vs, oe.data = .fields vs) : CallR (X.suite a ((a, oe) :: pn)) (.builtin "isinstance") (rIsES X.K a cls d) := by
  intro pins s σ H xs us Q I r h
  obtain ⟨D, dd, fs, c, u, b, rfl, rfl, C, rfl, hx, k, e, q⟩ := h
  obtain ⟨u1, u2, rfl, r1, r2⟩ := vals2 r
  have e2 := k.eq r2
  subst e2
  obtain rfl : u1 = Value.ref a := r1
  obtain ⟨ha, _⟩ := I.pin (a, oe) (List.mem_append_left _ List.mem_cons_self)
  obtain ⟨vs, hd⟩ := hf
  have hxd : ObjOk X.prog X.w H s.heap dd (.xd fs) := I.hok dd _ hx
  obtain ⟨mA, hns, _⟩ := hxd
  obtain ⟨od, ho, _⟩ := lookIn_ns hns
  have J : PySem.W.InstAt s.heap a oe D (some od) := ⟨ha, hz.1, by unfold PySem.W.notCls; rw [hd] <;> rfl, by rw [hz.2]; exact ho⟩
  have hcl : (PySem.W.clsIn X.K D).isSome = true := by
    obtain ⟨cd, hc, _⟩ := PySem.W.any_some C.hd
    rw [hc]
    rfl
  exact PySem.W.kia_one (PySem.W.kitx_exc hcl C.hg C.hk C.hs C.ha C.hn C.ht C.hm) I.kIn J e (fun z => nomatch z) fun tk => ⟨.bl b, H, I.kept (t' := tk) fun _ _ z => z, rfl, q⟩
/-! ### turns of a loop, whatever its body -/
section
variable {K : PySem.W.Frag} {a : Addr} {xs : List V} {Bd : V → Hp → (Hp → Prop) → Prop} {H0 : Hp} {Fin : Hp → Prop}
theorem lp_tup (Pv : Nat → Hp → Prop) (h0 : Pv 0 H0) (hl : ∀ i H, i ≤ xs.length → Pv i H → SqT K H a xs) (hs : ∀ i x H, xs[i]? = some x → Pv i H → Bd x H (Pv (i + 1))) (hd : ∀ H, Pv xs.length H → Fin H) :
    ∃ W : Nat → Nat → Hp → Prop, (∃ m, W 0 m H0) ∧ ∀ i m H, W i m H → ((Itt K a).stop i H ∧ Fin H) ∨ ((Itt K a).go i H ∧ ∃ Nx : Hp → Prop, (∀ H', Nx H' → ∃ m', m' < m ∧ W (i + 1) m' H') ∧ ∀ x H', (Itt K a).yld i H x H' → Bd x H' Nx) := by
  refine ⟨fun i m H => i + m = xs.length ∧ Pv i H, ⟨xs.length, by omega, h0⟩, fun i m H ⟨em, p⟩ => ?_⟩
  have q := hl i H (by omega) p
  by_cases lt : i < xs.length
  · refine .inr ⟨⟨xs, xs[i], q, List.getElem?_eq_getElem lt⟩, Pv (i + 1), fun H' p' => ⟨m - 1, by omega, by omega, p'⟩, fun x H' y => ?_⟩
    obtain ⟨rfl, y⟩ := y
    exact hs i x H' (y xs q) p
  · obtain rfl : i = xs.length := by omega
    exact .inl ⟨⟨xs, q, Nat.le_refl _⟩, hd H p⟩
theorem lp_list (Pv : Nat → Hp → Prop) (h0 : Pv 0 H0) (hl : ∀ i H, i ≤ xs.length → Pv i H → SqL K H a xs) (hs : ∀ i x H, xs[i]? = some x → Pv i H → Bd x H (Pv (i + 1))) (hd : ∀ H, Pv xs.length H → Fin H) :
    ∃ W : Nat → Nat → Hp → Prop, (∃ m, W 0 m H0) ∧ ∀ i m H, W i m H → ((Itl K a).stop i H ∧ Fin H) ∨ ((Itl K a).go i H ∧ ∃ Nx : Hp → Prop, (∀ H', Nx H' → ∃ m', m' < m ∧ W (i + 1) m' H') ∧ ∀ x H', (Itl K a).yld i H x H' → Bd x H' Nx) := by
  refine ⟨fun i m H => i + m = xs.length ∧ Pv i H, ⟨xs.length, by omega, h0⟩, fun i m H ⟨em, p⟩ => ?_⟩
  have q := hl i H (by omega) p
  by_cases lt : i < xs.length
  · refine .inr ⟨⟨xs, xs[i], q, List.getElem?_eq_getElem lt⟩, Pv (i + 1), fun H' p' => ⟨m - 1, by omega, by omega, p'⟩, fun x H' y => ?_⟩
    obtain ⟨rfl, y⟩ := y
    exact hs i x H' (y xs q) p
  · obtain rfl : i = xs.length := by omega
    exact .inl ⟨⟨xs, q, Nat.le_refl _⟩, hd H p⟩
end
/-! ### rules with the written part named (within comprehensions) -/
section
variable {X : Cx} {tg l : Expr} {tl : TE}
theorem pi_tupk (K : PySem.W.Frag) (hK : X.K = K) (hl : PE X l tl) : PI X tg l (iTup K tl) := by
  subst hK
  exact pi_tup hl
theorem op_catAk (K : PySem.W.Frag) (hK : X.K = K) : OpR X (binaryOp .Add) (rCatA K) := by
  subst hK
  exact op_catA
theorem ixl_k (K : PySem.W.Frag) (hK : X.K = K) : IxR X (rIxL K) := by
  subst hK
  exact ix_list
theorem ixt_k (K : PySem.W.Frag) (hK : X.K = K) : IxR X (rIxT K) := by
  subst hK
  exact ix_tup
theorem sl_tupk (K : PySem.W.Frag) (hK : X.K = K) : SlR X (rSlA K) := by
  subst hK
  exact sl_tupA
end
end Ek

namespace Ek
open PySem PySem.Spec PyProof.Rows L2
/-! ### the hand, its list of numbers named -/
def Hdd (H : Hp) (h dr : Addr) : Prop := ∃ (ds : List Int) (t : Nat), H h = some (.lst [.ref dr, .int (t : Int)]) ∧ H dr = some (.lst (ds.map V.int)) ∧ dr ≠ h ∧ ∀ x ∈ ds, 0 ≤ x
theorem Hdd.same {H H' : Hp} {h dr : Addr} (s : Same H H') (x : Hdd H h dr) : Hdd H' h dr := by
  obtain ⟨ds, t, h1, h2, n, p⟩ := x
  exact ⟨ds, t, s _ _ h1, s _ _ h2, n, p⟩
theorem Hdd.ne {H : Hp} {h dr b : Addr} (x : Hdd H h dr) (e : H b = none) : b ≠ h := fun z => by
  obtain ⟨ds, t, h1, _⟩ := x
  rw [z, h1] at e
  cases e
theorem Hdd.ned {H : Hp} {h dr b : Addr} (x : Hdd H h dr) (e : H b = none) : b ≠ dr := fun z => by
  obtain ⟨ds, t, h1, h2, _⟩ := x
  rw [z, h2] at e
  cases e
theorem Hdd.ns {H : Hp} {h dr b : Addr} {o : HO} (x : Hdd H h dr) (e : H b = some o) (n : ∀ d t, o ≠ .lst [.ref d, .int t]) : b ≠ h := fun z => by
  obtain ⟨ds, t, h1, _⟩ := x
  rw [z, h1] at e
  exact n _ _ (Option.some.inj e).symm
theorem Hdd.upd {H : Hp} {h dr D : Addr} {o : HO} (x : Hdd H h dr) (n1 : D ≠ h) (n2 : D ≠ dr) : Hdd (upd H D o) h dr := by
  obtain ⟨ds, t, h1, h2, n, p⟩ := x
  exact ⟨ds, t, by rw [upd_ne n1.symm]; exact h1, by rw [upd_ne n2.symm]; exact h2, n, p⟩
/-! ### repr of any data -/
def rReprA (K : PySem.W.Frag) : List V → Hp → VK → Prop := fun xs H Q => ∃ x d, xs = [x] ∧ Dp K H x d ∧ Okd d ∧ Q (.str d.shown) H
section
variable {X : Cx}
theorem call_reprA (hg : X.A.guards = some []) (hu : X.A.units + 64 < cLine) : CallR X (.builtin "repr") (rReprA X.K) := by
  intro pins s σ H xs us Q I r h
  obtain ⟨x, d, rfl, hd, hk, q⟩ := h
  have r0 := r
  obtain ⟨u, rfl, ru⟩ := vals1 r
  obtain ⟨h1, h2, h3, h4⟩ := id hk
  cases hd with
  | non =>
    obtain rfl : u = Value.none := ru
    exact PySem.P.repr_of_none ⟨.str _, H, I.tok _, ⟨_, rfl⟩, q⟩
  | bl b =>
    obtain rfl : u = Value.bool b := ru
    cases b
    · exact PySem.P.repr_of_bool ⟨.str _, H, I.tok _, ⟨_, rfl⟩, q⟩
    · exact PySem.P.repr_of_bool ⟨.str _, H, I.tok _, ⟨_, rfl⟩, q⟩
  | int i =>
    obtain ⟨t, rfl⟩ := ru
    refine PySem.P.repr_of_int ?_ ⟨.str _, H, I.tok _, ⟨_, rfl⟩, q⟩
    simpa [PyData.showable] using h1
  | str z =>
    obtain ⟨t, rfl⟩ := ru
    exact PySem.P.repr_of_str (hsz := by
      have e : (reprText z) = PyData.shown (.str z) := by simp [PyData.shown]
      rw [e, sizeLine_eq]
      omega) ⟨.str _, H, I.tok _, ⟨_, rfl⟩, q⟩
  | lst hs a => exact call_repr hg hu pins s σ H _ _ Q I r0 ⟨_, _, rfl, .lst hs a, rfl, hk, q⟩
  | tup hs a => exact call_repr hg hu pins s σ H _ _ Q I r0 ⟨_, _, rfl, .tup hs a, rfl, hk, q⟩
theorem call_reprAk (K : PySem.W.Frag) (hK : X.K = K) (hg : X.A.guards = some []) (hu : X.A.units + 64 < cLine) : CallR X (.builtin "repr") (rReprA K) := by
  subst hK
  exact call_reprA hg hu
theorem call_minTk (K : PySem.W.Frag) (hK : X.K = K) (hc : X.calm = true) : CallR X (.builtin "min") (rMinT K) := by
  subst hK
  exact call_minT hc
theorem call_lenk (K : PySem.W.Frag) (hK : X.K = K) : CallR X (.builtin "len") (fun xs H Q => ∃ p ys, xs = [V.ref p] ∧ (SqL K H p ys ∨ SqT K H p ys) ∧ Q (V.int ys.length) H) := by
  subst hK
  exact call_len_seq
theorem call_isik (K : PySem.W.Frag) (hK : X.K = K) : CallR X (.builtin "isinstance") (rIsi K) := by
  subst hK
  exact call_isi
/-! ### tuple * int, once too -/
theorem tuple_mul1 (l : Addr) (items : Array Value) (n : Nat) (dd : Option Addr) (sl : Array (Option Value)) (u : Tok) :
    Meets (Builtin.«tuple.__mul__» ⟨[.ref l, .int 1 u], []⟩) (fun _ R s => s.heap.get? l = some { cls := .type "tuple", dict := dd, data := .seq items n, slots := sl } ∧
      R (.ok (.ret (Value.ref l))) s) :=
  .of_wp fun prog w A R s h => by
    obtain ⟨hp, g, d, tk, os⟩ := s
    obtain ⟨hl, h⟩ := h
    have f1 := AutoSeq1.idx_int
    have c1 : (items.isEmpty || (1 : Int) == 1) = true := by simp
    wp_walk using wpAny_loadPart' hl
    repeat (first
      | (refine wpAny_ite_true (decide_eq_true (by rw [c1])) ?_; wp_walk using wpAny_loadPart' hl)
      | (refine wpAny_ite_false (decide_eq_false (by decide)) ?_; wp_walk using wpAny_loadPart' hl))
    exact ⟨_, rfl, h⟩
def rRepTA (K : PySem.W.Frag) : R2 := fun x y H Q => rRepT K x y H Q ∨ ∃ l xs, x = .ref l ∧ y = .int 1 ∧ SqT K H l xs ∧ Q (.ref l) H
theorem op_repTA : OpR X (binaryOp .Mult) (rRepTA X.K) := by
  intro pins s σ H x y v u Q I rx ry h
  rcases h with h | h
  · exact op_repT pins s σ H x y v u Q I rx ry h
  · obtain ⟨l, xs, rfl, rfl, hT, q⟩ := h
    cases rx
    obtain ⟨t, rfl⟩ := ry
    obtain ⟨its, r, ⟨⟨cls, dd, data, sl⟩, ho, hc, n, hd⟩, hs⟩ := I.tuple hT
    simp only at hc hd
    subst hc hd
    refine wpAny_binaryOp_repeat_ref (T := "tuple") (U := "int") (by decide) ⟨_, ho, rfl⟩ (fun s' => typeIs_int s' 1 t) noFill_tuple_mul F.fills_int_mul F.slot_int_rmul repeat_tuple F.slot_int_index.lookup
      (call_meets F.slot_int_rmul (typeIs_int s 1 t) F.entry_int_rmul (F.args_int_rmul_2 _ _) (int_rmul_tuple 1 t l its.toArray n dd sl)
        ⟨ho, rfl, ⟨_, ho, rfl⟩, call_meets F.slot_tuple_mul ⟨_, ho, rfl⟩ F.entry_tuple_mul (F.args_tuple_mul_2 _ _) (tuple_mul1 l its.toArray n dd sl t) ⟨ho, ?_⟩⟩)
    exact ⟨.ref l, H, I, rfl, q⟩
end
end Ek

namespace Ek
open PySem PySem.Spec PyProof.Rows L2
/-! ### a text shown is a text -/
theorem strOk_iff {s : Str} : PyData.strOk s = true ↔ ∀ c ∈ s.cps.toList, c < 0x110000 := by
  unfold PyData.strOk
  rw [Array.all_eq_true_iff_forall_mem]
  simp
theorem strOk_app {a b : Str} (ha : PyData.strOk a = true) (hb : PyData.strOk b = true) : PyData.strOk (a ++ b) = true := by
  rw [strOk_iff] at *
  intro c m
  have e : (a ++ b).cps = a.cps ++ b.cps := rfl
  rw [e, Array.toList_append] at m
  rcases List.mem_append.mp m with m | m
  · exact ha c m
  · exact hb c m
theorem strOk_int (i : Int) : PyData.strOk (toString i : String) = true := by
  rw [strOk_iff]
  intro c m
  by_cases h : c < 0x110000
  · exact h
  · exact absurd m (int_text_free' c ⟨by omega, .inr (by omega)⟩ i)
theorem strOk_from : ∀ {ts : List Str} {k : Nat} {acc : Str}, PyData.strOk acc = true → (∀ t ∈ ts, PyData.strOk t = true) → PyData.strOk (textFrom k acc ts) = true
  | [], _, _, h, _ => h
  | t :: ts, k, acc, h, ht => by
    refine strOk_from (ts := ts) (strOk_app (strOk_app h ?_) (ht t List.mem_cons_self)) fun x m => ht x (List.mem_cons_of_mem _ m)
    split <;> decide +kernel
theorem strOk_list {ts : List Str} (ht : ∀ t ∈ ts, PyData.strOk t = true) : PyData.strOk (listText ts) = true := strOk_app (strOk_from (by decide +kernel) ht) (by decide +kernel)
theorem strOk_join : ∀ {ts : List Str}, (∀ t ∈ ts, PyData.strOk t = true) → PyData.strOk (Str.join ", " ts) = true
  | [], _ => by decide +kernel
  | [x], h => h x List.mem_cons_self
  | x :: y :: r, h => strOk_app (strOk_app (h x List.mem_cons_self) (by decide +kernel)) (strOk_join (ts := y :: r) fun t m => h t (List.mem_cons_of_mem _ m))
theorem strOk_tuple {ts : List Str} (ht : ∀ t ∈ ts, PyData.strOk t = true) : PyData.strOk (tupleText ts) = true := by
  refine strOk_app (strOk_app (by decide +kernel) (strOk_join ht)) ?_
  split <;> decide +kernel
/-- what is shown of it is a text -/
def Tx (d : PyData) : Prop := PyData.strOk d.shown = true
theorem Tx.int {i : Int} : Tx (.int i) := by
  unfold Tx
  rw [PyData.shown]
  exact strOk_int i
theorem Tx.bool {b : Bool} : Tx (.bool b) := by cases b <;> (unfold Tx; decide +kernel)
theorem Tx.none : Tx .none := by unfold Tx; decide +kernel
theorem shownAll_mem : ∀ {ds : List PyData} {t : Str}, t ∈ PyData.shownAll ds → ∃ d ∈ ds, t = d.shown
  | [], t, h => by simp [PyData.shownAll] at h
  | d :: ds, t, h => by
    rw [PyData.shownAll] at h
    rcases List.mem_cons.mp h with rfl | h
    · exact ⟨d, List.mem_cons_self, rfl⟩
    · obtain ⟨d', m, e⟩ := shownAll_mem h
      exact ⟨d', List.mem_cons_of_mem _ m, e⟩
theorem Tx.all {ds : List PyData} (h : ∀ d ∈ ds, Tx d) : ∀ t ∈ PyData.shownAll ds, PyData.strOk t = true := fun t m => by
  obtain ⟨d, md, rfl⟩ := shownAll_mem m
  exact h d md
theorem Tx.list {ds : List PyData} (h : ∀ d ∈ ds, Tx d) : Tx (.list ds) := by
  unfold Tx
  rw [PyData.shown]
  exact strOk_list (Tx.all h)
theorem Tx.tuple {ds : List PyData} (h : ∀ d ∈ ds, Tx d) : Tx (.tuple ds) := by
  unfold Tx
  rw [PyData.shown]
  exact strOk_tuple (Tx.all h)
end Ek

namespace Ek
open PySem PySem.Spec PyProof.Rows L2
/-! ### several clauses, all with the same name; what no clause names does not come -/
abbrev Suite := Addr → Value → Option Addr → TS
def lostAt (i : Nat) (D : Ends) : Ends := { nx := fun t G => D.nx (t.set i none) G, rt := D.rt, bk := fun t G => D.bk (t.set i none) G, ct := fun t G => D.ct (t.set i none) G }
def wCl (K : PySem.W.Frag) (i : Nat) (D : Ends) : List (Value × Suite) → WX
  | [] => fun _ _ _ _ => False
  | (c, ts) :: more => fun k dd t G => ∃ hit, PySem.W.exmOne K k c = some hit ∧ (hit = true → ∀ ex, G ex = none → ts ex k dd (lostAt i D) (t.set i (some (.ref ex))) G) ∧ (hit = false → wCl K i D more k dd t G)
inductive Cls2 (X : Cx) (n : Str) : List ExceptHandler → List (Value × Suite) → Prop
  | none : Cls2 X n [] []
  | one {x : Str} {c : Value} {ts : Suite} {first : Stmt} {rest : List Stmt} {p p' : Pos} {hds : List ExceptHandler} {more : List (Value × Suite)} (nm : Names X x c)
      (ok : ∀ (ex : Addr) (ob : Obj) (k : Value) (dd : Option Addr) (pn : List (Addr × Obj)), Zc k dd ob → (∃ vs, ob.data = .fields vs) → PSs (X.suite ex ((ex, ob) :: pn)) (first :: rest) (ts ex k dd)) (m : Cls2 X n hds more) : Cls2 X n (.ExceptHandler (some (.Name x p)) (some n) (first :: rest) p' :: hds) ((c, ts) :: more)
section
variable {X : Cx} {n : Str} {i : Nat} {body : List Stmt} {h1 : ExceptHandler} {hds : List ExceptHandler} {cl : List (Value × Suite)} {pos : Pos} {tb : WX → TS}
theorem ps_clauses (st : X.stack = X.env :: X.outer) (fr : X.env.frame = some X.env.locals) (nd : X.N.Nodup) (at_ : X.N[i]? = some n) (lo : X.env.kindOf n = some .local)
    (bd : ∀ (W : WX) (pn : List (Addr × Obj)) (xe : Value → Shared → Prop), Takes (X.tr pn xe) W → PassesOwn (model X.prog X.w) X.A X.env xe → PSs (X.tr pn xe) body (tb W)) (hc : Cls2 X n (h1 :: hds) cl) :
    PS X (.Try body (h1 :: hds) [] [] pos) (fun D t G => tb (wCl X.K i D cl) D t G) := by
  constructor
  intro pins s σ G D inv wish
  have good := inv.ok
  have frames : X.A.frames = some (X.env :: X.outer) := st ▸ good.frames
  have here : Loc X.env.scope n := Or.inl lo
  apply wpAny_Try_except
  have run := (bd (wCl X.K i D cl) (X.pn ++ pins) (fun ev u1 => wpAny (model X.prog X.w) X.A (noteFrame ev X.env) (fun _ u2 => wpAny (model X.prog X.w) X.A (setFlight ev none) (fun _ u3 => wpAny (model X.prog X.w) X.A (handleBy ev X.env (h1 :: hds)) (SP X pins D) X.xe u3) X.xe u2) X.xe u1) ?caught PassesOwn.looking).run [] s σ G D (inv.toTry _) wish
  refine wpAny_mono run (fun fl u r => ?through) (fun _ _ z => z)
  case caught =>
    rintro ev u ⟨ex, B, sI, pins', t, G', k, dd, rfl, iv, nb, up, sky, free, os, ag, want⟩
    have iv2 : Inv X pins t G' sI := iv.ofTry good
    change wpAny (model X.prog X.w) X.A (noteFrame (.ref ex) X.env) _ _ _
    refine Sky.land Zc.steady frames fr (show Sky B (X.env :: X.outer) ex (Zc k dd) X.env.locals u.heap from st ▸ sky) fun g3 f3 u3 => ?_
    have iv3 : Inv X pins t G' { u with heap := g3 } := iv2.landed nb f3.1 (up.trans u3) os ag
    obtain ⟨ob, vs, eob, zob, dob⟩ := f3.there
    have away : ex ∉ frs (X.env :: X.outer) := fun m => by
      obtain ⟨_, o2, e2, no⟩ := f3.2.2.1.mem m
      have same : ob = o2 := Option.some.inj (eob.symm.trans e2)
      subst same
      exact no _ dob
    have neL : ex ≠ X.env.locals := fun z => away (by
      rw [z]
      exact List.mem_filterMap.mpr ⟨X.env, by simp, fr⟩)
    have neF : ex ∉ X.fs := fun m => by
      obtain ⟨e0, m0, q0⟩ := List.mem_filterMap.mp m
      exact away (List.mem_filterMap.mpr ⟨e0, List.mem_cons_of_mem _ m0, q0⟩)
    have su3 := iv3.suite eob dob free neL neF
    have walk : ∀ {hs : List ExceptHandler} {cs : List (Value × Suite)}, Cls2 X n hs cs → wCl X.K i D cs k dd t G' → wpAny (model X.prog X.w) X.A (handleBy (.ref ex) X.env hs) (SP X pins D) X.xe { u with heap := g3 } := by
      intro hs cs hk
      induction hk with
      | none => exact fun z => False.elim z
      | @one x c ts first rest p p' hs2 more nm ok m ih =>
        rintro ⟨hit, eh, yes, no⟩
        refine wpAny_handleBy_cons (codeAny_handlers_test ?_) (by intro z; cases z)
        have look : PySem.W.Looks (model X.prog X.w) g3 (typeOf (.ref ex)) k := fun A Q E s0 kp q => wpAny_typeOf_ref (kp _ _ eob) (by rw [zob.1]; exact q)
        have says := PySem.W.exm_one (M := model X.prog X.w) iv3.kIn look eh
        have named : ∀ {Q E : Value → Shared → Prop}, Q c { u with heap := g3 } → wpAny (model X.prog X.w) (X.A.mark (some (.ref ex))) (eval (.Name x p) X.env) Q E { u with heap := g3 } := by
          intro Q E q
          rcases nm with ⟨gl, db, own | ⟨no1, bt, nn⟩⟩
          · exact ld_glob (X := X.suite ex ((ex, ob) :: (X.pn ++ pins))) su3 gl own q db
          · exact ld_blt (X := X.suite ex ((ex, ob) :: (X.pn ++ pins))) su3 gl no1 bt q nn db
        refine named (says.here ?_)
        cases hit with
        | false => exact ih (no rfl)
        | true =>
          refine codeAny_handlers_suite_as (HandSPX.lands_againZ f3 fun g4 f4 u4 => ?_)
          have iv4 : Inv X pins t G' { u with heap := g4 } := iv2.landed nb f4.1 ((up.trans u3).trans u4) os ag
          obtain ⟨ob4, vs4, eob4, zob4, dob4⟩ := f4.there
          have su4 := iv4.suite eob4 dob4 free neL neF
          refine store_ok (X := X.suite ex ((ex, ob4) :: (X.pn ++ pins))) (v := .ref ex) su4 nd at_ here rfl (fun u5 su5 => ?_) (Or.inr lo)
          have suite := (ok ex ob4 k dd (X.pn ++ pins) zob4 ⟨_, dob4⟩).run [] u5 _ G' _ su5 (yes rfl ex free)
          refine wpAny_mono suite (fun fl u6 r => ?_) (fun _ _ z => z.elim)
          have leave : ∀ {t6 : L2.St} {G6 : Hp} {Q : Shared → Prop}, Inv (X.suite ex ((ex, ob4) :: (X.pn ++ pins))) [] t6 G6 u6 → (∀ u7, Inv X pins (t6.set i none) G6 u7 → Q u7) →
              wpAny (model X.prog X.w) X.A (do bindName X.env n .none; unbindBehindTheSuite X.env n p') (fun _ u7 => Q u7) X.xe u6 := fun w q => gone_ok (w.unsuite good) nd at_ lo q
          cases fl with
          | ret v => exact r.elim fun v6 r => r.elim fun t6 r => r.elim fun G6 r => leave r.1 fun u7 w => ⟨_, _, _, w, r.2.1, r.2.2⟩
          | next => exact r.elim fun t6 r => r.elim fun G6 r => leave r.1 fun u7 w => ⟨_, _, w, r.2⟩
          | brk => exact r.elim fun t6 r => r.elim fun G6 r => leave r.1 fun u7 w => ⟨_, _, w, r.2⟩
          | cont => exact r.elim fun t6 r => r.elim fun G6 r => leave r.1 fun u7 w => ⟨_, _, w, r.2⟩
    exact walk hc want
  case through =>
    cases fl with
    | ret v => exact r.elim fun v6 r => r.elim fun t6 r => r.elim fun G6 r => ⟨v6, t6, G6, r.1.ofTry good, r.2.1, r.2.2⟩
    | next => exact r.elim fun t6 r => r.elim fun G6 r => wpAny_execs_nil ⟨t6, G6, r.1.ofTry good, r.2⟩
    | brk => exact r.elim fun t6 r => r.elim fun G6 r => ⟨t6, G6, r.1.ofTry good, r.2⟩
    | cont => exact r.elim fun t6 r => r.elim fun G6 r => ⟨t6, G6, r.1.ofTry good, r.2⟩
end
end Ek

namespace Ek
open PySem PySem.Spec PyProof.Rows L2
/-! ### a tuple from its end -/
theorem adj_rev (n : Nat) : Builtin.Slice.sliceAdjust none none (-1) (n : Int) = ((n : Int) - 1, -1) := by
  have neg : ((-1 : Int) < 0) := by decide
  simp [Builtin.Slice.sliceAdjust, neg]
theorem places_rev (n : Nat) : Builtin.Slice.slicePlaces ((n : Int) - 1) (-1) (-1) = n := by
  unfold Builtin.Slice.slicePlaces
  rw [if_neg (by decide)]
  by_cases z : n = 0
  · subst z
    rfl
  · rw [if_pos (by omega), show (-(-1) : Int) = 1 from rfl, Int.ediv_one]
    omega
theorem pick_rev (xs : Array Value) : ((List.range xs.size).filterMap fun (j : Nat) => xs[(((xs.size : Nat) : Int) - 1 + (j : Int) * (-1)).toNat]?).toArray = xs.toList.reverse.toArray := by
  congr 1
  have step : ∀ (l : List Value), ((List.range l.length).filterMap fun (j : Nat) => l[((l.length : Int) - 1 + (j : Int) * (-1)).toNat]?) = l.reverse := by
    intro l
    apply List.ext_getElem?
    intro m
    have e : ((List.range l.length).filterMap fun (j : Nat) => l[((l.length : Int) - 1 + (j : Int) * (-1)).toNat]?) = (List.range l.length).map fun j => l.getD (l.length - 1 - j) .none := by
      have go : ∀ (r : List Nat), (∀ j ∈ r, j < l.length) → (r.filterMap fun (j : Nat) => l[((l.length : Int) - 1 + (j : Int) * (-1)).toNat]?) = r.map fun j => l.getD (l.length - 1 - j) .none := by
        intro r
        induction r with
        | nil => intro _; rfl
        | cons j r ih =>
          intro hr
          have lt := hr j List.mem_cons_self
          have e2 : ((l.length : Int) - 1 + (j : Int) * (-1)).toNat = l.length - 1 - j := by omega
          have e3 : l[((l.length : Int) - 1 + (j : Int) * (-1)).toNat]? = some (l.getD (l.length - 1 - j) .none) := by
            rw [e2, List.getD_eq_getElem?_getD, List.getElem?_eq_getElem (show l.length - 1 - j < l.length by omega)]
            rfl
          simp only [List.filterMap_cons, e3, List.map_cons]
          rw [ih fun x m => hr x (List.mem_cons_of_mem _ m)]
      exact go _ fun j m => List.mem_range.mp m
    rw [e, List.getElem?_map]
    by_cases lt : m < l.length
    · rw [List.getElem?_eq_getElem (show m < (List.range l.length).length by rw [List.length_range]; exact lt), List.getElem_range, List.getElem?_reverse lt]
      show some (l.getD (l.length - 1 - m) .none) = _
      rw [List.getD_eq_getElem?_getD, List.getElem?_eq_getElem (show l.length - 1 - m < l.length by omega)]
      rfl
    · rw [List.getElem?_eq_none (by rw [List.length_range]; omega), List.getElem?_eq_none (by rw [List.length_reverse]; omega)]
      rfl
  have z := step xs.toList
  rw [Array.length_toList] at z
  simpa using z
section
variable {prog : Program} {w : World} {A : Around} {E : Value → Shared → Prop} {s : Shared}
theorem app_rev {sl : Addr} {vs : Value} {n : Nat} {Q : Int × Int × Nat → Shared → Prop} (ob : s.heap.IsSliceOf sl .none .none vs) (pt : IsPart vs (some (-1))) (h : Q ((n : Int) - 1, -1, n) s) : wpAny (model prog w) A (Builtin.Slice.sliceApplied (.ref sl) (pure (n : Int))) Q E s := by
  obtain ⟨o, ho, _, dat⟩ := id ob
  unfold Builtin.Slice.sliceApplied Builtin.Slice.sliceFields
  refine wpAny_bind (wpAny_bind (wpAny_field ho dat (x := .none) rfl (wpAny_bind (wpAny_field ho dat (x := .none) rfl (wpAny_bind (wpAny_field ho dat (x := vs) rfl (wpAny_pure ?_)))))))
  refine wpAny_bind (HT.slicePart_ pt ?_)
  change wpAny _ _ (if ((-1 : Int) == 0) = true then _ else _) _ _ s
  rw [if_neg (by decide)]
  refine wpAny_bind (HT.slicePart_ .none (wpAny_bind (HT.slicePart_ .none (wpAny_bind (wpAny_pure ?_)))))
  change wpAny _ _ (match Builtin.Slice.sliceAdjust none none (-1) (n : Int) with | (lo, hi) => pure (lo, (-1 : Int), Builtin.Slice.slicePlaces lo hi (-1))) _ _ s
  rw [adj_rev]
  change wpAny _ _ (pure ((n : Int) - 1, (-1 : Int), Builtin.Slice.slicePlaces ((n : Int) - 1) (-1) (-1))) _ _ s
  rw [places_rev]
  exact wpAny_pure h
theorem get_rev {t sl : Addr} {items : Array Value} {vs : Value} {Q : Value → Shared → Prop} (tu : IsTup s.heap t items) (ob : s.heap.IsSliceOf sl .none .none vs) (pt : IsPart vs (some (-1)))
    (h : Q (.ref s.heap.objs.size) { s with heap := s.heap.push { cls := .type "tuple", data := .seq items.toList.reverse.toArray } }) (fits : items.size ≤ sizeLine) : wpAny (model prog w) A (getItem (.ref t) (.ref sl)) Q E s := by
  have ok : sizeOk (.seq items.toList.reverse.toArray) := by
    show items.toList.reverse.toArray.size ≤ sizeLine
    simpa using fits
  obtain ⟨o, ho, cl, dat⟩ := id ob
  have isSl : s.TypeIs (.ref sl) "slice" := ⟨o, ho, cl⟩
  unfold getItem
  try with_reducible refine wpAny_holding ?_
  first | refine wpAny_bind (wpAny_pure ?_) | skip
  refine wpAny_bind (wpAny_sequenceKey tu.typeIs (by decide) (wpAny_bind (wpAny_callSpecial?_slot (name := Str.ofString "__getitem__") tu.typeIs PyProof.Rows.slot_tuple_getitem (wpAny_call_entry PyProof.Rows.slot_tuple_getitem tu.typeIs PyProof.Rows.entry_tuple_getitem ?_ (PyProof.Rows.args_tuple_getitem _ _)))))
  change wpAny _ _ (Builtin.Tuple.tupleItemsOf (.ref t) >>= _) _ _ s
  refine wpAny_bind (PyProof.Rows.tupleItemsOf_ tu (wpAny_bind (wpAny_typeOf isSl ?_)))
  rw [if_pos (by decide)]
  refine wpAny_bind (app_rev ob pt ?_)
  change wpAny _ _ (if ((((items.size : Nat) : Int) - 1 == 0) && (-1 : Int) == 1 && items.size == items.size) = true then _ else _) _ _ s
  rw [if_neg (by simp), pick_rev]
  first
    | exact wpAny_bind (m := Builtin.Tuple.tupleExact _) (wpAny_newObj_type (wpAny_pure ⟨_, rfl, wpAny_pure h⟩) ok)
    | exact wpAny_bind (m := Builtin.Tuple.tupleExact _) (wpAny_newObj_type (wpAny_bind (wpAny_pure (wpAny_pure ⟨_, rfl, wpAny_pure h⟩))) ok)
    | exact wpAny_bind (wpAny_bind (m := Builtin.Tuple.tupleExact _) (wpAny_newObj_type (wpAny_pure (wpAny_pure ⟨_, rfl, wpAny_pure h⟩)) ok))
    | exact wpAny_bind (wpAny_bind (m := Builtin.Tuple.tupleExact _) (wpAny_newObj_type (wpAny_pure ⟨_, rfl, wpAny_pure h⟩) ok))
end
/-- t[::-1] -/
def tRevT (K : PySem.W.Frag) (te : TE) : TE := fun σ H Q => te σ H fun x H1 => ∃ a xs, x = .ref a ∧ SqT K H1 a xs ∧ ∀ p, H1 p = none → Q (.ref p) (upd H1 p (.tup xs.reverse))
theorem pe_revT {X : Cx} {e : Expr} {te : TE} {k : Nat} {p1 p2 p3 pos : Pos} (he : PE X e te) : PE X (.Subscript e (.Slice none none (some (.UnaryOp .USub (.Constant (.int 1) k p1) p2)) p3) pos) (tRevT X.K te) := by
  constructor
  intro pins s σ H Q inv wish
  refine Subscript_ (thn (he.run pins s σ H _ inv wish) fun u s1 ⟨x, H1, i1, rx, a, xs, ex, hx, q⟩ => ?_)
  subst ex
  obtain rfl : u = Value.ref a := rx
  have stp : PO X (some (.UnaryOp .USub (.Constant (.int 1) k p1) p2)) (tPart (tUn (rU fun i => .int (-i)) (tC (.int 1)))) := po_some (pe_un un_neg pe_int)
  refine wpAny_Slice (thn (po_none.run pins s1 σ H1 (fun o G => o = none ∧ G = H1) i1 ⟨rfl, rfl⟩) fun v1 s2 ⟨o1, G1, i2, t1, f1, g1⟩ => ?_)
  subst f1 g1
  refine thn (po_none.run pins s2 σ G1 (fun o G => o = none ∧ G = G1) i2 ⟨rfl, rfl⟩) fun v2 s3 ⟨o2, G2, i3, t2, f2, g2⟩ => ?_
  subst f2 g2
  refine thn (stp.run pins s3 σ G2 (fun o G => o = some (-1) ∧ G = G2) i3 ⟨1, rfl, -1, rfl, rfl, rfl⟩) fun v3 s4 ⟨o3, G3, i4, t3, f3, g3⟩ => ?_
  subst f3 g3
  cases t1
  cases t2
  have i5 : Inv X pins σ G3 { s4 with heap := s4.heap.push { cls := .type "slice", data := .fields #[.none, .none, v3] } } := i4.kept (t' := s4.toks) fun b ob z => Heap.get?_push_of_some _ z
  obtain ⟨its, r, tu, fits⟩ := i5.tuple hx
  have len := r.length
  change wpAny (model X.prog X.w) X.A (subscriptTail e (.Slice none none (some (.UnaryOp .USub (.Constant (.int 1) k p1) p2)) p3) (.ref a) (.ref s4.heap.objs.size)) (EP X pins σ Q) X.xe { s4 with heap := s4.heap.push { cls := .type "slice", data := .fields #[.none, .none, v3] } }
  refine tail_any (ops := [.ref a, .ref s4.heap.objs.size]) tu.typeIs (PyProof.Rows.slot_tuple_getitem.lookup) ?_ (by with_unfolding_all rfl)
  refine get_rev tu (Heap.IsSliceOf.new _ .none .none v3) t3 ?_ (by rw [List.size_toArray]; omega)
  refine ⟨.ref _, _, i5.laid (t' := s4.toks) (o := .tup xs.reverse) (fun b ob z => Heap.get?_push_of_some _ z) (Nat.le_refl _) ?_, rfl, q _ (i5.hok.fresh (Nat.le_refl _))⟩
  exact ⟨by rw [List.length_reverse]; exact fits, _, r.reverse, IsTup.new _ _⟩
theorem pg_tupk {X : Cx} {pos : Pos} {es : List Expr} {k n : Nat} {t : TGs} (K : PySem.W.Frag) (hK : X.K = K) (hc : X.calm = true) (h : PGs X es t) (hn : (assignEach es X.env).length = n := by rfl) (hst : (assignEach es X.env).findIdx? (·.1) = none := by rfl) : PG X (.Tuple es k pos) (gTup K n t) := by
  subst hK
  exact pg_tup hc h hn hst
theorem Sm.intW {i : Int} (h : i.natAbs < 10 ^ 18) : Sm 19 0 (.int i) := by
  refine ⟨?_, by simp only [PyData.hasDict], by simp only [PyData.depth]; exact Nat.le_refl _, ?_⟩
  · simp only [PyData.showable, decide_eq_true_eq]
    by_cases z : i.natAbs = 0
    · rw [z]
      decide
    · exact Nat.lt_trans ((Nat.log2_lt z).mpr (Nat.lt_trans h (by decide : 10 ^ 18 < 2 ^ 64))) (by decide)
  · rw [PyData.shown, PySem.ofString_length]
    exact int_text_length_le10 (by decide) h
theorem pi_listk {X : Cx} {tg l : Expr} {tl : TE} (K : PySem.W.Frag) (hK : X.K = K) (hl : PE X l tl) : PI X tg l (iList K tl) := by
  subst hK
  exact pi_list hl
theorem call_tuple_ofk {X : Cx} (K : PySem.W.Frag) (hK : X.K = K) : CallR X (.type "tuple") (fun xs H Q => ∃ p ys, xs = [V.ref p] ∧ ((SqL K H p ys ∧ ∀ l, H l = none → Q (V.ref l) (upd H l (.tup ys))) ∨ (SqT K H p ys ∧ Q (V.ref p) H))) := by
  subst hK
  exact call_tuple_of
end Ek

namespace Ek
open PySem PySem.Spec PyProof.Rows L2
/-! ### x in t, x not in t: t a tuple of data -/
def rInTD (K : PySem.W.Frag) (neg : Bool) : R2 := fun x y H Q => ∃ d ds, Dp K H x d ∧ Dp K H y (.tuple ds) ∧ SeqAt.shaped d = true ∧ SeqAt.shaped (.tuple ds) = true ∧ Q (.bl (if neg then !ds.any (fun z => PyData.eqv z d) else ds.any fun z => PyData.eqv z d)) H
section
variable {X : Cx}
theorem op_inTD (hu : X.A.units + 65 < cLine) : OpR X (compareOp .In) (rInTD X.K false) := by
  intro pins s σ H x y v u Q I rx ry h
  obtain ⟨d, ds, hd, he, sd, se, q⟩ := h
  obtain ⟨as, r1⟩ := Dp.reads I d x v hd rx
  obtain ⟨bs, r2⟩ := Dp.reads I (.tuple ds) y u he ry
  exact SeqAt.in_tuple_reads r2 r1 (SeqAt.canLay_of_shaped se) (SeqAt.canLay_of_shaped sd) (room_in_shaped sd hu) ⟨.bl _, H, I, rfl, q⟩
theorem op_notInTD (hu : X.A.units + 65 < cLine) : OpR X (compareOp .NotIn) (rInTD X.K true) := by
  intro pins s σ H x y v u Q I rx ry h
  obtain ⟨d, ds, hd, he, sd, se, q⟩ := h
  obtain ⟨as, r1⟩ := Dp.reads I d x v hd rx
  obtain ⟨bs, r2⟩ := Dp.reads I (.tuple ds) y u he ry
  exact SeqAt.notIn_tuple_reads r2 r1 (SeqAt.canLay_of_shaped se) (SeqAt.canLay_of_shaped sd) (room_in_shaped sd hu) ⟨.bl _, H, I, rfl, q⟩
theorem op_ltTk (K : PySem.W.Frag) (hK : X.K = K) (hu : X.A.units < cLine) : OpR X (compareOp .Lt) (rLtT K) := by
  subst hK
  exact op_ltT hu
end
/-! ### sorted of data -/
def rSortB {β : Type} (enc : β → PyData) (val : β → V) (K : PySem.W.Frag) : List V → Hp → VK → Prop := fun vs H Q => ∃ (a : Addr) (bs : List β), vs = [V.ref a] ∧ SqL K H a (bs.map val) ∧ (∀ b ∈ bs, Dp K H (val b) (enc b)) ∧ PySem.W.AllAlike (bs.map enc) ∧ PySem.W.Sortable (bs.map enc) ∧ (∀ b ∈ bs, (enc b).depth ≤ 60) ∧
  ∀ p, H p = none → Q (.ref p) (upd H p (.lst ((bs.mergeSort (PySem.W.dataLe false enc)).map val)))
theorem each_vals {β : Type} {val : β → V} : ∀ {us : List Value} {bs : List β}, Vals (bs.map val) us → PySem.W.EachIs (fun v b => RelV (val b) v) us bs
  | us, [], h => by
    have h' : Vals [] us := h
    cases h'
    exact .nil
  | us, b :: bs, h => by
    have h' : Vals (val b :: bs.map val) us := h
    cases h' with
    | cons h1 h2 => exact .cons h1 (each_vals h2)
theorem vals_each {β : Type} {val : β → V} : ∀ {us : List Value} {bs : List β}, PySem.W.EachIs (fun v b => RelV (val b) v) us bs → Vals (bs.map val) us
  | _, _, .nil => .nil
  | _, _, .cons h t => .cons h (vals_each t)
theorem call_sortB {X : Cx} {β : Type} {enc : β → PyData} {val : β → V} (hu : X.A.units + 64 < cLine) : CallR X (.builtin "sorted") (rSortB enc val X.K) := by
  intro pins s σ H vs us Q I r h
  obtain ⟨a, bs, rfl, hs, hd, al, so, dp, q⟩ := h
  obtain ⟨its, rv, hl, hz⟩ := I.list hs
  rw [Vals.ref1 r]
  have e := each_vals rv
  have hlen : bs.length ≤ sizeLine := by rw [List.length_map] at hz; exact hz
  refine PySem.W.sorted_data (vs := its) (bs := bs) (enc := enc) (R := fun v b => RelV (val b) v) hl.isList e ((PySem.W.each_mem e).mono fun v b z => Dp.reads I (enc b) (val b) v (hd b z.2) z.1) al so hlen (fun b m => by have := dp b m; omega) fun out ho e2 => ?_
  obtain ⟨ep, he'⟩ := PyProof.Rows.sortedAll_at s.heap its out.toArray
  have hv : Vals ((bs.mergeSort (PySem.W.dataLe false enc)).map val) out := vals_each e2
  refine ⟨.ref _, upd H (s.heap.objs.size + 1) (.lst ((bs.mergeSort (PySem.W.dataLe false enc)).map val)), I.laid (t' := s.toks) (fun _ _ => PyProof.Rows.sortedAll_old) (Nat.le_succ _) ⟨?_, out, ep, hv, ?_⟩, rfl, q _ (I.hok.fresh (Nat.le_succ _))⟩
  · rw [hv.length, ho]
    exact hlen
  · simpa using he'
/-! ### enumerate over a tuple -/
def IteT (K : PySem.W.Frag) (a : Addr) : It :=
  ⟨fun i H => ∃ (xs : List V) (x : V), SqT K H a xs ∧ xs[i]? = some x, fun i H v H' => ∃ T x, v = .ref T ∧ H T = none ∧ H' = upd H T (.tup [.int (i : Nat), x]) ∧ ∀ xs, SqT K H a xs → xs[i]? = some x, fun i H => ∃ xs : List V, SqT K H a xs ∧ xs.length = i⟩
theorem turn_enumT {P : Program} {w : World} {K : PySem.W.Frag} {elts : List Expr} {kk : Nat} {tpos : Pos} (a e it : Addr) :
    Turn P w K (.Tuple elts kk tpos) (IteT K a) [e, it] e (fun i h => (∃ old, IsEnum h e it ((i : Nat) : Int) old) ∧ h.IsTupleIter it a i ∧ e ≠ it ∧ e ≠ a ∧ a ≠ it) where
  mem := by simp
  obj := fun i h st b hb => by
    obtain ⟨⟨old, he⟩, ⟨o, ho, hc, hd⟩, _⟩ := st
    have e' : b = e ∨ b = it := by simpa using hb
    rcases e' with z | z
    · rw [z]; exact ⟨_, he, fun v q => nomatch q⟩
    · rw [z]; exact ⟨o, ho, fun v q => by rw [hd] at q; cases q⟩
  keep := fun i h h' st k => let ⟨⟨old, he⟩, hi, hne⟩ := st; ⟨⟨old, k e (by simp) _ he⟩, hi.at fun o q => k it (by simp) o q, hne⟩
  item := by
    intro X hP hw hK hc i pins s σ H E I hf st hg
    subst hP hw hK
    obtain ⟨⟨old, he⟩, hit, hne, hea, hai⟩ := st
    obtain ⟨xs, x, hq, hx⟩ := hg
    obtain ⟨its, rv, p, hz⟩ := I.tuple hq
    obtain ⟨u, hu, ru⟩ := rv.get hx
    have hel : e < s.heap.objs.size := Heap.lt_size he
    have hil : it < s.heap.objs.size := by obtain ⟨_, q, _⟩ := hit; exact Heap.lt_size q
    have ilt : i < its.length := (List.getElem?_eq_some_iff.mp hu).1
    refine wpAny_pyNext_enum_itemD (P := fun i v => its.toArray[i]? = some v) (St := fun i h => h.IsTupleIter it a i ∧ h.IsTuple a its.toArray) (n := its.toArray.size) (Draws.tuple (A := X.A.in1) (I.ok.hd hc) it a hai its.toArray) he ⟨hit, p⟩ (by simpa using ilt) hne (by simp [hne, hea]) fun y h' tk hy ho hst hT hsz hk => ?_
    obtain ⟨hit', _⟩ := hst
    have ey : y = u := by
      have z : its[i]? = some y := by simpa using hy
      rw [hu] at z
      exact (Option.some.inj z).symm
    subst ey
    refine ⟨_, rfl, wpAny_letOwnedTupleGo_enum (s := { s with heap := h', toks := tk + 1 }) ho fun h'' he' sb => ?_⟩
    have hT2 : h''.get? s.heap.objs.size = some { cls := .type "tuple", data := .seq #[.int i tk, y] } := (sb.2 _ (Nat.ne_of_gt hel)).trans hT
    have new : ObjOk X.prog X.w (upd H s.heap.objs.size (.tup [.int (i : Nat), x])) h'' s.heap.objs.size (.tup [.int (i : Nat), x]) :=
      ⟨by show 2 ≤ sizeLine; decide, [.int i tk, y], .cons ⟨_, rfl⟩ (.cons ru .nil), ⟨_, hT2, rfl, _, rfl⟩⟩
    have I1 : Inv X pins σ (upd H s.heap.objs.size (.tup [.int (i : Nat), x])) { s with heap := h'', toks := tk + 1 } :=
      I.turnedNew (ch := [e, it]) (fun b ob hb q => (sb.2 b (fun z => hb (by simp [z]))).trans (hk b ob (fun z => hb (by simp [z])) (fun z => hb (by simp [z])) q)) hf (Nat.le_refl _) new
    refine ⟨.ref s.heap.objs.size, _, I1, rfl, ⟨_, x, rfl, I.hok.fresh (Nat.le_refl _), rfl, fun ys hy => by rw [I.tuple_inj hy hq]; exact hx⟩, ⟨⟨y, ?_⟩, hit'.at fun o q => (sb.2 it (Ne.symm hne)).trans q, hne, hea, hai⟩, fun b hb => ?_⟩
    · have e1 : ((i + 1 : Nat) : Int) = (i : Int) + 1 := by omega
      rw [e1]; exact he'
    · have hb' : b < s.heap.objs.size := by
        have e' : b = e ∨ b = it := by simpa using hb
        rcases e' with z | z
        · rw [z]; exact hel
        · rw [z]; exact hil
      rw [upd_ne (Nat.ne_of_lt hb')]
      exact (hf b hb).1
  done := by
    intro X hP hw hK hc i pins s σ H E I hf st hg
    subst hP hw hK
    obtain ⟨⟨old, he⟩, hit, hne, hea, hai⟩ := st
    obtain ⟨xs, hq, hx⟩ := hg
    obtain ⟨its, rv, p, hz⟩ := I.tuple hq
    obtain ⟨f0, f1, f2, f3, f4, f5⟩ := hf it (by simp)
    have hl := rv.length
    have e0 : its.toArray.size = i := by simp; omega
    subst e0
    exact wpAny_pyNext_enum_endD (Draws.tuple (A := X.A.in1) (I.ok.hd hc) it a hai its.toArray) he ⟨hit, p⟩ fun h' eb => ⟨rfl, I.turned (t' := s.toks) (fun b o hb q => eb b o hb q) f0 f1 f3 f4 f5⟩
  self := fun A i s Q E st h => let ⟨⟨_, he⟩, _⟩ := st; wpAny_pyIter_enum he h
theorem meets_enumerate_newT (l : Addr) (items : Array Value) (n : Nat) (dct : Option Addr) (sl : Array (Option Value)) :
    Meets (Builtin.«enumerate.__new__» ⟨[.type "enumerate", .ref l], []⟩) (fun _ R s => s.heap.get? l = some { cls := .type "tuple", dict := dct, data := .seq items n, slots := sl } ∧
      R (.ok (.ret (.ref (s.heap.push { cls := .type "tuple_iterator", data := .fields #[.ref l, .int 0 0] }).objs.size)))
        { s with heap := (s.heap.push { cls := .type "tuple_iterator", data := .fields #[.ref l, .int 0 0] }).push { cls := .type "enumerate", data := .fields #[.none, .bool false, .ref s.heap.objs.size, rawInt 0, .none, .none] } }) :=
  .of_wp fun prog w A R s h => by
    obtain ⟨hp, g, d, tk, os⟩ := s; obtain ⟨hl, h⟩ := h
    have hsub := sub_enumerate
    have hL : Heap.IsTuple (Shared.heap ⟨hp, g, d, tk, os⟩) l items := ⟨_, hl, rfl, n, rfl⟩
    wp_walk using wpAny_loadPart' hl
    refine wpAny_stack_any fun st => wpAny_pure ?_
    split
    · rename_i c _ _ _ _ _
      cases (c == Value.type "enumerate")
      · wp_walk using wpAny_loadPart' hl, wpAny_pyIter_tuple hL
        exact ⟨_, rfl, h⟩
      · wp_walk using wpAny_loadPart' hl, wpAny_pyIter_tuple hL
        exact ⟨_, rfl, h⟩
    · wp_walk using wpAny_loadPart' hl, wpAny_pyIter_tuple hL
      exact ⟨_, rfl, h⟩
theorem call_enumerate_tuple {prog : Program} {w : World} {A : Around} {E : Value → Shared → Prop} {s : Shared} {l : Addr} {items : Array Value} {Q : Value → Shared → Prop} (hL : s.heap.IsTuple l items)
    (h : ∀ h', IsEnum h' (s.heap.objs.size + 1) s.heap.objs.size 0 .none → h'.IsTupleIter s.heap.objs.size l 0 → h'.objs.size = s.heap.objs.size + 2 →
      (∀ b o, s.heap.get? b = some o → h'.get? b = some o) → Q (.ref (s.heap.objs.size + 1)) { s with heap := h' }) :
    wpAny (model prog w) A (call (.type "enumerate") [.ref l]) Q E s := by
  obtain ⟨⟨c, dct, dt, sl⟩, hl, hc, n, hd⟩ := hL
  replace hc : c = .type "tuple" := hc
  replace hd : dt = .seq items n := hd
  subst hc hd
  refine callType_new F.called_enumerate (by decide) (F.typeCall_enumerate_1 _) (F.newCall_enumerate_1 _) (fun obj => F.args_object_init_2 obj _) F.entry_enumerate_new
    (meets_enumerate_newT l items n dct sl) ⟨hl, ?_⟩
  have hz : (s.heap.push { cls := .type "tuple_iterator", data := .fields #[.ref l, .int 0 0] }).objs.size = s.heap.objs.size + 1 := Heap.size_push ..
  show _ ∧ _
  rw [hz]
  have he : IsEnum ((s.heap.push { cls := .type "tuple_iterator", data := .fields #[.ref l, .int 0 0] }).push
      { cls := .type "enumerate", data := .fields #[.none, .bool false, .ref s.heap.objs.size, rawInt 0, .none, .none] }) (s.heap.objs.size + 1) s.heap.objs.size 0 .none := by
    have := Heap.get?_push_size (s.heap.push { cls := .type "tuple_iterator", data := .fields #[.ref l, .int 0 0] })
      (o := { cls := .type "enumerate", data := .fields #[.none, .bool false, .ref s.heap.objs.size, rawInt 0, .none, .none] }) rfl
    rw [hz] at this; exact this
  refine ⟨⟨_, he, rfl⟩, h _ he ⟨_, Heap.get?_push_of_some _ (Heap.get?_push_size _ rfl), rfl, rfl⟩ (by rw [Heap.size_push, hz]) fun b o x => Heap.get?_push_of_some _ (Heap.get?_push_of_some _ x)⟩
def iEnumT (K : PySem.W.Frag) (ta : TA) : TI := fun σ H R => ta σ H fun vs H1 => ∃ a xs, vs = [.ref a] ∧ SqT K H1 a xs ∧ R (IteT K a) H1
theorem pi_enumT {X : Cx} {e : Expr} {ta : TA} {p pos tpos : Pos} {elts : List Expr} {kk : Nat} (hg : Gl X "enumerate") (hm : X.mg "enumerate" = none) (ha : PA X [e] ta) (hs : starEach [e] X.env = [(false, eval e X.env)] := by rfl) :
    PI X (.Tuple elts kk tpos) (.Call (.Name "enumerate" p) [e] [] pos) (iEnumT X.K ta) := by
  refine ⟨fun pins s σ H R I h => ?_⟩
  refine Call_ (ld_blt I hg hm boot_enumerate (PyProof.Rows.callWith_type1 (thn (ha.run pos pins s σ H _ I h) fun us s1 ⟨vs, H1, I1, r1, q1⟩ => ?_) hs rfl))
  obtain ⟨a, xs, ex, hq, q⟩ := q1
  subst ex
  cases r1 with
  | cons r rr =>
    cases rr
    cases r
    obtain ⟨its, rv, p', hz⟩ := I1.tuple hq
    have hal : a < s1.heap.objs.size := by
      obtain ⟨o, ho, _⟩ := id p'
      exact Heap.lt_size ho
    refine call_enumerate_tuple p' fun h' he hit hsz hk => wpAny_pyIter_enum he ?_
    have I2 : Inv X pins σ H1 { s1 with heap := h' } := I1.kept (t' := s1.toks) hk
    refine ⟨s1.heap.objs.size + 1, [s1.heap.objs.size + 1, s1.heap.objs.size], _, _, H1, rfl, I2, turn_enumT a (s1.heap.objs.size + 1) s1.heap.objs.size, ⟨⟨.none, he⟩, hit, Nat.succ_ne_self _, Nat.ne_of_gt (Nat.lt_succ_of_lt hal), Nat.ne_of_lt hal⟩, fun b hb => ?_, q⟩
    have e' : b = s1.heap.objs.size + 1 ∨ b = s1.heap.objs.size := by simpa using hb
    have hle : s1.heap.objs.size ≤ b := by
      rcases e' with z | z
      · rw [z]; exact Nat.le_add_right _ _
      · rw [z]; exact Nat.le_refl _
    exact I1.fpOk hle (I1.hok.fresh hle)
end Ek

namespace Ek
open PySem PySem.Spec PyProof.Rows L2 RZ
/-! ### sum of a tuple of ints -/
def rSumT (K : PySem.W.Frag) : List V → Hp → VK → Prop := fun vs H Q => ∃ (a : Addr) (ns : List Int), vs = [V.ref a] ∧ SqT K H a (ns.map V.int) ∧ Q (.int ns.sum) H
theorem sum_rawT {prog : Program} {w : World} {A : Around} {E : Value → Shared → Prop} {s : Shared} {l : Addr} {its : List Value} {ns : List Int} {Q : Value → Shared → Prop} (hh : A.handled = none) (hl : s.heap.IsTuple l its.toArray) (hi : IntsAre its ns)
    (h : ∀ h' tk t', (∀ b o, s.heap.get? b = some o → h'.get? b = some o) → Q (.int ns.sum t') { s with heap := h', toks := tk }) : wpAny (model prog w) A (call (.builtin "sum") [.ref l]) Q E s := by
  obtain ⟨xs, e⟩ := hi.allInts.items
  have hn : numsOf (intItems xs).toList = ns := by rw [← e]; exact hi.numsOf
  rw [nums_intItems] at hn
  rw [e] at hl
  refine PySem.W.ktm_sumG hh hl fun h' tk t' hk => ?_
  have := h h' tk t' hk
  rw [preSum_eq, List.take_of_length_le (by simp), hn]; exact this
theorem cr_sumT {X : Cx} (hc : X.calm = true) : CallR X (.builtin "sum") (rSumT X.K) := by
  intro pins s σ H vs us Q I r h
  obtain ⟨a, ns, rfl, hs, q⟩ := h
  obtain ⟨its, rv, hl, _⟩ := I.tuple hs
  rw [Vals.ref1 r]
  exact sum_rawT (I.ok.hd hc) hl rv.ints fun h' tk t' hk => ⟨.int _, H, I.kept hk, ⟨_, rfl⟩, q⟩
/-- a comprehension over zip of two tuples -/
theorem lc_zipT {K : PySem.W.Frag} {a b : Addr} {xs ys : List V} {g : TG} {tt : TT} {te : TE} {vs : List Nat} {σ : L2.St} {H1 : Hp} {D : Addr} {Qd : Hp → Prop} (Pv : Nat → Hp → Prop) (h0 : Pv 0 (upd H1 D (.lst []))) (hl : ∀ i H, i ≤ xs.length → Pv i H → SqT K H a xs ∧ SqT K H b ys) (hxy : xs.length = ys.length)
    (hs : ∀ i x y H T, xs[i]? = some x → ys[i]? = some y → Pv i H → H T = none → g (.ref T) (wipe σ vs) (upd H T (.tup [x, y])) fun σ2 H2 => wipe σ2 vs = wipe σ vs ∧ tt σ2 H2 fun b H3 =>
      if b = true then te σ2 H3 fun y H4 => ∃ acc, H4 D = some (.lst acc) ∧ acc.length < sizeLine ∧ Pv (i + 1) (upd H4 D (.lst (acc ++ [y]))) else Pv (i + 1) H3) (hd : ∀ H, Pv xs.length H → Qd H) :
    ∃ W : Nat → Nat → Hp → Prop, (∃ m, W 0 m (upd H1 D (.lst []))) ∧ ∀ i m H, W i m H →
      ((ItzT K a b).stop i H ∧ Qd H) ∨ ((ItzT K a b).go i H ∧ ∃ Nx : Hp → Prop, (∀ H', Nx H' → ∃ m', m' < m ∧ W (i + 1) m' H') ∧ ∀ x H', (ItzT K a b).yld i H x H' → g x (wipe σ vs) H' fun σ2 H2 => wipe σ2 vs = wipe σ vs ∧ tt σ2 H2 fun b H3 =>
        if b = true then te σ2 H3 fun y H4 => ∃ acc, H4 D = some (.lst acc) ∧ acc.length < sizeLine ∧ Nx (upd H4 D (.lst (acc ++ [y]))) else Nx H3) := by
  refine ⟨fun i m H => i + m = xs.length ∧ Pv i H, ⟨xs.length, by omega, h0⟩, fun i m H ⟨em, p⟩ => ?_⟩
  obtain ⟨q1, q2⟩ := hl i H (by omega) p
  by_cases lt : i < xs.length
  · have lt2 : i < ys.length := by omega
    refine .inr ⟨⟨xs, ys, xs[i], ys[i], q1, q2, List.getElem?_eq_getElem lt, List.getElem?_eq_getElem lt2⟩, Pv (i + 1), fun H' p' => ⟨m - 1, by omega, by omega, p'⟩, fun x H' y => ?_⟩
    obtain ⟨T, x1, y1, rfl, nT, rfl, gx, gy⟩ := y
    exact hs i x1 y1 H T (gx xs q1) (gy ys q2) p nT
  · obtain rfl : i = xs.length := by omega
    exact .inl ⟨⟨xs, ys, q1, q2, .inl (Nat.le_refl _)⟩, hd H p⟩
/-- for a, b in enumerate(t) -/
theorem for_enumT {K : PySem.W.Frag} {a : Addr} {xs : List V} {g : TG} {tb : TS} {D : Ends} {σ : L2.St} {H : Hp} (Pv : Nat → L2.St → Hp → Prop) (h0 : Pv 0 σ H) (hl : ∀ i σ H, i ≤ xs.length → Pv i σ H → SqT K H a xs)
    (hs : ∀ i x σ H T, xs[i]? = some x → Pv i σ H → H T = none → g (.ref T) σ (upd H T (.tup [.int (i : Nat), x])) fun σ2 H2 => tb { D with nx := Pv (i + 1), ct := Pv (i + 1), bk := D.nx } σ2 H2) (hd : ∀ σ H, Pv xs.length σ H → D.nx σ H) :
    ∃ W : Nat → Nat → L2.St → Hp → Prop, (∃ m, W 0 m σ H) ∧ ∀ i m σ H, W i m σ H →
      ((IteT K a).stop i H ∧ D.nx σ H) ∨ ((IteT K a).go i H ∧ ∃ N : L2.St → Hp → Prop, (∀ σ' H', N σ' H' → ∃ m', m' < m ∧ W (i + 1) m' σ' H') ∧ ∀ x H', (IteT K a).yld i H x H' → g x σ H' fun σ2 H2 => tb { D with nx := N, ct := N, bk := D.nx } σ2 H2) := by
  refine ⟨fun i m σ H => m = xs.length - i ∧ i ≤ xs.length ∧ Pv i σ H, ⟨xs.length, by simp, Nat.zero_le _, h0⟩, ?_⟩
  rintro i m σ H ⟨rfl, hi, p⟩
  have q := hl i σ H hi p
  by_cases hlt : i < xs.length
  · refine .inr ⟨⟨xs, xs[i], q, by simp [hlt]⟩, Pv (i + 1), fun σ' H' p' => ⟨xs.length - (i + 1), by omega, rfl, hlt, p'⟩, fun x H' y => ?_⟩
    obtain ⟨T, x1, rfl, nT, rfl, gx⟩ := y
    exact hs i x1 σ H T (gx xs q) p nT
  · have e : i = xs.length := by omega
    subst e
    exact .inl ⟨⟨xs, q, rfl⟩, hd σ H p⟩
theorem find_at {α : Type} {f : α → Bool} {l : List α} {j : Nat} {x : α} (h : l[j]? = some x) (n : (l.take j).find? f = none) (c : f x = true) : l.find? f = some x := by
  have e : l = l.take j ++ x :: l.drop (j + 1) := by
    have := List.getElem?_eq_some_iff.mp h
    obtain ⟨lt, hx⟩ := this
    rw [← hx, ← List.drop_eq_getElem_cons lt, List.take_append_drop]
  rw [e, List.find?_append, n, List.find?_cons_of_pos c]
  rfl
theorem find_no {α : Type} {f : α → Bool} {l : List α} {j : Nat} {x : α} (h : l[j]? = some x) (n : (l.take j).find? f = none) (c : ¬ f x = true) : (l.take (j + 1)).find? f = none := by
  rw [List.take_add_one, h, List.find?_append, n]
  show (none : Option α).or (List.find? f [x]) = none
  rw [List.find?_cons_of_neg c, List.find?_nil]
  rfl
theorem ru65 {k : Nat} {A : Around} (r : Room k A) : A.units + 65 < cLine := by
  have := r.un
  omega
theorem passE0 {X : Cx} {P : Program} {w : World} : Passes (L2.CX P w) X E0 := fun _ _ _ _ _ _ _ h => by
  obtain ⟨a, B, H', cls, d, _, _, _, _, _, _, _, z⟩ := h
  exact False.elim z
theorem eqv_str {a : Str} : ∀ {d : PyData}, PyData.eqv (.str a) d = true → d = .str a := fun {d} h => by
  cases d with
  | str b =>
    rw [PyData.eqv] at h
    rw [eq_of_beq h]
  | _ => simp [PyData.eqv] at h
end Ek

namespace Ek
open PySem PySem.Spec PyProof.Rows L2
/-! ### calls by name alone; calls whose errors are caught -/
def tCallW (sp : Sp) (E : XK) (t : TA) : TE := fun σ H Q => t σ H fun vs H1 => sp vs H1 Q E
def tCallT (sp : Sp) (E : L2.St → XK) (t : TA) : TE := fun σ H Q => t σ H fun vs H1 => sp vs H1 Q (E σ)
section
variable {X : Cx} {CX : CXT} {x : Str} {f : Addr} {k : Nat} {fd : FuncData} {ps ks : List Str} {sp : Sp} {E : XK} {ES : L2.St → XK} {p pos : Pos} {e : Expr} {es : List Expr} {kws : List Keyword} {ta : TA}
/-- f(k = v, ..) -/
theorem pe_callKw (F : FnOk X.prog X.w X.K X.mg X.base CX k f fd ps sp) (hr : Room k X.A) (hg : Gl X x) (hm : X.mg x = some (.ref f)) (hk : PySem.W.keepIn X.K (.ref f) = true) (hps : ps.length = ks.length) (hb : ∀ (s : Shared) (ws : List Value), ws.length = ks.length → BindsTo s fd ⟨[], ks.zip ws⟩ (ps.zip ws)) (hx : Passes CX X E) (hkw : PK X kws ta)
    (hall : (backToKw pos (keywordEach kws X.env)).all (·.1.isSome) = true := by rfl) (hks : (backToKw pos (keywordEach kws X.env)).filterMap (·.1) = ks := by rfl) (hdb : (x == ("__debug__" : Str)) = false := by decide)
    (hpl : ((backTo pos (starEach [] X.env)).any (·.1) || (backToKw pos (keywordEach kws X.env)).any (·.1.isNone)) = false := by rfl) :
    PE X (.Call (.Name x p) [] kws pos) (tCallW sp E ta) := by
  refine ⟨fun pins s σ H Q I h => ?_⟩
  refine wpAny_Call_Name_kw (ld_glob I hg hm ?_ hdb)
  refine PySem.W.callWith_KW0 (h₀ := X.base) I.ok.mod.kin hk hall ?_ hpl
  refine thn (hkw.run pos pins s σ H _ I h) fun ws s2 ⟨zs, H2, I2, rz, q2⟩ => ⟨I2.kIn, ?_⟩
  rw [hks]
  have hl : ws.length = ks.length := by
    have z := F.len _ _ _ _ q2
    rw [← rz.length]
    exact z.trans hps
  refine wpAny_call (codeAny_mono (F.run X.A X.stack s2 H2 ⟨[], ks.zip ws⟩ ws zs Q E hr I2.env0 (hb s2 ws hl) rz q2) fun r s' z => ?_)
  rcases r with er | (_ | _ | _ | u)
  · exact hx pins σ H2 s2 er s' I2 z
  · exact False.elim z
  · exact False.elim z
  · exact False.elim z
  · exact I2.after z
/-- f(e, ..), its errors caught by the try around it -/
theorem pe_callT (F : FnOk X.prog X.w X.K X.mg X.base CX k f fd ps sp) (hr : Room k X.A) (hg : Gl X x) (hm : X.mg x = some (.ref f)) (hk : PySem.W.keepIn X.K (.ref f) = true) (hb : Binds X.K fd ps []) (hx : ∀ σ, PassesAt CX X σ (ES σ)) (ha : PA X (e :: es) ta)
    (hdb : (x == ("__debug__" : Str)) = false := by decide) (he : starEach (e :: es) X.env = (false, eval e X.env) :: starEach es X.env := by rfl) (hpl : (backTo pos (starEach es X.env)).any (·.1) = false := by rfl) : PE X (.Call (.Name x p) (e :: es) [] pos) (tCallT sp ES ta) := by
  constructor
  intro pins s σ H Q I h
  refine wpAny_Call_Name_kw (ld_glob I hg hm (PySem.W.callWith_K (h₀ := X.base) I.ok.mod.kin hk (thn (ha.run pos pins s σ H _ I h) fun us s1 ⟨vs, H1, I1, r, q⟩ => ⟨I1.kIn, ?_⟩) he hpl) hdb)
  have hl : us.length = ps.length := r.length.symm.trans (F.len _ _ _ _ q)
  have z := hb s1 us I1.kIn (by simpa using hl)
  exact run_S (args := ⟨us, []⟩) (us := us) F hr (by simpa using z) (hx σ) I1 r q
end
end Ek

namespace Ek
open PySem PySem.Spec PyProof.Rows L2
/-! ### len of an object by its own __len__ -/
def rLenOwn (C : Addr) (sp : Sp) (E : XK) : List V → Hp → VK → Prop := fun xs H Q => ∃ (a dx : Addr) (fs : List (Str × V)), xs = [.ref a] ∧ H a = some (.ins C dx fs) ∧ sp [.ref a] H (fun v H' => ∃ n : Nat, v = .int n ∧ n ≤ 1000 ∧ Q v H') E
theorem call_lenOwn {X : Cx} {CX : CXT} {C f : Addr} {fd : FuncData} {ps : List Str} {k : Nat} {sp : Sp} {E : XK} (F : FnOk X.prog X.w X.K X.mg X.base CX k f fd ps sp) (hr : Room (k + 1) X.A) (hs : PySem.W.findIn X.K (.ref C) "__len__" = some (some (.ref f))) (hf : PySem.W.isFn X.K (.ref f) = true)
    (hb : Binds X.K fd ps []) (hx : Passes CX X E) : CallR X (.builtin "len") (rLenOwn C sp E) := by
  intro pins s σ H xs us Q I r h
  obtain ⟨a, dx, fs, rfl, ha, hsp⟩ := h
  rw [Vals.ref1 r]
  obtain ⟨mA, J, _⟩ := ins_get I.hok ha
  obtain ⟨od, J, _⟩ := J.look
  obtain ⟨m, hF⟩ := I.fr
  refine PySem.W.len_K hF I.ok.mod.kin J hs hf ?_
  have r2 : Vals [V.ref a] [Value.ref a] := .cons rfl .nil
  have hl := F.len _ _ _ _ hsp
  refine wpAny_call (codeAny_mono (F.run X.A.in1 X.stack s H ⟨[.ref a], []⟩ [.ref a] [.ref a] _ E hr.in1 I.env0.in1 (by
    have z := hb s [.ref a] I.kIn (by simpa using hl)
    simpa using z) r2 hsp) fun r s' z => ?_)
  rcases r with e | (_ | _ | _ | w)
  · exact hx pins σ H s e s' I z
  · exact False.elim z
  · exact False.elim z
  · exact False.elim z
  · obtain ⟨z, H', I', rz, n, ez, n9, q⟩ := I.after z
    subst ez
    obtain ⟨t, rfl⟩ := rz
    refine ⟨⟨by omega, by omega⟩, .int n, H', I'.tok _, ⟨_, rfl⟩, q⟩
/-! ### defs with parameters by name alone -/
section
variable {K : PySem.W.Frag} {x qual : Str} {params : Arguments} {body : List Stmt} {scope : Scope} {f : Addr} {fd : FuncData}
/-- every value handed in: us by place, ws by name, in order -/
theorem kb_all {v : V} {n : Str} (F : FunD K x qual params body scope [] [(n, v)] f fd) (m : Nat) (ks ps : List Str) (h : ∀ (D : Addr) (doc pm : Value) (an : Option Addr) (cdv ct : Value) (us ws : List Value), us.length = m → ws.length = ks.length →
      bindArgs (PySem.W.fnOf x qual params body scope .none (.ref D) doc pm an cdv ct) ⟨us, ks.zip ws⟩ = pure (ps.zip (us ++ ws))) : KBn K fd ps m ks (fun us ws => us ++ ws) (fun vs zs => vs ++ zs) := by
  obtain ⟨oc, od, dV, kV, doc, pm, an, cdv, ct, osl, rfl, lk, hcd, hD, hK⟩ := F.ex
  rcases hD with ⟨_, rfl⟩ | ⟨e, _⟩
  · rcases hK with e | ⟨D, rfl, hq⟩
    · exact absurd e (List.cons_ne_nil _ _)
    · refine ⟨fun s us ws X l1 l2 => BindsTo.of_looks fun M => PySem.W.Looks.of_pure (h D doc pm an cdv ct us ws l1 l2), fun r1 r2 => r1.append r2⟩
  · exact absurd rfl e
/-- the same, no value by place -/
theorem kw_all {v : V} {n : Str} (F : FunD K x qual params body scope [] [(n, v)] f fd) (ks : List Str) (h : ∀ (D : Addr) (doc pm : Value) (an : Option Addr) (cdv ct : Value) (ws : List Value), ws.length = ks.length →
      bindArgs (PySem.W.fnOf x qual params body scope .none (.ref D) doc pm an cdv ct) ⟨[], ks.zip ws⟩ = pure (ks.zip ws)) : ∀ (s : Shared) (ws : List Value), ws.length = ks.length → BindsTo s fd ⟨[], ks.zip ws⟩ (ks.zip ws) := by
  obtain ⟨oc, od, dV, kV, doc, pm, an, cdv, ct, osl, rfl, lk, hcd, hD, hK⟩ := F.ex
  rcases hD with ⟨_, rfl⟩ | ⟨e, _⟩
  · rcases hK with e | ⟨D, rfl, hq⟩
    · exact absurd e (List.cons_ne_nil _ _)
    · exact fun s ws l2 => BindsTo.of_looks fun M => PySem.W.Looks.of_pure (h D doc pm an cdv ct ws l2)
  · exact absurd rfl e
/-- the keyword-only value left out -/
theorem kb_dfl {v : V} {n : Str} (F : FunD K x qual params body scope [] [(n, v)] f fd) (m : Nat) (ps : List Str) (hn : m + 1 = ps.length) (h : ∀ (D : Addr) (doc pm : Value) (an : Option Addr) (cdv ct : Value) (us : List Value) (k : Value), us.length = m →
      KwChain D [(n, k)] (bindArgs (PySem.W.fnOf x qual params body scope .none (.ref D) doc pm an cdv ct) ⟨us, []⟩) (ps.zip (us ++ [k]))) : ∃ ds, Vals [v] ds ∧ Binds K fd ps ds := by
  refine FunD.binds0 F m (List.cons_ne_nil _ _) hn fun D doc pm an cdv ct us ks l1 l2 => ?_
  match ks, l2 with
  | [k], _ => exact h D doc pm an cdv ct us k l1
end
theorem pe_fldk {X : Cx} {e : Expr} {n : Str} {pos : Pos} {ta : TE} (K : PySem.W.Frag) (hK : X.K = K) (he : PE X e ta) (hb : attributeBase e n X.env (eval e X.env) = eval e X.env := by rfl) : PE X (.Attribute e n pos) (tFld K ta n) := by
  subst hK
  exact pe_fld he hb
end Ek

namespace Ek
open PySem PySem.Spec PyProof.Rows L2
/-! ### tuples whose own dict is known to be none: laid frozen -/
def tTupF (t : TA) : TE := fun σ H Q => t σ H fun xs H1 => xs.length ≤ sizeLine ∧ ∀ p o, o.dict = none → H1 p = none → Q (.ref p) (upd H1 p (.frz o (.tup xs)))
theorem pe_tupF {X : Cx} {es : List Expr} {t : TA} {x1 : Nat} {pos : Pos} (h : PA X es t) : PE X (.Tuple es x1 pos) (tTupF t) := by
  refine ⟨fun pins s σ H Q I hq => ?_⟩
  refine wpAny_Tuple_spliced (thn (h.run pos pins s σ H _ I hq) fun us s1 ⟨xs, H1, I1, r, z, q⟩ => ⟨by rw [← r.length]; exact z, ?_⟩)
  have hf : H1 s1.heap.objs.size = none := I1.hok.fresh (Nat.le_refl _)
  refine ⟨.ref s1.heap.objs.size, upd H1 s1.heap.objs.size (.frz { cls := .type "tuple", data := .seq us.toArray } (.tup xs)), I1.laid (t' := s1.toks) (fun b u e => Heap.get?_push_of_some _ e) (Nat.le_refl _) ?_, rfl, q _ _ rfl hf⟩
  exact ⟨Heap.get?_push_size _ rfl, z, us, r, ⟨_, Heap.get?_push_size _ rfl, rfl, _, rfl⟩⟩
def rCatF (K : PySem.W.Frag) : R2 := fun x y H Q => ∃ a b xs ys, x = .ref a ∧ y = .ref b ∧ SqT K H a xs ∧ SqT K H b ys ∧ xs.length + ys.length ≤ sizeLine ∧
  (xs = [] → Q (.ref b) H) ∧ (xs ≠ [] → ys = [] → Q (.ref a) H) ∧ (xs ≠ [] → ys ≠ [] → ∀ p o, o.dict = none → H p = none → Q (.ref p) (upd H p (.frz o (.tup (xs ++ ys)))))
theorem op_catF {X : Cx} : OpR X (binaryOp .Add) (rCatF X.K) := by
  intro pins s σ H x y v u Q I rx ry h
  obtain ⟨a, b, xs, ys, rfl, rfl, ha, hb, hz, q0, q1, q2⟩ := h
  by_cases hx : xs = []
  · exact op_catA pins s σ H _ _ v u Q I rx ry ⟨a, b, xs, ys, rfl, rfl, ha, hb, hz, q0, fun z => absurd hx z, fun z => absurd hx z⟩
  · cases rx
    cases ry
    obtain ⟨its, r1, p1, _⟩ := I.tuple ha
    obtain ⟨its2, r2, p2, _⟩ := I.tuple hb
    refine HT.cat_tup p1 p2 (fun z => hx (r1.nil_iff.mp z)) (fun z => ⟨.ref a, H, I, rfl, q1 hx (r2.nil_iff.mp z)⟩) (fun z => ?_) (by rw [← r1.length, ← r2.length]; exact hz)
    refine ⟨.ref s.heap.objs.size, _, I.laid (t' := s.toks) (o := .frz { cls := .type "tuple", data := .seq (its ++ its2).toArray } (.tup (xs ++ ys))) (fun b ob q => Heap.get?_push_of_some _ q) (Nat.le_refl _) ?_, rfl, q2 hx (fun w => z (r2.nil_iff.mpr w)) _ _ rfl (I.hok.fresh (Nat.le_refl _))⟩
    exact ⟨Heap.get?_push_size _ rfl, by rw [List.length_append]; exact hz, _, r1.append r2, IsTup.new _ _⟩
theorem op_catFk {X : Cx} (K : PySem.W.Frag) (hK : X.K = K) : OpR X (binaryOp .Add) (rCatF K) := hK ▸ op_catF
/-- t.count(n) of such a tuple of whole numbers -/
def rCountF (K : PySem.W.Frag) : V → List V → Hp → VK → Prop := fun x vs H Q => ∃ (l : Addr) (ns : List Int) (i : Int), x = .ref l ∧ vs = [.int i] ∧ SqT K H l (ns.map V.int) ∧ Q (.int (((ns.map PyData.int).countP fun y => PyData.eqv y (.int i) : Nat) : Int)) H
theorem plain_ints : ∀ {ns : List Int}, PyData.plainAll (ns.map PyData.int) = true
  | [] => by simp [PyData.plainAll]
  | n :: ns => by simp only [List.map_cons, PyData.plainAll, PyData.plain, plain_ints, Bool.and_self]
theorem dp_intsF {K : PySem.W.Frag} {H : Hp} : ∀ {ns : List Int}, DpAll K H (ns.map V.int) (ns.map PyData.int)
  | [] => .nil
  | n :: ns => .cons (.int n) dp_intsF
theorem mt_countF {X : Cx} (hu : X.A.units + 65 < cLine) : MtM X "tuple.count" (rCountF X.K) := by
  intro pins s σ H x vs v us Q I rx rv h
  obtain ⟨l, ns, i, rfl, rfl, hS, q⟩ := h
  cases rx
  obtain ⟨u, rfl, ru⟩ := rv.one
  obtain ⟨its, r, hl, _⟩ := I.tuple hS
  obtain ⟨as, r1⟩ := Dp.readsAll I (ns.map .int) (ns.map V.int) its dp_intsF r
  obtain ⟨bs, r2⟩ := Dp.reads I (.int i) (.int i) u (.int i) ru
  exact SeqAt.count_tuple_data hl (by simpa using r1) r2 plain_ints (by simp only [PyData.plain]) (by simp only [PyData.depth, Nat.min_zero, Nat.zero_min]; omega) ⟨.int _, H, I.kept (fun _ _ h => h), ⟨_, rfl⟩, q⟩
def tBMF (r : V → List V → Hp → VK → Prop) (to : TE) (t : TA) : TE := fun σ H Q => to σ H fun x H1 => (∃ p o xs, x = .ref p ∧ o.dict = none ∧ H1 p = some (.frz o (.tup xs))) ∧ t σ H1 fun xs H2 => r x xs H2 Q
theorem pe_bmF {X : Cx} {o e : Expr} {es : List Expr} {to : TE} {t : TA} {name : Str} {apos cpos : Pos} {id : String} {r : V → List V → Hp → VK → Prop} (pa : PlainAttrs "tuple") (slot : Slot "tuple" name id) (hty : typeOf (.builtin id) = pure (.type "method_descriptor")) (hm : MtM X id r) (ho : PE X o to) (ha : PA X (e :: es) t)
    (hbase : attributeBase o name X.env (eval o X.env) = eval o X.env := by rfl)
    (hfew : ((backTo cpos (starEach (e :: es) X.env)).all (fun x => !x.1) && (backToKw cpos (keywordEach [] X.env)).all (fun x => x.1.isSome)
      && decide ((e :: es).length + ([] : List Keyword).length + (if ([] : List Keyword).isEmpty then 0 else 1) < 30)) = true := by rfl)
    (hline : (apos.endLine == cpos.line) = true := by rfl) (hs : starEach (e :: es) X.env = (false, eval e X.env) :: starEach es X.env := by rfl) (hplain : (backTo cpos (starEach es X.env)).any (·.1) = false := by rfl) :
    PE X (.Call (.Attribute o name apos) (e :: es) [] cpos) (tBMF r to t) := by
  refine ⟨fun pins s σ H Q I h => ?_⟩
  refine wpAny_Call_method_late hbase hfew hline rfl (thn (ho.run pins s σ H _ I h) fun v s1 ⟨x, H1, I1, r1, ty, q1⟩ => ?_)
  obtain ⟨p, ob, xs, rfl, hd, hp⟩ := ty
  cases r1
  obtain ⟨e1, z, its, rv, ob2, e2, c2, _⟩ := (show ObjOk X.prog X.w H1 s1.heap p (.frz ob (.tup xs)) from I1.hok p _ hp)
  have h1 : s1.TypeIs (.ref p) "tuple" := ⟨ob2, e2, c2⟩
  have h2 : ∀ a, Value.ref p = .ref a → ∃ ob, s1.heap.get? a = some ob ∧ ob.dict = none := fun a e => by
    cases e
    exact ⟨ob, e1, hd⟩
  refine ⟨"tuple", id, pa, slot, hty, h1, h2, ?_⟩
  have hA := ha.run cpos pins s1 σ H1 _ I1 q1
  rw [hs] at hA ⊢
  refine Calls.callWith_builtin (by show (false || (backTo cpos (starEach es X.env)).any (·.1)) = false; rw [hplain] <;> rfl) (Calls.evalArgs_plain ?_)
  exact thn hA fun us s2 ⟨vs, H2, I2, r2, q2⟩ => hm pins s2 σ H2 (.ref p) vs (.ref p) us Q I2 rfl r2 q2
/-- what is known of a frozen tuple is let go -/
def tForget (H0 : Hp) (te : TE) : TE := fun σ H Q => (∃ a o xs, H a = some (.frz o (.tup xs)) ∧ (∀ o' u', H0 a ≠ some (.frz o' u')) ∧ te σ (upd H a (.tup xs)) Q) ∨ te σ H Q
theorem pe_forget {X : Cx} {e : Expr} {te : TE} (h : PE X e te) : PE X e (tForget X.H_0 te) := by
  refine ⟨fun pins s σ H Q I hq => ?_⟩
  rcases hq with ⟨a, o, xs, ha, hn, q⟩ | q
  · exact h.run pins s σ (upd H a (.tup xs)) Q (I.unlock ha hn) q
  · exact h.run pins s σ H Q I q
end Ek

namespace CC
open PySem PySem.Spec PyProof.Rows L2 Ek
def topS (i : Nat) : Stmt := PySem.Challenge.pw_cutorall_k13_papers_of_sides.main.body.getD i (.Pass ⟨0, 0, 0, 0⟩)
abbrev sII : Stmt := topS 2
abbrev NII : List Str := ["value"]
theorem scII : FnScope NII ["value"] (defScope sII) := ⟨rfl, rfl, rfl, by decide +kernel, rfl, by decide +kernel, by decide +kernel⟩

abbrev sIB : Stmt := topS 3
abbrev NIB : List Str := ["value", "limit"]
theorem scIB : FnScope NIB ["value", "limit"] (defScope sIB) := ⟨rfl, rfl, rfl, by decide +kernel, rfl, by decide +kernel, by decide +kernel⟩

abbrev sIV : Stmt := topS 4
abbrev NIV : List Str := ["value"]
theorem scIV : FnScope NIV ["value"] (defScope sIV) := ⟨rfl, rfl, rfl, by decide +kernel, rfl, by decide +kernel, by decide +kernel⟩

abbrev sIS : Stmt := topS 5
abbrev NIS : List Str := ["value"]
theorem scIS : FnScope NIS ["value"] (defScope sIS) := ⟨rfl, rfl, rfl, by decide +kernel, rfl, by decide +kernel, by decide +kernel⟩

abbrev sIQ : Stmt := topS 6
abbrev NIQ : List Str := ["value"]
theorem scIQ : FnScope NIQ ["value"] (defScope sIQ) := ⟨rfl, rfl, rfl, by decide +kernel, rfl, by decide +kernel, by decide +kernel⟩

abbrev sIR : Stmt := topS 7
abbrev NIR : List Str := ["value", "size", "member"]
theorem scIR : FnScope NIR ["value", "size"] (defScope sIR) := ⟨rfl, rfl, rfl, by decide +kernel, rfl, by decide +kernel, by decide +kernel⟩

abbrev sRO : Stmt := topS 8
abbrev NRO : List Str := ["size", "rows", "_", "row", "value"]
theorem scRO : FnScope NRO ["size"] (defScope sRO) := ⟨rfl, rfl, rfl, by decide +kernel, rfl, by decide +kernel, by decide +kernel⟩

abbrev sRN : Stmt := topS 9
abbrev NRN : List Str := ["row", "number", "value"]
theorem scRN : FnScope NRN ["row"] (defScope sRN) := ⟨rfl, rfl, rfl, by decide +kernel, rfl, by decide +kernel, by decide +kernel⟩

abbrev sAA : Stmt := topS 40
abbrev NAA : List Str := ["value", "size", "amount"]
theorem scAA : FnScope NAA ["value", "size"] (defScope sAA) := ⟨rfl, rfl, rfl, by decide +kernel, rfl, by decide +kernel, by decide +kernel⟩

abbrev sPI : Stmt := inClass (topS 41) 0
abbrev NPI : List Str := ["self", "size", "amounts"]
theorem scPI : FnScope NPI ["self", "size", "amounts"] (defScope sPI) := ⟨rfl, rfl, rfl, by decide +kernel, rfl, by decide +kernel, by decide +kernel⟩

abbrev sPC : Stmt := inClass (topS 41) 2
abbrev NPC : List Str := ["self", "row"]
theorem scPC : FnScope NPC ["self", "row"] (defScope sPC) := ⟨rfl, rfl, rfl, by decide +kernel, rfl, by decide +kernel, by decide +kernel⟩

abbrev sXN : Stmt := inClass (topS 12) 0
abbrev NXN : List Str := ["self", "value"]
theorem scXN : FnScope NXN ["self", "value"] (defScope sXN) := ⟨rfl, rfl, rfl, by decide +kernel, rfl, by decide +kernel, by decide +kernel⟩

abbrev sXU : Stmt := inClass (topS 16) 0
abbrev NXU : List Str := ["self", "what"]
theorem scXU : FnScope NXU ["self", "what"] (defScope sXU) := ⟨rfl, rfl, rfl, by decide +kernel, rfl, by decide +kernel, by decide +kernel⟩

abbrev sAR : Stmt := topS 43
abbrev NAR : List Str := ["value", "member"]
theorem scAR : FnScope NAR ["value"] (defScope sAR) := ⟨rfl, rfl, rfl, by decide +kernel, rfl, by decide +kernel, by decide +kernel⟩

abbrev sBI : Stmt := inClass (topS 44) 0
abbrev NBI : List Str := ["self", "prices"]
theorem scBI : FnScope NBI ["self", "prices"] (defScope sBI) := ⟨rfl, rfl, rfl, by decide +kernel, rfl, by decide +kernel, by decide +kernel⟩

abbrev sBL : Stmt := inClass (topS 44) 2
abbrev NBL : List Str := ["self"]
theorem scBL : FnScope NBL ["self"] (defScope sBL) := ⟨rfl, rfl, rfl, by decide +kernel, rfl, by decide +kernel, by decide +kernel⟩

abbrev sAO : Stmt := topS 21
abbrev NAO : List Str := ["one", "other", "here", "there"]
theorem scAO : FnScope NAO ["one", "other"] (defScope sAO) := ⟨rfl, rfl, rfl, by decide +kernel, rfl, by decide +kernel, by decide +kernel⟩

abbrev sOO : Stmt := topS 22
abbrev NOO : List Str := ["one", "other", "here", "there"]
theorem scOO : FnScope NOO ["one", "other"] (defScope sOO) := ⟨rfl, rfl, rfl, by decide +kernel, rfl, by decide +kernel, by decide +kernel⟩

abbrev sHM : Stmt := topS 23
abbrev NHM : List Str := ["one", "other"]
theorem scHM : FnScope NHM ["one", "other"] (defScope sHM) := ⟨rfl, rfl, rfl, by decide +kernel, rfl, by decide +kernel, by decide +kernel⟩

abbrev sRS : Stmt := topS 24
abbrev NRS : List Str := ["word"]
theorem scRS : FnScope NRS ["word"] (defScope sRS) := ⟨rfl, rfl, rfl, by decide +kernel, rfl, by decide +kernel, by decide +kernel⟩

abbrev sRW : Stmt := topS 25
abbrev NRW : List Str := ["price", "word", "row", "value"]
theorem scRW : FnScope NRW ["price", "word", "row"] (defScope sRW) := ⟨rfl, rfl, rfl, by decide +kernel, rfl, by decide +kernel, by decide +kernel⟩

abbrev sPW : Stmt := topS 26
abbrev NPW : List Str := ["price", "word", "one", "other", "both"]
theorem scPW : FnScope NPW ["price", "word", "one", "other"] (defScope sPW) := ⟨rfl, rfl, rfl, by decide +kernel, rfl, by decide +kernel, by decide +kernel⟩

abbrev sSH : Stmt := topS 27
abbrev NSH : List Str := ["price", "word", "shown"]
theorem scSH : FnScope NSH ["price", "word", "shown"] (defScope sSH) := ⟨rfl, rfl, rfl, by decide +kernel, rfl, by decide +kernel, by decide +kernel⟩

abbrev sTM : Stmt := topS 28
abbrev NTM : List Str := ["size", "word", "rows", "one", "other", "row"]
theorem scTM : FnScope NTM ["size", "word"] (defScope sTM) := ⟨rfl, rfl, rfl, by decide +kernel, rfl, by decide +kernel, by decide +kernel⟩

abbrev sFO : Stmt := topS 29
abbrev NFO : List Str := ["book", "word", "number", "price", "shown"]
theorem scFO : FnScope NFO ["book", "word"] (defScope sFO) := ⟨rfl, rfl, rfl, by decide +kernel, rfl, by decide +kernel, by decide +kernel⟩

abbrev sIK : Stmt := topS 30
abbrev NIK : List Str := ["book", "word"]
theorem scIK : FnScope NIK ["book", "word"] (defScope sIK) := ⟨rfl, rfl, rfl, by decide +kernel, rfl, by decide +kernel, by decide +kernel⟩

abbrev sFK : Stmt := topS 31
abbrev NFK : List Str := ["book", "word"]
theorem scFK : FnScope NFK ["book"] (defScope sFK) := ⟨rfl, rfl, rfl, by decide +kernel, rfl, by decide +kernel, by decide +kernel⟩

abbrev sXK : Stmt := topS 32
abbrev NXK : List Str := ["book", "word"]
theorem scXK : FnScope NXK ["book"] (defScope sXK) := ⟨rfl, rfl, rfl, by decide +kernel, rfl, by decide +kernel, by decide +kernel⟩

abbrev sDraws : Stmt := topS 46
abbrev NDraws : List Str := ["script", "many", "cell", "rests", "draws", "k", "at", "mixed"]
theorem scDraws : FnScope NDraws ["script", "many"] (defScope sDraws) := ⟨rfl, rfl, rfl, by decide +kernel, rfl, by decide +kernel, by decide +kernel⟩

abbrev sTake : Stmt := topS 47
abbrev NTake : List Str := ["hand", "many", "at", "draws"]
theorem scTake : FnScope NTake ["hand", "many"] (defScope sTake) := ⟨rfl, rfl, rfl, by decide +kernel, rfl, by decide +kernel, by decide +kernel⟩

abbrev sEvery : Stmt := topS 48
abbrev NEvery : List Str := ["many", "found", "k", "longer", "row"]
theorem scEvery : FnScope NEvery ["many"] (defScope sEvery) := ⟨rfl, rfl, rfl, by decide +kernel, rfl, by decide +kernel, by decide +kernel⟩

abbrev sAmount : Stmt := topS 49
abbrev NAmount : List Str := ["hand", "wide", "number"]
theorem scAmount : FnScope NAmount ["hand", "wide"] (defScope sAmount) := ⟨rfl, rfl, rfl, by decide +kernel, rfl, by decide +kernel, by decide +kernel⟩

abbrev sPlace : Stmt := topS 50
abbrev NPlace : List Str := ["row", "place", "value"]
theorem scPlace : FnScope NPlace ["row"] (defScope sPlace) := ⟨rfl, rfl, rfl, by decide +kernel, rfl, by decide +kernel, by decide +kernel⟩

abbrev sCost : Stmt := topS 51
abbrev NCost : List Str := ["price", "row"]
theorem scCost : FnScope NCost ["price", "row"] (defScope sCost) := ⟨rfl, rfl, rfl, by decide +kernel, rfl, by decide +kernel, by decide +kernel⟩

abbrev sLPrice : Stmt := topS 52
abbrev NLPrice : List Str := ["hand", "size", "kind", "wide", "every", "row", "amounts", "singles", "more", "pairs", "costs", "cost", "k"]
theorem scLPrice : FnScope NLPrice ["hand", "size"] (defScope sLPrice) := ⟨rfl, rfl, rfl, by decide +kernel, rfl, by decide +kernel, by decide +kernel⟩

abbrev sLean : Stmt := topS 54
abbrev NLean : List Str := ["hand", "size", "kind", "amounts", "row", "below", "k"]
theorem scLean : FnScope NLean ["hand", "size", "kind"] (defScope sLean) := ⟨rfl, rfl, rfl, by decide +kernel, rfl, by decide +kernel, by decide +kernel⟩

abbrev sKB : Stmt := topS 53
abbrev NKB : List Str := ["hand", "book", "kind", "k", "size", "price"]
theorem scKB : FnScope NKB ["hand"] (defScope sKB) := ⟨rfl, rfl, rfl, by decide +kernel, rfl, by decide +kernel, by decide +kernel⟩

abbrev sLB : Stmt := topS 55
abbrev NLB : List Str := ["book", "size", "amounts"]
theorem scLB : FnScope NLB ["book"] (defScope sLB) := ⟨rfl, rfl, rfl, by decide +kernel, rfl, by decide +kernel, by decide +kernel⟩

abbrev sPO : Stmt := topS 56
abbrev NPO : List Str := ["price", "word", "every", "pairs", "one", "k", "other"]
theorem scPO : FnScope NPO ["price", "word"] (defScope sPO) := ⟨rfl, rfl, rfl, by decide +kernel, rfl, by decide +kernel, by decide +kernel⟩

abbrev sBR : Stmt := topS 57
abbrev NBR : List Str := ["price", "word", "one", "other", "low", "high", "both", "k"]
theorem scBR : FnScope NBR ["price", "word", "one", "other"] (defScope sBR) := ⟨rfl, rfl, rfl, by decide +kernel, rfl, by decide +kernel, by decide +kernel⟩

abbrev sLF : Stmt := topS 58
abbrev NLF : List Str := ["book", "word", "p", "every", "base", "rows", "pairs", "row", "pair"]
theorem scLF : FnScope NLF ["book", "word"] (defScope sLF) := ⟨rfl, rfl, rfl, by decide +kernel, rfl, by decide +kernel, by decide +kernel⟩

abbrev sLW : Stmt := topS 59
abbrev NLW : List Str := ["fixed"]
theorem scLW : FnScope NLW ["fixed"] (defScope sLW) := ⟨rfl, rfl, rfl, by decide +kernel, rfl, by decide +kernel, by decide +kernel⟩

abbrev sLK : Stmt := topS 60
abbrev NLK : List Str := ["book", "fixed", "word"]
theorem scLK : FnScope NLK ["book", "fixed"] (defScope sLK) := ⟨rfl, rfl, rfl, by decide +kernel, rfl, by decide +kernel, by decide +kernel⟩

abbrev sLaw : Stmt := topS 69
abbrev NLaw : List Str := ["script", "hand", "book", "made", "fixed", "words", "due", "cut", "paper", "given", "k", "value", "found", "word"]
theorem scLaw : FnScope NLaw ["script"] (defScope sLaw) := ⟨rfl, rfl, rfl, by decide +kernel, rfl, by decide +kernel, by decide +kernel⟩

abbrev sSW : Stmt := topS 34
abbrev NSW : List Str := ["fixed"]
theorem scSW : FnScope NSW ["fixed"] (defScope sSW) := ⟨rfl, rfl, rfl, by decide +kernel, rfl, by decide +kernel, by decide +kernel⟩

abbrev sSD : Stmt := topS 35
abbrev NSD : List Str := ["book", "fixed", "kinds"]
theorem scSD : FnScope NSD ["book", "fixed"] (defScope sSD) := ⟨rfl, rfl, rfl, by decide +kernel, rfl, by decide +kernel, by decide +kernel⟩

abbrev sSP : Stmt := topS 36
abbrev NSP : List Str := ["book", "fixed", "word"]
theorem scSP : FnScope NSP ["book", "fixed"] (defScope sSP) := ⟨rfl, rfl, rfl, by decide +kernel, rfl, by decide +kernel, by decide +kernel⟩

abbrev sIF : Stmt := topS 37
abbrev NIF : List Str := ["book", "word", "value", "price", "shown", "row"]
theorem scIF : FnScope NIF ["book", "word", "value"] (defScope sIF) := ⟨rfl, rfl, rfl, by decide +kernel, rfl, by decide +kernel, by decide +kernel⟩

abbrev sSHo : Stmt := topS 38
abbrev NSHo : List Str := ["book", "claim", "paper", "fixed", "word", "fault"]
theorem scSHo : FnScope NSHo ["book", "claim", "paper", "fixed"] (defScope sSHo) := ⟨rfl, rfl, rfl, by decide +kernel, rfl, by decide +kernel, by decide +kernel⟩

abbrev sLS : Stmt := topS 65
abbrev NLS : List Str := ["book", "fixed", "words"]
theorem scLS : FnScope NLS ["book", "fixed"] (defScope sLS) := ⟨rfl, rfl, rfl, by decide +kernel, rfl, by decide +kernel, by decide +kernel⟩

abbrev sOP : Stmt := inClass (topS 41) 5
abbrev NOP : List Str := ["self"]
theorem scOP : FnScope NOP ["self"] (defScope sOP) := ⟨rfl, rfl, rfl, by decide +kernel, rfl, by decide +kernel, by decide +kernel⟩

abbrev sPP : Stmt := inClass (topS 41) 6
abbrev NPP : List Str := ["self", "other"]
theorem scPP : FnScope NPP ["self", "other"] (defScope sPP) := ⟨rfl, rfl, rfl, by decide +kernel, rfl, by decide +kernel, by decide +kernel⟩

abbrev sPT : Stmt := inClass (topS 41) 7
abbrev NPT : List Str := ["self", "many"]
theorem scPT : FnScope NPT ["self", "many"] (defScope sPT) := ⟨rfl, rfl, rfl, by decide +kernel, rfl, by decide +kernel, by decide +kernel⟩

abbrev sPF : Stmt := inClass (topS 41) 8
abbrev NPF : List Str := ["self", "place", "value", "rest", "row"]
theorem scPF : FnScope NPF ["self", "place", "value"] (defScope sPF) := ⟨rfl, rfl, rfl, by decide +kernel, rfl, by decide +kernel, by decide +kernel⟩

abbrev sPX : Stmt := inClass (topS 41) 9
abbrev NPX : List Str := ["self", "places", "size"]
theorem scPX : FnScope NPX ["self", "places", "size"] (defScope sPX) := ⟨rfl, rfl, rfl, by decide +kernel, rfl, by decide +kernel, by decide +kernel⟩

abbrev sLN : Stmt := topS 61
abbrev NLN : List Str := ["value", "most"]
theorem scLN : FnScope NLN ["value", "most"] (defScope sLN) := ⟨rfl, rfl, rfl, by decide +kernel, rfl, by decide +kernel, by decide +kernel⟩

abbrev sLO : Stmt := topS 62
abbrev NLO : List Str := ["value", "size", "one"]
theorem scLO : FnScope NLO ["value", "size"] (defScope sLO) := ⟨rfl, rfl, rfl, by decide +kernel, rfl, by decide +kernel, by decide +kernel⟩

abbrev sLH : Stmt := topS 63
abbrev NLH : List Str := ["book", "word", "value", "price", "base", "one", "other", "more", "k", "row"]
theorem scLH : FnScope NLH ["book", "word", "value"] (defScope sLH) := ⟨rfl, rfl, rfl, by decide +kernel, rfl, by decide +kernel, by decide +kernel⟩

abbrev sLPa : Stmt := topS 64
abbrev NLPa : List Str := ["book", "words", "cut", "value", "k"]
theorem scLPa : FnScope NLPa ["book", "words", "cut", "value"] (defScope sLPa) := ⟨rfl, rfl, rfl, by decide +kernel, rfl, by decide +kernel, by decide +kernel⟩

abbrev sDP : Stmt := topS 66
abbrev NDP : List Str := ["hand", "book", "word", "p", "every", "one", "other", "k", "j"]
theorem scDP : FnScope NDP ["hand", "book", "word"] (defScope sDP) := ⟨rfl, rfl, rfl, by decide +kernel, rfl, by decide +kernel, by decide +kernel⟩

abbrev sBP : Stmt := topS 67
abbrev NBP : List Str := ["hand", "book", "part", "p", "row", "at", "odd", "bent"]
theorem scBP : FnScope NBP ["hand", "book", "part"] (defScope sBP) := ⟨rfl, rfl, rfl, by decide +kernel, rfl, by decide +kernel, by decide +kernel⟩

abbrev sLBe : Stmt := topS 68
abbrev NLBe : List Str := ["hand", "book", "paper", "words", "kind", "first", "bent", "at", "part"]
theorem scLBe : FnScope NLBe ["hand", "book", "paper", "words"] (defScope sLBe) := ⟨rfl, rfl, rfl, by decide +kernel, rfl, by decide +kernel, by decide +kernel⟩
structure Bt (mg : Str → Option Value) : Prop where
  len : mg "len" = none
  int : mg "int" = none
  abs : mg "abs" = none
  range : mg "range" = none
  isinstance : mg "isinstance" = none
  bool : mg "bool" = none
  list : mg "list" = none
  tuple : mg "tuple" = none
  all : mg "all" = none
  min : mg "min" = none
  max : mg "max" = none
  sum : mg "sum" = none
  repr : mg "repr" = none
  zip : mg "zip" = none
  enumerate : mg "enumerate" = none
  sorted : mg "sorted" = none
/-- a value of a kind that may be asked about -/
inductive Kn (H : Hp) : V → Prop where
  | non : Kn H .non
  | bl (b : Bool) : Kn H (.bl b)
  | int (i : Int) : Kn H (.int i)
  | str (x : Str) : Kn H (.str x)
  | lst {a : Addr} {xs : List V} (e : H a = some (.lst xs)) : Kn H (.ref a)
  | tup {a : Addr} {xs : List V} (e : H a = some (.tup xs)) : Kn H (.ref a)
theorem Kn.same {H H' : Hp} {v : V} (s : Same H H') (k : Kn H v) : Kn H' v := by
  cases k with
  | non => exact .non
  | bl b => exact .bl b
  | int i => exact .int i
  | str x => exact .str x
  | lst e => exact .lst (s _ _ e)
  | tup e => exact .tup (s _ _ e)
def isI : V → Bool
  | .int _ => true
  | _ => false
def isB (n : Int) : V → Bool
  | .int i => decide (0 ≤ i) && decide (i < n)
  | _ => false
def isZ : V → Bool
  | .int i => decide (1 ≤ i) && decide (i ≤ 3)
  | _ => false
def isR : V → Bool
  | .ref _ => true
  | _ => false
section
variable {P : Program} {w : World} {K : PySem.W.Frag} {mg : Str → Option Value} {base : Heap}
def spII : Sp := fun vs H Q _ => ∃ v, vs = [v] ∧ Kn H v ∧ Q (.bl (isI v)) H
theorem ok_II {f : Addr} {fd : FuncData} (F : Fun K "is_integer" "is_integer" sII f fd) (B : Bt mg) : FnOk P w K mg base CX0 1 f fd ["value"] spII := by
  refine F.ok scII (fun vs H Q E h => ?_) (fun cdv A outer s H vs Q E hr h => ?_)
  · obtain ⟨v, rfl, _⟩ := h
    rfl
  · obtain ⟨v, rfl, k, q⟩ := h
    refine ⟨_, (pss_one (ps_ret (pe_and (pe_callB call_isi (by rfl) B.isinstance (by decide +kernel) (pa_cons (pv 0) (pa_cons (pe_bltn (v := .ty "int") (by rfl) B.int (by decide +kernel) rfl) pa_nil))) (pe_one (pe_not (pe_callB call_isi (by rfl) B.isinstance (by decide +kernel) (pa_cons (pv 0) (pa_cons (pe_bltn (v := .ty "bool") (by rfl) B.bool (by decide +kernel) rfl) pa_nil)))))))), ?_⟩
    refine q_ret ?_
    cases k with
    | non => exact ⟨_, rfl, _, _, _, _, _, rfl, .ty _, .base .non, kit_ty (by decide +kernel), false, rfl, q⟩
    | bl b => exact ⟨_, rfl, _, _, _, _, _, rfl, .ty _, .base (.bl _), kit_ty (by decide +kernel), true, rfl, _, rfl, _, _, _, _, _, rfl, .ty _, .base (.bl _), kit_ty (by decide +kernel), true, rfl, q⟩
    | int i => exact ⟨_, rfl, _, _, _, _, _, rfl, .ty _, .base (.int _), kit_ty (by decide +kernel), true, rfl, _, rfl, _, _, _, _, _, rfl, .ty _, .base (.int _), kit_ty (by decide +kernel), false, rfl, q⟩
    | str x => exact ⟨_, rfl, _, _, _, _, _, rfl, .ty _, .base (.str _), kit_ty (by decide +kernel), false, rfl, q⟩
    | lst e => exact ⟨_, rfl, _, _, _, _, _, rfl, .ty _, .base (.lst e), kit_ty (by decide +kernel), false, rfl, q⟩
    | tup e => exact ⟨_, rfl, _, _, _, _, _, rfl, .ty _, .base (.tup e), kit_ty (by decide +kernel), false, rfl, q⟩
def spIB : Sp := fun vs H Q _ => ∃ v n, vs = [v, .int n] ∧ Kn H v ∧ Q (.bl (isB n v)) H
theorem ok_IB {f fII : Addr} {fd fdII : FuncData} (F : Fun K "is_number_below" "is_number_below" sIB f fd) (GII : FnOk P w K mg base CX0 1 fII fdII ["value"] spII) (kII : PySem.W.keepIn K (.ref fII) = true) (bII : Binds K fdII ["value"] []) (gII : mg "is_integer" = some (.ref fII)) :
    FnOk P w K mg base CX0 2 f fd ["value", "limit"] spIB := by
  refine F.ok scIB (fun vs H Q E h => ?_) (fun cdv A outer s H vs Q E hr h => ?_)
  · obtain ⟨v, n, rfl, _⟩ := h
    rfl
  · obtain ⟨v, n, rfl, k, q⟩ := h
    refine ⟨_, (pss_one (ps_ret (pe_and (pe_call GII (hr.mono (by decide)) (by rfl) gII kII bII .nil pass0 (pa_cons (pv 0) pa_nil)) (pe_one (pe_chain op_le op_lt pe_int (pv 0) (pv 1)))))), ?_⟩
    refine q_ret ⟨_, rfl, v, rfl, k, isI v, rfl, ?_⟩
    cases v with
    | int i =>
      refine ⟨_, rfl, _, _, rfl, rfl, _, rfl, ?_⟩
      have q' : Q (.bl (decide (0 ≤ i) && decide (i < n))) H := q
      by_cases z : 0 ≤ i
      · rw [decide_eq_true z] at q' ⊢
        exact ⟨_, rfl, _, _, rfl, rfl, q'⟩
      · rw [decide_eq_false z] at q' ⊢
        exact q'
    | _ => exact q
def spIV : Sp := fun vs H Q _ => ∃ v, vs = [v] ∧ Kn H v ∧ Q (.bl (isB 2 v)) H
theorem ok_IV {f fIB : Addr} {fd fdIB : FuncData} (F : Fun K "is_value" "is_value" sIV f fd) (GIB : FnOk P w K mg base CX0 2 fIB fdIB ["value", "limit"] spIB) (kIB : PySem.W.keepIn K (.ref fIB) = true) (bIB : Binds K fdIB ["value", "limit"] []) (gIB : mg "is_number_below" = some (.ref fIB)) :
    FnOk P w K mg base CX0 3 f fd ["value"] spIV := by
  refine F.ok scIV (fun vs H Q E h => ?_) (fun cdv A outer s H vs Q E hr h => ?_)
  · obtain ⟨v, rfl, _⟩ := h
    rfl
  · obtain ⟨v, rfl, k, q⟩ := h
    refine ⟨_, (pss_one (ps_ret (pe_call GIB (hr.mono (by decide)) (by rfl) gIB kIB bIB .nil pass0 (pa_cons (pv 0) (pa_cons pe_int pa_nil))))), ?_⟩
    exact q_ret ⟨_, rfl, v, 2, rfl, k, q⟩
def spIS : Sp := fun vs H Q _ => ∃ v, vs = [v] ∧ Kn H v ∧ Q (.bl (isZ v)) H
theorem ok_IS {f fII : Addr} {fd fdII : FuncData} (F : Fun K "is_size" "is_size" sIS f fd) (GII : FnOk P w K mg base CX0 1 fII fdII ["value"] spII) (kII : PySem.W.keepIn K (.ref fII) = true) (bII : Binds K fdII ["value"] []) (gII : mg "is_integer" = some (.ref fII)) :
    FnOk P w K mg base CX0 2 f fd ["value"] spIS := by
  refine F.ok scIS (fun vs H Q E h => ?_) (fun cdv A outer s H vs Q E hr h => ?_)
  · obtain ⟨v, rfl, _⟩ := h
    rfl
  · obtain ⟨v, rfl, k, q⟩ := h
    refine ⟨_, (pss_one (ps_ret (pe_and (pe_call GII (hr.mono (by decide)) (by rfl) gII kII bII .nil pass0 (pa_cons (pv 0) pa_nil)) (pe_one (pe_chain op_le op_le pe_int (pv 0) pe_int))))), ?_⟩
    refine q_ret ⟨_, rfl, v, rfl, k, isI v, rfl, ?_⟩
    cases v with
    | int i =>
      refine ⟨_, rfl, _, _, rfl, rfl, _, rfl, ?_⟩
      have q' : Q (.bl (decide (1 ≤ i) && decide (i ≤ 3))) H := q
      by_cases z : 1 ≤ i
      · rw [decide_eq_true z] at q' ⊢
        exact ⟨_, _, rfl, rfl, q'⟩
      · rw [decide_eq_false z] at q' ⊢
        exact q'
    | _ => exact q
def spIQ : Sp := fun vs H Q _ => ∃ v, vs = [v] ∧ Kn H v ∧ ∀ H', Same H H' → Q (.bl (isR v)) H'
theorem ok_IQ {f : Addr} {fd : FuncData} (F : Fun K "is_sequence" "is_sequence" sIQ f fd) (B : Bt mg) : FnOk P w K mg base CX0 1 f fd ["value"] spIQ := by
  refine F.ok scIQ (fun vs H Q E h => ?_) (fun cdv A outer s H vs Q E hr h => ?_)
  · obtain ⟨v, rfl, _⟩ := h
    rfl
  · obtain ⟨v, rfl, k, q⟩ := h
    refine ⟨_, (pss_one (ps_ret (pe_callB call_isiT (by rfl) B.isinstance (by decide +kernel) (pa_cons (pv 0) (pa_cons (pe_tup (pa_cons (pe_bltn (v := .ty "list") (by rfl) B.list (by decide +kernel) rfl) (pa_cons (pe_bltn (v := .ty "tuple") (by rfl) B.tuple (by decide +kernel) rfl) pa_nil))) pa_nil))))), ?_⟩
    refine q_ret ⟨_, rfl, by show 2 ≤ sizeLine; decide, fun p np => ?_⟩
    have s1 := same_upd (o := .tup [.ty "list", .ty "tuple"]) np
    have k1 := k.same s1
    have c2 : Paired ClsV [.ty "list", .ty "tuple"] [.type "list", .type "tuple"] := .cons (.ty _) (.cons (.ty _) .nil)
    cases k1 with
    | non => exact ⟨_, _, _, _, _, _, rfl, upd_same, c2, .base .non, kitAny_cons (b := false) (kit_ty (by decide +kernel)) (fun _ => kitAny_cons (b := false) (r := false) (kit_ty (by decide +kernel)) (fun _ => kitAny_nil) (fun z => z)) (fun z => by cases z), q _ s1⟩
    | bl b => exact ⟨_, _, _, _, _, _, rfl, upd_same, c2, .base (.bl _), kitAny_cons (b := false) (kit_ty (by decide +kernel)) (fun _ => kitAny_cons (b := false) (r := false) (kit_ty (by decide +kernel)) (fun _ => kitAny_nil) (fun z => z)) (fun z => by cases z), q _ s1⟩
    | int i => exact ⟨_, _, _, _, _, _, rfl, upd_same, c2, .base (.int _), kitAny_cons (b := false) (kit_ty (by decide +kernel)) (fun _ => kitAny_cons (b := false) (r := false) (kit_ty (by decide +kernel)) (fun _ => kitAny_nil) (fun z => z)) (fun z => by cases z), q _ s1⟩
    | str x => exact ⟨_, _, _, _, _, _, rfl, upd_same, c2, .base (.str _), kitAny_cons (b := false) (kit_ty (by decide +kernel)) (fun _ => kitAny_cons (b := false) (r := false) (kit_ty (by decide +kernel)) (fun _ => kitAny_nil) (fun z => z)) (fun z => by cases z), q _ s1⟩
    | lst e => exact ⟨_, _, _, _, _, true, rfl, upd_same, c2, .base (.lst e), kitAny_cons (b := true) (kit_ty (by decide +kernel)) (fun z => by cases z) (fun _ => rfl), q _ s1⟩
    | tup e => exact ⟨_, _, _, _, _, true, rfl, upd_same, c2, .base (.tup e), kitAny_cons (b := false) (kit_ty (by decide +kernel)) (fun _ => kitAny_cons (b := true) (kit_ty (by decide +kernel)) (fun z => by cases z) (fun _ => rfl)) (fun z => by cases z), q _ s1⟩
/-- the values of a row, and how they count -/
def num (bs : List Int) : Int := bs.foldl (fun n v => 2 * n + v) 0
def spRN (K : PySem.W.Frag) : Sp := fun vs H Q _ => ∃ (a : Addr) (bs : List Int), vs = [.ref a] ∧ SqT K H a (bs.map V.int) ∧ Q (.int (num bs)) H
theorem num_take {bs : List Int} {i : Nat} {b : Int} (h : bs[i]? = some b) : num (bs.take (i + 1)) = 2 * num (bs.take i) + b := by
  unfold num
  obtain ⟨hi, e⟩ := List.getElem?_eq_some_iff.mp h
  rw [List.take_add_one, h, List.foldl_append]
  rfl
theorem ok_RN {f : Addr} {fd : FuncData} (F : Fun K "row_number" "row_number" sRN f fd) : FnOk P w K mg base CX0 1 f fd ["row"] (spRN K) := by
  refine F.ok scRN (fun vs H Q E h => ?_) (fun cdv A outer s H vs Q E hr h => ?_)
  · obtain ⟨a, bs, rfl, _⟩ := h
    rfl
  · obtain ⟨a, bs, rfl, hS, q⟩ := h
    refine ⟨_, (pss_cons (ps_set (i := 1) scRN.nd rfl (.inl rfl) pe_int)
      (pss_cons (ps_for PassesOwn.never rfl (pi_tup (pv 0)) (pg_name (i := 2) scRN.nd rfl (.inl rfl))
      (pss_one (ps_set (i := 1) scRN.nd rfl (.inl rfl) (pe_op op_add (pe_op op_mul pe_int (pv 1)) (pv 2)))))
      (pss_one (ps_ret (pv 1))))), ?_⟩
    refine q_seq (q_setc ?_)
    dsimp only
    refine q_seq ?_
    refine ⟨.ref a, rfl, a, rfl, ⟨_, hS⟩, for_tup (K := K) (a := a) (xs := bs.map V.int) (fun i σ H' => ∃ v : Option V, σ = [some (.ref a), some (.int (num (bs.take i))), v] ∧ H' = H) ⟨none, rfl, rfl⟩ (fun i σ H' _ hP => by obtain ⟨v, _, rfl⟩ := hP; exact hS) (fun i x σ H' hx hP => ?_) (fun σ H' hP => ?_)⟩
    · obtain ⟨v, rfl, rfl⟩ := hP
      rw [List.getElem?_map] at hx
      cases e : bs[i]? with
      | none => rw [e] at hx; cases hx
      | some b =>
        rw [e] at hx
        obtain rfl : x = .int b := (Option.some.inj hx).symm
        refine ⟨_, rfl, _, _, rfl, rfl, .inl ⟨by decide, by decide⟩, _, rfl, _, _, rfl, rfl, some (.int b), ?_, rfl⟩
        rw [num_take e]
        rfl
    · obtain ⟨v, rfl, rfl⟩ := hP
      dsimp only
      refine q_ret ⟨_, rfl, ?_⟩
      rw [List.length_map, List.take_length]
      exact q
end
end CC

namespace CC
open PySem PySem.Spec PyProof.Rows L2 Ek
section
variable {P : Program} {w : World} {K : PySem.W.Frag} {mg : Str → Option Value} {base : Heap}
theorem len_small {xs : List V} {n : Nat} (h : xs.length ≤ n) (hn : n ≤ 1000) : xs.length < sizeLine := small1000 (by omega)
/-- whether the members at a are a row of n values -/
def rowB (n : Int) (xs : List V) : Bool := decide ((xs.length : Int) = n) && xs.all (isB 2)
def spIR : Sp := fun vs H Q _ => ∃ v n, vs = [v, .int n] ∧ ((Kn H v ∧ (∀ a xs, v = .ref a → H a ≠ some (.tup xs)) ∧ Q (.bl false) H) ∨
  ∃ a xs, v = .ref a ∧ H a = some (.tup xs) ∧ (∀ x ∈ xs, Kn H x) ∧ xs.length ≤ 100 ∧ ∀ H', Same H H' → Q (.bl (rowB n xs)) H')
theorem ok_IR {f fIV : Addr} {fd fdIV : FuncData} (F : Fun K "is_row" "is_row" sIR f fd) (B : Bt mg) (GIV : FnOk P w K mg base CX0 3 fIV fdIV ["value"] spIV) (kIV : PySem.W.keepIn K (.ref fIV) = true) (bIV : Binds K fdIV ["value"] []) (gIV : mg "is_value" = some (.ref fIV)) : FnOk P w K mg base CX0 4 f fd ["value", "size"] spIR := by
  refine F.ok scIR (fun vs H Q E h => ?_) (fun cdv A outer s H vs Q E hr h => ?_)
  · obtain ⟨v, n, rfl, _⟩ := h
    rfl
  · obtain ⟨v, n, rfl, h⟩ := h
    refine ⟨_, (pss_one (ps_ret (pe_and (pe_callB call_isi (by rfl) B.isinstance (by decide +kernel) (pa_cons (pv 0) (pa_cons (pe_bltn (v := .ty "tuple") (by rfl) B.tuple (by decide +kernel) rfl) pa_nil))) (pe_and (pe_cmpR op_eq (pe_callB call_len_seq (by rfl) B.len PySem.boot_len (pa_cons (pv 0) pa_nil)) (pv 1) (nomark _)) (pe_one (pe_callB (cr_all rfl) (by rfl) B.all (by decide +kernel) (pa_cons (pe_lc (own := [("member", 2)]) (g := gName 2) (tt := tYes) rfl scIR.nd (pi_tup (pv 0)) (blkOk_by (N := NIR) (sc := defScope sIR) (by decide +kernel)) (fun _ _ _ _ _ => pg_name (i := 2) scIR.nd rfl (Or.inl rfl)) (fun _ _ _ _ _ => pts_nil) (fun _ _ _ _ _ => (pe_call GIV (hr.mono (by decide)) (by rfl) gIV kIV bIV .nil pass0 (pa_cons (pv 2) pa_nil)))) pa_nil))))))), ?_⟩
    refine q_ret ?_
    rcases h with ⟨k, nt, q⟩ | ⟨a, xs, rfl, e, km, hl, q⟩
    · cases k with
      | non => exact ⟨_, rfl, _, _, _, _, _, rfl, .ty _, .base .non, kit_ty (by decide +kernel), false, rfl, q⟩
      | bl b => exact ⟨_, rfl, _, _, _, _, _, rfl, .ty _, .base (.bl _), kit_ty (by decide +kernel), false, rfl, q⟩
      | int i => exact ⟨_, rfl, _, _, _, _, _, rfl, .ty _, .base (.int _), kit_ty (by decide +kernel), false, rfl, q⟩
      | str x => exact ⟨_, rfl, _, _, _, _, _, rfl, .ty _, .base (.str _), kit_ty (by decide +kernel), false, rfl, q⟩
      | lst e => exact ⟨_, rfl, _, _, _, _, _, rfl, .ty _, .base (.lst e), kit_ty (by decide +kernel), false, rfl, q⟩
      | tup e => exact absurd e (nt _ _ rfl)
    · refine ⟨_, rfl, _, _, _, _, true, rfl, .ty _, .base (.tup e), kit_ty (by decide +kernel), true, rfl, ?_⟩
      refine ⟨_, rfl, a, xs, rfl, .inr (tl e), .int n, rfl, rfl, _, rfl, ?_⟩
      by_cases hn : (xs.length : Int) = n
      · rw [decide_eq_true (by rw [hn])]
        have er : rowB n xs = xs.all (isB 2) := by
          unfold rowB
          rw [decide_eq_true hn, Bool.true_and]
        refine ⟨.ref a, rfl, a, rfl, ⟨_, tl e⟩, fun D nD => lc_tup (K := K) (a := a) (xs := xs) (fun i H' => Same H H' ∧ H' D = some (.lst (((xs.take i).map (isB 2)).map V.bl))) ⟨same_upd nD, upd_same⟩ (fun i H' _ hP => tl (hP.1 _ _ e)) (fun i x H' hx hP => ?_) (fun H' hP => ?_)⟩
        · obtain ⟨s', hD⟩ := hP
          have kx : Kn H' x := (km x (List.mem_of_getElem? hx)).same s'
          refine ⟨rfl, _, rfl, x, rfl, kx, _, hD, ?_, fun b o z => ?_, ?_⟩
          · rw [List.length_map, List.length_map, List.length_take]
            exact small1000 (Nat.le_trans (Nat.min_le_right _ _) (by omega))
          · rw [upd_ne (ne_of_none z nD)]
            exact s' _ _ z
          · rw [upd_same, List.take_add_one, hx, List.map_append, List.map_append]
            rfl
        · obtain ⟨s', hD⟩ := hP
          rw [List.take_length] at hD
          refine ⟨D, xs.map (isB 2), rfl, sl hD, ?_⟩
          have z := q H' s'
          rw [er] at z
          have e2 : (xs.map (isB 2)).all id = xs.all (isB 2) := by
            rw [List.all_map]
            rfl
          rw [e2]
          exact z
      · rw [decide_eq_false (fun z => hn (V.int.inj z))]
        have er : rowB n xs = false := by
          unfold rowB
          rw [decide_eq_false hn, Bool.false_and]
        have z := q H (Same.refl H)
        rw [er] at z
        exact z
def rowsOf : Nat → List (List Int)
  | 0 => [[]]
  | n + 1 => (rowsOf n).flatMap fun r => [r ++ [0], r ++ [1]]
theorem rows_len : ∀ n, (rowsOf n).length = 2 ^ n
  | 0 => rfl
  | n + 1 => by
    have h : ∀ l : List (List Int), (l.flatMap fun r => [r ++ [0], r ++ [1]]).length = 2 * l.length := fun l => by
      induction l with
      | nil => rfl
      | cons x l ih => rw [List.flatMap_cons, List.length_append, ih, List.length_cons, List.length_cons, List.length_cons, List.length_nil]; omega
    show ((rowsOf n).flatMap fun r => [r ++ [0], r ++ [1]]).length = _
    rw [h, rows_len n, Nat.pow_succ]
    omega
theorem row_len : ∀ n, ∀ r ∈ rowsOf n, r.length = n
  | 0, r, h => by
    obtain rfl := List.mem_singleton.mp h
    rfl
  | n + 1, r, h => by
    obtain ⟨x, hx, hr⟩ := List.mem_flatMap.mp h
    have z := row_len n x hx
    simp only [List.mem_cons, List.not_mem_nil, or_false] at hr
    rcases hr with rfl | rfl <;> simp [z]
/-- tuples at rs, of these values -/
abbrev Rws (H : Hp) (rs : List Addr) (bss : List (List Int)) : Prop := Paired (fun r (bs : List Int) => H r = some (.tup (bs.map V.int))) rs bss
theorem Rws.same {H H' : Hp} {rs : List Addr} {bss : List (List Int)} (s : Same H H') (x : Rws H rs bss) : Rws H' rs bss := by
  induction x with
  | nil => exact .nil
  | cons e _ ih => exact .cons (s _ _ e) ih
def spRO : Sp := fun vs H Q _ => ∃ n : Nat, vs = [.int n] ∧ n ≤ 3 ∧ ∀ H' p rs, Same H H' → H p = none → H' p = some (.tup (rs.map V.ref)) → Rws H' rs (rowsOf n) → Q (.ref p) H'
theorem Rws.updL {H : Hp} {rs : List Addr} {bss : List (List Int)} {D : Addr} {xs : List V} {o : HO} (e : H D = some (.lst xs)) (x : Rws H rs bss) : Rws (upd H D o) rs bss := by
  induction x with
  | nil => exact .nil
  | cons h _ ih => exact .cons (by rw [upd_ne (ne_of h e (by intro z; cases z))]; exact h) ih
theorem take_flat {α β : Type} (g : α → List β) {l : List α} {i : Nat} {x : α} (h : l[i]? = some x) : (l.take (i + 1)).flatMap g = (l.take i).flatMap g ++ g x := by
  rw [List.take_add_one, h, List.flatMap_append]
  simp
theorem ok_RO {f : Addr} {fd : FuncData} (F : Fun K "rows_of" "rows_of" sRO f fd) (B : Bt mg) : FnOk P w K mg base CX0 1 f fd ["size"] spRO := by
  refine F.ok scRO (fun vs H Q E h => ?_) (fun cdv A outer s H vs Q E hr h => ?_)
  · obtain ⟨n, rfl, _⟩ := h
    rfl
  · obtain ⟨n, rfl, hn, q⟩ := h
    refine ⟨_, pss_cons (ps_set (i := 1) scRO.nd rfl (.inl rfl) (pe_lst (pa_cons (pe_tup pa_nil) pa_nil)))
      (pss_cons (ps_for PassesOwn.never rfl (pi_range1 rfl B.range (pa_cons (pv 0) pa_nil)) (pg_name (i := 2) scRO.nd rfl (.inl rfl))
        (pss_one (ps_setLc2 (i := 1) (own := [("row", 3), ("value", 4)]) (vs1 := [4]) (g := gName 3) (g1 := gName 4) (tt := tYes) (tt1 := tYes) rfl scRO.nd rfl rfl (sw_true rfl rfl rfl (by decide +kernel)) (pi_list (pv 1)) (blkOk_by (N := NRO) (sc := defScope sRO) (by decide +kernel)) (by decide)
          (fun _ _ _ _ _ => pg_name (i := 3) scRO.nd rfl (Or.inl rfl)) (fun _ _ _ _ _ => pts_nil) (fun _ _ _ _ _ => pi_tupk K rfl (pe_tup (pa_cons pe_int (pa_cons pe_int pa_nil)))) (fun _ _ _ _ _ => pg_name (i := 4) scRO.nd rfl (Or.inl rfl)) (fun _ _ _ _ _ => pts_nil)
          (fun _ _ _ _ _ => pe_op (op_catAk K rfl) (pv 3) (pe_tup (pa_cons (pv 4) pa_nil))))))
      (pss_one (ps_ret (pe_callTy call_tuple_of (by rfl) B.tuple (by decide +kernel) (pa_cons (pv 1) pa_nil))))), ?_⟩
    refine q_seq (q_set ?_)
    refine ⟨Nat.zero_le _, fun t0 nt0 => ⟨by show 1 ≤ sizeLine; decide, fun L0 nL0 => ?_⟩⟩
    have s0 : Same H (upd (upd H t0 (.tup [])) L0 (.lst [.ref t0])) := (same_upd nt0).trans (same_upd nL0)
    have e0 : (upd (upd H t0 (.tup [])) L0 (.lst [.ref t0])) t0 = some (.tup []) := same_upd nL0 _ _ upd_same
    dsimp only
    refine q_seq ?_
    refine ⟨_, rfl, n, rfl, by omega, by omega, for_range (lo := 0) (n := n) (fun i σ H' => ∃ (L : Addr) (u : Option V) (rs : List Addr), σ = [some (.int n), some (.ref L), u, none, none] ∧ Same H H' ∧ H' L = some (.lst (rs.map V.ref)) ∧ Rws H' rs (rowsOf i))
      ⟨L0, none, [t0], rfl, s0, upd_same, .cons e0 .nil⟩ (fun i σ H1 hi hP => ?_) (fun σ H1 hP => ?_)⟩
    · obtain ⟨L, u, rs, rfl, s1, hL, rw1⟩ := hP
      refine q_set ?_
      have len1 : rs.length = (rowsOf i).length := paired_len rw1
      have lim : (rowsOf i).length ≤ 8 := by
        rw [rows_len]
        exact Nat.le_trans (Nat.pow_le_pow_right (by decide) (show i ≤ 3 by omega)) (by decide)
      refine ⟨.ref L, rfl, L, rfl, ⟨_, sl hL⟩, fun D nD => lp_list (K := K) (a := L) (xs := rs.map V.ref) (fun j H2 => Same H1 H2 ∧ ∃ rs2 : List Addr, H2 D = some (.lst (rs2.map V.ref)) ∧ Rws H2 rs2 (((rowsOf i).take j).flatMap fun r => [r ++ [0], r ++ [1]]))
        ⟨same_upd nD, [], upd_same, .nil⟩ (fun j H2 _ hQ => sl (hQ.1 _ _ hL)) (fun j x H2 hx hQ => ?_) (fun H2 hQ => ?_)⟩
      · obtain ⟨s2, rs2, hD, rw2⟩ := hQ
        obtain ⟨r, bs, rfl, hbs, hr⟩ : ∃ r bs, x = V.ref r ∧ (rowsOf i)[j]? = some bs ∧ H1 r = some (.tup (bs.map V.int)) := by
          rw [List.getElem?_map] at hx
          cases e : rs[j]? with
          | none => rw [e] at hx; cases hx
          | some r =>
            rw [e] at hx
            have hj : j < (rowsOf i).length := by
              rw [← len1]
              exact (List.getElem?_eq_some_iff.mp e).1
            obtain ⟨y, hy, hz⟩ := paired_get rw1 (List.getElem?_eq_getElem hj)
            rw [e] at hy
            cases hy
            exact ⟨r, _, (Option.some.inj hx).symm, List.getElem?_eq_getElem hj, hz⟩
        have l2 : rs2.length ≤ 16 := by
          have z := paired_len rw2
          have h2 : ∀ l : List (List Int), (l.flatMap fun r => [r ++ [0], r ++ [1]]).length = 2 * l.length := fun l => by
            induction l with
            | nil => rfl
            | cons x l ih => rw [List.flatMap_cons, List.length_append, ih, List.length_cons, List.length_cons, List.length_cons, List.length_nil]; omega
          rw [h2, List.length_take] at z
          omega
        have lb : bs.length ≤ 3 := by
          rw [row_len i bs (List.mem_of_getElem? hbs)]
          omega
        refine ⟨rfl, by show 2 ≤ sizeLine; decide, fun tp ntp => ⟨tp, rfl, ⟨_, tl upd_same⟩, lp_tup (K := K) (a := tp) (xs := [.int 0, .int 1]) (fun k H3 => Same H1 H3 ∧ H3 tp = some (.tup [.int 0, .int 1]) ∧ ∃ rs3 : List Addr, H3 D = some (.lst (rs3.map V.ref)) ∧ rs3.length = rs2.length + k ∧ Rws H3 rs3 ((((rowsOf i).take j).flatMap fun r => [r ++ [0], r ++ [1]]) ++ ([bs ++ [0], bs ++ [1]].take k)))
          ⟨s2.trans (same_upd ntp), upd_same, rs2, same_upd ntp _ _ hD, rfl, by rw [List.take_zero, List.append_nil]; exact rw2.same (same_upd ntp)⟩ (fun k H3 _ hR => tl hR.2.1) (fun k y H3 hy hR => ?_) (fun H3 hR => ?_)⟩⟩
        · obtain ⟨s3, htp, rs3, hD3, l3, rw3⟩ := hR
          obtain ⟨b, rfl, hb⟩ : ∃ b : Int, y = .int b ∧ [bs ++ [0], bs ++ [1]][k]? = some (bs ++ [b]) := by
            match k, hy with
            | 0, hy => exact ⟨0, (Option.some.inj hy).symm, rfl⟩
            | 1, hy => exact ⟨1, (Option.some.inj hy).symm, rfl⟩
            | k + 2, hy => simp at hy
          have hk : k < 2 := (List.getElem?_eq_some_iff.mp hy).1
          -- what is laid at t: the new row
          have fin : ∀ (H4 : Hp) (t : Addr), Same H3 H4 → H4 t = some (.tup ((bs ++ [b]).map V.int)) → ∃ acc, H4 D = some (.lst acc) ∧ acc.length < sizeLine ∧ Same H1 (upd H4 D (.lst (acc ++ [.ref t]))) ∧ (upd H4 D (.lst (acc ++ [.ref t]))) tp = some (.tup [.int 0, .int 1]) ∧
              ∃ rs3 : List Addr, (upd H4 D (.lst (acc ++ [.ref t]))) D = some (.lst (rs3.map V.ref)) ∧ rs3.length = rs2.length + (k + 1) ∧ Rws (upd H4 D (.lst (acc ++ [.ref t]))) rs3 ((((rowsOf i).take j).flatMap fun r => [r ++ [0], r ++ [1]]) ++ ([bs ++ [0], bs ++ [1]].take (k + 1))) := fun H4 t s4 ht => by
            have hD4 := s4 _ _ hD3
            refine ⟨_, hD4, by rw [List.length_map]; exact small1000 (by omega), fun c o e => ?_, ?_, rs3 ++ [t], by rw [upd_same, List.map_append]; rfl, by rw [List.length_append, l3]; rfl, ?_⟩
            · rw [upd_ne (ne_of_none e nD)]
              exact s4 _ _ (s3 _ _ e)
            · have htp4 := s4 _ _ htp
              rw [upd_ne (ne_of htp4 hD4 (by intro z; cases z))]
              exact htp4
            · rw [List.take_add_one, hb, ← List.append_assoc]
              exact Rws.updL hD4 (paired_app (rw3.same s4) (.cons ht .nil))
          refine ⟨rfl, .ref r, rfl, .int b, rfl, by show 1 ≤ sizeLine; decide, fun t1 nt1 => ?_⟩
          refine ⟨r, t1, bs.map V.int, [.int b], rfl, rfl, tl (same_upd nt1 _ _ (s3 _ _ hr)), tl upd_same, ?_, fun z => ?_, (fun _ z => absurd z (List.cons_ne_nil _ _)), fun _ _ p np => ?_⟩
          · rw [List.length_map]
            exact Nat.le_of_lt (small1000 (by show bs.length + 1 ≤ 1000; omega))
          · have zb : bs = [] := by
              cases bs with
              | nil => rfl
              | cons c d => cases z
            subst zb
            exact fin _ t1 (same_upd nt1) upd_same
          · exact fin _ p ((same_upd nt1).trans (same_upd np)) (by rw [upd_same, List.map_append]; rfl)
        · obtain ⟨s3, htp, rs3, hD3, l3, rw3⟩ := hR
          refine ⟨s3, rs3, hD3, ?_⟩
          rw [take_flat _ hbs]
          exact rw3
      · obtain ⟨s2, rs2, hD, rw2⟩ := hQ
        refine ⟨D, _, rs2, rfl, s1.trans s2, hD, ?_⟩
        rw [List.length_map, len1, List.take_length] at rw2
        exact rw2
    · obtain ⟨L, u, rs, rfl, s1, hL, rw1⟩ := hP
      dsimp only
      refine q_ret ⟨.ref L, rfl, L, _, rfl, .inl ⟨sl hL, fun p np => q _ p rs (s1.trans (same_upd np)) (s1.free np) upd_same (rw1.same (same_upd np))⟩⟩
end
end CC

namespace CC
open PySem PySem.Spec PyProof.Rows L2 Ek
section
variable {P : Program} {w : World} {K : PySem.W.Frag} {mg : Str → Option Value} {base : Heap}
def amB (k : Nat) (xs : List V) : Bool := decide (xs.length = 2 ^ k) && xs.all isI
theorem amB_ints {k : Nat} : ∀ {xs : List V}, xs.all isI = true → ∃ ms : List Int, xs = ms.map V.int
  | [], _ => ⟨[], rfl⟩
  | x :: xs, h => by
    rw [List.all_cons, Bool.and_eq_true] at h
    obtain ⟨ms, rfl⟩ := amB_ints (k := k) h.2
    cases x with
    | int i => exact ⟨i :: ms, rfl⟩
    | _ => exact absurd h.1 (by simp [isI])
/-- what may be passed as amounts -/
inductive Am (H : Hp) : V → Prop where
  | flat {v : V} (k : Kn H v) (n : isR v = false) : Am H v
  | lst {a : Addr} {xs : List V} (e : H a = some (.lst xs)) (km : ∀ x ∈ xs, Kn H x) (z : xs.length ≤ 100) : Am H (.ref a)
  | tup {a : Addr} {xs : List V} (e : H a = some (.tup xs)) (km : ∀ x ∈ xs, Kn H x) (z : xs.length ≤ 100) : Am H (.ref a)
theorem Am.same {H H' : Hp} {v : V} (s : Same H H') (k : Am H v) : Am H' v := by
  cases k with
  | flat k n => exact .flat (k.same s) n
  | lst e km z => exact .lst (s _ _ e) (fun x hx => (km x hx).same s) z
  | tup e km z => exact .tup (s _ _ e) (fun x hx => (km x hx).same s) z
/-- the members, if it is a sequence -/
def Mem (H : Hp) (v : V) (xs : List V) : Prop := ∃ a, v = .ref a ∧ (H a = some (.lst xs) ∨ H a = some (.tup xs))
def spAA : Sp := fun vs H Q _ => ∃ (v : V) (k : Nat), vs = [v, .int k] ∧ k ≤ 3 ∧ Am H v ∧ ∀ H', Same H H' → (isR v = false → Q (.bl false) H') ∧ ∀ xs, Mem H v xs → Q (.bl (amB k xs)) H'
theorem ok_AA {f fIQ fII : Addr} {fd fdIQ fdII : FuncData} (F : Fun K "_are_amounts" "_are_amounts" sAA f fd) (B : Bt mg) (GIQ : FnOk P w K mg base CX0 1 fIQ fdIQ ["value"] spIQ) (kIQ : PySem.W.keepIn K (.ref fIQ) = true) (bIQ : Binds K fdIQ ["value"] []) (gIQ : mg "is_sequence" = some (.ref fIQ)) (GII : FnOk P w K mg base CX0 1 fII fdII ["value"] spII) (kII : PySem.W.keepIn K (.ref fII) = true) (bII : Binds K fdII ["value"] []) (gII : mg "is_integer" = some (.ref fII)) : FnOk P w K mg base CX0 2 f fd ["value", "size"] spAA := by
  refine F.ok scAA (fun vs H Q E h => ?_) (fun cdv A outer s H vs Q E hr h => ?_)
  · obtain ⟨v, k, rfl, _⟩ := h
    rfl
  · obtain ⟨v, k, rfl, hk, am, q⟩ := h
    have pw : (1 : Int) * 2 ^ ((k : Nat) : Int).toNat = ((2 ^ k : Nat) : Int) := by
      rw [Int.toNat_natCast, Int.one_mul]
      simp
    cases am with
    | flat kn n =>
      refine ⟨_, (pss_one (ps_ret (pe_and (pe_call GIQ (hr.mono (by decide)) (by rfl) gIQ kIQ bIQ .nil pass0 (pa_cons (pv 0) pa_nil)) (pe_and (pe_cmpR op_eq (pe_callB call_len_seq (by rfl) B.len PySem.boot_len (pa_cons (pv 0) pa_nil)) (pe_op op_shl pe_int (pv 1)) (nomark _)) (pe_one (pe_callB (cr_all rfl) (by rfl) B.all (by decide +kernel) (pa_cons (pe_lc (own := [("amount", 2)]) (g := gName 2) (tt := tYes) rfl scAA.nd (pi_list (pv 0)) (blkOk_by (N := NAA) (sc := defScope sAA) (by decide +kernel)) (fun _ _ _ _ _ => pg_name (i := 2) scAA.nd rfl (Or.inl rfl)) (fun _ _ _ _ _ => pts_nil) (fun _ _ _ _ _ => (pe_call GII (hr.mono (by decide)) (by rfl) gII kII bII .nil pass0 (pa_cons (pv 2) pa_nil)))) pa_nil))))))), ?_⟩
      refine q_ret ⟨_, rfl, v, rfl, kn, fun H1 s1 => ⟨_, rfl, ?_⟩⟩
      rw [n]
      exact (q H1 s1).1 n
    | @lst a xs e km z =>
      refine ⟨_, (pss_one (ps_ret (pe_and (pe_call GIQ (hr.mono (by decide)) (by rfl) gIQ kIQ bIQ .nil pass0 (pa_cons (pv 0) pa_nil)) (pe_and (pe_cmpR op_eq (pe_callB call_len_seq (by rfl) B.len PySem.boot_len (pa_cons (pv 0) pa_nil)) (pe_op op_shl pe_int (pv 1)) (nomark _)) (pe_one (pe_callB (cr_all rfl) (by rfl) B.all (by decide +kernel) (pa_cons (pe_lc (own := [("amount", 2)]) (g := gName 2) (tt := tYes) rfl scAA.nd (pi_list (pv 0)) (blkOk_by (N := NAA) (sc := defScope sAA) (by decide +kernel)) (fun _ _ _ _ _ => pg_name (i := 2) scAA.nd rfl (Or.inl rfl)) (fun _ _ _ _ _ => pts_nil) (fun _ _ _ _ _ => (pe_call GII (hr.mono (by decide)) (by rfl) gII kII bII .nil pass0 (pa_cons (pv 2) pa_nil)))) pa_nil))))))), ?_⟩
      refine q_ret ⟨_, rfl, .ref a, rfl, .lst e, fun H1 s1 => ⟨true, rfl, ?_⟩⟩
      have e1 := s1 _ _ e
      refine ⟨_, rfl, a, xs, rfl, .inl (sl e1), .int k, rfl, 1, (k : Int), rfl, rfl, ⟨by omega, by omega, by decide⟩, rfl, _, rfl, ?_⟩
      dsimp only
      by_cases hn : xs.length = 2 ^ k
      · rw [decide_eq_true (show V.int (xs.length : Int) = V.int (1 * 2 ^ ((k : Nat) : Int).toNat) by rw [pw, hn])]
        refine ⟨.ref a, rfl, a, rfl, ⟨_, sl e1⟩, fun D nD => lc_list (K := K) (a := a) (xs := xs) (fun i H' => Same H1 H' ∧ H' D = some (.lst (((xs.take i).map isI).map V.bl))) ⟨same_upd nD, upd_same⟩ (fun i H' _ hP => sl (hP.1 _ _ e1)) (fun i x H' hx hP => ?_) (fun H' hP => ?_)⟩
        · obtain ⟨s', hD⟩ := hP
          refine ⟨rfl, _, rfl, x, rfl, ((km x (List.mem_of_getElem? hx)).same s1).same s', _, hD, ?_, fun b o z => ?_, ?_⟩
          · rw [List.length_map, List.length_map, List.length_take]
            exact small1000 (Nat.le_trans (Nat.min_le_right _ _) (by omega))
          · rw [upd_ne (ne_of_none z nD)]
            exact s' _ _ z
          · rw [upd_same, List.take_add_one, hx, List.map_append, List.map_append]
            rfl
        · obtain ⟨s', hD⟩ := hP
          rw [List.take_length] at hD
          refine ⟨D, xs.map isI, rfl, sl hD, ?_⟩
          have z := (q H' (s1.trans s')).2 xs ⟨a, rfl, .inl e⟩
          have er : amB k xs = xs.all isI := by
            unfold amB
            rw [decide_eq_true hn, Bool.true_and]
          have e2 : (xs.map isI).all id = xs.all isI := by
            rw [List.all_map]
            rfl
          rw [e2, ← er]
          exact z
      · rw [decide_eq_false (show ¬ V.int (xs.length : Int) = V.int (1 * 2 ^ ((k : Nat) : Int).toNat) from fun z => hn (by have z' := V.int.inj z; rw [pw] at z'; omega))]
        have er : amB k xs = false := by
          unfold amB
          rw [decide_eq_false hn, Bool.false_and]
        have z := (q H1 s1).2 xs ⟨a, rfl, .inl e⟩
        rw [er] at z
        exact z
    | @tup a xs e km z =>
      refine ⟨_, (pss_one (ps_ret (pe_and (pe_call GIQ (hr.mono (by decide)) (by rfl) gIQ kIQ bIQ .nil pass0 (pa_cons (pv 0) pa_nil)) (pe_and (pe_cmpR op_eq (pe_callB call_len_seq (by rfl) B.len PySem.boot_len (pa_cons (pv 0) pa_nil)) (pe_op op_shl pe_int (pv 1)) (nomark _)) (pe_one (pe_callB (cr_all rfl) (by rfl) B.all (by decide +kernel) (pa_cons (pe_lc (own := [("amount", 2)]) (g := gName 2) (tt := tYes) rfl scAA.nd (pi_tup (pv 0)) (blkOk_by (N := NAA) (sc := defScope sAA) (by decide +kernel)) (fun _ _ _ _ _ => pg_name (i := 2) scAA.nd rfl (Or.inl rfl)) (fun _ _ _ _ _ => pts_nil) (fun _ _ _ _ _ => (pe_call GII (hr.mono (by decide)) (by rfl) gII kII bII .nil pass0 (pa_cons (pv 2) pa_nil)))) pa_nil))))))), ?_⟩
      refine q_ret ⟨_, rfl, .ref a, rfl, .tup e, fun H1 s1 => ⟨true, rfl, ?_⟩⟩
      have e1 := s1 _ _ e
      refine ⟨_, rfl, a, xs, rfl, .inr (tl e1), .int k, rfl, 1, (k : Int), rfl, rfl, ⟨by omega, by omega, by decide⟩, rfl, _, rfl, ?_⟩
      dsimp only
      by_cases hn : xs.length = 2 ^ k
      · rw [decide_eq_true (show V.int (xs.length : Int) = V.int (1 * 2 ^ ((k : Nat) : Int).toNat) by rw [pw, hn])]
        refine ⟨.ref a, rfl, a, rfl, ⟨_, tl e1⟩, fun D nD => lc_tup (K := K) (a := a) (xs := xs) (fun i H' => Same H1 H' ∧ H' D = some (.lst (((xs.take i).map isI).map V.bl))) ⟨same_upd nD, upd_same⟩ (fun i H' _ hP => tl (hP.1 _ _ e1)) (fun i x H' hx hP => ?_) (fun H' hP => ?_)⟩
        · obtain ⟨s', hD⟩ := hP
          refine ⟨rfl, _, rfl, x, rfl, ((km x (List.mem_of_getElem? hx)).same s1).same s', _, hD, ?_, fun b o z => ?_, ?_⟩
          · rw [List.length_map, List.length_map, List.length_take]
            exact small1000 (Nat.le_trans (Nat.min_le_right _ _) (by omega))
          · rw [upd_ne (ne_of_none z nD)]
            exact s' _ _ z
          · rw [upd_same, List.take_add_one, hx, List.map_append, List.map_append]
            rfl
        · obtain ⟨s', hD⟩ := hP
          rw [List.take_length] at hD
          refine ⟨D, xs.map isI, rfl, sl hD, ?_⟩
          have z := (q H' (s1.trans s')).2 xs ⟨a, rfl, .inr e⟩
          have er : amB k xs = xs.all isI := by
            unfold amB
            rw [decide_eq_true hn, Bool.true_and]
          have e2 : (xs.map isI).all id = xs.all isI := by
            rw [List.all_map]
            rfl
          rw [e2, ← er]
          exact z
      · rw [decide_eq_false (show ¬ V.int (xs.length : Int) = V.int (1 * 2 ^ ((k : Nat) : Int).toNat) from fun z => hn (by have z' := V.int.inj z; rw [pw] at z'; omega))]
        have er : amB k xs = false := by
          unfold amB
          rw [decide_eq_false hn, Bool.false_and]
        have z := (q H1 s1).2 xs ⟨a, rfl, .inr e⟩
        rw [er] at z
        exact z
end
end CC

namespace CC
open PySem PySem.Spec PyProof.Rows L2 Ek
section
variable {P : Program} {w : World} {K : PySem.W.Frag} {mg : Str → Option Value} {base : Heap}
/-! ### the errors: what their __init__ leaves, to be raised -/
def spXf (K : PySem.W.Frag) (f : Str) : Sp := fun vs H Q _ => ∃ (a C : Addr) (y : V), vs = [.ref a, y] ∧ OexC K C ∧ PySem.W.findIn K (.ref C) f = some none ∧ H a = some (exo a C none) ∧
  ∀ d H', (∀ b o, b ≠ a → H b = some o → H' b = some o) → H d = none → d ≠ a → H' a = some (exo a C (some d)) → H' d = some (exd d [(f, y)]) → Q .non H'
theorem ok_XN {f : Addr} {fd : FuncData} (F : Fun K "__init__" "InvalidNumber.__init__" sXN f fd) : FnOk P w K mg base CX0 1 f fd ["self", "value"] (spXf K "value") := by
  refine F.ok scXN (fun vs H Q E h => ?_) (fun cdv A outer s H vs Q E hr h => ?_)
  · obtain ⟨a, C, y, rfl, _⟩ := h
    rfl
  · obtain ⟨a, C, y, rfl, T, hno, ha, q⟩ := h
    exact ⟨_, pss_one (ps_ost (pv 0) (pv 1)), y, rfl, .ref a, rfl, a, C, rfl, T, hno, .inl ⟨ha, fun d nd ne => q d _ (x1_end nd ne).1 nd ne upd_same (by rw [upd_ne ne, upd_same])⟩⟩
theorem ok_XU {f : Addr} {fd : FuncData} (F : Fun K "__init__" "Undefined.__init__" sXU f fd) : FnOk P w K mg base CX0 1 f fd ["self", "what"] (spXf K "what") := by
  refine F.ok scXU (fun vs H Q E h => ?_) (fun cdv A outer s H vs Q E hr h => ?_)
  · obtain ⟨a, C, y, rfl, _⟩ := h
    rfl
  · obtain ⟨a, C, y, rfl, T, hno, ha, q⟩ := h
    exact ⟨_, pss_one (ps_ost (pv 0) (pv 1)), y, rfl, .ref a, rfl, a, C, rfl, T, hno, .inl ⟨ha, fun d nd ne => q d _ (x1_end nd ne).1 nd ne upd_same (by rw [upd_ne ne, upd_same])⟩⟩
/-- a class of errors with the one field f -/
structure Xc (K : PySem.W.Frag) (mg : Str → Option Value) (x f : Str) (C : Addr) : Prop where
  g : mg x = some (.ref C)
  o : OexC K C
  xf : XfC K C
  xe : ExcC K C
  no : PySem.W.findIn K (.ref C) f = some none
/-- X(y) as it is raised: what is known at the end -/
theorem raise_end {C : Addr} {y : V} {f : Str} {H1 : Hp} {Q : XK} (T : OexC K C) (no : PySem.W.findIn K (.ref C) f = some none) (q : ∀ d H', Same H1 H' → H1 d = none → H' d = some (.xd [(f, y)]) → Q (.ref C) (some d) H') :
    ∀ a, H1 a = none → spXf K f (.ref a :: ([y] ++ [])) (upd H1 a (exo a C none)) (fun v H2 => v = .non ∧ ∃ (d : Addr) (fs : List (Str × V)), H2 a = some (exo a C (some d)) ∧ H2 d = some (exd d fs) ∧ H1 d = none ∧ Q (.ref C) (some d) (upd (del H2 a) d (.xd fs))) (fun _ _ _ => False) := by
  intro a na
  refine ⟨a, C, y, rfl, T, no, upd_same, fun d H2 k nd ne ha hd => ⟨rfl, d, _, ha, hd, ?_, q d _ (fun b o e => ?_) ?_ upd_same⟩⟩
  · rw [upd_ne ne] at nd
    exact nd
  · have nb : b ≠ a := ne_of_none e na
    have nd1 : b ≠ d := fun z => by
      rw [z] at e
      rw [upd_ne ne, e] at nd
      cases nd
    rw [upd_ne nd1, del_ne nb]
    exact k b o nb (by rw [upd_ne nb]; exact e)
  · rw [upd_ne ne] at nd
    exact nd
theorem sz_am : ¬ (("size" : Str) = "amounts") := by decide +kernel
theorem am_sz : ¬ (("amounts" : Str) = "size") := by decide +kernel
def pf (k : Nat) (t : Addr) : List (Str × V) := [("size", .int k), ("amounts", .ref t)]
theorem pf_put (k : Nat) (t : Addr) : putF "amounts" (.ref t) (putF "size" (.int k) []) = pf k t := by
  show (if ("size" : Str) = "amounts" then [(("size" : Str), V.ref t)] else (("size" : Str), V.int k) :: putF "amounts" (V.ref t) []) = _
  rw [if_neg sz_am]
  rfl
theorem pf_size (k : Nat) (t : Addr) : (pf k t).lookup ("size" : Str) = some (.int k) := by simp [pf, List.lookup]
theorem pf_am (k : Nat) (t : Addr) : (pf k t).lookup ("amounts" : Str) = some (.ref t) := by
  have e : (("amounts" : Str) == "size") = false := by decide +kernel
  simp [pf, List.lookup, e]
/-- a price at p: its class C, its size, its amounts -/
def PrAt (C : Addr) (H : Hp) (p : Addr) (k : Nat) (ms : List Int) : Prop := ∃ dx t, H p = some (.ins C dx (pf k t)) ∧ H t = some (.tup (ms.map V.int)) ∧ 1 ≤ k ∧ k ≤ 3 ∧ ms.length = 2 ^ k
theorem PrAt.same {C : Addr} {H H' : Hp} {p : Addr} {k : Nat} {ms : List Int} (s : Same H H') (x : PrAt C H p k ms) : PrAt C H' p k ms := by
  obtain ⟨dx, t, h1, h2, h3⟩ := x
  exact ⟨dx, t, s _ _ h1, s _ _ h2, h3⟩
structure Pc (K : PySem.W.Frag) (mg : Str → Option Value) (C : Addr) : Prop where
  g : mg "Price" = some (.ref C)
  cl : Cls K C
  nS : NoAttr K C "size"
  nA : NoAttr K C "amounts"
/-- size and amounts are those of a price -/
def Good (H : Hp) (sz am : V) (k : Nat) (ms : List Int) : Prop := sz = .int k ∧ 1 ≤ k ∧ k ≤ 3 ∧ ms.length = 2 ^ k ∧ Mem H am (ms.map V.int)
/-- the same of what is good, nothing raised -/
def spPI0 (C : Addr) : Sp := fun vs H Q _ => ∃ (p dx : Addr) (sz am : V) (k : Nat) (ms : List Int), vs = [.ref p, sz, am] ∧ H p = some (.ins C dx []) ∧ Am H am ∧ Good H sz am k ms ∧
  ∀ H', (∀ b o, b ≠ p → H b = some o → H' b = some o) → PrAt C H' p k ms → Q .non H'
theorem good_am {H : Hp} {am : V} {k : Nat} {ms : List Int} (m : Mem H am (ms.map V.int)) (hl : ms.length = 2 ^ k) : amB k (ms.map V.int) = true := by
  unfold amB
  rw [decide_eq_true (by rw [List.length_map]; exact hl), Bool.true_and, List.all_map]
  exact List.all_eq_true.mpr fun x _ => rfl
theorem mem_inj {H : Hp} {v : V} {xs ys : List V} (a : Mem H v xs) (b : Mem H v ys) : xs = ys := by
  obtain ⟨p, rfl, h⟩ := a
  obtain ⟨q, e, h'⟩ := b
  cases e
  rcases h with h | h <;> rcases h' with h' | h' <;> rw [h] at h' <;> cases h' <;> rfl
/-- the end of a good price's making -/
theorem init_end {C : Addr} {H H1 : Hp} {D : Ends} {p dx : Addr} {am : V} {k : Nat} {ms : List Int} {Q : VK} (T : Pc K mg C) (s1 : Same H H1) (hp : H p = some (.ins C dx [])) (g : Good H (.int k) am k ms)
    (hD : ∀ σ H', Q .non H' → D.nx σ H') (q : ∀ H', (∀ b o, b ≠ p → H b = some o → H' b = some o) → PrAt C H' p k ms → Q .non H') :
    tSeq (sFld K (tVar 0) (tVar 1) "size") (sFld K (tVar 0) (tCB (fun xs H Q => ∃ p ys, xs = [.ref p] ∧ ((SqL K H p ys ∧ ∀ l, H l = none → Q (.ref l) (upd H l (.tup ys))) ∨ (SqT K H p ys ∧ Q (.ref p) H))) (tCons (tVar 2) tNil)) "amounts") D [some (.ref p), some (.int k), some am] H1 := by
  obtain ⟨_, k1, k3, hl, a, rfl, hm⟩ := g
  have hp1 := s1 _ _ hp
  refine q_seq ⟨_, rfl, _, rfl, p, C, dx, [], rfl, hp1, T.cl, T.nS, by show 0 < 1000; decide, ?_⟩
  dsimp only
  have na : ∀ {xs : List V} {t : Addr}, H t = some (.lst xs) ∨ H t = some (.tup xs) → t ≠ p := fun {xs t} h z => by
    subst z
    rcases h with h | h <;> rw [hp] at h <;> cases h
  have hm1 : H1 a = some (.lst (ms.map V.int)) ∨ H1 a = some (.tup (ms.map V.int)) := hm.imp (s1 _ _) (s1 _ _)
  have nap := na hm
  have e2 : ∀ {o : HO}, (upd H1 p o) a = H1 a := fun {o} => upd_ne nap
  have fin : ∀ (H4 : Hp) (t : Addr), (∀ b o, b ≠ p → H1 b = some o → H4 b = some o) → t ≠ p → H4 t = some (.tup (ms.map V.int)) → H4 p = some (.ins C dx (putF "size" (.int k) [])) →
      ∃ b C' dx' fs, V.ref p = .ref b ∧ H4 b = some (.ins C' dx' fs) ∧ Cls K C' ∧ NoAttr K C' "amounts" ∧ fs.length < 1000 ∧ D.nx [some (.ref p), some (.int k), some (.ref a)] (upd H4 b (.ins C' dx' (putF "amounts" (.ref t) fs))) := fun H4 t kk nt ht h4 => by
    refine ⟨p, C, dx, _, rfl, h4, T.cl, T.nA, by show 1 < 1000; decide, hD _ _ (q _ (fun b o nb e => ?_) ⟨dx, t, ?_, ?_, k1, k3, hl⟩)⟩
    · rw [upd_ne nb]
      exact kk b o nb (s1 _ _ e)
    · rw [upd_same, pf_put]
    · rw [upd_ne nt]
      exact ht
  rcases hm1 with h | h
  · refine ⟨.ref a, rfl, a, _, rfl, .inl ⟨sl (e2.trans h), fun l nl => ⟨.ref p, rfl, ?_⟩⟩⟩
    have nlp : l ≠ p := fun z => by
      rw [z, upd_same] at nl
      cases nl
    refine fin _ l (fun b o nb e => ?_) nlp upd_same ?_
    · have e' : (upd H1 p (.ins C dx (putF "size" (.int k) []))) b = some o := by
        rw [upd_ne nb]
        exact e
      exact same_upd nl _ _ e'
    · rw [upd_ne nlp.symm, upd_same]
  · refine ⟨.ref a, rfl, a, _, rfl, .inr ⟨tl (e2.trans h), .ref p, rfl, fin _ a (fun b o nb e => by rw [upd_ne nb]; exact e) nap (e2.trans h) upd_same⟩⟩
theorem ok_PI0 {f fIS fAA C : Addr} {fd fdIS fdAA : FuncData} (F : Fun K "__init__" "Price.__init__" sPI f fd) (T : Pc K mg C) (B : Bt mg) (GIS : FnOk P w K mg base CX0 2 fIS fdIS ["value"] spIS) (kIS : PySem.W.keepIn K (.ref fIS) = true) (bIS : Binds K fdIS ["value"] []) (gIS : mg "is_size" = some (.ref fIS)) (GAA : FnOk P w K mg base CX0 2 fAA fdAA ["value", "size"] spAA) (kAA : PySem.W.keepIn K (.ref fAA) = true) (bAA : Binds K fdAA ["value", "size"] []) (gAA : mg "_are_amounts" = some (.ref fAA)) : FnOk P w K mg base CX0 3 f fd ["self", "size", "amounts"] (spPI0 C) := by
  refine F.ok scPI (fun vs H Q E h => ?_) (fun cdv A outer s H vs Q E hr h => ?_)
  · obtain ⟨p, dx, sz, am, k, ms, rfl, _⟩ := h
    rfl
  · obtain ⟨p, dx, sz, am, k, ms, rfl, hp, hA, g, q⟩ := h
    refine ⟨_, (pss_cons (ps_if (PW.pt (pw_or (pt_not (pt_val (pe_call GIS (hr.mono (by decide)) (by rfl) gIS kIS bIS .nil pass0 (pa_cons (pv 1) pa_nil)))) (pw_or1 (pt_not (pt_val (pe_call GAA (hr.mono (by decide)) (by rfl) gAA kAA bAA .nil pass0 (pa_cons (pv 2) (pa_cons (pv 1) pa_nil))))))))
      (pss_one ps_never) pss_nil)
      (pss_cons (ps_fld (pv 0) (pv 1) rfl)
      (pss_one (ps_fld (pv 0) (pe_callTy call_tuple_of (by rfl) B.tuple (by decide +kernel) (pa_cons (pv 2) pa_nil)) rfl)))), ?_⟩
    obtain ⟨rfl, k1, k3, hl, m⟩ := id g
    refine q_seq (q_if ?_)
    have ez : isZ (.int k) = true := by
      show (decide (1 ≤ (k : Int)) && decide ((k : Int) ≤ 3)) = true
      rw [decide_eq_true (by omega), decide_eq_true (by omega)]
      rfl
    refine ⟨_, rfl, .int k, rfl, .int _, isZ (.int k), rfl, ?_⟩
    rw [ez]
    refine ⟨am, rfl, .int k, rfl, am, k, rfl, k3, hA, fun H1 s1 => ⟨?_, ?_⟩⟩
    · intro z
      obtain ⟨a, rfl, _⟩ := m
      cases z
    · intro xs mx
      obtain rfl := mem_inj mx m
      rw [good_am m hl]
      refine ⟨true, rfl, ?_⟩
      dsimp only
      rw [if_neg (show ¬ (!true) = true by decide)]
      refine q_next ?_
      exact init_end T s1 hp g (fun _ _ z => z) q
end
end CC

namespace CC
open PySem PySem.Spec PyProof.Rows L2 Ek
section
variable {P : Program} {w : World} {K : PySem.W.Frag} {mg : Str → Option Value} {base : Heap}
def Bits (bs : List Int) : Prop := ∀ b ∈ bs, b = 0 ∨ b = 1
theorem num_lt : ∀ {bs : List Int}, Bits bs → bs.length ≤ 3 → 0 ≤ num bs ∧ num bs < 2 ^ bs.length
  | [], _, _ => by decide
  | [a], h, _ => by
    have ha := h a (by simp)
    show 0 ≤ 2 * 0 + a ∧ 2 * 0 + a < 2
    omega
  | [a, b], h, _ => by
    have ha := h a (by simp)
    have hb := h b (by simp)
    show 0 ≤ 2 * (2 * 0 + a) + b ∧ 2 * (2 * 0 + a) + b < 4
    omega
  | [a, b, c], h, _ => by
    have ha := h a (by simp)
    have hb := h b (by simp)
    have hc := h c (by simp)
    show 0 ≤ 2 * (2 * (2 * 0 + a) + b) + c ∧ 2 * (2 * (2 * 0 + a) + b) + c < 8
    omega
  | _ :: _ :: _ :: _ :: _, _, h => by simp at h
def costL (ms bs : List Int) : Int := ms.getD (num bs).toNat 0
theorem cost_at {ms bs : List Int} {k : Nat} (hb : Bits bs) (hk : bs.length = k) (k3 : k ≤ 3) (hl : ms.length = 2 ^ k) : (num bs) = (((num bs).toNat : Nat) : Int) ∧ (ms.map V.int)[(num bs).toNat]? = some (.int (costL ms bs)) := by
  obtain ⟨h0, h1⟩ := num_lt hb (by omega)
  refine ⟨by omega, ?_⟩
  have hi : (num bs).toNat < ms.length := by
    rw [hl, ← hk]
    have e : (2 : Int) ^ bs.length = ((2 ^ bs.length : Nat) : Int) := by simp
    rw [e] at h1
    omega
  rw [List.getElem?_map, List.getElem?_eq_getElem hi]
  unfold costL
  rw [List.getD_eq_getElem?_getD, List.getElem?_eq_getElem hi]
  rfl
theorem rowB_bits {k : Nat} : ∀ {xs : List V}, xs.all (isB 2) = true → ∃ bs : List Int, xs = bs.map V.int ∧ Bits bs
  | [], _ => ⟨[], rfl, fun _ h => by cases h⟩
  | x :: xs, h => by
    rw [List.all_cons, Bool.and_eq_true] at h
    obtain ⟨bs, rfl, hb⟩ := rowB_bits (k := k) h.2
    cases x with
    | int i =>
      have z : (decide (0 ≤ i) && decide (i < 2)) = true := h.1
      rw [Bool.and_eq_true, decide_eq_true_iff, decide_eq_true_iff] at z
      refine ⟨i :: bs, rfl, fun b m => ?_⟩
      rcases List.mem_cons.mp m with rfl | m
      · omega
      · exact hb b m
    | _ => exact absurd h.1 (by simp [isB])
theorem bits_rowB {k : Nat} {bs : List Int} (hb : Bits bs) (hk : bs.length = k) : rowB k (bs.map V.int) = true := by
  unfold rowB
  rw [decide_eq_true (by rw [List.length_map, hk]), Bool.true_and, List.all_map]
  refine List.all_eq_true.mpr fun b m => ?_
  show (decide (0 ≤ b) && decide (b < 2)) = true
  rcases hb b m with rfl | rfl <;> rfl
theorem kn_ints {H : Hp} {bs : List Int} : ∀ x ∈ bs.map V.int, Kn H x := fun x m => by
  obtain ⟨b, _, rfl⟩ := List.mem_map.mp m
  exact .int b
def spPC0 (C : Addr) : Sp := fun vs H Q _ => ∃ (p a : Addr) (k : Nat) (ms bs : List Int), vs = [.ref p, .ref a] ∧ PrAt C H p k ms ∧ H a = some (.tup (bs.map V.int)) ∧ Bits bs ∧ bs.length = k ∧ ∀ H', Same H H' → Q (.int (costL ms bs)) H'
theorem ok_PC0 {f fIR fRN C : Addr} {fd fdIR fdRN : FuncData} (F : Fun K "cost" "Price.cost" sPC f fd) (T : Pc K mg C) (GIR : FnOk P w K mg base CX0 4 fIR fdIR ["value", "size"] spIR) (kIR : PySem.W.keepIn K (.ref fIR) = true) (bIR : Binds K fdIR ["value", "size"] []) (gIR : mg "is_row" = some (.ref fIR)) (GRN : FnOk P w K mg base CX0 1 fRN fdRN ["row"] (spRN K)) (kRN : PySem.W.keepIn K (.ref fRN) = true) (bRN : Binds K fdRN ["row"] []) (gRN : mg "row_number" = some (.ref fRN)) : FnOk P w K mg base CX0 5 f fd ["self", "row"] (spPC0 C) := by
  refine F.ok scPC (fun vs H Q E h => ?_) (fun cdv A outer s H vs Q E hr h => ?_)
  · obtain ⟨p, a, k, ms, bs, rfl, _⟩ := h
    rfl
  · obtain ⟨p, a, k, ms, bs, rfl, pr, ha, hb, hk, q⟩ := h
    obtain ⟨dx, t, hp, ht, k1, k3, hl⟩ := id pr
    refine ⟨_, (pss_cons (ps_if (pt_not (pt_val (pe_call GIR (hr.mono (by decide)) (by rfl) gIR kIR bIR .nil pass0 (pa_cons (pv 1) (pa_cons (pe_fld (pv 0) rfl) pa_nil)))))
      (pss_one ps_never) pss_nil)
      (pss_one (ps_ret (pe_ix ix_tup (pe_fld (pv 0) rfl) (pe_call GRN (hr.mono (by decide)) (by rfl) gRN kRN bRN .nil pass0 (pa_cons (pv 1) pa_nil)) (fun _ _ => rfl))))), ?_⟩
    refine q_seq (q_if ?_)
    refine ⟨.ref a, rfl, .ref p, rfl, p, C, dx, _, .int k, rfl, hp, T.cl, T.nS, pf_size _ _, .ref a, k, rfl, .inr ⟨a, _, rfl, ha, kn_ints, by rw [List.length_map]; omega, fun H1 s1 => ?_⟩⟩
    rw [bits_rowB hb hk]
    refine ⟨true, rfl, ?_⟩
    dsimp only
    rw [if_neg (show ¬ (!true) = true by decide)]
    refine q_next ?_
    dsimp only
    obtain ⟨e1, e2⟩ := cost_at hb hk k3 hl
    refine q_ret ⟨.ref p, rfl, p, C, dx, _, .ref t, rfl, s1 _ _ hp, T.cl, T.nA, pf_am _ _, .ref a, rfl, a, bs, rfl, tl (s1 _ _ ha), t, _, _, _, rfl, rfl, tl (s1 _ _ ht), at_z e1 e2, q H1 s1⟩
theorem bits_rows : ∀ n, ∀ r ∈ rowsOf n, Bits r
  | 0, r, h => by
    obtain rfl := List.mem_singleton.mp h
    exact fun b m => by cases m
  | n + 1, r, h => by
    obtain ⟨x, hx, hr⟩ := List.mem_flatMap.mp h
    have z := bits_rows n x hx
    simp only [List.mem_cons, List.not_mem_nil, or_false] at hr
    rcases hr with rfl | rfl
    · intro b m
      rcases List.mem_append.mp m with m | m
      · exact z b m
      · exact .inl (List.mem_singleton.mp m)
    · intro b m
      rcases List.mem_append.mp m with m | m
      · exact z b m
      · exact .inr (List.mem_singleton.mp m)
theorem pf_no {k : Nat} {t : Addr} {m : Str} (h1 : (m == "size") = false) (h2 : (m == "amounts") = false) : (pf k t).lookup m = none := by simp [pf, List.lookup, h1, h2]
theorem dp_ints {K : PySem.W.Frag} {H : Hp} : ∀ {xs : List Int}, DpAll K H (xs.map V.int) (xs.map .int)
  | [] => .nil
  | x :: xs => .cons (.int x) dp_ints
structure Pe (K : PySem.W.Frag) (C : Addr) : Prop where
  ha : PySem.W.findIn K (.ref C) "__class__" = some (some (.builtin "object.__class__"))
  hn : PySem.W.specialIn K (.builtin "object.__class__") "__get__" = some (some (.builtin "getset_descriptor.__get__"))
  ht : PySem.W.takesIn K (.builtin "object.__class__") = some true
  hm : PySem.W.mroIn K C (.type "object") = some true
  kt : PySem.W.kitOne K (.type "tuple") (.ref C) = some false
theorem kit_self {K : PySem.W.Frag} {C : Addr} : PySem.W.kitOne K (.ref C) (.ref C) = some true := by
  unfold PySem.W.kitOne
  rw [if_pos (by simp)]
theorem ty_pr {C : Addr} {H : Hp} {p : Addr} {k : Nat} {ms : List Int} (T : Pc K mg C) (e : Pe K C) (x : PrAt C H p k ms) : TyOf K H (.ref p) (.ref C) := by
  obtain ⟨dx, t, hp, _⟩ := x
  exact .ins hp T.cl e.ha e.hn e.ht e.hm
end
end CC

namespace CC
open PySem PySem.Spec PyProof.Rows L2 Ek
section
variable {P : Program} {w : World} {K : PySem.W.Frag} {mg : Str → Option Value} {base : Heap}
/-- amounts that the hand is no part of -/
def AmS (h : Addr) (H : Hp) (v : V) : Prop := ∀ H2, Kp h H H2 → Am H2 v
theorem mem_tup {H : Hp} {a : Addr} {xs ys : List V} (e : H a = some (.tup xs)) (m : Mem H (.ref a) ys) : ys = xs := by
  obtain ⟨b, eb, h⟩ := m
  cases eb
  rcases h with h | h <;> rw [e] at h <;> cases h <;> rfl
theorem mem_lst {H : Hp} {a : Addr} {xs ys : List V} (e : H a = some (.lst xs)) (m : Mem H (.ref a) ys) : ys = xs := by
  obtain ⟨b, eb, h⟩ := m
  cases eb
  rcases h with h | h <;> rw [e] at h <;> cases h <;> rfl
/-- the drawn numbers: a new list of many numbers from 0 on -/
def spDraws (K : PySem.W.Frag) : Sp := fun vs H Q _ => ∃ (a : Addr) (ns : List Int) (m : Nat), vs = [.ref a, .int m] ∧ SqL K H a (ns.map V.int) ∧ ns.length ≤ 1000 ∧ m ≤ 1000 ∧
  ∀ H' p (ds : List Int), Same H H' → H p = none → H' p = some (.lst (ds.map V.int)) → ds.length = m → (∀ d ∈ ds, 0 ≤ d) → Q (.ref p) H'
theorem ok_draws {f : Addr} {fd : FuncData} (F : Fun K "_law_draws" "_law_draws" sDraws f fd) (B : Bt mg) : FnOk P w K mg base CX0 1 f fd ["script", "many"] (spDraws K) := by
  refine F.ok scDraws (fun vs H Q E h => ?_) (fun cdv A outer s H vs Q E hr h => ?_)
  · obtain ⟨a, ns, m, rfl, _⟩ := h
    rfl
  · obtain ⟨a, ns, m, rfl, hS, hlen, hm, q⟩ := h
    refine ⟨_, pss_cons (ps_setLc (i := 3) (own := [("cell", 2)]) (g := gName 2) (tt := tYes) rfl scDraws.nd rfl rfl (sw_true rfl rfl rfl (by decide +kernel)) (pi_list (pv 0)) (blkOk_by (N := ["script", "many", "cell", "rests", "draws", "k", "at", "mixed"]) (sc := defScope sDraws) (by decide +kernel))
        (fun _ _ _ _ _ => pg_name (i := 2) scDraws.nd rfl (Or.inl rfl)) (fun _ _ _ _ _ => pts_nil) (fun _ _ _ _ _ => pe_callB call_abs (by rfl) B.abs (by decide +kernel) (pa_cons (pe_callTy call_int1 (by rfl) B.int (by decide +kernel) (pa_cons (pv 2) pa_nil)) pa_nil)))
      (pss_cons (ps_set (i := 4) scDraws.nd rfl (.inl rfl) (pe_lst pa_nil))
      (pss_cons (ps_for PassesOwn.never rfl (pi_range1 rfl B.range (pa_cons (pv 1) pa_nil)) (pg_name (i := 5) scDraws.nd rfl (.inl rfl))
        (pss_cons (ps_set (i := 2) scDraws.nd rfl (.inl rfl) (pv 5))
        (pss_cons (ps_if (pt_cmpR op_gt (pe_callB call_len_seq (by rfl) B.len PySem.boot_len (pa_cons (pv 0) pa_nil)) pe_int (nomark _))
          (pss_cons (ps_set (i := 6) scDraws.nd rfl (.inl rfl) (pe_op op_mod (pv 5) (pe_callB call_len_seq (by rfl) B.len PySem.boot_len (pa_cons (pv 0) pa_nil))))
          (pss_cons (ps_set (i := 2) scDraws.nd rfl (.inl rfl) (pe_callTy call_int1 (by rfl) B.int (by decide +kernel) (pa_cons (pe_ix ix_list (pv 0) (pv 6) (fun _ _ => rfl)) pa_nil)))
          (pss_one (ps_if (PW.pt (pw_and (pt_cmpR op_ge (pv 2) (pe_op op_pow pe_int pe_int) (nomark _)) (pw_and1 (pt_cmpR op_gt (pe_ix ix_list (pv 3) (pv 6) (fun _ _ => rfl)) pe_int (nomark _)))))
            (pss_cons (ps_expr (pe_bm PySem.F.plainAttrs_list PySem.F.slot_list_append PySem.F.type_list_append mt_append (pv 4) (pa_cons (pe_op op_mod (pe_callTy call_int1 (by rfl) B.int (by decide +kernel) (pa_cons (pe_ix ix_list (pv 3) (pv 6) (fun _ _ => rfl)) pa_nil)) pe_int) pa_nil)))
            (pss_cons (ps_asg (pe_op op_fdiv (pe_callTy call_int1 (by rfl) B.int (by decide +kernel) (pa_cons (pe_ix ix_list (pv 3) (pv 6) (fun _ _ => rfl)) pa_nil)) pe_int) (pg_sub (pv 3) (pv 6) set_list))
            (pss_one ps_continue))) pss_nil)))) pss_nil)
        (pss_cons (ps_set (i := 7) scDraws.nd rfl (.inl rfl) (pe_op op_mod (pe_callTy call_int1 (by rfl) B.int (by decide +kernel) (pa_cons (pe_op op_add (pe_op op_add (pe_op op_mul (pv 2) pe_int) (pe_op op_mul (pv 5) pe_int)) pe_int) pa_nil)) pe_int))
        (pss_cons (ps_set (i := 7) scDraws.nd rfl (.inl rfl) (pe_op op_mod (pe_callTy call_int1 (by rfl) B.int (by decide +kernel) (pa_cons (pe_op op_add (pe_op op_fdiv (pe_op op_mul (pv 7) (pv 7)) pe_int) (pv 7)) pa_nil)) pe_int))
        (pss_one (ps_expr (pe_bm PySem.F.plainAttrs_list PySem.F.slot_list_append PySem.F.type_list_append mt_append (pv 4) (pa_cons (pe_op op_mod (pe_callTy call_int1 (by rfl) B.int (by decide +kernel) (pa_cons (pe_op op_add (pe_op op_fdiv (pe_op op_mul (pv 7) (pv 7)) pe_int) (pe_op op_mul (pv 5) pe_int)) pa_nil)) pe_int) pa_nil)))))))))
      (pss_one (ps_ret (pv 4))))), ?_⟩
    -- rests = [abs(int(cell)) for cell in script]
    refine ⟨.ref a, rfl, a, rfl, ⟨_, hS⟩, fun D nD => lc_list (K := K) (a := a) (xs := ns.map V.int) (fun i H' => Same H H' ∧ ∃ rs : List Int, H' D = some (.lst (rs.map V.int)) ∧ rs.length = i)
      ⟨same_upd nD, [], upd_same, rfl⟩ (fun i H' _ hP => hP.1.seq hS) (fun i x H' hx hP => ?_) (fun H' hP => ?_)⟩
    · obtain ⟨hs, rs, hD, hl⟩ := hP
      have hi : i < ns.length := by
        have z := (List.getElem?_eq_some_iff.mp hx).1
        rw [List.length_map] at z
        exact z
      obtain ⟨n, rfl⟩ : ∃ n, x = V.int n := by
        rw [List.getElem?_map] at hx
        cases e : ns[i]? with
        | none => rw [e] at hx; cases hx
        | some n => rw [e] at hx; exact ⟨n, (Option.some.inj hx).symm⟩
      refine ⟨rfl, ?_⟩
      refine ⟨.int n, rfl, .inl ⟨n, rfl, n, rfl, _, hD, ?_, ?_, rs ++ [if n < 0 then -n else n], ?_, ?_⟩⟩
      · rw [List.length_map]
        exact small1000 (by omega)
      · intro b o e
        rw [upd_ne (ne_of_none e nD)]
        exact hs b o e
      · rw [upd_same, List.map_append]
        rfl
      · rw [List.length_append, hl]
        rfl
    · obtain ⟨hs, rs, hD, hl⟩ := hP
      have hl' : rs.length = ns.length := by
        rw [hl, List.length_map]
      -- draws = []
      refine ⟨Nat.zero_le _, fun L nL => ?_⟩
      have nLD : L ≠ D := fun e => by rw [e, hD] at nL; cases nL
      have nL0 : H L = none := hs.free nL
      refine ⟨_, rfl, (m : Int), rfl, by omega, by omega, for_range (lo := 0) (n := m) (fun i σ H' => ∃ c k t x : Option V, σ = [some (.ref a), some (.int m), c, some (.ref D), some (.ref L), k, t, x] ∧ Same H H' ∧
          ∃ rs ds : List Int, H' D = some (.lst (rs.map V.int)) ∧ rs.length = ns.length ∧ H' L = some (.lst (ds.map V.int)) ∧ ds.length = i ∧ ∀ d ∈ ds, 0 ≤ d)
        ⟨none, none, none, none, rfl, ?_, rs, [], ?_, hl', ?_, rfl, ?_⟩ (fun i σ H1 hi hP => ?_) (fun σ H1 hP => ?_)⟩
      · intro b o e
        rw [upd_ne (ne_of_none e nL0)]
        exact hs b o e
      · rw [upd_ne nLD.symm]
        exact hD
      · exact upd_same
      · intro d hd
        cases hd
      · obtain ⟨c, k, t, x, rfl, hs1, rs, ds, hD1, hr1, hL1, hd1, h0⟩ := hP
        have hA1 : SqL K H1 a (ns.map V.int) := hs1.seq hS
        have hlt : ds.length < sizeLine := small1000 (by omega)
        have mon : ∀ (z : Int) (x' t' c' : Option V) (H2 : Hp) (r2 : List Int), 0 ≤ z → Same H H2 → H2 D = some (.lst (r2.map V.int)) → r2.length = ns.length → H2 L = some (.lst ((ds ++ [z]).map V.int)) →
            ∃ c k t x : Option V, [some (V.ref a), some (V.int m), c', some (V.ref D), some (V.ref L), some (V.int (0 + (i : Int))), t', x'] = [some (V.ref a), some (V.int m), c, some (V.ref D), some (V.ref L), k, t, x] ∧ Same H H2 ∧
              ∃ rs ds : List Int, H2 D = some (.lst (rs.map V.int)) ∧ rs.length = ns.length ∧ H2 L = some (.lst (ds.map V.int)) ∧ ds.length = i + 1 ∧ ∀ d ∈ ds, 0 ≤ d := fun z x' t' c' H2 r2 hz h1 h2 h3 h4 => by
          refine ⟨c', _, t', x', rfl, h1, r2, ds ++ [z], h2, h3, h4, by simp [hd1], fun d hd => ?_⟩
          rcases List.mem_append.mp hd with q | q
          · exact h0 d q
          · rw [List.mem_singleton.mp q]; exact hz
        refine ⟨_, rfl, .ref a, rfl, a, _, rfl, .inl hA1, _, _, rfl, rfl, _, rfl, ?_⟩
        refine ite2 (fun e => ?_) (fun e => ?_)
        · have hn : 0 < ns.length := by
            have z := of_decide_eq_true e
            rw [List.length_map] at z
            omega
          have hmod : 0 ≤ (0 + (i : Int)) % ((ns.map V.int).length : Int) ∧ (0 + (i : Int)) % ((ns.map V.int).length : Int) < (ns.length : Int) := by
            rw [List.length_map]
            exact ⟨Int.emod_nonneg _ (by omega), Int.emod_lt_of_pos _ (by omega)⟩
          obtain ⟨j, hj, ej⟩ : ∃ j : Nat, j < ns.length ∧ (0 + (i : Int)) % ((ns.map V.int).length : Int) = (j : Int) := ⟨((0 + (i : Int)) % ((ns.map V.int).length : Int)).toNat, by omega, by omega⟩
          have g1 : (ns.map V.int)[j]? = some (.int ns[j]) := by
            rw [List.getElem?_map, List.getElem?_eq_getElem hj]
            rfl
          have hj2 : j < rs.length := by omega
          have g2 : (rs.map V.int)[j]? = some (.int rs[j]) := by
            rw [List.getElem?_map, List.getElem?_eq_getElem hj2]
            rfl
          refine ⟨.int (0 + (i : Int)), rfl, .ref a, rfl, a, _, rfl, .inl hA1, _, _, rfl, rfl, (by rw [List.length_map]; omega), ?_⟩
          refine ⟨.ref a, rfl, .int _, rfl, a, _, _, _, rfl, rfl, hA1, at_z ej g1, .inl ⟨_, rfl, ?_⟩⟩
          refine ⟨_, rfl, _, _, rfl, rfl, (by refine ⟨by decide, by decide, by decide⟩), _, _, rfl, rfl, _, rfl, ?_⟩
          by_cases e1 : (10 : Int) ^ (18 : Int).toNat ≤ ns[j]
          · rw [decide_eq_true e1]
            refine ⟨.ref D, rfl, .int _, rfl, D, _, _, _, rfl, rfl, .inl (.inl hD1), at_z ej g2, _, _, rfl, rfl, _, rfl, ?_⟩
            refine ite2 (fun e2 => ?_) (fun e2 => ?_)
            · refine ⟨.ref L, rfl, .inl ⟨rfl, _, .inl (.inl hL1)⟩, .ref D, rfl, .int _, rfl, D, _, _, _, rfl, rfl, .inl (.inl hD1), at_z ej g2, .inl ⟨_, rfl, _, _, rfl, rfl, (by show (0 : Int) < _; decide), L, _, _, rfl, rfl, hL1, (by rw [List.length_map]; exact hlt), ?_⟩⟩
              have hD2 : (upd H1 L (.lst (ds.map V.int ++ [.int (rs[j] % 1000003)]))) D = some (.lst (rs.map V.int)) := by
                rw [upd_ne nLD.symm]
                exact hD1
              refine ⟨.ref D, rfl, .int _, rfl, D, _, _, _, rfl, rfl, .inl (.inl hD2), at_z ej g2, .inl ⟨_, rfl, _, _, rfl, rfl, ⟨by decide, by decide⟩, .ref D, rfl, .int _, rfl, D, _, _, j, rfl, rfl, hD2, ix_z ej (by rw [List.length_map]; exact hj2), ?_⟩⟩
              refine mon (rs[j] % 1000003) _ _ _ _ (rs.set j (rs[j] / 1000003)) (Int.emod_nonneg _ (by decide)) ?_ ?_ ?_ ?_
              · intro b o e
                rw [upd_ne (ne_of_none e nD), upd_ne (ne_of_none e nL0)]
                exact hs1 b o e
              · rw [upd_same, List.map_set]
              · rw [List.length_set]
                exact hr1
              · rw [upd_ne nLD, upd_same, List.map_append]
                rfl
            · skip
              -- mixed = ..
              refine ⟨_, rfl, _, _, rfl, rfl, .inr ⟨by decide, by decide⟩, _, rfl, _, _, rfl, rfl, .inr ⟨by decide, by decide⟩, _, _, rfl, rfl, _, _, rfl, rfl, .inl ⟨_, rfl, _, _, rfl, rfl, (by show (0 : Int) < _; decide), ?_⟩⟩
              refine ⟨_, rfl, _, rfl, _, _, rfl, rfl, .inl (in64 (by decide)), _, _, rfl, rfl, ⟨by decide, by decide⟩, _, rfl, _, _, rfl, rfl, .inl ⟨_, rfl, _, _, rfl, rfl, (by show (0 : Int) < _; decide), ?_⟩⟩
              refine ⟨.ref L, rfl, .inl ⟨rfl, _, .inl (.inl hL1)⟩, _, rfl, _, rfl, _, _, rfl, rfl, .inl (in64 (by decide)), _, _, rfl, rfl, ⟨by decide, by decide⟩, _, rfl, _, _, rfl, rfl, .inr ⟨by decide, by decide⟩, _, _, rfl, rfl, .inl ⟨_, rfl, _, _, rfl, rfl, (by show (0 : Int) < _; decide), L, _, _, rfl, rfl, hL1, (by rw [List.length_map]; exact hlt), ?_⟩⟩
              refine mon ((((((ns[j] * 48271 + (0 + (i : Int)) * 69621 + 11) % 2147483647) * ((ns[j] * 48271 + (0 + (i : Int)) * 69621 + 11) % 2147483647) / 4096 + ((ns[j] * 48271 + (0 + (i : Int)) * 69621 + 11) % 2147483647)) % 2147483629) * ((((ns[j] * 48271 + (0 + (i : Int)) * 69621 + 11) % 2147483647) * ((ns[j] * 48271 + (0 + (i : Int)) * 69621 + 11) % 2147483647) / 4096 + ((ns[j] * 48271 + (0 + (i : Int)) * 69621 + 11) % 2147483647)) % 2147483629) / 4096 + (0 + (i : Int)) * 7919) % 2147483629) _ _ _ _ rs (Int.emod_nonneg _ (by decide)) ?_ ?_ hr1 ?_
              · intro b o e
                rw [upd_ne (ne_of_none e nL0)]
                exact hs1 b o e
              · rw [upd_ne nLD.symm]
                exact hD1
              · rw [upd_same, List.map_append]
                rfl
          · rw [decide_eq_false e1]
            -- mixed = ..
            refine ⟨_, rfl, _, _, rfl, rfl, .inr ⟨by decide, by decide⟩, _, rfl, _, _, rfl, rfl, .inr ⟨by decide, by decide⟩, _, _, rfl, rfl, _, _, rfl, rfl, .inl ⟨_, rfl, _, _, rfl, rfl, (by show (0 : Int) < _; decide), ?_⟩⟩
            refine ⟨_, rfl, _, rfl, _, _, rfl, rfl, .inl (in64 (by decide)), _, _, rfl, rfl, ⟨by decide, by decide⟩, _, rfl, _, _, rfl, rfl, .inl ⟨_, rfl, _, _, rfl, rfl, (by show (0 : Int) < _; decide), ?_⟩⟩
            refine ⟨.ref L, rfl, .inl ⟨rfl, _, .inl (.inl hL1)⟩, _, rfl, _, rfl, _, _, rfl, rfl, .inl (in64 (by decide)), _, _, rfl, rfl, ⟨by decide, by decide⟩, _, rfl, _, _, rfl, rfl, .inr ⟨by decide, by decide⟩, _, _, rfl, rfl, .inl ⟨_, rfl, _, _, rfl, rfl, (by show (0 : Int) < _; decide), L, _, _, rfl, rfl, hL1, (by rw [List.length_map]; exact hlt), ?_⟩⟩
            refine mon ((((((ns[j] * 48271 + (0 + (i : Int)) * 69621 + 11) % 2147483647) * ((ns[j] * 48271 + (0 + (i : Int)) * 69621 + 11) % 2147483647) / 4096 + ((ns[j] * 48271 + (0 + (i : Int)) * 69621 + 11) % 2147483647)) % 2147483629) * ((((ns[j] * 48271 + (0 + (i : Int)) * 69621 + 11) % 2147483647) * ((ns[j] * 48271 + (0 + (i : Int)) * 69621 + 11) % 2147483647) / 4096 + ((ns[j] * 48271 + (0 + (i : Int)) * 69621 + 11) % 2147483647)) % 2147483629) / 4096 + (0 + (i : Int)) * 7919) % 2147483629) _ _ _ _ rs (Int.emod_nonneg _ (by decide)) ?_ ?_ hr1 ?_
            · intro b o e
              rw [upd_ne (ne_of_none e nL0)]
              exact hs1 b o e
            · rw [upd_ne nLD.symm]
              exact hD1
            · rw [upd_same, List.map_append]
              rfl
        · skip
          -- mixed = ..
          refine ⟨_, rfl, _, _, rfl, rfl, .inr ⟨by decide, by decide⟩, _, rfl, _, _, rfl, rfl, .inr ⟨by decide, by decide⟩, _, _, rfl, rfl, _, _, rfl, rfl, .inl ⟨_, rfl, _, _, rfl, rfl, (by show (0 : Int) < _; decide), ?_⟩⟩
          refine ⟨_, rfl, _, rfl, _, _, rfl, rfl, .inl (in64 (by decide)), _, _, rfl, rfl, ⟨by decide, by decide⟩, _, rfl, _, _, rfl, rfl, .inl ⟨_, rfl, _, _, rfl, rfl, (by show (0 : Int) < _; decide), ?_⟩⟩
          refine ⟨.ref L, rfl, .inl ⟨rfl, _, .inl (.inl hL1)⟩, _, rfl, _, rfl, _, _, rfl, rfl, .inl (in64 (by decide)), _, _, rfl, rfl, ⟨by decide, by decide⟩, _, rfl, _, _, rfl, rfl, .inr ⟨by decide, by decide⟩, _, _, rfl, rfl, .inl ⟨_, rfl, _, _, rfl, rfl, (by show (0 : Int) < _; decide), L, _, _, rfl, rfl, hL1, (by rw [List.length_map]; exact hlt), ?_⟩⟩
          refine mon (((((((0 + (i : Int)) * 48271 + (0 + (i : Int)) * 69621 + 11) % 2147483647) * (((0 + (i : Int)) * 48271 + (0 + (i : Int)) * 69621 + 11) % 2147483647) / 4096 + (((0 + (i : Int)) * 48271 + (0 + (i : Int)) * 69621 + 11) % 2147483647)) % 2147483629) * (((((0 + (i : Int)) * 48271 + (0 + (i : Int)) * 69621 + 11) % 2147483647) * (((0 + (i : Int)) * 48271 + (0 + (i : Int)) * 69621 + 11) % 2147483647) / 4096 + (((0 + (i : Int)) * 48271 + (0 + (i : Int)) * 69621 + 11) % 2147483647)) % 2147483629) / 4096 + (0 + (i : Int)) * 7919) % 2147483629) _ _ _ _ rs (Int.emod_nonneg _ (by decide)) ?_ ?_ hr1 ?_
          · intro b o e
            rw [upd_ne (ne_of_none e nL0)]
            exact hs1 b o e
          · rw [upd_ne nLD.symm]
            exact hD1
          · rw [upd_same, List.map_append]
            rfl
      · obtain ⟨c, k, t, x, rfl, hs1, rs, ds, hD1, hr1, hL1, hd1, h0⟩ := hP
        exact ⟨.ref L, rfl, q H1 L ds hs1 nL0 hL1 hd1 h0⟩
/-- a drawn number below n -/
def spTake : Sp := fun vs H Q _ => ∃ (h dr : Addr) (n : Int), vs = [.ref h, .int n] ∧ Hdd H h dr ∧ 0 < n ∧ ∀ r H', 0 ≤ r → r < n → (∀ b, b ≠ h → H' b = H b) → Hdd H' h dr → Q (.int r) H'
theorem ok_take {f : Addr} {fd : FuncData} (F : Fun K "_law_take" "_law_take" sTake f fd) (B : Bt mg) : FnOk P w K mg base CX0 1 f fd ["hand", "many"] spTake := by
  refine F.ok scTake (fun vs H Q E h => ?_) (fun cdv A outer s H vs Q E hr h => ?_)
  · obtain ⟨a, d, n, rfl, _⟩ := h
    rfl
  · obtain ⟨h, d, n, rfl, ⟨ds, t, hh, hd, ne, nn⟩, n0, q⟩ := h
    refine ⟨_, pss_cons (ps_set (i := 2) scTake.nd rfl (.inl rfl) (pe_ix ix_list (pv 0) pe_int (fun _ _ => rfl)))
      (pss_cons (ps_asg (pe_op op_add (pv 2) pe_int) (pg_sub (pv 0) pe_int set_list))
      (pss_cons (ps_set (i := 3) scTake.nd rfl (.inl rfl) (pe_ix ix_list (pv 0) pe_int (fun _ _ => rfl)))
      (pss_cons (ps_if (pt_cmpR op_ge (pv 2) (pe_callB call_len_seq (by rfl) B.len PySem.boot_len (pa_cons (pv 3) pa_nil)) (nomark _)) (pss_one (ps_ret pe_int)) pss_nil)
      (pss_one (ps_ret (pe_op op_mod (pe_op op_fdiv (pe_callTy call_int1 (by rfl) B.int (by decide +kernel) (pa_cons (pe_ix ix_list (pv 3) (pv 2) (fun _ _ => rfl)) pa_nil)) pe_int) (pv 1))))))), ?_⟩
    have hdU : ∀ o, (upd H h o) d = some (.lst (ds.map V.int)) := fun o => by
      rw [upd_ne ne]
      exact hd
    have fin : Hdd (upd H h (.lst [.ref d, .int ((t + 1 : Nat) : Int)])) h d := ⟨ds, t + 1, upd_same, hdU _, ne, nn⟩
    have keep : ∀ b, b ≠ h → (upd H h (.lst [.ref d, .int ((t + 1 : Nat) : Int)])) b = H b := fun b hb => upd_ne hb
    refine ⟨.ref h, rfl, h, _, 1, .int t, rfl, rfl, sl hh, at_z (j := 1) rfl rfl, .int t, rfl, _, _, rfl, rfl, .ref h, rfl, h, _, 1, 1, rfl, rfl, hh, ix_z rfl (by show 1 < 2; decide), ?_⟩
    refine ⟨.ref h, rfl, h, _, 0, .ref d, rfl, rfl, sl upd_same, at_z (j := 0) rfl rfl, .int t, rfl, .ref d, rfl, d, _, rfl, .inl (sl (hdU _)), _, _, rfl, rfl, _, rfl, ?_⟩
    refine ite2 (fun e => ?_) (fun e => ?_)
    · exact q 0 _ (by decide) n0 keep fin
    · have hlt : t < ds.length := by
        by_cases z : t < ds.length
        · exact z
        · exact absurd (decide_eq_true (by rw [List.length_map]; omega)) e
      have g : (ds.map V.int)[t]? = some (.int ds[t]) := by
        rw [List.getElem?_map, List.getElem?_eq_getElem hlt]
        rfl
      refine ⟨.ref d, rfl, .int t, rfl, d, _, _, _, rfl, rfl, sl (hdU _), at_z rfl g, .inl ⟨_, rfl, _, _, rfl, rfl, ⟨by decide, by decide⟩, .int n, rfl, _, _, rfl, rfl, n0, ?_⟩⟩
      exact q _ _ (Int.emod_nonneg _ (by omega)) (Int.emod_lt_of_pos _ n0) keep fin
end
end CC

namespace CC
open PySem PySem.Spec PyProof.Rows L2 Ek
section
variable {P : Program} {w : World} {K : PySem.W.Frag} {mg : Str → Option Value} {base : Heap}
theorem rws_at {H : Hp} {rs : List Addr} {bss : List (List Int)} {i : Nat} {x : V} (rw1 : Rws H rs bss) (hx : (rs.map V.ref)[i]? = some x) : ∃ r bs, x = V.ref r ∧ bss[i]? = some bs ∧ H r = some (.tup (bs.map V.int)) := by
  rw [List.getElem?_map] at hx
  cases e : rs[i]? with
  | none => rw [e] at hx; cases hx
  | some r =>
    rw [e] at hx
    have hj : i < bss.length := by
      rw [← paired_len rw1]
      exact (List.getElem?_eq_some_iff.mp e).1
    obtain ⟨y, hy, hz⟩ := paired_get rw1 (List.getElem?_eq_getElem hj)
    rw [e] at hy
    cases hy
    exact ⟨r, _, (Option.some.inj hx).symm, List.getElem?_eq_getElem hj, hz⟩
theorem rws_get {H : Hp} {rs : List Addr} {bss : List (List Int)} {i : Nat} {bs : List Int} (rw1 : Rws H rs bss) (h : bss[i]? = some bs) : ∃ r, (rs.map V.ref)[i]? = some (.ref r) ∧ H r = some (.tup (bs.map V.int)) := by
  obtain ⟨y, hy, hz⟩ := paired_get rw1 h
  exact ⟨y, by rw [List.getElem?_map, hy]; rfl, hz⟩
theorem rows8 {n : Nat} (h : n ≤ 3) : (rowsOf n).length ≤ 8 := by
  rw [rows_len]
  exact Nat.le_trans (Nat.pow_le_pow_right (by decide) h) (by decide)
/-- x + (y,) -/
theorem tup_more {σ : L2.St} {H : Hp} {i : Nat} {r : Addr} {xs : List V} {y : V} {Q : VK} (hσ : σ[i]? = some (some (.ref r))) (hr : H r = some (.tup xs)) (lb : xs.length ≤ 100) (k : ∀ t H', Same H H' → H' t = some (.tup (xs ++ [y])) → Q (.ref t) H') : tOp (rCatA K) (tVar i) (tTup (tCons (tC y) tNil)) σ H Q := by
  refine ⟨.ref r, hσ, by show 1 ≤ sizeLine; decide, fun t1 nt1 => ?_⟩
  refine ⟨r, t1, xs, [y], rfl, rfl, tl (same_upd nt1 _ _ hr), tl upd_same, ?_, fun z => ?_, (fun _ z => absurd z (List.cons_ne_nil _ _)), fun _ _ p np => ?_⟩
  · exact Nat.le_of_lt (small1000 (by show xs.length + 1 ≤ 1000; omega))
  · subst z
    exact k t1 _ (same_upd nt1) upd_same
  · exact k p _ ((same_upd nt1).trans (same_upd np)) upd_same
def spEv : Sp := fun vs H Q _ => ∃ n : Nat, vs = [.int n] ∧ n ≤ 3 ∧ ∀ H' p rs, Same H H' → H p = none → H' p = some (.lst (rs.map V.ref)) → Rws H' rs (rowsOf n) → Q (.ref p) H'
theorem ok_every {f : Addr} {fd : FuncData} (F : Fun K "_law_every" "_law_every" sEvery f fd) (B : Bt mg) : FnOk P w K mg base CX0 1 f fd ["many"] spEv := by
  refine F.ok scEvery (fun vs H Q E h => ?_) (fun cdv A outer s H vs Q E hr h => ?_)
  · obtain ⟨n, rfl, _⟩ := h
    rfl
  · obtain ⟨n, rfl, hn, q⟩ := h
    refine ⟨_, (pss_cons (ps_set (i := 1) scEvery.nd rfl (.inl rfl) (pe_lst (pa_cons (pe_tup pa_nil) pa_nil)))
      (pss_cons (ps_for PassesOwn.never rfl (pi_range1 rfl B.range (pa_cons (pv 0) pa_nil)) (pg_name (i := 2) scEvery.nd rfl (.inl rfl))
      (pss_cons (ps_set (i := 3) scEvery.nd rfl (.inl rfl) (pe_lst pa_nil))
      (pss_cons (ps_for PassesOwn.never rfl (pi_list (pv 1)) (pg_name (i := 4) scEvery.nd rfl (.inl rfl))
      (pss_one (ps_set (i := 3) scEvery.nd rfl (.inl rfl) (pe_op op_cat (pv 3) (pe_lst (pa_cons (pe_op op_catA (pv 4) (pe_tup (pa_cons pe_int pa_nil))) (pa_cons (pe_op op_catA (pv 4) (pe_tup (pa_cons pe_int pa_nil))) pa_nil)))))))
      (pss_one (ps_set (i := 1) scEvery.nd rfl (.inl rfl) (pv 3))))))
      (pss_one (ps_ret (pv 1))))), ?_⟩
    refine q_seq (q_set ?_)
    refine ⟨Nat.zero_le _, fun t0 nt0 => ⟨by show 1 ≤ sizeLine; decide, fun L0 nL0 => ?_⟩⟩
    have s0 : Same H (upd (upd H t0 (.tup [])) L0 (.lst [.ref t0])) := (same_upd nt0).trans (same_upd nL0)
    have e0 : (upd (upd H t0 (.tup [])) L0 (.lst [.ref t0])) t0 = some (.tup []) := same_upd nL0 _ _ upd_same
    have n0 : H L0 = none := (same_upd nt0).free nL0
    dsimp only
    refine q_seq ?_
    refine ⟨_, rfl, n, rfl, by omega, by omega, for_range (lo := 0) (n := n) (fun i σ H' => ∃ (L : Addr) (u v x : Option V) (rs : List Addr), σ = [some (.int n), some (.ref L), u, v, x] ∧ Same H H' ∧ H L = none ∧ H' L = some (.lst (rs.map V.ref)) ∧ Rws H' rs (rowsOf i))
      ⟨L0, none, none, none, [t0], rfl, s0, n0, upd_same, .cons e0 .nil⟩ (fun i σ H1 hi hP => ?_) (fun σ H1 hP => ?_)⟩
    · obtain ⟨L, u, v, x, rs, rfl, s1, nL, hL, rw1⟩ := hP
      refine q_seq (q_set ⟨Nat.zero_le _, fun M0 nM0 => ?_⟩)
      dsimp only
      have lim := rows8 (show i ≤ 3 by omega)
      have len1 := paired_len rw1
      refine q_seq ?_
      refine ⟨.ref L, rfl, L, rfl, ⟨_, sl (same_upd nM0 _ _ hL)⟩, for_list (K := K) (a := L) (xs := rs.map V.ref) (fun j σ H2 => ∃ (M : Addr) (x : Option V) (rs2 : List Addr), σ = [some (.int n), some (.ref L), some (.int (0 + (i : Int))), some (.ref M), x] ∧ Same H1 H2 ∧ H1 M = none ∧ H2 M = some (.lst (rs2.map V.ref)) ∧ Rws H2 rs2 (((rowsOf i).take j).flatMap fun r => [r ++ [0], r ++ [1]]))
        ⟨M0, x, [], rfl, same_upd nM0, nM0, upd_same, .nil⟩ (fun j σ H2 _ hQ => ?_) (fun j x σ H2 hx hQ => ?_) (fun σ H2 hQ => ?_)⟩
      · obtain ⟨M, x, rs2, rfl, s2, _⟩ := hQ
        exact sl (s2 _ _ hL)
      · obtain ⟨M, x', rs2, rfl, s2, nM, hM, rw2⟩ := hQ
        obtain ⟨r, bs, rfl, hbs, hr⟩ := rws_at rw1 hx
        have l2 : rs2.length ≤ 16 := by
          have z := paired_len rw2
          have h2 : ∀ l : List (List Int), (l.flatMap fun r => [r ++ [0], r ++ [1]]).length = 2 * l.length := fun l => by
            induction l with
            | nil => rfl
            | cons x l ih => rw [List.flatMap_cons, List.length_append, ih, List.length_cons, List.length_cons, List.length_cons, List.length_nil]; omega
          rw [h2, List.length_take] at z
          omega
        have lb : (bs.map V.int).length ≤ 100 := by
          rw [List.length_map, row_len i bs (List.mem_of_getElem? hbs)]
          omega
        refine q_set ?_
        refine ⟨.ref M, rfl, ?_⟩
        refine tup_more (show _ = some (some (V.ref r)) from rfl) (s2 _ _ hr) lb fun t1 H3 s3 h3 => ?_
        refine tup_more (show _ = some (some (V.ref r)) from rfl) (s3 _ _ (s2 _ _ hr)) lb fun t2 H4 s4 h4 => ?_
        refine ⟨by show 2 ≤ sizeLine; decide, fun L2 nL2 => ?_⟩
        have s5 := s3.trans (s4.trans (same_upd (o := .lst [.ref t1, .ref t2]) nL2))
        refine ⟨M, L2, rs2.map V.ref, [.ref t1, .ref t2], rfl, rfl, s5 _ _ hM, upd_same, by rw [List.length_map]; exact Nat.le_of_lt (small1000 (by show rs2.length + 2 ≤ 1000; omega)), fun p np => ?_⟩
        have s6 := s5.trans (same_upd (o := .lst (rs2.map V.ref ++ [.ref t1, .ref t2])) np)
        refine ⟨p, _, rs2 ++ [t1, t2], rfl, s2.trans s6, (s2.trans s5).free np, by rw [upd_same, List.map_append]; rfl, ?_⟩
        rw [take_flat _ hbs]
        refine paired_app (rw2.same s6) (.cons ?_ (.cons ?_ .nil))
        · refine same_upd np _ _ (same_upd nL2 _ _ (s4 _ _ ?_))
          rw [h3, List.map_append]
          rfl
        · refine same_upd np _ _ (same_upd nL2 _ _ ?_)
          rw [h4, List.map_append]
          rfl
      · obtain ⟨M, x', rs2, rfl, s2, nM, hM, rw2⟩ := hQ
        dsimp only
        refine q_set ?_
        refine ⟨.ref M, rfl, ?_⟩
        refine ⟨M, _, _, _, rs2, rfl, s1.trans s2, s1.free nM, hM, ?_⟩
        rw [List.length_map, len1, List.take_length] at rw2
        exact rw2
    · obtain ⟨L, u, v, x, rs, rfl, s1, nL, hL, rw1⟩ := hP
      dsimp only
      refine q_ret ?_
      exact ⟨.ref L, rfl, q _ L rs s1 nL hL rw1⟩
def spAm : Sp := fun vs H Q _ => ∃ (h dr : Addr) (wd : Int), vs = [.ref h, .int wd] ∧ Hdd H h dr ∧ ∀ r H', -1000000 < r → r < 1000000 → Kp h H H' → Hdd H' h dr → Q (.int r) H'
theorem Kp.eq {h : Addr} {H H' : Hp} (e : ∀ b, b ≠ h → H' b = H b) : Kp h H H' := fun b o n x => (e b n).trans x
theorem ok_amount {f fTake : Addr} {fd fdTake : FuncData} (F : Fun K "_law_amount" "_law_amount" sAmount f fd) (GTake : FnOk P w K mg base CX0 1 fTake fdTake ["hand", "many"] spTake) (kTake : PySem.W.keepIn K (.ref fTake) = true) (bTake : Binds K fdTake ["hand", "many"] []) (gTake : mg "_law_take" = some (.ref fTake)) : FnOk P w K mg base CX0 2 f fd ["hand", "wide"] spAm := by
  refine F.ok scAmount (fun vs H Q E h => ?_) (fun cdv A outer s H vs Q E hr h => ?_)
  · obtain ⟨h, dr, wd, rfl, _⟩ := h
    rfl
  · obtain ⟨h, dr, wd, rfl, hd, q⟩ := h
    refine ⟨_, (pss_cons (ps_if (pt_cmpR op_eq (pv 1) pe_int (nomark _))
      (pss_one (ps_ret (pe_op op_sub (pe_call GTake (hr.mono (by decide)) (by rfl) gTake kTake bTake .nil pass0 (pa_cons (pv 0) (pa_cons pe_int pa_nil))) pe_int))) pss_nil)
      (pss_cons (ps_set (i := 2) scAmount.nd rfl (.inl rfl) (pe_op op_add (pe_op op_mul pe_int (pe_call GTake (hr.mono (by decide)) (by rfl) gTake kTake bTake .nil pass0 (pa_cons (pv 0) (pa_cons pe_int pa_nil)))) (pe_call GTake (hr.mono (by decide)) (by rfl) gTake kTake bTake .nil pass0 (pa_cons (pv 0) (pa_cons pe_int pa_nil)))))
      (pss_one (ps_ret (pe_ix ix_list (pe_lst (pa_cons (pv 2) (pa_cons (pe_op op_sub pe_int (pv 2)) pa_nil))) (pe_call GTake (hr.mono (by decide)) (by rfl) gTake kTake bTake .nil pass0 (pa_cons (pv 0) (pa_cons pe_int pa_nil))) (fun _ _ => rfl)))))), ?_⟩
    refine q_seq (q_if ?_)
    refine ⟨.int wd, rfl, rfl, _, rfl, ?_⟩
    refine ite2 (fun e => ?_) (fun e => ?_)
    · refine q_ret ?_
      refine ⟨.ref h, rfl, h, dr, 5, rfl, hd, by decide, fun r H1 r0 r1 k1 hd1 => ⟨_, _, rfl, rfl, q _ _ (by omega) (by omega) (Kp.eq k1) hd1⟩⟩
    · refine q_next ?_
      dsimp only
      refine q_seq (q_set ?_)
      refine ⟨.ref h, rfl, h, dr, 1000, rfl, hd, by decide, fun r1 H1 a1 b1 k1 hd1 => ⟨_, _, rfl, rfl, .inl ⟨by decide, by decide⟩, .ref h, rfl, h, dr, 1000, rfl, hd1, by decide, fun r2 H2 a2 b2 k2 hd2 => ⟨_, _, rfl, rfl, ?_⟩⟩⟩
      dsimp only
      refine q_ret ?_
      refine ⟨_, rfl, _, rfl, _, _, rfl, rfl, by show 2 ≤ sizeLine; decide, fun L nL => ?_⟩
      have hd2' := hd2.same (same_upd (o := .lst [.int (1000 * r1 + r2), .int (0 - (1000 * r1 + r2))]) nL)
      refine ⟨.ref h, rfl, h, dr, 2, rfl, hd2', by decide, fun r3 H3 a3 b3 k3 hd3 => ?_⟩
      have eL := (k3 L (hd2.ne nL)).trans upd_same
      have kp : Kp h H H3 := (Kp.eq k1).trans ((Kp.eq k2).trans ((Kp.of (same_upd nL)).trans (Kp.eq k3)))
      have r' : r3 = ((0 : Nat) : Int) ∨ r3 = ((1 : Nat) : Int) := by omega
      rcases r' with e | e
      · exact ⟨L, _, r3, _, rfl, rfl, sl eL, at_z e rfl, q _ _ (by omega) (by omega) kp hd3⟩
      · exact ⟨L, _, r3, _, rfl, rfl, sl eL, at_z e rfl, q _ _ (by omega) (by omega) kp hd3⟩
end
end CC

namespace CC
open PySem PySem.Spec PyProof.Rows L2 Ek
section
variable {P : Program} {w : World} {K : PySem.W.Frag} {mg : Str → Option Value} {base : Heap}
theorem q_seqJ {D : Ends} {σ : L2.St} {H : Hp} {a b : TS} (J : L2.St → Hp → Prop) (h1 : ∀ σ' H', J σ' H' → b D σ' H') (h2 : (∀ σ' H', J σ' H' → b D σ' H') → a { D with nx := fun s h => b D s h } σ H) : tSeq a b D σ H := h2 h1
def Bd (lo hi : Int) (ns : List Int) : Prop := ∀ x ∈ ns, lo ≤ x ∧ x ≤ hi
theorem Bd.nil {lo hi : Int} : Bd lo hi [] := fun _ m => by cases m
theorem Bd.snoc {lo hi x : Int} {ns : List Int} (h : Bd lo hi ns) (hx : lo ≤ x ∧ x ≤ hi) : Bd lo hi (ns ++ [x]) := fun y m => by
  rcases List.mem_append.mp m with m | m
  · exact h y m
  · rw [List.mem_singleton.mp m]; exact hx
theorem Bd.at {lo hi : Int} {ns : List Int} (h : Bd lo hi ns) {j : Nat} (hj : j < ns.length) : ∃ v, (ns.map V.int)[j]? = some (.int v) ∧ lo ≤ v ∧ v ≤ hi :=
  ⟨ns[j], by rw [List.getElem?_map, List.getElem?_eq_getElem hj]; rfl, h _ (List.getElem_mem hj)⟩
theorem Bd.wide {lo hi lo' hi' : Int} {ns : List Int} (h : Bd lo hi ns) (h1 : lo' ≤ lo) (h2 : hi ≤ hi') : Bd lo' hi' ns := fun x m => by
  have z := h x m
  omega
theorem Bd.sum {lo hi : Int} : ∀ {ns : List Int}, Bd lo hi ns → lo ≤ 0 → 0 ≤ hi → (ns.length : Int) * lo ≤ ns.sum ∧ ns.sum ≤ (ns.length : Int) * hi
  | [], _, _, _ => by simp
  | x :: ns, h, h1, h2 => by
    have z := h x List.mem_cons_self
    obtain ⟨a, b⟩ := Bd.sum (ns := ns) (fun y m => h y (List.mem_cons_of_mem _ m)) h1 h2
    rw [List.sum_cons, List.length_cons]
    have e : ∀ c : Int, ((ns.length + 1 : Nat) : Int) * c = (ns.length : Int) * c + c := fun c => by
      rw [Int.natCast_add, Int.add_mul]
      simp
    rw [e, e]
    omega
theorem mul_bit {lo hi p b : Int} (h : lo ≤ p ∧ p ≤ hi) (h1 : lo ≤ 0) (h2 : 0 ≤ hi) (hb : 0 ≤ b ∧ b ≤ 1) : lo ≤ p * b ∧ p * b ≤ hi := by
  have e : b = 0 ∨ b = 1 := by omega
  rcases e with rfl | rfl
  · rw [Int.mul_zero]; omega
  · rw [Int.mul_one]; exact h
theorem small_mul {p b lo hi : Int} (h : lo ≤ p ∧ p ≤ hi) (h1 : -1000 ≤ lo) (h2 : hi ≤ 1000) : CMul p b := .inl ⟨Int.lt_of_lt_of_le (by decide) (Int.le_trans h1 h.1), Int.lt_of_le_of_lt (Int.le_trans h.2 h2) (by decide)⟩
theorem bits_bd {bs : List Int} (h : Bits bs) : Bd 0 1 bs := fun x m => by
  have z := h x m
  omega
theorem cut_lo (xs : List V) (n : Nat) : cutV xs (some (n : Int)) none = xs.drop n := by
  unfold cutV
  rw [HT.sIx_nat, HT.sIx_none]
  by_cases h : n ≤ xs.length
  · rw [Nat.min_eq_left h]
    exact List.take_of_length_le (by rw [List.length_drop]; exact Nat.le_refl _)
  · rw [Nat.min_eq_right (by omega), List.drop_of_length_le (Nat.le_refl _), List.drop_of_length_le (by omega), List.take_nil]
theorem cut_hi (xs : List V) (n : Nat) : cutV xs none (some (n : Int)) = xs.take n := by
  unfold cutV
  rw [HT.sIx_nat, HT.sIx_none, List.drop_zero, Nat.sub_zero]
  by_cases h : n ≤ xs.length
  · rw [Nat.min_eq_left h]
  · rw [Nat.min_eq_right (by omega), List.take_of_length_le (Nat.le_refl _), List.take_of_length_le (by omega)]
theorem cut_m1 (xs : List V) : cutV xs none (some (-1)) = xs.dropLast := by
  unfold cutV
  rw [HT.sIx_none, List.drop_zero, Nat.sub_zero, List.dropLast_eq_take]
  have e : HT.sIx xs.length xs.length (some (-1)) = ((-1 : Int) + (xs.length : Int)).toNat := by
    show (if (-1 : Int) < 0 then ((-1 : Int) + (xs.length : Int)).toNat else min (-1 : Int).toNat xs.length) = _
    rw [if_pos (by decide)]
  rw [e]
  congr 1
  omega
theorem or_int {σ : L2.St} {H : Hp} {i : Nat} {kd a b : Int} {Q : VK} (hσ : σ[i]? = some (some (.int kd))) (q : ∀ w : Int, Q (.int w) H) : tCB (fun xs H Q => (∃ i, xs = [.int i] ∧ Q (.int i) H) ∨ ∃ k, xs = [.bl k] ∧ Q (.int (if k then 1 else 0)) H) (tCons (tOrV (tOp rEq (tVar i) (tC (.int a))) (tOp rEq (tVar i) (tC (.int b)))) tNil) σ H Q := by
  refine ⟨.int kd, hσ, rfl, ?_⟩
  by_cases e : kd = a
  · rw [decide_eq_true (by rw [e])]
    exact ⟨true, rfl, .inr ⟨_, rfl, q _⟩⟩
  · rw [decide_eq_false (fun z => e (V.int.inj z))]
    exact ⟨false, rfl, .int kd, hσ, rfl, .inr ⟨_, rfl, q _⟩⟩
def spLP : Sp := fun vs H Q _ => ∃ (h dr : Addr) (k : Nat), vs = [.ref h, .int k] ∧ 1 ≤ k ∧ k ≤ 3 ∧ Hdd H h dr ∧
  ∀ p t ms H', Kp h H H' → Hdd H' h dr → H' p = some (.tup [.int k, .ref t]) → H' t = some (.tup (ms.map V.int)) → ms.length = 2 ^ k → Bd (-1000000000) 1000000000 ms → Q (.ref p) H'
theorem price_end {h dr : Addr} {H H2 : Hp} {L : Addr} {ms : List Int} {k : Nat} {Q : VK}
    (q : ∀ p t ms H', Kp h H H' → Hdd H' h dr → H' p = some (.tup [.int k, .ref t]) → H' t = some (.tup (ms.map V.int)) → ms.length = 2 ^ k → Bd (-1000000000) 1000000000 ms → Q (.ref p) H')
    (kp : Kp h H H2) (hd : Hdd H2 h dr) (hL : H2 L = some (.lst (ms.map V.int))) (hl : ms.length = 2 ^ k) (hb : Bd (-1000000000) 1000000000 ms) :
    ∃ p ys, [V.ref L] = [V.ref p] ∧ ((SqL K H2 p ys ∧ ∀ l, H2 l = none → (([V.int k, .ref l] : List V).length ≤ sizeLine ∧ ∀ p, (upd H2 l (.tup ys)) p = none → Q (.ref p) (upd (upd H2 l (.tup ys)) p (.tup [.int k, .ref l])))) ∨
      (SqT K H2 p ys ∧ (([V.int k, .ref p] : List V).length ≤ sizeLine ∧ ∀ p', H2 p' = none → Q (.ref p') (upd H2 p' (.tup [.int k, .ref p]))))) :=
  ⟨L, _, rfl, .inl ⟨sl hL, fun l nl => ⟨by show 2 ≤ sizeLine; decide, fun p np => q p l ms _ (kp.trans (Kp.of ((same_upd nl).trans (same_upd np)))) (hd.same ((same_upd nl).trans (same_upd np))) upd_same (same_upd np _ _ upd_same) hl hb⟩⟩⟩
theorem ok_lprice {f fTake fEvery fAmount : Addr} {fd fdTake fdEvery fdAmount : FuncData} (F : Fun K "_law_price" "_law_price" sLPrice f fd) (B : Bt mg) (GTake : FnOk P w K mg base CX0 1 fTake fdTake ["hand", "many"] spTake) (kTake : PySem.W.keepIn K (.ref fTake) = true) (bTake : Binds K fdTake ["hand", "many"] []) (gTake : mg "_law_take" = some (.ref fTake)) (GEvery : FnOk P w K mg base CX0 1 fEvery fdEvery ["many"] spEv) (kEvery : PySem.W.keepIn K (.ref fEvery) = true) (bEvery : Binds K fdEvery ["many"] []) (gEvery : mg "_law_every" = some (.ref fEvery)) (GAmount : FnOk P w K mg base CX0 2 fAmount fdAmount ["hand", "wide"] spAm) (kAmount : PySem.W.keepIn K (.ref fAmount) = true) (bAmount : Binds K fdAmount ["hand", "wide"] []) (gAmount : mg "_law_amount" = some (.ref fAmount)) : FnOk P w K mg base CX0 3 f fd ["hand", "size"] spLP := by
  refine F.ok scLPrice (fun vs H Q E h => ?_) (fun cdv A outer s H vs Q E hr h => ?_)
  · obtain ⟨h, dr, k, rfl, _⟩ := h
    rfl
  · obtain ⟨h, dr, k, rfl, k1, k3, hd, q⟩ := h
    refine ⟨_, (pss_cons (ps_set (i := 2) scLPrice.nd rfl (.inr rfl) (pe_call GTake (hr.mono (by decide)) (by rfl) gTake kTake bTake .nil pass0 (pa_cons (pv 0) (pa_cons pe_int pa_nil))))
      (pss_cons (ps_set (i := 3) scLPrice.nd rfl (.inr rfl) (pe_callTy call_int1 (by rfl) B.int (by decide +kernel) (pa_cons (pe_or (pe_cmpR op_eq (pv 2) pe_int (nomark _)) (pe_one (pe_cmpR op_eq (pv 2) pe_int (nomark _)))) pa_nil)))
      (pss_cons (ps_set (i := 4) scLPrice.nd rfl (.inr rfl) (pe_call GEvery (hr.mono (by decide)) (by rfl) gEvery kEvery bEvery .nil pass0 (pa_cons (pv 1) pa_nil)))
      (pss_cons (ps_set (i := 6) scLPrice.nd rfl (.inr rfl) (pe_lc (own := [("row", 5)]) (g := gName 5) (tt := tYes) rfl scLPrice.nd (pi_list (pv 4)) (blkOk_by (N := NLPrice) (sc := defScope sLPrice) (by decide +kernel)) (fun _ _ _ _ _ => pg_name (i := 5) scLPrice.nd rfl (Or.inl rfl)) (fun _ _ _ _ _ => pts_nil) (fun _ _ _ _ _ => (pe_call GAmount (hr.mono (by decide)) (by rfl) gAmount kAmount bAmount .nil pass0 (pa_cons (pv 0) (pa_cons (pv 3) pa_nil))))))
      (pss_cons (ps_if (pt_cmpR op_lt (pv 2) pe_int (nomark _))
      (pss_one (ps_ret (pe_tup (pa_cons (pv 1) (pa_cons (pe_callTy call_tuple_of (by rfl) B.tuple (by decide +kernel) (pa_cons (pv 6) pa_nil)) pa_nil))))) pss_nil)
      (pss_cons (ps_if (pt_cmpR op_lt (pv 2) pe_int (nomark _))
      (pss_one (ps_ret (pe_tup (pa_cons (pv 1) (pa_cons (pe_callTy call_tuple_of (by rfl) B.tuple (by decide +kernel) (pa_cons (pe_lc (own := [("k", 12)]) (g := gName 12) (tt := tYes) rfl scLPrice.nd (pi_range1 rfl B.range (pa_cons (pe_callB call_len_seq (by rfl) B.len PySem.boot_len (pa_cons (pv 4) pa_nil)) pa_nil)) (blkOk_by (N := NLPrice) (sc := defScope sLPrice) (by decide +kernel)) (fun _ _ _ _ _ => pg_name (i := 12) scLPrice.nd rfl (Or.inl rfl)) (fun _ _ _ _ _ => pts_nil) (fun _ _ _ _ _ => (pe_ix (ixl_k K rfl) (pv 6) (pe_callB (call_min2 rfl) (by rfl) B.min (by decide +kernel) (pa_cons (pv 12) (pa_cons (pe_op op_sub (pe_op op_sub (pe_callB (call_lenk K rfl) (by rfl) B.len PySem.boot_len (pa_cons (pv 4) pa_nil)) pe_int) (pv 12)) pa_nil))) (fun _ _ => rfl)))) pa_nil)) pa_nil))))) pss_nil)
      (pss_cons (ps_if (pt_cmpR op_eq (pv 2) pe_int (nomark _))
      (pss_one (ps_ret (pe_tup (pa_cons (pv 1) (pa_cons (pe_callTy call_tuple_of (by rfl) B.tuple (by decide +kernel) (pa_cons (pe_op op_cat (pe_lst (pa_cons (pe_op op_sub (pe_callB (cr_min rfl) (by rfl) B.min (by decide +kernel) (pa_cons (pv 6) pa_nil)) (pe_call GTake (hr.mono (by decide)) (by rfl) gTake kTake bTake .nil pass0 (pa_cons (pv 0) (pa_cons pe_int pa_nil)))) pa_nil)) (pe_slice sl_list (pv 6) (po_some pe_int) po_none)) pa_nil)) pa_nil))))) pss_nil)
      (pss_cons (ps_if (pt_cmpR op_eq (pv 2) pe_int (nomark _))
      (pss_one (ps_ret (pe_tup (pa_cons (pv 1) (pa_cons (pe_callTy call_tuple_of (by rfl) B.tuple (by decide +kernel) (pa_cons (pe_op op_cat (pe_slice sl_list (pv 6) po_none (po_some (pe_un un_neg pe_int))) (pe_lst (pa_cons (pe_op op_sub (pe_callB (cr_min rfl) (by rfl) B.min (by decide +kernel) (pa_cons (pv 6) pa_nil)) (pe_call GTake (hr.mono (by decide)) (by rfl) gTake kTake bTake .nil pass0 (pa_cons (pv 0) (pa_cons pe_int pa_nil)))) pa_nil))) pa_nil)) pa_nil))))) pss_nil)
      (pss_cons (ps_set (i := 7) scLPrice.nd rfl (.inr rfl) (pe_lc (own := [("k", 12)]) (g := gName 12) (tt := tYes) rfl scLPrice.nd (pi_range1 rfl B.range (pa_cons (pv 1) pa_nil)) (blkOk_by (N := NLPrice) (sc := defScope sLPrice) (by decide +kernel)) (fun _ _ _ _ _ => pg_name (i := 12) scLPrice.nd rfl (Or.inl rfl)) (fun _ _ _ _ _ => pts_nil) (fun _ _ _ _ _ => (pe_op op_mul (pe_call GTake (hr.mono (by decide)) (by rfl) gTake kTake bTake .nil pass0 (pa_cons (pv 0) (pa_cons pe_int pa_nil))) (pe_ix (ixl_k K rfl) (pe_lst (pa_cons pe_int (pa_cons (pe_un un_neg pe_int) pa_nil))) (pe_callTy call_int1 (by rfl) B.int (by decide +kernel) (pa_cons (pe_cmpR op_eq (pv 2) pe_int (nomark _)) pa_nil)) (fun _ _ => rfl))))))
      (pss_cons (ps_set (i := 8) scLPrice.nd rfl (.inr rfl) (pe_ix ix_list (pe_lst (pa_cons pe_int (pa_cons pe_int (pa_cons pe_int (pa_cons (pe_op op_sub (pe_call GTake (hr.mono (by decide)) (by rfl) gTake kTake bTake .nil pass0 (pa_cons (pv 0) (pa_cons pe_int pa_nil))) pe_int) pa_nil))))) (pv 1) (fun _ _ => rfl)))
      (pss_cons (ps_setLc (i := 9) (own := [("k", 12)]) (g := gName 12) (tt := tYes) rfl scLPrice.nd rfl rfl (sw_true rfl rfl rfl (by decide +kernel)) (pi_range1 rfl B.range (pa_cons pe_int pa_nil)) (blkOk_by (N := NLPrice) (sc := defScope sLPrice) (by decide +kernel)) (fun _ _ _ _ _ => pg_name (i := 12) scLPrice.nd rfl (Or.inl rfl)) (fun _ _ _ _ _ => pts_nil) (fun _ _ _ _ _ => (pe_op op_sub (pe_op op_sub pe_int (pe_callB (call_max2 rfl) (by rfl) B.max (by decide +kernel) (pa_cons (pv 8) (pa_cons pe_int pa_nil)))) (pe_call GTake (hr.mono (by decide)) (by rfl) gTake kTake bTake .nil pass0 (pa_cons (pv 0) (pa_cons pe_int pa_nil))))))
      (pss_cons (ps_if (pt_cmpR op_eq (pe_call GTake (hr.mono (by decide)) (by rfl) gTake kTake bTake .nil pass0 (pa_cons (pv 0) (pa_cons pe_int pa_nil))) pe_int (nomark _))
      (pss_cons (ps_set (i := 9) scLPrice.nd rfl (.inl rfl) (pe_lst (pa_cons pe_int (pa_cons pe_int (pa_cons pe_int pa_nil)))))
      (pss_one (ps_set (i := 8) scLPrice.nd rfl (.inr rfl) pe_int))) pss_nil)
      (pss_cons (ps_set (i := 10) scLPrice.nd rfl (.inl rfl) (pe_lst pa_nil))
      (pss_cons (ps_for PassesOwn.never rfl (pi_list (pv 4)) (pg_name (i := 5) scLPrice.nd rfl (.inr rfl))
      (pss_cons (ps_set (i := 11) scLPrice.nd rfl (.inl rfl) (pe_op op_add (pe_ix ix_list (pv 6) pe_int (fun _ _ => rfl)) (pe_callB (cr_sum rfl) (by rfl) B.sum (by decide +kernel) (pa_cons (pe_lc (own := [("k", 12)]) (g := gName 12) (tt := tYes) rfl scLPrice.nd (pi_range1 rfl B.range (pa_cons (pv 1) pa_nil)) (blkOk_by (N := NLPrice) (sc := defScope sLPrice) (by decide +kernel)) (fun _ _ _ _ _ => pg_name (i := 12) scLPrice.nd rfl (Or.inl rfl)) (fun _ _ _ _ _ => pts_nil) (fun _ _ _ _ _ => (pe_op op_mul (pe_ix (ixl_k K rfl) (pv 7) (pv 12) (fun _ _ => rfl)) (pe_ix (ixt_k K rfl) (pv 5) (pv 12) (fun _ _ => rfl))))) pa_nil))))
      (pss_cons (ps_if (pt_cmpR op_gt (pv 1) pe_int (nomark _))
      (pss_one (ps_set (i := 11) scLPrice.nd rfl (.inl rfl) (pe_op op_add (pv 11) (pe_op op_mul (pe_op op_mul (pe_ix ix_list (pv 9) pe_int (fun _ _ => rfl)) (pe_ix ix_tup (pv 5) pe_int (fun _ _ => rfl))) (pe_ix ix_tup (pv 5) pe_int (fun _ _ => rfl)))))) pss_nil)
      (pss_cons (ps_if (pt_cmpR op_gt (pv 1) pe_int (nomark _))
      (pss_one (ps_set (i := 11) scLPrice.nd rfl (.inl rfl) (pe_op op_add (pe_op op_add (pe_op op_add (pv 11) (pe_op op_mul (pe_op op_mul (pe_ix ix_list (pv 9) pe_int (fun _ _ => rfl)) (pe_ix ix_tup (pv 5) pe_int (fun _ _ => rfl))) (pe_ix ix_tup (pv 5) pe_int (fun _ _ => rfl)))) (pe_op op_mul (pe_op op_mul (pe_ix ix_list (pv 9) pe_int (fun _ _ => rfl)) (pe_ix ix_tup (pv 5) pe_int (fun _ _ => rfl))) (pe_ix ix_tup (pv 5) pe_int (fun _ _ => rfl)))) (pe_op op_mul (pe_op op_mul (pe_op op_mul (pv 8) (pe_ix ix_tup (pv 5) pe_int (fun _ _ => rfl))) (pe_ix ix_tup (pv 5) pe_int (fun _ _ => rfl))) (pe_ix ix_tup (pv 5) pe_int (fun _ _ => rfl)))))) pss_nil)
      (pss_one (ps_expr (pe_bm PySem.F.plainAttrs_list PySem.F.slot_list_append PySem.F.type_list_append mt_append (pv 10) (pa_cons (pv 11) pa_nil))))))))
      (pss_one (ps_ret (pe_tup (pa_cons (pv 1) (pa_cons (pe_callTy call_tuple_of (by rfl) B.tuple (by decide +kernel) (pa_cons (pv 10) pa_nil)) pa_nil))))))))))))))))))), ?_⟩
    -- kind
    refine q_seq (q_set ?_)
    refine ⟨.ref h, rfl, h, dr, 10, rfl, hd, by decide, fun kd H1 a1 b1 e1 hd1 => ?_⟩
    have kp1 := Kp.eq e1
    dsimp only
    -- wide
    refine q_seq (q_set ?_)
    refine or_int (show _ = some (some (V.int kd)) from rfl) fun wd => ?_
    dsimp only
    -- every
    refine q_seq (q_set ?_)
    refine ⟨.int k, rfl, k, rfl, k3, fun H2 pe rs s2 n2 h2 rw2 => ?_⟩
    have hd2 := hd1.same s2
    have kp2 := kp1.trans (Kp.of s2)
    have lr : rs.length = 2 ^ k := by rw [paired_len rw2, rows_len]
    have l8 : rs.length ≤ 8 := by rw [paired_len rw2]; exact rows8 k3
    have pos : 0 < 2 ^ k := Nat.two_pow_pos k
    have ep : pe ≠ h := hd1.ne n2
    dsimp only
    -- amounts
    refine q_seq (q_set ?_)
    refine ⟨.ref pe, rfl, pe, rfl, ⟨_, sl h2⟩, fun D nD => lc_list (K := K) (a := pe) (xs := rs.map V.ref) (fun i H' => Kp h H2 H' ∧ Hdd H' h dr ∧ ∃ ms : List Int, H' D = some (.lst (ms.map V.int)) ∧ ms.length = i ∧ Bd (-1000000) 1000000 ms)
      ⟨Kp.of (same_upd nD), hd2.same (same_upd nD), [], upd_same, rfl, Bd.nil⟩ (fun i H' _ hP => sl (hP.1 _ _ ep h2)) (fun i x H' hx hP => ?_) (fun H3 hP => ?_)⟩
    · obtain ⟨kp, hdd, ms, hD, hl, hb⟩ := hP
      have lt : i < rs.length := by
        have z := (List.getElem?_eq_some_iff.mp hx).1
        rw [List.length_map] at z
        exact z
      refine ⟨rfl, .ref h, rfl, .int wd, rfl, h, dr, wd, rfl, hdd, fun r H4 r0 r1 kp4 hd4 => ⟨_, kp4 _ _ (hd2.ne nD) hD, by rw [List.length_map]; exact small1000 (by omega), fun b o n e => ?_, hd4.upd (hd2.ne nD) (hd2.ned nD), ms ++ [r], ?_, ?_, hb.snoc ⟨by omega, by omega⟩⟩⟩
      · rw [upd_ne (ne_of_none e nD)]
        exact kp4 _ _ n (kp _ _ n e)
      · rw [upd_same, List.map_append]
        rfl
      · rw [List.length_append, hl]
        rfl
    obtain ⟨kp3', hd3, am, hA, la, ba⟩ := hP
    rw [List.length_map, lr] at la
    have kp3 := kp2.trans kp3'
    have h3 := kp3' _ _ ep h2
    have rw3 : ∀ (i : Nat) (bs : List Int), (rowsOf k)[i]? = some bs → ∃ r, (rs.map V.ref)[i]? = some (.ref r) ∧ H3 r = some (.tup (bs.map V.int)) := fun i bs e => by
      obtain ⟨r, e1, e2⟩ := rws_get rw2 e
      exact ⟨r, e1, kp3' _ _ (hd2.ns e2 (fun _ _ z => by cases z)) e2⟩
    have nDh : D ≠ h := hd2.ne nD
    dsimp only
    -- kind < 4
    refine q_seq (q_if ?_)
    refine ⟨.int kd, rfl, _, _, rfl, rfl, _, rfl, ?_⟩
    refine ite2 (fun e => ?_) (fun e4 => ?_)
    · refine q_ret ?_
      exact ⟨.int k, rfl, .ref D, rfl, price_end q kp3 hd3 hA la (ba.wide (by decide) (by decide))⟩
    refine q_next ?_
    dsimp only
    -- kind < 6
    refine q_seq (q_if ?_)
    refine ⟨.int kd, rfl, _, _, rfl, rfl, _, rfl, ?_⟩
    refine ite2 (fun e => ?_) (fun e6 => ?_)
    · refine q_ret ?_
      refine ⟨.int k, rfl, .ref pe, rfl, pe, _, rfl, .inl (sl h3), _, rfl, by rw [List.length_map]; omega, by rw [List.length_map]; omega, fun D2 nD2 => lc_range (lo := 0) (n := (rs.map V.ref).length) (fun i H' => Same H3 H' ∧ ∃ ms : List Int, H' D2 = some (.lst (ms.map V.int)) ∧ ms.length = i ∧ Bd (-1000000) 1000000 ms)
        ⟨same_upd nD2, [], upd_same, rfl, Bd.nil⟩ (fun i H' hi hP => ?_) (fun H4 hP => ?_)⟩
      · obtain ⟨s', ms, hD2, hl, hb⟩ := hP
        rw [List.length_map] at hi
        obtain ⟨j, hj, ej⟩ : ∃ j : Nat, j < am.length ∧ (if ((rs.map V.ref).length : Int) - 1 - (0 + (i : Int)) < 0 + (i : Int) then ((rs.map V.ref).length : Int) - 1 - (0 + (i : Int)) else 0 + (i : Int)) = (j : Int) := by
          rw [List.length_map]
          refine ⟨(if (rs.length : Int) - 1 - (0 + (i : Int)) < 0 + (i : Int) then (rs.length : Int) - 1 - (0 + (i : Int)) else 0 + (i : Int)).toNat, ?_, ?_⟩ <;> split <;> omega
        obtain ⟨v, hv, v0, v1⟩ := ba.at hj
        refine ⟨rfl, .ref D, rfl, .int (0 + (i : Int)), rfl, .ref pe, rfl, pe, _, rfl, .inl (sl (s' _ _ h3)), _, _, rfl, rfl, .int (0 + (i : Int)), rfl, _, _, rfl, rfl, _, _, rfl, D, _, _, _, rfl, rfl, sl (s' _ _ hA), at_z ej hv, _, hD2, by rw [List.length_map]; exact small1000 (by omega), fun b o z => ?_, ms ++ [v], ?_, ?_, hb.snoc ⟨v0, v1⟩⟩
        · rw [upd_ne (ne_of_none z nD2)]
          exact s' _ _ z
        · rw [upd_same, List.map_append]
          rfl
        · rw [List.length_append, hl]
          rfl
      · obtain ⟨s', ms, hD2, hl, hb⟩ := hP
        rw [List.length_map, lr] at hl
        exact price_end q (kp3.trans (Kp.of s')) (hd3.same s') hD2 hl (hb.wide (by decide) (by decide))
    refine q_next ?_
    dsimp only
    -- kind == 6
    refine q_seq (q_if ?_)
    refine ⟨.int kd, rfl, rfl, _, rfl, ?_⟩
    refine ite2 (fun e => ?_) (fun e7 => ?_)
    · refine q_ret ?_
      refine ⟨.int k, rfl, .ref D, rfl, D, am, rfl, sl hA, by omega, fun m hm _ => ⟨.ref h, rfl, h, dr, 2, rfl, hd3, by decide, fun r H4 r0 r1 k4 hd4 => ⟨_, _, rfl, rfl, by show 1 ≤ sizeLine; decide, fun L nL => ?_⟩⟩⟩
      have kpL := (Kp.eq k4).trans (Kp.of (same_upd (o := .lst [.int (m - r)]) nL))
      refine ⟨.ref D, rfl, 1, rfl, D, _, rfl, sl (kpL _ _ nDh hA), fun p np => ?_⟩
      rw [show cutV (am.map V.int) (some 1) none = (am.drop 1).map V.int by rw [show (1 : Int) = ((1 : Nat) : Int) from rfl, cut_lo, List.map_drop]]
      refine ⟨L, p, [.int (m - r)], _, rfl, rfl, same_upd np _ _ upd_same, upd_same, by rw [List.length_map, List.length_drop, sizeLine_eq]; show 1 + (am.length - 1) ≤ _; omega, fun l nl => ?_⟩
      have sF := (same_upd (o := .lst [.int (m - r)]) nL).trans ((same_upd (o := .lst ((am.drop 1).map V.int)) np).trans (same_upd (o := .lst ([.int (m - r)] ++ (am.drop 1).map V.int)) nl))
      have bm := ba m hm
      refine price_end (ms := (m - r) :: am.drop 1) q (kp3.trans ((Kp.eq k4).trans (Kp.of sF))) (hd4.same sF) upd_same ?_ (fun x mx => ?_)
      · rw [List.length_cons, List.length_drop]
        omega
      · rcases List.mem_cons.mp mx with rfl | mx
        · omega
        · have z := ba x (List.mem_of_mem_drop mx)
          omega
    refine q_next ?_
    dsimp only
    -- kind == 7
    refine q_seq (q_if ?_)
    refine ⟨.int kd, rfl, rfl, _, rfl, ?_⟩
    refine ite2 (fun e => ?_) (fun e8 => ?_)
    · refine q_ret ?_
      refine ⟨.int k, rfl, .ref D, rfl, 1, rfl, _, rfl, D, _, rfl, sl hA, fun p np => ?_⟩
      rw [cut_m1]
      have eD := same_upd (o := .lst (am.map V.int).dropLast) np _ _ hA
      refine ⟨.ref D, rfl, D, am, rfl, sl eD, by omega, fun m hm _ => ⟨.ref h, rfl, h, dr, 2, rfl, hd3.same (same_upd np), by decide, fun r H4 r0 r1 k4 hd4 => ⟨_, _, rfl, rfl, by show 1 ≤ sizeLine; decide, fun L nL => ?_⟩⟩⟩
      have ep4 : H4 p = some (.lst (am.map V.int).dropLast) := (k4 p (hd3.ne np)).trans upd_same
      refine ⟨p, L, _, [.int (m - r)], rfl, rfl, same_upd nL _ _ ep4, upd_same, by rw [List.length_dropLast, List.length_map, sizeLine_eq]; show (am.length - 1) + 1 ≤ _; omega, fun l nl => ?_⟩
      have sF := (same_upd (o := .lst [.int (m - r)]) nL).trans (same_upd (o := .lst ((am.map V.int).dropLast ++ [.int (m - r)])) nl)
      have bm := ba m hm
      refine price_end (ms := am.dropLast ++ [m - r]) q (kp3.trans ((Kp.of (same_upd np)).trans ((Kp.eq k4).trans (Kp.of sF)))) (hd4.same sF) (by rw [upd_same, List.map_append, List.map_dropLast]; rfl) ?_ (fun x mx => ?_)
      · rw [List.length_append, List.length_dropLast, List.length_cons, List.length_nil]
        omega
      · rcases List.mem_append.mp mx with mx | mx
        · have z := ba x ((List.dropLast_sublist am).mem mx)
          omega
        · rw [List.mem_singleton.mp mx]
          omega
    refine q_next ?_
    dsimp only
    -- singles
    refine q_seq (q_set ?_)
    obtain ⟨jv, vv, ejv, evv, hvv⟩ : ∃ (j : Nat) (v : Int), (if decide (V.int kd = V.int 9) = true then (1 : Int) else 0) = (j : Int) ∧ ([V.int 1, V.int (-1)] : List V)[j]? = some (.int v) ∧ (v = 1 ∨ v = -1) := by
      by_cases e9 : V.int kd = V.int 9
      · exact ⟨1, -1, by rw [decide_eq_true e9]; rfl, rfl, .inr rfl⟩
      · exact ⟨0, 1, by rw [decide_eq_false e9]; rfl, rfl, .inl rfl⟩
    refine ⟨.int k, rfl, (k : Int), rfl, by omega, by omega, fun S nS => lc_range (lo := 0) (n := k) (fun i H' => Kp h H3 H' ∧ Hdd H' h dr ∧ ∃ ms : List Int, H' S = some (.lst (ms.map V.int)) ∧ ms.length = i ∧ Bd (-3) 3 ms)
      ⟨Kp.of (same_upd nS), hd3.same (same_upd nS), [], upd_same, rfl, Bd.nil⟩ (fun i H' hi hP => ?_) (fun H4 hP => ?_)⟩
    · obtain ⟨kp, hdd, ms, hS, hl, hb⟩ := hP
      refine ⟨rfl, .ref h, rfl, h, dr, 4, rfl, hdd, by decide, fun r H5 r0 r1 k5 hd5 => ⟨1, rfl, by show 2 ≤ sizeLine; decide, fun L nL => ⟨.int kd, rfl, rfl, .inr ⟨_, rfl, L, _, _, _, rfl, rfl, sl upd_same, at_z ejv evv, r, vv, rfl, rfl, .inl ⟨Int.lt_of_lt_of_le (by decide) r0, Int.lt_trans r1 (by decide)⟩, _, same_upd nL _ _ ((k5 _ (hd3.ne nS)).trans hS), by rw [List.length_map]; exact small1000 (by omega), fun b o n e => ?_, (hd5.same (same_upd nL)).upd (hd3.ne nS) (hd3.ned nS), ms ++ [r * vv], ?_, ?_, hb.snoc ?_⟩⟩⟩⟩
      · rw [upd_ne (ne_of_none e nS)]
        exact same_upd nL _ _ ((k5 _ n).trans (kp _ _ n e))
      · rw [upd_same, List.map_append]
        rfl
      · rw [List.length_append, hl]
        rfl
      · rcases hvv with rfl | rfl <;> omega
    obtain ⟨kp4', hd4, si, hS, ls, bs⟩ := hP
    have kp4 := kp3.trans kp4'
    dsimp only
    -- more
    refine q_seq (q_set ?_)
    refine ⟨.ref h, rfl, h, dr, 5, rfl, hd4, by decide, fun r5 H5 a5 b5 e5 hd5 => ⟨_, _, rfl, rfl, by show 4 ≤ sizeLine; decide, fun L5 nL5 => ?_⟩⟩
    obtain ⟨mo, hmo, m0, m1⟩ : ∃ v : Int, ([.int 0, .int 0, .int 0, .int (r5 - 2)] : List V)[k]? = some (.int v) ∧ -2 ≤ v ∧ v ≤ 2 := by
      rcases (show k = 1 ∨ k = 2 ∨ k = 3 by omega) with rfl | rfl | rfl
      · exact ⟨0, rfl, by decide, by decide⟩
      · exact ⟨0, rfl, by decide, by decide⟩
      · exact ⟨r5 - 2, rfl, by omega, by omega⟩
    refine ⟨.int k, rfl, L5, _, _, _, rfl, rfl, sl upd_same, at_z rfl hmo, ?_⟩
    have hd6 := hd5.same (same_upd (o := .lst [.int 0, .int 0, .int 0, .int (r5 - 2)]) nL5)
    have kp6' : Kp h H4 _ := (Kp.eq e5).trans (Kp.of (same_upd (o := .lst [.int 0, .int 0, .int 0, .int (r5 - 2)]) nL5))
    generalize (upd H5 L5 (.lst [.int 0, .int 0, .int 0, .int (r5 - 2)])) = H6 at hd6 kp6' ⊢
    have kp6 := kp4'.trans kp6'
    dsimp only
    -- pairs
    refine q_seq (q_set ?_)
    refine ⟨3, rfl, by decide, by decide, fun Pp nP => lc_range (lo := 0) (n := 3) (fun i H' => Kp h H6 H' ∧ Hdd H' h dr ∧ ∃ ms : List Int, H' Pp = some (.lst (ms.map V.int)) ∧ ms.length = i ∧ Bd (-5) 5 ms)
      ⟨Kp.of (same_upd nP), hd6.same (same_upd nP), [], upd_same, rfl, Bd.nil⟩ (fun i H' hi hP => ?_) (fun H7 hP => ?_)⟩
    · obtain ⟨kp, hdd, ms, hS, hl, hb⟩ := hP
      refine ⟨rfl, .int mo, rfl, mo, 0, rfl, _, _, rfl, rfl, .ref h, rfl, h, dr, 3, rfl, hdd, by decide, fun r H8 r0 r1 k8 hd8 => ⟨_, _, rfl, rfl, _, (k8 _ (hd6.ne nP)).trans hS, by rw [List.length_map]; exact small1000 (by omega), fun b o n e => ?_, hd8.upd (hd6.ne nP) (hd6.ned nP), ms ++ [0 - (if 0 > mo then 0 else mo) - r], ?_, ?_, hb.snoc ?_⟩⟩
      · rw [upd_ne (ne_of_none e nP)]
        exact (k8 _ n).trans (kp _ _ n e)
      · rw [upd_same, List.map_append]
        rfl
      · rw [List.length_append, hl]
        rfl
      · split <;> omega
    obtain ⟨kp7', hd7, pr, hP, lp, bp⟩ := hP
    have kp7 := kp6.trans kp7'
    dsimp only
    -- if _law_take(hand, 2) == 0
    refine q_seqJ (fun σ H' => ∃ (Pp : Addr) (pr : List Int) (mo : Int), σ = [some (.ref h), some (.int k), some (.int kd), some (.int wd), some (.ref pe), none, some (.ref D), some (.ref S), some (.int mo), some (.ref Pp), none, none, none] ∧ Kp h H3 H' ∧ Kp h H4 H' ∧ Hdd H' h dr ∧ H' Pp = some (.lst (pr.map V.int)) ∧ pr.length = 3 ∧ Bd (-5) 5 pr ∧ -2 ≤ mo ∧ mo ≤ 2) (fun σ' H' hJ => ?_) (fun key => ?_)
    rotate_left
    · refine q_if ?_
      refine ⟨.ref h, rfl, h, dr, 2, rfl, hd7, by decide, fun r8 H8 a8 b8 e8 hd8 => ⟨rfl, _, rfl, ?_⟩⟩
      refine ite2 (fun e => ?_) (fun e => ?_)
      · refine q_seq (q_set ⟨by show 3 ≤ sizeLine; decide, fun L nL => ?_⟩)
        dsimp only
        refine q_setc ?_
        refine key _ _ ⟨L, [0, 0, 0], 0, rfl, kp7.trans ((Kp.eq e8).trans (Kp.of (same_upd nL))), (kp6'.trans kp7').trans ((Kp.eq e8).trans (Kp.of (same_upd nL))), hd8.same (same_upd nL), upd_same, rfl, fun x m => ?_, by decide, by decide⟩
        simp only [List.mem_cons, List.not_mem_nil, or_false, or_self] at m
        rw [m]
        decide
      · refine q_next ?_
        exact key _ _ ⟨Pp, pr, mo, rfl, kp7.trans (Kp.eq e8), (kp6'.trans kp7').trans (Kp.eq e8), hd8, (e8 _ (hd6.ne nP)).trans hP, lp, bp, m0, m1⟩
    clear hP lp bp m0 m1 hmo
    obtain ⟨Pp', pr', mo', rfl, kp8, kp8', hd8, hP, lp, bp, m0, m1⟩ := hJ
    have hA8 := kp8 _ _ nDh hA
    have hS8 := kp8' _ _ (hd3.ne nS) hS
    have h8 := kp8 _ _ ep h3
    -- costs = []
    refine q_seq (q_set ⟨Nat.zero_le _, fun Cc nC => ?_⟩)
    dsimp only
    -- for row in every
    refine q_seq ?_
    refine ⟨.ref pe, rfl, pe, rfl, ⟨_, sl (same_upd nC _ _ h8)⟩, for_list (K := K) (a := pe) (xs := rs.map V.ref) (fun i σ H2 => ∃ (x c : Option V) (cs : List Int), σ = [some (.ref h), some (.int k), some (.int kd), some (.int wd), some (.ref pe), x, some (.ref D), some (.ref S), some (.int mo'), some (.ref Pp'), some (.ref Cc), c, none] ∧ Same H' H2 ∧ H2 Cc = some (.lst (cs.map V.int)) ∧ cs.length = i ∧ Bd (-1000000000) 1000000000 cs)
      ⟨none, none, [], rfl, same_upd nC, upd_same, rfl, Bd.nil⟩ (fun i σ H2 _ hQ => ?_) (fun i x σ H2 hx hQ => ?_) (fun σ H2 hQ => ?_)⟩
    · obtain ⟨x, c, cs, rfl, s9, _⟩ := hQ
      exact sl (s9 _ _ h8)
    · obtain ⟨x', c, cs, rfl, s9, hC, lc, bc⟩ := hQ
      obtain ⟨r, bs', rfl, hbs, _⟩ := rws_at rw2 hx
      obtain ⟨r2, hx2, hr3⟩ := rw3 _ _ hbs
      have er : r2 = r := V.ref.inj (Option.some.inj (hx2.symm.trans hx))
      subst er
      have mb := List.mem_of_getElem? hbs
      have lb := row_len k bs' mb
      have bb := bits_bd (bits_rows k bs' mb)
      have li : i < rs.length := by
        have z := (List.getElem?_eq_some_iff.mp hx2).1
        rw [List.length_map] at z
        exact z
      have hr9 := s9 _ _ (kp8 _ _ (hd3.ns hr3 (fun _ _ z => by cases z)) hr3)
      obtain ⟨a0, ha0, a00, a01⟩ := ba.at (j := 0) (by omega)
      -- cost = amounts[0] + sum(..)
      refine q_seq (q_set ?_)
      refine ⟨.ref D, rfl, D, _, _, _, rfl, rfl, sl (s9 _ _ hA8), at_z (j := 0) rfl ha0, .int k, rfl, (k : Int), rfl, by omega, by omega, fun E nE => lc_range (lo := 0) (n := k) (fun j H' => Same H2 H' ∧ ∃ ms : List Int, H' E = some (.lst (ms.map V.int)) ∧ ms.length = j ∧ Bd (-3) 3 ms)
        ⟨same_upd nE, [], upd_same, rfl, Bd.nil⟩ (fun j H' hj hP => ?_) (fun H10 hP => ?_)⟩
      · obtain ⟨s', ms, hE, hl, hb⟩ := hP
        obtain ⟨v1, hv1, v10, v11⟩ := bs.at (j := j) (by omega)
        obtain ⟨v2, hv2, v20, v21⟩ := bb.at (j := j) (by omega)
        refine ⟨rfl, .ref S, rfl, .int (0 + (j : Int)), rfl, S, _, _, _, rfl, rfl, sl (s' _ _ (s9 _ _ hS8)), at_z (Int.zero_add _) hv1, .ref r2, rfl, .int (0 + (j : Int)), rfl, r2, _, _, _, rfl, rfl, tl (s' _ _ hr9), at_z (Int.zero_add _) hv2, _, _, rfl, rfl, small_mul ⟨v10, v11⟩ (by decide) (by decide), _, hE, by rw [List.length_map]; exact small1000 (by omega), fun b o e => ?_, ms ++ [v1 * v2], ?_, ?_, hb.snoc (mul_bit ⟨v10, v11⟩ (by decide) (by decide) ⟨v20, v21⟩)⟩
        · rw [upd_ne (ne_of_none e nE)]
          exact s' _ _ e
        · rw [upd_same, List.map_append]
          rfl
        · rw [List.length_append, hl]
          rfl
      obtain ⟨s10, su, hE, lsu, bsu⟩ := hP
      refine ⟨E, su, rfl, sl hE, _, _, rfl, rfl, ?_⟩
      obtain ⟨z0, z1⟩ := bsu.sum (by decide) (by decide)
      rw [lsu] at z0 z1
      have hr10 := s10 _ _ hr9
      have hP10 := s10 _ _ (s9 _ _ hP)
      have c0 : -2000000 ≤ a0 + su.sum ∧ a0 + su.sum ≤ 2000000 := by omega
      dsimp only
      generalize a0 + su.sum = c at c0 ⊢
      -- if size > 1
      refine q_seqJ (fun σ H' => ∃ c : Int, σ = [some (.ref h), some (.int k), some (.int kd), some (.int wd), some (.ref pe), some (.ref r2), some (.ref D), some (.ref S), some (.int mo'), some (.ref Pp'), some (.ref Cc), some (.int c), none] ∧ H' = H10 ∧ -3000000 ≤ c ∧ c ≤ 3000000) (fun σ' H' hJ => ?_) (fun key => ?_)
      rotate_left
      · refine q_if ?_
        refine ⟨.int k, rfl, _, _, rfl, rfl, _, rfl, ?_⟩
        refine ite2 (fun e => ?_) (fun e => ?_)
        · have e' : (1 : Int) < k := of_decide_eq_true e
          obtain ⟨p0, hp0, p00, p01⟩ := bp.at (j := 0) (by omega)
          obtain ⟨v0, hv0, v00, v01⟩ := bb.at (j := 0) (by omega)
          obtain ⟨v1, hv1, v10, v11⟩ := bb.at (j := 1) (by omega)
          have m1' := mul_bit ⟨p00, p01⟩ (by decide) (by decide) ⟨v00, v01⟩
          have m2' := mul_bit m1' (by decide) (by decide) ⟨v10, v11⟩
          refine q_set ?_
          refine ⟨.int c, rfl, .ref Pp', rfl, Pp', _, _, _, rfl, rfl, sl hP10, at_z (j := 0) rfl hp0, .ref r2, rfl, r2, _, _, _, rfl, rfl, tl hr10, at_z (j := 0) rfl hv0, _, _, rfl, rfl, small_mul ⟨p00, p01⟩ (by decide) (by decide), .ref r2, rfl, r2, _, _, _, rfl, rfl, tl hr10, at_z (j := 1) rfl hv1, _, _, rfl, rfl, small_mul m1' (by decide) (by decide), _, _, rfl, rfl, ?_⟩
          exact key _ _ ⟨_, rfl, rfl, by omega, by omega⟩
        · refine q_next ?_
          exact key _ _ ⟨c, rfl, rfl, by omega, by omega⟩
      obtain ⟨c2, rfl, eH, c20, c21⟩ := hJ
      replace eH := eH.symm
      subst eH
      clear c0
      -- if size > 2
      refine q_seqJ (fun σ H' => ∃ c : Int, σ = [some (.ref h), some (.int k), some (.int kd), some (.int wd), some (.ref pe), some (.ref r2), some (.ref D), some (.ref S), some (.int mo'), some (.ref Pp'), some (.ref Cc), some (.int c), none] ∧ H' = H10 ∧ -4000000 ≤ c ∧ c ≤ 4000000) (fun σ' H' hJ => ?_) (fun key => ?_)
      rotate_left
      · refine q_if ?_
        refine ⟨.int k, rfl, _, _, rfl, rfl, _, rfl, ?_⟩
        refine ite2 (fun e => ?_) (fun e => ?_)
        · have e' : (2 : Int) < k := of_decide_eq_true e
          obtain ⟨p1, hp1, p10, p11⟩ := bp.at (j := 1) (by omega)
          obtain ⟨p2, hp2, p20, p21⟩ := bp.at (j := 2) (by omega)
          obtain ⟨v0, hv0, v00, v01⟩ := bb.at (j := 0) (by omega)
          obtain ⟨v1, hv1, v10, v11⟩ := bb.at (j := 1) (by omega)
          obtain ⟨v2, hv2, v20, v21⟩ := bb.at (j := 2) (by omega)
          have ma := mul_bit ⟨p10, p11⟩ (by decide) (by decide) ⟨v00, v01⟩
          have ma2 := mul_bit ma (by decide) (by decide) ⟨v20, v21⟩
          have mb' := mul_bit ⟨p20, p21⟩ (by decide) (by decide) ⟨v10, v11⟩
          have mb2 := mul_bit mb' (by decide) (by decide) ⟨v20, v21⟩
          have mc := mul_bit ⟨m0, m1⟩ (by decide) (by decide) ⟨v00, v01⟩
          have mc2 := mul_bit mc (by decide) (by decide) ⟨v10, v11⟩
          have mc3 := mul_bit mc2 (by decide) (by decide) ⟨v20, v21⟩
          refine q_set ?_
          refine ⟨.int c2, rfl, .ref Pp', rfl, Pp', _, _, _, rfl, rfl, sl hP10, at_z (j := 1) rfl hp1, .ref r2, rfl, r2, _, _, _, rfl, rfl, tl hr10, at_z (j := 0) rfl hv0, _, _, rfl, rfl, small_mul ⟨p10, p11⟩ (by decide) (by decide), .ref r2, rfl, r2, _, _, _, rfl, rfl, tl hr10, at_z (j := 2) rfl hv2, _, _, rfl, rfl, small_mul ma (by decide) (by decide), _, _, rfl, rfl, ?_⟩
          refine ⟨.ref Pp', rfl, Pp', _, _, _, rfl, rfl, sl hP10, at_z (j := 2) rfl hp2, .ref r2, rfl, r2, _, _, _, rfl, rfl, tl hr10, at_z (j := 1) rfl hv1, _, _, rfl, rfl, small_mul ⟨p20, p21⟩ (by decide) (by decide), .ref r2, rfl, r2, _, _, _, rfl, rfl, tl hr10, at_z (j := 2) rfl hv2, _, _, rfl, rfl, small_mul mb' (by decide) (by decide), _, _, rfl, rfl, ?_⟩
          refine ⟨.int mo', rfl, .ref r2, rfl, r2, _, _, _, rfl, rfl, tl hr10, at_z (j := 0) rfl hv0, _, _, rfl, rfl, small_mul ⟨m0, m1⟩ (by decide) (by decide), .ref r2, rfl, r2, _, _, _, rfl, rfl, tl hr10, at_z (j := 1) rfl hv1, _, _, rfl, rfl, small_mul mc (by decide) (by decide), .ref r2, rfl, r2, _, _, _, rfl, rfl, tl hr10, at_z (j := 2) rfl hv2, _, _, rfl, rfl, small_mul mc2 (by decide) (by decide), _, _, rfl, rfl, ?_⟩
          exact key _ _ ⟨_, rfl, rfl, by omega, by omega⟩
        · refine q_next ?_
          exact key _ _ ⟨c2, rfl, rfl, by omega, by omega⟩
      obtain ⟨c3, rfl, eH, c30, c31⟩ := hJ
      replace eH := eH.symm
      subst eH
      -- costs.append(cost)
      have hC10 := s10 _ _ hC
      refine ⟨.ref Cc, rfl, .inl ⟨rfl, _, .inl (.inl hC10)⟩, .int c3, rfl, Cc, _, _, rfl, rfl, hC10, by rw [List.length_map]; exact small1000 (by omega), ?_⟩
      refine ⟨_, _, cs ++ [c3], rfl, fun b o e => ?_, by rw [upd_same, List.map_append]; rfl, by rw [List.length_append, lc]; rfl, bc.snoc ⟨by omega, by omega⟩⟩
      rw [upd_ne (ne_of_none e nC)]
      exact s10 _ _ (s9 _ _ e)
    · obtain ⟨x', c, cs, rfl, s9, hC, lc, bc⟩ := hQ
      dsimp only
      rw [List.length_map, lr] at lc
      refine q_ret ?_
      exact ⟨.int k, rfl, .ref Cc, rfl, price_end q ((kp3.trans kp8).trans (Kp.of s9)) (hd8.same s9) hC lc bc⟩
end
end CC

namespace CC
open PySem PySem.Spec PyProof.Rows L2 Ek
section
variable {P : Program} {w : World} {K : PySem.W.Frag} {mg : Str → Option Value} {base : Heap}
theorem is_seq {H : Hp} {p : Addr} {v : V} (k : Kn H v) (np : H p = none) : ∃ t us, TyX K (upd H p (.tup [.ty "list", .ty "tuple"])) v t ∧ Paired ClsV [V.ty "list", .ty "tuple"] us ∧ PySem.W.kitAny K t us = some (isR v) := by
  have c2 : Paired ClsV [.ty "list", .ty "tuple"] [.type "list", .type "tuple"] := .cons (.ty _) (.cons (.ty _) .nil)
  have s1 := same_upd (o := .tup [.ty "list", .ty "tuple"]) np
  cases k.same s1 with
  | non => exact ⟨_, _, .base .non, c2, kitAny_cons (b := false) (kit_ty (by decide +kernel)) (fun _ => kitAny_cons (b := false) (r := false) (kit_ty (by decide +kernel)) (fun _ => kitAny_nil) (fun z => z)) (fun z => by cases z)⟩
  | bl b => exact ⟨_, _, .base (.bl _), c2, kitAny_cons (b := false) (kit_ty (by decide +kernel)) (fun _ => kitAny_cons (b := false) (r := false) (kit_ty (by decide +kernel)) (fun _ => kitAny_nil) (fun z => z)) (fun z => by cases z)⟩
  | int i => exact ⟨_, _, .base (.int _), c2, kitAny_cons (b := false) (kit_ty (by decide +kernel)) (fun _ => kitAny_cons (b := false) (r := false) (kit_ty (by decide +kernel)) (fun _ => kitAny_nil) (fun z => z)) (fun z => by cases z)⟩
  | str x => exact ⟨_, _, .base (.str _), c2, kitAny_cons (b := false) (kit_ty (by decide +kernel)) (fun _ => kitAny_cons (b := false) (r := false) (kit_ty (by decide +kernel)) (fun _ => kitAny_nil) (fun z => z)) (fun z => by cases z)⟩
  | lst e => exact ⟨_, _, .base (.lst e), c2, kitAny_cons (b := true) (kit_ty (by decide +kernel)) (fun z => by cases z) (fun _ => rfl)⟩
  | tup e => exact ⟨_, _, .base (.tup e), c2, kitAny_cons (b := false) (kit_ty (by decide +kernel)) (fun _ => kitAny_cons (b := true) (kit_ty (by decide +kernel)) (fun z => by cases z) (fun _ => rfl)) (fun z => by cases z)⟩
theorem mem_kn {H : Hp} {am : V} {xs : List V} (hA : Am H am) (m : Mem H am xs) : (∀ x ∈ xs, Kn H x) ∧ xs.length ≤ 100 := by
  cases hA with
  | flat k n =>
    obtain ⟨a, rfl, _⟩ := m
    cases n
  | lst e km z =>
    rw [mem_lst e m]
    exact ⟨km, z⟩
  | tup e km z =>
    rw [mem_tup e m]
    exact ⟨km, z⟩
theorem am_kn {H : Hp} {am : V} (hA : Am H am) : Kn H am := by
  cases hA with
  | flat k n => exact k
  | lst e km z => exact .lst e
  | tup e km z => exact .tup e
theorem am_mem {H : Hp} {am : V} (hA : Am H am) (r : isR am = true) : ∃ a xs, am = .ref a ∧ (H a = some (.lst xs) ∨ H a = some (.tup xs)) := by
  cases hA with
  | flat k n => rw [n] at r; cases r
  | @lst a xs e km z => exact ⟨a, xs, rfl, .inl e⟩
  | @tup a xs e km z => exact ⟨a, xs, rfl, .inr e⟩
theorem cat_A {H : Hp} {a b : Addr} {xs ys : List V} {Q : VK} (ha : H a = some (.tup xs)) (hb : H b = some (.tup ys)) (hz : xs.length + ys.length ≤ 1000) (k : ∀ t H', Same H H' → H' t = some (.tup (xs ++ ys)) → Q (.ref t) H') : rCatA K (.ref a) (.ref b) H Q := by
  refine ⟨a, b, xs, ys, rfl, rfl, tl ha, tl hb, Nat.le_of_lt (small1000 hz), fun z => ?_, fun _ z => ?_, fun _ _ p np => k p _ (same_upd np) upd_same⟩
  · subst z
    exact k b H (Same.refl H) hb
  · subst z
    exact k a H (Same.refl H) (by rw [List.append_nil]; exact ha)
theorem noPart {σ : L2.St} {H : Hp} {Q : Option Int → Hp → Prop} (h : Q none H) : tNoPart σ H Q := h
theorem sl_A {H : Hp} {a : Addr} {xs ys : List V} {lo hi : Option Int} {Q : VK} (ha : H a = some (.tup xs)) (e : cutV xs lo hi = ys) (k : ∀ t H', Same H H' → H' t = some (.tup ys) → Q (.ref t) H') : rSlA K (.ref a) lo hi H Q := by
  refine ⟨a, xs, rfl, tl ha, fun ⟨z1, z2⟩ => ?_, fun _ p np => k p _ (same_upd np) (by rw [upd_same, e])⟩
  refine k a H (Same.refl H) ?_
  rw [← e]
  unfold cutV
  rw [z1, z2, List.drop_zero, Nat.sub_zero, List.take_length]
  exact ha
theorem cut_lo1 (xs : List V) (n : Nat) : cutV xs (some ((n : Int) + 1)) none = xs.drop (n + 1) := cut_lo xs (n + 1)
theorem kn_int {i : Int} : ∀ H2, Kn H2 (.int i) := fun _ => .int i
theorem len_map {xs ms : List Int} (e : ms.map V.int = xs.map V.int) : ms.length = xs.length := by
  have z := congrArg List.length e
  rw [List.length_map, List.length_map] at z
  exact z
theorem sm_ints {ms : List Int} {lo hi : Int} (hb : Bd lo hi ms) (h1 : -1000000000 ≤ lo) (h2 : hi ≤ 1000000000) (hl : ms.length ≤ 9) : Sm 400 3 (.tuple (ms.map .int)) := by
  refine (Sm.tuple (n := 13) (k := 0) (ds := ms.map .int) fun d m => ?_).mono (by rw [List.length_map]; omega) (by decide)
  obtain ⟨x, mx, rfl⟩ := List.mem_map.mp m
  have z := hb x mx
  exact Sm.int (by omega)
theorem pow8 {k : Nat} (k3 : k ≤ 3) : 2 ^ k ≤ 8 := Nat.le_trans (Nat.pow_le_pow_right (by decide) k3) (by decide)
theorem Bd.mem {lo hi : Int} {ns ms : List Int} (h : Bd lo hi ns) (s : ∀ x ∈ ms, x ∈ ns) : Bd lo hi ms := fun x m => h x (s x m)
theorem tx_ints {ms : List Int} : Tx (.tuple (ms.map .int)) := Tx.tuple fun d m => by
  obtain ⟨x, _, rfl⟩ := List.mem_map.mp m
  exact Tx.int
/-- what the clauses of try tell of an error's class -/
structure Xe (K : PySem.W.Frag) (C pe : Addr) : Prop where
  te : PySem.W.exmOne K (.ref C) (.ref C) = some true
  kp : PySem.W.kitOne K (.ref C) (.ref pe) = some true
theorem lkv {v : V} : ([("value", v)] : List (Str × V)).lookup ("value" : Str) = some v := by simp [List.lookup]
theorem rows_num3 : ∀ k : Fin 4, ∀ i : Fin 8, ((rowsOf k.1)[i.1]?).all (fun bs => num bs == (i.1 : Int)) = true := by decide +kernel
theorem rows_num {k i : Nat} {bs : List Int} (k3 : k ≤ 3) (h : (rowsOf k)[i]? = some bs) : num bs = (i : Int) := by
  have hi : i < 8 := Nat.lt_of_lt_of_le (List.getElem?_eq_some_iff.mp h).1 (rows8 k3)
  have z := rows_num3 ⟨k, by omega⟩ ⟨i, hi⟩
  simp only at z
  rw [h] at z
  exact eq_of_beq z
theorem cost_row {k i : Nat} {bs ms : List Int} (k3 : k ≤ 3) (h : (rowsOf k)[i]? = some bs) (hl : ms.length = 2 ^ k) : (ms.map V.int)[i]? = some (.int (costL ms bs)) := by
  have hi : i < ms.length := by
    rw [hl, ← rows_len]
    exact (List.getElem?_eq_some_iff.mp h).1
  unfold costL
  rw [rows_num k3 h, Int.toNat_natCast, List.getElem?_map, List.getElem?_eq_getElem hi, List.getD_eq_getElem?_getD, List.getElem?_eq_getElem hi]
  rfl
theorem okd_int {lo hi i : Int} {ms : List Int} (hb : Bd (-1000000000) 1000000000 ms) (m : i ∈ ms) : Okd (.int i) := by
  have z := hb i m
  exact (Sm.int (by omega)).okd (by decide) (by decide)
theorem q_asg {D : Ends} {σ : L2.St} {H : Hp} {te : TE} {g : TG} (h : te σ H fun v H1 => g v σ H1 D.nx) : tAsg te g D σ H := h
theorem PrAt.kp {C h dr : Addr} {H H' : Hp} {p : Addr} {k : Nat} {ms : List Int} (hd : Hdd H h dr) (kp : Kp h H H') (x : PrAt C H p k ms) : PrAt C H' p k ms := by
  obtain ⟨dx, t, h1, h2, h3⟩ := x
  exact ⟨dx, t, kp _ _ (hd.ns h1 (fun _ _ z => by cases z)) h1, kp _ _ (hd.ns h2 (fun _ _ z => by cases z)) h2, h3⟩
theorem PrAt.updL {C l : Addr} {H : Hp} {p : Addr} {k : Nat} {ms : List Int} {xs : List V} {o : HO} (e : H l = some (.lst xs)) (x : PrAt C H p k ms) : PrAt C (upd H l o) p k ms := by
  obtain ⟨dx, t, h1, h2, h3⟩ := x
  exact ⟨dx, t, by rw [upd_ne (ne_of h1 e (by intro z; cases z))]; exact h1, by rw [upd_ne (ne_of h2 e (by intro z; cases z))]; exact h2, h3⟩
theorem made_same {H H' : Hp} {x dx C : Addr} (nx : H x = none) (ndx : H dx = none) (kk : ∀ b o, b ≠ x → (upd (upd H dx (.own x)) x (.ins C dx [])) b = some o → H' b = some o) : Same H H' := fun b o e => by
  refine kk b o (ne_of_none e nx) ?_
  rw [upd_ne (ne_of_none e nx), upd_ne (ne_of_none e ndx)]
  exact e
theorem made_am {H : Hp} {x dx C : Addr} (nx : H x = none) (ndx : H dx = none) : Same H (upd (upd H dx (.own x)) x (.ins C dx [])) := fun b o e => by
  rw [upd_ne (ne_of_none e nx), upd_ne (ne_of_none e ndx)]
  exact e
/-- a price is made of what is good -/
theorem pr_made {C : Addr} {H : Hp} {x dx : Addr} {am : V} {k : Nat} {ms : List Int} {R : Hp → Prop} (nx : H x = none) (ndx : H dx = none) (hA : Am H am) (k1 : 1 ≤ k) (k3 : k ≤ 3) (hl : ms.length = 2 ^ k) (m : Mem H am (ms.map V.int)) (q : ∀ H', Same H H' → PrAt C H' x k ms → R H') :
    spPI0 C [.ref x, .int k, am] (upd (upd H dx (.own x)) x (.ins C dx [])) (fun v H2 => v = .non ∧ R H2) E0 := by
  refine ⟨x, dx, .int k, am, k, ms, rfl, upd_same, hA.same (made_am nx ndx), ⟨rfl, k1, k3, hl, ?_⟩, fun H' kk pr => ⟨rfl, q H' (made_same nx ndx kk) pr⟩⟩
  obtain ⟨a, rfl, h⟩ := m
  exact ⟨a, rfl, h.imp (made_am nx ndx _ _) (made_am nx ndx _ _)⟩
end
end CC

namespace CC
open PySem PySem.Spec PyProof.Rows L2 Ek
section
variable {P : Program} {w : World} {K : PySem.W.Frag} {mg : Str → Option Value} {base : Heap}
theorem ok_place {f : Addr} {fd : FuncData} (F : Fun K "_law_place" "_law_place" sPlace f fd) : FnOk P w K mg base CX0 1 f fd ["row"] (spRN K) := by
  refine F.ok scPlace (fun vs H Q E h => ?_) (fun cdv A outer s H vs Q E hr h => ?_)
  · obtain ⟨a, bs, rfl, _⟩ := h
    rfl
  · obtain ⟨a, bs, rfl, hS, q⟩ := h
    refine ⟨_, (pss_cons (ps_set (i := 1) scPlace.nd rfl (.inl rfl) pe_int)
      (pss_cons (ps_for PassesOwn.never rfl (pi_tup (pv 0)) (pg_name (i := 2) scPlace.nd rfl (.inl rfl))
      (pss_one (ps_set (i := 1) scPlace.nd rfl (.inl rfl) (pe_op op_add (pe_op op_mul pe_int (pv 1)) (pv 2)))))
      (pss_one (ps_ret (pv 1))))), ?_⟩
    refine q_seq (q_setc ?_)
    dsimp only
    refine q_seq ?_
    refine ⟨.ref a, rfl, a, rfl, ⟨_, hS⟩, for_tup (K := K) (a := a) (xs := bs.map V.int) (fun i σ H' => ∃ v : Option V, σ = [some (.ref a), some (.int (num (bs.take i))), v] ∧ H' = H) ⟨none, rfl, rfl⟩ (fun i σ H' _ hP => by obtain ⟨v, _, rfl⟩ := hP; exact hS) (fun i x σ H' hx hP => ?_) (fun σ H' hP => ?_)⟩
    · obtain ⟨v, rfl, rfl⟩ := hP
      rw [List.getElem?_map] at hx
      cases e : bs[i]? with
      | none => rw [e] at hx; cases hx
      | some b =>
        rw [e] at hx
        obtain rfl : x = .int b := (Option.some.inj hx).symm
        refine ⟨_, rfl, _, _, rfl, rfl, .inl ⟨by decide, by decide⟩, _, rfl, _, _, rfl, rfl, some (.int b), ?_, rfl⟩
        rw [num_take e]
        rfl
    · obtain ⟨v, rfl, rfl⟩ := hP
      dsimp only
      refine q_ret ⟨_, rfl, ?_⟩
      rw [List.length_map, List.take_length]
      exact q
def spCost : Sp := fun vs H Q _ => ∃ (q t r : Addr) (k : Nat) (ms bs : List Int), vs = [.ref q, .ref r] ∧ H q = some (.tup [.int k, .ref t]) ∧ H t = some (.tup (ms.map V.int)) ∧ ms.length = 2 ^ k ∧ k ≤ 3 ∧ H r = some (.tup (bs.map V.int)) ∧ Bits bs ∧ bs.length = k ∧ Q (.int (costL ms bs)) H
theorem ok_cost {f fPlace : Addr} {fd fdPlace : FuncData} (F : Fun K "_law_cost" "_law_cost" sCost f fd) (GPlace : FnOk P w K mg base CX0 1 fPlace fdPlace ["row"] (spRN K)) (kPlace : PySem.W.keepIn K (.ref fPlace) = true) (bPlace : Binds K fdPlace ["row"] []) (gPlace : mg "_law_place" = some (.ref fPlace)) : FnOk P w K mg base CX0 2 f fd ["price", "row"] spCost := by
  refine F.ok scCost (fun vs H Q E h => ?_) (fun cdv A outer s H vs Q E hr h => ?_)
  · obtain ⟨q, t, r, k, ms, bs, rfl, _⟩ := h
    rfl
  · obtain ⟨q, t, r, k, ms, bs, rfl, hq, ht, hl, k3, hr2, hb, lb, qq⟩ := h
    obtain ⟨e1, e2⟩ := cost_at hb lb k3 hl
    refine ⟨_, (pss_one (ps_ret (pe_ix ix_tup (pe_ix ix_tup (pv 0) pe_int (fun _ _ => rfl)) (pe_call GPlace (hr.mono (by decide)) (by rfl) gPlace kPlace bPlace .nil pass0 (pa_cons (pv 1) pa_nil)) (fun _ _ => rfl)))), ?_⟩
    refine q_ret ?_
    exact ⟨.ref q, rfl, q, _, _, .ref t, rfl, rfl, tl hq, at_z (j := 1) rfl rfl, .ref r, rfl, r, bs, rfl, tl hr2, t, _, _, _, rfl, rfl, tl ht, at_z e1 e2, qq⟩
theorem small_am {H : Hp} {l : Addr} {ms : List Int} {k : Nat} (k3 : k ≤ 3) (hl : ms.length = 2 ^ k) (e : H l = some (.lst (ms.map V.int)) ∨ H l = some (.tup (ms.map V.int))) : Am H (.ref l) := by
  have z := pow8 k3
  rcases e with e | e
  · exact .lst e kn_ints (by rw [List.length_map]; omega)
  · exact .tup e kn_ints (by rw [List.length_map]; omega)
end
end CC

namespace CC
open PySem PySem.Spec PyProof.Rows L2 Ek
/-! ### the faults of a price -/
abbrev Pd := Nat × List Int
def pairsP (n : Nat) : List (List Int × List Int) := (rowsOf n).flatMap fun a => ((rowsOf n).filter fun b => HT.lexLt a b).map fun b => (a, b)
def lowR (a b : List Int) : List Int := List.zipWith (fun i j => if j < i then j else i) a b
def highR (a b : List Int) : List Int := List.zipWith (fun i j => if j > i then j else i) a b
def more1 (a b : List Int) : Bool := decide (lowR a b = a) && decide (b.sum = a.sum + 1)
/-- a row's flips: each place that is no made yes -/
def flips (a : List Int) : List (List Int) := ((List.range a.length).filter fun k => decide (a.getD k 0 = 0)).map fun k => a.take k ++ [1] ++ a.drop (k + 1)
def lawPairs (n : Nat) (bent : Bool) : List (List Int × List Int) := if bent then pairsP n else (rowsOf n).flatMap fun a => (flips a).map fun b => (a, b)
def sortedPairs (n : Nat) (bent : Bool) : List (List Int × List Int) := if bent then pairsP n else (pairsP n).filter fun p => more1 p.1 p.2
def encP (p : List Int × List Int) : PyData := .tuple [.tuple (p.1.map .int), .tuple (p.2.map .int)]
def leP : List Int × List Int → List Int × List Int → Bool := PySem.W.dataLe false encP
theorem totP : PySem.W.TotalLe leP := by
  unfold leP PySem.W.dataLe
  exact PySem.W.sortLe_total _ _ _
theorem sort_is {l m : List (List Int × List Int)} (hp : m.isPerm l = true) (hs : m.Pairwise fun a b => leP a b = true) (ha : ∀ x ∈ m, ∀ y ∈ m, leP x y = true → leP y x = true → x = y) : l.mergeSort leP = m := by
  have p : (l.mergeSort leP).Perm m := (List.mergeSort_perm l leP).trans (List.isPerm_iff.mp hp).symm
  exact p.eq_of_pairwise (fun x y hx hy h1 h2 => ha x (p.mem_iff.mp hx) y hy h1 h2) (PySem.W.sort_pairwise totP l) hs
def chk (l m : List (List Int × List Int)) : Bool := m.isPerm l && decide (m.Pairwise fun a b => leP a b = true) && m.all fun x => m.all fun y => !(leP x y && leP y x) || decide (x = y)
theorem of_chk {l m : List (List Int × List Int)} (h : chk l m = true) : l.mergeSort leP = m := by
  unfold chk at h
  rw [Bool.and_eq_true, Bool.and_eq_true] at h
  refine sort_is h.1.1 (of_decide_eq_true h.1.2) fun x hx y hy h1 h2 => ?_
  have z := List.all_eq_true.mp (List.all_eq_true.mp h.2 x hx) y hy
  rw [h1, h2] at z
  simpa using z
theorem sort_pairs {n : Nat} (h : n ≤ 3) (b : Bool) : (lawPairs n b).mergeSort leP = sortedPairs n b := by
  have c : ∀ n : Fin 4, ∀ b : Bool, chk (lawPairs n.1 b) (sortedPairs n.1 b) = true := by decide +kernel
  exact of_chk (c ⟨n, by omega⟩ b)
end CC

namespace CC
open PySem PySem.Spec PyProof.Rows L2 Ek
section
variable {P : Program} {w : World} {K : PySem.W.Frag} {mg : Str → Option Value} {base : Heap}
theorem rep_flat (v : V) : ∀ n : Nat, (List.replicate n [v]).flatten = List.replicate n v
  | 0 => rfl
  | n + 1 => by rw [List.replicate_succ, List.flatten_cons, rep_flat v n, List.replicate_succ]; rfl
theorem repA {K : PySem.W.Frag} {H : Hp} {t : Addr} {v : V} {n : Nat} {z : Int} {Q : VK} (ez : z = (n : Int)) (n1 : 1 ≤ n) (n9 : n ≤ 9) (ht : H t = some (.tup [v])) (k : ∀ t' H', Same H H' → H' t' = some (.tup (List.replicate n v)) → Q (.ref t') H') : rRepTA K (.ref t) (.int z) H Q := by
  subst ez
  by_cases e : n = 1
  · subst e
    exact .inr ⟨t, _, rfl, rfl, tl ht, k t H (Same.refl H) ht⟩
  · refine .inl ⟨t, _, [v], rfl, rfl, tl ht, List.cons_ne_nil _ _, by omega, by omega, by show 1 ≤ 1000; decide, fun p np => k p _ (same_upd np) ?_⟩
    rw [upd_same, Int.toNat_natCast, rep_flat]
theorem eqv_ints : ∀ {xs ys : List Int}, PyData.eqvAll (xs.map .int) (ys.map .int) = decide (xs = ys)
  | [], [] => by simp [PyData.eqvAll]
  | [], y :: ys => by simp [PyData.eqvAll]
  | x :: xs, [] => by simp [PyData.eqvAll]
  | x :: xs, y :: ys => by
    rw [List.map_cons, List.map_cons, PyData.eqvAll, eqv_ints, PyData.eqv, Bool.eq_iff_iff]
    simp
theorem lay_ints : ∀ {xs : List Int}, PyData.canLayAll0 (xs.map .int) = true
  | [] => by simp [PyData.canLayAll0]
  | x :: xs => by rw [List.map_cons, PyData.canLayAll0, lay_ints]; rfl
theorem depth_ints : ∀ {xs : List Int}, PyData.depthAll (xs.map .int) = 0
  | [] => by simp [PyData.depthAll]
  | x :: xs => by rw [List.map_cons, PyData.depthAll, depth_ints]; simp [PyData.depth]
theorem shaped_ints {xs : List Int} : SeqAt.shaped (.tuple (xs.map .int)) = true := by
  unfold SeqAt.shaped
  rw [PyData.canLay0, lay_ints, PyData.depth, depth_ints]
  rfl
theorem dInt {i j : Int} : decide (V.int i = V.int j) = decide (i = j) := decide_eq_decide.mpr (by simp)
theorem dStr {i j : Str} : decide (V.str i = V.str j) = decide (i = j) := decide_eq_decide.mpr (by simp)
theorem zip_take {f : Int → Int → Int} {xs ys : List Int} {i : Nat} {x y : Int} (hx : xs[i]? = some x) (hy : ys[i]? = some y) : (List.zipWith f xs ys).take (i + 1) = (List.zipWith f xs ys).take i ++ [f x y] := by
  rw [List.take_add_one, List.getElem?_zipWith, hx, hy]
  rfl
theorem int_at {xs : List Int} {i : Nat} {x : V} (h : (xs.map V.int)[i]? = some x) : ∃ n, x = .int n ∧ xs[i]? = some n := by
  rw [List.getElem?_map] at h
  cases e : xs[i]? with
  | none => rw [e] at h; cases h
  | some n => rw [e] at h; exact ⟨n, (Option.some.inj h).symm, rfl⟩
def spAO : Sp := fun vs H Q _ => ∃ (a b : Addr) (xs ys : List Int), vs = [.ref a, .ref b] ∧ H a = some (.tup (xs.map V.int)) ∧ H b = some (.tup (ys.map V.int)) ∧ xs.length = ys.length ∧ xs.length ≤ 100 ∧ ∀ H' t, Same H H' → H' t = some (.tup ((lowR xs ys).map V.int)) → Q (.ref t) H'
def spOO : Sp := fun vs H Q _ => ∃ (a b : Addr) (xs ys : List Int), vs = [.ref a, .ref b] ∧ H a = some (.tup (xs.map V.int)) ∧ H b = some (.tup (ys.map V.int)) ∧ xs.length = ys.length ∧ xs.length ≤ 100 ∧ ∀ H' t, Same H H' → H' t = some (.tup ((highR xs ys).map V.int)) → Q (.ref t) H'
theorem ok_AO {f : Addr} {fd : FuncData} (F : Fun K "and_of" "and_of" sAO f fd) (B : Bt mg) : FnOk P w K mg base CX0 1 f fd ["one", "other"] spAO := by
  refine F.ok scAO (fun vs H Q E h => ?_) (fun cdv A outer s H vs Q E hr h => ?_)
  · obtain ⟨a, b, xs, ys, rfl, _⟩ := h
    rfl
  · obtain ⟨a, b, xs, ys, rfl, ha, hb, hl, h9, q⟩ := h
    refine ⟨_, (pss_one (ps_ret (pe_callTy call_tuple_of (by rfl) B.tuple (by decide +kernel) (pa_cons (pe_lc (own := [("here", 2), ("there", 3)]) (tt := tYes) rfl scAO.nd (RZ.pi_zipA (by rfl) B.zip (pa_cons (pv 0) (pa_cons (pv 1) pa_nil))) (blkOk_by (N := NAO) (sc := defScope sAO) (by decide +kernel)) (fun _ _ _ _ _ => (pg_tupk (n := 2) K rfl rfl (pgs_cons (pg_name (i := 2) scAO.nd rfl (Or.inl rfl)) (pgs_cons (pg_name (i := 3) scAO.nd rfl (Or.inl rfl)) pgs_nil)))) (fun _ _ _ _ _ => pts_nil) (fun _ _ _ _ _ => (pe_callB (call_min2 rfl) (by rfl) B.min (by decide +kernel) (pa_cons (pv 2) (pa_cons (pv 3) pa_nil))))) pa_nil)))), ?_⟩
    refine q_ret ?_
    refine ⟨.ref a, rfl, .ref b, rfl, a, b, xs.map V.int, ys.map V.int, rfl, .inr ⟨tl ha, tl hb, fun D nD => lc_zipT (K := K) (a := a) (b := b) (xs := xs.map V.int) (ys := ys.map V.int) (fun i H' => Same H H' ∧ H' D = some (.lst (((List.zipWith (fun i j => if j < i then j else i) xs ys).take i).map V.int))) ⟨same_upd nD, upd_same⟩ (fun i H' _ hP => ⟨tl (hP.1 _ _ ha), tl (hP.1 _ _ hb)⟩) (by rw [List.length_map, List.length_map, hl]) (fun i x y H' T hx hy hP nT => ?_) (fun H' hP => ?_)⟩⟩
    · obtain ⟨s', hD⟩ := hP
      obtain ⟨n, rfl, ex⟩ := int_at hx
      obtain ⟨m, rfl, ey⟩ := int_at hy
      refine ⟨T, _, rfl, tl upd_same, rfl, _, _, rfl, _, _, rfl, rfl, ?_⟩
      have hD2 := same_upd (o := .tup [.int n, .int m]) nT _ _ hD
      refine ⟨rfl, .int n, rfl, .int m, rfl, _, _, rfl, _, hD2, ?_, fun b o z => ?_, ?_⟩
      · rw [List.length_map, List.length_take, List.length_zipWith]
        exact small1000 (by omega)
      · rw [upd_ne (ne_of_none z nD)]
        exact same_upd nT _ _ (s' _ _ z)
      · rw [upd_same, zip_take ex ey, List.map_append]
        rfl
    · obtain ⟨s', hD⟩ := hP
      have e : (List.zipWith (fun i j => if j < i then j else i) xs ys).take (xs.map V.int).length = lowR xs ys := List.take_of_length_le (by rw [List.length_zipWith, List.length_map]; omega)
      rw [e] at hD
      exact ⟨D, _, rfl, .inl ⟨sl hD, fun p np => q _ p (s'.trans (same_upd np)) (by rw [upd_same])⟩⟩
theorem ok_OO {f : Addr} {fd : FuncData} (F : Fun K "or_of" "or_of" sOO f fd) (B : Bt mg) : FnOk P w K mg base CX0 1 f fd ["one", "other"] spOO := by
  refine F.ok scOO (fun vs H Q E h => ?_) (fun cdv A outer s H vs Q E hr h => ?_)
  · obtain ⟨a, b, xs, ys, rfl, _⟩ := h
    rfl
  · obtain ⟨a, b, xs, ys, rfl, ha, hb, hl, h9, q⟩ := h
    refine ⟨_, (pss_one (ps_ret (pe_callTy call_tuple_of (by rfl) B.tuple (by decide +kernel) (pa_cons (pe_lc (own := [("here", 2), ("there", 3)]) (tt := tYes) rfl scOO.nd (RZ.pi_zipA (by rfl) B.zip (pa_cons (pv 0) (pa_cons (pv 1) pa_nil))) (blkOk_by (N := NOO) (sc := defScope sOO) (by decide +kernel)) (fun _ _ _ _ _ => (pg_tupk (n := 2) K rfl rfl (pgs_cons (pg_name (i := 2) scOO.nd rfl (Or.inl rfl)) (pgs_cons (pg_name (i := 3) scOO.nd rfl (Or.inl rfl)) pgs_nil)))) (fun _ _ _ _ _ => pts_nil) (fun _ _ _ _ _ => (pe_callB (call_max2 rfl) (by rfl) B.max (by decide +kernel) (pa_cons (pv 2) (pa_cons (pv 3) pa_nil))))) pa_nil)))), ?_⟩
    refine q_ret ?_
    refine ⟨.ref a, rfl, .ref b, rfl, a, b, xs.map V.int, ys.map V.int, rfl, .inr ⟨tl ha, tl hb, fun D nD => lc_zipT (K := K) (a := a) (b := b) (xs := xs.map V.int) (ys := ys.map V.int) (fun i H' => Same H H' ∧ H' D = some (.lst (((List.zipWith (fun i j => if j > i then j else i) xs ys).take i).map V.int))) ⟨same_upd nD, upd_same⟩ (fun i H' _ hP => ⟨tl (hP.1 _ _ ha), tl (hP.1 _ _ hb)⟩) (by rw [List.length_map, List.length_map, hl]) (fun i x y H' T hx hy hP nT => ?_) (fun H' hP => ?_)⟩⟩
    · obtain ⟨s', hD⟩ := hP
      obtain ⟨n, rfl, ex⟩ := int_at hx
      obtain ⟨m, rfl, ey⟩ := int_at hy
      refine ⟨T, _, rfl, tl upd_same, rfl, _, _, rfl, _, _, rfl, rfl, ?_⟩
      have hD2 := same_upd (o := .tup [.int n, .int m]) nT _ _ hD
      refine ⟨rfl, .int n, rfl, .int m, rfl, _, _, rfl, _, hD2, ?_, fun b o z => ?_, ?_⟩
      · rw [List.length_map, List.length_take, List.length_zipWith]
        exact small1000 (by omega)
      · rw [upd_ne (ne_of_none z nD)]
        exact same_upd nT _ _ (s' _ _ z)
      · rw [upd_same, zip_take ex ey, List.map_append]
        rfl
    · obtain ⟨s', hD⟩ := hP
      have e : (List.zipWith (fun i j => if j > i then j else i) xs ys).take (xs.map V.int).length = highR xs ys := List.take_of_length_le (by rw [List.length_zipWith, List.length_map]; omega)
      rw [e] at hD
      exact ⟨D, _, rfl, .inl ⟨sl hD, fun p np => q _ p (s'.trans (same_upd np)) (by rw [upd_same])⟩⟩
/-- whether other is the row one with one further yes -/
def spHM : Sp := fun vs H Q _ => ∃ (a b : Addr) (xs ys : List Int), vs = [.ref a, .ref b] ∧ H a = some (.tup (xs.map V.int)) ∧ H b = some (.tup (ys.map V.int)) ∧ xs.length = ys.length ∧ xs.length ≤ 100 ∧ ∀ H', Same H H' → Q (.bl (more1 xs ys)) H'
theorem ok_HM {f : Addr} {fd : FuncData} (F : Fun K "has_one_more" "has_one_more" sHM f fd) (B : Bt mg) {fAO : Addr} {fdAO : FuncData} (GAO : FnOk P w K mg base CX0 1 fAO fdAO ["one", "other"] spAO) (kAO : PySem.W.keepIn K (.ref fAO) = true) (bAO : Binds K fdAO ["one", "other"] []) (gAO : mg "and_of" = some (.ref fAO)) : FnOk P w K mg base CX0 2 f fd ["one", "other"] spHM := by
  refine F.ok scHM (fun vs H Q E h => ?_) (fun cdv A outer s H vs Q E hr h => ?_)
  · obtain ⟨a, b, xs, ys, rfl, _⟩ := h
    rfl
  · obtain ⟨a, b, xs, ys, rfl, ha, hb, hl, h9, q⟩ := h
    refine ⟨_, (pss_one (ps_ret (pe_and (pe_cmpR (op_eqD hr.units) (pe_call GAO (hr.mono (by decide)) (by rfl) gAO kAO bAO .nil pass0 (pa_cons (pv 0) (pa_cons (pv 1) pa_nil))) (pv 0) (nomark _)) (pe_one (pe_cmpR op_eq (pe_callB (cr_sumT rfl) (by rfl) B.sum (by decide +kernel) (pa_cons (pv 1) pa_nil)) (pe_op op_add (pe_callB (cr_sumT rfl) (by rfl) B.sum (by decide +kernel) (pa_cons (pv 0) pa_nil)) pe_int) (nomark _)))))), ?_⟩
    refine q_ret ?_
    refine ⟨.ref a, rfl, .ref b, rfl, a, b, xs, ys, rfl, ha, hb, hl, h9, fun H1 t s1 ht => ⟨.ref a, rfl, .tuple ((lowR xs ys).map .int), .tuple (xs.map .int), .tup (tl ht) dp_ints, .tup (tl (s1 _ _ ha)) dp_ints, shaped_ints, shaped_ints, ?_⟩⟩
    have e : PyData.eqv (.tuple ((lowR xs ys).map .int)) (.tuple (xs.map .int)) = decide (lowR xs ys = xs) := by rw [PyData.eqv, eqv_ints]
    rw [e]
    refine ⟨_, rfl, ?_⟩
    have z := q H1 s1
    unfold more1 at z
    refine ite2 (fun c => ?_) (fun c => ?_)
    · rw [c, Bool.true_and] at z
      refine ⟨.ref b, rfl, b, ys, rfl, tl (s1 _ _ hb), .ref a, rfl, a, xs, rfl, tl (s1 _ _ ha), _, _, rfl, rfl, rfl, ?_⟩
      rw [dInt]
      exact z
    · rw [Bool.not_eq_true] at c
      rw [c, Bool.false_and] at z
      exact z
end
end CC

namespace CC
open PySem PySem.Spec PyProof.Rows L2 Ek
section
variable {P : Program} {w : World} {K : PySem.W.Frag} {mg : Str → Option Value} {base : Heap}
def isOne (w : Str) : Bool := decide (w = "all no") || decide (w = "all yes")
def shownsOf (n : Nat) (w : Str) : List (List (List Int)) := if isOne w = true then (rowsOf n).map fun r => [r] else (pairsP n).map fun p => [p.1, p.2]
def baseV (w : Str) : Int := if w = "all no" then 0 else 1
def show1 (w : Str) (z : Pd) (r : List Int) : Bool := decide (costL z.2 r < costL z.2 (List.replicate z.1 (baseV w)))
def show2 (w : Str) (z : Pd) (a b : List Int) : Bool := if w = "bent" then decide (costL z.2 a + costL z.2 b < costL z.2 (lowR a b) + costL z.2 (highR a b)) else more1 a b && (if w = "rising" then decide (costL z.2 b < costL z.2 a) else decide (costL z.2 a < costL z.2 b))
def showsB (w : Str) (z : Pd) : List (List Int) → Bool
  | [r] => show1 w z r
  | [a, b] => show2 w z a b
  | _ => false
theorem isOne_in {w : Str} : inV (.str w) [.str "all no", .str "all yes"] = isOne w := by
  unfold inV isOne
  simp only [List.any_cons, List.any_nil, eqV, Bool.or_false]
  have e : ∀ a : Str, (a == w) = decide (w = a) := fun a => by
    by_cases h : w = a
    · rw [decide_eq_true h, h, beq_self_eq_true]
    · rw [decide_eq_false h]
      exact beq_eq_false_iff_ne.mpr (Ne.symm h)
  rw [e, e]
def spRS : Sp := fun vs H Q _ => ∃ w : Str, vs = [.str w] ∧ ∀ H', Same H H' → Q (.int (if isOne w = true then 1 else 2)) H'
theorem ok_RS {f : Addr} {fd : FuncData} (F : Fun K "rows_to_show" "rows_to_show" sRS f fd) : FnOk P w K mg base CX0 1 f fd ["word"] spRS := by
  refine F.ok scRS (fun vs H Q E h => ?_) (fun cdv A outer s H vs Q E hr h => ?_)
  · obtain ⟨w, rfl, _⟩ := h
    rfl
  · obtain ⟨w, rfl, q⟩ := h
    refine ⟨_, (pss_one (ps_ret (pe_ifExp (pt_cmpR op_in_seq (pv 0) (pe_tup (pa_cons pe_str (pa_cons pe_str pa_nil))) (by with_unfolding_all rfl)) pe_int pe_int))), ?_⟩
    refine q_ret ?_
    refine ⟨.str w, rfl, by show 2 ≤ sizeLine; decide, fun t nt => ⟨t, _, rfl, .inr (tl upd_same), rfl, rfl, ?_⟩⟩
    rw [if_neg (show ¬ false = true by decide), isOne_in]
    refine ⟨_, rfl, ?_⟩
    have z := q _ (same_upd (o := .tup [.str "all no", .str "all yes"]) nt)
    refine ite2 (fun c => ?_) (fun c => ?_)
    · rw [if_pos c] at z
      exact z
    · rw [if_neg c] at z
      exact z
theorem low_bits : ∀ {a b : List Int}, Bits a → Bits b → Bits (lowR a b)
  | [], _, _, _ => fun x h => by cases h
  | _ :: _, [], _, _ => fun x h => by cases h
  | i :: a, j :: b, ha, hb => fun x h => by
    rcases List.mem_cons.mp (show x ∈ (if j < i then j else i) :: lowR a b from h) with e | e
    · rw [e]
      by_cases c : j < i
      · rw [if_pos c]; exact hb _ List.mem_cons_self
      · rw [if_neg c]; exact ha _ List.mem_cons_self
    · exact low_bits (fun y m => ha y (List.mem_cons_of_mem _ m)) (fun y m => hb y (List.mem_cons_of_mem _ m)) x e
theorem high_bits : ∀ {a b : List Int}, Bits a → Bits b → Bits (highR a b)
  | [], _, _, _ => fun x h => by cases h
  | _ :: _, [], _, _ => fun x h => by cases h
  | i :: a, j :: b, ha, hb => fun x h => by
    rcases List.mem_cons.mp (show x ∈ (if j > i then j else i) :: highR a b from h) with e | e
    · rw [e]
      by_cases c : j > i
      · rw [if_pos c]; exact hb _ List.mem_cons_self
      · rw [if_neg c]; exact ha _ List.mem_cons_self
    · exact high_bits (fun y m => ha y (List.mem_cons_of_mem _ m)) (fun y m => hb y (List.mem_cons_of_mem _ m)) x e
theorem base_bits {w : Str} {k : Nat} : Bits (List.replicate k (baseV w)) := fun x h => by
  rw [(List.mem_replicate.mp h).2]
  unfold baseV
  by_cases c : w = "all no"
  · rw [if_pos c]; exact .inl rfl
  · rw [if_neg c]; exact .inr rfl
def spRW (C : Addr) : Sp := fun vs H Q _ => ∃ (p r : Addr) (w : Str) (k : Nat) (ms bs : List Int), vs = [.ref p, .str w, .ref r] ∧ PrAt C H p k ms ∧ H r = some (.tup (bs.map V.int)) ∧ Bits bs ∧ bs.length = k ∧ ∀ H', Same H H' → Q (.bl (show1 w (k, ms) bs)) H'
theorem ok_RW {f C : Addr} {fd : FuncData} (F : Fun K "_row_shows" "_row_shows" sRW f fd) (T : Pc K mg C) {fPC : Addr} {fdPC : FuncData} (GPC : FnOk P w K mg base CX0 5 fPC fdPC ["self", "row"] (spPC0 C)) (kPC : PySem.W.keepIn K (.ref fPC) = true) (bPC : Binds K fdPC ["self", "row"] []) (mPC : Meth K C "cost" fPC) : FnOk P w K mg base CX0 6 f fd ["price", "word", "row"] (spRW C) := by
  refine F.ok scRW (fun vs H Q E h => ?_) (fun cdv A outer s H vs Q E hr h => ?_)
  · obtain ⟨p, r, w, k, ms, bs, rfl, _⟩ := h
    rfl
  · obtain ⟨p, r, w, k, ms, bs, rfl, pr, hb, bb, lb, q⟩ := h
    obtain ⟨dx, t, hp, ht, k1, k3, hl⟩ := id pr
    refine ⟨_, (pss_cons (ps_set (i := 3) scRW.nd rfl (.inl rfl) (pe_ifExp (pt_cmpR op_eq (pv 1) pe_str (nomark _)) pe_int pe_int))
      (pss_one (ps_ret (pe_cmpR op_lt (pe_meth (pv 0) T.cl mPC GPC (hr.mono (by decide)) bPC .nil pass0 (pa_cons (pv 2) pa_nil)) (pe_meth (pv 0) T.cl mPC GPC (hr.mono (by decide)) bPC .nil pass0 (pa_cons (pe_op op_repTA (pe_tup (pa_cons (pv 3) pa_nil)) (pe_fld (pv 0) rfl)) pa_nil)) (nomark _))))), ?_⟩
    refine q_seq (q_set ?_)
    refine ⟨.str w, rfl, rfl, _, rfl, ?_⟩
    have go : tRet (tOp (rI0 fun i j => V.bl (decide (i < j))) (tMeth C "cost" (spPC0 C) [] E0 (tVar 0) (tCons (tVar 2) tNil)) (tMeth C "cost" (spPC0 C) [] E0 (tVar 0) (tCons (tOp (rRepTA K) (tTup (tCons (tVar 3) tNil)) (tFld K (tVar 0) "size")) tNil))) { nx := fun _ H' => Q .non H', rt := Q } [some (.ref p), some (.str w), some (.ref r), some (.int (baseV w))] H := by
      refine q_ret ?_
      refine ⟨.ref p, rfl, p, dx, _, rfl, hp, pf_no (by decide +kernel) (by decide +kernel), .ref r, rfl, p, r, k, ms, bs, rfl, pr, hb, bb, lb, fun H1 s1 => ?_⟩
      refine ⟨.ref p, rfl, p, dx, _, rfl, s1 _ _ hp, pf_no (by decide +kernel) (by decide +kernel), .int (baseV w), rfl, by show 1 ≤ sizeLine; decide, fun t1 nt1 => ?_⟩
      have s2 := s1.trans (same_upd (o := .tup [.int (baseV w)]) nt1)
      refine ⟨.ref p, rfl, p, C, dx, _, .int k, rfl, s2 _ _ hp, T.cl, T.nS, pf_size _ _, repA rfl k1 (by omega) upd_same fun t2 H3 s3 h3 => ?_⟩
      have s4 := s2.trans s3
      refine ⟨p, t2, k, ms, List.replicate k (baseV w), rfl, pr.same s4, by rw [h3, List.map_replicate], base_bits, by rw [List.length_replicate], fun H5 s5 => ⟨_, _, rfl, rfl, q H5 (s4.trans s5)⟩⟩
    refine ite2 (fun c => ?_) (fun c => ?_)
    · have e : baseV w = 0 := by
        unfold baseV
        rw [if_pos (by simpa using c)]
      rw [e] at go
      exact go
    · have e : baseV w = 1 := by
        unfold baseV
        rw [if_neg (by simpa using c)]
      rw [e] at go
      exact go
def spPW (C : Addr) : Sp := fun vs H Q _ => ∃ (p r r2 : Addr) (w : Str) (k : Nat) (ms bs bs2 : List Int), vs = [.ref p, .str w, .ref r, .ref r2] ∧ PrAt C H p k ms ∧ H r = some (.tup (bs.map V.int)) ∧ Bits bs ∧ bs.length = k ∧ H r2 = some (.tup (bs2.map V.int)) ∧ Bits bs2 ∧ bs2.length = k ∧ ∀ H', Same H H' → Q (.bl (show2 w (k, ms) bs bs2)) H'
theorem ok_PW {f C : Addr} {fd : FuncData} (F : Fun K "_pair_shows" "_pair_shows" sPW f fd) (T : Pc K mg C) {fPC : Addr} {fdPC : FuncData} (GPC : FnOk P w K mg base CX0 5 fPC fdPC ["self", "row"] (spPC0 C)) (kPC : PySem.W.keepIn K (.ref fPC) = true) (bPC : Binds K fdPC ["self", "row"] []) (mPC : Meth K C "cost" fPC) {fAO : Addr} {fdAO : FuncData} (GAO : FnOk P w K mg base CX0 1 fAO fdAO ["one", "other"] spAO) (kAO : PySem.W.keepIn K (.ref fAO) = true) (bAO : Binds K fdAO ["one", "other"] []) (gAO : mg "and_of" = some (.ref fAO)) {fOO : Addr} {fdOO : FuncData} (GOO : FnOk P w K mg base CX0 1 fOO fdOO ["one", "other"] spOO) (kOO : PySem.W.keepIn K (.ref fOO) = true) (bOO : Binds K fdOO ["one", "other"] []) (gOO : mg "or_of" = some (.ref fOO)) {fHM : Addr} {fdHM : FuncData} (GHM : FnOk P w K mg base CX0 2 fHM fdHM ["one", "other"] spHM) (kHM : PySem.W.keepIn K (.ref fHM) = true) (bHM : Binds K fdHM ["one", "other"] []) (gHM : mg "has_one_more" = some (.ref fHM)) : FnOk P w K mg base CX0 6 f fd ["price", "word", "one", "other"] (spPW C) := by
  refine F.ok scPW (fun vs H Q E h => ?_) (fun cdv A outer s H vs Q E hr h => ?_)
  · obtain ⟨p, r, r2, w, k, ms, bs, bs2, rfl, _⟩ := h
    rfl
  · obtain ⟨p, r, r2, w, k, ms, bs, bs2, rfl, pr, hb, bb, lb, hb2, bb2, lb2, q⟩ := h
    obtain ⟨dx, t, hp, ht, k1, k3, hl⟩ := id pr
    have nl : ∀ t, (pf k t).lookup ("cost" : Str) = none := fun t => pf_no (by decide +kernel) (by decide +kernel)
    refine ⟨_, (pss_cons (ps_if (pt_cmpR op_eq (pv 1) pe_str (nomark _))
      (pss_cons (ps_set (i := 4) scPW.nd rfl (.inl rfl) (pe_op op_add (pe_meth (pv 0) T.cl mPC GPC (hr.mono (by decide)) bPC .nil pass0 (pa_cons (pv 2) pa_nil)) (pe_meth (pv 0) T.cl mPC GPC (hr.mono (by decide)) bPC .nil pass0 (pa_cons (pv 3) pa_nil))))
      (pss_one (ps_ret (pe_cmpR op_lt (pv 4) (pe_op op_add (pe_meth (pv 0) T.cl mPC GPC (hr.mono (by decide)) bPC .nil pass0 (pa_cons (pe_call GAO (hr.mono (by decide)) (by rfl) gAO kAO bAO .nil pass0 (pa_cons (pv 2) (pa_cons (pv 3) pa_nil))) pa_nil)) (pe_meth (pv 0) T.cl mPC GPC (hr.mono (by decide)) bPC .nil pass0 (pa_cons (pe_call GOO (hr.mono (by decide)) (by rfl) gOO kOO bOO .nil pass0 (pa_cons (pv 2) (pa_cons (pv 3) pa_nil))) pa_nil))) (nomark _))))) pss_nil)
      (pss_cons (ps_if (pt_not (pt_val (pe_call GHM (hr.mono (by decide)) (by rfl) gHM kHM bHM .nil pass0 (pa_cons (pv 2) (pa_cons (pv 3) pa_nil)))))
      (pss_one (ps_ret pe_bl)) pss_nil)
      (pss_cons (ps_if (pt_cmpR op_eq (pv 1) pe_str (nomark _))
      (pss_one (ps_ret (pe_cmpR op_lt (pe_meth (pv 0) T.cl mPC GPC (hr.mono (by decide)) bPC .nil pass0 (pa_cons (pv 3) pa_nil)) (pe_meth (pv 0) T.cl mPC GPC (hr.mono (by decide)) bPC .nil pass0 (pa_cons (pv 2) pa_nil)) (nomark _)))) pss_nil)
      (pss_one (ps_ret (pe_cmpR op_gt (pe_meth (pv 0) T.cl mPC GPC (hr.mono (by decide)) bPC .nil pass0 (pa_cons (pv 3) pa_nil)) (pe_meth (pv 0) T.cl mPC GPC (hr.mono (by decide)) bPC .nil pass0 (pa_cons (pv 2) pa_nil)) (nomark _))))))), ?_⟩
    refine q_seq (q_if ?_)
    refine ⟨.str w, rfl, rfl, _, rfl, ?_⟩
    rw [dStr]
    refine ite2 (fun c => ?_) (fun c => ?_)
    · have ew : w = "bent" := of_decide_eq_true c
      refine q_seq (q_set ?_)
      refine ⟨.ref p, rfl, p, dx, _, rfl, hp, nl _, .ref r, rfl, p, r, k, ms, bs, rfl, pr, hb, bb, lb, fun H1 s1 => ?_⟩
      refine ⟨.ref p, rfl, p, dx, _, rfl, s1 _ _ hp, nl _, .ref r2, rfl, p, r2, k, ms, bs2, rfl, pr.same s1, s1 _ _ hb2, bb2, lb2, fun H2 s2 => ⟨_, _, rfl, rfl, ?_⟩⟩
      have s12 := s1.trans s2
      dsimp only
      refine q_ret ?_
      refine ⟨_, rfl, .ref p, rfl, p, dx, _, rfl, s12 _ _ hp, nl _, .ref r, rfl, .ref r2, rfl, r, r2, bs, bs2, rfl, s12 _ _ hb, s12 _ _ hb2, by omega, by omega, fun H3 t3 s3 h3 => ?_⟩
      have s13 := s12.trans s3
      refine ⟨p, t3, k, ms, lowR bs bs2, rfl, pr.same s13, h3, low_bits bb bb2, by unfold lowR; rw [List.length_zipWith]; omega, fun H4 s4 => ?_⟩
      have s14 := s13.trans s4
      refine ⟨.ref p, rfl, p, dx, _, rfl, s14 _ _ hp, nl _, .ref r, rfl, .ref r2, rfl, r, r2, bs, bs2, rfl, s14 _ _ hb, s14 _ _ hb2, by omega, by omega, fun H5 t5 s5 h5 => ?_⟩
      have s15 := s14.trans s5
      refine ⟨p, t5, k, ms, highR bs bs2, rfl, pr.same s15, h5, high_bits bb bb2, by unfold highR; rw [List.length_zipWith]; omega, fun H6 s6 => ⟨_, _, rfl, rfl, _, _, rfl, rfl, ?_⟩⟩
      have z := q H6 (s15.trans s6)
      unfold show2 at z
      rw [if_pos ew] at z
      exact z
    · have ew : w ≠ "bent" := of_decide_eq_false (by simpa using c)
      have z0 : ∀ H', Same H H' → Q (.bl (more1 bs bs2 && (if w = "rising" then decide (costL ms bs2 < costL ms bs) else decide (costL ms bs < costL ms bs2)))) H' := fun H' s' => by
        have z := q H' s'
        unfold show2 at z
        rw [if_neg ew] at z
        exact z
      refine q_next ?_
      dsimp only
      refine q_seq (q_if ?_)
      refine ⟨.ref r, rfl, .ref r2, rfl, r, r2, bs, bs2, rfl, hb, hb2, by omega, by omega, fun H1 s1 => ⟨_, rfl, ?_⟩⟩
      refine ite2 (fun c2 => ?_) (fun c2 => ?_)
      · refine q_ret ?_
        have z := z0 H1 s1
        have e : more1 bs bs2 = false := by simpa using c2
        rw [e, Bool.false_and] at z
        exact z
      · have e : more1 bs bs2 = true := by simpa using c2
        rw [e] at z0
        simp only [Bool.true_and] at z0
        refine q_next ?_
        dsimp only
        refine q_seq (q_if ?_)
        refine ⟨.str w, rfl, rfl, _, rfl, ?_⟩
        rw [dStr]
        refine ite2 (fun c3 => ?_) (fun c3 => ?_)
        · refine q_ret ?_
          refine ⟨.ref p, rfl, p, dx, _, rfl, s1 _ _ hp, nl _, .ref r2, rfl, p, r2, k, ms, bs2, rfl, pr.same s1, s1 _ _ hb2, bb2, lb2, fun H2 s2 => ?_⟩
          have s12 := s1.trans s2
          refine ⟨.ref p, rfl, p, dx, _, rfl, s12 _ _ hp, nl _, .ref r, rfl, p, r, k, ms, bs, rfl, pr.same s12, s12 _ _ hb, bb, lb, fun H3 s3 => ⟨_, _, rfl, rfl, ?_⟩⟩
          have z := z0 H3 (s12.trans s3)
          rw [if_pos (of_decide_eq_true c3)] at z
          exact z
        · refine q_next ?_
          dsimp only
          refine q_ret ?_
          refine ⟨.ref p, rfl, p, dx, _, rfl, s1 _ _ hp, nl _, .ref r2, rfl, p, r2, k, ms, bs2, rfl, pr.same s1, s1 _ _ hb2, bb2, lb2, fun H2 s2 => ?_⟩
          have s12 := s1.trans s2
          refine ⟨.ref p, rfl, p, dx, _, rfl, s12 _ _ hp, nl _, .ref r, rfl, p, r, k, ms, bs, rfl, pr.same s12, s12 _ _ hb, bb, lb, fun H3 s3 => ⟨_, _, rfl, rfl, ?_⟩⟩
          have z := z0 H3 (s12.trans s3)
          rw [if_neg (of_decide_eq_false (by simpa using c3))] at z
          exact z
end
end CC

namespace CC
open PySem PySem.Spec PyProof.Rows L2 Ek
section
variable {P : Program} {w : World} {K : PySem.W.Frag} {mg : Str → Option Value} {base : Heap}
/-- tuples at ts, each of tuples of these ints -/
abbrev Tms (H : Hp) (ts : List Addr) (rss : List (List (List Int))) : Prop := Paired (fun t (rs : List (List Int)) => ∃ as : List Addr, H t = some (.tup (as.map V.ref)) ∧ Rws H as rs) ts rss
theorem Tms.same {H H' : Hp} {ts : List Addr} {rss : List (List (List Int))} (s : Same H H') (x : Tms H ts rss) : Tms H' ts rss := by
  induction x with
  | nil => exact .nil
  | cons e _ ih =>
    obtain ⟨as, h1, h2⟩ := e
    exact .cons ⟨as, s _ _ h1, h2.same s⟩ ih
theorem Tms.updL {H : Hp} {ts : List Addr} {rss : List (List (List Int))} {D : Addr} {xs : List V} {o : HO} (e : H D = some (.lst xs)) (x : Tms H ts rss) : Tms (upd H D o) ts rss := by
  induction x with
  | nil => exact .nil
  | cons h _ ih =>
    obtain ⟨as, h1, h2⟩ := h
    exact .cons ⟨as, by rw [upd_ne (ne_of h1 e (by intro z; cases z))]; exact h1, Rws.updL e h2⟩ ih
theorem mem_shown1 {n : Nat} {w : Str} {rs : List (List Int)} (c : isOne w = true) (h : rs ∈ shownsOf n w) : ∃ r, rs = [r] ∧ r ∈ rowsOf n := by
  unfold shownsOf at h
  rw [if_pos c] at h
  obtain ⟨r, m, e⟩ := List.mem_map.mp h
  exact ⟨r, e.symm, m⟩
theorem mem_pairs {n : Nat} {p : List Int × List Int} (h : p ∈ pairsP n) : p.1 ∈ rowsOf n ∧ p.2 ∈ rowsOf n := by
  unfold pairsP at h
  obtain ⟨a, ma, h⟩ := List.mem_flatMap.mp h
  obtain ⟨b, mb, e⟩ := List.mem_map.mp h
  subst e
  exact ⟨ma, (List.mem_filter.mp mb).1⟩
theorem mem_shown2 {n : Nat} {w : Str} {rs : List (List Int)} (c : ¬ isOne w = true) (h : rs ∈ shownsOf n w) : ∃ a b, rs = [a, b] ∧ a ∈ rowsOf n ∧ b ∈ rowsOf n := by
  unfold shownsOf at h
  rw [if_neg c] at h
  obtain ⟨p, m, e⟩ := List.mem_map.mp h
  exact ⟨p.1, p.2, e.symm, mem_pairs m⟩
def spSH (C : Addr) : Sp := fun vs H Q _ => ∃ (p t : Addr) (w : Str) (k : Nat) (ms : List Int) (as : List Addr) (rs : List (List Int)), vs = [.ref p, .str w, .ref t] ∧ PrAt C H p k ms ∧ H t = some (.tup (as.map V.ref)) ∧ Rws H as rs ∧ (if isOne w = true then ∃ r, rs = [r] ∧ Bits r ∧ r.length = k else ∃ a b, rs = [a, b] ∧ (Bits a ∧ a.length = k) ∧ Bits b ∧ b.length = k) ∧
  ∀ H', Same H H' → Q (.bl (showsB w (k, ms) rs)) H'
theorem shown_ok {n : Nat} {w : Str} {rs : List (List Int)} (h : rs ∈ shownsOf n w) : (if isOne w = true then ∃ r, rs = [r] ∧ Bits r ∧ r.length = n else ∃ a b, rs = [a, b] ∧ (Bits a ∧ a.length = n) ∧ Bits b ∧ b.length = n) := by
  by_cases c : isOne w = true
  · rw [if_pos c]
    obtain ⟨r, e, m⟩ := mem_shown1 c h
    exact ⟨r, e, bits_rows n r m, row_len n r m⟩
  · rw [if_neg c]
    obtain ⟨a, b, e, m1, m2⟩ := mem_shown2 c h
    exact ⟨a, b, e, ⟨bits_rows n a m1, row_len n a m1⟩, bits_rows n b m2, row_len n b m2⟩
theorem ok_SH {f C : Addr} {fd : FuncData} (F : Fun K "shows" "shows" sSH f fd) {fRS : Addr} {fdRS : FuncData} (GRS : FnOk P w K mg base CX0 1 fRS fdRS ["word"] spRS) (kRS : PySem.W.keepIn K (.ref fRS) = true) (bRS : Binds K fdRS ["word"] []) (gRS : mg "rows_to_show" = some (.ref fRS)) {fRW : Addr} {fdRW : FuncData} (GRW : FnOk P w K mg base CX0 6 fRW fdRW ["price", "word", "row"] (spRW C)) (kRW : PySem.W.keepIn K (.ref fRW) = true) (bRW : Binds K fdRW ["price", "word", "row"] []) (gRW : mg "_row_shows" = some (.ref fRW)) {fPW : Addr} {fdPW : FuncData} (GPW : FnOk P w K mg base CX0 6 fPW fdPW ["price", "word", "one", "other"] (spPW C)) (kPW : PySem.W.keepIn K (.ref fPW) = true) (bPW : Binds K fdPW ["price", "word", "one", "other"] []) (gPW : mg "_pair_shows" = some (.ref fPW)) : FnOk P w K mg base CX0 7 f fd ["price", "word", "shown"] (spSH C) := by
  refine F.ok scSH (fun vs H Q E h => ?_) (fun cdv A outer s H vs Q E hr h => ?_)
  · obtain ⟨p, t, w, k, ms, as, rs, rfl, _⟩ := h
    rfl
  · obtain ⟨p, t, w, k, ms, as, rs, rfl, pr, ht, rw1, hrs, q⟩ := h
    refine ⟨_, (pss_cons (ps_if (pt_cmpR op_eq (pe_call GRS (hr.mono (by decide)) (by rfl) gRS kRS bRS .nil pass0 (pa_cons (pv 1) pa_nil)) pe_int (nomark _))
      (pss_one (ps_ret (pe_call GRW (hr.mono (by decide)) (by rfl) gRW kRW bRW .nil pass0 (pa_cons (pv 0) (pa_cons (pv 1) (pa_cons (pe_ix ix_tup (pv 2) pe_int (fun _ _ => rfl)) pa_nil)))))) pss_nil)
      (pss_one (ps_ret (pe_call GPW (hr.mono (by decide)) (by rfl) gPW kPW bPW .nil pass0 (pa_cons (pv 0) (pa_cons (pv 1) (pa_cons (pe_ix ix_tup (pv 2) pe_int (fun _ _ => rfl)) (pa_cons (pe_ix ix_tup (pv 2) pe_int (fun _ _ => rfl)) pa_nil)))))))), ?_⟩
    refine q_seq (q_if ?_)
    refine ⟨.str w, rfl, w, rfl, fun H1 s1 => ⟨rfl, _, rfl, ?_⟩⟩
    rw [dInt]
    by_cases c : isOne w = true
    · rw [if_pos c] at hrs
      obtain ⟨r, rfl, hb, hl⟩ := hrs
      rw [if_pos c]
      dsimp only
      rw [if_pos (by decide)]
      cases rw1 with
      | @cons a _ as' _ ha ht2 =>
        cases ht2
        refine q_ret ?_
        exact ⟨.ref p, rfl, .str w, rfl, .ref t, rfl, t, _, _, _, rfl, rfl, tl (s1 _ _ ht), at_z (j := 0) rfl rfl, p, a, w, k, ms, r, rfl, pr.same s1, s1 _ _ ha, hb, hl, fun H2 s2 => q H2 (s1.trans s2)⟩
    · rw [if_neg c] at hrs
      obtain ⟨r, r2, rfl, ⟨hb, hl⟩, hb2, hl2⟩ := hrs
      rw [if_neg c]
      dsimp only
      rw [if_neg (by decide)]
      cases rw1 with
      | @cons a _ as' _ ha ht2 =>
        cases ht2 with
        | @cons a2 _ as2 _ ha2 ht3 =>
          cases ht3
          refine q_next ?_
          dsimp only
          refine q_ret ?_
          exact ⟨.ref p, rfl, .str w, rfl, .ref t, rfl, t, _, _, _, rfl, rfl, tl (s1 _ _ ht), at_z (j := 0) rfl rfl, .ref t, rfl, t, _, _, _, rfl, rfl, tl (s1 _ _ ht), at_z (j := 1) rfl rfl, p, a, a2, w, k, ms, r, r2, rfl, pr.same s1, s1 _ _ ha, hb, hl, s1 _ _ ha2, hb2, hl2, fun H2 s2 => q H2 (s1.trans s2)⟩
/-- the rows or pairs of rows that may show a fault -/
def spTM : Sp := fun vs H Q _ => ∃ (k : Nat) (w : Str), vs = [.int k, .str w] ∧ k ≤ 3 ∧ ∀ H' L ts, Same H H' → H' L = some (.lst (ts.map V.ref)) → Tms H' ts (shownsOf k w) → Q (.ref L) H'
def pairsF (n : Nat) (a : List Int) (l : List (List Int)) : List (List (List Int)) := (l.filter fun b => HT.lexLt a b).map fun b => [a, b]
theorem pairsF_snoc {n : Nat} {a b : List Int} {l : List (List Int)} {i : Nat} (h : l[i]? = some b) : pairsF n a (l.take (i + 1)) = pairsF n a (l.take i) ++ (if HT.lexLt a b = true then [[a, b]] else []) := by
  unfold pairsF
  rw [List.take_add_one, h, List.filter_append, List.map_append]
  congr 1
  show ((([b] : List (List Int)).filter fun b => HT.lexLt a b).map fun b => [a, b]) = _
  by_cases c : HT.lexLt a b = true
  · rw [if_pos c, List.filter_cons_of_pos c, List.filter_nil]; rfl
  · rw [if_neg c, List.filter_cons_of_neg c, List.filter_nil]; rfl
theorem pairs_flat (n : Nat) : (pairsP n).map (fun p => [p.1, p.2]) = (rowsOf n).flatMap fun a => pairsF n a (rowsOf n) := by
  unfold pairsP
  rw [List.map_flatMap]
  congr 1
  funext a
  unfold pairsF
  rw [List.map_map]
  rfl
theorem pairsF_len {n : Nat} {a : List Int} {l : List (List Int)} : (pairsF n a l).length ≤ l.length := by
  unfold pairsF
  rw [List.length_map]
  exact List.length_filter_le _ _
theorem flat_len {α : Type} {F : α → List (List (List Int))} {m : Nat} : ∀ {l : List α}, (∀ x ∈ l, (F x).length ≤ m) → (l.flatMap F).length ≤ l.length * m
  | [], _ => by simp
  | x :: l, h => by
    rw [List.flatMap_cons, List.length_append, List.length_cons, Nat.succ_mul]
    have a := h x List.mem_cons_self
    have b := flat_len (F := F) (l := l) fun y my => h y (List.mem_cons_of_mem _ my)
    omega
theorem ok_TM {f : Addr} {fd : FuncData} (F : Fun K "_that_may_show" "_that_may_show" sTM f fd) {fRO : Addr} {fdRO : FuncData} (GRO : FnOk P w K mg base CX0 1 fRO fdRO ["size"] spRO) (kRO : PySem.W.keepIn K (.ref fRO) = true) (bRO : Binds K fdRO ["size"] []) (gRO : mg "rows_of" = some (.ref fRO)) {fRS : Addr} {fdRS : FuncData} (GRS : FnOk P w K mg base CX0 1 fRS fdRS ["word"] spRS) (kRS : PySem.W.keepIn K (.ref fRS) = true) (bRS : Binds K fdRS ["word"] []) (gRS : mg "rows_to_show" = some (.ref fRS)) : FnOk P w K mg base CX0 2 f fd ["size", "word"] spTM := by
  refine F.ok scTM (fun vs H Q E h => ?_) (fun cdv A outer s H vs Q E hr h => ?_)
  · obtain ⟨k, w, rfl, _⟩ := h
    rfl
  · obtain ⟨k, w, rfl, k3, q⟩ := h
    refine ⟨_, (pss_cons (ps_set (i := 2) scTM.nd rfl (.inr rfl) (pe_call GRO (hr.mono (by decide)) (by rfl) gRO kRO bRO .nil pass0 (pa_cons (pv 0) pa_nil)))
      (pss_cons (ps_if (pt_cmpR op_eq (pe_call GRS (hr.mono (by decide)) (by rfl) gRS kRS bRS .nil pass0 (pa_cons (pv 1) pa_nil)) pe_int (nomark _))
      (pss_one (ps_ret (pe_lc (own := [("row", 5)]) (g := gName 5) (tt := tYes) rfl scTM.nd (pi_tup (pv 2)) (blkOk_by (N := NTM) (sc := defScope sTM) (by decide +kernel)) (fun _ _ _ _ _ => pg_name (i := 5) scTM.nd rfl (Or.inl rfl)) (fun _ _ _ _ _ => pts_nil) (fun _ _ _ _ _ => (pe_tup (pa_cons (pv 5) pa_nil)))))) pss_nil)
      (pss_one (ps_ret (pe_lc2 (own := [("one", 3), ("other", 4)]) (vs1 := [4]) (g := gName 3) (g1 := gName 4) (tt := tYes) rfl scTM.nd (pi_tup (pv 2)) (blkOk_by (N := NTM) (sc := defScope sTM) (by decide +kernel)) (by decide) (fun _ _ _ _ _ => pg_name (i := 3) scTM.nd rfl (Or.inl rfl)) (fun _ _ _ _ _ => pts_nil) (fun _ _ _ _ _ => (pi_tupk K rfl (pv 2))) (fun _ _ _ _ _ => pg_name (i := 4) scTM.nd rfl (Or.inl rfl)) (fun _ _ _ _ _ => pts_one (pt_cmpR (op_ltTk K rfl hr.units0) (pv 3) (pv 4) (nomark _))) (fun _ _ _ _ _ => (pe_tup (pa_cons (pv 3) (pa_cons (pv 4) pa_nil))))))))), ?_⟩
    refine q_seq (q_set ?_)
    refine ⟨_, rfl, k, rfl, k3, fun H1 R rs s1 nR hR rw1 => ?_⟩
    dsimp only
    refine q_seq (q_if ?_)
    refine ⟨.str w, rfl, w, rfl, fun H2 s2 => ⟨rfl, _, rfl, ?_⟩⟩
    have s12 := s1.trans s2
    have hR2 := s2 _ _ hR
    have rw2 := rw1.same s2
    have l8 := rows8 k3
    have len1 := paired_len rw2
    rw [dInt]
    by_cases c : isOne w = true
    · have es : shownsOf k w = (rowsOf k).map fun r => [r] := by unfold shownsOf; rw [if_pos c]
      rw [if_pos c]
      dsimp only
      rw [if_pos (by decide)]
      refine q_ret ?_
      refine ⟨.ref R, rfl, R, rfl, ⟨_, tl hR2⟩, fun D nD => lc_tup (K := K) (a := R) (xs := rs.map V.ref) (fun i H' => Same H2 H' ∧ ∃ ts : List Addr, H' D = some (.lst (ts.map V.ref)) ∧ Tms H' ts (((rowsOf k).take i).map fun r => [r])) ⟨same_upd nD, [], upd_same, .nil⟩ (fun i H' _ hP => tl (hP.1 _ _ hR2)) (fun i x H' hx hP => ?_) (fun H' hP => ?_)⟩
      · obtain ⟨s', ts, hD, tm⟩ := hP
        obtain ⟨r, bs, rfl, hbs, hr⟩ := rws_at rw2 hx
        have lt := paired_len tm
        rw [List.length_map, List.length_take] at lt
        refine ⟨rfl, .ref r, rfl, by show 1 ≤ sizeLine; decide, fun t nt => ?_⟩
        have st := same_upd (o := .tup [V.ref r]) nt
        refine ⟨_, st _ _ hD, by rw [List.length_map]; exact small1000 (by omega), fun b o e => ?_, ts ++ [t], by rw [upd_same, List.map_append]; rfl, ?_⟩
        · rw [upd_ne (ne_of_none e nD)]
          exact st _ _ (s' _ _ e)
        · have e2 : ((rowsOf k).take (i + 1)).map (fun r => [r]) = ((rowsOf k).take i).map (fun r => [r]) ++ [[bs]] := by
            rw [List.take_add_one, hbs, List.map_append]
            rfl
          rw [e2]
          refine Tms.updL (st _ _ hD) (paired_app (tm.same st) (.cons ⟨[r], upd_same, .cons (st _ _ (s' _ _ hr)) .nil⟩ .nil))
      · obtain ⟨s', ts, hD, tm⟩ := hP
        rw [List.length_map, len1, List.take_length, ← es] at tm
        exact q H' D ts (s12.trans s') hD tm
    · have es : shownsOf k w = (rowsOf k).flatMap fun a => pairsF k a (rowsOf k) := by
        unfold shownsOf
        rw [if_neg c, pairs_flat]
      rw [if_neg c]
      dsimp only
      rw [if_neg (by decide)]
      refine q_next ?_
      dsimp only
      refine q_ret ?_
      refine ⟨.ref R, rfl, R, rfl, ⟨_, tl hR2⟩, fun D nD => lp_tup (K := K) (a := R) (xs := rs.map V.ref) (fun j H' => Same H2 H' ∧ ∃ ts : List Addr, H' D = some (.lst (ts.map V.ref)) ∧ Tms H' ts (((rowsOf k).take j).flatMap fun a => pairsF k a (rowsOf k))) ⟨same_upd nD, [], upd_same, .nil⟩ (fun j H' _ hP => tl (hP.1 _ _ hR2)) (fun j x H' hx hP => ?_) (fun H' hP => ?_)⟩
      · obtain ⟨s', ts, hD, tm⟩ := hP
        obtain ⟨r, bs, rfl, hbs, hr⟩ := rws_at rw2 hx
        refine ⟨rfl, .ref R, rfl, R, rfl, ⟨_, tl (s' _ _ hR2)⟩, lp_tup (K := K) (a := R) (xs := rs.map V.ref) (fun i H3 => Same H2 H3 ∧ ∃ ts : List Addr, H3 D = some (.lst (ts.map V.ref)) ∧ Tms H3 ts ((((rowsOf k).take j).flatMap fun a => pairsF k a (rowsOf k)) ++ pairsF k bs ((rowsOf k).take i)))
          ⟨s', ts, hD, by rw [List.take_zero]; show Tms _ _ (_ ++ []); rw [List.append_nil]; exact tm⟩ (fun i H3 _ hP => tl (hP.1 _ _ hR2)) (fun i y H3 hy hP => ?_) (fun H3 hP => ?_)⟩
        · obtain ⟨s3, ts3, hD3, tm3⟩ := hP
          obtain ⟨r2, bs2, rfl, hbs2, hr2⟩ := rws_at rw2 hy
          have lt := paired_len tm3
          have l64 : ts3.length ≤ 200 := by
            rw [lt, List.length_append]
            have a1 := flat_len (F := fun a => pairsF k a (rowsOf k)) (m := 8) (l := (rowsOf k).take j) fun x _ => Nat.le_trans pairsF_len l8
            have a2 := pairsF_len (n := k) (a := bs) (l := (rowsOf k).take i)
            rw [List.length_take] at a1 a2
            have a3 : min j (rowsOf k).length * 8 ≤ 8 * 8 := Nat.mul_le_mul_right 8 (by omega)
            omega
          refine ⟨rfl, .ref r, rfl, .ref r2, rfl, r, r2, bs, bs2, rfl, rfl, tl (s3 _ _ hr), tl (s3 _ _ hr2), _, rfl, ?_⟩
          rw [pairsF_snoc hbs2]
          refine ite2 (fun c2 => ?_) (fun c2 => ?_)
          · refine ⟨.ref r, rfl, .ref r2, rfl, by show 2 ≤ sizeLine; decide, fun t nt => ?_⟩
            have st := same_upd (o := .tup [V.ref r, V.ref r2]) nt
            refine ⟨_, st _ _ hD3, by rw [List.length_map]; exact small1000 (by omega), fun b o e => ?_, ts3 ++ [t], by rw [upd_same, List.map_append]; rfl, ?_⟩
            · rw [upd_ne (ne_of_none e nD)]
              exact st _ _ (s3 _ _ e)
            · rw [if_pos c2, ← List.append_assoc]
              refine Tms.updL (st _ _ hD3) (paired_app (tm3.same st) (.cons ⟨[r, r2], upd_same, .cons (st _ _ (s3 _ _ hr)) (.cons (st _ _ (s3 _ _ hr2)) .nil)⟩ .nil))
          · rw [if_neg c2, List.append_nil]
            exact ⟨s3, ts3, hD3, tm3⟩
        · obtain ⟨s3, ts3, hD3, tm3⟩ := hP
          refine ⟨s3, ts3, hD3, ?_⟩
          rw [List.length_map, len1, List.take_length] at tm3
          rw [take_flat _ hbs]
          exact tm3
      · obtain ⟨s', ts, hD, tm⟩ := hP
        rw [List.length_map, len1, List.take_length, ← es] at tm
        exact q H' D ts (s12.trans s') hD tm
end
end CC

namespace CC
open PySem PySem.Spec PyProof.Rows L2 Ek
/-! ### books -/
/-- prices at ps -/
abbrev PrsAt (C : Addr) (H : Hp) (ps : List Addr) (bks : List Pd) : Prop := Paired (fun p (z : Pd) => PrAt C H p z.1 z.2) ps bks
theorem PrsAt.same {C : Addr} {H H' : Hp} {ps : List Addr} {bks : List Pd} (s : Same H H') (x : PrsAt C H ps bks) : PrsAt C H' ps bks := by
  induction x with
  | nil => exact .nil
  | cons e _ ih => exact .cons (e.same s) ih
def BkAt (C CB : Addr) (H : Hp) (b : Addr) (bks : List Pd) : Prop := ∃ dx t ps, H b = some (.ins CB dx [("prices", .ref t)]) ∧ H t = some (.tup (ps.map V.ref)) ∧ PrsAt C H ps bks ∧ 1 ≤ bks.length ∧ bks.length ≤ 6
theorem BkAt.same {C CB : Addr} {H H' : Hp} {b : Addr} {bks : List Pd} (s : Same H H') (x : BkAt C CB H b bks) : BkAt C CB H' b bks := by
  obtain ⟨dx, t, ps, h1, h2, h3, h4⟩ := x
  exact ⟨dx, t, ps, s _ _ h1, s _ _ h2, h3.same s, h4⟩
structure Bc (K : PySem.W.Frag) (mg : Str → Option Value) (CB : Addr) : Prop where
  g : mg "Book" = some (.ref CB)
  cl : Cls K CB
  nP : NoAttr K CB "prices"
section
variable {P : Program} {w : World} {K : PySem.W.Frag} {mg : Str → Option Value} {base : Heap}
def spAR (C : Addr) : Sp := fun vs H Q _ => ∃ (l : Addr) (ps : List Addr) (bks : List Pd), vs = [.ref l] ∧ H l = some (.lst (ps.map V.ref)) ∧ PrsAt C H ps bks ∧ 1 ≤ bks.length ∧ bks.length ≤ 6 ∧ ∀ H', Same H H' → Q (.bl true) H'
theorem ok_AR {f C : Addr} {fd : FuncData} (F : Fun K "_are_prices" "_are_prices" sAR f fd) (B : Bt mg) (T : Pc K mg C) (e : Pe K C) {fIQ : Addr} {fdIQ : FuncData} (GIQ : FnOk P w K mg base CX0 1 fIQ fdIQ ["value"] spIQ) (kIQ : PySem.W.keepIn K (.ref fIQ) = true) (bIQ : Binds K fdIQ ["value"] []) (gIQ : mg "is_sequence" = some (.ref fIQ)) : FnOk P w K mg base CX0 2 f fd ["value"] (spAR C) := by
  refine F.ok scAR (fun vs H Q E h => ?_) (fun cdv A outer s H vs Q E hr h => ?_)
  · obtain ⟨l, ps, bks, rfl, _⟩ := h
    rfl
  · obtain ⟨l, ps, bks, rfl, hl, pa, b1, b6, q⟩ := h
    have ln := paired_len pa
    refine ⟨_, (pss_one (ps_ret (pe_and (pe_call GIQ (hr.mono (by decide)) (by rfl) gIQ kIQ bIQ .nil pass0 (pa_cons (pv 0) pa_nil)) (pe_and (pe_chain op_le op_le pe_int (pe_callB call_len_seq (by rfl) B.len PySem.boot_len (pa_cons (pv 0) pa_nil)) pe_int) (pe_one (pe_callB (cr_all rfl) (by rfl) B.all (by decide +kernel) (pa_cons (pe_lc (own := [("member", 1)]) (g := gName 1) (tt := tYes) rfl scAR.nd (pi_list (pv 0)) (blkOk_by (N := NAR) (sc := defScope sAR) (by decide +kernel)) (fun _ _ _ _ _ => pg_name (i := 1) scAR.nd rfl (Or.inl rfl)) (fun _ _ _ _ _ => pts_nil) (fun _ _ _ _ _ => (pe_callB (call_isik K rfl) (by rfl) B.isinstance (by decide +kernel) (pa_cons (pv 1) (pa_cons (pe_glob (v := .ref C) (by rfl) T.g rfl) pa_nil))))) pa_nil))))))), ?_⟩
    refine q_ret ?_
    refine ⟨.ref l, rfl, .ref l, rfl, .lst hl, fun H1 s1 => ⟨true, rfl, ?_⟩⟩
    have hl1 := s1 _ _ hl
    refine ⟨.ref l, rfl, l, _, rfl, .inl (sl hl1), _, _, rfl, rfl, ?_⟩
    have e1 : decide ((1 : Int) ≤ ((ps.map V.ref).length : Nat)) = true := decide_eq_true (by rw [List.length_map]; omega)
    have e6 : decide ((((ps.map V.ref).length : Nat) : Int) ≤ 6) = true := decide_eq_true (by rw [List.length_map]; omega)
    refine ⟨_, rfl, ?_⟩
    rw [e1, if_pos rfl]
    refine ⟨_, _, rfl, rfl, _, rfl, ?_⟩
    rw [e6, if_pos rfl]
    refine ⟨.ref l, rfl, l, rfl, ⟨_, sl hl1⟩, fun D nD => lc_list (K := K) (a := l) (xs := ps.map V.ref) (fun i H' => Same H1 H' ∧ H' D = some (.lst ((List.replicate i true).map V.bl))) ⟨same_upd nD, upd_same⟩ (fun i H' _ hP => sl (hP.1 _ _ hl1)) (fun i x H' hx hP => ?_) (fun H' hP => ?_)⟩
    · obtain ⟨s', hD⟩ := hP
      obtain ⟨p, rfl, hp⟩ : ∃ p, x = V.ref p ∧ ps[i]? = some p := by
        rw [List.getElem?_map] at hx
        cases ee : ps[i]? with
        | none => rw [ee] at hx; cases hx
        | some p => rw [ee] at hx; exact ⟨p, (Option.some.inj hx).symm, rfl⟩
      have li : i < ps.length := (List.getElem?_eq_some_iff.mp hp).1
      obtain ⟨y, hy, hz⟩ := paired_get pa (List.getElem?_eq_getElem (show i < bks.length by omega))
      rw [hp] at hy
      cases hy
      refine ⟨rfl, .ref p, rfl, .ref p, .ref C, _, _, true, rfl, .own C, .base (ty_pr T e (hz.same (s1.trans s'))), kit_self, _, hD, ?_, fun b o z => ?_, ?_⟩
      · rw [List.length_map, List.length_replicate]
        exact small1000 (by omega)
      · rw [upd_ne (ne_of_none z nD)]
        exact s' _ _ z
      · rw [upd_same, List.replicate_succ', List.map_append]
        rfl
    · obtain ⟨s', hD⟩ := hP
      refine ⟨D, _, rfl, sl hD, ?_⟩
      have ea : (List.replicate (ps.map V.ref).length true).all id = true := by simp
      rw [ea]
      exact q H' (s1.trans s')
def spBI (C CB : Addr) : Sp := fun vs H Q _ => ∃ (b dx l : Addr) (ps : List Addr) (bks : List Pd), vs = [.ref b, .ref l] ∧ H b = some (.ins CB dx []) ∧ H l = some (.lst (ps.map V.ref)) ∧ PrsAt C H ps bks ∧ 1 ≤ bks.length ∧ bks.length ≤ 6 ∧
  ∀ H', (∀ c o, c ≠ b → H c = some o → H' c = some o) → BkAt C CB H' b bks → Q .non H'
theorem PrsAt.updI {C CB b dx : Addr} {H : Hp} {fs : List (Str × V)} {o : HO} {ps : List Addr} {bks : List Pd} (n : C ≠ CB) (e : H b = some (.ins CB dx fs)) (x : PrsAt C H ps bks) : PrsAt C (upd H b o) ps bks := by
  induction x with
  | nil => exact .nil
  | cons h _ ih =>
    obtain ⟨dx2, t, h1, h2, h3⟩ := h
    refine .cons ⟨dx2, t, ?_, ?_, h3⟩ ih
    · rw [upd_ne (ne_of h1 e (by intro z; injection z with z1; exact n z1))]
      exact h1
    · rw [upd_ne (ne_of h2 e (by intro z; cases z))]
      exact h2
theorem ok_BI {f C CB : Addr} {fd : FuncData} (F : Fun K "__init__" "Book.__init__" sBI f fd) (TB : Bc K mg CB) (nB : C ≠ CB) (B : Bt mg) {fAR : Addr} {fdAR : FuncData} (GAR : FnOk P w K mg base CX0 2 fAR fdAR ["value"] (spAR C)) (kAR : PySem.W.keepIn K (.ref fAR) = true) (bAR : Binds K fdAR ["value"] []) (gAR : mg "_are_prices" = some (.ref fAR)) : FnOk P w K mg base CX0 3 f fd ["self", "prices"] (spBI C CB) := by
  refine F.ok scBI (fun vs H Q E h => ?_) (fun cdv A outer s H vs Q E hr h => ?_)
  · obtain ⟨b, dx, l, ps, bks, rfl, _⟩ := h
    rfl
  · obtain ⟨b, dx, l, ps, bks, rfl, hb, hl, pa, b1, b6, q⟩ := h
    refine ⟨_, (pss_cons (ps_if (pt_not (pt_val (pe_call GAR (hr.mono (by decide)) (by rfl) gAR kAR bAR .nil pass0 (pa_cons (pv 1) pa_nil))))
      (pss_one ps_never) pss_nil)
      (pss_one (ps_fld (pv 0) (pe_callTy call_tuple_of (by rfl) B.tuple (by decide +kernel) (pa_cons (pv 1) pa_nil)) rfl))), ?_⟩
    refine q_seq (q_if ?_)
    refine ⟨.ref l, rfl, l, ps, bks, rfl, hl, pa, b1, b6, fun H1 s1 => ⟨true, rfl, ?_⟩⟩
    dsimp only
    rw [if_neg (show ¬ (!true) = true by decide)]
    refine q_next ?_
    have hb1 := s1 _ _ hb
    have hl1 := s1 _ _ hl
    refine ⟨.ref l, rfl, l, _, rfl, .inl ⟨sl hl1, fun t nt => ⟨.ref b, rfl, ?_⟩⟩⟩
    have st := same_upd (o := .tup (ps.map V.ref)) nt
    refine ⟨b, CB, dx, [], rfl, st _ _ hb1, TB.cl, TB.nP, by show 0 < 1000; decide, ?_⟩
    have ntb : t ≠ b := fun z => by
      rw [z, hb1] at nt
      cases nt
    refine q _ (fun c o nc e => ?_) ⟨dx, t, ps, by rw [upd_same]; rfl, by rw [upd_ne ntb, upd_same], PrsAt.updI nB (st _ _ hb1) (pa.same (s1.trans st)), b1, b6⟩
    rw [upd_ne nc]
    exact st _ _ (s1 _ _ e)
end
end CC

namespace CC
open PySem PySem.Spec PyProof.Rows L2 Ek
/-! ### the first fault -/
def faultP (w : Str) (z : Pd) : Option (List (List Int)) := (shownsOf z.1 w).find? (showsB w z)
def faultF (w : Str) : Nat → List Pd → Option (Nat × List (List Int))
  | _, [] => none
  | i, z :: zs => match faultP w z with
    | some rs => some (i, rs)
    | none => faultF w (i + 1) zs
/-- a fault as a value -/
def FltV (H : Hp) (v : V) : Option (Nat × List (List Int)) → Prop
  | none => v = .non
  | some (i, rs) => ∃ (a : Addr) (as : List Addr), v = .ref a ∧ H a = some (.tup (.int (i : Nat) :: as.map V.ref)) ∧ Rws H as rs
theorem faultF_some {w : Str} {bks : List Pd} {i : Nat} {z : Pd} {rs : List (List Int)} (h : bks[i]? = some z) (e : faultF w 0 bks = faultF w i (bks.drop i)) (f : faultP w z = some rs) : faultF w 0 bks = some (i, rs) := by
  obtain ⟨lt, hx⟩ := List.getElem?_eq_some_iff.mp h
  rw [e, List.drop_eq_getElem_cons lt, hx]
  unfold faultF
  rw [f]
theorem faultF_none {w : Str} {bks : List Pd} {i : Nat} {z : Pd} (h : bks[i]? = some z) (e : faultF w 0 bks = faultF w i (bks.drop i)) (f : faultP w z = none) : faultF w 0 bks = faultF w (i + 1) (bks.drop (i + 1)) := by
  obtain ⟨lt, hx⟩ := List.getElem?_eq_some_iff.mp h
  rw [e, List.drop_eq_getElem_cons lt, hx]
  show (match faultP w z with | some rs => some (i, rs) | none => faultF w (i + 1) (bks.drop (i + 1))) = _
  rw [f]
def words5 : List Str := ["all no", "all yes", "bent", "rising", "falling"]
structure Wt (K : PySem.W.Frag) (mg : Str → Option Value) (x : Str) (a : Addr) (ws : List Str) : Prop where
  g : mg x = some (.ref a)
  t : ∀ H : Hp, SqT K H a (ws.map V.str)
theorem dp_strs {K : PySem.W.Frag} {H : Hp} : ∀ {ws : List Str}, DpAll K H (ws.map V.str) (ws.map .str)
  | [] => .nil
  | x :: xs => .cons (.str x) dp_strs
theorem dp_str {K : PySem.W.Frag} {H : Hp} {v : V} {x : Str} (h : Dp K H v (.str x)) : v = .str x := by
  cases h
  rfl
section
variable {P : Program} {w : World} {K : PySem.W.Frag} {mg : Str → Option Value} {base : Heap}
def spFO (K : PySem.W.Frag) (C CB CU : Addr) : Sp := fun vs H Q E => ∃ (b : Addr) (bks : List Pd) (v : V) (d : PyData), vs = [.ref b, v] ∧ BkAt C CB H b bks ∧ Dp K H v d ∧ SeqAt.shaped d = true ∧
  (∀ w, d = .str w → w ∈ words5 → ∀ H' x, Same H H' → FltV H' x (faultF w 0 bks) → Q x H') ∧ ((∀ w ∈ words5, PyData.eqv (.str w) d = false) → ∀ dd H', Same H H' → H' dd = some (.xd [("what", .str "word")]) → E (.ref CU) (some dd) H')
theorem shown_len {n : Nat} {w : Str} {rs : List (List Int)} (h : rs ∈ shownsOf n w) : rs.length = 1 ∨ rs.length = 2 := by
  by_cases c : isOne w = true
  · obtain ⟨r, rfl, _⟩ := mem_shown1 c h
    exact .inl rfl
  · obtain ⟨a, b, rfl, _⟩ := mem_shown2 c h
    exact .inr rfl
theorem any_str {d : PyData} : ∀ {ws : List Str}, (ws.map PyData.str).any (fun z => PyData.eqv z d) = true → ∃ w ∈ ws, d = .str w
  | [], h => by simp at h
  | x :: xs, h => by
    rw [List.map_cons, List.any_cons, Bool.or_eq_true] at h
    rcases h with h | h
    · exact ⟨x, List.mem_cons_self, eqv_str h⟩
    · obtain ⟨w, m, e⟩ := any_str (ws := xs) h
      exact ⟨w, List.mem_cons_of_mem _ m, e⟩
theorem any_no {d : PyData} {ws : List Str} (h : ¬ (ws.map PyData.str).any (fun z => PyData.eqv z d) = true) : ∀ w ∈ ws, PyData.eqv (.str w) d = false := fun w m => by
  cases e : PyData.eqv (.str w) d with
  | false => rfl
  | true => exact absurd (List.any_eq_true.mpr ⟨_, List.mem_map.mpr ⟨w, m, rfl⟩, e⟩) h
theorem bk_fld {CB t : Addr} : ([("prices", V.ref t)] : List (Str × V)).lookup ("prices" : Str) = some (.ref t) := by simp [List.lookup]
theorem ok_FO {f C CB CU fX aW : Addr} {fd fdX : FuncData} (F : Fun K "fault_of" "fault_of" sFO f fd) (B : Bt mg) (T : Pc K mg C) (TB : Bc K mg CB) (W5 : Wt K mg "WORDS" aW words5) (XU : Xc K mg "Undefined" "what" CU) (XUi : PySem.W.findIn K (.ref CU) "__init__" = some (some (.ref fX))) (XUt : PySem.W.typeIn K (.ref fX) = some (.type "function")) (XUG : FnOk P w K mg base CX0 1 fX fdX ["self", "what"] (spXf K "what")) (XUb : Binds K fdX ["self", "what"] [])
    {fTM : Addr} {fdTM : FuncData} (GTM : FnOk P w K mg base CX0 2 fTM fdTM ["size", "word"] spTM) (kTM : PySem.W.keepIn K (.ref fTM) = true) (bTM : Binds K fdTM ["size", "word"] []) (gTM : mg "_that_may_show" = some (.ref fTM)) {fSH : Addr} {fdSH : FuncData} (GSH : FnOk P w K mg base CX0 7 fSH fdSH ["price", "word", "shown"] (spSH C)) (kSH : PySem.W.keepIn K (.ref fSH) = true) (bSH : Binds K fdSH ["price", "word", "shown"] []) (gSH : mg "shows" = some (.ref fSH)) : FnOk P w K mg base (L2.CX P w) 8 f fd ["book", "word"] (spFO K C CB CU) := by
  have gW := W5.g
  refine F.okX scFO (fun vs H Q E h => ?_) (fun cdv A outer s H vs Q E hr h => ?_)
  · obtain ⟨b, bks, v, d, rfl, _⟩ := h
    rfl
  · obtain ⟨b, bks, v, d, rfl, bk, hd, sh, q, qx⟩ := h
    obtain ⟨dx, t, ps, hb, ht, pa, b1, b6⟩ := id bk
    have ln := paired_len pa
    refine ⟨_, (pss_cons (ps_if (pt_cmpR (op_notInTD (ru65 hr)) (pv 1) (pe_glob (v := .ref aW) (by rfl) gW rfl) (by with_unfolding_all rfl))
      (pss_one (ps_raise rfl (takes_of rfl rfl rfl rfl) (pmk_oex (CX := CX0) XU.o XUi XUt XUG (hr.mono (by decide)) XUb .nil pass0 (by rfl) XU.g (pa_cons pe_str pa_nil)))) pss_nil)
      (pss_cons (ps_for (passes_of rfl) rfl (pi_enumT (by rfl) B.enumerate (pa_cons (pe_fld (pv 0) rfl) pa_nil)) (pg_tup (by rfl) (pgs_cons (pg_name (i := 2) scFO.nd rfl (.inl rfl)) (pgs_cons (pg_name (i := 3) scFO.nd rfl (.inl rfl)) pgs_nil)))
      (pss_one (ps_for (passes_of rfl) rfl (pi_list (pe_call GTM (hr.mono (by decide)) (by rfl) gTM kTM bTM .nil pass0 (pa_cons (pe_fld (pv 3) rfl) (pa_cons (pv 1) pa_nil)))) (pg_name (i := 4) scFO.nd rfl (.inl rfl))
      (pss_one (ps_if (pt_val (pe_call GSH (hr.mono (by decide)) (by rfl) gSH kSH bSH .nil pass0 (pa_cons (pv 3) (pa_cons (pv 1) (pa_cons (pv 4) pa_nil)))))
      (pss_one (ps_ret (pe_op op_catA (pe_tup (pa_cons (pv 2) pa_nil)) (pv 4)))) pss_nil)))))
      (pss_one (ps_ret pe_non)))), ?_⟩
    refine q_seq (q_if ?_)
    refine ⟨v, rfl, d, words5.map .str, hd, .tup (W5.t H) dp_strs, sh, by decide +kernel, _, rfl, ?_⟩
    dsimp only
    rw [if_pos rfl]
    refine ite2 (fun c => ?_) (fun c => ?_)
    · have c' : ¬ (words5.map PyData.str).any (fun z => PyData.eqv z d) = true := by simpa using c
      exact ⟨by show 1 ≤ 1000; decide, raise_end XU.o XU.no fun dd H' s' nd hd2 => qx (any_no c') dd H' s' hd2⟩
    · have c' : (words5.map PyData.str).any (fun z => PyData.eqv z d) = true := by simpa using c
      obtain ⟨w, mw, rfl⟩ := any_str c'
      obtain rfl := dp_str hd
      have q0 := q w rfl mw
      refine q_next ?_
      dsimp only
      refine q_seq ?_
      refine ⟨.ref b, rfl, b, CB, dx, _, .ref t, rfl, hb, TB.cl, TB.nP, bk_fld (CB := CB), t, _, rfl, tl ht, ?_⟩
      refine for_enumT (K := K) (a := t) (xs := ps.map V.ref) (fun i σ H' => Same H H' ∧ (∃ x1 x2 x3 : Option V, σ = [some (.ref b), some (.str w), x1, x2, x3]) ∧ faultF w 0 bks = faultF w i (bks.drop i)) ⟨Same.refl H, ⟨none, none, none, rfl⟩, rfl⟩ (fun i σ H' _ hP => tl (hP.1 _ _ ht)) (fun i x σ H' T1 hx hP nT => ?_) (fun σ H' hP => ?_)
      · obtain ⟨s', ⟨x1, x2, x3, rfl⟩, ef⟩ := hP
        obtain ⟨p, rfl, hp⟩ : ∃ p, x = V.ref p ∧ ps[i]? = some p := by
          rw [List.getElem?_map] at hx
          cases ee : ps[i]? with
          | none => rw [ee] at hx; cases hx
          | some p => rw [ee] at hx; exact ⟨p, (Option.some.inj hx).symm, rfl⟩
        have li : i < bks.length := by
          have := (List.getElem?_eq_some_iff.mp hp).1
          omega
        obtain ⟨y, hy, hz⟩ := paired_get pa (List.getElem?_eq_getElem li)
        rw [hp] at hy
        cases hy
        have hbi : bks[i]? = some bks[i] := List.getElem?_eq_getElem li
        generalize bks[i] = z at hz hbi
        obtain ⟨k, ms⟩ := z
        have s1 := s'.trans (same_upd (o := .tup [.int (i : Nat), .ref p]) nT)
        refine ⟨T1, _, rfl, tl upd_same, rfl, .int (i : Nat), _, rfl, .ref p, _, rfl, rfl, ?_⟩
        have pr := hz.same s1
        obtain ⟨dxp, tp, hpp, htp, k1, k3, hl⟩ := id pr
        refine ⟨.ref p, rfl, p, C, dxp, _, .int k, rfl, hpp, T.cl, T.nS, pf_size _ _, .str w, rfl, k, w, rfl, k3, fun H2 L ts s2 hL tm => ?_⟩
        have s12 := s1.trans s2
        refine ⟨L, rfl, ⟨_, sl hL⟩, for_list (K := K) (a := L) (xs := ts.map V.ref) (fun j σ H' => Same H2 H' ∧ (∃ x3 : Option V, σ = [some (.ref b), some (.str w), some (.int (i : Nat)), some (.ref p), x3]) ∧ ((shownsOf k w).take j).find? (showsB w (k, ms)) = none) ⟨Same.refl H2, ⟨x3, rfl⟩, rfl⟩ (fun j σ H' _ hQ => sl (hQ.1 _ _ hL)) (fun j y σ H' hy hQ => ?_) (fun σ H' hQ => ?_)⟩
        · obtain ⟨s3, ⟨x3', rfl⟩, fn⟩ := hQ
          obtain ⟨t2, rfl, ht2⟩ : ∃ t2, y = V.ref t2 ∧ ts[j]? = some t2 := by
            rw [List.getElem?_map] at hy
            cases ee : ts[j]? with
            | none => rw [ee] at hy; cases hy
            | some p => rw [ee] at hy; exact ⟨p, (Option.some.inj hy).symm, rfl⟩
          have lj : j < (shownsOf k w).length := by
            rw [← paired_len tm]
            exact (List.getElem?_eq_some_iff.mp ht2).1
          obtain ⟨y2, hy2, as, has, rwa⟩ := paired_get tm (List.getElem?_eq_getElem lj)
          rw [ht2] at hy2
          cases hy2
          have hsj : (shownsOf k w)[j]? = some (shownsOf k w)[j] := List.getElem?_eq_getElem lj
          have mem : (shownsOf k w)[j] ∈ shownsOf k w := List.getElem_mem lj
          generalize (shownsOf k w)[j] = rs at *
          refine q_if ?_
          refine ⟨.ref p, rfl, .str w, rfl, .ref t2, rfl, p, t2, w, k, ms, as, rs, rfl, pr.same (s2.trans s3), s3 _ _ has, rwa.same s3, shown_ok mem, fun H4 s4 => ⟨_, rfl, ?_⟩⟩
          have s34 := s3.trans s4
          refine ite2 (fun c2 => ?_) (fun c2 => ?_)
          · refine q_ret ?_
            refine ⟨_, rfl, by show 1 ≤ sizeLine; decide, fun t3 nt3 => ⟨.ref t2, rfl, ?_⟩⟩
            have s5 := same_upd (o := .tup [V.int (i : Nat)]) nt3
            refine cat_A upd_same (s5 _ _ (s34 _ _ has)) (by rw [List.length_map, paired_len rwa]; rcases shown_len mem with e | e <;> rw [e] <;> (first | (show 1 + 1 ≤ 1000; decide) | (show 1 + 2 ≤ 1000; decide))) fun t4 H6 s6 h6 => ?_
            refine q0 H6 (.ref t4) (s12.trans (s34.trans (s5.trans s6))) ?_
            rw [faultF_some hbi ef (show faultP w (k, ms) = some rs from find_at hsj fn c2)]
            exact ⟨t4, as, rfl, h6, rwa.same (s34.trans (s5.trans s6))⟩
          · refine q_next ?_
            exact ⟨s34, ⟨_, rfl⟩, find_no hsj fn c2⟩
        · obtain ⟨s3, ⟨x3', rfl⟩, fn⟩ := hQ
          dsimp only
          have ltm := paired_len tm
          rw [List.length_map, ltm, List.take_length] at fn
          exact ⟨s12.trans s3, ⟨_, _, _, rfl⟩, faultF_none hbi ef fn⟩
      · obtain ⟨s', ⟨x1, x2, x3, rfl⟩, ef⟩ := hP
        dsimp only
        refine q_ret ?_
        refine q0 H' .non s' ?_
        have e0 : bks.drop (ps.map V.ref).length = [] := List.drop_eq_nil_of_le (by rw [List.length_map]; omega)
        rw [ef, e0]
        rfl
end
end CC

namespace CC
open PySem PySem.Spec PyProof.Rows L2 Ek
section
variable {P : Program} {w : World} {K : PySem.W.Frag} {mg : Str → Option Value} {base : Heap}
theorem flt_non {H : Hp} {v : V} {o : Option (Nat × List (List Int))} (h : FltV H v o) : decide (v = V.non) = o.isNone := by
  cases o with
  | none =>
    obtain rfl : v = .non := h
    rfl
  | some p =>
    obtain ⟨i, rs⟩ := p
    obtain ⟨a, as, rfl, _⟩ := h
    rfl
def spIK (K : PySem.W.Frag) (C CB CU : Addr) : Sp := fun vs H Q E => ∃ (b : Addr) (bks : List Pd) (v : V) (d : PyData), vs = [.ref b, v] ∧ BkAt C CB H b bks ∧ Dp K H v d ∧ SeqAt.shaped d = true ∧
  (∀ w, d = .str w → w ∈ words5 → ∀ H', Same H H' → Q (.bl (faultF w 0 bks).isNone) H') ∧ ((∀ w ∈ words5, PyData.eqv (.str w) d = false) → ∀ dd H', Same H H' → H' dd = some (.xd [("what", .str "word")]) → E (.ref CU) (some dd) H')
theorem ok_IK {f C CB CU : Addr} {fd : FuncData} (F : Fun K "is_kind" "is_kind" sIK f fd) {fFO : Addr} {fdFO : FuncData} (GFO : FnOk P w K mg base (L2.CX P w) 8 fFO fdFO ["book", "word"] (spFO K C CB CU)) (kFO : PySem.W.keepIn K (.ref fFO) = true) (bFO : Binds K fdFO ["book", "word"] []) (gFO : mg "fault_of" = some (.ref fFO)) : FnOk P w K mg base (L2.CX P w) 9 f fd ["book", "word"] (spIK K C CB CU) := by
  refine F.okX scIK (fun vs H Q E h => ?_) (fun cdv A outer s H vs Q E hr h => ?_)
  · obtain ⟨b, bks, v, d, rfl, _⟩ := h
    rfl
  · obtain ⟨b, bks, v, d, rfl, bk, hd, sh, q, qx⟩ := h
    refine ⟨_, (pss_one (ps_ret (pe_cmpR op_isN (pe_call GFO (hr.mono (by decide)) (by rfl) gFO kFO bFO .nil (passes_call (takes_of rfl rfl rfl rfl) (fun _ _ _ _ z => z)) (pa_cons (pv 0) (pa_cons (pv 1) pa_nil))) pe_non (nomark _)))), ?_⟩
    refine q_ret ?_
    refine ⟨.ref b, rfl, v, rfl, b, bks, v, d, rfl, bk, hd, sh, fun w e m H1 x s1 fl => ⟨rfl, ?_⟩, qx⟩
    rw [flt_non fl]
    exact q w e m H1 s1
def kindsF (ws : List Str) (bks : List Pd) : List Str := ws.filter fun w => (faultF w 0 bks).isNone
def free3 : List Str := ["all no", "all yes", "bent"]
def fixed3 : List Str := ["rising", "falling", "bent"]
theorem in5_free : ∀ w ∈ free3, w ∈ words5 := fun w m => by
  simp only [free3, List.mem_cons, List.not_mem_nil, or_false] at m
  rcases m with rfl | rfl | rfl <;> simp [words5]
theorem in5_fixed : ∀ w ∈ fixed3, w ∈ words5 := fun w m => by
  simp only [fixed3, List.mem_cons, List.not_mem_nil, or_false] at m
  rcases m with rfl | rfl | rfl <;> simp [words5]
theorem sh_words : ∀ w ∈ words5, SeqAt.shaped (.str w) = true := by decide +kernel
theorem not_none5 {w : Str} (m : w ∈ words5) (h : ∀ w' ∈ words5, PyData.eqv (.str w') (.str w) = false) : False := by
  have z := h w m
  rw [PyData.eqv, beq_self_eq_true] at z
  cases z
theorem filt_take {α : Type} {f : α → Bool} {l : List α} {i : Nat} {x : α} (h : l[i]? = some x) : (l.take (i + 1)).filter f = (l.take i).filter f ++ (if f x = true then [x] else []) := by
  rw [List.take_add_one, h, List.filter_append]
  congr 1
  show List.filter f [x] = _
  by_cases c : f x = true
  · rw [if_pos c, List.filter_cons_of_pos c, List.filter_nil]
  · rw [if_neg c, List.filter_cons_of_neg c, List.filter_nil]
def spFK (C CB : Addr) (ws : List Str) : Sp := fun vs H Q _ => ∃ (b : Addr) (bks : List Pd), vs = [.ref b] ∧ BkAt C CB H b bks ∧ ∀ H' t, Same H H' → H' t = some (.tup ((kindsF ws bks).map V.str)) → Q (.ref t) H'
theorem ok_FK {f C CB CU aFW : Addr} {fd : FuncData} (F : Fun K "free_kinds" "free_kinds" sFK f fd) (B : Bt mg) (WT : Wt K mg "FREE_WORDS" aFW free3) {fIK : Addr} {fdIK : FuncData} (GIK : FnOk P w K mg base (L2.CX P w) 9 fIK fdIK ["book", "word"] (spIK K C CB CU)) (kIK : PySem.W.keepIn K (.ref fIK) = true) (bIK : Binds K fdIK ["book", "word"] []) (gIK : mg "is_kind" = some (.ref fIK)) : FnOk P w K mg base CX0 10 f fd ["book"] (spFK C CB free3) := by
  have gFW := WT.g
  refine F.ok scFK (fun vs H Q E h => ?_) (fun cdv A outer s H vs Q E hr h => ?_)
  · obtain ⟨b, bks, rfl, _⟩ := h
    rfl
  · obtain ⟨b, bks, rfl, bk, q⟩ := h
    refine ⟨_, (pss_one (ps_ret (pe_callTy call_tuple_of (by rfl) B.tuple (by decide +kernel) (pa_cons (pe_lc (own := [("word", 1)]) (g := gName 1) rfl scFK.nd (pi_tup (pe_glob (v := .ref aFW) (by rfl) gFW rfl)) (blkOk_by (N := NFK) (sc := defScope sFK) (by decide +kernel)) (fun _ _ _ _ _ => pg_name (i := 1) scFK.nd rfl (Or.inl rfl)) (fun _ _ _ _ _ => pts_one (pt_val (pe_call GIK (hr.mono (by decide)) (by rfl) gIK kIK bIK .nil passE0 (pa_cons (pv 0) (pa_cons (pv 1) pa_nil))))) (fun _ _ _ _ _ => (pv 1))) pa_nil)))), ?_⟩
    refine q_ret ?_
    refine ⟨aFW, rfl, ⟨_, WT.t H⟩, fun D nD => lc_tup (K := K) (a := aFW) (xs := free3.map V.str) (fun i H' => Same H H' ∧ H' D = some (.lst ((((free3.take i).filter fun w => (faultF w 0 bks).isNone)).map V.str))) ⟨same_upd nD, upd_same⟩ (fun i H' _ _ => WT.t H') (fun i x H' hx hP => ?_) (fun H' hP => ?_)⟩
    · obtain ⟨s', hD⟩ := hP
      obtain ⟨w, rfl, hw⟩ : ∃ w, x = V.str w ∧ free3[i]? = some w := by
        rw [List.getElem?_map] at hx
        cases ee : (free3[i]? : Option Str) with
        | none => rw [ee] at hx; cases hx
        | some p => rw [ee] at hx; exact ⟨p, (Option.some.inj hx).symm, rfl⟩
      have mw := in5_free w (List.mem_of_getElem? hw)
      refine ⟨rfl, .ref b, rfl, .str w, rfl, b, bks, .str w, .str w, rfl, bk.same s', .str w, sh_words w mw, fun w2 e2 _ H2 s2 => ?_, fun z => (not_none5 mw z).elim⟩
      cases e2
      refine ⟨_, rfl, ?_⟩
      rw [filt_take hw]
      refine ite2 (fun c => ?_) (fun c => ?_)
      · refine ⟨_, rfl, _, s2 _ _ hD, ?_, fun b o z => ?_, ?_⟩
        · rw [List.length_map]
          have z := List.length_filter_le (fun w => (faultF w 0 bks).isNone) (free3.take i)
          have z2 : (free3.take i).length ≤ 3 := by rw [List.length_take]; exact Nat.min_le_right _ _
          exact small1000 (by omega)
        · rw [upd_ne (ne_of_none z nD)]
          exact s2 _ _ (s' _ _ z)
        · rw [if_pos c, upd_same, List.map_append]
          rfl
      · rw [if_neg c, List.append_nil]
        exact ⟨s'.trans s2, s2 _ _ hD⟩
    · obtain ⟨s', hD⟩ := hP
      rw [List.length_map, List.take_length] at hD
      exact ⟨D, _, rfl, .inl ⟨sl hD, fun t nt => q _ t (s'.trans (same_upd nt)) upd_same⟩⟩
theorem ok_XK {f C CB CU aXW : Addr} {fd : FuncData} (F : Fun K "fixed_kinds" "fixed_kinds" sXK f fd) (B : Bt mg) (WT : Wt K mg "FIXED_WORDS" aXW fixed3) {fIK : Addr} {fdIK : FuncData} (GIK : FnOk P w K mg base (L2.CX P w) 9 fIK fdIK ["book", "word"] (spIK K C CB CU)) (kIK : PySem.W.keepIn K (.ref fIK) = true) (bIK : Binds K fdIK ["book", "word"] []) (gIK : mg "is_kind" = some (.ref fIK)) : FnOk P w K mg base CX0 10 f fd ["book"] (spFK C CB fixed3) := by
  have gXW := WT.g
  refine F.ok scXK (fun vs H Q E h => ?_) (fun cdv A outer s H vs Q E hr h => ?_)
  · obtain ⟨b, bks, rfl, _⟩ := h
    rfl
  · obtain ⟨b, bks, rfl, bk, q⟩ := h
    refine ⟨_, (pss_one (ps_ret (pe_callTy call_tuple_of (by rfl) B.tuple (by decide +kernel) (pa_cons (pe_lc (own := [("word", 1)]) (g := gName 1) rfl scXK.nd (pi_tup (pe_glob (v := .ref aXW) (by rfl) gXW rfl)) (blkOk_by (N := NXK) (sc := defScope sXK) (by decide +kernel)) (fun _ _ _ _ _ => pg_name (i := 1) scXK.nd rfl (Or.inl rfl)) (fun _ _ _ _ _ => pts_one (pt_val (pe_call GIK (hr.mono (by decide)) (by rfl) gIK kIK bIK .nil passE0 (pa_cons (pv 0) (pa_cons (pv 1) pa_nil))))) (fun _ _ _ _ _ => (pv 1))) pa_nil)))), ?_⟩
    refine q_ret ?_
    refine ⟨aXW, rfl, ⟨_, WT.t H⟩, fun D nD => lc_tup (K := K) (a := aXW) (xs := fixed3.map V.str) (fun i H' => Same H H' ∧ H' D = some (.lst ((((fixed3.take i).filter fun w => (faultF w 0 bks).isNone)).map V.str))) ⟨same_upd nD, upd_same⟩ (fun i H' _ _ => WT.t H') (fun i x H' hx hP => ?_) (fun H' hP => ?_)⟩
    · obtain ⟨s', hD⟩ := hP
      obtain ⟨w, rfl, hw⟩ : ∃ w, x = V.str w ∧ fixed3[i]? = some w := by
        rw [List.getElem?_map] at hx
        cases ee : (fixed3[i]? : Option Str) with
        | none => rw [ee] at hx; cases hx
        | some p => rw [ee] at hx; exact ⟨p, (Option.some.inj hx).symm, rfl⟩
      have mw := in5_fixed w (List.mem_of_getElem? hw)
      refine ⟨rfl, .ref b, rfl, .str w, rfl, b, bks, .str w, .str w, rfl, bk.same s', .str w, sh_words w mw, fun w2 e2 _ H2 s2 => ?_, fun z => (not_none5 mw z).elim⟩
      cases e2
      refine ⟨_, rfl, ?_⟩
      rw [filt_take hw]
      refine ite2 (fun c => ?_) (fun c => ?_)
      · refine ⟨_, rfl, _, s2 _ _ hD, ?_, fun b o z => ?_, ?_⟩
        · rw [List.length_map]
          have z := List.length_filter_le (fun w => (faultF w 0 bks).isNone) (fixed3.take i)
          have z2 : (fixed3.take i).length ≤ 3 := by rw [List.length_take]; exact Nat.min_le_right _ _
          exact small1000 (by omega)
        · rw [upd_ne (ne_of_none z nD)]
          exact s2 _ _ (s' _ _ z)
        · rw [if_pos c, upd_same, List.map_append]
          rfl
      · rw [if_neg c, List.append_nil]
        exact ⟨s'.trans s2, s2 _ _ hD⟩
    · obtain ⟨s', hD⟩ := hP
      rw [List.length_map, List.take_length] at hD
      exact ⟨D, _, rfl, .inl ⟨sl hD, fun t nt => q _ t (s'.trans (same_upd nt)) upd_same⟩⟩
end
end CC

namespace CC
open PySem PySem.Spec PyProof.Rows L2 Ek
/-! ### prices as the law draws them -/
def LPr (H : Hp) (p : Addr) (z : Pd) : Prop := ∃ t, H p = some (.tup [.int z.1, .ref t]) ∧ H t = some (.tup (z.2.map V.int)) ∧ 1 ≤ z.1 ∧ z.1 ≤ 3 ∧ z.2.length = 2 ^ z.1 ∧ Bd (-1000000000) 1000000000 z.2
theorem LPr.same {H H' : Hp} {p : Addr} {z : Pd} (s : Same H H') (x : LPr H p z) : LPr H' p z := by
  obtain ⟨t, h1, h2, h3⟩ := x
  exact ⟨t, s _ _ h1, s _ _ h2, h3⟩
theorem LPr.kp {h dr : Addr} {H H' : Hp} {p : Addr} {z : Pd} (hd : Hdd H h dr) (kp : Kp h H H') (x : LPr H p z) : LPr H' p z := by
  obtain ⟨t, h1, h2, h3⟩ := x
  exact ⟨t, kp _ _ (hd.ns h1 (fun _ _ z => by cases z)) h1, kp _ _ (hd.ns h2 (fun _ _ z => by cases z)) h2, h3⟩
theorem LPr.updL {H : Hp} {p D : Addr} {z : Pd} {xs : List V} {o : HO} (e : H D = some (.lst xs)) (x : LPr H p z) : LPr (upd H D o) p z := by
  obtain ⟨t, h1, h2, h3⟩ := x
  exact ⟨t, by rw [upd_ne (ne_of h1 e (by intro z; cases z))]; exact h1, by rw [upd_ne (ne_of h2 e (by intro z; cases z))]; exact h2, h3⟩
abbrev LPs (H : Hp) (ps : List Addr) (bks : List Pd) : Prop := Paired (LPr H) ps bks
theorem LPs.same {H H' : Hp} {ps : List Addr} {bks : List Pd} (s : Same H H') (x : LPs H ps bks) : LPs H' ps bks := by
  induction x with
  | nil => exact .nil
  | cons e _ ih => exact .cons (e.same s) ih
theorem LPs.kp {h dr : Addr} {H H' : Hp} {ps : List Addr} {bks : List Pd} (hd : Hdd H h dr) (kp : Kp h H H') (x : LPs H ps bks) : LPs H' ps bks := by
  induction x with
  | nil => exact .nil
  | cons e _ ih => exact .cons (e.kp hd kp) ih
theorem LPs.updL {H : Hp} {ps : List Addr} {D : Addr} {bks : List Pd} {xs : List V} {o : HO} (e : H D = some (.lst xs)) (x : LPs H ps bks) : LPs (upd H D o) ps bks := by
  induction x with
  | nil => exact .nil
  | cons e2 _ ih => exact .cons (e2.updL e) ih
theorem Rws.kp {h dr : Addr} {H H' : Hp} {rs : List Addr} {bss : List (List Int)} (hd : Hdd H h dr) (kp : Kp h H H') (x : Rws H rs bss) : Rws H' rs bss := by
  induction x with
  | nil => exact .nil
  | cons e _ ih => exact .cons (kp _ _ (hd.ns e (fun _ _ z => by cases z)) e) ih
/-- a row with no put at a place: its number is a smaller one -/
def chkDown : Bool := (List.range 4).all fun n => (List.range 8).all fun i => (List.range 3).all fun k => match (rowsOf n)[i]? with
  | none => true
  | some r => match r[k]? with
    | none => true
    | some b => !(decide (b = 1)) || (decide (0 ≤ num (r.take k ++ [0] ++ r.drop (k + 1))) && decide (num (r.take k ++ [0] ++ r.drop (k + 1)) < (i : Int)))
theorem down_ok : chkDown = true := by decide +kernel
theorem down_lt {n i k : Nat} {r : List Int} (n3 : n ≤ 3) (h : (rowsOf n)[i]? = some r) (hk : r[k]? = some 1) : 0 ≤ num (r.take k ++ [0] ++ r.drop (k + 1)) ∧ num (r.take k ++ [0] ++ r.drop (k + 1)) < (i : Int) := by
  have hi : i < 8 := Nat.lt_of_lt_of_le (List.getElem?_eq_some_iff.mp h).1 (rows8 n3)
  have lr : r.length = n := row_len n r (List.mem_of_getElem? h)
  have kk : k < 3 := by
    have := (List.getElem?_eq_some_iff.mp hk).1
    omega
  have z := List.all_eq_true.mp (List.all_eq_true.mp (List.all_eq_true.mp down_ok n (List.mem_range.mpr (by omega))) i (List.mem_range.mpr hi)) k (List.mem_range.mpr kk)
  simp only [h, hk] at z
  simpa using z
theorem row_int {r : List Int} {k : Nat} (h : k < r.length) : (r.map V.int)[k]? = some (.int r[k]) := by
  rw [List.getElem?_map, List.getElem?_eq_getElem h]
  rfl
section
variable {P : Program} {w : World} {K : PySem.W.Frag} {mg : Str → Option Value} {base : Heap}
/-- x[:k] + (b,) + x[k + 1:] -/
theorem put_at {σ : L2.St} {H : Hp} {i j : Nat} {r : Addr} {xs : List V} {k : Nat} {z : Int} {y : V} {Q : VK} (hσ : σ[i]? = some (some (.ref r))) (hj : σ[j]? = some (some (.int z))) (ez : z = (k : Nat)) (hr : H r = some (.tup xs)) (lb : xs.length ≤ 100) (hk : k < xs.length) (q : ∀ t H', Same H H' → H' t = some (.tup (xs.take k ++ [y] ++ xs.drop (k + 1))) → Q (.ref t) H') :
    tOp (rCatA K) (tOp (rCatA K) (tSl (rSlA K) (tVar i) tNoPart (tPart (tVar j))) (tTup (tCons (tC y) tNil))) (tSl (rSlA K) (tVar i) (tPart (tOp (rI0 fun i j => .int (i + j)) (tVar j) (tC (.int 1)))) tNoPart) σ H Q := by
  subst ez
  refine ⟨.ref r, hσ, noPart ⟨.int (k : Nat), hj, (k : Nat), rfl, sl_A (ys := xs.take k) hr (cut_hi xs k) fun t1 H1 s1 h1 => ?_⟩⟩
  refine ⟨by show 1 ≤ sizeLine; decide, fun t2 nt2 => ?_⟩
  have s2 := same_upd (o := .tup [y]) nt2
  refine cat_A (s2 _ _ h1) upd_same (by rw [List.length_take]; show _ + 1 ≤ 1000; omega) fun t3 H3 s3 h3 => ?_
  have s13 := s1.trans (s2.trans s3)
  refine ⟨.ref r, hσ, ⟨_, hj, _, _, rfl, rfl, _, rfl, noPart (sl_A (ys := xs.drop (k + 1)) (s13 _ _ hr) (cut_lo1 xs k) fun t4 H4 s4 h4 => ?_)⟩⟩
  refine cat_A (s4 _ _ h3) h4 (by rw [List.length_append, List.length_take, List.length_drop]; show _ + 1 + _ ≤ 1000; omega) fun t5 H5 s5 h5 => ?_
  exact q t5 H5 (s13.trans (s4.trans s5)) h5
def spLn : Sp := fun vs H Q _ => ∃ (h dr : Addr) (k : Nat) (kd : Int), vs = [.ref h, .int k, .int kd] ∧ 1 ≤ k ∧ k ≤ 3 ∧ Hdd H h dr ∧ ∀ p ms H', Kp h H H' → Hdd H' h dr → LPr H' p (k, ms) → Q (.ref p) H'
theorem bd_max {b : List Int} {m : Int} (c : Int) (hb : ∀ x ∈ b, 0 ≤ x ∧ x ≤ c) (c0 : 0 ≤ c) (hm : m ∈ (0 : Int) :: b) : 0 ≤ m ∧ m ≤ c := by
  rcases List.mem_cons.mp hm with e | e
  · omega
  · exact hb m e
theorem ok_Lean {f : Addr} {fd : FuncData} (F : Fun K "_law_leaning" "_law_leaning" sLean f fd) (B : Bt mg) {fTake : Addr} {fdTake : FuncData} (GTake : FnOk P w K mg base CX0 1 fTake fdTake ["hand", "many"] spTake) (kTake : PySem.W.keepIn K (.ref fTake) = true) (bTake : Binds K fdTake ["hand", "many"] []) (gTake : mg "_law_take" = some (.ref fTake)) {fEvery : Addr} {fdEvery : FuncData} (GEvery : FnOk P w K mg base CX0 1 fEvery fdEvery ["many"] spEv) (kEvery : PySem.W.keepIn K (.ref fEvery) = true) (bEvery : Binds K fdEvery ["many"] []) (gEvery : mg "_law_every" = some (.ref fEvery)) {fPlace : Addr} {fdPlace : FuncData} (GPlace : FnOk P w K mg base CX0 1 fPlace fdPlace ["row"] (spRN K)) (kPlace : PySem.W.keepIn K (.ref fPlace) = true) (bPlace : Binds K fdPlace ["row"] []) (gPlace : mg "_law_place" = some (.ref fPlace)) : FnOk P w K mg base CX0 2 f fd ["hand", "size", "kind"] spLn := by
  refine F.ok scLean (fun vs H Q E h => ?_) (fun cdv A outer s H vs Q E hr h => ?_)
  · obtain ⟨h, dr, k, kd, rfl, _⟩ := h
    rfl
  · obtain ⟨h, dr, k, kd, rfl, k1, k3, hd, q⟩ := h
    refine ⟨_, (pss_cons (ps_set (i := 3) scLean.nd rfl (.inr rfl) (pe_lst pa_nil))
      (pss_cons (ps_for PassesOwn.never rfl (pi_list (pe_call GEvery (hr.mono (by decide)) (by rfl) gEvery kEvery bEvery .nil pass0 (pa_cons (pv 1) pa_nil))) (pg_name (i := 4) scLean.nd rfl (.inr rfl))
      (pss_cons (ps_setLc (i := 5) (own := [("k", 6)]) (g := gName 6) rfl scLean.nd rfl rfl (sw_true rfl rfl rfl (by decide +kernel)) (pi_range1 rfl B.range (pa_cons (pv 1) pa_nil)) (blkOk_by (N := NLean) (sc := defScope sLean) (by decide +kernel)) (fun _ _ _ _ _ => pg_name (i := 6) scLean.nd rfl (Or.inl rfl)) (fun _ _ _ _ _ => pts_one (pt_cmpR op_eq (pe_ix (ixt_k K rfl) (pv 4) (pv 6) (fun _ _ => rfl)) pe_int (nomark _))) (fun _ _ _ _ _ => (pe_ix (ixl_k K rfl) (pv 3) (pe_call GPlace (hr.mono (by decide)) (by rfl) gPlace kPlace bPlace .nil pass0 (pa_cons (pe_op (op_catAk K rfl) (pe_op (op_catAk K rfl) (pe_slice (sl_tupk K rfl) (pv 4) po_none (po_some (pv 6))) (pe_tup (pa_cons pe_int pa_nil))) (pe_slice (sl_tupk K rfl) (pv 4) (po_some (pe_op op_add (pv 6) pe_int)) po_none)) pa_nil)) (fun _ _ => rfl))))
      (pss_one (ps_expr (pe_bm PySem.F.plainAttrs_list PySem.F.slot_list_append PySem.F.type_list_append mt_append (pv 3) (pa_cons (pe_op op_add (pe_callB (cr_max rfl) (by rfl) B.max (by decide +kernel) (pa_cons (pe_op op_cat (pe_lst (pa_cons pe_int pa_nil)) (pv 5)) pa_nil)) (pe_call GTake (hr.mono (by decide)) (by rfl) gTake kTake bTake .nil pass0 (pa_cons (pv 0) (pa_cons pe_int pa_nil)))) pa_nil))))))
      (pss_cons (ps_if (pt_cmpR op_eq (pv 2) pe_int (nomark _))
      (pss_one (ps_set (i := 3) scLean.nd rfl (.inr rfl) (pe_revL (pv 3)))) pss_nil)
      (pss_one (ps_ret (pe_tup (pa_cons (pv 1) (pa_cons (pe_callTy call_tuple_of (by rfl) B.tuple (by decide +kernel) (pa_cons (pv 3) pa_nil)) pa_nil)))))))), ?_⟩
    refine q_seq (q_set ⟨Nat.zero_le _, fun L nL => ?_⟩)
    have sL := same_upd (o := .lst []) nL
    dsimp only
    refine q_seq ?_
    refine ⟨_, rfl, k, rfl, k3, fun H1 M rs s1 nM hM rw1 => ?_⟩
    have l8 := rows8 k3
    have len1 := paired_len rw1
    have nLh : L ≠ h := hd.ne nL
    have nLd : L ≠ dr := hd.ned nL
    refine ⟨M, rfl, ⟨_, sl hM⟩, for_list (K := K) (a := M) (xs := rs.map V.ref) (fun i σ H' => Kp h H H' ∧ Hdd H' h dr ∧ H' M = some (.lst (rs.map V.ref)) ∧ Rws H' rs (rowsOf k) ∧ (∃ ms : List Int, H' L = some (.lst (ms.map V.int)) ∧ ms.length = i ∧ ∀ x ∈ ms, 0 ≤ x ∧ x ≤ 2 * (i : Int)) ∧ ∃ x1 x2 x3 : Option V, σ = [some (.ref h), some (.int k), some (.int kd), some (.ref L), x1, x2, x3])
      ⟨Kp.of (sL.trans s1), hd.same (sL.trans s1), hM, rw1, ⟨[], s1 _ _ upd_same, rfl, fun x m => by cases m⟩, ⟨_, _, _, rfl⟩⟩ (fun i σ H' _ hP => sl hP.2.2.1) (fun i x σ H' hx hP => ?_) (fun σ H' hP => ?_)⟩
    · obtain ⟨kp, hd1, hM1, rw2, ⟨ms, hL, lm, bm⟩, x1, x2, x3, rfl⟩ := hP
      obtain ⟨r, bs, rfl, hbs, hr⟩ := rws_at rw2 hx
      have lb := row_len k bs (List.mem_of_getElem? hbs)
      have bb := bits_rows k bs (List.mem_of_getElem? hbs)
      have li : i < 8 := Nat.lt_of_lt_of_le (List.getElem?_eq_some_iff.mp hbs).1 l8
      refine q_seq ?_
      refine ⟨_, rfl, (k : Int), rfl, by omega, by omega, fun D nD => ?_⟩
      refine lc_range (lo := 0) (n := k) (fun j H2 => Same H' H2 ∧ ∃ bl : List Int, H2 D = some (.lst (bl.map V.int)) ∧ bl.length ≤ j ∧ ∀ x ∈ bl, 0 ≤ x ∧ x ≤ 2 * (i : Int)) ⟨same_upd nD, [], upd_same, Nat.le_refl _, fun x m => by cases m⟩ (fun j H2 hj hQ => ?_) (fun H2 hQ => ?_)
      · obtain ⟨s2, bl, hD, lbl, bbl⟩ := hQ
        have hrj : (bs.map V.int)[j]? = some (.int bs[j]) := row_int (by omega)
        refine ⟨rfl, .ref r, rfl, _, rfl, r, _, _, _, rfl, rfl, tl (s2 _ _ hr), at_z (j := j) (by omega) hrj, rfl, _, rfl, ?_⟩
        rw [dInt]
        refine ite2 (fun c => ?_) (fun c => ?_)
        · have e1 : bs[j]? = some 1 := by
            rw [List.getElem?_eq_getElem (show j < bs.length by omega), of_decide_eq_true c]
          obtain ⟨d0, d1⟩ := down_lt k3 hbs e1
          refine ⟨.ref L, rfl, put_at (k := j) (y := .int 0) (show _ = some (some (V.ref r)) from rfl) (show _ = some (some (V.int (0 + (j : Int)))) from rfl) (by omega) (s2 _ _ hr) (by rw [List.length_map]; omega) (by rw [List.length_map]; omega) fun t H3 s3 h3 => ?_⟩
          have e3 : (bs.map V.int).take j ++ [V.int 0] ++ (bs.map V.int).drop (j + 1) = (bs.take j ++ [0] ++ bs.drop (j + 1)).map V.int := by simp
          rw [e3] at h3
          refine ⟨t, _, rfl, tl h3, ?_⟩
          have lt : (num (bs.take j ++ [0] ++ bs.drop (j + 1))).toNat < ms.length := by omega
          have g : (ms.map V.int)[(num (bs.take j ++ [0] ++ bs.drop (j + 1))).toNat]? = some (.int ms[(num (bs.take j ++ [0] ++ bs.drop (j + 1))).toNat]) := row_int lt
          refine ⟨L, _, _, _, rfl, rfl, sl (s3 _ _ (s2 _ _ hL)), at_z (j := (num (bs.take j ++ [0] ++ bs.drop (j + 1))).toNat) (by omega) g, _, s3 _ _ hD, by rw [List.length_map]; exact small1000 (by omega), fun b o z => ?_, bl ++ [ms[(num (bs.take j ++ [0] ++ bs.drop (j + 1))).toNat]], by rw [upd_same, List.map_append]; rfl, by rw [List.length_append]; show _ + 1 ≤ _; omega, fun x m => ?_⟩
          · rw [upd_ne (ne_of_none z nD)]
            exact s3 _ _ (s2 _ _ z)
          · rcases List.mem_append.mp m with m | m
            · exact bbl x m
            · rw [List.mem_singleton.mp m]
              exact bm _ (List.getElem_mem lt)
        · exact ⟨s2, bl, hD, by omega, bbl⟩
      · obtain ⟨s2, bl, hD, lbl, bbl⟩ := hQ
        dsimp only
        have hd2 := hd1.same s2
        refine ⟨.ref L, rfl, .inl ⟨rfl, _, .inl (.inl (s2 _ _ hL))⟩, by show 1 ≤ sizeLine; decide, fun L0 nL0 => ⟨.ref D, rfl, L0, D, [.int 0], _, rfl, rfl, upd_same, same_upd nL0 _ _ hD, by rw [List.length_map]; exact Nat.le_of_lt (small1000 (by show 1 + _ ≤ 1000; omega)), fun p np => ?_⟩⟩
        have s3 := (same_upd (o := .lst [V.int 0]) nL0).trans (same_upd (o := .lst ([V.int 0] ++ bl.map V.int)) np)
        refine ⟨p, 0 :: bl, rfl, sl upd_same, Nat.succ_pos _, fun m hm _ => ?_⟩
        have bmx := bd_max (2 * (i : Int)) bbl (by omega) hm
        have hd3 := hd2.same s3
        refine ⟨.ref h, rfl, h, dr, 3, rfl, hd3, by decide, fun r5 H5 r0 r3 k5 hd5 => ⟨_, _, rfl, rfl, ?_⟩⟩
        have hL5 : H5 L = some (.lst (ms.map V.int)) := (k5 L nLh).trans (s3 _ _ (s2 _ _ hL))
        have kp5 : Kp h H' H5 := (Kp.of (s2.trans s3)).trans (Kp.eq k5)
        have kp6 : Kp h H (upd H5 L (.lst (ms.map V.int ++ [V.int (m + r5)]))) := fun b o nb e => by
          rw [upd_ne (ne_of_none e nL)]
          exact (kp.trans kp5) b o nb e
        have hM5 := kp5 _ _ (hd1.ns hM1 (fun d t z => by
          injection z with z
          cases rs with
          | nil => cases z
          | cons a1 l1 => cases l1 with
            | nil => cases z
            | cons a2 l2 => injection z with z1 z2; injection z2 with z3 z4; cases z3)) hM1
        have neLM : M ≠ L := fun z => by
          rw [z] at nM
          have := sL L
          rw [upd_same] at nM
          cases nM
        refine ⟨L, _, _, rfl, rfl, hL5, by rw [List.length_map]; exact small1000 (by omega), kp6, hd5.upd nLh nLd, by rw [upd_ne neLM]; exact hM5, Rws.updL hL5 (rw2.kp hd1 kp5), ⟨ms ++ [m + r5], by rw [upd_same, List.map_append]; rfl, by rw [List.length_append, lm]; rfl, fun x mx => ?_⟩, ⟨_, _, _, rfl⟩⟩
        rcases List.mem_append.mp mx with mx | mx
        · have := bm x mx
          omega
        · rw [List.mem_singleton.mp mx]
          omega
    · obtain ⟨kp, hd1, hM1, rw2, ⟨ms, hL, lm, bm⟩, x1, x2, x3, rfl⟩ := hP
      dsimp only
      have lm2 : ms.length = 2 ^ k := by rw [lm, List.length_map, len1, rows_len]
      have p8 := pow8 k3
      have li : ((rs.map V.ref).length : Int) ≤ 8 := by rw [List.length_map]; omega
      have fin : ∀ (ns : List Int) (H2 : Hp) (l : Addr) , Same H' H2 → H2 l = some (.lst (ns.map V.int)) → ns.length = 2 ^ k → (∀ x ∈ ns, 0 ≤ x ∧ x ≤ 16) → tRet (tTup (tCons (tVar 1) (tCons (tCB (fun xs H Q => ∃ p ys, xs = [.ref p] ∧ ((SqL K H p ys ∧ ∀ l, H l = none → Q (.ref l) (upd H l (.tup ys))) ∨ (SqT K H p ys ∧ Q (.ref p) H))) (tCons (tVar 3) tNil)) tNil))) { nx := fun _ H' => Q .non H', rt := Q } [some (.ref h), some (.int k), some (.int kd), some (.ref l), x1, x2, x3] H2 := fun ns H2 l s2 hl lns bns => by
        refine q_ret ?_
        refine ⟨.int k, rfl, .ref l, rfl, l, _, rfl, .inl ⟨sl hl, fun t nt => ⟨by show 2 ≤ sizeLine; decide, fun pp npp => ?_⟩⟩⟩
        have s4 := s2.trans ((same_upd (o := .tup (ns.map V.int)) nt).trans (same_upd (o := .tup [.int k, .ref t]) npp))
        exact q pp ns _ (kp.trans (Kp.of s4)) (hd1.same s4) ⟨t, upd_same, same_upd npp _ _ upd_same, k1, k3, lns, fun x m => by have := bns x m; omega⟩
      have b16 : ∀ x ∈ ms, 0 ≤ x ∧ x ≤ 16 := fun x m => by have := bm x m; omega
      refine q_seq (q_if ?_)
      refine ⟨.int kd, rfl, rfl, _, rfl, ?_⟩
      refine ite2 (fun c => ?_) (fun c => ?_)
      · refine q_set ?_
        refine ⟨.ref L, rfl, L, _, rfl, sl hL, fun p np => ?_⟩
        dsimp only
        refine fin ms.reverse _ p (same_upd np) (by rw [upd_same, List.map_reverse]) (by rw [List.length_reverse]; exact lm2) fun x m => b16 x (List.mem_reverse.mp m)
      · refine q_next ?_
        dsimp only
        exact fin ms H' L (Same.refl H') hL lm2 b16
end
end CC

namespace CC
open PySem PySem.Spec PyProof.Rows L2 Ek
section
variable {P : Program} {w : World} {K : PySem.W.Frag} {mg : Str → Option Value} {base : Heap}
/-- [v, ..][_law_take(hand, n)] -/
theorem rd_pick {σ : L2.St} {H : Hp} {h dr : Addr} {i : Nat} {vals : List V} {ta : TA} {n : Int} {E : XK} {Q : VK} (ev : EvV ta σ vals) (hσ : σ[i]? = some (some (.ref h))) (hd : Hdd H h dr) (hn : n = (vals.length : Nat)) (hz : vals.length ≤ 100) (pos : 0 < vals.length)
    (q : ∀ (j : Nat) (v : V) (H' : Hp), vals[j]? = some v → Kp h H H' → Hdd H' h dr → Q v H') : tOp (rIxL K) (tLst ta) (tCall spTake [] E (tCons (tVar i) (tCons (tC (.int n)) tNil))) σ H Q := by
  refine ev H _ ⟨Nat.le_of_lt (small1000 (by omega)), fun L nL => ?_⟩
  have s1 := same_upd (o := .lst vals) nL
  refine ⟨.ref h, hσ, h, dr, n, rfl, hd.same s1, by omega, fun r H2 r0 r1 k2 hd2 => ?_⟩
  have hL2 : H2 L = some (.lst vals) := (k2 L (hd.ne nL)).trans upd_same
  have lt : r.toNat < vals.length := by omega
  exact ⟨L, _, r, _, rfl, rfl, sl hL2, at_z (j := r.toNat) (by omega) (List.getElem?_eq_getElem lt), q _ _ H2 (List.getElem?_eq_getElem lt) ((Kp.of s1).trans (Kp.eq k2)) hd2⟩
theorem ref_hand {h : Addr} {ps : List Addr} : ∀ d t, HO.lst (ps.map V.ref) ≠ .lst [.ref d, .int t] := fun d t z => by
  injection z with z
  cases ps with
  | nil => cases z
  | cons a1 l1 => cases l1 with
    | nil => cases z
    | cons a2 l2 => injection z with z1 z2; injection z2 with z3 z4; cases z3
def spKB : Sp := fun vs H Q _ => ∃ (h dr : Addr), vs = [.ref h] ∧ Hdd H h dr ∧ ∀ L ps bks H', Kp h H H' → Hdd H' h dr → H L = none → H' L = some (.lst (ps.map V.ref)) → LPs H' ps bks → 1 ≤ bks.length → bks.length ≤ 3 → Q (.ref L) H'
theorem ok_KB {f : Addr} {fd : FuncData} (F : Fun K "_law_kind_book" "_law_kind_book" sKB f fd) (B : Bt mg) {fTake : Addr} {fdTake : FuncData} (GTake : FnOk P w K mg base CX0 1 fTake fdTake ["hand", "many"] spTake) (kTake : PySem.W.keepIn K (.ref fTake) = true) (bTake : Binds K fdTake ["hand", "many"] []) (gTake : mg "_law_take" = some (.ref fTake)) {fLPrice : Addr} {fdLPrice : FuncData} (GLPrice : FnOk P w K mg base CX0 3 fLPrice fdLPrice ["hand", "size"] spLP) (kLPrice : PySem.W.keepIn K (.ref fLPrice) = true) (bLPrice : Binds K fdLPrice ["hand", "size"] []) (gLPrice : mg "_law_price" = some (.ref fLPrice)) {fLean : Addr} {fdLean : FuncData} (GLean : FnOk P w K mg base CX0 2 fLean fdLean ["hand", "size", "kind"] spLn) (kLean : PySem.W.keepIn K (.ref fLean) = true) (bLean : Binds K fdLean ["hand", "size", "kind"] []) (gLean : mg "_law_leaning" = some (.ref fLean)) : FnOk P w K mg base CX0 4 f fd ["hand"] spKB := by
  refine F.ok scKB (fun vs H Q E h => ?_) (fun cdv A outer s H vs Q E hr h => ?_)
  · obtain ⟨h, dr, rfl, _⟩ := h
    rfl
  · obtain ⟨h, dr, rfl, hd, q⟩ := h
    refine ⟨_, (pss_cons (ps_set (i := 1) scKB.nd rfl (.inl rfl) (pe_lst pa_nil))
      (pss_cons (ps_set (i := 2) scKB.nd rfl (.inl rfl) (pe_call GTake (hr.mono (by decide)) (by rfl) gTake kTake bTake .nil pass0 (pa_cons (pv 0) (pa_cons pe_int pa_nil))))
      (pss_cons (ps_for PassesOwn.never rfl (pi_range1 rfl B.range (pa_cons (pe_ix ix_list (pe_lst (pa_cons pe_int (pa_cons pe_int (pa_cons pe_int (pa_cons pe_int (pa_cons pe_int pa_nil)))))) (pe_call GTake (hr.mono (by decide)) (by rfl) gTake kTake bTake .nil pass0 (pa_cons (pv 0) (pa_cons pe_int pa_nil))) (fun _ _ => rfl)) pa_nil)) (pg_name (i := 3) scKB.nd rfl (.inl rfl))
      (pss_cons (ps_set (i := 4) scKB.nd rfl (.inl rfl) (pe_ix ix_list (pe_lst (pa_cons pe_int (pa_cons pe_int (pa_cons pe_int (pa_cons pe_int pa_nil))))) (pe_call GTake (hr.mono (by decide)) (by rfl) gTake kTake bTake .nil pass0 (pa_cons (pv 0) (pa_cons pe_int pa_nil))) (fun _ _ => rfl)))
      (pss_cons (ps_set (i := 5) scKB.nd rfl (.inl rfl) (pe_call GLPrice (hr.mono (by decide)) (by rfl) gLPrice kLPrice bLPrice .nil pass0 (pa_cons (pv 0) (pa_cons (pv 4) pa_nil))))
      (pss_cons (ps_if (PW.pt (pw_and (pt_cmpR op_lt (pv 2) pe_int (nomark _)) (pw_and1 (pt_cmpR op_gt (pe_call GTake (hr.mono (by decide)) (by rfl) gTake kTake bTake .nil pass0 (pa_cons (pv 0) (pa_cons pe_int pa_nil))) pe_int (nomark _)))))
      (pss_one (ps_set (i := 5) scKB.nd rfl (.inl rfl) (pe_call GLean (hr.mono (by decide)) (by rfl) gLean kLean bLean .nil pass0 (pa_cons (pv 0) (pa_cons (pv 4) (pa_cons (pv 2) pa_nil)))))) pss_nil)
      (pss_one (ps_expr (pe_bm PySem.F.plainAttrs_list PySem.F.slot_list_append PySem.F.type_list_append mt_append (pv 1) (pa_cons (pv 5) pa_nil))))))))
      (pss_one (ps_ret (pv 1)))))), ?_⟩
    refine q_seq (q_set ⟨Nat.zero_le _, fun L nL => ?_⟩)
    have sL := same_upd (o := .lst []) nL
    have nLh : L ≠ h := hd.ne nL
    have nLd : L ≠ dr := hd.ned nL
    dsimp only
    refine q_seq (q_set ?_)
    refine ⟨.ref h, rfl, h, dr, 4, rfl, hd.same sL, by decide, fun kd H1 a1 b1 e1 hd1 => ?_⟩
    have kp1 := (Kp.of sL).trans (Kp.eq e1)
    have hL1 : H1 L = some (.lst []) := (e1 L nLh).trans upd_same
    dsimp only
    refine q_seq ?_
    refine rd_pick (h := h) (dr := dr) (vals := [.int 1, .int 1, .int 2, .int 2, .int 3]) (evv_c (evv_c (evv_c (evv_c (evv_c evv_nil))))) rfl hd1 rfl (by show 5 ≤ 100; decide) (by show 0 < 5; decide) fun j v H2 hv k2 hd2 => ?_
    obtain ⟨n, rfl, n1, n3⟩ : ∃ n : Nat, v = .int (n : Nat) ∧ 1 ≤ n ∧ n ≤ 3 := by
      match j, hv with
      | 0, hv => exact ⟨1, (Option.some.inj hv).symm, by decide, by decide⟩
      | 1, hv => exact ⟨1, (Option.some.inj hv).symm, by decide, by decide⟩
      | 2, hv => exact ⟨2, (Option.some.inj hv).symm, by decide, by decide⟩
      | 3, hv => exact ⟨2, (Option.some.inj hv).symm, by decide, by decide⟩
      | 4, hv => exact ⟨3, (Option.some.inj hv).symm, by decide, by decide⟩
      | j + 5, hv => simp at hv
    refine ⟨(n : Int), rfl, by omega, by omega, for_range (lo := 0) (n := n) (fun i σ H' => Kp h H H' ∧ Hdd H' h dr ∧ (∃ (ps : List Addr) (bks : List Pd), H' L = some (.lst (ps.map V.ref)) ∧ LPs H' ps bks ∧ bks.length = i) ∧ ∃ x1 x2 x3 : Option V, σ = [some (.ref h), some (.ref L), some (.int kd), x1, x2, x3])
      ⟨kp1.trans k2, hd2, ⟨[], [], k2 L _ nLh hL1, .nil, rfl⟩, none, none, none, rfl⟩ (fun i σ H3 hi hP => ?_) (fun σ H3 hP => ?_)⟩
    · obtain ⟨kp3, hd3, ⟨ps, bks, hL, lps, lb⟩, x1, x2, x3, rfl⟩ := hP
      refine q_seq (q_set ?_)
      refine rd_pick (h := h) (dr := dr) (vals := [.int 1, .int 2, .int 2, .int 3]) (evv_c (evv_c (evv_c (evv_c evv_nil)))) rfl hd3 rfl (by show 4 ≤ 100; decide) (by show 0 < 4; decide) fun j v H4 hv k4 hd4 => ?_
      obtain ⟨k, rfl, k1, k3⟩ : ∃ n : Nat, v = .int (n : Nat) ∧ 1 ≤ n ∧ n ≤ 3 := by
        match j, hv with
        | 0, hv => exact ⟨1, (Option.some.inj hv).symm, by decide, by decide⟩
        | 1, hv => exact ⟨2, (Option.some.inj hv).symm, by decide, by decide⟩
        | 2, hv => exact ⟨2, (Option.some.inj hv).symm, by decide, by decide⟩
        | 3, hv => exact ⟨3, (Option.some.inj hv).symm, by decide, by decide⟩
        | j + 4, hv => simp at hv
      dsimp only
      refine q_seq (q_set ?_)
      refine ⟨.ref h, rfl, .int k, rfl, h, dr, k, rfl, k1, k3, hd4, fun p t ms H5 k5 hd5 hp ht lm bd => ?_⟩
      dsimp only
      refine q_seqJ (fun σ H' => Kp h H5 H' ∧ Hdd H' h dr ∧ ∃ (p : Addr) (z : Pd), LPr H' p z ∧ σ = [some (.ref h), some (.ref L), some (.int kd), some (.int (0 + (i : Int))), some (.int k), some (.ref p)]) (fun σ' H6 hJ => ?_) fun J => ?_
      · obtain ⟨k6, hd6, p2, z, lp, rfl⟩ := hJ
        have k36 : Kp h H3 H6 := k4.trans (k5.trans k6)
        have hL6 := k36 L _ nLh hL
        refine ⟨.ref L, rfl, .inl ⟨rfl, _, .inl (.inl hL6)⟩, .ref p2, rfl, L, _, _, rfl, rfl, hL6, by rw [List.length_map]; have := paired_len lps; exact small1000 (by omega), ?_⟩
        refine ⟨fun b o nb e => ?_, hd6.upd nLh nLd, ⟨ps ++ [p2], bks ++ [z], by rw [upd_same, List.map_append]; rfl, LPs.updL hL6 (paired_app (lps.kp hd3 k36) (.cons lp .nil)), by rw [List.length_append, lb]; rfl⟩, _, _, _, rfl⟩
        rw [upd_ne (ne_of_none e nL)]
        exact (kp3.trans k36) b o nb e
      · have lp0 : LPr H5 p (k, ms) := ⟨t, hp, ht, k1, k3, lm, bd⟩
        refine q_if ?_
        refine ⟨.int kd, rfl, _, _, rfl, rfl, _, rfl, ?_⟩
        refine ite2 (fun c => ?_) (fun c => ?_)
        · refine ⟨.ref h, rfl, h, dr, 3, rfl, hd5, by decide, fun r H6 r0 r1 k6 hd6 => ⟨_, _, rfl, rfl, _, rfl, ?_⟩⟩
          refine ite2 (fun c2 => ?_) (fun c2 => ?_)
          · refine q_set ?_
            refine ⟨.ref h, rfl, .int k, rfl, .int kd, rfl, h, dr, k, kd, rfl, k1, k3, hd6, fun p3 ms3 H7 k7 hd7 lp => ?_⟩
            exact J _ _ ⟨(Kp.eq k6).trans k7, hd7, p3, _, lp, rfl⟩
          · refine q_next ?_
            exact J _ _ ⟨Kp.eq k6, hd6, p, _, lp0.kp hd5 (Kp.eq k6), rfl⟩
        · dsimp only
          rw [if_neg (by decide)]
          refine q_next ?_
          exact J _ _ ⟨Kp.refl, hd5, p, _, lp0, rfl⟩
    · obtain ⟨kp3, hd3, ⟨ps, bks, hL, lps, lb⟩, x1, x2, x3, rfl⟩ := hP
      dsimp only
      refine q_ret ?_
      exact ⟨.ref L, rfl, q L ps bks H3 kp3 hd3 nL hL lps (by omega) (by omega)⟩
def spLB (C CB : Addr) : Sp := fun vs H Q _ => ∃ (L : Addr) (ps : List Addr) (bks : List Pd), vs = [.ref L] ∧ H L = some (.lst (ps.map V.ref)) ∧ LPs H ps bks ∧ 1 ≤ bks.length ∧ bks.length ≤ 6 ∧ ∀ H' b, Same H H' → BkAt C CB H' b bks → Q (.ref b) H'
theorem PrsAt.updL {C D : Addr} {H : Hp} {ps : List Addr} {bks : List Pd} {xs : List V} {o : HO} (e : H D = some (.lst xs)) (x : PrsAt C H ps bks) : PrsAt C (upd H D o) ps bks := by
  induction x with
  | nil => exact .nil
  | cons h _ ih => exact .cons (PrAt.updL e h) ih
theorem ok_LB {f fPI fBI C CB : Addr} {fd fdPI fdBI : FuncData} (F : Fun K "_law_book" "_law_book" sLB f fd) (T : Pc K mg C) (TB : Bc K mg CB) (nB : C ≠ CB) (M : Mk K C fPI) (GPI : FnOk P w K mg base CX0 3 fPI fdPI ["self", "size", "amounts"] (spPI0 C)) (bPI : Binds K fdPI ["self", "size", "amounts"] [])
    (MB : Mk K CB fBI) (GBI : FnOk P w K mg base CX0 3 fBI fdBI ["self", "prices"] (spBI C CB)) (bBI : Binds K fdBI ["self", "prices"] []) : FnOk P w K mg base CX0 5 f fd ["book"] (spLB C CB) := by
  refine F.ok scLB (fun vs H Q E h => ?_) (fun cdv A outer s H vs Q E hr h => ?_)
  · obtain ⟨L, ps, bks, rfl, _⟩ := h
    rfl
  · obtain ⟨L, ps, bks, rfl, hL, lps, b1, b6, q⟩ := h
    have ln := paired_len lps
    refine ⟨_, (pss_one (ps_ret (pe_make MB GBI (hr.mono (by decide)) (by rfl) TB.g bBI .nil pass0 (pa_cons (pe_lc (own := [("size", 1), ("amounts", 2)]) (tt := tYes) rfl scLB.nd (pi_list (pv 0)) (blkOk_by (N := NLB) (sc := defScope sLB) (by decide +kernel)) (fun _ _ _ _ _ => (pg_tupk (n := 2) K rfl rfl (pgs_cons (pg_name (i := 1) scLB.nd rfl (Or.inl rfl)) (pgs_cons (pg_name (i := 2) scLB.nd rfl (Or.inl rfl)) pgs_nil)))) (fun _ _ _ _ _ => pts_nil) (fun _ _ _ _ _ => (pe_make M GPI (hr.mono (by decide)) (by rfl) T.g bPI .nil pass0 (pa_cons (pv 1) (pa_cons (pv 2) pa_nil))))) pa_nil)))), ?_⟩
    refine q_ret ?_
    refine ⟨.ref L, rfl, L, rfl, ⟨_, sl hL⟩, fun D nD => lc_list (K := K) (a := L) (xs := ps.map V.ref) (fun i H' => Same H H' ∧ ∃ qs : List Addr, H' D = some (.lst (qs.map V.ref)) ∧ PrsAt C H' qs (bks.take i)) ⟨same_upd nD, [], upd_same, .nil⟩ (fun i H' _ hP => sl (hP.1 _ _ hL)) (fun i x H' hx hP => ?_) (fun H' hP => ?_)⟩
    · obtain ⟨s', qs, hD, pa⟩ := hP
      obtain ⟨p, rfl, hp⟩ : ∃ p, x = V.ref p ∧ ps[i]? = some p := by
        rw [List.getElem?_map] at hx
        cases ee : ps[i]? with
        | none => rw [ee] at hx; cases hx
        | some p => rw [ee] at hx; exact ⟨p, (Option.some.inj hx).symm, rfl⟩
      have li : i < bks.length := by
        have := (List.getElem?_eq_some_iff.mp hp).1
        omega
      obtain ⟨y, hy, hz⟩ := paired_get lps (List.getElem?_eq_getElem li)
      rw [hp] at hy
      cases hy
      have hbi : bks[i]? = some bks[i] := List.getElem?_eq_getElem li
      generalize bks[i] = z at hz hbi
      obtain ⟨k, ms⟩ := z
      obtain ⟨t, h1, h2, k1, k3, lm, bd⟩ := hz.same s'
      have lq := paired_len pa
      rw [List.length_take] at lq
      refine ⟨p, _, rfl, tl h1, rfl, _, _, rfl, _, _, rfl, rfl, ?_⟩
      refine ⟨rfl, .int k, rfl, .ref t, rfl, fun x dx nx ndx _ => ?_⟩
      refine pr_made nx ndx (small_am k3 lm (.inr h2)) k1 k3 lm ⟨t, rfl, .inr h2⟩ fun H2 s2 pr => ?_
      have hD2 := s2 _ _ hD
      refine ⟨_, hD2, by rw [List.length_map]; exact small1000 (by omega), fun b o e => ?_, qs ++ [x], by rw [upd_same, List.map_append]; rfl, ?_⟩
      · rw [upd_ne (ne_of_none e nD)]
        exact s2 _ _ (s' _ _ e)
      · have e2 : bks.take (i + 1) = bks.take i ++ [(k, ms)] := by
          rw [List.take_add_one, hbi]
          rfl
        rw [e2]
        exact PrsAt.updL hD2 (paired_app (pa.same s2) (.cons pr .nil))
    · obtain ⟨s', qs, hD, pa⟩ := hP
      rw [List.length_map, ln, List.take_length] at pa
      intro b dx nb ndx _
      have s2 := made_am (C := CB) nb ndx
      refine ⟨b, dx, D, qs, bks, rfl, upd_same, s2 _ _ hD, pa.same s2, b1, b6, fun H3 kk bk => ⟨rfl, q H3 b (s'.trans (made_same nb ndx kk)) bk⟩⟩
end
end CC

namespace CC
open PySem PySem.Spec PyProof.Rows L2 Ek
section
variable {P : Program} {w : World} {K : PySem.W.Frag} {mg : Str → Option Value} {base : Heap}
def spRNL (K : PySem.W.Frag) : Sp := fun vs H Q _ => ∃ (a : Addr) (bs : List Int), vs = [.ref a] ∧ SqL K H a (bs.map V.int) ∧ Q (.int (num bs)) H
theorem ok_placeL {f : Addr} {fd : FuncData} (F : Fun K "_law_place" "_law_place" sPlace f fd) : FnOk P w K mg base CX0 1 f fd ["row"] (spRNL K) := by
  refine F.ok scPlace (fun vs H Q E h => ?_) (fun cdv A outer s H vs Q E hr h => ?_)
  · obtain ⟨a, bs, rfl, _⟩ := h
    rfl
  · obtain ⟨a, bs, rfl, hS, q⟩ := h
    refine ⟨_, (pss_cons (ps_set (i := 1) scPlace.nd rfl (.inl rfl) pe_int)
      (pss_cons (ps_for PassesOwn.never rfl (pi_list (pv 0)) (pg_name (i := 2) scPlace.nd rfl (.inl rfl))
      (pss_one (ps_set (i := 1) scPlace.nd rfl (.inl rfl) (pe_op op_add (pe_op op_mul pe_int (pv 1)) (pv 2)))))
      (pss_one (ps_ret (pv 1))))), ?_⟩
    refine q_seq (q_setc ?_)
    dsimp only
    refine q_seq ?_
    refine ⟨.ref a, rfl, a, rfl, ⟨_, hS⟩, for_list (K := K) (a := a) (xs := bs.map V.int) (fun i σ H' => ∃ v : Option V, σ = [some (.ref a), some (.int (num (bs.take i))), v] ∧ H' = H) ⟨none, rfl, rfl⟩ (fun i σ H' _ hP => by obtain ⟨v, _, rfl⟩ := hP; exact hS) (fun i x σ H' hx hP => ?_) (fun σ H' hP => ?_)⟩
    · obtain ⟨v, rfl, rfl⟩ := hP
      rw [List.getElem?_map] at hx
      cases e : bs[i]? with
      | none => rw [e] at hx; cases hx
      | some b =>
        rw [e] at hx
        obtain rfl : x = .int b := (Option.some.inj hx).symm
        refine ⟨_, rfl, _, _, rfl, rfl, .inl ⟨by decide, by decide⟩, _, rfl, _, _, rfl, rfl, some (.int b), ?_, rfl⟩
        rw [num_take e]
        rfl
    · obtain ⟨v, rfl, rfl⟩ := hP
      dsimp only
      refine q_ret ⟨_, rfl, ?_⟩
      rw [List.length_map, List.take_length]
      exact q
def spCostL : Sp := fun vs H Q _ => ∃ (q t r : Addr) (k : Nat) (ms bs : List Int), vs = [.ref q, .ref r] ∧ H q = some (.tup [.int k, .ref t]) ∧ H t = some (.tup (ms.map V.int)) ∧ ms.length = 2 ^ k ∧ k ≤ 3 ∧ H r = some (.lst (bs.map V.int)) ∧ Bits bs ∧ bs.length = k ∧ Q (.int (costL ms bs)) H
theorem ok_costL {f fPlace : Addr} {fd fdPlace : FuncData} (F : Fun K "_law_cost" "_law_cost" sCost f fd) (GPlace : FnOk P w K mg base CX0 1 fPlace fdPlace ["row"] (spRNL K)) (kPlace : PySem.W.keepIn K (.ref fPlace) = true) (bPlace : Binds K fdPlace ["row"] []) (gPlace : mg "_law_place" = some (.ref fPlace)) : FnOk P w K mg base CX0 2 f fd ["price", "row"] spCostL := by
  refine F.ok scCost (fun vs H Q E h => ?_) (fun cdv A outer s H vs Q E hr h => ?_)
  · obtain ⟨q, t, r, k, ms, bs, rfl, _⟩ := h
    rfl
  · obtain ⟨q, t, r, k, ms, bs, rfl, hq, ht, hl, k3, hr2, hb, lb, qq⟩ := h
    obtain ⟨e1, e2⟩ := cost_at hb lb k3 hl
    refine ⟨_, (pss_one (ps_ret (pe_ix ix_tup (pe_ix ix_tup (pv 0) pe_int (fun _ _ => rfl)) (pe_call GPlace (hr.mono (by decide)) (by rfl) gPlace kPlace bPlace .nil pass0 (pa_cons (pv 1) pa_nil)) (fun _ _ => rfl)))), ?_⟩
    refine q_ret ?_
    exact ⟨.ref q, rfl, q, _, _, .ref t, rfl, rfl, tl hq, at_z (j := 1) rfl rfl, .ref r, rfl, r, bs, rfl, sl hr2, t, _, _, _, rfl, rfl, tl ht, at_z e1 e2, qq⟩

def brk (w : Str) (z : Pd) (a b : List Int) : Bool := if w = "rising" then decide (costL z.2 b < costL z.2 a) else if w = "falling" then decide (costL z.2 a < costL z.2 b) else decide (costL z.2 a + costL z.2 b < costL z.2 (lowR a b) + costL z.2 (highR a b))
def spBR : Sp := fun vs H Q _ => ∃ (p r r2 : Addr) (w : Str) (z : Pd) (a b : List Int), vs = [.ref p, .str w, .ref r, .ref r2] ∧ LPr H p z ∧ H r = some (.tup (a.map V.int)) ∧ Bits a ∧ a.length = z.1 ∧ H r2 = some (.tup (b.map V.int)) ∧ Bits b ∧ b.length = z.1 ∧ ∀ H', Same H H' → Q (.bl (brk w z a b)) H'
theorem ok_BR {f : Addr} {fd : FuncData} (F : Fun K "_law_breaks" "_law_breaks" sBR f fd) (B : Bt mg) {fCost : Addr} {fdCost : FuncData} (GCost : FnOk P w K mg base CX0 2 fCost fdCost ["price", "row"] spCost) (kCost : PySem.W.keepIn K (.ref fCost) = true) (bCost : Binds K fdCost ["price", "row"] []) (gCost : mg "_law_cost" = some (.ref fCost)) (GCostL : FnOk P w K mg base CX0 2 fCost fdCost ["price", "row"] spCostL) : FnOk P w K mg base CX0 3 f fd ["price", "word", "one", "other"] spBR := by
  refine F.ok scBR (fun vs H Q E h => ?_) (fun cdv A outer s H vs Q E hr h => ?_)
  · obtain ⟨p, r, r2, w, z, a, b, rfl, _⟩ := h
    rfl
  · obtain ⟨p, r, r2, w, ⟨k, ms⟩, a, b, rfl, lp, ha, ba, la, hb, bb, lb, q⟩ := h
    obtain ⟨t, hp, ht, k1, k3, lm, bd⟩ := id lp
    simp only at hp ht k1 k3 lm la lb
    refine ⟨_, (pss_cons (ps_if (pt_cmpR op_eq (pv 1) pe_str (nomark _))
      (pss_one (ps_ret (pe_cmpR op_lt (pe_call GCost (hr.mono (by decide)) (by rfl) gCost kCost bCost .nil pass0 (pa_cons (pv 0) (pa_cons (pv 3) pa_nil))) (pe_call GCost (hr.mono (by decide)) (by rfl) gCost kCost bCost .nil pass0 (pa_cons (pv 0) (pa_cons (pv 2) pa_nil))) (nomark _)))) pss_nil)
      (pss_cons (ps_if (pt_cmpR op_eq (pv 1) pe_str (nomark _))
      (pss_one (ps_ret (pe_cmpR op_gt (pe_call GCost (hr.mono (by decide)) (by rfl) gCost kCost bCost .nil pass0 (pa_cons (pv 0) (pa_cons (pv 3) pa_nil))) (pe_call GCost (hr.mono (by decide)) (by rfl) gCost kCost bCost .nil pass0 (pa_cons (pv 0) (pa_cons (pv 2) pa_nil))) (nomark _)))) pss_nil)
      (pss_cons (ps_setLc (i := 4) (own := [("k", 7)]) (g := gName 7) (tt := tYes) rfl scBR.nd rfl rfl (sw_true rfl rfl rfl (by decide +kernel)) (pi_range1 rfl B.range (pa_cons (pe_ix ix_tup (pv 0) pe_int (fun _ _ => rfl)) pa_nil)) (blkOk_by (N := NBR) (sc := defScope sBR) (by decide +kernel)) (fun _ _ _ _ _ => pg_name (i := 7) scBR.nd rfl (Or.inl rfl)) (fun _ _ _ _ _ => pts_nil) (fun _ _ _ _ _ => (pe_callB (call_min2 rfl) (by rfl) B.min (by decide +kernel) (pa_cons (pe_ix (ixt_k K rfl) (pv 2) (pv 7) (fun _ _ => rfl)) (pa_cons (pe_ix (ixt_k K rfl) (pv 3) (pv 7) (fun _ _ => rfl)) pa_nil)))))
      (pss_cons (ps_setLc (i := 5) (own := [("k", 7)]) (g := gName 7) (tt := tYes) rfl scBR.nd rfl rfl (sw_true rfl rfl rfl (by decide +kernel)) (pi_range1 rfl B.range (pa_cons (pe_ix ix_tup (pv 0) pe_int (fun _ _ => rfl)) pa_nil)) (blkOk_by (N := NBR) (sc := defScope sBR) (by decide +kernel)) (fun _ _ _ _ _ => pg_name (i := 7) scBR.nd rfl (Or.inl rfl)) (fun _ _ _ _ _ => pts_nil) (fun _ _ _ _ _ => (pe_callB (call_max2 rfl) (by rfl) B.max (by decide +kernel) (pa_cons (pe_ix (ixt_k K rfl) (pv 2) (pv 7) (fun _ _ => rfl)) (pa_cons (pe_ix (ixt_k K rfl) (pv 3) (pv 7) (fun _ _ => rfl)) pa_nil)))))
      (pss_cons (ps_set (i := 6) scBR.nd rfl (.inl rfl) (pe_op op_add (pe_call GCostL (hr.mono (by decide)) (by rfl) gCost kCost bCost .nil pass0 (pa_cons (pv 0) (pa_cons (pv 4) pa_nil))) (pe_call GCostL (hr.mono (by decide)) (by rfl) gCost kCost bCost .nil pass0 (pa_cons (pv 0) (pa_cons (pv 5) pa_nil)))))
      (pss_one (ps_ret (pe_cmpR op_lt (pe_op op_add (pe_call GCost (hr.mono (by decide)) (by rfl) gCost kCost bCost .nil pass0 (pa_cons (pv 0) (pa_cons (pv 2) pa_nil))) (pe_call GCost (hr.mono (by decide)) (by rfl) gCost kCost bCost .nil pass0 (pa_cons (pv 0) (pa_cons (pv 3) pa_nil)))) (pv 6) (nomark _))))))))), ?_⟩
    have c1 : ∀ H', Same H H' → H' p = some (.tup [.int k, .ref t]) ∧ H' t = some (.tup (ms.map V.int)) ∧ H' r = some (.tup (a.map V.int)) ∧ H' r2 = some (.tup (b.map V.int)) := fun H' s' => ⟨s' _ _ hp, s' _ _ ht, s' _ _ ha, s' _ _ hb⟩
    refine q_seq (q_if ?_)
    refine ⟨.str w, rfl, rfl, _, rfl, ?_⟩
    rw [dStr]
    refine ite2 (fun c => ?_) (fun c => ?_)
    · refine q_ret ?_
      refine ⟨.ref p, rfl, .ref r2, rfl, p, t, r2, k, ms, b, rfl, hp, ht, lm, k3, hb, bb, lb, .ref p, rfl, .ref r, rfl, p, t, r, k, ms, a, rfl, hp, ht, lm, k3, ha, ba, la, _, _, rfl, rfl, ?_⟩
      have z := q H (Same.refl H)
      unfold brk at z
      rw [if_pos (of_decide_eq_true c)] at z
      exact z
    · have n1 : ¬ w = "rising" := by simpa using c
      refine q_next ?_
      dsimp only
      refine q_seq (q_if ?_)
      refine ⟨.str w, rfl, rfl, _, rfl, ?_⟩
      rw [dStr]
      refine ite2 (fun c => ?_) (fun c => ?_)
      · refine q_ret ?_
        refine ⟨.ref p, rfl, .ref r2, rfl, p, t, r2, k, ms, b, rfl, hp, ht, lm, k3, hb, bb, lb, .ref p, rfl, .ref r, rfl, p, t, r, k, ms, a, rfl, hp, ht, lm, k3, ha, ba, la, _, _, rfl, rfl, ?_⟩
        have z := q H (Same.refl H)
        unfold brk at z
        rw [if_neg n1, if_pos (of_decide_eq_true c)] at z
        exact z
      · have n2 : ¬ w = "falling" := by simpa using c
        refine q_next ?_
        dsimp only
        refine q_seq ?_
        refine ⟨.ref p, rfl, p, _, 0, .int k, rfl, rfl, tl hp, at_z (j := 0) rfl rfl, (k : Int), rfl, by omega, by omega, fun D nD => lc_range (lo := 0) (n := k) (fun i H' => Same H H' ∧ H' D = some (.lst (((lowR a b).take i).map V.int))) ⟨same_upd nD, upd_same⟩ (fun i H' hi hP => ?_) (fun H1 hP => ?_)⟩
        · obtain ⟨s', hD⟩ := hP
          have xa : a[i]? = some a[i] := List.getElem?_eq_getElem (by omega)
          have xb : b[i]? = some b[i] := List.getElem?_eq_getElem (by omega)
          refine ⟨rfl, .ref r, rfl, _, rfl, r, _, _, _, rfl, rfl, tl (s' _ _ ha), at_z (j := i) (by omega) (row_int (show i < a.length by omega)), .ref r2, rfl, _, rfl, r2, _, _, _, rfl, rfl, tl (s' _ _ hb), at_z (j := i) (by omega) (row_int (show i < b.length by omega)), _, _, rfl, _, hD, ?_, fun c o e => ?_, ?_⟩
          · rw [List.length_map, List.length_take]
            exact small1000 (by omega)
          · rw [upd_ne (ne_of_none e nD)]
            exact s' _ _ e
          · unfold lowR
            rw [upd_same, zip_take xa xb, List.map_append]
            rfl
        · obtain ⟨s1, hD⟩ := hP
          have e1 : (lowR a b).take k = lowR a b := List.take_of_length_le (by unfold lowR; rw [List.length_zipWith]; omega)
          rw [e1] at hD
          obtain ⟨hp1, ht1, ha1, hb1⟩ := c1 H1 s1
          dsimp only
          refine q_seq ?_
          refine ⟨.ref p, rfl, p, _, 0, .int k, rfl, rfl, tl hp1, at_z (j := 0) rfl rfl, (k : Int), rfl, by omega, by omega, fun D2 nD2 => lc_range (lo := 0) (n := k) (fun i H' => Same H1 H' ∧ H' D2 = some (.lst (((highR a b).take i).map V.int))) ⟨same_upd nD2, upd_same⟩ (fun i H' hi hP => ?_) (fun H2 hP => ?_)⟩
          · obtain ⟨s', hD2⟩ := hP
            have xa : a[i]? = some a[i] := List.getElem?_eq_getElem (by omega)
            have xb : b[i]? = some b[i] := List.getElem?_eq_getElem (by omega)
            refine ⟨rfl, .ref r, rfl, _, rfl, r, _, _, _, rfl, rfl, tl (s' _ _ ha1), at_z (j := i) (by omega) (row_int (show i < a.length by omega)), .ref r2, rfl, _, rfl, r2, _, _, _, rfl, rfl, tl (s' _ _ hb1), at_z (j := i) (by omega) (row_int (show i < b.length by omega)), _, _, rfl, _, hD2, ?_, fun c o e => ?_, ?_⟩
            · rw [List.length_map, List.length_take]
              exact small1000 (by omega)
            · rw [upd_ne (ne_of_none e nD2)]
              exact s' _ _ e
            · unfold highR
              rw [upd_same, zip_take xa xb, List.map_append]
              rfl
          · obtain ⟨s2, hD2⟩ := hP
            have e2 : (highR a b).take k = highR a b := List.take_of_length_le (by unfold highR; rw [List.length_zipWith]; omega)
            rw [e2] at hD2
            have s12 := s1.trans s2
            obtain ⟨hp2, ht2, ha2, hb2⟩ := c1 H2 s12
            have ll : (lowR a b).length = k := by unfold lowR; rw [List.length_zipWith]; omega
            have lh : (highR a b).length = k := by unfold highR; rw [List.length_zipWith]; omega
            dsimp only
            refine q_seq (q_set ?_)
            refine ⟨.ref p, rfl, .ref D, rfl, p, t, D, k, ms, lowR a b, rfl, hp2, ht2, lm, k3, s2 _ _ hD, low_bits ba bb, ll, .ref p, rfl, .ref D2, rfl, p, t, D2, k, ms, highR a b, rfl, hp2, ht2, lm, k3, hD2, high_bits ba bb, lh, _, _, rfl, rfl, ?_⟩
            dsimp only
            refine q_ret ?_
            refine ⟨.ref p, rfl, .ref r, rfl, p, t, r, k, ms, a, rfl, hp2, ht2, lm, k3, ha2, ba, la, .ref p, rfl, .ref r2, rfl, p, t, r2, k, ms, b, rfl, hp2, ht2, lm, k3, hb2, bb, lb, _, _, rfl, rfl, _, rfl, _, _, rfl, rfl, ?_⟩
            have z := q H2 s12
            unfold brk at z
            rw [if_neg n1, if_neg n2] at z
            exact z
end
end CC

namespace CC
open PySem PySem.Spec PyProof.Rows L2 Ek
/-- pairs of rows -/
abbrev Tps (H : Hp) (ts : List Addr) (prs : List (List Int × List Int)) : Prop := Paired (fun t (p : List Int × List Int) => ∃ a b : Addr, H t = some (.tup [.ref a, .ref b]) ∧ H a = some (.tup (p.1.map V.int)) ∧ H b = some (.tup (p.2.map V.int))) ts prs
theorem Tps.same {H H' : Hp} {ts : List Addr} {prs : List (List Int × List Int)} (s : Same H H') (x : Tps H ts prs) : Tps H' ts prs := by
  induction x with
  | nil => exact .nil
  | cons e _ ih =>
    obtain ⟨a, b, h1, h2, h3⟩ := e
    exact .cons ⟨a, b, s _ _ h1, s _ _ h2, s _ _ h3⟩ ih
theorem Tps.updL {H : Hp} {ts : List Addr} {D : Addr} {prs : List (List Int × List Int)} {xs : List V} {o : HO} (e : H D = some (.lst xs)) (x : Tps H ts prs) : Tps (upd H D o) ts prs := by
  have n : ∀ {b : Addr} {ys : List V}, H b = some (.tup ys) → b ≠ D := fun h => ne_of h e (by intro z; cases z)
  induction x with
  | nil => exact .nil
  | cons e2 _ ih =>
    obtain ⟨a, b, h1, h2, h3⟩ := e2
    exact .cons ⟨a, b, by rw [upd_ne (n h1)]; exact h1, by rw [upd_ne (n h2)]; exact h2, by rw [upd_ne (n h3)]; exact h3⟩ ih
theorem paired_zip {α β : Type} {F : α → β → Prop} {a : List α} {b : List β} (x : Paired F a b) : (a.zip b).map Prod.fst = a ∧ (a.zip b).map Prod.snd = b ∧ ∀ p ∈ a.zip b, F p.1 p.2 := by
  induction x with
  | nil => exact ⟨rfl, rfl, fun p m => by cases m⟩
  | cons h _ ih =>
    obtain ⟨h1, h2, h3⟩ := ih
    refine ⟨by rw [List.zip_cons_cons, List.map_cons, h1], by rw [List.zip_cons_cons, List.map_cons, h2], fun p m => ?_⟩
    rw [List.zip_cons_cons] at m
    rcases List.mem_cons.mp m with e | m
    · rw [e]; exact h
    · exact h3 p m
theorem paired_of {α β : Type} {F : α → β → Prop} : ∀ {l : List (α × β)}, (∀ p ∈ l, F p.1 p.2) → Paired F (l.map Prod.fst) (l.map Prod.snd)
  | [], _ => .nil
  | p :: l, h => .cons (h p List.mem_cons_self) (paired_of fun q m => h q (List.mem_cons_of_mem _ m))
theorem alike_P (x y : List Int × List Int) : PySem.W.alike (encP x) (encP y) = true := by
  unfold encP
  simp [PySem.W.alike, PySem.W.alikeAll, PySem.W.alike_ints]
theorem depth_P (x : List Int × List Int) : (encP x).depth ≤ 60 := by
  unfold encP
  simp [PyData.depth, PyData.depthAll, PySem.W.depth_ints]
def Gp (n : Nat) (bent : Bool) (a : List Int) : List (List Int × List Int) := if bent then ((rowsOf n).filter fun b => HT.lexLt a b).map fun b => (a, b) else (flips a).map fun b => (a, b)
theorem law_pairs (n : Nat) (bent : Bool) : lawPairs n bent = (rowsOf n).flatMap (Gp n bent) := by
  cases bent <;> rfl
def flipsTo (a : List Int) (j : Nat) : List (List Int) := ((List.range j).filter fun k => decide (a.getD k 0 = 0)).map fun k => a.take k ++ [1] ++ a.drop (k + 1)
theorem flips_succ {a : List Int} {j : Nat} : flipsTo a (j + 1) = flipsTo a j ++ (if a.getD j 0 = 0 then [a.take j ++ [1] ++ a.drop (j + 1)] else []) := by
  unfold flipsTo
  rw [List.range_succ, List.filter_append, List.map_append]
  congr 1
  by_cases c : a.getD j 0 = 0
  · rw [if_pos c, List.filter_cons_of_pos (by simpa using c), List.filter_nil]; rfl
  · rw [if_neg c, List.filter_cons_of_neg (by simpa using c), List.filter_nil]; rfl
theorem flips_len {a : List Int} : ∀ {j : Nat}, (flipsTo a j).length ≤ j := fun {j} => by
  unfold flipsTo
  rw [List.length_map]
  exact Nat.le_trans (List.length_filter_le _ _) (by rw [List.length_range]; exact Nat.le_refl _)
theorem flatP_len {α β : Type} {F : α → List β} {m : Nat} : ∀ {l : List α}, (∀ x ∈ l, (F x).length ≤ m) → (l.flatMap F).length ≤ l.length * m
  | [], _ => by simp
  | x :: l, h => by
    rw [List.flatMap_cons, List.length_append, List.length_cons, Nat.succ_mul]
    have a := h x List.mem_cons_self
    have b := flatP_len (F := F) (l := l) fun y my => h y (List.mem_cons_of_mem _ my)
    omega
theorem gp_len {n : Nat} {bent : Bool} {a : List Int} (n3 : n ≤ 3) (la : a.length = n) : (Gp n bent a).length ≤ 8 := by
  have l8 := rows8 n3
  unfold Gp
  cases bent
  · rw [if_neg (by decide), List.length_map]
    have := flips_len (a := a) (j := a.length)
    show (flipsTo a a.length).length ≤ 8
    omega
  · rw [if_pos rfl, List.length_map]
    exact Nat.le_trans (List.length_filter_le _ _) l8
theorem filtP_take {a : List Int} {l : List (List Int)} {i : Nat} {b : List Int} (h : l[i]? = some b) : ((l.take (i + 1)).filter fun b => HT.lexLt a b).map (fun b => (a, b)) = ((l.take i).filter fun b => HT.lexLt a b).map (fun b => (a, b)) ++ (if HT.lexLt a b = true then [(a, b)] else []) := by
  rw [filt_take h, List.map_append]
  congr 1
  by_cases c : HT.lexLt a b = true
  · rw [if_pos c, if_pos c]; rfl
  · rw [if_neg c, if_neg c]; rfl
section
variable {P : Program} {w : World} {K : PySem.W.Frag} {mg : Str → Option Value} {base : Heap}
theorem refs_fst {β : Type} (l : List (Addr × β)) : l.map (fun b => V.ref b.1) = (l.map Prod.fst).map V.ref := by
  rw [List.map_map]
  rfl
theorem call_sortP {X : Cx} (hu : X.A.units + 64 < cLine) : CallR X (.builtin "sorted") (rSortB (fun b : Addr × (List Int × List Int) => encP b.2) (fun b => V.ref b.1) X.K) := call_sortB hu
def spPO : Sp := fun vs H Q _ => ∃ (p : Addr) (w : Str) (z : Pd), vs = [.ref p, .str w] ∧ LPr H p z ∧ ∀ H' L ts, Same H H' → H' L = some (.lst (ts.map V.ref)) → Tps H' ts (sortedPairs z.1 (decide (w = "bent"))) → Q (.ref L) H'
theorem ok_POf {f : Addr} {fd : FuncData} (F : Fun K "_law_pairs_of" "_law_pairs_of" sPO f fd) (B : Bt mg) {fEvery : Addr} {fdEvery : FuncData} (GEvery : FnOk P w K mg base CX0 1 fEvery fdEvery ["many"] spEv) (kEvery : PySem.W.keepIn K (.ref fEvery) = true) (bEvery : Binds K fdEvery ["many"] []) (gEvery : mg "_law_every" = some (.ref fEvery)) : FnOk P w K mg base CX0 2 f fd ["price", "word"] spPO := by
  refine F.ok scPO (fun vs H Q E h => ?_) (fun cdv A outer s H vs Q E hr h => ?_)
  · obtain ⟨p, w, z, rfl, _⟩ := h
    rfl
  · obtain ⟨p, w, ⟨k, ms⟩, rfl, lp, q⟩ := h
    obtain ⟨t, hp, ht, k1, k3, lm, bd⟩ := id lp
    simp only at hp ht k1 k3 lm q
    have l8 := rows8 k3
    refine ⟨_, (pss_cons (ps_set (i := 2) scPO.nd rfl (.inl rfl) (pe_call GEvery (hr.mono (by decide)) (by rfl) gEvery kEvery bEvery .nil pass0 (pa_cons (pe_ix ix_tup (pv 0) pe_int (fun _ _ => rfl)) pa_nil)))
      (pss_cons (ps_set (i := 3) scPO.nd rfl (.inl rfl) (pe_lst pa_nil))
      (pss_cons (ps_for PassesOwn.never rfl (pi_list (pv 2)) (pg_name (i := 4) scPO.nd rfl (.inr rfl))
      (pss_one (ps_if (pt_cmpR op_eq (pv 1) pe_str (nomark _))
      (pss_one (ps_set (i := 3) scPO.nd rfl (.inl rfl) (pe_op op_cat (pv 3) (pe_lc (own := [("other", 6)]) (g := gName 6) rfl scPO.nd (pi_list (pv 2)) (blkOk_by (N := NPO) (sc := defScope sPO) (by decide +kernel)) (fun _ _ _ _ _ => pg_name (i := 6) scPO.nd rfl (Or.inl rfl)) (fun _ _ _ _ _ => pts_one (pt_cmpR (op_ltTk K rfl hr.units0) (pv 4) (pv 6) (nomark _))) (fun _ _ _ _ _ => (pe_tup (pa_cons (pv 4) (pa_cons (pv 6) pa_nil)))))))) (pss_one (ps_for PassesOwn.never rfl (pi_range1 rfl B.range (pa_cons (pe_ix ix_tup (pv 0) pe_int (fun _ _ => rfl)) pa_nil)) (pg_name (i := 5) scPO.nd rfl (.inl rfl))
      (pss_one (ps_if (pt_cmpR op_eq (pe_ix ix_tup (pv 4) (pv 5) (fun _ _ => rfl)) pe_int (nomark _))
      (pss_one (ps_expr (pe_bm PySem.F.plainAttrs_list PySem.F.slot_list_append PySem.F.type_list_append mt_append (pv 3) (pa_cons (pe_tup (pa_cons (pv 4) (pa_cons (pe_op op_catA (pe_op op_catA (pe_slice sl_tupA (pv 4) po_none (po_some (pv 5))) (pe_tup (pa_cons pe_int pa_nil))) (pe_slice sl_tupA (pv 4) (po_some (pe_op op_add (pv 5) pe_int)) po_none)) pa_nil))) pa_nil)))) pss_nil)))))))
      (pss_one (ps_ret (pe_callB (call_sortP hr.units) (by rfl) B.sorted (by decide +kernel) (pa_cons (pv 3) pa_nil))))))), ?_⟩
    refine q_seq (q_set ?_)
    refine ⟨.ref p, rfl, p, _, 0, .int k, rfl, rfl, tl hp, at_z (j := 0) rfl rfl, k, rfl, k3, fun H1 M rs s1 nM hM rw1 => ?_⟩
    dsimp only
    refine q_seq (q_set ⟨Nat.zero_le _, fun L0 nL0 => ?_⟩)
    have sL := same_upd (o := .lst []) nL0
    dsimp only
    refine q_seq ?_
    have len1 := paired_len rw1
    generalize hbt : decide (w = "bent") = bt at q
    refine ⟨.ref M, rfl, M, rfl, ⟨_, sl (sL _ _ hM)⟩, for_list (K := K) (a := M) (xs := rs.map V.ref) (fun i σ H' => Same H H' ∧ H' M = some (.lst (rs.map V.ref)) ∧ Rws H' rs (rowsOf k) ∧ ∃ (L : Addr) (ts : List Addr) (x1 x2 x3 : Option V), σ = [some (.ref p), some (.str w), some (.ref M), some (.ref L), x1, x2, x3] ∧ H L = none ∧ L ≠ M ∧ H' L = some (.lst (ts.map V.ref)) ∧ Tps H' ts (((rowsOf k).take i).flatMap (Gp k bt)))
      ⟨s1.trans sL, sL _ _ hM, rw1.same sL, L0, [], none, none, none, rfl, s1.free nL0, (fun z => by rw [z, hM] at nL0; cases nL0), upd_same, .nil⟩ (fun i σ H' _ hP => sl hP.2.1) (fun i x σ H' hx hP => ?_) (fun σ H' hP => ?_)⟩
    · obtain ⟨s', hM', rw2, L, ts, x1, x2, x3, rfl, nL, neLM, hL, tp⟩ := hP
      obtain ⟨r, bs, rfl, hbs, hr⟩ := rws_at rw2 hx
      have lb := row_len k bs (List.mem_of_getElem? hbs)
      have li : i < (rowsOf k).length := (List.getElem?_eq_some_iff.mp hbs).1
      have lts : ts.length ≤ 64 := by
        rw [paired_len tp]
        have a1 := flatP_len (F := Gp k bt) (m := 8) (l := (rowsOf k).take i) fun x m => gp_len k3 (row_len k x (List.mem_of_mem_take m))
        rw [List.length_take] at a1
        have a3 : min i (rowsOf k).length * 8 ≤ 8 * 8 := Nat.mul_le_mul_right 8 (by omega)
        omega
      refine q_if ?_
      refine ⟨.str w, rfl, rfl, _, rfl, ?_⟩
      rw [dStr, hbt]
      refine ite2 (fun c => ?_) (fun c => ?_)
      · refine q_set ?_
        refine ⟨.ref L, rfl, .ref M, rfl, M, rfl, ⟨_, sl hM'⟩, fun D nD => lc_list (K := K) (a := M) (xs := rs.map V.ref) (fun j H2 => Same H' H2 ∧ ∃ us : List Addr, H2 D = some (.lst (us.map V.ref)) ∧ us.length ≤ j ∧ Tps H2 us ((((rowsOf k).take j).filter fun b => HT.lexLt bs b).map fun b => (bs, b))) ⟨same_upd nD, [], upd_same, Nat.le_refl _, .nil⟩ (fun j H2 _ hQ => sl (hQ.1 _ _ hM')) (fun j y H2 hy hQ => ?_) (fun H2 hQ => ?_)⟩
        · obtain ⟨s2, us, hD, lu, tp2⟩ := hQ
          obtain ⟨r2, bs2, rfl, hbs2, hr2⟩ := rws_at rw2 hy
          have lj : j < (rowsOf k).length := (List.getElem?_eq_some_iff.mp hbs2).1
          refine ⟨rfl, .ref r, rfl, .ref r2, rfl, r, r2, bs, bs2, rfl, rfl, tl (s2 _ _ hr), tl (s2 _ _ hr2), _, rfl, ?_⟩
          rw [filtP_take hbs2]
          refine ite2 (fun c2 => ?_) (fun c2 => ?_)
          · refine ⟨.ref r, rfl, .ref r2, rfl, by show 2 ≤ sizeLine; decide, fun tt nt => ?_⟩
            have st := same_upd (o := .tup [V.ref r, V.ref r2]) nt
            refine ⟨_, st _ _ hD, by rw [List.length_map]; exact small1000 (by omega), fun b o e => ?_, us ++ [tt], by rw [upd_same, List.map_append]; rfl, by rw [List.length_append]; show _ + 1 ≤ _; omega, ?_⟩
            · rw [upd_ne (ne_of_none e nD)]
              exact st _ _ (s2 _ _ e)
            · rw [if_pos c2]
              exact Tps.updL (st _ _ hD) (paired_app (tp2.same st) (.cons ⟨r, r2, upd_same, st _ _ (s2 _ _ hr), st _ _ (s2 _ _ hr2)⟩ .nil))
          · rw [if_neg c2, List.append_nil]
            exact ⟨s2, us, hD, by omega, tp2⟩
        · obtain ⟨s2, us, hD, lu, tp2⟩ := hQ
          rw [List.length_map, len1] at lu
          rw [List.length_map, len1, List.take_length] at tp2
          refine ⟨L, D, _, _, rfl, rfl, s2 _ _ hL, hD, by rw [List.length_map, List.length_map]; exact Nat.le_of_lt (small1000 (by omega)), fun p2 np2 => ?_⟩
          have s3 := s2.trans (same_upd (o := .lst (ts.map V.ref ++ us.map V.ref)) np2)
          refine ⟨s'.trans s3, s3 _ _ hM', rw2.same s3, p2, ts ++ us, _, _, _, rfl, (s'.trans s2).free np2, (fun z => by rw [z, s2 _ _ hM'] at np2; cases np2), by rw [upd_same, List.map_append], ?_⟩
          rw [take_flat _ hbs]
          have eg : Gp k bt bs = ((rowsOf k).filter fun b => HT.lexLt bs b).map fun b => (bs, b) := by
            unfold Gp
            rw [if_pos c]
          rw [eg]
          exact paired_app (tp.same s3) (tp2.same (same_upd np2))
      · have hp' := s' _ _ hp
        refine ⟨.ref p, rfl, p, _, 0, .int k, rfl, rfl, tl hp', at_z (j := 0) rfl rfl, (k : Int), rfl, by omega, by omega, for_range (lo := 0) (n := k) (fun j σ H2 => Same H H2 ∧ H2 M = some (.lst (rs.map V.ref)) ∧ Rws H2 rs (rowsOf k) ∧ (∃ (x2 x3 : Option V), σ = [some (.ref p), some (.str w), some (.ref M), some (.ref L), some (.ref r), x2, x3]) ∧ ∃ us : List Addr, H2 L = some (.lst (us.map V.ref)) ∧ us.length ≤ ts.length + j ∧ Tps H2 us ((((rowsOf k).take i).flatMap (Gp k bt)) ++ (flipsTo bs j).map fun b => (bs, b)))
          ⟨s', hM', rw2, ⟨_, _, rfl⟩, ts, hL, Nat.le_refl _, by show Tps H' ts (_ ++ []); rw [List.append_nil]; exact tp⟩ (fun j σ H2 hj hQ => ?_) (fun σ H2 hQ => ?_)⟩
        · obtain ⟨s2, hM2, rw3, ⟨x2', x3', rfl⟩, us, hL2, lu, tp2⟩ := hQ
          obtain ⟨r', hr'1, hr'2⟩ := rws_get rw3 hbs
          have er : r' = r := by
            rw [hx] at hr'1
            exact (V.ref.inj (Option.some.inj hr'1)).symm
          subst er
          have hrj : (bs.map V.int)[j]? = some (.int bs[j]) := row_int (by omega)
          refine q_if ?_
          refine ⟨.ref r', rfl, _, rfl, r', _, _, _, rfl, rfl, tl hr'2, at_z (j := j) (by omega) hrj, rfl, _, rfl, ?_⟩
          rw [dInt, flips_succ]
          have eg : bs.getD j 0 = bs[j] := by rw [List.getD_eq_getElem?_getD, List.getElem?_eq_getElem (by omega)]; rfl
          rw [eg]
          refine ite2 (fun c2 => ?_) (fun c2 => ?_)
          · refine ⟨.ref L, rfl, .inl ⟨rfl, _, .inl (.inl hL2)⟩, .ref r', rfl, put_at (k := j) (y := .int 1) (show _ = some (some (V.ref r')) from rfl) (show _ = some (some (V.int (0 + (j : Int)))) from rfl) (by omega) hr'2 (by rw [List.length_map]; omega) (by rw [List.length_map]; omega) fun t3 H3 s3 h3 => ?_⟩
            have e3 : (bs.map V.int).take j ++ [V.int 1] ++ (bs.map V.int).drop (j + 1) = (bs.take j ++ [1] ++ bs.drop (j + 1)).map V.int := by simp
            rw [e3] at h3
            refine ⟨by show 2 ≤ sizeLine; decide, fun t4 nt4 => ?_⟩
            have s4 := s3.trans (same_upd (o := .tup [V.ref r', V.ref t3]) nt4)
            have hL4 := s4 _ _ hL2
            refine ⟨L, _, _, rfl, rfl, hL4, by rw [List.length_map]; exact small1000 (by omega), fun b o e => ?_, ?_, Rws.updL hL4 (rw3.same s4), ⟨_, _, rfl⟩, us ++ [t4], by rw [upd_same, List.map_append]; rfl, by rw [List.length_append]; show _ + 1 ≤ _; omega, ?_⟩
            · rw [upd_ne (ne_of_none e nL)]
              exact s4 _ _ (s2 _ _ e)
            · rw [upd_ne neLM.symm]
              exact s4 _ _ hM2
            · rw [if_pos (of_decide_eq_true c2), List.map_append, ← List.append_assoc]
              exact Tps.updL hL4 (paired_app (tp2.same s4) (.cons ⟨r', t3, upd_same, s4 _ _ hr'2, same_upd nt4 _ _ h3⟩ .nil))
          · refine q_next ?_
            rw [if_neg (by simpa using c2), List.append_nil]
            exact ⟨s2, hM2, rw3, ⟨_, _, rfl⟩, us, hL2, by omega, tp2⟩
        · obtain ⟨s2, hM2, rw3, ⟨x2', x3', rfl⟩, us, hL2, lu, tp2⟩ := hQ
          dsimp only
          refine ⟨s2, hM2, rw3, L, us, _, _, _, rfl, nL, neLM, hL2, ?_⟩
          rw [take_flat _ hbs]
          have eg : Gp k bt bs = (flipsTo bs k).map fun b => (bs, b) := by
            unfold Gp
            rw [if_neg c]
            unfold flips flipsTo
            rw [lb]
          rw [eg]
          exact tp2
    · obtain ⟨s', hM', rw2, L, ts, x1, x2, x3, rfl, nL, neLM, hL, tp⟩ := hP
      rw [List.length_map, len1, List.take_length, ← law_pairs] at tp
      dsimp only
      refine q_ret ?_
      obtain ⟨z1, z2, z3⟩ := paired_zip tp
      have ev : (ts.zip (lawPairs k bt)).map (fun b => V.ref b.1) = ts.map V.ref := by
        rw [refs_fst, z1]
      refine ⟨.ref L, rfl, ?_⟩
      refine (show rSortB (β := Addr × (List Int × List Int)) (fun b => encP b.2) (fun b => V.ref b.1) K [.ref L] H' Q from ⟨L, ts.zip (lawPairs k bt), rfl, sl (by rw [ev]; exact hL), fun b m => ?_, PySem.W.AllAlike.of fun b b' => alike_P _ _, PySem.W.Sortable.tuples fun b => ⟨_, _, rfl⟩, fun b _ => depth_P _, fun p2 np2 => ?_⟩)
      · obtain ⟨a, b2, h1, h2, h3⟩ := z3 b m
        exact .tup (tl h1) (.cons (.tup (tl h2) dp_ints) (.cons (.tup (tl h3) dp_ints) .nil))
      · have es : ((ts.zip (lawPairs k bt)).mergeSort (PySem.W.dataLe false fun b => encP b.2)).map Prod.snd = sortedPairs k bt := by
          rw [PySem.W.sort_maps (r := PySem.W.dataLe false fun b : Addr × (List Int × List Int) => encP b.2) (s := leP) Prod.snd (fun _ _ _ _ => rfl), z2]
          exact sort_pairs k3 bt
        have pr := paired_of (F := fun t (p : List Int × List Int) => ∃ a b : Addr, H' t = some (.tup [.ref a, .ref b]) ∧ H' a = some (.tup (p.1.map V.int)) ∧ H' b = some (.tup (p.2.map V.int))) (l := (ts.zip (lawPairs k bt)).mergeSort (PySem.W.dataLe false fun b => encP b.2)) fun b m => z3 b ((List.mergeSort_perm _ _).mem_iff.mp m)
        rw [es] at pr
        refine q _ p2 _ (s'.trans (same_upd np2)) ?_ (Tps.same (same_upd np2) pr)
        rw [upd_same, refs_fst]
end
end CC

namespace CC
open PySem PySem.Spec PyProof.Rows L2 Ek
theorem find_head {α : Type} {f : α → Bool} : ∀ {l : List α}, l.find? f = (l.filter f).head?
  | [] => rfl
  | x :: l => by
    by_cases c : f x = true
    · rw [List.find?_cons_of_pos c, List.filter_cons_of_pos c]; rfl
    · rw [List.find?_cons_of_neg c, List.filter_cons_of_neg c, find_head]
theorem faultP1 {w : Str} {z : Pd} (c : isOne w = true) : faultP w z = (((rowsOf z.1).filter (show1 w z)).head?).map fun r => [r] := by
  unfold faultP shownsOf
  rw [if_pos c, List.find?_map, find_head]
  rfl
theorem word2 {w : Str} (m : w ∈ words5) (c : ¬ isOne w = true) : w = "bent" ∨ (w = "rising" ∧ ¬ w = "bent") ∨ (w = "falling" ∧ ¬ w = "bent" ∧ ¬ w = "rising") := by
  simp only [words5, List.mem_cons, List.not_mem_nil, or_false] at m
  rcases m with rfl | rfl | rfl | rfl | rfl
  · exact absurd (by decide +kernel) c
  · exact absurd (by decide +kernel) c
  · exact .inl rfl
  · exact .inr (.inl ⟨rfl, by decide +kernel⟩)
  · exact .inr (.inr ⟨rfl, by decide +kernel, by decide +kernel⟩)
theorem faultP2 {w : Str} {z : Pd} (m : w ∈ words5) (c : ¬ isOne w = true) : faultP w z = (((sortedPairs z.1 (decide (w = "bent"))).filter fun p => brk w z p.1 p.2).head?).map fun p => [p.1, p.2] := by
  unfold faultP shownsOf
  rw [if_neg c, List.find?_map, find_head]
  congr 2
  rcases word2 m c with e | ⟨e, nb⟩ | ⟨e, nb, nr⟩
  · rw [decide_eq_true e]
    unfold sortedPairs
    rw [if_pos rfl]
    congr 1
    funext p
    show show2 w z p.1 p.2 = brk w z p.1 p.2
    have n1 : ¬ w = "rising" := by rw [e]; decide +kernel
    have n2 : ¬ w = "falling" := by rw [e]; decide +kernel
    unfold show2 brk
    rw [if_pos e, if_neg n1, if_neg n2]
  · rw [decide_eq_false nb]
    unfold sortedPairs
    rw [if_neg (by decide), List.filter_filter]
    congr 1
    funext p
    show show2 w z p.1 p.2 = (brk w z p.1 p.2 && more1 p.1 p.2)
    unfold show2 brk
    rw [if_neg nb, if_pos e, if_pos e, Bool.and_comm]
  · rw [decide_eq_false nb]
    unfold sortedPairs
    rw [if_neg (by decide), List.filter_filter]
    congr 1
    funext p
    show show2 w z p.1 p.2 = (brk w z p.1 p.2 && more1 p.1 p.2)
    unfold show2 brk
    rw [if_neg nb, if_neg nr, if_neg nr, if_pos e, Bool.and_comm]
theorem at_m1 {α : Type} {xs : List α} {v : α} (pos : 0 < xs.length) (h : xs[xs.length - 1]? = some v) : atI xs (-1) = some v := by
  unfold atI ixN
  rw [if_neg (by decide), if_pos (by omega)]
  show xs[((-1 : Int) + (xs.length : Nat)).toNat]? = _ 
  rw [show ((-1 : Int) + (xs.length : Nat)).toNat = xs.length - 1 by omega]
  exact h
theorem row_first : ∀ k : Fin 4, (rowsOf k.1)[0]? = some (List.replicate k.1 0) := by decide +kernel
theorem row_last : ∀ k : Fin 4, (rowsOf k.1)[(rowsOf k.1).length - 1]? = some (List.replicate k.1 1) := by decide +kernel
section
variable {P : Program} {w : World} {K : PySem.W.Frag} {mg : Str → Option Value} {base : Heap}
def spLF : Sp := fun vs H Q _ => ∃ (L : Addr) (ps : List Addr) (bks : List Pd) (w : Str), vs = [.ref L, .str w] ∧ H L = some (.lst (ps.map V.ref)) ∧ LPs H ps bks ∧ bks.length ≤ 6 ∧ w ∈ words5 ∧ ∀ H' x, Same H H' → FltV H' x (faultF w 0 bks) → Q x H'
/-- every[[0, -1][int(word == "all yes")]] -/
theorem rd_base {σ : L2.St} {H : Hp} {M : Addr} {rs : List Addr} {k : Nat} {w : Str} {i j : Nat} {Q : VK} (k3 : k ≤ 3) (c : isOne w = true) (hi : σ[i]? = some (some (.ref M))) (hj : σ[j]? = some (some (.str w))) (hM : H M = some (.lst (rs.map V.ref))) (rw1 : Rws H rs (rowsOf k))
    (q : ∀ r H', Same H H' → H r = some (.tup ((List.replicate k (baseV w)).map V.int)) → Q (.ref r) H') :
    tOp (rIxL K) (tVar i) (tOp (rIxL K) (tLst (tCons (tC (.int 0)) (tCons (tUn (rU fun i => .int (-i)) (tC (.int 1))) tNil))) (tCB (fun xs H Q => (∃ i, xs = [.int i] ∧ Q (.int i) H) ∨ ∃ k, xs = [.bl k] ∧ Q (.int (if k then 1 else 0)) H) (tCons (tOp rEq (tVar j) (tC (.str "all yes"))) tNil))) σ H Q := by
  refine ⟨_, hi, _, rfl, by show 2 ≤ sizeLine; decide, fun Ld nLd => ⟨_, hj, rfl, .inr ⟨_, rfl, ?_⟩⟩⟩
  have s1 := same_upd (o := .lst [.int 0, .int (-1)]) nLd
  rw [dStr]
  by_cases e : w = "all yes"
  · rw [decide_eq_true e, if_pos rfl]
    have eb : baseV w = 1 := by
      unfold baseV
      rw [if_neg (by rw [e]; decide +kernel)]
    obtain ⟨r, hr1, hr2⟩ := rws_get rw1 (row_last ⟨k, by omega⟩)
    have ll := paired_len rw1
    have p2 : 0 < (rowsOf k).length := by rw [rows_len]; exact Nat.two_pow_pos k
    refine ⟨Ld, _, 1, .int (-1), rfl, rfl, sl upd_same, at_z (j := 1) rfl rfl, M, _, (-1), .ref r, rfl, rfl, sl (s1 _ _ hM), at_m1 (by rw [List.length_map]; omega) (by rw [List.length_map, ll]; exact hr1), q r _ s1 (by rw [eb]; exact hr2)⟩
  · rw [decide_eq_false e, if_neg (by decide)]
    have eb : baseV w = 0 := by
      unfold baseV
      have e1 : w = "all no" := by
        unfold isOne at c
        rw [decide_eq_false e, Bool.or_false] at c
        exact of_decide_eq_true c
      rw [if_pos e1]
    obtain ⟨r, hr1, hr2⟩ := rws_get rw1 (row_first ⟨k, by omega⟩)
    exact ⟨Ld, _, 0, .int 0, rfl, rfl, sl upd_same, at_z (j := 0) rfl rfl, M, _, 0, .ref r, rfl, rfl, sl (s1 _ _ hM), at_z (j := 0) rfl hr1, q r _ s1 (by rw [eb]; exact hr2)⟩
theorem ok_LF {f : Addr} {fd : FuncData} (F : Fun K "_law_fault" "_law_fault" sLF f fd) (B : Bt mg) {fEvery : Addr} {fdEvery : FuncData} (GEvery : FnOk P w K mg base CX0 1 fEvery fdEvery ["many"] spEv) (kEvery : PySem.W.keepIn K (.ref fEvery) = true) (bEvery : Binds K fdEvery ["many"] []) (gEvery : mg "_law_every" = some (.ref fEvery)) {fCost : Addr} {fdCost : FuncData} (GCost : FnOk P w K mg base CX0 2 fCost fdCost ["price", "row"] spCost) (kCost : PySem.W.keepIn K (.ref fCost) = true) (bCost : Binds K fdCost ["price", "row"] []) (gCost : mg "_law_cost" = some (.ref fCost)) {fPO : Addr} {fdPO : FuncData} (GPO : FnOk P w K mg base CX0 2 fPO fdPO ["price", "word"] spPO) (kPO : PySem.W.keepIn K (.ref fPO) = true) (bPO : Binds K fdPO ["price", "word"] []) (gPO : mg "_law_pairs_of" = some (.ref fPO)) {fBR : Addr} {fdBR : FuncData} (GBR : FnOk P w K mg base CX0 3 fBR fdBR ["price", "word", "one", "other"] spBR) (kBR : PySem.W.keepIn K (.ref fBR) = true) (bBR : Binds K fdBR ["price", "word", "one", "other"] []) (gBR : mg "_law_breaks" = some (.ref fBR)) : FnOk P w K mg base CX0 4 f fd ["book", "word"] spLF := by
  refine F.ok scLF (fun vs H Q E h => ?_) (fun cdv A outer s H vs Q E hr h => ?_)
  · obtain ⟨L, ps, bks, w, rfl, _⟩ := h
    rfl
  · obtain ⟨L, ps, bks, w, rfl, hL, lps, b6, m5, q⟩ := h
    have ln := paired_len lps
    refine ⟨_, (pss_cons (ps_for PassesOwn.never rfl (pi_range1 rfl B.range (pa_cons (pe_callB call_len_seq (by rfl) B.len PySem.boot_len (pa_cons (pv 0) pa_nil)) pa_nil)) (pg_name (i := 2) scLF.nd rfl (.inr rfl))
      (pss_cons (ps_set (i := 3) scLF.nd rfl (.inl rfl) (pe_call GEvery (hr.mono (by decide)) (by rfl) gEvery kEvery bEvery .nil pass0 (pa_cons (pe_ix ix_tup (pe_ix ix_list (pv 0) (pv 2) (fun _ _ => rfl)) pe_int (fun _ _ => rfl)) pa_nil)))
      (pss_one (ps_if (pt_cmpR op_in_seq (pv 1) (pe_lst (pa_cons pe_str (pa_cons pe_str pa_nil))) (by with_unfolding_all rfl))
      (pss_cons (ps_set (i := 4) scLF.nd rfl (.inr rfl) (pe_call GCost (hr.mono (by decide)) (by rfl) gCost kCost bCost .nil pass0 (pa_cons (pe_ix ix_list (pv 0) (pv 2) (fun _ _ => rfl)) (pa_cons (pe_ix ix_list (pv 3) (pe_ix ix_list (pe_lst (pa_cons pe_int (pa_cons (pe_un un_neg pe_int) pa_nil))) (pe_callTy call_int1 (by rfl) B.int (by decide +kernel) (pa_cons (pe_cmpR op_eq (pv 1) pe_str (nomark _)) pa_nil)) (fun _ _ => rfl)) (fun _ _ => rfl)) pa_nil))))
      (pss_cons (ps_setLc (i := 5) (own := [("row", 7)]) (g := gName 7) rfl scLF.nd rfl rfl (sw_true rfl rfl rfl (by decide +kernel)) (pi_list (pv 3)) (blkOk_by (N := NLF) (sc := defScope sLF) (by decide +kernel)) (fun _ _ _ _ _ => pg_name (i := 7) scLF.nd rfl (Or.inl rfl)) (fun _ _ _ _ _ => pts_one (pt_cmpR op_lt (pe_call GCost (hr.mono (by decide)) (by rfl) gCost kCost bCost .nil pass0 (pa_cons (pe_ix (ixl_k K rfl) (pv 0) (pv 2) (fun _ _ => rfl)) (pa_cons (pv 7) pa_nil))) (pv 4) (nomark _))) (fun _ _ _ _ _ => (pv 7)))
      (pss_one (ps_if (pt_cmpR op_gt (pe_callB call_len_seq (by rfl) B.len PySem.boot_len (pa_cons (pv 5) pa_nil)) pe_int (nomark _))
      (pss_one (ps_ret (pe_tup (pa_cons (pv 2) (pa_cons (pe_ix ix_list (pv 5) pe_int (fun _ _ => rfl)) pa_nil))))) pss_nil)))) (pss_cons (ps_setLc (i := 6) (own := [("pair", 8)]) (g := gName 8) rfl scLF.nd rfl rfl (sw_true rfl rfl rfl (by decide +kernel)) (pi_list (pe_call GPO (hr.mono (by decide)) (by rfl) gPO kPO bPO .nil pass0 (pa_cons (pe_ix ix_list (pv 0) (pv 2) (fun _ _ => rfl)) (pa_cons (pv 1) pa_nil)))) (blkOk_by (N := NLF) (sc := defScope sLF) (by decide +kernel)) (fun _ _ _ _ _ => pg_name (i := 8) scLF.nd rfl (Or.inl rfl)) (fun _ _ _ _ _ => pts_one (pt_val (pe_call GBR (hr.mono (by decide)) (by rfl) gBR kBR bBR .nil pass0 (pa_cons (pe_ix (ixl_k K rfl) (pv 0) (pv 2) (fun _ _ => rfl)) (pa_cons (pv 1) (pa_cons (pe_ix (ixt_k K rfl) (pv 8) pe_int (fun _ _ => rfl)) (pa_cons (pe_ix (ixt_k K rfl) (pv 8) pe_int (fun _ _ => rfl)) pa_nil))))))) (fun _ _ _ _ _ => (pv 8)))
      (pss_one (ps_if (pt_cmpR op_gt (pe_callB call_len_seq (by rfl) B.len PySem.boot_len (pa_cons (pv 6) pa_nil)) pe_int (nomark _))
      (pss_one (ps_ret (pe_tup (pa_cons (pv 2) (pa_cons (pe_ix ix_tup (pe_ix ix_list (pv 6) pe_int (fun _ _ => rfl)) pe_int (fun _ _ => rfl)) (pa_cons (pe_ix ix_tup (pe_ix ix_list (pv 6) pe_int (fun _ _ => rfl)) pe_int (fun _ _ => rfl)) pa_nil)))))) pss_nil)))))))
      (pss_one (ps_ret pe_non))), ?_⟩
    refine q_seq ?_
    refine ⟨.ref L, rfl, L, _, rfl, .inl (sl hL), _, rfl, by rw [List.length_map]; omega, by rw [List.length_map]; omega, for_range (lo := 0) (n := (ps.map V.ref).length) (fun i σ H' => Same H H' ∧ (∃ x1 x2 x3 x4 x5 : Option V, σ = [some (.ref L), some (.str w), x1, x2, x3, x4, x5, none, none]) ∧ faultF w 0 bks = faultF w i (bks.drop i)) ⟨Same.refl H, ⟨_, _, _, _, _, rfl⟩, rfl⟩ (fun i σ H' hi hP => ?_) (fun σ H' hP => ?_)⟩
    · obtain ⟨s', ⟨x1, x2, x3, x4, x5, rfl⟩, ef⟩ := hP
      rw [List.length_map] at hi
      have li : i < bks.length := by omega
      obtain ⟨p, hp, hz⟩ := paired_get lps (List.getElem?_eq_getElem li)
      have hbi : bks[i]? = some bks[i] := List.getElem?_eq_getElem li
      generalize bks[i] = z at hz hbi
      obtain ⟨k, ms⟩ := z
      have lpr := hz
      obtain ⟨t, h1, h2, k1, k3, lm, bd⟩ := hz
      simp only at h1 h2 k1 k3 lm
      have hpi : (ps.map V.ref)[i]? = some (.ref p) := by rw [List.getElem?_map, hp]; rfl
      have l8 := rows8 k3
      refine q_seq (q_set ?_)
      refine ⟨.ref L, rfl, _, rfl, L, _, _, .ref p, rfl, rfl, sl (s' _ _ hL), at_z (j := i) (by omega) hpi, p, _, 0, .int k, rfl, rfl, tl (s' _ _ h1), at_z (j := 0) rfl rfl, k, rfl, k3, fun H1 M rs s1 nM hM rw1 => ?_⟩
      have s01 := s'.trans s1
      have len1 := paired_len rw1
      dsimp only
      refine q_if ?_
      refine ⟨.str w, rfl, by show 2 ≤ sizeLine; decide, fun tw ntw => ⟨tw, _, rfl, .inl (sl upd_same), rfl, rfl, ?_⟩⟩
      rw [if_neg (show ¬ false = true by decide), isOne_in]
      refine ⟨_, rfl, ?_⟩
      have s2 := same_upd (o := .lst [V.str "all no", V.str "all yes"]) ntw
      have s02 := s01.trans s2
      generalize upd H1 tw (.lst [V.str "all no", V.str "all yes"]) = H2 at s2 s02
      have hM2 := s2 _ _ hM
      have rw2 := rw1.same s2
      refine ite2 (fun c => ?_) (fun c => ?_)
      · refine q_seq (q_set ?_)
        refine ⟨.ref L, rfl, _, rfl, L, _, _, .ref p, rfl, rfl, sl (s02 _ _ hL), at_z (j := i) (by omega) hpi, ?_⟩
        refine rd_base k3 c (show _ = some (some (V.ref M)) from rfl) (show _ = some (some (V.str w)) from rfl) hM2 rw2 fun r H3 s3 hr3 => ?_
        have s03 := s02.trans s3
        refine ⟨p, t, r, k, ms, List.replicate k (baseV w), rfl, s03 _ _ h1, s03 _ _ h2, lm, k3, s3 _ _ hr3, base_bits, by rw [List.length_replicate], ?_⟩
        dsimp only
        refine q_seq ?_
        have hM3 := s3 _ _ hM2
        have rw3 := rw2.same s3
        refine ⟨.ref M, rfl, M, rfl, ⟨_, sl hM3⟩, fun D nD => lc_list (K := K) (a := M) (xs := rs.map V.ref) (fun j H' => Same H3 H' ∧ ∃ us : List Addr, H' D = some (.lst (us.map V.ref)) ∧ us.length ≤ j ∧ Rws H' us (((rowsOf k).take j).filter (show1 w (k, ms)))) ⟨same_upd nD, [], upd_same, Nat.le_refl _, .nil⟩ (fun j H' _ hQ => sl (hQ.1 _ _ hM3)) (fun j y H4 hy hQ => ?_) (fun H4 hQ => ?_)⟩
        · obtain ⟨s4, us, hD, lu, rwu⟩ := hQ
          obtain ⟨r2, bs2, rfl, hbs2, hr2⟩ := rws_at rw3 hy
          have mb := List.mem_of_getElem? hbs2
          have s04 := s03.trans s4
          have lj : j < (rowsOf k).length := (List.getElem?_eq_some_iff.mp hbs2).1
          refine ⟨rfl, .ref L, rfl, _, rfl, L, _, _, .ref p, rfl, rfl, sl (s04 _ _ hL), at_z (j := i) (by omega) hpi, .ref r2, rfl, p, t, r2, k, ms, bs2, rfl, s04 _ _ h1, s04 _ _ h2, lm, k3, s4 _ _ hr2, bits_rows k bs2 mb, row_len k bs2 mb, _, rfl, _, _, rfl, rfl, _, rfl, ?_⟩
          rw [filt_take hbs2]
          have es : show1 w (k, ms) bs2 = decide (costL ms bs2 < costL ms (List.replicate k (baseV w))) := rfl
          rw [← es]
          refine ite2 (fun c2 => ?_) (fun c2 => ?_)
          · refine ⟨_, rfl, _, hD, by rw [List.length_map]; exact small1000 (by omega), fun b o e => ?_, us ++ [r2], by rw [upd_same, List.map_append]; rfl, by rw [List.length_append]; show _ + 1 ≤ _; omega, ?_⟩
            · rw [upd_ne (ne_of_none e nD)]
              exact s4 _ _ e
            · rw [if_pos c2]
              exact Rws.updL hD (paired_app rwu (.cons (s4 _ _ hr2) .nil))
          · rw [if_neg c2, List.append_nil]
            exact ⟨s4, us, hD, by omega, rwu⟩
        · obtain ⟨s4, us, hD, lu, rwu⟩ := hQ
          rw [List.length_map, len1, List.take_length] at rwu
          have s04 := s03.trans s4
          dsimp only
          refine q_if ?_
          refine ⟨.ref D, rfl, D, _, rfl, .inl (sl hD), _, _, rfl, rfl, _, rfl, ?_⟩
          cases us with
          | nil =>
            have e0 : (rowsOf k).filter (show1 w (k, ms)) = [] := by
              have := paired_len rwu
              exact List.length_eq_zero_iff.mp this.symm
            rw [if_neg (by decide)]
            refine q_next ?_
            refine ⟨s04, ⟨_, _, _, _, _, rfl⟩, faultF_none hbi ef ?_⟩
            rw [faultP1 c]
            show (((rowsOf k).filter (show1 w (k, ms))).head?).map _ = none
            rw [e0]
            rfl
          | cons u us =>
            obtain ⟨bs, rest, e0⟩ : ∃ bs rest, (rowsOf k).filter (show1 w (k, ms)) = bs :: rest := by
              cases e : (rowsOf k).filter (show1 w (k, ms)) with
              | nil => rw [e] at rwu; cases rwu
              | cons a l => exact ⟨a, l, rfl⟩
            rw [e0] at rwu
            rw [if_pos (decide_eq_true (by show (0 : Int) < ((us.map V.ref).length + 1 : Nat); omega))]
            refine q_ret ?_
            refine ⟨_, rfl, .ref D, rfl, D, _, 0, .ref u, rfl, rfl, sl hD, at_z (j := 0) rfl rfl, by show 2 ≤ sizeLine; decide, fun tt nt => ?_⟩
            have s5 := same_upd (o := .tup [V.int (0 + (i : Int)), V.ref u]) nt
            refine q _ (.ref tt) (s04.trans s5) ?_
            rw [faultF_some hbi ef (rs := [bs]) (by rw [faultP1 c]; show (((rowsOf k).filter (show1 w (k, ms))).head?).map _ = _; rw [e0]; rfl)]
            cases rwu with
            | cons hu _ => exact ⟨tt, [u], rfl, by rw [upd_same, Int.zero_add]; rfl, .cons (s5 _ _ hu) .nil⟩
      · refine q_seq ?_
        refine ⟨.ref L, rfl, _, rfl, L, _, _, .ref p, rfl, rfl, sl (s02 _ _ hL), at_z (j := i) (by omega) hpi, .str w, rfl, p, w, (k, ms), rfl, lpr.same s02, fun H3 M3 ts s3 hM3 tps => ?_⟩
        have s03 := s02.trans s3
        have len3 := paired_len tps
        have l64 : ts.length ≤ 64 := by
          rw [len3]
          have : ∀ k : Fin 4, ∀ b : Bool, (sortedPairs k.1 b).length ≤ 64 := by decide +kernel
          exact this ⟨k, by omega⟩ _
        have bitsP : ∀ pr ∈ sortedPairs k (decide (w = "bent")), (Bits pr.1 ∧ pr.1.length = k) ∧ Bits pr.2 ∧ pr.2.length = k := fun pr m => by
          have mp : pr ∈ pairsP k := by
            unfold sortedPairs at m
            by_cases cb : decide (w = "bent") = true
            · rw [if_pos cb] at m
              exact m
            · rw [if_neg cb] at m
              exact (List.mem_filter.mp m).1
          obtain ⟨m1, m2⟩ := mem_pairs mp
          exact ⟨⟨bits_rows k _ m1, row_len k _ m1⟩, bits_rows k _ m2, row_len k _ m2⟩
        refine ⟨M3, rfl, ⟨_, sl hM3⟩, fun D nD => lc_list (K := K) (a := M3) (xs := ts.map V.ref) (fun j H' => Same H3 H' ∧ ∃ us : List Addr, H' D = some (.lst (us.map V.ref)) ∧ us.length ≤ j ∧ Tps H' us (((sortedPairs k (decide (w = "bent"))).take j).filter fun p => brk w (k, ms) p.1 p.2)) ⟨same_upd nD, [], upd_same, Nat.le_refl _, .nil⟩ (fun j H' _ hQ => sl (hQ.1 _ _ hM3)) (fun j y H4 hy hQ => ?_) (fun H4 hQ => ?_)⟩
        · obtain ⟨s4, us, hD, lu, tpu⟩ := hQ
          obtain ⟨t2, rfl, ht2⟩ : ∃ t2, y = V.ref t2 ∧ ts[j]? = some t2 := by
            rw [List.getElem?_map] at hy
            cases ee : ts[j]? with
            | none => rw [ee] at hy; cases hy
            | some p => rw [ee] at hy; exact ⟨p, (Option.some.inj hy).symm, rfl⟩
          have lj : j < (sortedPairs k (decide (w = "bent"))).length := by
            rw [← len3]
            exact (List.getElem?_eq_some_iff.mp ht2).1
          obtain ⟨y2, hy2, a, b, g1, g2, g3⟩ := paired_get tps (List.getElem?_eq_getElem lj)
          rw [ht2] at hy2
          cases hy2
          have hsj : (sortedPairs k (decide (w = "bent")))[j]? = some (sortedPairs k (decide (w = "bent")))[j] := List.getElem?_eq_getElem lj
          obtain ⟨⟨q1, q2⟩, q3, q4⟩ := bitsP _ (List.getElem_mem lj)
          have s04 := s03.trans s4
          generalize (sortedPairs k (decide (w = "bent")))[j] = pr at *
          refine ⟨rfl, .ref L, rfl, _, rfl, L, _, _, .ref p, rfl, rfl, sl (s04 _ _ hL), at_z (j := i) (by omega) hpi, .str w, rfl, .ref t2, rfl, t2, _, _, .ref a, rfl, rfl, tl (s4 _ _ g1), at_z (j := 0) rfl rfl, .ref t2, rfl, t2, _, _, .ref b, rfl, rfl, tl (s4 _ _ g1), at_z (j := 1) rfl rfl, p, a, b, w, (k, ms), pr.1, pr.2, rfl, lpr.same s04, s4 _ _ g2, q1, q2, s4 _ _ g3, q3, q4, fun H5 s5 => ⟨_, rfl, ?_⟩⟩
          have s45 := s4.trans s5
          have hD5 := s5 _ _ hD
          rw [filt_take hsj]
          refine ite2 (fun c2 => ?_) (fun c2 => ?_)
          · refine ⟨_, rfl, _, hD5, by rw [List.length_map]; exact small1000 (by have := (List.getElem?_eq_some_iff.mp ht2).1; omega), fun b o e => ?_, us ++ [t2], by rw [upd_same, List.map_append]; rfl, by rw [List.length_append]; show _ + 1 ≤ _; omega, ?_⟩
            · rw [upd_ne (ne_of_none e nD)]
              exact s45 _ _ e
            · rw [if_pos c2]
              exact Tps.updL hD5 (paired_app (tpu.same s5) (.cons ⟨a, b, s45 _ _ g1, s45 _ _ g2, s45 _ _ g3⟩ .nil))
          · rw [if_neg c2, List.append_nil]
            exact ⟨s45, us, hD5, by omega, tpu.same s5⟩
        · obtain ⟨s4, us, hD, lu, tpu⟩ := hQ
          rw [List.length_map, len3, List.take_length] at tpu
          have s04 := s03.trans s4
          dsimp only
          refine q_if ?_
          refine ⟨.ref D, rfl, D, _, rfl, .inl (sl hD), _, _, rfl, rfl, _, rfl, ?_⟩
          cases us with
          | nil =>
            have e0 : (sortedPairs k (decide (w = "bent"))).filter (fun p => brk w (k, ms) p.1 p.2) = [] := by
              have := paired_len tpu
              exact List.length_eq_zero_iff.mp this.symm
            rw [if_neg (by decide)]
            refine q_next ?_
            refine ⟨s04, ⟨_, _, _, _, _, rfl⟩, faultF_none hbi ef ?_⟩
            rw [faultP2 m5 c]
            show (((sortedPairs k (decide (w = "bent"))).filter (fun p => brk w (k, ms) p.1 p.2)).head?).map _ = none
            rw [e0]
            rfl
          | cons u us =>
            obtain ⟨pr, rest, e0⟩ : ∃ pr rest, (sortedPairs k (decide (w = "bent"))).filter (fun p => brk w (k, ms) p.1 p.2) = pr :: rest := by
              cases e : (sortedPairs k (decide (w = "bent"))).filter (fun p => brk w (k, ms) p.1 p.2) with
              | nil => rw [e] at tpu; cases tpu
              | cons a l => exact ⟨a, l, rfl⟩
            rw [e0] at tpu
            rw [if_pos (decide_eq_true (by show (0 : Int) < ((us.map V.ref).length + 1 : Nat); omega))]
            refine q_ret ?_
            cases tpu with
            | cons hu _ =>
              obtain ⟨a, b, g1, g2, g3⟩ := hu
              refine ⟨_, rfl, .ref D, rfl, D, _, 0, .ref u, rfl, rfl, sl hD, at_z (j := 0) rfl rfl, u, _, 0, .ref a, rfl, rfl, tl g1, at_z (j := 0) rfl rfl, .ref D, rfl, D, _, 0, .ref u, rfl, rfl, sl hD, at_z (j := 0) rfl rfl, u, _, 1, .ref b, rfl, rfl, tl g1, at_z (j := 1) rfl rfl, by show 3 ≤ sizeLine; decide, fun tt nt => ?_⟩
              have s5 := same_upd (o := .tup [V.int (0 + (i : Int)), V.ref a, V.ref b]) nt
              refine q _ (.ref tt) (s04.trans s5) ?_
              rw [faultF_some hbi ef (rs := [pr.1, pr.2]) (by rw [faultP2 m5 c]; show (((sortedPairs k (decide (w = "bent"))).filter (fun p => brk w (k, ms) p.1 p.2)).head?).map _ = _; rw [e0]; rfl)]
              exact ⟨tt, [a, b], rfl, by rw [upd_same, Int.zero_add]; rfl, .cons (s5 _ _ g2) (.cons (s5 _ _ g3) .nil)⟩
    · obtain ⟨s', ⟨x1, x2, x3, x4, x5, rfl⟩, ef⟩ := hP
      dsimp only
      refine q_ret ?_
      refine q H' .non s' ?_
      have e0 : bks.drop (ps.map V.ref).length = [] := List.drop_eq_nil_of_le (by rw [List.length_map]; omega)
      rw [ef, e0]
      rfl
end
end CC

namespace CC
open PySem PySem.Spec PyProof.Rows L2 Ek
section
variable {P : Program} {w : World} {K : PySem.W.Frag} {mg : Str → Option Value} {base : Heap}
theorem kind_sm : ∀ w ∈ words5, PyData.showable (.str w) = true ∧ PyData.hasDict (.str w) = false ∧ PyData.depth (.str w) ≤ 0 ∧ (PyData.shown (.str w)).length ≤ 20 := by decide +kernel
theorem tx_word : ∀ w ∈ words5, PyData.strOk (PyData.shown (.str w)) = true := by decide +kernel
theorem sm_word {w : Str} (m : w ∈ words5) : Sm 20 0 (.str w) := by
  obtain ⟨a, b, c, d⟩ := kind_sm w m
  exact ⟨a, b, c, d⟩
def spLaw (K : PySem.W.Frag) : Sp := fun vs H Q _ => ∃ (a : Addr) (ns : List Int), vs = [.ref a] ∧ SqL K H a (ns.map V.int) ∧ ns.length ≤ 63 ∧ ∀ H', Q (.bl true) H'
theorem kinds_okd {ws : List Str} {bks : List Pd} (m5 : ∀ w ∈ ws, w ∈ words5) (l5 : ws.length ≤ 5) : Okd (.tuple ((kindsF ws bks).map .str)) := by
  refine (Sm.tuple (n := 20) (k := 0) (ds := (kindsF ws bks).map .str) fun d m => ?_).okd ?_ (by decide)
  · obtain ⟨w, mw, rfl⟩ := List.mem_map.mp m
    exact sm_word (m5 w (List.mem_filter.mp mw).1)
  · rw [List.length_map]
    have : (kindsF ws bks).length ≤ ws.length := List.length_filter_le _ _
    omega
end
end CC

namespace CC
open PySem PySem.Spec PyProof.Rows L2 Ek
/-! ### sides -/
def wordsOf (fx : Bool) : List Str := if fx then fixed3 else free3
def kindsOf (fx : Bool) (bks : List Pd) : List Str := kindsF (wordsOf fx) bks
def sideL (ks : List Str) : PyData := if ks.isEmpty = true then .tuple [.str "all"] else .tuple [.str "cut", .tuple (ks.map .str)]
def sideD (fx : Bool) (bks : List Pd) : PyData := sideL (kindsOf fx bks)
theorem in5_of {fx : Bool} : ∀ w ∈ wordsOf fx, w ∈ words5 := by
  cases fx
  · exact in5_free
  · exact in5_fixed
theorem kinds_in {fx : Bool} {bks : List Pd} : ∀ w ∈ kindsOf fx bks, w ∈ words5 := fun w m => in5_of w (List.mem_filter.mp m).1
theorem kinds_len {fx : Bool} {bks : List Pd} : (kindsOf fx bks).length ≤ 3 := by
  refine Nat.le_trans (List.length_filter_le _ _) ?_
  cases fx <;> decide
theorem lay_words : ∀ {ws : List Str}, (∀ w ∈ ws, w ∈ words5) → PyData.canLayAll0 (ws.map .str) = true
  | [], _ => by simp [PyData.canLayAll0]
  | w :: ws, h => by
    have z := SeqAt.canLay_of_shaped (sh_words w (h w List.mem_cons_self))
    rw [List.map_cons, PyData.canLayAll0, z, lay_words fun x m => h x (List.mem_cons_of_mem _ m)]
    rfl
theorem dep_words : ∀ {ws : List Str}, PyData.depthAll (ws.map .str) = 0
  | [] => by simp [PyData.depthAll]
  | w :: ws => by rw [List.map_cons, PyData.depthAll, dep_words]; simp [PyData.depth]
theorem sh_side {ks : List Str} (h : ∀ w ∈ ks, w ∈ words5) : SeqAt.shaped (sideL ks) = true := by
  unfold sideL
  by_cases c : ks.isEmpty = true
  · rw [if_pos c]
    decide +kernel
  · rw [if_neg c]
    have hc : PyData.canLay0 (.str "cut") = true := by decide +kernel
    unfold SeqAt.shaped
    simp [PyData.canLay0, PyData.canLayAll0, lay_words h, PyData.depth, PyData.depthAll, dep_words]
    simpa [PyData.canLay0] using hc
theorem eqv_all {ks : List Str} : PyData.eqv (sideL ks) (.tuple [.str "all"]) = ks.isEmpty := by
  cases ks with
  | nil => decide +kernel
  | cons k ks =>
    unfold sideL
    simp [PyData.eqv, PyData.eqvAll]
section
variable {P : Program} {w : World} {K : PySem.W.Frag} {mg : Str → Option Value} {base : Heap}
def spSW (aFW aXW : Addr) : Sp := fun vs H Q _ => ∃ fx : Bool, vs = [.bl fx] ∧ Q (.ref (if fx then aXW else aFW)) H
theorem ok_SW {f aFW aXW : Addr} {fd : FuncData} (F : Fun K "_words" "_words" sSW f fd) (WF : Wt K mg "FREE_WORDS" aFW free3) (WX : Wt K mg "FIXED_WORDS" aXW fixed3) : FnOk P w K mg base CX0 1 f fd ["fixed"] (spSW aFW aXW) := by
  have gFW := WF.g
  have gXW := WX.g
  refine F.ok scSW (fun vs H Q E h => ?_) (fun cdv A outer s H vs Q E hr h => ?_)
  · obtain ⟨fx, rfl, _⟩ := h
    rfl
  · obtain ⟨fx, rfl, q⟩ := h
    refine ⟨_, (pss_one (ps_ret (pe_ifExp (pt_val (pv 0)) (pe_glob (v := .ref aXW) (by rfl) gXW rfl) (pe_glob (v := .ref aFW) (by rfl) gFW rfl)))), ?_⟩
    refine q_ret ?_
    refine ⟨.bl fx, rfl, fx, rfl, ?_⟩
    cases fx
    · exact q
    · exact q
/-- the words' tuple -/
theorem words_at {aFW aXW : Addr} {fx : Bool} {H : Hp} (WF : Wt K mg "FREE_WORDS" aFW free3) (WX : Wt K mg "FIXED_WORDS" aXW fixed3) : SqT K H (if fx then aXW else aFW) ((wordsOf fx).map V.str) := by
  cases fx
  · exact WF.t H
  · exact WX.t H
def spSD (K : PySem.W.Frag) (C CB : Addr) : Sp := fun vs H Q _ => ∃ (b : Addr) (bks : List Pd) (fx : Bool), vs = [.ref b, .bl fx] ∧ BkAt C CB H b bks ∧ ∀ H' x, Same H H' → Dp K H' x (sideD fx bks) → Q x H'
theorem ok_SD {f C CB : Addr} {fd : FuncData} {kws : List (Str × V)} (F : FunD K "side" "side" (defArgs sSD) (defBody sSD) (defScope sSD) [] kws f fd) (B : Bt mg) {fFK : Addr} {fdFK : FuncData} (GFK : FnOk P w K mg base CX0 10 fFK fdFK ["book"] (spFK C CB free3)) (kFK : PySem.W.keepIn K (.ref fFK) = true) (bFK : Binds K fdFK ["book"] []) (gFK : mg "free_kinds" = some (.ref fFK)) {fXK : Addr} {fdXK : FuncData} (GXK : FnOk P w K mg base CX0 10 fXK fdXK ["book"] (spFK C CB fixed3)) (kXK : PySem.W.keepIn K (.ref fXK) = true) (bXK : Binds K fdXK ["book"] []) (gXK : mg "fixed_kinds" = some (.ref fXK)) : FnOk P w K mg base CX0 11 f fd ["book", "fixed"] (spSD K C CB) := by
  refine F.ok scSD (fun vs H Q E h => ?_) (fun cdv A outer s H vs Q E hr h => ?_)
  · obtain ⟨b, bks, fx, rfl, _⟩ := h
    rfl
  · obtain ⟨b, bks, fx, rfl, bk, q⟩ := h
    refine ⟨_, (pss_cons (ps_set (i := 2) scSD.nd rfl (.inl rfl) (pe_ifExp (pt_val (pv 1)) (pe_call GXK (hr.mono (by decide)) (by rfl) gXK kXK bXK .nil pass0 (pa_cons (pv 0) pa_nil)) (pe_call GFK (hr.mono (by decide)) (by rfl) gFK kFK bFK .nil pass0 (pa_cons (pv 0) pa_nil))))
      (pss_one (ps_ret (pe_ifExp (pt_cmpR op_gt (pe_callB call_len_seq (by rfl) B.len PySem.boot_len (pa_cons (pv 2) pa_nil)) pe_int (nomark _)) (pe_tup (pa_cons pe_str (pa_cons (pv 2) pa_nil))) (pe_tup (pa_cons pe_str pa_nil)))))), ?_⟩
    refine q_seq (q_set ?_)
    refine ⟨.bl fx, rfl, fx, rfl, ?_⟩
    have go : ∀ (H1 : Hp) (t : Addr), Same H H1 → H1 t = some (.tup ((kindsOf fx bks).map V.str)) → tRet (tIf (tTest (tOp (rI0 fun i j => V.bl (decide (j < i))) (tCB (fun xs H Q => ∃ p ys, xs = [V.ref p] ∧ (SqL K H p ys ∨ SqT K H p ys) ∧ Q (V.int ys.length) H) (tCons (tVar 2) tNil)) (tC (.int 0)))) (tTup (tCons (tC (.str "cut")) (tCons (tVar 2) tNil))) (tTup (tCons (tC (.str "all")) tNil)))
        { nx := fun _ H' => Q .non H', rt := Q } [some (.ref b), some (.bl fx), some (.ref t)] H1 := fun H1 t s1 ht => by
      refine q_ret ?_
      refine ⟨.ref t, rfl, t, _, rfl, .inr (tl ht), _, _, rfl, rfl, _, rfl, ?_⟩
      cases e : kindsOf fx bks with
      | nil =>
        rw [if_neg (by decide)]
        refine ⟨by show 1 ≤ sizeLine; decide, fun p np => q _ _ (s1.trans (same_upd np)) ?_⟩
        unfold sideD
        rw [e]
        exact .tup (tl upd_same) (.cons (.str _) .nil)
      | cons k ks =>
        rw [e] at ht
        rw [if_pos (decide_eq_true (by show (0 : Int) < ((ks.map V.str).length + 1 : Nat); omega))]
        refine ⟨.ref t, rfl, by show 2 ≤ sizeLine; decide, fun p np => q _ _ (s1.trans (same_upd np)) ?_⟩
        unfold sideD
        rw [e]
        exact .tup (tl upd_same) (.cons (.str _) (.cons (.tup (tl (same_upd np _ _ ht)) dp_strs) .nil))
    cases fx
    · exact ⟨.ref b, rfl, b, bks, rfl, bk, fun H1 t s1 ht => go H1 t s1 ht⟩
    · exact ⟨.ref b, rfl, b, bks, rfl, bk, fun H1 t s1 ht => go H1 t s1 ht⟩
end
end CC

namespace CC
open PySem PySem.Spec PyProof.Rows L2 Ek
theorem FltV.same {H H' : Hp} {v : V} {o : Option (Nat × List (List Int))} (s : Same H H') (h : FltV H v o) : FltV H' v o := by
  cases o with
  | none => exact h
  | some p =>
    obtain ⟨i, rs⟩ := p
    obtain ⟨a, as, e, ha, hr⟩ := h
    exact ⟨a, as, e, s _ _ ha, hr.same s⟩
/-- the faults of the words -/
abbrev Flts (H : Hp) (xs : List V) (ws : List Str) (bks : List Pd) : Prop := Paired (fun v (w : Str) => FltV H v (faultF w 0 bks)) xs ws
theorem Flts.same {H H' : Hp} {xs : List V} {ws : List Str} {bks : List Pd} (s : Same H H') (h : Flts H xs ws bks) : Flts H' xs ws bks := by
  induction h with
  | nil => exact .nil
  | cons a _ ih => exact .cons (a.same s) ih
theorem FltV.updL {H : Hp} {D : Addr} {v : V} {o : Option (Nat × List (List Int))} {xs : List V} {u : HO} (e : H D = some (.lst xs)) (h : FltV H v o) : FltV (upd H D u) v o := by
  cases o with
  | none => exact h
  | some p =>
    obtain ⟨i, rs⟩ := p
    obtain ⟨a, as, ev, ha, hr⟩ := h
    exact ⟨a, as, ev, by rw [upd_ne (ne_of ha e (by intro z; cases z))]; exact ha, Rws.updL e hr⟩
theorem Flts.updL {H : Hp} {D : Addr} {ys xs : List V} {ws : List Str} {bks : List Pd} {u : HO} (e : H D = some (.lst xs)) (h : Flts H ys ws bks) : Flts (upd H D u) ys ws bks := by
  induction h with
  | nil => exact .nil
  | cons a _ ih => exact .cons (a.updL e) ih
/-- a paper of the side -/
def PapV (H : Hp) (x : V) (fx : Bool) (bks : List Pd) : Prop := ∃ (a : Addr) (xs : List V), x = .ref a ∧ H a = some (.tup xs) ∧ (if (kindsOf fx bks).isEmpty = true then Flts H xs (wordsOf fx) bks else xs = [])
theorem PapV.same {H H' : Hp} {x : V} {fx : Bool} {bks : List Pd} (s : Same H H') (h : PapV H x fx bks) : PapV H' x fx bks := by
  obtain ⟨a, xs, e, ha, r⟩ := h
  refine ⟨a, xs, e, s _ _ ha, ?_⟩
  by_cases c : (kindsOf fx bks).isEmpty = true
  · rw [if_pos c] at r ⊢
    exact r.same s
  · rw [if_neg c] at r ⊢
    exact r
section
variable {P : Program} {w : World} {K : PySem.W.Frag} {mg : Str → Option Value} {base : Heap}
def spSP (K : PySem.W.Frag) (C CB : Addr) : Sp := fun vs H Q _ => ∃ (b : Addr) (bks : List Pd) (fx : Bool), vs = [.ref b, .bl fx] ∧ BkAt C CB H b bks ∧ ∀ H' x, Same H H' → PapV H' x fx bks → Q x H'
theorem ok_SP {f C CB CU aFW aXW : Addr} {fd : FuncData} {kws : List (Str × V)} (F : FunD K "side_paper" "side_paper" (defArgs sSP) (defBody sSP) (defScope sSP) [] kws f fd) (B : Bt mg) (WF : Wt K mg "FREE_WORDS" aFW free3) (WX : Wt K mg "FIXED_WORDS" aXW fixed3) {fSW : Addr} {fdSW : FuncData} (GSW : FnOk P w K mg base CX0 1 fSW fdSW ["fixed"] (spSW aFW aXW)) (kSW : PySem.W.keepIn K (.ref fSW) = true) (bSW : Binds K fdSW ["fixed"] []) (gSW : mg "_words" = some (.ref fSW)) {fFO : Addr} {fdFO : FuncData} (GFO : FnOk P w K mg base (L2.CX P w) 8 fFO fdFO ["book", "word"] (spFO K C CB CU)) (kFO : PySem.W.keepIn K (.ref fFO) = true) (bFO : Binds K fdFO ["book", "word"] []) (gFO : mg "fault_of" = some (.ref fFO))
    {fSD : Addr} {fdSD : FuncData} (GSD : FnOk P w K mg base CX0 11 fSD fdSD ["book", "fixed"] (spSD K C CB)) (kSD : PySem.W.keepIn K (.ref fSD) = true) (gSD : mg "side" = some (.ref fSD)) (knSD : KBn K fdSD ["book", "fixed"] 1 ["fixed"] (fun us ws => us ++ ws) (fun vs zs => vs ++ zs)) : FnOk P w K mg base CX0 12 f fd ["book", "fixed"] (spSP K C CB) := by
  refine F.ok scSP (fun vs H Q E h => ?_) (fun cdv A outer s H vs Q E hr h => ?_)
  · obtain ⟨b, bks, fx, rfl, _⟩ := h
    rfl
  · obtain ⟨b, bks, fx, rfl, bk, q⟩ := h
    refine ⟨_, (pss_cons (ps_if (pt_cmpR (op_neD hr.units) (pe_callN GSD (hr.mono (by decide)) (by rfl) gSD kSD knSD pass0 (pa_cons (pv 0) pa_nil) (pk_cons (pv 1) pk_nil)) (pe_tup (pa_cons pe_str pa_nil)) (nomark _))
      (pss_one (ps_ret (pe_tup pa_nil))) pss_nil)
      (pss_one (ps_ret (pe_callTy call_tuple_of (by rfl) B.tuple (by decide +kernel) (pa_cons (pe_lc (own := [("word", 2)]) (g := gName 2) (tt := tYes) rfl scSP.nd (pi_tup (pe_call GSW (hr.mono (by decide)) (by rfl) gSW kSW bSW .nil pass0 (pa_cons (pv 1) pa_nil))) (blkOk_by (N := NSP) (sc := defScope sSP) (by decide +kernel)) (fun _ _ _ _ _ => pg_name (i := 2) scSP.nd rfl (Or.inl rfl)) (fun _ _ _ _ _ => pts_nil) (fun _ _ _ _ _ => (pe_call GFO (hr.mono (by decide)) (by rfl) gFO kFO bFO .nil passE0 (pa_cons (pv 0) (pa_cons (pv 2) pa_nil))))) pa_nil))))), ?_⟩
    refine q_seq (q_if ?_)
    refine ⟨.ref b, rfl, .bl fx, rfl, rfl, rfl, b, bks, fx, rfl, bk, fun H1 x s1 dp => ⟨by show 1 ≤ sizeLine; decide, fun t nt => ?_⟩⟩
    have s2 := same_upd (o := .tup [V.str "all"]) nt
    have s12 := s1.trans s2
    refine ⟨sideD fx bks, .tuple [.str "all"], Ek.Dp.same s2 dp, .tup (tl upd_same) (.cons (.str _) .nil), sh_side kinds_in, by decide +kernel, _, rfl, ?_⟩
    have ev : PyData.eqv (sideD fx bks) (.tuple [.str "all"]) = (kindsOf fx bks).isEmpty := eqv_all
    rw [ev]
    refine ite2 (fun c => ?_) (fun c => ?_)
    · have c' : ¬ (kindsOf fx bks).isEmpty = true := by simpa using c
      refine q_ret ⟨Nat.zero_le _, fun p np => q _ (.ref p) (s12.trans (same_upd np)) ⟨p, [], rfl, upd_same, ?_⟩⟩
      rw [if_neg c']
    · have c' : (kindsOf fx bks).isEmpty = true := by simpa using c
      refine q_next ?_
      dsimp only
      refine q_ret ?_
      refine ⟨.bl fx, rfl, fx, rfl, ?_⟩
      have bk2 := bk.same s12
      refine ⟨_, rfl, ⟨_, words_at (fx := fx) WF WX⟩, fun D nD => lc_tup (K := K) (a := if fx then aXW else aFW) (xs := (wordsOf fx).map V.str) (fun i H' => Same (upd H1 t (.tup [V.str "all"])) H' ∧ ∃ xs : List V, H' D = some (.lst xs) ∧ xs.length ≤ i ∧ Flts H' xs ((wordsOf fx).take i) bks) ⟨same_upd nD, [], upd_same, Nat.le_refl _, .nil⟩ (fun i H' _ _ => words_at WF WX) (fun i x H' hx hP => ?_) (fun H' hP => ?_)⟩
      · obtain ⟨s', xs, hD, lx, fl⟩ := hP
        obtain ⟨w, rfl, hw⟩ : ∃ w, x = V.str w ∧ (wordsOf fx)[i]? = some w := by
          rw [List.getElem?_map] at hx
          cases ee : ((wordsOf fx)[i]? : Option Str) with
          | none => rw [ee] at hx; cases hx
          | some p => rw [ee] at hx; exact ⟨p, (Option.some.inj hx).symm, rfl⟩
        have mw := in5_of w (List.mem_of_getElem? hw)
        have li : i < 3 := by
          have := (List.getElem?_eq_some_iff.mp hw).1
          have l3 : (wordsOf fx).length ≤ 3 := by cases fx <;> decide
          omega
        refine ⟨rfl, .ref b, rfl, .str w, rfl, b, bks, .str w, .str w, rfl, bk2.same s', .str w, sh_words w mw, fun w2 e2 _ H2 y s3 fv => ?_, fun z => (not_none5 mw z).elim⟩
        cases e2
        have hD2 := s3 _ _ hD
        refine ⟨_, hD2, small1000 (by omega), fun c o e => ?_, xs ++ [y], upd_same, by rw [List.length_append]; show _ + 1 ≤ _; omega, ?_⟩
        · rw [upd_ne (ne_of_none e nD)]
          exact s3 _ _ (s' _ _ e)
        · have e2 : (wordsOf fx).take (i + 1) = (wordsOf fx).take i ++ [w] := by
            rw [List.take_add_one, hw]
            rfl
          rw [e2]
          exact Flts.updL hD2 (paired_app (fl.same s3) (.cons fv .nil))
      · obtain ⟨s', xs, hD, lx, fl⟩ := hP
        rw [List.length_map, List.take_length] at fl
        refine ⟨D, _, rfl, .inl ⟨sl hD, fun p np => q _ (.ref p) (s12.trans (s'.trans (same_upd np))) ⟨p, xs, rfl, upd_same, ?_⟩⟩⟩
        rw [if_pos c']
        exact fl.same (same_upd np)
def spBL (C CB : Addr) : Sp := fun vs H Q _ => ∃ (b : Addr) (bks : List Pd), vs = [.ref b] ∧ BkAt C CB H b bks ∧ Q (.int ((bks.length : Nat) : Int)) H
theorem ok_BL {f C CB : Addr} {fd : FuncData} (F : Fun K "__len__" "Book.__len__" sBL f fd) (B : Bt mg) (TB : Bc K mg CB) : FnOk P w K mg base CX0 1 f fd ["self"] (spBL C CB) := by
  refine F.ok scBL (fun vs H Q E h => ?_) (fun cdv A outer s H vs Q E hr h => ?_)
  · obtain ⟨b, bks, rfl, _⟩ := h
    rfl
  · obtain ⟨b, bks, rfl, bk, q⟩ := h
    obtain ⟨dx, t, ps, hb, ht, pa, b1, b6⟩ := id bk
    refine ⟨_, (pss_one (ps_ret (pe_callB call_len_seq (by rfl) B.len PySem.boot_len (pa_cons (pe_fld (pv 0) rfl) pa_nil)))), ?_⟩
    refine q_ret ?_
    refine ⟨.ref b, rfl, b, CB, dx, _, .ref t, rfl, hb, TB.cl, TB.nP, bk_fld (CB := CB), t, _, rfl, .inr (tl ht), ?_⟩
    rw [List.length_map, paired_len pa]
    exact q
def spIF (C CB : Addr) : Sp := fun vs H Q _ => ∃ (b t : Addr) (bks : List Pd) (w : Str) (i : Nat) (as : List Addr) (rs : List (List Int)) (z : Pd), vs = [.ref b, .str w, .ref t] ∧ BkAt C CB H b bks ∧ H t = some (.tup (.int (i : Nat) :: as.map V.ref)) ∧ Rws H as rs ∧ bks[i]? = some z ∧ rs ∈ shownsOf z.1 w ∧ ∀ H', Same H H' → Q (.bl (showsB w z rs)) H'
theorem ok_IF {f C CB : Addr} {fd : FuncData} (F : Fun K "_is_fault" "_is_fault" sIF f fd) (B : Bt mg) (T : Pc K mg C) (TB : Bc K mg CB) {fRS : Addr} {fdRS : FuncData} (GRS : FnOk P w K mg base CX0 1 fRS fdRS ["word"] spRS) (kRS : PySem.W.keepIn K (.ref fRS) = true) (bRS : Binds K fdRS ["word"] []) (gRS : mg "rows_to_show" = some (.ref fRS)) {fIB : Addr} {fdIB : FuncData} (GIB : FnOk P w K mg base CX0 2 fIB fdIB ["value", "limit"] spIB) (kIB : PySem.W.keepIn K (.ref fIB) = true) (bIB : Binds K fdIB ["value", "limit"] []) (gIB : mg "is_number_below" = some (.ref fIB)) {fIR : Addr} {fdIR : FuncData} (GIR : FnOk P w K mg base CX0 4 fIR fdIR ["value", "size"] spIR) (kIR : PySem.W.keepIn K (.ref fIR) = true) (bIR : Binds K fdIR ["value", "size"] []) (gIR : mg "is_row" = some (.ref fIR)) {fSH : Addr} {fdSH : FuncData} (GSH : FnOk P w K mg base CX0 7 fSH fdSH ["price", "word", "shown"] (spSH C)) (kSH : PySem.W.keepIn K (.ref fSH) = true) (bSH : Binds K fdSH ["price", "word", "shown"] []) (gSH : mg "shows" = some (.ref fSH)) {fBL : Addr} {fdBL : FuncData} (GBL : FnOk P w K mg base CX0 1 fBL fdBL ["self"] (spBL C CB)) (kBL : PySem.W.keepIn K (.ref fBL) = true) (bBL : Binds K fdBL ["self"] []) (inBL : PySem.W.findIn K (.ref CB) "__len__" = some (some (.ref fBL))) (fnBL : PySem.W.isFn K (.ref fBL) = true) : FnOk P w K mg base CX0 8 f fd ["book", "word", "value"] (spIF C CB) := by
  refine F.ok scIF (fun vs H Q E h => ?_) (fun cdv A outer s H vs Q E hr h => ?_)
  · obtain ⟨b, t, bks, w, i, as, rs, z, rfl, _⟩ := h
    rfl
  · obtain ⟨b, t, bks, w, i, as, rs, ⟨k, ms⟩, rfl, bk, ht, hr2, hz, mrs, q⟩ := h
    obtain ⟨dx, tb, ps, hb, htb, pa, b1, b6⟩ := id bk
    have li := (List.getElem?_eq_some_iff.mp hz).1
    have la := paired_len hr2
    refine ⟨_, (pss_cons (ps_if (PW.pt (pw_or (pt_not (pt_val (pe_callB call_isi (by rfl) B.isinstance (by decide +kernel) (pa_cons (pv 2) (pa_cons (pe_bltn (v := .ty "tuple") (by rfl) B.tuple (by decide +kernel) rfl) pa_nil))))) (pw_or1 (pt_cmpR op_ne (pe_callB call_len_seq (by rfl) B.len PySem.boot_len (pa_cons (pv 2) pa_nil)) (pe_op op_add pe_int (pe_call GRS (hr.mono (by decide)) (by rfl) gRS kRS bRS .nil pass0 (pa_cons (pv 1) pa_nil))) (nomark _)))))
      (pss_one (ps_ret pe_bl)) pss_nil)
      (pss_cons (ps_if (pt_not (pt_val (pe_call GIB (hr.mono (by decide)) (by rfl) gIB kIB bIB .nil pass0 (pa_cons (pe_ix ix_tup (pv 2) pe_int (fun _ _ => rfl)) (pa_cons (pe_callB (call_lenOwn GBL (hr.mono (by decide)) inBL fnBL bBL pass0) (by rfl) B.len PySem.boot_len (pa_cons (pv 0) pa_nil)) pa_nil)))))
      (pss_one (ps_ret pe_bl)) pss_nil)
      (pss_cons (ps_set (i := 3) scIF.nd rfl (.inr rfl) (pe_ix ix_tup (pe_fld (pv 0) rfl) (pe_ix ix_tup (pv 2) pe_int (fun _ _ => rfl)) (fun _ _ => rfl)))
      (pss_cons (ps_set (i := 4) scIF.nd rfl (.inl rfl) (pe_slice sl_tupA (pv 2) (po_some pe_int) po_none))
      (pss_one (ps_ret (pe_and (pe_callB (cr_all rfl) (by rfl) B.all (by decide +kernel) (pa_cons (pe_lc (own := [("row", 5)]) (g := gName 5) (tt := tYes) rfl scIF.nd (pi_tup (pv 4)) (blkOk_by (N := NIF) (sc := defScope sIF) (by decide +kernel)) (fun _ _ _ _ _ => pg_name (i := 5) scIF.nd rfl (Or.inl rfl)) (fun _ _ _ _ _ => pts_nil) (fun _ _ _ _ _ => (pe_call GIR (hr.mono (by decide)) (by rfl) gIR kIR bIR .nil pass0 (pa_cons (pv 5) (pa_cons (pe_fldk K rfl (pv 3)) pa_nil))))) pa_nil)) (pe_one (pe_call GSH (hr.mono (by decide)) (by rfl) gSH kSH bSH .nil pass0 (pa_cons (pv 3) (pa_cons (pv 1) (pa_cons (pv 4) pa_nil)))))))))))), ?_⟩
    refine q_seq (q_if ?_)
    refine ⟨.ref t, rfl, _, _, _, _, true, rfl, .ty _, .base (.tup ht), kit_ty (by decide +kernel), true, rfl, ?_⟩
    refine ⟨.ref t, rfl, t, _, rfl, .inr (tl ht), .str w, rfl, w, rfl, fun H1 s1 => ⟨_, _, rfl, rfl, rfl, _, rfl, ?_⟩⟩
    have el : (decide (V.int (((V.int (i : Nat) :: as.map V.ref).length : Nat) : Int) = V.int (1 + (if isOne w = true then 1 else 2)))) = true := by
      rw [dInt]
      refine decide_eq_true ?_
      rw [List.length_cons, List.length_map, la]
      by_cases c : isOne w = true
      · obtain ⟨r, e, _⟩ := mem_shown1 c mrs
        rw [if_pos c, e]
        rfl
      · obtain ⟨r, r2, e, _⟩ := mem_shown2 c mrs
        rw [if_neg c, e]
        rfl
    rw [el]
    dsimp only
    rw [if_neg (by decide)]
    refine q_next ?_
    dsimp only
    refine q_seq (q_if ?_)
    refine ⟨.ref t, rfl, t, _, 0, .int (i : Nat), rfl, rfl, tl (s1 _ _ ht), at_z (j := 0) rfl rfl, .ref b, rfl, b, dx, _, rfl, s1 _ _ hb, b, bks, rfl, bk.same s1, bks.length, rfl, by omega, .int (i : Nat), _, rfl, .int _, ?_⟩
    have eb : isB ((bks.length : Nat) : Int) (.int (i : Nat)) = true := by
      show (decide (0 ≤ (i : Int)) && decide ((i : Int) < ((bks.length : Nat) : Int))) = true
      rw [decide_eq_true (by omega), decide_eq_true (by omega)]
      rfl
    rw [eb]
    refine ⟨true, rfl, ?_⟩
    dsimp only
    rw [if_neg (show ¬ (!true) = true by decide)]
    refine q_next ?_
    dsimp only
    obtain ⟨p, hp, pr⟩ := paired_get pa hz
    have hpi : (ps.map V.ref)[i]? = some (.ref p) := by rw [List.getElem?_map, hp]; rfl
    refine q_seq (q_set ?_)
    refine ⟨.ref b, rfl, b, CB, dx, _, .ref tb, rfl, s1 _ _ hb, TB.cl, TB.nP, bk_fld (CB := CB), .ref t, rfl, t, _, 0, .int (i : Nat), rfl, rfl, tl (s1 _ _ ht), at_z (j := 0) rfl rfl, tb, _, _, .ref p, rfl, rfl, tl (s1 _ _ htb), at_z (j := i) rfl hpi, ?_⟩
    dsimp only
    refine q_seq (q_set ?_)
    refine ⟨.ref t, rfl, ⟨1, rfl, noPart (sl_A (ys := as.map V.ref) (s1 _ _ ht) (by rw [show (1 : Int) = ((0 : Nat) : Int) + 1 from rfl, cut_lo1]; rfl) fun t2 H2 s2 h2 => ?_)⟩⟩
    have s12 := s1.trans s2
    have pr2 := pr.same s12
    obtain ⟨dxp, tp, hpp, htp, k1, k3, lm⟩ := id pr2
    have rw2 := hr2.same s12
    dsimp only
    refine q_ret ?_
    refine ⟨.ref t2, rfl, t2, rfl, ⟨_, tl h2⟩, fun D nD => lc_tup (K := K) (a := t2) (xs := as.map V.ref) (fun j H' => Same H2 H' ∧ H' D = some (.lst ((List.replicate j true).map V.bl))) ⟨same_upd nD, upd_same⟩ (fun j H' _ hP => tl (hP.1 _ _ h2)) (fun j x H' hx hP => ?_) (fun H' hP => ?_)⟩
    · obtain ⟨s', hD⟩ := hP
      obtain ⟨r, bs, rfl, hbs, hrr⟩ := rws_at rw2 hx
      have lj : j < 3 := by
        have := (List.getElem?_eq_some_iff.mp hbs).1
        rcases shown_len mrs with e | e <;> omega
      have okb : Bits bs ∧ bs.length = k := by
        have so := shown_ok mrs
        have mb := List.mem_of_getElem? hbs
        by_cases c : isOne w = true
        · rw [if_pos c] at so
          obtain ⟨r1, rfl, b, l⟩ := so
          rw [List.mem_singleton.mp mb]
          exact ⟨b, l⟩
        · rw [if_neg c] at so
          obtain ⟨a, b, rfl, ⟨b1, l1⟩, b2, l2⟩ := so
          rcases List.mem_cons.mp mb with e | mb
          · rw [e]; exact ⟨b1, l1⟩
          · rw [List.mem_singleton.mp mb]; exact ⟨b2, l2⟩
      refine ⟨rfl, .ref r, rfl, .ref p, rfl, p, C, dxp, _, .int k, rfl, s' _ _ hpp, T.cl, T.nS, pf_size _ _, .ref r, k, rfl, .inr ⟨r, _, rfl, s' _ _ hrr, kn_ints, by rw [List.length_map, okb.2]; simp only at k3; omega, fun H3 s3 => ?_⟩⟩
      rw [bits_rowB okb.1 okb.2]
      refine ⟨_, s3 _ _ hD, ?_, fun b o e => ?_, ?_⟩
      · rw [List.length_map, List.length_replicate]
        exact small1000 (by omega)
      · rw [upd_ne (ne_of_none e nD)]
        exact s3 _ _ (s' _ _ e)
      · rw [upd_same, List.replicate_succ', List.map_append]
        rfl
    · obtain ⟨s', hD⟩ := hP
      refine ⟨D, _, rfl, sl hD, ?_⟩
      have ea : (List.replicate (as.map V.ref).length true).all id = true := by simp
      rw [ea]
      refine ⟨true, rfl, ?_⟩
      rw [if_pos rfl]
      exact ⟨.ref p, rfl, .str w, rfl, .ref t2, rfl, p, t2, w, k, ms, as, rs, rfl, pr2.same s', s' _ _ h2, rw2.same s', shown_ok mrs, fun H3 s3 => q H3 (s12.trans (s'.trans s3))⟩
end
end CC

namespace CC
open PySem PySem.Spec PyProof.Rows L2 Ek
variable {N : Addr → Prop}
abbrev Tr : Addr → Prop := fun _ => True
/-! ### values that are drawn or bent -/
inductive Fl : V → PyData → Prop
  | non : Fl .non .none
  | bl (b : Bool) : Fl (.bl b) (.bool b)
  | int (i : Int) (h : -10 ≤ i ∧ i ≤ 10) : Fl (.int i) (.int i)
  | str : Fl (.str "") (.str "")
def Lv (N : Addr → Prop) (R : V → PyData → Prop) (H : Hp) (v : V) (d : PyData) : Prop := Fl v d ∨ ∃ (a : Addr) (xs : List V) (ds : List PyData), v = .ref a ∧ ((H a = some (.tup xs) ∧ d = .tuple ds) ∨ (H a = some (.lst xs) ∧ d = .list ds ∧ (∀ e t, HO.lst xs ≠ .lst [.ref e, .int t]) ∧ N a)) ∧ Paired R xs ds ∧ xs.length ≤ 10
abbrev Lv1 (N : Addr → Prop) (H : Hp) := Lv N Fl H
abbrev Lv2 (N : Addr → Prop) (H : Hp) := Lv N (Lv1 N H) H
abbrev Lv3 (N : Addr → Prop) (H : Hp) := Lv N (Lv2 N H) H
theorem paired_imp {α β : Type} {F G : α → β → Prop} (h : ∀ a b, F a b → G a b) {a : List α} {b : List β} (x : Paired F a b) : Paired G a b := by
  induction x with
  | nil => exact .nil
  | cons e _ ih => exact .cons (h _ _ e) ih
theorem Lv.imp2 {N N' : Addr → Prop} {R R' : V → PyData → Prop} {H H' : Hp} (hR : ∀ v d, R v d → R' v d) (hT : ∀ a xs, H a = some (.tup xs) → H' a = some (.tup xs)) (hL : ∀ a xs, (∀ e t, HO.lst xs ≠ .lst [.ref e, .int t]) → N a → H a = some (.lst xs) → H' a = some (.lst xs)) (hN : ∀ a, N a → N' a) {v : V} {d : PyData} (x : Lv N R H v d) : Lv N' R' H' v d := by
  rcases x with x | ⟨a, xs, ds, rfl, c, p, l⟩
  · exact .inl x
  · refine .inr ⟨a, xs, ds, rfl, ?_, paired_imp hR p, l⟩
    rcases c with ⟨h, e⟩ | ⟨h, e, n⟩
    · exact .inl ⟨hT _ _ h, e⟩
    · exact .inr ⟨hL _ _ n.1 n.2 h, e, n.1, hN _ n.2⟩
theorem Lv.imp {R R' : V → PyData → Prop} {H H' : Hp} (hR : ∀ v d, R v d → R' v d) (hT : ∀ a xs, H a = some (.tup xs) → H' a = some (.tup xs)) (hL : ∀ a xs, (∀ e t, HO.lst xs ≠ .lst [.ref e, .int t]) → H a = some (.lst xs) → H' a = some (.lst xs)) {v : V} {d : PyData} (x : Lv N R H v d) : Lv N R' H' v d := Lv.imp2 hR hT (fun a xs n _ => hL a xs n) (fun _ z => z) x
theorem Lv1.same {H H' : Hp} (s : Same H H') {v : V} {d : PyData} (x : Lv1 N H v d) : Lv1 N H' v d := Lv.imp (fun _ _ h => h) (fun _ _ => s _ _) (fun _ _ _ => s _ _) x
theorem Lv2.same {H H' : Hp} (s : Same H H') {v : V} {d : PyData} (x : Lv2 N H v d) : Lv2 N H' v d := Lv.imp (fun _ _ h => Lv1.same s h) (fun _ _ => s _ _) (fun _ _ _ => s _ _) x
theorem Lv3.same {H H' : Hp} (s : Same H H') {v : V} {d : PyData} (x : Lv3 N H v d) : Lv3 N H' v d := Lv.imp (fun _ _ h => Lv2.same s h) (fun _ _ => s _ _) (fun _ _ _ => s _ _) x
theorem Lv1.weak {N N' : Addr → Prop} (hN : ∀ a, N a → N' a) {H : Hp} {v : V} {d : PyData} (x : Lv1 N H v d) : Lv1 N' H v d := Lv.imp2 (fun _ _ h => h) (fun _ _ h => h) (fun _ _ _ _ h => h) hN x
theorem Lv2.weak {N N' : Addr → Prop} (hN : ∀ a, N a → N' a) {H : Hp} {v : V} {d : PyData} (x : Lv2 N H v d) : Lv2 N' H v d := Lv.imp2 (fun _ _ h => Lv1.weak hN h) (fun _ _ h => h) (fun _ _ _ _ h => h) hN x
theorem Lv3.weak {N N' : Addr → Prop} (hN : ∀ a, N a → N' a) {H : Hp} {v : V} {d : PyData} (x : Lv3 N H v d) : Lv3 N' H v d := Lv.imp2 (fun _ _ h => Lv2.weak hN h) (fun _ _ h => h) (fun _ _ _ _ h => h) hN x
/-- a list of another's may be changed -/
theorem Lv1.updL {N : Addr → Prop} {H : Hp} {D : Addr} {ys : List V} {u : HO} (e : H D = some (.lst ys)) (n : ¬ N D) {v : V} {d : PyData} (x : Lv1 N H v d) : Lv1 N (upd H D u) v d := Lv.imp2 (fun _ _ h => h) (fun a xs h => by rw [upd_ne (fun z => by rw [z, e] at h; cases h)]; exact h) (fun a xs _ na h => by rw [upd_ne (fun z : a = D => n (z ▸ na))]; exact h) (fun _ h => h) x
theorem Lv2.updL {N : Addr → Prop} {H : Hp} {D : Addr} {ys : List V} {u : HO} (e : H D = some (.lst ys)) (n : ¬ N D) {v : V} {d : PyData} (x : Lv2 N H v d) : Lv2 N (upd H D u) v d := Lv.imp2 (fun _ _ h => Lv1.updL e n h) (fun a xs h => by rw [upd_ne (fun z => by rw [z, e] at h; cases h)]; exact h) (fun a xs _ na h => by rw [upd_ne (fun z : a = D => n (z ▸ na))]; exact h) (fun _ h => h) x
theorem Lv3.updL {N : Addr → Prop} {H : Hp} {D : Addr} {ys : List V} {u : HO} (e : H D = some (.lst ys)) (n : ¬ N D) {v : V} {d : PyData} (x : Lv3 N H v d) : Lv3 N (upd H D u) v d := Lv.imp2 (fun _ _ h => Lv2.updL e n h) (fun a xs h => by rw [upd_ne (fun z => by rw [z, e] at h; cases h)]; exact h) (fun a xs _ na h => by rw [upd_ne (fun z : a = D => n (z ▸ na))]; exact h) (fun _ h => h) x
section
variable {h dr : Addr} {H H' : Hp}
theorem Lv1.kp (hd : Hdd H h dr) (kp : Kp h H H') {v : V} {d : PyData} (x : Lv1 N H v d) : Lv1 N H' v d := Lv.imp (fun _ _ h => h) (fun _ _ e => kp _ _ (hd.ns e (fun _ _ z => by cases z)) e) (fun _ _ n e => kp _ _ (hd.ns e n) e) x
theorem Lv2.kp (hd : Hdd H h dr) (kp : Kp h H H') {v : V} {d : PyData} (x : Lv2 N H v d) : Lv2 N H' v d := Lv.imp (fun _ _ h => Lv1.kp hd kp h) (fun _ _ e => kp _ _ (hd.ns e (fun _ _ z => by cases z)) e) (fun _ _ n e => kp _ _ (hd.ns e n) e) x
theorem Lv3.kp (hd : Hdd H h dr) (kp : Kp h H H') {v : V} {d : PyData} (x : Lv3 N H v d) : Lv3 N H' v d := Lv.imp (fun _ _ h => Lv2.kp hd kp h) (fun _ _ e => kp _ _ (hd.ns e (fun _ _ z => by cases z)) e) (fun _ _ n e => kp _ _ (hd.ns e n) e) x
end
theorem Fl.kn {H : Hp} {v : V} {d : PyData} (x : Fl v d) : Kn H v := by
  cases x with
  | non => exact .non
  | bl b => exact .bl b
  | int i _ => exact .int i
  | str => exact .str _
theorem Lv.kn {R : V → PyData → Prop} {H : Hp} {v : V} {d : PyData} (x : Lv N R H v d) : Kn H v := by
  rcases x with x | ⟨a, xs, ds, rfl, c, p, l⟩
  · exact x.kn
  · rcases c with ⟨h, e⟩ | ⟨h, e, n⟩
    · exact .tup h
    · exact .lst h
def isTup : PyData → Bool
  | .tuple _ => true
  | _ => false
theorem isi_tup {K : PySem.W.Frag} {R : V → PyData → Prop} {H : Hp} {v : V} {d : PyData} (lv : Lv N R H v d) : ∃ t, TyX K H v t ∧ PySem.W.kitOne K t (.type "tuple") = some (isTup d) := by
  rcases lv with x | ⟨a, xs, ds, rfl, c, p, l⟩
  · cases x with
    | non => exact ⟨_, .base .non, kit_ty (r := false) (by decide +kernel)⟩
    | bl b => exact ⟨_, .base (.bl _), kit_ty (r := false) (by decide +kernel)⟩
    | int i _ => exact ⟨_, .base (.int _), kit_ty (r := false) (by decide +kernel)⟩
    | str => exact ⟨_, .base (.str _), kit_ty (r := false) (by decide +kernel)⟩
  · rcases c with ⟨h, rfl⟩ | ⟨h, rfl, _⟩
    · exact ⟨_, .base (.tup h), kit_ty (r := true) (by decide +kernel)⟩
    · exact ⟨_, .base (.lst h), kit_ty (r := false) (by decide +kernel)⟩
theorem tup_of {R : V → PyData → Prop} {H : Hp} {v : V} {d : PyData} (lv : Lv N R H v d) (e : isTup d = true) : ∃ (a : Addr) (xs : List V) (ds : List PyData), v = .ref a ∧ H a = some (.tup xs) ∧ d = .tuple ds ∧ Paired R xs ds ∧ xs.length ≤ 10 := by
  rcases lv with x | ⟨a, xs, ds, rfl, c, p, l⟩
  · cases x <;> cases e
  · rcases c with ⟨h, rfl⟩ | ⟨h, rfl, _⟩
    · exact ⟨a, xs, ds, rfl, h, rfl, p, l⟩
    · cases e
def bitsD : List PyData → Option (List Int)
  | [] => some []
  | .int i :: ds => if i = 0 ∨ i = 1 then (bitsD ds).map (i :: ·) else none
  | _ :: _ => none
def rowD (n : Nat) : PyData → Option (List Int)
  | .tuple ds => if ds.length = n then bitsD ds else none
  | _ => none
def rowsD (n : Nat) : List PyData → Option (List (List Int))
  | [] => some []
  | d :: ds => match rowD n d with
    | some r => (rowsD n ds).map (r :: ·)
    | none => none
theorem bits_fl {xs : List V} {ds : List PyData} (p : Paired Fl xs ds) : (xs.all (isB 2) = true ∧ ∃ bs, bitsD ds = some bs ∧ xs = bs.map V.int ∧ Bits bs) ∨ (xs.all (isB 2) = false ∧ bitsD ds = none) := by
  induction p with
  | nil => exact .inl ⟨rfl, [], rfl, rfl, fun _ m => by cases m⟩
  | @cons x d xs ds e _ ih =>
    rw [List.all_cons]
    cases e with
    | non => exact .inr ⟨rfl, rfl⟩
    | bl b => exact .inr ⟨rfl, rfl⟩
    | str => exact .inr ⟨rfl, rfl⟩
    | int i hi =>
      by_cases c : i = 0 ∨ i = 1
      · have e1 : isB 2 (.int i) = true := by rcases c with rfl | rfl <;> rfl
        have e2 : bitsD (.int i :: ds) = (bitsD ds).map (i :: ·) := by
          show (if i = 0 ∨ i = 1 then _ else none) = _
          rw [if_pos c]
        rw [e1, e2, Bool.true_and]
        rcases ih with ⟨a, bs, b1, b2, b3⟩ | ⟨a, b⟩
        · refine .inl ⟨a, i :: bs, by rw [b1]; rfl, by rw [b2]; rfl, fun x m => ?_⟩
          rcases List.mem_cons.mp m with e | m
          · rw [e]; exact c
          · exact b3 x m
        · exact .inr ⟨a, by rw [b]; rfl⟩
      · have e1 : isB 2 (.int i) = false := by
          show (decide (0 ≤ i) && decide (i < 2)) = false
          cases z : (decide (0 ≤ i) && decide (i < 2)) with
          | false => rfl
          | true =>
            rw [Bool.and_eq_true, decide_eq_true_iff, decide_eq_true_iff] at z
            omega
        refine .inr ⟨by rw [e1]; rfl, ?_⟩
        show (if i = 0 ∨ i = 1 then _ else none) = _
        rw [if_neg c]
theorem row_lv {H : Hp} {v : V} {d : PyData} {n : Nat} {bs : List Int} (lv : Lv1 N H v d) (e : rowD n d = some bs) : ∃ r, v = .ref r ∧ H r = some (.tup (bs.map V.int)) ∧ Bits bs ∧ bs.length = n := by
  have t : isTup d = true := by cases d <;> first | rfl | cases e
  obtain ⟨a, xs, ds, rfl, h, rfl, p, l⟩ := tup_of lv t
  have e2 : (if ds.length = n then bitsD ds else none) = some bs := e
  by_cases c : ds.length = n
  · rw [if_pos c] at e2
    rcases bits_fl p with ⟨_, bs2, b1, b2, b3⟩ | ⟨_, b⟩
    · rw [b1] at e2
      cases e2
      refine ⟨a, rfl, by rw [← b2]; exact h, b3, ?_⟩
      rw [← c, ← paired_len p, b2, List.length_map]
    · rw [b] at e2; cases e2
  · rw [if_neg c] at e2; cases e2
theorem row_B {H : Hp} {xs : List V} {ds : List PyData} {n : Nat} (p : Paired Fl xs ds) : rowB (n : Int) xs = (rowD n (.tuple ds)).isSome := by
  have lx := paired_len p
  show rowB (n : Int) xs = (if ds.length = n then bitsD ds else none).isSome
  unfold rowB
  by_cases c : ds.length = n
  · rw [if_pos c, decide_eq_true (by omega), Bool.true_and]
    rcases bits_fl p with ⟨a, bs2, b1, b2, b3⟩ | ⟨a, b⟩
    · rw [a, b1]; rfl
    · rw [a, b]; rfl
  · rw [if_neg c, decide_eq_false (by omega)]
    rfl
theorem ir_cases {H : Hp} {v : V} {d : PyData} {n : Nat} (lv : Lv1 N H v d) : (Kn H v ∧ (∀ a xs, v = .ref a → H a ≠ some (.tup xs)) ∧ (rowD n d).isSome = false) ∨ ∃ a xs, v = .ref a ∧ H a = some (.tup xs) ∧ (∀ x ∈ xs, Kn H x) ∧ xs.length ≤ 100 ∧ rowB (n : Int) xs = (rowD n d).isSome := by
  cases t : isTup d with
  | true =>
    obtain ⟨a, xs, ds, rfl, h, rfl, p, l⟩ := tup_of lv t
    refine .inr ⟨a, xs, rfl, h, fun x m => ?_, by omega, row_B (H := H) p⟩
    obtain ⟨z1, z2, z3⟩ := paired_zip p
    rw [← z1] at m
    obtain ⟨⟨x, d⟩, mm, rfl⟩ := List.mem_map.mp m
    exact (z3 _ mm).kn
  | false =>
    have e : rowD n d = none := by cases d <;> first | rfl | cases t
    refine .inl ⟨lv.kn, fun a xs ev h => ?_, by rw [e]; rfl⟩
    subst ev
    rcases lv with x | ⟨a2, xs2, ds, e2, c, p, l⟩
    · cases x
    · cases e2
      rcases c with ⟨h2, rfl⟩ | ⟨h2, rfl, _⟩
      · cases t
      · rw [h] at h2; cases h2
theorem rows_isSome {n : Nat} : ∀ {ds : List PyData}, (rowsD n ds).isSome = ds.all fun d => (rowD n d).isSome
  | [] => rfl
  | d :: ds => by
    rw [List.all_cons, ← rows_isSome]
    show (match rowD n d with | some r => (rowsD n ds).map (r :: ·) | none => none).isSome = _
    cases rowD n d with
    | none => rfl
    | some r =>
      show ((rowsD n ds).map (r :: ·)).isSome = (true && _)
      rw [Option.isSome_map, Bool.true_and]
theorem rows_lv {H : Hp} {n : Nat} {vs : List V} {ds : List PyData} (p : Paired (Lv1 N H) vs ds) : ∀ {rs : List (List Int)}, rowsD n ds = some rs → ∃ as : List Addr, vs = as.map V.ref ∧ Rws H as rs ∧ rs.length = ds.length ∧ ∀ r ∈ rs, Bits r ∧ r.length = n := by
  induction p with
  | nil =>
    intro rs e
    cases e
    exact ⟨[], rfl, .nil, rfl, fun _ m => by cases m⟩
  | @cons v d vs ds lv _ ih =>
    intro rs e
    have e2 : (match rowD n d with | some r => (rowsD n ds).map (r :: ·) | none => none) = some rs := e
    cases c : rowD n d with
    | none => rw [c] at e2; cases e2
    | some r =>
      rw [c] at e2
      obtain ⟨rs2, e3, rfl⟩ := Option.map_eq_some_iff.mp e2
      obtain ⟨as, rfl, hr, ll, ok⟩ := ih e3
      obtain ⟨a, rfl, ha, b1, b2⟩ := row_lv lv c
      refine ⟨a :: as, rfl, .cons ha hr, by rw [List.length_cons, List.length_cons, ll], fun x m => ?_⟩
      rcases List.mem_cons.mp m with e | m
      · rw [e]; exact ⟨b1, b2⟩
      · exact ok x m
def needW (w : Str) : Nat := if isOne w = true then 1 else 2
/-- whether a value shows by a price of the book that the book is not of the kind -/
def isF (bks : List Pd) (w : Str) : PyData → Bool
  | .tuple (.int i :: ds) => match (if 0 ≤ i then bks[i.toNat]? else none) with
    | some z => decide (ds.length = needW w) && (match rowsD z.1 ds with | some rs => showsB w z rs | none => false)
    | none => false
  | _ => false
theorem isF_no {bks : List Pd} {w : Str} {d : PyData} (h : isTup d = false) : isF bks w d = false := by cases d <;> first | rfl | cases h
theorem isF_len {bks : List Pd} {w : Str} {d : PyData} {ds : List PyData} (h : ds.length ≠ needW w) : isF bks w (.tuple (d :: ds)) = false := by
  cases d with
  | int i =>
    show (match (if 0 ≤ i then bks[i.toNat]? else none) with
    | some z => decide (ds.length = needW w) && (match rowsD z.1 ds with | some rs => showsB w z rs | none => false)
    | none => false) = false
    rw [decide_eq_false h]
    split <;> rfl
  | _ => rfl
theorem isF_num {bks : List Pd} {w : Str} {v : V} {d : PyData} {ds : List PyData} {R : V → PyData → Prop} {H : Hp} (lv : Lv N R H v d) (h : isB (bks.length : Nat) v = false) : isF bks w (.tuple (d :: ds)) = false := by
  rcases lv with x | ⟨a, xs, es, rfl, c, p, l⟩
  · cases x with
    | int i hi =>
      have z : (decide (0 ≤ i) && decide (i < ((bks.length : Nat) : Int))) = false := h
      show (match (if 0 ≤ i then bks[i.toNat]? else none) with
      | some z => decide (ds.length = needW w) && (match rowsD z.1 ds with | some rs => showsB w z rs | none => false)
      | none => false) = false
      by_cases c : 0 ≤ i
      · rw [if_pos c]
        rw [decide_eq_true c, Bool.true_and] at z
        have := of_decide_eq_false z
        rw [List.getElem?_eq_none (by omega)]
      · rw [if_neg c]
    | _ => rfl
  · rcases c with ⟨h, rfl⟩ | ⟨h, rfl, _⟩ <;> rfl
theorem isF_at {bks : List Pd} {w : Str} {i : Nat} {z : Pd} {ds : List PyData} (h : bks[i]? = some z) : isF bks w (.tuple (.int (i : Int) :: ds)) = (decide (ds.length = needW w) && (match rowsD z.1 ds with | some rs => showsB w z rs | none => false)) := by
  show (match (if (0 : Int) ≤ (i : Int) then bks[(i : Int).toNat]? else none) with
    | some z => decide (ds.length = needW w) && (match rowsD z.1 ds with | some rs => showsB w z rs | none => false)
    | none => false) = _
  rw [if_pos (by omega), Int.toNat_natCast, h]
theorem isB_nat {v : V} {n : Nat} (h : isB (n : Int) v = true) : ∃ i : Nat, v = .int (i : Int) ∧ i < n := by
  cases v with
  | int i =>
    have z : (decide (0 ≤ i) && decide (i < (n : Int))) = true := h
    rw [Bool.and_eq_true, decide_eq_true_iff, decide_eq_true_iff] at z
    exact ⟨i.toNat, by rw [Int.toNat_of_nonneg z.1], by omega⟩
  | _ => cases h
theorem lv_int {R : V → PyData → Prop} {H : Hp} {i : Int} {d : PyData} (lv : Lv N R H (.int i) d) : d = .int i := by
  rcases lv with x | ⟨a, xs, es, e, _⟩
  · cases x; rfl
  · cases e
end CC

namespace CC
open PySem PySem.Spec PyProof.Rows L2 Ek
section
variable {P : Program} {w : World} {K : PySem.W.Frag} {mg : Str → Option Value} {base : Heap}
def spIF2 (C CB : Addr) : Sp := fun vs H Q _ => ∃ (b : Addr) (bks : List Pd) (w : Str) (v : V) (d : PyData), vs = [.ref b, .str w, v] ∧ BkAt C CB H b bks ∧ Lv2 Tr H v d ∧ ∀ H', Same H H' → Q (.bl (isF bks w d)) H'
theorem ok_IF2 {f C CB : Addr} {fd : FuncData} (F : Fun K "_is_fault" "_is_fault" sIF f fd) (B : Bt mg) (T : Pc K mg C) (TB : Bc K mg CB) {fRS : Addr} {fdRS : FuncData} (GRS : FnOk P w K mg base CX0 1 fRS fdRS ["word"] spRS) (kRS : PySem.W.keepIn K (.ref fRS) = true) (bRS : Binds K fdRS ["word"] []) (gRS : mg "rows_to_show" = some (.ref fRS)) {fIB : Addr} {fdIB : FuncData} (GIB : FnOk P w K mg base CX0 2 fIB fdIB ["value", "limit"] spIB) (kIB : PySem.W.keepIn K (.ref fIB) = true) (bIB : Binds K fdIB ["value", "limit"] []) (gIB : mg "is_number_below" = some (.ref fIB)) {fIR : Addr} {fdIR : FuncData} (GIR : FnOk P w K mg base CX0 4 fIR fdIR ["value", "size"] spIR) (kIR : PySem.W.keepIn K (.ref fIR) = true) (bIR : Binds K fdIR ["value", "size"] []) (gIR : mg "is_row" = some (.ref fIR)) {fSH : Addr} {fdSH : FuncData} (GSH : FnOk P w K mg base CX0 7 fSH fdSH ["price", "word", "shown"] (spSH C)) (kSH : PySem.W.keepIn K (.ref fSH) = true) (bSH : Binds K fdSH ["price", "word", "shown"] []) (gSH : mg "shows" = some (.ref fSH)) {fBL : Addr} {fdBL : FuncData} (GBL : FnOk P w K mg base CX0 1 fBL fdBL ["self"] (spBL C CB)) (kBL : PySem.W.keepIn K (.ref fBL) = true) (bBL : Binds K fdBL ["self"] []) (inBL : PySem.W.findIn K (.ref CB) "__len__" = some (some (.ref fBL))) (fnBL : PySem.W.isFn K (.ref fBL) = true) : FnOk P w K mg base CX0 8 f fd ["book", "word", "value"] (spIF2 C CB) := by
  refine F.ok scIF (fun vs H Q E h => ?_) (fun cdv A outer s H vs Q E hr h => ?_)
  · obtain ⟨b, bks, w, v, d, rfl, _⟩ := h
    rfl
  · obtain ⟨b, bks, w, v, d, rfl, bk, lv, q⟩ := h
    obtain ⟨dx, tb, ps, hb, htb, pa, b1, b6⟩ := id bk
    refine ⟨_, (pss_cons (ps_if (PW.pt (pw_or (pt_not (pt_val (pe_callB call_isi (by rfl) B.isinstance (by decide +kernel) (pa_cons (pv 2) (pa_cons (pe_bltn (v := .ty "tuple") (by rfl) B.tuple (by decide +kernel) rfl) pa_nil))))) (pw_or1 (pt_cmpR op_ne (pe_callB call_len_seq (by rfl) B.len PySem.boot_len (pa_cons (pv 2) pa_nil)) (pe_op op_add pe_int (pe_call GRS (hr.mono (by decide)) (by rfl) gRS kRS bRS .nil pass0 (pa_cons (pv 1) pa_nil))) (nomark _)))))
      (pss_one (ps_ret pe_bl)) pss_nil)
      (pss_cons (ps_if (pt_not (pt_val (pe_call GIB (hr.mono (by decide)) (by rfl) gIB kIB bIB .nil pass0 (pa_cons (pe_ix ix_tup (pv 2) pe_int (fun _ _ => rfl)) (pa_cons (pe_callB (call_lenOwn GBL (hr.mono (by decide)) inBL fnBL bBL pass0) (by rfl) B.len PySem.boot_len (pa_cons (pv 0) pa_nil)) pa_nil)))))
      (pss_one (ps_ret pe_bl)) pss_nil)
      (pss_cons (ps_set (i := 3) scIF.nd rfl (.inr rfl) (pe_ix ix_tup (pe_fld (pv 0) rfl) (pe_ix ix_tup (pv 2) pe_int (fun _ _ => rfl)) (fun _ _ => rfl)))
      (pss_cons (ps_set (i := 4) scIF.nd rfl (.inl rfl) (pe_slice sl_tupA (pv 2) (po_some pe_int) po_none))
      (pss_one (ps_ret (pe_and (pe_callB (cr_all rfl) (by rfl) B.all (by decide +kernel) (pa_cons (pe_lc (own := [("row", 5)]) (g := gName 5) (tt := tYes) rfl scIF.nd (pi_tup (pv 4)) (blkOk_by (N := NIF) (sc := defScope sIF) (by decide +kernel)) (fun _ _ _ _ _ => pg_name (i := 5) scIF.nd rfl (Or.inl rfl)) (fun _ _ _ _ _ => pts_nil) (fun _ _ _ _ _ => (pe_call GIR (hr.mono (by decide)) (by rfl) gIR kIR bIR .nil pass0 (pa_cons (pv 5) (pa_cons (pe_fldk K rfl (pv 3)) pa_nil))))) pa_nil)) (pe_one (pe_call GSH (hr.mono (by decide)) (by rfl) gSH kSH bSH .nil pass0 (pa_cons (pv 3) (pa_cons (pv 1) (pa_cons (pv 4) pa_nil)))))))))))), ?_⟩
    refine q_seq (q_if ?_)
    obtain ⟨ty, hty, kty⟩ := isi_tup (K := K) lv
    refine ⟨v, rfl, _, _, ty, _, _, rfl, .ty _, hty, kty, ?_⟩
    cases tt : isTup d with
    | false =>
      refine ⟨false, rfl, ?_⟩
      rw [isF_no tt] at q
      exact q H (Same.refl H)
    | true =>
    refine ⟨true, rfl, ?_⟩
    obtain ⟨t, xs, ds, rfl, ht, rfl, p, l10⟩ := tup_of lv tt
    have lx := paired_len p
    refine ⟨.ref t, rfl, t, _, rfl, .inr (tl ht), .str w, rfl, w, rfl, fun H1 s1 => ⟨_, _, rfl, rfl, rfl, _, rfl, ?_⟩⟩
    rw [dInt]
    have en : (1 + (if isOne w = true then 1 else 2) : Int) = ((1 + needW w : Nat) : Int) := by
      unfold needW
      split <;> rfl
    rw [en]
    by_cases el : xs.length = 1 + needW w
    · rw [decide_eq_true (by omega)]
      dsimp only
      rw [if_neg (by decide)]
      refine q_next ?_
      dsimp only
      cases p with
      | nil => rw [List.length_nil] at el; omega
      | @cons x0 d0 xs ds lv0 p =>
      rw [List.length_cons] at el lx l10
      rw [List.length_cons] at lx
      have eld : ds.length = needW w := by omega
      refine q_seq (q_if ?_)
      refine ⟨.ref t, rfl, t, _, 0, x0, rfl, rfl, tl (s1 _ _ ht), at_z (j := 0) rfl rfl, .ref b, rfl, b, dx, _, rfl, s1 _ _ hb, b, bks, rfl, bk.same s1, bks.length, rfl, by omega, x0, _, rfl, (Lv1.same s1 lv0).kn, ?_⟩
      cases eb : isB ((bks.length : Nat) : Int) x0 with
      | false =>
        refine ⟨false, rfl, ?_⟩
        rw [isF_num lv0 eb] at q
        exact q H1 s1
      | true =>
      refine ⟨true, rfl, ?_⟩
      dsimp only
      rw [if_neg (show ¬ (!true) = true by decide)]
      refine q_next ?_
      dsimp only
      obtain ⟨i, rfl, hi⟩ := isB_nat eb
      obtain rfl := lv_int lv0
      have hz : bks[i]? = some bks[i] := List.getElem?_eq_getElem hi
      generalize bks[i] = z at hz
      obtain ⟨k, ms⟩ := z
      obtain ⟨pp, hp, pr⟩ := paired_get pa hz
      have hpi : (ps.map V.ref)[i]? = some (.ref pp) := by rw [List.getElem?_map, hp]; rfl
      refine q_seq (q_set ?_)
      refine ⟨.ref b, rfl, b, CB, dx, _, .ref tb, rfl, s1 _ _ hb, TB.cl, TB.nP, bk_fld (CB := CB), .ref t, rfl, t, _, 0, .int (i : Nat), rfl, rfl, tl (s1 _ _ ht), at_z (j := 0) rfl rfl, tb, _, _, .ref pp, rfl, rfl, tl (s1 _ _ htb), at_z (j := i) rfl hpi, ?_⟩
      dsimp only
      refine q_seq (q_set ?_)
      refine ⟨.ref t, rfl, ⟨1, rfl, noPart (sl_A (ys := xs) (s1 _ _ ht) (by rw [show (1 : Int) = ((0 : Nat) : Int) + 1 from rfl, cut_lo1]; rfl) fun t2 H2 s2 h2 => ?_)⟩⟩
      have s12 := s1.trans s2
      have pr2 := pr.same s12
      obtain ⟨dxp, tp, hpp, htp, k1, k3, lm⟩ := id pr2
      have p2 : Paired (Lv1 Tr H2) xs ds := paired_imp (fun _ _ h => Lv1.same s12 h) p
      rw [isF_at hz, decide_eq_true eld, Bool.true_and] at q
      simp only at q
      dsimp only
      refine q_ret ?_
      refine ⟨.ref t2, rfl, t2, rfl, ⟨_, tl h2⟩, fun D nD => lc_tup (K := K) (a := t2) (xs := xs) (fun j H' => Same H2 H' ∧ H' D = some (.lst (((ds.take j).map fun d => (rowD k d).isSome).map V.bl))) ⟨same_upd nD, upd_same⟩ (fun j H' _ hP => tl (hP.1 _ _ h2)) (fun j x H' hx hP => ?_) (fun H' hP => ?_)⟩
      · obtain ⟨s', hD⟩ := hP
        have lj : j < xs.length := (List.getElem?_eq_some_iff.mp hx).1
        have hdj : ds[j]? = some ds[j] := List.getElem?_eq_getElem (by omega)
        generalize ds[j] = dj at hdj
        obtain ⟨x', hx', lvj⟩ := paired_get p2 hdj
        rw [hx] at hx'
        cases hx'
        have fin : ∀ H3, Same H' H3 → ∃ acc, H3 D = some (.lst acc) ∧ acc.length < sizeLine ∧ Same H2 (upd H3 D (.lst (acc ++ [V.bl (rowD k dj).isSome]))) ∧ (upd H3 D (.lst (acc ++ [V.bl (rowD k dj).isSome]))) D = some (.lst (((ds.take (j + 1)).map fun d => (rowD k d).isSome).map V.bl)) := fun H3 s3 => by
          refine ⟨_, s3 _ _ hD, ?_, fun b o e => ?_, ?_⟩
          · rw [List.length_map, List.length_map, List.length_take]
            exact small1000 (by omega)
          · rw [upd_ne (ne_of_none e nD)]
            exact s3 _ _ (s' _ _ e)
          · rw [upd_same, List.take_add_one, hdj, List.map_append, List.map_append]
            rfl
        refine ⟨rfl, x, rfl, .ref pp, rfl, pp, C, dxp, _, .int k, rfl, s' _ _ hpp, T.cl, T.nS, pf_size _ _, x, k, rfl, ?_⟩
        rcases ir_cases (n := k) (Lv1.same s' lvj) with ⟨c1, c2, c3⟩ | ⟨a, ys, rfl, c2, c3, c4, c5⟩
        · rw [c3] at fin
          exact .inl ⟨c1, c2, fin H' (Same.refl H')⟩
        · refine .inr ⟨a, ys, rfl, c2, c3, c4, fun H3 s3 => ?_⟩
          rw [c5]
          exact fin H3 s3
      · obtain ⟨s', hD⟩ := hP
        have e5 : ds.take xs.length = ds := by rw [show xs.length = ds.length by omega]; exact List.take_length
        rw [e5] at hD
        refine ⟨D, _, rfl, sl hD, ?_⟩
        have ea : (ds.map fun d => (rowD k d).isSome).all id = (rowsD k ds).isSome := by rw [rows_isSome, List.all_map]; rfl
        rw [ea]
        cases er : rowsD k ds with
        | none =>
          rw [er] at q
          refine ⟨false, rfl, ?_⟩
          exact q H' (s12.trans s')
        | some rs =>
          rw [er] at q
          refine ⟨true, rfl, ?_⟩
          rw [if_pos rfl]
          obtain ⟨as, rfl, hrw, lrs, okr⟩ := rows_lv (paired_imp (fun _ _ h => Lv1.same s' h) p2) er
          refine ⟨.ref pp, rfl, .str w, rfl, .ref t2, rfl, pp, t2, w, k, ms, as, rs, rfl, pr2.same s', s' _ _ h2, hrw, ?_, fun H3 s3 => q H3 (s12.trans (s'.trans s3))⟩
          have ln : rs.length = needW w := by omega
          unfold needW at ln
          by_cases c : isOne w = true
          · rw [if_pos c] at ln ⊢
            match rs, ln, okr with
            | [r], _, okr => exact ⟨r, rfl, okr r List.mem_cons_self⟩
          · rw [if_neg c] at ln ⊢
            match rs, ln, okr with
            | [r, r2], _, okr => exact ⟨r, r2, rfl, okr r List.mem_cons_self, okr r2 (List.mem_cons_of_mem _ List.mem_cons_self)⟩
    · rw [decide_eq_false (by omega)]
      dsimp only
      rw [if_pos (by decide)]
      have e0 : isF bks w (.tuple ds) = false := by
        cases ds with
        | nil => rfl
        | cons d0 ds =>
          refine isF_len ?_
          rw [List.length_cons] at lx
          omega
      rw [e0] at q
      exact q_ret (q H1 s1)
end
end CC

namespace CC
open PySem PySem.Spec PyProof.Rows L2 Ek
theorem eqv_strs : ∀ {ws : List Str}, PyData.eqvAll (ws.map .str) (ws.map .str) = true
  | [] => by simp [PyData.eqvAll]
  | w :: ws => by
    rw [List.map_cons, PyData.eqvAll, eqv_strs, PyData.eqv, beq_self_eq_true]
    rfl
theorem eqv_self {ks : List Str} : PyData.eqv (sideL ks) (sideL ks) = true := by
  unfold sideL
  by_cases c : ks.isEmpty = true
  · rw [if_pos c]
    decide +kernel
  · rw [if_neg c]
    simp [PyData.eqv, PyData.eqvAll, eqv_strs]
theorem len3 {fx : Bool} : (wordsOf fx).length = 3 := by cases fx <;> rfl
def isPap (fx : Bool) (bks : List Pd) : PyData → Bool
  | .tuple ds => if (kindsOf fx bks).isEmpty = true then decide (ds.length = 3) && ((wordsOf fx).zip ds).all fun p => isF bks p.1 p.2 else ds.isEmpty
  | _ => false
theorem isPap_no {fx : Bool} {bks : List Pd} {d : PyData} (h : isTup d = false) : isPap fx bks d = false := by cases d <;> first | rfl | cases h
section
variable {P : Program} {w : World} {K : PySem.W.Frag} {mg : Str → Option Value} {base : Heap}
def spSHo2 (K : PySem.W.Frag) (C CB : Addr) : Sp := fun vs H Q _ => ∃ (b : Addr) (bks : List Pd) (c pz : V) (d : PyData) (fx : Bool), vs = [.ref b, c, pz, .bl fx] ∧ BkAt C CB H b bks ∧ Dp K H c (sideD fx bks) ∧ Lv3 Tr H pz d ∧ ∀ H', Same H H' → Q (.bl (isPap fx bks d)) H'
theorem ok_SHo2 {f C CB aFW aXW : Addr} {fd : FuncData} {kws : List (Str × V)} (F : FunD K "side_holds" "side_holds" (defArgs sSHo) (defBody sSHo) (defScope sSHo) [] kws f fd) (B : Bt mg) (WF : Wt K mg "FREE_WORDS" aFW free3) (WX : Wt K mg "FIXED_WORDS" aXW fixed3) {fSW : Addr} {fdSW : FuncData} (GSW : FnOk P w K mg base CX0 1 fSW fdSW ["fixed"] (spSW aFW aXW)) (kSW : PySem.W.keepIn K (.ref fSW) = true) (bSW : Binds K fdSW ["fixed"] []) (gSW : mg "_words" = some (.ref fSW)) {fIF : Addr} {fdIF : FuncData} (GIF : FnOk P w K mg base CX0 8 fIF fdIF ["book", "word", "value"] (spIF2 C CB)) (kIF : PySem.W.keepIn K (.ref fIF) = true) (bIF : Binds K fdIF ["book", "word", "value"] []) (gIF : mg "_is_fault" = some (.ref fIF))
    {fSD : Addr} {fdSD : FuncData} (GSD : FnOk P w K mg base CX0 11 fSD fdSD ["book", "fixed"] (spSD K C CB)) (kSD : PySem.W.keepIn K (.ref fSD) = true) (gSD : mg "side" = some (.ref fSD)) (knSD : KBn K fdSD ["book", "fixed"] 1 ["fixed"] (fun us ws => us ++ ws) (fun vs zs => vs ++ zs)) : FnOk P w K mg base CX0 12 f fd ["book", "claim", "paper", "fixed"] (spSHo2 K C CB) := by
  refine F.ok scSHo (fun vs H Q E h => ?_) (fun cdv A outer s H vs Q E hr h => ?_)
  · obtain ⟨b, bks, c, pz, d, fx, rfl, _⟩ := h
    rfl
  · obtain ⟨b, bks, c, pz, d, fx, rfl, bk, dpc, lv, q⟩ := h
    refine ⟨_, (pss_cons (ps_if (PW.pt (pw_or (pt_cmpR (op_neD hr.units) (pv 1) (pe_callN GSD (hr.mono (by decide)) (by rfl) gSD kSD knSD pass0 (pa_cons (pv 0) pa_nil) (pk_cons (pv 3) pk_nil)) (nomark _)) (pw_or1 (pt_not (pt_val (pe_callB call_isi (by rfl) B.isinstance (by decide +kernel) (pa_cons (pv 2) (pa_cons (pe_bltn (v := .ty "tuple") (by rfl) B.tuple (by decide +kernel) rfl) pa_nil))))))))
      (pss_one (ps_ret pe_bl)) pss_nil)
      (pss_cons (ps_if (pt_cmpR (op_neD hr.units) (pv 1) (pe_tup (pa_cons pe_str pa_nil)) (nomark _))
      (pss_one (ps_ret (pe_cmpR op_eq (pe_callB call_len_seq (by rfl) B.len PySem.boot_len (pa_cons (pv 2) pa_nil)) pe_int (nomark _)))) pss_nil)
      (pss_one (ps_ret (pe_and (pe_cmpR op_eq (pe_callB call_len_seq (by rfl) B.len PySem.boot_len (pa_cons (pv 2) pa_nil)) pe_int (nomark _)) (pe_one (pe_callB (cr_all rfl) (by rfl) B.all (by decide +kernel) (pa_cons (pe_lc (own := [("word", 4), ("fault", 5)]) (tt := tYes) rfl scSHo.nd (RZ.pi_zipA (by rfl) B.zip (pa_cons (pe_call GSW (hr.mono (by decide)) (by rfl) gSW kSW bSW .nil pass0 (pa_cons (pv 3) pa_nil)) (pa_cons (pv 2) pa_nil))) (blkOk_by (N := NSHo) (sc := defScope sSHo) (by decide +kernel)) (fun _ _ _ _ _ => (pg_tupk (n := 2) K rfl rfl (pgs_cons (pg_name (i := 4) scSHo.nd rfl (Or.inl rfl)) (pgs_cons (pg_name (i := 5) scSHo.nd rfl (Or.inl rfl)) pgs_nil)))) (fun _ _ _ _ _ => pts_nil) (fun _ _ _ _ _ => (pe_call GIF (hr.mono (by decide)) (by rfl) gIF kIF bIF .nil pass0 (pa_cons (pv 0) (pa_cons (pv 4) (pa_cons (pv 5) pa_nil)))))) pa_nil)))))))), ?_⟩
    refine q_seq (q_if ?_)
    refine ⟨c, rfl, .ref b, rfl, .bl fx, rfl, rfl, rfl, b, bks, fx, rfl, bk, fun H1 x s1 dp => ⟨sideD fx bks, sideD fx bks, Ek.Dp.same s1 dpc, dp, sh_side kinds_in, sh_side kinds_in, _, rfl, ?_⟩⟩
    have e1 : PyData.eqv (sideD fx bks) (sideD fx bks) = true := eqv_self
    rw [e1]
    dsimp only
    rw [if_neg (show ¬ (!true) = true by decide)]
    have lv1 := Lv3.same s1 lv
    obtain ⟨ty, hty, kty⟩ := isi_tup (K := K) lv1
    refine ⟨pz, rfl, _, _, ty, _, _, rfl, .ty _, hty, kty, ?_⟩
    cases tt : isTup d with
    | false =>
      refine ⟨false, rfl, ?_⟩
      rw [isPap_no tt] at q
      exact q H1 s1
    | true =>
    refine ⟨true, rfl, ?_⟩
    obtain ⟨p, xs, ds, rfl, hp1, rfl, pr, l10⟩ := tup_of lv1 tt
    have lx := paired_len pr
    rw [if_neg (show ¬ (!true) = true by decide)]
    refine q_next ?_
    dsimp only
    refine q_seq (q_if ?_)
    refine ⟨c, rfl, by show 1 ≤ sizeLine; decide, fun t nt => ?_⟩
    have s2 := same_upd (o := .tup [V.str "all"]) nt
    have s12 := s1.trans s2
    refine ⟨sideD fx bks, .tuple [.str "all"], Ek.Dp.same s12 dpc, .tup (tl upd_same) (.cons (.str _) .nil), sh_side kinds_in, by decide +kernel, _, rfl, ?_⟩
    have ev : PyData.eqv (sideD fx bks) (.tuple [.str "all"]) = (kindsOf fx bks).isEmpty := eqv_all
    rw [ev]
    have hp2 := s2 _ _ hp1
    have ef : isPap fx bks (.tuple ds) = (if (kindsOf fx bks).isEmpty = true then decide (ds.length = 3) && ((wordsOf fx).zip ds).all fun p => isF bks p.1 p.2 else ds.isEmpty) := rfl
    rw [ef] at q
    refine ite2 (fun c2 => ?_) (fun c2 => ?_)
    · have c' : ¬ (kindsOf fx bks).isEmpty = true := by simpa using c2
      rw [if_neg c'] at q
      refine q_ret ?_
      refine ⟨.ref p, rfl, p, _, rfl, .inr (tl hp2), rfl, ?_⟩
      rw [dInt]
      have e0 : decide (((xs.length : Nat) : Int) = 0) = ds.isEmpty := by
        cases ds with
        | nil => rw [lx]; rfl
        | cons a l => exact decide_eq_false (by rw [lx, List.length_cons]; omega)
      rw [e0]
      exact q _ s12
    · have c' : (kindsOf fx bks).isEmpty = true := by simpa using c2
      rw [if_pos c'] at q
      refine q_next ?_
      dsimp only
      refine q_ret ?_
      refine ⟨.ref p, rfl, p, _, rfl, .inr (tl hp2), rfl, ?_⟩
      rw [dInt]
      by_cases l3 : ds.length = 3
      · rw [decide_eq_true (by omega)]
        rw [decide_eq_true l3, Bool.true_and] at q
        refine ⟨true, rfl, ?_⟩
        rw [if_pos rfl]
        have prT : Paired (Lv2 Tr (upd H1 t (.tup [V.str "all"]))) xs ds := paired_imp (fun _ _ h => Lv2.same s2 h) pr
        refine ⟨.bl fx, rfl, fx, rfl, .ref p, rfl, _, p, (wordsOf fx).map V.str, xs, rfl, .inr ⟨words_at WF WX, tl hp2, fun D nD => lc_zipT (K := K) (a := if fx then aXW else aFW) (b := p) (xs := (wordsOf fx).map V.str) (ys := xs) (fun i H' => Same (upd H1 t (.tup [V.str "all"])) H' ∧ H' D = some (.lst (((((wordsOf fx).zip ds).take i).map fun p => isF bks p.1 p.2).map V.bl))) ⟨same_upd nD, upd_same⟩ (fun i H' _ hP => ⟨words_at WF WX, tl (hP.1 _ _ hp2)⟩) (by rw [List.length_map, len3]; omega) (fun i x y H' T1 hx hy hP nT => ?_) (fun H' hP => ?_)⟩⟩
        · obtain ⟨s', hD⟩ := hP
          obtain ⟨w, rfl, hw⟩ : ∃ w, x = V.str w ∧ (wordsOf fx)[i]? = some w := by
            rw [List.getElem?_map] at hx
            cases ee : ((wordsOf fx)[i]? : Option Str) with
            | none => rw [ee] at hx; cases hx
            | some p => rw [ee] at hx; exact ⟨p, (Option.some.inj hx).symm, rfl⟩
          have li : i < 3 := by
            have := (List.getElem?_eq_some_iff.mp hw).1
            rw [len3] at this
            exact this
          have hdi : ds[i]? = some ds[i] := List.getElem?_eq_getElem (by omega)
          generalize ds[i] = di at hdi
          obtain ⟨y', hy', lvi⟩ := paired_get prT hdi
          rw [hy] at hy'
          cases hy'
          have hz : ((wordsOf fx).zip ds)[i]? = some (w, di) := by rw [List.getElem?_zip_eq_some]; exact ⟨hw, hdi⟩
          have sT := s'.trans (same_upd (o := .tup [V.str w, y]) nT)
          have sA := s12.trans sT
          refine ⟨T1, _, rfl, tl upd_same, rfl, _, _, rfl, _, _, rfl, rfl, ?_⟩
          refine ⟨rfl, .ref b, rfl, .str w, rfl, y, rfl, b, bks, w, y, di, rfl, bk.same sA, Lv2.same sT lvi, fun H3 s3 => ?_⟩
          have hD2 := s3 _ _ (same_upd (o := .tup [V.str w, y]) nT _ _ hD)
          refine ⟨_, hD2, ?_, fun b o e => ?_, ?_⟩
          · rw [List.length_map, List.length_map, List.length_take]
            exact small1000 (by omega)
          · rw [upd_ne (ne_of_none e nD)]
            exact s3 _ _ (sT _ _ e)
          · rw [upd_same, List.take_add_one, hz, List.map_append, List.map_append]
            rfl
        · obtain ⟨s', hD⟩ := hP
          have el : ((wordsOf fx).zip ds).take ((wordsOf fx).map V.str).length = (wordsOf fx).zip ds := List.take_of_length_le (by rw [List.length_zip, List.length_map]; omega)
          rw [el] at hD
          refine ⟨D, _, rfl, sl hD, ?_⟩
          have ea : (((wordsOf fx).zip ds).map fun p => isF bks p.1 p.2).all id = ((wordsOf fx).zip ds).all fun p => isF bks p.1 p.2 := by rw [List.all_map]; rfl
          rw [ea]
          exact q H' (s12.trans s')
      · rw [decide_eq_false (by omega)]
        rw [decide_eq_false l3, Bool.false_and] at q
        exact ⟨false, rfl, q _ s12⟩
def spLN : Sp := fun vs H Q _ => ∃ (v : V) (n : Int), vs = [v, .int n] ∧ Kn H v ∧ Q (.bl (isB n v)) H
theorem ok_LN {f : Addr} {fd : FuncData} (F : Fun K "_law_is_number" "_law_is_number" sLN f fd) (B : Bt mg) : FnOk P w K mg base CX0 1 f fd ["value", "most"] spLN := by
  refine F.ok scLN (fun vs H Q E h => ?_) (fun cdv A outer s H vs Q E hr h => ?_)
  · obtain ⟨v, n, rfl, _⟩ := h
    rfl
  · obtain ⟨v, n, rfl, k, q⟩ := h
    refine ⟨_, (pss_one (ps_ret (pe_and (pe_callB call_isi (by rfl) B.isinstance (by decide +kernel) (pa_cons (pv 0) (pa_cons (pe_bltn (v := .ty "int") (by rfl) B.int (by decide +kernel) rfl) pa_nil))) (pe_and (pe_not (pe_callB call_isi (by rfl) B.isinstance (by decide +kernel) (pa_cons (pv 0) (pa_cons (pe_bltn (v := .ty "bool") (by rfl) B.bool (by decide +kernel) rfl) pa_nil)))) (pe_and (pe_cmpR op_ge (pv 0) pe_int (nomark _)) (pe_one (pe_cmpR op_lt (pv 0) (pv 1) (nomark _)))))))), ?_⟩
    refine q_ret ?_
    cases k with
    | non => exact ⟨_, rfl, _, _, _, _, _, rfl, .ty _, .base .non, kit_ty (by decide +kernel), false, rfl, q⟩
    | bl b => exact ⟨_, rfl, _, _, _, _, _, rfl, .ty _, .base (.bl _), kit_ty (by decide +kernel), true, rfl, _, rfl, _, _, _, _, _, rfl, .ty _, .base (.bl _), kit_ty (by decide +kernel), true, rfl, false, rfl, q⟩
    | str x => exact ⟨_, rfl, _, _, _, _, _, rfl, .ty _, .base (.str _), kit_ty (by decide +kernel), false, rfl, q⟩
    | lst e => exact ⟨_, rfl, _, _, _, _, _, rfl, .ty _, .base (.lst e), kit_ty (by decide +kernel), false, rfl, q⟩
    | tup e => exact ⟨_, rfl, _, _, _, _, _, rfl, .ty _, .base (.tup e), kit_ty (by decide +kernel), false, rfl, q⟩
    | int i =>
      refine ⟨_, rfl, _, _, _, _, _, rfl, .ty _, .base (.int _), kit_ty (by decide +kernel), true, rfl, _, rfl, _, _, _, _, _, rfl, .ty _, .base (.int _), kit_ty (by decide +kernel), false, rfl, true, rfl, ?_⟩
      rw [if_pos rfl]
      refine ⟨_, rfl, _, _, rfl, rfl, _, rfl, ?_⟩
      have eb : isB n (.int i) = (decide (0 ≤ i) && decide (i < n)) := rfl
      rw [eb] at q
      by_cases c : 0 ≤ i
      · rw [decide_eq_true c, Bool.true_and] at q
        rw [if_pos (by simpa using c)]
        exact ⟨_, rfl, _, rfl, _, _, rfl, rfl, q⟩
      · rw [decide_eq_false c, Bool.false_and] at q
        rw [if_neg (by simpa using c)]
        have e2 : decide (0 ≤ i) = false := decide_eq_false c
        first | exact q | (rw [e2]; exact q) | (simpa [c] using q)
def spLO : Sp := fun vs H Q _ => ∃ (v : V) (d : PyData) (n : Nat), vs = [v, .int n] ∧ Lv1 Tr H v d ∧ n ≤ 3 ∧ ∀ H', Same H H' → Q (.bl (rowD n d).isSome) H'
theorem ok_LO {f : Addr} {fd : FuncData} (F : Fun K "_law_is_row" "_law_is_row" sLO f fd) (B : Bt mg) {fLN : Addr} {fdLN : FuncData} (GLN : FnOk P w K mg base CX0 1 fLN fdLN ["value", "most"] spLN) (kLN : PySem.W.keepIn K (.ref fLN) = true) (bLN : Binds K fdLN ["value", "most"] []) (gLN : mg "_law_is_number" = some (.ref fLN)) : FnOk P w K mg base CX0 2 f fd ["value", "size"] spLO := by
  refine F.ok scLO (fun vs H Q E h => ?_) (fun cdv A outer s H vs Q E hr h => ?_)
  · obtain ⟨v, d, n, rfl, _⟩ := h
    rfl
  · obtain ⟨v, d, n, rfl, lv, n3, q⟩ := h
    refine ⟨_, (pss_one (ps_ret (pe_and (pe_callB call_isi (by rfl) B.isinstance (by decide +kernel) (pa_cons (pv 0) (pa_cons (pe_bltn (v := .ty "tuple") (by rfl) B.tuple (by decide +kernel) rfl) pa_nil))) (pe_and (pe_cmpR op_eq (pe_callB call_len_seq (by rfl) B.len PySem.boot_len (pa_cons (pv 0) pa_nil)) (pv 1) (nomark _)) (pe_one (pe_callB (cr_all rfl) (by rfl) B.all (by decide +kernel) (pa_cons (pe_lc (own := [("one", 2)]) (g := gName 2) (tt := tYes) rfl scLO.nd (pi_tup (pv 0)) (blkOk_by (N := NLO) (sc := defScope sLO) (by decide +kernel)) (fun _ _ _ _ _ => pg_name (i := 2) scLO.nd rfl (Or.inl rfl)) (fun _ _ _ _ _ => pts_nil) (fun _ _ _ _ _ => (pe_call GLN (hr.mono (by decide)) (by rfl) gLN kLN bLN .nil pass0 (pa_cons (pv 2) (pa_cons pe_int pa_nil))))) pa_nil))))))), ?_⟩
    refine q_ret ?_
    obtain ⟨ty, hty, kty⟩ := isi_tup (K := K) lv
    refine ⟨v, rfl, _, _, ty, _, _, rfl, .ty _, hty, kty, ?_⟩
    cases tt : isTup d with
    | false =>
      have e : rowD n d = none := by cases d <;> first | rfl | cases tt
      rw [e] at q
      exact ⟨false, rfl, q H (Same.refl H)⟩
    | true =>
    refine ⟨true, rfl, ?_⟩
    obtain ⟨a, xs, ds, rfl, ha, rfl, p, l10⟩ := tup_of lv tt
    rw [if_pos rfl]
    refine ⟨.ref a, rfl, a, _, rfl, .inr (tl ha), .int n, rfl, rfl, _, rfl, ?_⟩
    rw [dInt]
    have rb := row_B (H := H) (n := n) p
    unfold rowB at rb
    rw [← rb] at q
    cases c : decide (((xs.length : Nat) : Int) = (n : Int)) with
    | false =>
      rw [c, Bool.false_and] at q
      rw [if_neg (by decide)]
      exact q H (Same.refl H)
    | true =>
      rw [c, Bool.true_and] at q
      rw [if_pos rfl]
      refine ⟨.ref a, rfl, a, rfl, ⟨_, tl ha⟩, fun D nD => lc_tup (K := K) (a := a) (xs := xs) (fun j H' => Same H H' ∧ H' D = some (.lst (((xs.take j).map (isB 2)).map V.bl))) ⟨same_upd nD, upd_same⟩ (fun j H' _ hP => tl (hP.1 _ _ ha)) (fun j x H' hx hP => ?_) (fun H' hP => ?_)⟩
      · obtain ⟨s', hD⟩ := hP
        have lj : j < xs.length := (List.getElem?_eq_some_iff.mp hx).1
        have kx : Kn H' x := by
          obtain ⟨z1, z2, z3⟩ := paired_zip p
          have m := List.mem_of_getElem? hx
          rw [← z1] at m
          obtain ⟨⟨x, d⟩, mm, rfl⟩ := List.mem_map.mp m
          exact (z3 _ mm).kn
        refine ⟨rfl, x, rfl, x, 2, rfl, kx, _, hD, ?_, fun b o e => ?_, ?_⟩
        · rw [List.length_map, List.length_map, List.length_take]
          exact small1000 (by omega)
        · rw [upd_ne (ne_of_none e nD)]
          exact s' _ _ e
        · rw [upd_same, List.take_add_one, hx, List.map_append, List.map_append]
          rfl
      · obtain ⟨s', hD⟩ := hP
        rw [List.take_length] at hD
        refine ⟨D, _, rfl, sl hD, ?_⟩
        have ea : (xs.map (isB 2)).all id = xs.all (isB 2) := by rw [List.all_map]; rfl
        rw [ea]
        exact q H' s'
end
end CC

namespace CC
open PySem PySem.Spec PyProof.Rows L2 Ek
section
variable {P : Program} {w : World} {K : PySem.W.Frag} {mg : Str → Option Value} {base : Heap}
def spLW : Sp := fun vs H Q _ => ∃ fx : Bool, vs = [.bl fx] ∧ ∀ H' L, Same H H' → H' L = some (.lst ((wordsOf fx).map V.str)) → Q (.ref L) H'
theorem ok_LW {f : Addr} {fd : FuncData} (F : Fun K "_law_words" "_law_words" sLW f fd) : FnOk P w K mg base CX0 1 f fd ["fixed"] spLW := by
  refine F.ok scLW (fun vs H Q E h => ?_) (fun cdv A outer s H vs Q E hr h => ?_)
  · obtain ⟨fx, rfl, _⟩ := h
    rfl
  · obtain ⟨fx, rfl, q⟩ := h
    refine ⟨_, (pss_cons (ps_if (pt_val (pv 0))
      (pss_one (ps_ret (pe_lst (pa_cons pe_str (pa_cons pe_str (pa_cons pe_str pa_nil)))))) pss_nil)
      (pss_one (ps_ret (pe_lst (pa_cons pe_str (pa_cons pe_str (pa_cons pe_str pa_nil))))))), ?_⟩
    refine q_seq (q_if ?_)
    refine ⟨.bl fx, rfl, fx, rfl, ?_⟩
    cases fx
    · exact ⟨by show 3 ≤ sizeLine; decide, fun L nL => q _ L (same_upd nL) upd_same⟩
    · exact ⟨by show 3 ≤ sizeLine; decide, fun L nL => q _ L (same_upd nL) upd_same⟩
def spLK : Sp := fun vs H Q _ => ∃ (L : Addr) (ps : List Addr) (bks : List Pd) (fx : Bool), vs = [.ref L, .bl fx] ∧ H L = some (.lst (ps.map V.ref)) ∧ LPs H ps bks ∧ bks.length ≤ 6 ∧ ∀ H' t, Same H H' → H' t = some (.tup ((kindsOf fx bks).map V.str)) → Q (.ref t) H'
theorem ok_LK {f : Addr} {fd : FuncData} (F : Fun K "_law_kinds" "_law_kinds" sLK f fd) (B : Bt mg) {fLW : Addr} {fdLW : FuncData} (GLW : FnOk P w K mg base CX0 1 fLW fdLW ["fixed"] spLW) (kLW : PySem.W.keepIn K (.ref fLW) = true) (bLW : Binds K fdLW ["fixed"] []) (gLW : mg "_law_words" = some (.ref fLW)) {fLF : Addr} {fdLF : FuncData} (GLF : FnOk P w K mg base CX0 4 fLF fdLF ["book", "word"] spLF) (kLF : PySem.W.keepIn K (.ref fLF) = true) (bLF : Binds K fdLF ["book", "word"] []) (gLF : mg "_law_fault" = some (.ref fLF)) : FnOk P w K mg base CX0 5 f fd ["book", "fixed"] spLK := by
  refine F.ok scLK (fun vs H Q E h => ?_) (fun cdv A outer s H vs Q E hr h => ?_)
  · obtain ⟨L, ps, bks, fx, rfl, _⟩ := h
    rfl
  · obtain ⟨L, ps, bks, fx, rfl, hL, lps, b6, q⟩ := h
    refine ⟨_, (pss_one (ps_ret (pe_callTy call_tuple_of (by rfl) B.tuple (by decide +kernel) (pa_cons (pe_lc (own := [("word", 2)]) (g := gName 2) rfl scLK.nd (pi_list (pe_call GLW (hr.mono (by decide)) (by rfl) gLW kLW bLW .nil pass0 (pa_cons (pv 1) pa_nil))) (blkOk_by (N := NLK) (sc := defScope sLK) (by decide +kernel)) (fun _ _ _ _ _ => pg_name (i := 2) scLK.nd rfl (Or.inl rfl)) (fun _ _ _ _ _ => pts_one (pt_cmpR op_isN (pe_call GLF (hr.mono (by decide)) (by rfl) gLF kLF bLF .nil pass0 (pa_cons (pv 0) (pa_cons (pv 2) pa_nil))) pe_non (nomark _))) (fun _ _ _ _ _ => (pv 2))) pa_nil)))), ?_⟩
    refine q_ret ?_
    refine ⟨.bl fx, rfl, fx, rfl, fun H1 W s1 hW => ⟨W, rfl, ⟨_, sl hW⟩, fun D nD => lc_list (K := K) (a := W) (xs := (wordsOf fx).map V.str) (fun i H' => Same H1 H' ∧ H' D = some (.lst ((((wordsOf fx).take i).filter fun w => (faultF w 0 bks).isNone).map V.str))) ⟨same_upd nD, upd_same⟩ (fun i H' _ hP => sl (hP.1 _ _ hW)) (fun i x H' hx hP => ?_) (fun H' hP => ?_)⟩⟩
    · obtain ⟨s', hD⟩ := hP
      obtain ⟨w, rfl, hw⟩ : ∃ w, x = V.str w ∧ (wordsOf fx)[i]? = some w := by
        rw [List.getElem?_map] at hx
        cases ee : ((wordsOf fx)[i]? : Option Str) with
        | none => rw [ee] at hx; cases hx
        | some p => rw [ee] at hx; exact ⟨p, (Option.some.inj hx).symm, rfl⟩
      have mw := in5_of w (List.mem_of_getElem? hw)
      have sA := s1.trans s'
      refine ⟨rfl, .ref L, rfl, .str w, rfl, L, ps, bks, w, rfl, sA _ _ hL, lps.same sA, b6, mw, fun H2 x s2 fl => ⟨rfl, _, rfl, ?_⟩⟩
      rw [flt_non fl, filt_take hw]
      refine ite2 (fun c => ?_) (fun c => ?_)
      · refine ⟨_, rfl, _, s2 _ _ hD, ?_, fun c o e => ?_, ?_⟩
        · rw [List.length_map]
          have z := List.length_filter_le (fun w => (faultF w 0 bks).isNone) ((wordsOf fx).take i)
          have z2 : ((wordsOf fx).take i).length ≤ 3 := by rw [List.length_take, len3]; exact Nat.min_le_right _ _
          exact small1000 (by omega)
        · rw [upd_ne (ne_of_none e nD)]
          exact s2 _ _ (s' _ _ e)
        · rw [if_pos c, upd_same, List.map_append]
          rfl
      · rw [if_neg c, List.append_nil]
        exact ⟨s'.trans s2, s2 _ _ hD⟩
    · obtain ⟨s', hD⟩ := hP
      rw [List.length_map, List.take_length] at hD
      exact ⟨D, _, rfl, .inl ⟨sl hD, fun t nt => q _ t (s1.trans (s'.trans (same_upd nt))) upd_same⟩⟩
/-- a side as it stands -/
def sideV (t : Addr) (ks : List Str) : List V := if ks.isEmpty = true then [.str "all"] else [.str "cut", .ref t]
theorem side_dp {H : Hp} {a t : Addr} {ks : List Str} (ha : H a = some (.tup (sideV t ks))) (ht : H t = some (.tup (ks.map V.str))) : Dp K H (.ref a) (sideL ks) := by
  unfold sideL
  unfold sideV at ha
  by_cases c : ks.isEmpty = true
  · rw [if_pos c] at ha ⊢
    exact .tup (tl ha) (.cons (.str _) .nil)
  · rw [if_neg c] at ha ⊢
    exact .tup (tl ha) (.cons (.str _) (.cons (.tup (tl ht) dp_strs) .nil))
end
/-! ### what a paper shows when told -/
def emptyT : PyData → Bool
  | .tuple [] => true
  | _ => false
theorem fl_ints : ∀ i : Fin 21, (PyData.shown (.int ((i.1 : Int) - 10))).length ≤ 13 ∧ 1 ≤ (PyData.shown (.int ((i.1 : Int) - 10))).length ∧ ¬ PyData.shown (.int ((i.1 : Int) - 10)) = "()" := by decide +kernel
theorem fl_show {v : V} {d : PyData} (x : Fl v d) : Sm 13 0 d ∧ 1 ≤ d.shown.length ∧ ¬ d.shown = "()" := by
  cases x with
  | non => exact ⟨⟨by decide +kernel, by decide +kernel, by decide +kernel, by decide +kernel⟩, by decide +kernel, by decide +kernel⟩
  | bl b => cases b <;> exact ⟨⟨by decide +kernel, by decide +kernel, by decide +kernel, by decide +kernel⟩, by decide +kernel, by decide +kernel⟩
  | str => exact ⟨⟨by decide +kernel, by decide +kernel, by decide +kernel, by decide +kernel⟩, by decide +kernel, by decide +kernel⟩
  | int i hi =>
    have z := fl_ints ⟨(i + 10).toNat, by omega⟩
    simp only at z
    rw [show (((i + 10).toNat : Nat) : Int) - 10 = i by omega] at z
    exact ⟨Sm.int (by omega), z.2⟩
theorem tup_len {ts : List Str} (h : ts ≠ []) : 3 ≤ (tupleText ts).length := by
  unfold tupleText
  rw [strLen_append, strLen_append]
  match ts, h with
  | [t], _ =>
    show 3 ≤ 1 + (Str.join ", " [t]).length + 2
    omega
  | t :: u :: r, _ =>
    have e : ¬ ((t :: u :: r).length == 1) = true := by simp
    rw [if_neg e]
    have z := piled_le_tupleText (t :: u :: r)
    rw [piled_cons, piled_cons] at z
    unfold tupleText at z
    rw [strLen_append, strLen_append, if_neg e] at z
    omega
theorem list_len {ts : List Str} (h : ∀ t ∈ ts, 1 ≤ t.length) (n : ts ≠ []) : 3 ≤ (listText ts).length := by
  unfold listText
  rw [strLen_append]
  have z := (textFrom_len ts 0 "[").1
  have l1 : ("[" : Str).length = 1 := by decide +kernel
  have l2 : ("]" : Str).length = 1 := by decide +kernel
  rw [l1] at z
  rw [l2]
  match ts, h, n with
  | [t], h, _ =>
    have := (textFrom_len [t] 0 "[").2.1 t List.mem_cons_self
    have ht := h t List.mem_cons_self
    have e : textFrom 0 "[" [t] = ("[" : Str) ++ ("" : String) ++ t := rfl
    rw [e, strLen_append, strLen_append, l1]
    have l0 : ((("" : String) : Str)).length = 0 := by decide +kernel
    omega
  | t :: u :: r, _, _ =>
    rw [if_neg (by decide), List.length_cons, List.length_cons] at z
    omega
theorem lv_show {R : V → PyData → Prop} {n k : Nat} (hR : ∀ v d, R v d → Sm n k d ∧ 1 ≤ d.shown.length) (n13 : 13 ≤ n) {H : Hp} {v : V} {d : PyData} (lv : Lv Tr R H v d) : Sm (10 * n + 23) (k + 1) d ∧ 1 ≤ d.shown.length ∧ decide (d.shown = "()") = emptyT d := by
  rcases lv with x | ⟨a, xs, ds, rfl, c, p, l⟩
  · obtain ⟨h1, h2, h3⟩ := fl_show x
    refine ⟨h1.mono (by omega) (by omega), h2, ?_⟩
    rw [decide_eq_false h3]
    cases x <;> rfl
  · have ll := paired_len p
    have all : ∀ d ∈ ds, Sm n k d ∧ 1 ≤ d.shown.length := fun d m => by
      obtain ⟨z1, z2, z3⟩ := paired_zip p
      rw [← z2] at m
      obtain ⟨⟨x, d⟩, mm, rfl⟩ := List.mem_map.mp m
      exact hR _ _ (z3 _ mm)
    have sm1 : ∀ ts : List Str, 1 ≤ 3 := fun _ => by decide
    have mul : ds.length * n ≤ 10 * n := Nat.mul_le_mul_right n (by omega)
    have one : ∀ t ∈ PyData.shownAll ds, 1 ≤ t.length := by
      clear c p l ll mul
      induction ds with
      | nil => intro t m; simp [PyData.shownAll] at m
      | cons d ds ih =>
        intro t m
        simp only [PyData.shownAll, List.mem_cons] at m
        rcases m with e | m
        · rw [e]; exact (all d List.mem_cons_self).2
        · exact ih (fun d m => all d (List.mem_cons_of_mem _ m)) t m
    have ne : ds ≠ [] → PyData.shownAll ds ≠ [] := fun h => by
      cases ds with
      | nil => exact absurd rfl h
      | cons d ds => simp [PyData.shownAll]
    have two : ("()" : Str).length = 2 := by decide +kernel
    rcases c with ⟨h, rfl⟩ | ⟨h, rfl, _⟩
    · refine ⟨(Sm.tuple fun d m => (all d m).1).mono (by omega) (Nat.le_refl _), ?_⟩
      cases ds with
      | nil => exact ⟨by decide +kernel, by decide +kernel⟩
      | cons d ds =>
        have z := tup_len (ne (by simp))
        have e : (PyData.tuple (d :: ds)).shown = tupleText (PyData.shownAll (d :: ds)) := by simp only [PyData.shown]
        rw [e]
        refine ⟨by omega, decide_eq_false fun x => ?_⟩
        rw [x, two] at z
        omega
    · refine ⟨(Sm.list fun d m => (all d m).1).mono (by omega) (Nat.le_refl _), ?_⟩
      cases ds with
      | nil => exact ⟨by decide +kernel, by decide +kernel⟩
      | cons d ds =>
        have z := list_len one (ne (by simp))
        have e : (PyData.list (d :: ds)).shown = listText (PyData.shownAll (d :: ds)) := by simp only [PyData.shown]
        rw [e]
        refine ⟨by omega, decide_eq_false fun x => ?_⟩
        rw [x, two] at z
        omega
theorem lv3_show {H : Hp} {v : V} {d : PyData} (lv : Lv3 Tr H v d) : Okd d ∧ decide (d.shown = "()") = emptyT d := by
  have h1 : ∀ v d, Lv1 Tr H v d → Sm 153 1 d ∧ 1 ≤ d.shown.length := fun v d x => by
    obtain ⟨a, b, _⟩ := lv_show (n := 13) (k := 0) (fun v d f => ⟨(fl_show f).1, (fl_show f).2.1⟩) (by decide) x
    exact ⟨a, b⟩
  have h2 : ∀ v d, Lv2 Tr H v d → Sm 1553 2 d ∧ 1 ≤ d.shown.length := fun v d x => by
    obtain ⟨a, b, _⟩ := lv_show h1 (by decide) x
    exact ⟨a, b⟩
  obtain ⟨a, _, c⟩ := lv_show h2 (by decide) lv
  exact ⟨a.okd (by decide) (by decide), c⟩
theorem lv_dp {K : PySem.W.Frag} {R : V → PyData → Prop} {H : Hp} (hR : ∀ v d, R v d → Dp K H v d) {v : V} {d : PyData} (lv : Lv Tr R H v d) : Dp K H v d := by
  rcases lv with x | ⟨a, xs, ds, rfl, c, p, l⟩
  · cases x with
    | non => exact .non
    | bl b => exact .bl b
    | int i _ => exact .int i
    | str => exact .str _
  · have all : DpAll K H xs ds := by
      clear c l
      induction p with
      | nil => exact .nil
      | cons e _ ih => exact .cons (hR _ _ e) ih
    rcases c with ⟨h, rfl⟩ | ⟨h, rfl, _⟩
    · exact .tup (tl h) all
    · exact .lst (sl h) all
theorem fl_dp {K : PySem.W.Frag} {H : Hp} {v : V} {d : PyData} (x : Fl v d) : Dp K H v d := by
  cases x with
  | non => exact .non
  | bl b => exact .bl b
  | int i _ => exact .int i
  | str => exact .str _
theorem lv3_dp {K : PySem.W.Frag} {H : Hp} {v : V} {d : PyData} (lv : Lv3 Tr H v d) : Dp K H v d := lv_dp (fun _ _ x => lv_dp (fun _ _ x => lv_dp (fun _ _ x => fl_dp x) x) x) lv
theorem isPap_cut {fx : Bool} {bks : List Pd} {d : PyData} (c : ¬ (kindsOf fx bks).isEmpty = true) : isPap fx bks d = emptyT d := by
  cases d with
  | tuple ds =>
    show (if (kindsOf fx bks).isEmpty = true then _ else ds.isEmpty) = _
    rw [if_neg c]
    cases ds <;> rfl
  | _ => rfl
end CC

namespace CC
open PySem PySem.Spec PyProof.Rows L2 Ek
def difs (a b : List Int) (k : Nat) : List Nat := (List.range k).filter fun j => decide (¬ a.getD j 0 = b.getD j 0)
theorem more_difs : ∀ n : Fin 4, ∀ a ∈ rowsOf n.1, ∀ b ∈ rowsOf n.1, more1 a b = (decide ((difs a b n.1).length = 1) && decide (a.getD ((difs a b n.1).headD 0) 0 = 0)) := by decide +kernel
theorem two_shows {w : Str} {z : Pd} {a b : List Int} (m : w ∈ words5) (c : ¬ isOne w = true) : showsB w z [a, b] = (if w = "bent" then brk w z a b else more1 a b && brk w z a b) := by
  show show2 w z a b = _
  rcases word2 m c with e | ⟨e, nb⟩ | ⟨e, nb, nr⟩
  · have n1 : ¬ w = "rising" := by rw [e]; decide +kernel
    have n2 : ¬ w = "falling" := by rw [e]; decide +kernel
    unfold show2 brk
    rw [if_pos e, if_pos e, if_neg n1, if_neg n2]
  · unfold show2 brk
    rw [if_neg nb, if_neg nb, if_pos e, if_pos e]
  · unfold show2 brk
    rw [if_neg nb, if_neg nb, if_neg nr, if_neg nr, if_pos e]
theorem one_shows {w : Str} {z : Pd} {a : List Int} (c : isOne w = true) : showsB w z [a] = decide (costL z.2 a < costL z.2 (List.replicate z.1 (baseV w))) := rfl
theorem rows_mem2 : ∀ {n : Nat} {r : List Int}, Bits r → r.length = n → r ∈ rowsOf n
  | 0, [], _, _ => List.mem_cons_self
  | 0, _ :: _, _, h => by simp at h
  | n + 1, r, hb, hl => by
    have ne : r ≠ [] := fun e => by rw [e] at hl; simp at hl
    have e := List.dropLast_concat_getLast ne
    have lb : r.dropLast.length = n := by rw [List.length_dropLast]; omega
    have m := rows_mem2 (n := n) (r := r.dropLast) (fun x mx => hb x (List.dropLast_subset _ mx)) lb
    have bl := hb _ (List.getLast_mem ne)
    show r ∈ (rowsOf n).flatMap fun r => [r ++ [0], r ++ [1]]
    refine List.mem_flatMap.mpr ⟨_, m, ?_⟩
    rcases bl with b | b <;> rw [b] at e
    · rw [← e, List.dropLast_concat]; exact List.mem_cons_self
    · rw [← e, List.dropLast_concat]; exact List.mem_cons_of_mem _ List.mem_cons_self
section
variable {P : Program} {w : World} {K : PySem.W.Frag} {mg : Str → Option Value} {base : Heap}
theorem rep_one {H : Hp} {l : Addr} {k : Nat} {bv : Int} {Q : VK} (hl : H l = some (.tup [.int bv])) (k1 : 1 ≤ k) (k3 : k ≤ 3) (q : ∀ t H', Same H H' → H' t = some (.tup ((List.replicate k bv).map V.int)) → Q (.ref t) H') : rRepTA K (.ref l) (.int (k : Int)) H Q := by
  by_cases c : k = 1
  · subst c
    exact .inr ⟨l, _, rfl, rfl, tl hl, q l H (Same.refl H) hl⟩
  · refine .inl ⟨l, k, _, rfl, rfl, tl hl, by simp, by omega, by omega, by show 1 ≤ 1000; decide, fun p np => q p _ (same_upd np) ?_⟩
    rw [upd_same, Int.toNat_natCast]
    rcases (show k = 2 ∨ k = 3 by omega) with rfl | rfl <;> rfl
theorem in_rows {a : List Int} {k : Nat} (n3 : k ≤ 3) (b : Bits a) (l : a.length = k) : a ∈ rowsOf k := rows_mem2 b l
def spLH : Sp := fun vs H Q _ => ∃ (L : Addr) (ps : List Addr) (bks : List Pd) (w : Str) (v : V) (d : PyData), vs = [.ref L, .str w, v] ∧ H L = some (.lst (ps.map V.ref)) ∧ LPs H ps bks ∧ bks.length ≤ 6 ∧ w ∈ words5 ∧ Lv2 Tr H v d ∧ ∀ H', Same H H' → Q (.bl (isF bks w d)) H'
theorem ok_LH {f : Addr} {fd : FuncData} (F : Fun K "_law_shows" "_law_shows" sLH f fd) (B : Bt mg) {fLN : Addr} {fdLN : FuncData} (GLN : FnOk P w K mg base CX0 1 fLN fdLN ["value", "most"] spLN) (kLN : PySem.W.keepIn K (.ref fLN) = true) (bLN : Binds K fdLN ["value", "most"] []) (gLN : mg "_law_is_number" = some (.ref fLN)) {fLO : Addr} {fdLO : FuncData} (GLO : FnOk P w K mg base CX0 2 fLO fdLO ["value", "size"] spLO) (kLO : PySem.W.keepIn K (.ref fLO) = true) (bLO : Binds K fdLO ["value", "size"] []) (gLO : mg "_law_is_row" = some (.ref fLO)) {fCost : Addr} {fdCost : FuncData} (GCost : FnOk P w K mg base CX0 2 fCost fdCost ["price", "row"] spCost) (kCost : PySem.W.keepIn K (.ref fCost) = true) (bCost : Binds K fdCost ["price", "row"] []) (gCost : mg "_law_cost" = some (.ref fCost)) {fBR : Addr} {fdBR : FuncData} (GBR : FnOk P w K mg base CX0 3 fBR fdBR ["price", "word", "one", "other"] spBR) (kBR : PySem.W.keepIn K (.ref fBR) = true) (bBR : Binds K fdBR ["price", "word", "one", "other"] []) (gBR : mg "_law_breaks" = some (.ref fBR)) : FnOk P w K mg base CX0 4 f fd ["book", "word", "value"] spLH := by
  refine F.ok scLH (fun vs H Q E h => ?_) (fun cdv A outer s H vs Q E hr h => ?_)
  · obtain ⟨L, ps, bks, w, v, d, rfl, _⟩ := h
    rfl
  · obtain ⟨L, ps, bks, w, v, d, rfl, hL, lps, b6, m5, lv, q⟩ := h
    have ln := paired_len lps
    refine ⟨_, (pss_cons (ps_if (PW.pt (pw_or (pt_not (pt_val (pe_callB call_isi (by rfl) B.isinstance (by decide +kernel) (pa_cons (pv 2) (pa_cons (pe_bltn (v := .ty "tuple") (by rfl) B.tuple (by decide +kernel) rfl) pa_nil))))) (pw_or (pt_cmpR op_lt (pe_callB call_len_seq (by rfl) B.len PySem.boot_len (pa_cons (pv 2) pa_nil)) pe_int (nomark _)) (pw_or1 (pt_not (pt_val (pe_call GLN (hr.mono (by decide)) (by rfl) gLN kLN bLN .nil pass0 (pa_cons (pe_ix ix_tup (pv 2) pe_int (fun _ _ => rfl)) (pa_cons (pe_callB call_len_seq (by rfl) B.len PySem.boot_len (pa_cons (pv 0) pa_nil)) pa_nil)))))))))
      (pss_one (ps_ret pe_bl)) pss_nil)
      (pss_cons (ps_set (i := 3) scLH.nd rfl (.inr rfl) (pe_ix ix_list (pv 0) (pe_ix ix_tup (pv 2) pe_int (fun _ _ => rfl)) (fun _ _ => rfl)))
      (pss_cons (ps_if (pt_not (pt_val (pe_callB (cr_all rfl) (by rfl) B.all (by decide +kernel) (pa_cons (pe_lc (own := [("row", 9)]) (g := gName 9) (tt := tYes) rfl scLH.nd (pi_tup (pe_slice sl_tupA (pv 2) (po_some pe_int) po_none)) (blkOk_by (N := NLH) (sc := defScope sLH) (by decide +kernel)) (fun _ _ _ _ _ => pg_name (i := 9) scLH.nd rfl (Or.inl rfl)) (fun _ _ _ _ _ => pts_nil) (fun _ _ _ _ _ => (pe_call GLO (hr.mono (by decide)) (by rfl) gLO kLO bLO .nil pass0 (pa_cons (pv 9) (pa_cons (pe_ix (ixt_k K rfl) (pv 3) pe_int (fun _ _ => rfl)) pa_nil))))) pa_nil))))
      (pss_one (ps_ret pe_bl)) pss_nil)
      (pss_cons (ps_if (pt_cmpR op_in_seq (pv 1) (pe_lst (pa_cons pe_str (pa_cons pe_str pa_nil))) (by with_unfolding_all rfl))
      (pss_cons (ps_set (i := 4) scLH.nd rfl (.inl rfl) (pe_op op_repTA (pe_tup (pa_cons (pe_callTy call_int1 (by rfl) B.int (by decide +kernel) (pa_cons (pe_cmpR op_eq (pv 1) pe_str (nomark _)) pa_nil)) pa_nil)) (pe_ix ix_tup (pv 3) pe_int (fun _ _ => rfl))))
      (pss_one (ps_ret (pe_and (pe_cmpR op_eq (pe_callB call_len_seq (by rfl) B.len PySem.boot_len (pa_cons (pv 2) pa_nil)) pe_int (nomark _)) (pe_one (pe_cmpR op_lt (pe_call GCost (hr.mono (by decide)) (by rfl) gCost kCost bCost .nil pass0 (pa_cons (pv 3) (pa_cons (pe_ix ix_tup (pv 2) pe_int (fun _ _ => rfl)) pa_nil))) (pe_call GCost (hr.mono (by decide)) (by rfl) gCost kCost bCost .nil pass0 (pa_cons (pv 3) (pa_cons (pv 4) pa_nil))) (nomark _))))))) pss_nil)
      (pss_cons (ps_if (pt_cmpR op_ne (pe_callB call_len_seq (by rfl) B.len PySem.boot_len (pa_cons (pv 2) pa_nil)) pe_int (nomark _))
      (pss_one (ps_ret pe_bl)) pss_nil)
      (pss_cons (ps_asg (pe_tup (pa_cons (pe_ix ix_tup (pv 2) pe_int (fun _ _ => rfl)) (pa_cons (pe_ix ix_tup (pv 2) pe_int (fun _ _ => rfl)) pa_nil))) (pg_tup (by rfl) (pgs_cons (pg_name (i := 5) scLH.nd rfl (.inr rfl)) (pgs_cons (pg_name (i := 6) scLH.nd rfl (.inr rfl)) pgs_nil))))
      (pss_cons (ps_if (pt_cmpR op_ne (pv 1) pe_str (nomark _))
      (pss_cons (ps_setLc (i := 7) (own := [("k", 8)]) (g := gName 8) rfl scLH.nd rfl rfl (sw_true rfl rfl rfl (by decide +kernel)) (pi_range1 rfl B.range (pa_cons (pe_ix ix_tup (pv 3) pe_int (fun _ _ => rfl)) pa_nil)) (blkOk_by (N := NLH) (sc := defScope sLH) (by decide +kernel)) (fun _ _ _ _ _ => pg_name (i := 8) scLH.nd rfl (Or.inl rfl)) (fun _ _ _ _ _ => pts_one (pt_cmpR op_ne (pe_ix (ixt_k K rfl) (pv 5) (pv 8) (fun _ _ => rfl)) (pe_ix (ixt_k K rfl) (pv 6) (pv 8) (fun _ _ => rfl)) (nomark _))) (fun _ _ _ _ _ => (pv 8)))
      (pss_one (ps_if (PW.pt (pw_or (pt_cmpR op_ne (pe_callB call_len_seq (by rfl) B.len PySem.boot_len (pa_cons (pv 7) pa_nil)) pe_int (nomark _)) (pw_or1 (pt_cmpR op_ne (pe_ix ix_tup (pv 5) (pe_ix ix_list (pv 7) pe_int (fun _ _ => rfl)) (fun _ _ => rfl)) pe_int (nomark _)))))
      (pss_one (ps_ret pe_bl)) pss_nil))) pss_nil)
      (pss_one (ps_ret (pe_call GBR (hr.mono (by decide)) (by rfl) gBR kBR bBR .nil pass0 (pa_cons (pv 3) (pa_cons (pv 1) (pa_cons (pv 5) (pa_cons (pv 6) pa_nil)))))))))))))), ?_⟩
    refine q_seq (q_if ?_)
    obtain ⟨ty, hty, kty⟩ := isi_tup (K := K) lv
    refine ⟨v, rfl, _, _, ty, _, _, rfl, .ty _, hty, kty, ?_⟩
    cases tt : isTup d with
    | false =>
      refine ⟨false, rfl, ?_⟩
      rw [isF_no tt] at q
      exact q H (Same.refl H)
    | true =>
    refine ⟨true, rfl, ?_⟩
    obtain ⟨t, xs, ds, rfl, ht, rfl, p, l10⟩ := tup_of lv tt
    have lx := paired_len p
    refine ⟨.ref t, rfl, t, _, rfl, .inr (tl ht), _, _, rfl, rfl, _, rfl, ?_⟩
    by_cases l2 : xs.length < 2
    · rw [decide_eq_true (by omega)]
      have e0 : isF bks w (.tuple ds) = false := by
        cases ds with
        | nil => rfl
        | cons d0 ds =>
          refine isF_len ?_
          rw [List.length_cons] at lx
          unfold needW
          split <;> omega
      rw [e0] at q
      exact q H (Same.refl H)
    rw [decide_eq_false (by omega)]
    cases p with
    | nil => rw [List.length_nil] at l2; omega
    | @cons x0 d0 xs ds lv0 p =>
    rw [List.length_cons] at l2 lx l10
    rw [List.length_cons] at lx
    have lps' : (ps.map V.ref).length = bks.length := by rw [List.length_map]; exact ln
    refine ⟨.ref t, rfl, t, _, 0, x0, rfl, rfl, tl ht, at_z (j := 0) rfl rfl, .ref L, rfl, L, _, rfl, .inl (sl hL), x0, _, rfl, lv0.kn, ?_⟩
    rw [lps']
    cases eb : isB ((bks.length : Nat) : Int) x0 with
    | false =>
      refine ⟨false, rfl, ?_⟩
      rw [isF_num lv0 eb] at q
      exact q H (Same.refl H)
    | true =>
    refine ⟨true, rfl, ?_⟩
    dsimp only
    rw [if_neg (show ¬ (!true) = true by decide)]
    refine q_next ?_
    obtain ⟨i, rfl, hi⟩ := isB_nat eb
    obtain rfl := lv_int lv0
    have hz : bks[i]? = some bks[i] := List.getElem?_eq_getElem hi
    generalize bks[i] = z at hz
    obtain ⟨k, ms⟩ := z
    obtain ⟨pp, hp, lpr⟩ := paired_get lps hz
    obtain ⟨tp, h1, h2, k1, k3, lm, bd⟩ := id lpr
    simp only at h1 h2 k1 k3 lm
    have hpi : (ps.map V.ref)[i]? = some (.ref pp) := by rw [List.getElem?_map, hp]; rfl
    rw [isF_at hz] at q
    simp only at q
    dsimp only
    refine q_seq (q_set ?_)
    refine ⟨.ref L, rfl, .ref t, rfl, t, _, 0, .int (i : Nat), rfl, rfl, tl ht, at_z (j := 0) rfl rfl, L, _, _, .ref pp, rfl, rfl, sl hL, at_z (j := i) rfl hpi, ?_⟩
    dsimp only
    -- the rows
    refine q_seq (q_if ?_)
    refine ⟨.ref t, rfl, ⟨1, rfl, noPart (sl_A (ys := xs) ht (by rw [show (1 : Int) = ((0 : Nat) : Int) + 1 from rfl, cut_lo1]; rfl) fun t2 H2 s2 h2' => ?_)⟩⟩
    have p2 : Paired (Lv1 Tr H2) xs ds := paired_imp (fun _ _ h => Lv1.same s2 h) p
    refine ⟨t2, rfl, ⟨_, tl h2'⟩, fun D nD => lc_tup (K := K) (a := t2) (xs := xs) (fun j H' => Same H2 H' ∧ H' D = some (.lst (((ds.take j).map fun d => (rowD k d).isSome).map V.bl))) ⟨same_upd nD, upd_same⟩ (fun j H' _ hP => tl (hP.1 _ _ h2')) (fun j x H' hx hP => ?_) (fun H' hP => ?_)⟩
    · obtain ⟨s', hD⟩ := hP
      have lj : j < xs.length := (List.getElem?_eq_some_iff.mp hx).1
      have hdj : ds[j]? = some ds[j] := List.getElem?_eq_getElem (by omega)
      generalize ds[j] = dj at hdj
      obtain ⟨x', hx', lvj⟩ := paired_get p2 hdj
      rw [hx] at hx'
      cases hx'
      refine ⟨rfl, x, rfl, .ref pp, rfl, pp, _, 0, .int k, rfl, rfl, tl (s' _ _ (s2 _ _ h1)), at_z (j := 0) rfl rfl, x, dj, k, rfl, Lv1.same s' lvj, k3, fun H3 s3 => ?_⟩
      refine ⟨_, s3 _ _ hD, ?_, fun b o e => ?_, ?_⟩
      · rw [List.length_map, List.length_map, List.length_take]
        exact small1000 (by omega)
      · rw [upd_ne (ne_of_none e nD)]
        exact s3 _ _ (s' _ _ e)
      · rw [upd_same, List.take_add_one, hdj, List.map_append, List.map_append]
        rfl
    obtain ⟨s', hD⟩ := hP
    have e5 : ds.take xs.length = ds := by rw [show xs.length = ds.length by omega]; exact List.take_length
    rw [e5] at hD
    refine ⟨D, _, rfl, sl hD, ?_⟩
    have ea : (ds.map fun d => (rowD k d).isSome).all id = (rowsD k ds).isSome := by rw [rows_isSome, List.all_map]; rfl
    rw [ea]
    have s02 := s2.trans s'
    cases er : rowsD k ds with
    | none =>
      rw [er] at q
      simp only [Bool.and_false] at q
      exact ⟨false, rfl, q H' s02⟩
    | some rs =>
    rw [er] at q
    simp only at q
    refine ⟨true, rfl, ?_⟩
    dsimp only
    rw [if_neg (show ¬ (!true) = true by decide)]
    refine q_next ?_
    obtain ⟨as, rfl, hrw, lrs, okr⟩ := rows_lv (paired_imp (fun _ _ h => Lv1.same s' h) p2) er
    have ht' := s02 _ _ ht
    have h1' := s02 _ _ h1
    have h2'' := s02 _ _ h2
    have lpr' := lpr.same s02
    have las := paired_len hrw
    rw [List.length_map] at lx l10
    clear hD ea e5 p2 h2' s2 nD s' p lv eb hty kty
    have lk : (V.int (i : Int) :: as.map V.ref).length = as.length + 1 := by rw [List.length_cons, List.length_map]
    dsimp only
    refine q_seq (q_if ?_)
    refine ⟨.str w, rfl, by show 2 ≤ sizeLine; decide, fun tw ntw => ⟨tw, _, rfl, .inl (sl upd_same), rfl, rfl, ?_⟩⟩
    rw [if_neg (show ¬ false = true by decide), isOne_in]
    refine ⟨_, rfl, ?_⟩
    have s3 := same_upd (o := .lst [V.str "all no", V.str "all yes"]) ntw
    replace ht' := s3 _ _ ht'
    replace h1' := s3 _ _ h1'
    replace h2'' := s3 _ _ h2''
    replace lpr' := lpr'.same s3
    replace hrw := hrw.same s3
    replace s02 := s02.trans s3
    generalize upd H' tw (.lst [V.str "all no", V.str "all yes"]) = H3 at s3 ht' h1' h2'' lpr' hrw s02 ⊢
    clear s3 ntw
    refine ite2 (fun c => ?_) (fun c => ?_)
    · refine q_seq (q_set ?_)
      have ebw : (if decide (V.str w = V.str "all yes") = true then (1 : Int) else 0) = baseV w := by
        rw [dStr]
        unfold isOne at c
        unfold baseV
        by_cases e : w = "all yes"
        · rw [decide_eq_true e, if_pos rfl, if_neg (by rw [e]; decide +kernel)]
        · rw [decide_eq_false e, if_neg (by decide)]
          rw [decide_eq_false e, Bool.or_false] at c
          rw [if_pos (of_decide_eq_true c)]
      refine ⟨.str w, rfl, rfl, .inr ⟨_, rfl, by show 1 ≤ sizeLine; decide, fun tb ntb => ?_⟩⟩
      rw [ebw]
      have s4 := same_upd (o := .tup [V.int (baseV w)]) ntb
      refine ⟨.ref pp, rfl, pp, _, 0, .int k, rfl, rfl, tl (s4 _ _ h1'), at_z (j := 0) rfl rfl, rep_one upd_same k1 k3 fun tr H5 s5 htr => ?_⟩
      have s45 := s4.trans s5
      dsimp only
      refine q_ret ?_
      refine ⟨.ref t, rfl, t, _, rfl, .inr (tl (s45 _ _ ht')), rfl, _, rfl, ?_⟩
      rw [dInt, lk]
      have nw : needW w = 1 := by unfold needW; rw [if_pos c]
      rw [nw] at q
      by_cases l1 : as.length = 1
      · rw [decide_eq_true (show ((as.length + 1 : Nat) : Int) = 2 by omega), if_pos rfl]
        rw [decide_eq_true (show ds.length = 1 by omega), Bool.true_and] at q
        match as, rs, l1, hrw, okr, q, ht', lrs with
        | [a1], [r1], _, .cons ha1 _, okr, q, ht', _ =>
          obtain ⟨ob, ol⟩ := okr r1 List.mem_cons_self
          rw [one_shows c] at q
          refine ⟨.ref pp, rfl, .ref t, rfl, t, _, 1, .ref a1, rfl, rfl, tl (s45 _ _ ht'), at_z (j := 1) rfl rfl, pp, tp, a1, k, ms, r1, rfl, s45 _ _ h1', s45 _ _ h2'', lm, k3, s45 _ _ ha1, ob, ol, .ref pp, rfl, .ref tr, rfl, pp, tp, tr, k, ms, List.replicate k (baseV w), rfl, s45 _ _ h1', s45 _ _ h2'', lm, k3, htr, base_bits, by rw [List.length_replicate], _, _, rfl, rfl, ?_⟩
          exact q H5 (s02.trans s45)
      · rw [decide_eq_false (show ¬ ((as.length + 1 : Nat) : Int) = 2 by omega), if_neg (by decide)]
        rw [decide_eq_false (show ¬ ds.length = 1 by omega), Bool.false_and] at q
        exact q H5 (s02.trans s45)
    · refine q_next ?_
      dsimp only
      have nw : needW w = 2 := by unfold needW; rw [if_neg c]
      rw [nw] at q
      refine q_seq (q_if ?_)
      refine ⟨.ref t, rfl, t, _, rfl, .inr (tl ht'), rfl, _, rfl, ?_⟩
      rw [dInt, lk]
      by_cases l2' : as.length = 2
      · rw [decide_eq_true (show ((as.length + 1 : Nat) : Int) = 3 by omega)]
        first | rw [if_neg (show ¬ (!true) = true by decide)] | (dsimp only; rw [if_neg (show ¬ (!true) = true by decide)])
        rw [decide_eq_true (show ds.length = 2 by omega), Bool.true_and] at q
        match as, rs, l2', hrw, okr, q, ht', lrs with
        | [a1, a2], [r1, r2], _, .cons ha1 (.cons ha2 _), okr, q, ht', _ =>
          obtain ⟨ob1, ol1⟩ := okr r1 List.mem_cons_self
          obtain ⟨ob2, ol2⟩ := okr r2 (List.mem_cons_of_mem _ List.mem_cons_self)
          rw [two_shows m5 c] at q
          refine q_next ?_
          dsimp only
          refine q_seq ?_
          refine ⟨.ref t, rfl, t, _, 1, .ref a1, rfl, rfl, tl ht', at_z (j := 1) rfl rfl, .ref t, rfl, t, _, 2, .ref a2, rfl, rfl, tl ht', at_z (j := 2) rfl rfl, by show 2 ≤ sizeLine; decide, fun tq ntq => ⟨tq, _, rfl, tl upd_same, rfl, .ref a1, _, rfl, .ref a2, _, rfl, rfl, ?_⟩⟩
          have s4 := same_upd (o := .tup [V.ref a1, V.ref a2]) ntq
          replace h1' := s4 _ _ h1'
          replace lpr' := lpr'.same s4
          replace ha1 := s4 _ _ ha1
          replace ha2 := s4 _ _ ha2
          replace s02 := s02.trans s4
          generalize upd H3 tq (.tup [V.ref a1, V.ref a2]) = H5 at s4 h1' lpr' ha1 ha2 s02 ⊢
          clear s4 ntq
          dsimp only
          refine q_seqJ (fun σ H' => Same H5 H' ∧ (w = "bent" ∨ more1 r1 r2 = true) ∧ ∃ x7 x8 : Option V, σ = [some (.ref L), some (.str w), some (.ref t), some (.ref pp), none, some (.ref a1), some (.ref a2), x7, x8, none]) (fun σ' H6 hJ => ?_) (fun J => ?_)
          · obtain ⟨s6, hm, x7, x8, rfl⟩ := hJ
            refine q_ret ?_
            refine ⟨.ref pp, rfl, .str w, rfl, .ref a1, rfl, .ref a2, rfl, pp, a1, a2, w, (k, ms), r1, r2, rfl, lpr'.same s6, s6 _ _ ha1, ob1, ol1, s6 _ _ ha2, ob2, ol2, fun H7 s7 => ?_⟩
            have e7 : (if w = "bent" then brk w (k, ms) r1 r2 else more1 r1 r2 && brk w (k, ms) r1 r2) = brk w (k, ms) r1 r2 := by
              rcases hm with e | e
              · rw [if_pos e]
              · split
                · rfl
                · rw [e, Bool.true_and]
            rw [e7] at q
            exact q H7 (s02.trans (s6.trans s7))
          · refine q_if ?_
            refine ⟨.str w, rfl, rfl, _, rfl, ?_⟩
            rw [dStr]
            by_cases eb : w = "bent"
            · rw [decide_eq_true eb]
              first | rw [if_neg (show ¬ (!true) = true by decide)] | (dsimp only; rw [if_neg (show ¬ (!true) = true by decide)])
              refine q_next ?_
              exact J _ _ ⟨Same.refl H5, .inl eb, none, none, rfl⟩
            · rw [decide_eq_false eb]
              first | rw [if_pos (show (!false) = true by decide)] | (dsimp only; rw [if_pos (show (!false) = true by decide)])
              have md := more_difs ⟨k, by omega⟩ r1 (in_rows k3 ob1 ol1) r2 (in_rows k3 ob2 ol2)
              simp only at md
              refine q_seq ?_
              refine ⟨.ref pp, rfl, pp, _, 0, .int k, rfl, rfl, tl h1', at_z (j := 0) rfl rfl, (k : Int), rfl, by omega, by omega, fun D nD => lc_range (lo := 0) (n := k) (fun i H' => Same H5 H' ∧ H' D = some (.lst ((difs r1 r2 i).map fun (j : Nat) => V.int (j : Int)))) ⟨same_upd nD, upd_same⟩ (fun i H' hi hP => ?_) (fun H' hP => ?_)⟩
              · obtain ⟨s', hD⟩ := hP
                have g1 : (r1.map V.int)[i]? = some (.int r1[i]) := row_int (by omega)
                have g2 : (r2.map V.int)[i]? = some (.int r2[i]) := row_int (by omega)
                refine ⟨rfl, .ref a1, rfl, _, rfl, a1, _, _, _, rfl, rfl, tl (s' _ _ ha1), at_z (j := i) (by omega) g1, .ref a2, rfl, _, rfl, a2, _, _, _, rfl, rfl, tl (s' _ _ ha2), at_z (j := i) (by omega) g2, rfl, _, rfl, ?_⟩
                have ed : difs r1 r2 (i + 1) = difs r1 r2 i ++ (if decide (¬ r1[i] = r2[i]) = true then [i] else []) := by
                  unfold difs
                  rw [List.range_succ, List.filter_append]
                  congr 1
                  have e1 : r1.getD i 0 = r1[i] := by rw [List.getD_eq_getElem?_getD, List.getElem?_eq_getElem (by omega)]; rfl
                  have e2 : r2.getD i 0 = r2[i] := by rw [List.getD_eq_getElem?_getD, List.getElem?_eq_getElem (by omega)]; rfl
                  show List.filter _ [i] = _
                  by_cases e : r1[i] = r2[i]
                  · rw [List.filter_cons_of_neg (by rw [e1, e2]; simpa using e), List.filter_nil, if_neg (by simpa using e)]
                  · rw [List.filter_cons_of_pos (by rw [e1, e2]; simpa using e), List.filter_nil, if_pos (by simpa using e)]
                rw [dInt, ed]
                by_cases e : r1[i] = r2[i]
                · rw [decide_eq_true e]
                  first | rw [if_neg (show ¬ (!true) = true by decide)] | (dsimp only; rw [if_neg (show ¬ (!true) = true by decide)])
                  rw [if_neg (by simpa using e), List.append_nil]
                  exact ⟨s', hD⟩
                · rw [decide_eq_false e]
                  first | rw [if_pos (show (!false) = true by decide)] | (dsimp only; rw [if_pos (show (!false) = true by decide)])
                  rw [if_pos (by simpa using e)]
                  refine ⟨_, rfl, _, hD, ?_, fun b o e => ?_, ?_⟩
                  · rw [List.length_map]
                    have z := List.length_filter_le (fun j => decide (¬ r1.getD j 0 = r2.getD j 0)) (List.range i)
                    rw [List.length_range] at z
                    exact small1000 (by unfold difs; omega)
                  · rw [upd_ne (ne_of_none e nD)]
                    exact s' _ _ e
                  · rw [upd_same, List.map_append, Int.zero_add]
                    rfl
              · obtain ⟨s', hD⟩ := hP
                dsimp only
                refine q_if ?_
                refine ⟨.ref D, rfl, D, _, rfl, .inl (sl hD), rfl, _, rfl, ?_⟩
                rw [dInt, List.length_map]
                by_cases l1 : (difs r1 r2 k).length = 1
                · rw [decide_eq_true (show (((difs r1 r2 k).length : Nat) : Int) = 1 by omega)]
                  first | rw [if_neg (show ¬ (!true) = true by decide)] | (dsimp only; rw [if_neg (show ¬ (!true) = true by decide)])
                  rw [decide_eq_true l1, Bool.true_and] at md
                  have mj : ∀ j ∈ difs r1 r2 k, j < k := fun j m => List.mem_range.mp (List.mem_filter.mp m).1
                  generalize difs r1 r2 k = dd at l1 md hD mj
                  match dd, l1, md, hD, mj with
                  | [j], _, md, hD, mj =>
                    have jk := mj j List.mem_cons_self
                    have g1 : (r1.map V.int)[j]? = some (.int r1[j]) := row_int (by omega)
                    have e1 : r1.getD j 0 = r1[j] := by rw [List.getD_eq_getElem?_getD, List.getElem?_eq_getElem (by omega)]; rfl
                    have md2 : more1 r1 r2 = decide (r1[j] = 0) := by rw [md]; show decide (r1.getD j 0 = 0) = _; rw [e1]
                    refine ⟨.ref a1, rfl, .ref D, rfl, D, _, 0, .int (j : Nat), rfl, rfl, sl hD, at_z (j := 0) rfl rfl, a1, _, _, _, rfl, rfl, tl (s' _ _ ha1), at_z (j := j) rfl g1, rfl, _, rfl, ?_⟩
                    rw [dInt]
                    by_cases e : r1[j] = 0
                    · rw [decide_eq_true e]
                      first | rw [if_neg (show ¬ (!true) = true by decide)] | (dsimp only; rw [if_neg (show ¬ (!true) = true by decide)])
                      refine q_next ?_
                      exact J _ _ ⟨s', .inr (by rw [md2, decide_eq_true e]), _, _, rfl⟩
                    · rw [decide_eq_false e]
                      first | rw [if_pos (show (!false) = true by decide)] | (dsimp only; rw [if_pos (show (!false) = true by decide)])
                      rw [if_neg eb, md2, decide_eq_false e, Bool.false_and] at q
                      exact q H' (s02.trans s')
                · rw [decide_eq_false (show ¬ (((difs r1 r2 k).length : Nat) : Int) = 1 by omega)]
                  first | rw [if_pos (show (!false) = true by decide)] | (dsimp only; rw [if_pos (show (!false) = true by decide)])
                  rw [if_neg eb, md, decide_eq_false l1, Bool.false_and, Bool.false_and] at q
                  exact q H' (s02.trans s')
      · rw [decide_eq_false (show ¬ ((as.length + 1 : Nat) : Int) = 3 by omega)]
        first | rw [if_pos (show (!false) = true by decide)] | (dsimp only; rw [if_pos (show (!false) = true by decide)])
        rw [decide_eq_false (show ¬ ds.length = 2 by omega), Bool.false_and] at q
        exact q H3 s02
def spLS2 (K : PySem.W.Frag) : Sp := fun vs H Q _ => ∃ (L : Addr) (ps : List Addr) (bks : List Pd) (fx : Bool), vs = [.ref L, .bl fx] ∧ H L = some (.lst (ps.map V.ref)) ∧ LPs H ps bks ∧ bks.length ≤ 6 ∧ ∀ H' a, Same H H' → Dp K H' (.ref a) (sideD fx bks) → (∃ t, H' a = some (.tup (sideV t (kindsOf fx bks))) ∧ H' t = some (.tup ((kindsOf fx bks).map V.str))) → Q (.ref a) H'
theorem ok_LS2 {f : Addr} {fd : FuncData} (F : Fun K "_law_side" "_law_side" sLS f fd) (B : Bt mg) {fLK : Addr} {fdLK : FuncData} (GLK : FnOk P w K mg base CX0 5 fLK fdLK ["book", "fixed"] spLK) (kLK : PySem.W.keepIn K (.ref fLK) = true) (bLK : Binds K fdLK ["book", "fixed"] []) (gLK : mg "_law_kinds" = some (.ref fLK)) : FnOk P w K mg base CX0 6 f fd ["book", "fixed"] (spLS2 K) := by
  refine F.ok scLS (fun vs H Q E h => ?_) (fun cdv A outer s H vs Q E hr h => ?_)
  · obtain ⟨L, ps, bks, fx, rfl, _⟩ := h
    rfl
  · obtain ⟨L, ps, bks, fx, rfl, hL, lps, b6, q⟩ := h
    refine ⟨_, (pss_cons (ps_set (i := 2) scLS.nd rfl (.inl rfl) (pe_call GLK (hr.mono (by decide)) (by rfl) gLK kLK bLK .nil pass0 (pa_cons (pv 0) (pa_cons (pv 1) pa_nil))))
      (pss_cons (ps_if (pt_cmpR op_gt (pe_callB call_len_seq (by rfl) B.len PySem.boot_len (pa_cons (pv 2) pa_nil)) pe_int (nomark _))
      (pss_one (ps_ret (pe_tup (pa_cons pe_str (pa_cons (pv 2) pa_nil))))) pss_nil)
      (pss_one (ps_ret (pe_tup (pa_cons pe_str pa_nil)))))), ?_⟩
    refine q_seq (q_set ?_)
    refine ⟨.ref L, rfl, .bl fx, rfl, L, ps, bks, fx, rfl, hL, lps, b6, fun H1 t s1 ht => ?_⟩
    dsimp only
    have fin : ∀ a H2, Same H1 H2 → H2 a = some (.tup (sideV t (kindsOf fx bks))) → Q (.ref a) H2 := fun a H2 s2 ha => q H2 a (s1.trans s2) (side_dp ha (s2 _ _ ht)) ⟨t, ha, s2 _ _ ht⟩
    refine q_seq (q_if ?_)
    refine ⟨.ref t, rfl, t, _, rfl, .inr (tl ht), _, _, rfl, rfl, _, rfl, ?_⟩
    cases e : kindsOf fx bks with
    | nil =>
      rw [e] at fin
      rw [if_neg (by decide)]
      refine q_next ?_
      exact ⟨by show 1 ≤ sizeLine; decide, fun a na => fin a _ (same_upd na) upd_same⟩
    | cons k ks =>
      rw [e] at fin
      rw [if_pos (decide_eq_true (by show (0 : Int) < ((ks.map V.str).length + 1 : Nat); omega))]
      exact ⟨.ref t, rfl, by show 2 ≤ sizeLine; decide, fun a na => fin a _ (same_upd na) upd_same⟩
def spLPa (K : PySem.W.Frag) : Sp := fun vs H Q _ => ∃ (L W : Addr) (ps : List Addr) (bks : List Pd) (fx : Bool) (v : V) (d : PyData), vs = [.ref L, .ref W, .bl (!(kindsOf fx bks).isEmpty), v] ∧ H L = some (.lst (ps.map V.ref)) ∧ LPs H ps bks ∧ bks.length ≤ 6 ∧ H W = some (.lst ((wordsOf fx).map V.str)) ∧ Lv3 Tr H v d ∧ ∀ H', Same H H' → Q (.bl (isPap fx bks d)) H'
theorem ok_LPa {f : Addr} {fd : FuncData} (F : Fun K "_law_is_paper" "_law_is_paper" sLPa f fd) (B : Bt mg) {fLH : Addr} {fdLH : FuncData} (GLH : FnOk P w K mg base CX0 4 fLH fdLH ["book", "word", "value"] spLH) (kLH : PySem.W.keepIn K (.ref fLH) = true) (bLH : Binds K fdLH ["book", "word", "value"] []) (gLH : mg "_law_shows" = some (.ref fLH)) : FnG P w K mg base CX0 5 f fd ["book", "words", "cut", "value"] (spLPa K) := by
  refine okG F scLPa (fun vs H Q E h => ?_) (fun cdv A outer s H vs Q E hr gd h => ?_)
  · obtain ⟨L, W, ps, bks, fx, v, d, rfl, _⟩ := h
    rfl
  · obtain ⟨L, W, ps, bks, fx, v, d, rfl, hL, lps, b6, hW, lv, q⟩ := h
    refine ⟨_, (pss_cons (ps_if (pt_val (pv 2))
      (pss_one (ps_ret (pe_cmpR op_eq (pe_callB (call_reprA gd hr.units) (by rfl) B.repr (by decide +kernel) (pa_cons (pv 3) pa_nil)) pe_str (nomark _)))) pss_nil)
      (pss_cons (ps_if (PW.pt (pw_or (pt_not (pt_val (pe_callB call_isi (by rfl) B.isinstance (by decide +kernel) (pa_cons (pv 3) (pa_cons (pe_bltn (v := .ty "tuple") (by rfl) B.tuple (by decide +kernel) rfl) pa_nil))))) (pw_or1 (pt_cmpR op_ne (pe_callB call_len_seq (by rfl) B.len PySem.boot_len (pa_cons (pv 3) pa_nil)) pe_int (nomark _)))))
      (pss_one (ps_ret pe_bl)) pss_nil)
      (pss_one (ps_ret (pe_callB (cr_all rfl) (by rfl) B.all (by decide +kernel) (pa_cons (pe_lc (own := [("k", 4)]) (g := gName 4) (tt := tYes) rfl scLPa.nd (pi_range1 rfl B.range (pa_cons pe_int pa_nil)) (blkOk_by (N := NLPa) (sc := defScope sLPa) (by decide +kernel)) (fun _ _ _ _ _ => pg_name (i := 4) scLPa.nd rfl (Or.inl rfl)) (fun _ _ _ _ _ => pts_nil) (fun _ _ _ _ _ => (pe_call GLH (hr.mono (by decide)) (by rfl) gLH kLH bLH .nil pass0 (pa_cons (pv 0) (pa_cons (pe_ix (ixl_k K rfl) (pv 1) (pv 4) (fun _ _ => rfl)) (pa_cons (pe_ix (ixt_k K rfl) (pv 3) (pv 4) (fun _ _ => rfl)) pa_nil)))))) pa_nil)))))), ?_⟩
    refine q_seq (q_if ?_)
    refine ⟨_, rfl, _, rfl, ?_⟩
    by_cases c : (kindsOf fx bks).isEmpty = true
    · rw [c]
      dsimp only
      rw [if_neg (show ¬ (!true) = true by decide)]
      refine q_next ?_
      dsimp only
      refine q_seq (q_if ?_)
      obtain ⟨ty, hty, kty⟩ := isi_tup (K := K) lv
      refine ⟨v, rfl, _, _, ty, _, _, rfl, .ty _, hty, kty, ?_⟩
      cases tt : isTup d with
      | false =>
        refine ⟨false, rfl, ?_⟩
        rw [isPap_no tt] at q
        exact q H (Same.refl H)
      | true =>
      refine ⟨true, rfl, ?_⟩
      obtain ⟨t, xs, ds, rfl, ht, rfl, p, l10⟩ := tup_of lv tt
      have lx := paired_len p
      have ef : isPap fx bks (.tuple ds) = (if (kindsOf fx bks).isEmpty = true then decide (ds.length = 3) && ((wordsOf fx).zip ds).all fun p => isF bks p.1 p.2 else ds.isEmpty) := rfl
      rw [ef, if_pos c] at q
      refine ⟨.ref t, rfl, t, _, rfl, .inr (tl ht), rfl, _, rfl, ?_⟩
      rw [dInt]
      by_cases l3 : ds.length = 3
      · rw [decide_eq_true (by omega)]
        rw [decide_eq_true l3, Bool.true_and] at q
        rw [if_neg (show ¬ (!true) = true by decide)]
        refine q_next ?_
        dsimp only
        refine q_ret ?_
        refine ⟨3, rfl, by decide, by decide, fun D nD => lc_range (lo := 0) (n := 3) (fun i H' => Same H H' ∧ H' D = some (.lst (((((wordsOf fx).zip ds).take i).map fun p => isF bks p.1 p.2).map V.bl))) ⟨same_upd nD, upd_same⟩ (fun i H' hi hP => ?_) (fun H' hP => ?_)⟩
        · obtain ⟨s', hD⟩ := hP
          obtain ⟨w, hw⟩ : ∃ w, (wordsOf fx)[i]? = some w := ⟨_, List.getElem?_eq_getElem (by rw [len3]; omega)⟩
          have hdi : ds[i]? = some ds[i] := List.getElem?_eq_getElem (by omega)
          generalize ds[i] = di at hdi
          obtain ⟨y, hy, lvi⟩ := paired_get p hdi
          have hz : ((wordsOf fx).zip ds)[i]? = some (w, di) := by rw [List.getElem?_zip_eq_some]; exact ⟨hw, hdi⟩
          have hwv : ((wordsOf fx).map V.str)[i]? = some (.str w) := by rw [List.getElem?_map, hw]; rfl
          refine ⟨rfl, .ref L, rfl, .ref W, rfl, _, rfl, W, _, _, _, rfl, rfl, sl (s' _ _ hW), at_z (j := i) (by omega) hwv, .ref t, rfl, _, rfl, t, _, _, y, rfl, rfl, tl (s' _ _ ht), at_z (j := i) (by omega) hy, L, ps, bks, w, y, di, rfl, s' _ _ hL, lps.same s', b6, in5_of w (List.mem_of_getElem? hw), Lv2.same s' lvi, fun H3 s3 => ?_⟩
          refine ⟨_, s3 _ _ hD, ?_, fun b o e => ?_, ?_⟩
          · rw [List.length_map, List.length_map, List.length_take]
            exact small1000 (by omega)
          · rw [upd_ne (ne_of_none e nD)]
            exact s3 _ _ (s' _ _ e)
          · rw [upd_same, List.take_add_one, hz, List.map_append, List.map_append]
            rfl
        · obtain ⟨s', hD⟩ := hP
          have el : ((wordsOf fx).zip ds).take 3 = (wordsOf fx).zip ds := List.take_of_length_le (by rw [List.length_zip, len3]; omega)
          rw [el] at hD
          refine ⟨D, _, rfl, sl hD, ?_⟩
          have ea : (((wordsOf fx).zip ds).map fun p => isF bks p.1 p.2).all id = ((wordsOf fx).zip ds).all fun p => isF bks p.1 p.2 := by rw [List.all_map]; rfl
          rw [ea]
          exact q H' s'
      · rw [decide_eq_false (by omega)]
        rw [decide_eq_false l3, Bool.false_and] at q
        rw [if_pos (show (!false) = true by decide)]
        exact q H (Same.refl H)
    · have c' : (kindsOf fx bks).isEmpty = false := by simpa using c
      rw [c']
      dsimp only
      rw [if_pos (show (!false) = true by decide)]
      rw [isPap_cut c] at q
      obtain ⟨ok, sh⟩ := lv3_show lv
      refine q_ret ?_
      refine ⟨v, rfl, v, d, rfl, lv3_dp lv, ok, rfl, ?_⟩
      rw [dStr, sh]
      exact q H (Same.refl H)
end
end CC

namespace CC
open PySem PySem.Spec PyProof.Rows L2 Ek
def RowM (H' H : Hp) (i : Nat) (r : Addr) (bs : List Int) : Prop := (i = 0 ∧ H' r = some (.tup (bs.map V.int))) ∨ ∃ o : Obj, o.dict = none ∧ H' r = some (.frz o (.tup (bs.map V.int))) ∧ H r = none
abbrev RwM (H' H : Hp) (i : Nat) (rs : List Addr) (bss : List (List Int)) : Prop := Paired (RowM H' H i) rs bss
theorem RowM.sq {K : PySem.W.Frag} {H1 H2 H : Hp} {i : Nat} {r : Addr} {bs : List Int} (x : RowM H1 H i r bs) (s : Same H1 H2) : SqT K H2 r (bs.map V.int) := by
  rcases x with ⟨_, e⟩ | ⟨o, _, e, _⟩
  · exact .inl (.inl (s _ _ e))
  · exact .inl (.inr ⟨o, s _ _ e⟩)
theorem RwM.same {H1 H2 H : Hp} {i : Nat} {rs : List Addr} {bss : List (List Int)} (s : Same H1 H2) (x : RwM H1 H i rs bss) : RwM H2 H i rs bss := paired_imp (fun _ _ h => h.imp (fun ⟨a, b⟩ => ⟨a, s _ _ b⟩) (fun ⟨o, a, b, c⟩ => ⟨o, a, s _ _ b, c⟩)) x
theorem rwm_at {H1 H : Hp} {k : Nat} {rs : List Addr} {bss : List (List Int)} {i : Nat} {x : V} (rw1 : RwM H1 H k rs bss) (hx : (rs.map V.ref)[i]? = some x) : ∃ r bs, x = V.ref r ∧ bss[i]? = some bs ∧ RowM H1 H k r bs := by
  rw [List.getElem?_map] at hx
  cases e : rs[i]? with
  | none => rw [e] at hx; cases hx
  | some r =>
    rw [e] at hx
    have hj : i < bss.length := by
      rw [← paired_len rw1]
      exact (List.getElem?_eq_some_iff.mp e).1
    obtain ⟨y, hy, hz⟩ := paired_get rw1 (List.getElem?_eq_getElem hj)
    rw [e] at hy
    cases hy
    exact ⟨r, _, (Option.some.inj hx).symm, List.getElem?_eq_getElem hj, hz⟩
section
variable {P : Program} {w : World} {K : PySem.W.Frag} {mg : Str → Option Value} {base : Heap}
theorem tup_moreF {σ : L2.St} {H : Hp} {i : Nat} {r : Addr} {xs : List V} {y : V} {Q : VK} (hσ : σ[i]? = some (some (.ref r))) (hr : SqT K H r xs) (lb : xs.length ≤ 100) (k : ∀ t H' o, o.dict = none → H t = none → Same H H' → H' t = some (.frz o (.tup (xs ++ [y]))) → Q (.ref t) H') : tOp (rCatF K) (tVar i) (tTupF (tCons (tC y) tNil)) σ H Q := by
  refine ⟨.ref r, hσ, by show 1 ≤ sizeLine; decide, fun t1 o1 d1 nt1 => ?_⟩
  have s1 := same_upd (o := .frz o1 (.tup [y])) nt1
  refine ⟨r, t1, xs, [y], rfl, rfl, ?_, .inl (.inr ⟨o1, upd_same⟩), ?_, fun z => ?_, (fun _ z => absurd z (List.cons_ne_nil _ _)), fun _ _ p o d np => ?_⟩
  · rcases hr with (h | ⟨o, h⟩) | h
    · exact .inl (.inl (s1 _ _ h))
    · exact .inl (.inr ⟨o, s1 _ _ h⟩)
    · exact .inr h
  · exact Nat.le_of_lt (small1000 (by show xs.length + 1 ≤ 1000; omega))
  · subst z
    exact k t1 _ o1 d1 nt1 s1 upd_same
  · exact k p _ o d (s1.free np) (s1.trans (same_upd np)) upd_same
def spEvF : Sp := fun vs H Q _ => ∃ n : Nat, vs = [.int n] ∧ 1 ≤ n ∧ n ≤ 3 ∧ ∀ H' p rs, Same H H' → H p = none → H' p = some (.lst (rs.map V.ref)) → RwM H' H n rs (rowsOf n) → Q (.ref p) H'
theorem ok_everyF {f : Addr} {fd : FuncData} (F : Fun K "_law_every" "_law_every" sEvery f fd) (B : Bt mg) : FnOk P w K mg base CX0 1 f fd ["many"] spEvF := by
  refine F.ok scEvery (fun vs H Q E h => ?_) (fun cdv A outer s H vs Q E hr h => ?_)
  · obtain ⟨n, rfl, _⟩ := h
    rfl
  · obtain ⟨n, rfl, hn1, hn, q⟩ := h
    refine ⟨_, (pss_cons (ps_set (i := 1) scEvery.nd rfl (.inl rfl) (pe_lst (pa_cons (pe_tup pa_nil) pa_nil)))
      (pss_cons (ps_for PassesOwn.never rfl (pi_range1 rfl B.range (pa_cons (pv 0) pa_nil)) (pg_name (i := 2) scEvery.nd rfl (.inl rfl))
      (pss_cons (ps_set (i := 3) scEvery.nd rfl (.inl rfl) (pe_lst pa_nil))
      (pss_cons (ps_for PassesOwn.never rfl (pi_list (pv 1)) (pg_name (i := 4) scEvery.nd rfl (.inl rfl))
      (pss_one (ps_set (i := 3) scEvery.nd rfl (.inl rfl) (pe_op op_cat (pv 3) (pe_lst (pa_cons (pe_op op_catF (pv 4) (pe_tupF (pa_cons pe_int pa_nil))) (pa_cons (pe_op op_catF (pv 4) (pe_tupF (pa_cons pe_int pa_nil))) pa_nil)))))))
      (pss_one (ps_set (i := 1) scEvery.nd rfl (.inl rfl) (pv 3))))))
      (pss_one (ps_ret (pv 1))))), ?_⟩
    refine q_seq (q_set ?_)
    refine ⟨Nat.zero_le _, fun t0 nt0 => ⟨by show 1 ≤ sizeLine; decide, fun L0 nL0 => ?_⟩⟩
    have s0 : Same H (upd (upd H t0 (.tup [])) L0 (.lst [.ref t0])) := (same_upd nt0).trans (same_upd nL0)
    have e0 : (upd (upd H t0 (.tup [])) L0 (.lst [.ref t0])) t0 = some (.tup []) := same_upd nL0 _ _ upd_same
    have n0 : H L0 = none := (same_upd nt0).free nL0
    dsimp only
    refine q_seq ?_
    refine ⟨_, rfl, n, rfl, by omega, by omega, for_range (lo := 0) (n := n) (fun i σ H' => ∃ (L : Addr) (u v x : Option V) (rs : List Addr), σ = [some (.int n), some (.ref L), u, v, x] ∧ Same H H' ∧ H L = none ∧ H' L = some (.lst (rs.map V.ref)) ∧ RwM H' H i rs (rowsOf i))
      ⟨L0, none, none, none, [t0], rfl, s0, n0, upd_same, .cons (.inl ⟨rfl, e0⟩) .nil⟩ (fun i σ H1 hi hP => ?_) (fun σ H1 hP => ?_)⟩
    · obtain ⟨L, u, v, x, rs, rfl, s1, nL, hL, rw1⟩ := hP
      refine q_seq (q_set ⟨Nat.zero_le _, fun M0 nM0 => ?_⟩)
      dsimp only
      have lim := rows8 (show i ≤ 3 by omega)
      have len1 := paired_len rw1
      refine q_seq ?_
      refine ⟨.ref L, rfl, L, rfl, ⟨_, sl (same_upd nM0 _ _ hL)⟩, for_list (K := K) (a := L) (xs := rs.map V.ref) (fun j σ H2 => ∃ (M : Addr) (x : Option V) (rs2 : List Addr), σ = [some (.int n), some (.ref L), some (.int (0 + (i : Int))), some (.ref M), x] ∧ Same H1 H2 ∧ H1 M = none ∧ H2 M = some (.lst (rs2.map V.ref)) ∧ RwM H2 H (i + 1) rs2 (((rowsOf i).take j).flatMap fun r => [r ++ [0], r ++ [1]]))
        ⟨M0, x, [], rfl, same_upd nM0, nM0, upd_same, .nil⟩ (fun j σ H2 _ hQ => ?_) (fun j x σ H2 hx hQ => ?_) (fun σ H2 hQ => ?_)⟩
      · obtain ⟨M, x, rs2, rfl, s2, _⟩ := hQ
        exact sl (s2 _ _ hL)
      · obtain ⟨M, x', rs2, rfl, s2, nM, hM, rw2⟩ := hQ
        obtain ⟨r, bs, rfl, hbs, hr⟩ := rwm_at rw1 hx
        have l2 : rs2.length ≤ 16 := by
          have z := paired_len rw2
          have h2 : ∀ l : List (List Int), (l.flatMap fun r => [r ++ [0], r ++ [1]]).length = 2 * l.length := fun l => by
            induction l with
            | nil => rfl
            | cons x l ih => rw [List.flatMap_cons, List.length_append, ih, List.length_cons, List.length_cons, List.length_cons, List.length_nil]; omega
          rw [h2, List.length_take] at z
          omega
        have lb : (bs.map V.int).length ≤ 100 := by
          rw [List.length_map, row_len i bs (List.mem_of_getElem? hbs)]
          omega
        refine q_set ?_
        refine ⟨.ref M, rfl, ?_⟩
        refine tup_moreF (show _ = some (some (V.ref r)) from rfl) (hr.sq s2) lb fun t1 H3 o3 d3 n3 s3 h3 => ?_
        refine tup_moreF (show _ = some (some (V.ref r)) from rfl) (hr.sq (s2.trans s3)) lb fun t2 H4 o4 d4 n4 s4 h4 => ?_
        refine ⟨by show 2 ≤ sizeLine; decide, fun L2 nL2 => ?_⟩
        have s5 := s3.trans (s4.trans (same_upd (o := .lst [.ref t1, .ref t2]) nL2))
        refine ⟨M, L2, rs2.map V.ref, [.ref t1, .ref t2], rfl, rfl, s5 _ _ hM, upd_same, by rw [List.length_map]; exact Nat.le_of_lt (small1000 (by show rs2.length + 2 ≤ 1000; omega)), fun p np => ?_⟩
        have s6 := s5.trans (same_upd (o := .lst (rs2.map V.ref ++ [.ref t1, .ref t2])) np)
        refine ⟨p, _, rs2 ++ [t1, t2], rfl, s2.trans s6, (s2.trans s5).free np, by rw [upd_same, List.map_append]; rfl, ?_⟩
        rw [take_flat _ hbs]
        refine paired_app (RwM.same s6 rw2) (.cons ?_ (.cons ?_ .nil))
        · refine .inr ⟨o3, d3, same_upd np _ _ (same_upd nL2 _ _ (s4 _ _ ?_)), (s1.trans s2).free n3⟩
          rw [h3, List.map_append]
          rfl
        · refine .inr ⟨o4, d4, same_upd np _ _ (same_upd nL2 _ _ ?_), (s1.trans (s2.trans s3)).free n4⟩
          rw [h4, List.map_append]
          rfl
      · obtain ⟨M, x', rs2, rfl, s2, nM, hM, rw2⟩ := hQ
        dsimp only
        refine q_set ?_
        refine ⟨.ref M, rfl, ?_⟩
        refine ⟨M, _, _, _, rs2, rfl, s1.trans s2, s1.free nM, hM, ?_⟩
        rw [List.length_map, len1, List.take_length] at rw2
        exact rw2
    · obtain ⟨L, u, v, x, rs, rfl, s1, nL, hL, rw1⟩ := hP
      dsimp only
      refine q_ret ?_
      exact ⟨.ref L, rfl, q _ L rs s1 nL hL rw1⟩
end
end CC

namespace CC
open PySem PySem.Spec PyProof.Rows L2 Ek
variable {N : Addr → Prop}
theorem flat_ints {ns : List Int} : (ns.map V.int).all flatV = true := by
  rw [List.all_eq_true]
  intro x m
  obtain ⟨w, _, rfl⟩ := List.mem_map.mp m
  rfl
def zers (a : List Int) (k : Nat) : List Nat := (List.range k).filter fun j => decide (a.getD j 0 = 0)
theorem zers_count : ∀ n : Fin 4, ∀ a ∈ rowsOf n.1, ((a.map PyData.int).countP fun y => PyData.eqv y (.int 0)) = (zers a n.1).length := by decide +kernel
theorem zers_in : ∀ n : Fin 4, ∀ a ∈ rowsOf n.1, inV (.int 0) (a.map V.int) = decide (0 < (zers a n.1).length) := by decide +kernel
section
variable {P : Program} {w : World} {K : PySem.W.Frag} {mg : Str → Option Value} {base : Heap}
theorem row_lv1 {H : Hp} {r : Addr} {bs : List Int} (h : H r = some (.tup (bs.map V.int))) (b : Bits bs) (l : bs.length ≤ 3) : Lv1 N H (.ref r) (.tuple (bs.map .int)) := by
  refine .inr ⟨r, _, _, rfl, .inl ⟨h, rfl⟩, ?_, by rw [List.length_map]; omega⟩
  clear h l
  induction bs with
  | nil => exact .nil
  | cons x bs ih =>
    refine .cons (.int x ?_) (ih fun y m => b y (List.mem_cons_of_mem _ m))
    have := b x List.mem_cons_self
    omega
theorem int_lv {R : V → PyData → Prop} {H : Hp} {i : Int} (h : -10 ≤ i ∧ i ≤ 10) : Lv N R H (.int i) (.int i) := .inl (.int i h)
/-- a row that may be frozen still -/
def RT (h : Addr) (H0 H : Hp) (a : Addr) (bs : List Int) : Prop := H a = some (.tup (bs.map V.int)) ∨ (H0 a = none ∧ ∃ o : Obj, o.dict = none ∧ H a = some (.frz o (.tup (bs.map V.int))))
theorem RT.sq {h : Addr} {H0 H : Hp} {a : Addr} {bs : List Int} (x : RT h H0 H a bs) : SqT K H a (bs.map V.int) := by
  rcases x with e | ⟨_, o, _, e⟩
  · exact .inl (.inl e)
  · exact .inl (.inr ⟨o, e⟩)
theorem RT.kp {h dr : Addr} {H0 H H' : Hp} {a : Addr} {bs : List Int} (hd : Hdd H h dr) (kp : Kp h H H') (x : RT h H0 H a bs) : RT h H0 H' a bs := by
  rcases x with e | ⟨n, o, d, e⟩
  · exact .inl (kp _ _ (hd.ns e (fun _ _ z => by cases z)) e)
  · exact .inr ⟨n, o, d, kp _ _ (hd.ns e (fun _ _ z => by cases z)) e⟩
theorem RT.same {h : Addr} {H0 H H' : Hp} {a : Addr} {bs : List Int} (s : Same H H') (x : RT h H0 H a bs) : RT h H0 H' a bs := by
  rcases x with e | ⟨n, o, d, e⟩
  · exact .inl (s _ _ e)
  · exact .inr ⟨n, o, d, s _ _ e⟩
/-- a row thawed -/
theorem RT.thaw {h dr : Addr} {H0 H : Hp} {a : Addr} {bs : List Int} {σ : L2.St} {te : TE} {Q : VK} (x : RT h H0 H a bs) (hd : Hdd H h dr)
    (k : ∀ H', Kp h H0 H → Kp h H0 H' → Hdd H' h dr → H' a = some (.tup (bs.map V.int)) → (∀ b ds, RT h H0 H b ds → RT h H0 H' b ds) → (∀ b xs, H b = some (.tup xs) → H' b = some (.tup xs)) → te σ H' Q) (kp : Kp h H0 H) : tForget H0 te σ H Q := by
  rcases x with e | ⟨n, o, d, e⟩
  · exact .inr (k H kp kp hd e (fun _ _ z => z) fun _ _ z => z)
  · have nh : a ≠ h := fun z => by
      obtain ⟨_, _, eh, _⟩ := hd
      rw [← z, e] at eh
      cases eh
    have nd : a ≠ dr := fun z => by
      obtain ⟨_, _, _, ed, _⟩ := hd
      rw [← z, e] at ed
      cases ed
    refine .inl ⟨a, o, _, e, fun o' u' z => (by rw [n] at z; cases z), k _ kp (fun b u nb eb => ?_) (hd.upd nh nd) upd_same (fun b ds z => ?_) fun b ys z => ?_⟩
    · rw [upd_ne (ne_of_none eb n)]
      exact kp b u nb eb
    · by_cases hb : b = a
      · subst hb
        rcases z with e2 | ⟨_, o2, _, e2⟩
        · rw [e] at e2; cases e2
        · rw [e] at e2
          have e3 := Option.some.inj e2
          injection e3 with _ e4
          injection e4 with e5
          exact .inl (by rw [upd_same, e5])
      · rcases z with e2 | ⟨n2, o2, d2, e2⟩
        · exact .inl (by rw [upd_ne hb]; exact e2)
        · exact .inr ⟨n2, o2, d2, by rw [upd_ne hb]; exact e2⟩
    · rw [upd_ne (fun zz => by rw [zz, e] at z; cases z)]
      exact z
def spDP : Sp := fun vs H Q _ => ∃ (h dr L : Addr) (ps : List Addr) (bks : List Pd) (w : Str), vs = [.ref h, .ref L, .str w] ∧ Hdd H h dr ∧ H L = some (.lst (ps.map V.ref)) ∧ LPs H ps bks ∧ 1 ≤ bks.length ∧ bks.length ≤ 6 ∧ ∀ v d H', Kp h H H' → Hdd H' h dr → (∀ N, Lv2 N H' v d) → Q v H'
theorem ok_DP {f : Addr} {fd : FuncData} (F : Fun K "_law_drawn_part" "_law_drawn_part" sDP f fd) (B : Bt mg) {fTake : Addr} {fdTake : FuncData} (GTake : FnOk P w K mg base CX0 1 fTake fdTake ["hand", "many"] spTake) (kTake : PySem.W.keepIn K (.ref fTake) = true) (bTake : Binds K fdTake ["hand", "many"] []) (gTake : mg "_law_take" = some (.ref fTake)) {fEvery : Addr} {fdEvery : FuncData} (GEvery : FnOk P w K mg base CX0 1 fEvery fdEvery ["many"] spEvF) (kEvery : PySem.W.keepIn K (.ref fEvery) = true) (bEvery : Binds K fdEvery ["many"] []) (gEvery : mg "_law_every" = some (.ref fEvery)) : FnOk P w K mg base CX0 2 f fd ["hand", "book", "word"] spDP := by
  refine F.ok scDP (fun vs H Q E h => ?_) (fun cdv A outer s H vs Q E hr h => ?_)
  · obtain ⟨h, dr, L, ps, bks, w, rfl, _⟩ := h
    rfl
  · obtain ⟨h, dr, L, ps, bks, w, rfl, hd, hL, lps, b1, b6, q⟩ := h
    have ln := paired_len lps
    refine ⟨_, (pss_cons (ps_set (i := 3) scDP.nd rfl (.inl rfl) (pe_call GTake (hr.mono (by decide)) (by rfl) gTake kTake bTake .nil pass0 (pa_cons (pv 0) (pa_cons (pe_callB call_len_seq (by rfl) B.len PySem.boot_len (pa_cons (pv 1) pa_nil)) pa_nil))))
      (pss_cons (ps_set (i := 4) scDP.nd rfl (.inl rfl) (pe_call GEvery (hr.mono (by decide)) (by rfl) gEvery kEvery bEvery .nil pass0 (pa_cons (pe_ix ix_tup (pe_ix ix_list (pv 1) (pv 3) (fun _ _ => rfl)) pe_int (fun _ _ => rfl)) pa_nil)))
      (pss_cons (ps_set (i := 5) scDP.nd rfl (.inr rfl) (pe_ix ix_list (pv 4) (pe_call GTake (hr.mono (by decide)) (by rfl) gTake kTake bTake .nil pass0 (pa_cons (pv 0) (pa_cons (pe_callB call_len_seq (by rfl) B.len PySem.boot_len (pa_cons (pv 4) pa_nil)) pa_nil))) (fun _ _ => rfl)))
      (pss_cons (ps_set (i := 6) scDP.nd rfl (.inl rfl) (pe_ix ix_list (pv 4) (pe_call GTake (hr.mono (by decide)) (by rfl) gTake kTake bTake .nil pass0 (pa_cons (pv 0) (pa_cons (pe_callB call_len_seq (by rfl) B.len PySem.boot_len (pa_cons (pv 4) pa_nil)) pa_nil))) (fun _ _ => rfl)))
      (pss_cons (ps_if (pt_cmpR op_in_seq (pv 2) (pe_lst (pa_cons pe_str (pa_cons pe_str pa_nil))) (by with_unfolding_all rfl))
      (pss_one (ps_ret (pe_forget (pe_tup (pa_cons (pv 3) (pa_cons (pv 5) pa_nil)))))) pss_nil)
      (pss_cons (ps_if (PW.pt (pw_and (pt_cmpR op_ne (pv 2) pe_str (nomark _)) (pw_and1 (pt_cmpR op_in_seq pe_int (pv 5) (by with_unfolding_all rfl)))))
      (pss_cons (ps_set (i := 7) scDP.nd rfl (.inl rfl) (pe_ix ix_list (pe_lc (own := [("j", 8)]) (g := gName 8) rfl scDP.nd (pi_range1 rfl B.range (pa_cons (pe_callB call_len_seq (by rfl) B.len PySem.boot_len (pa_cons (pv 5) pa_nil)) pa_nil)) (blkOk_by (N := NDP) (sc := defScope sDP) (by decide +kernel)) (fun _ _ _ _ _ => pg_name (i := 8) scDP.nd rfl (Or.inl rfl)) (fun _ _ _ _ _ => pts_one (pt_cmpR op_eq (pe_ix (ixt_k K rfl) (pv 5) (pv 8) (fun _ _ => rfl)) pe_int (nomark _))) (fun _ _ _ _ _ => (pv 8))) (pe_call GTake (hr.mono (by decide)) (by rfl) gTake kTake bTake .nil pass0 (pa_cons (pv 0) (pa_cons (pe_bmF PySem.F.plainAttrs_tuple PySem.F.slot_tuple_count PySem.F.type_tuple_count (mt_countF (ru65 hr)) (pv 5) (pa_cons pe_int pa_nil)) pa_nil))) (fun _ _ => rfl)))
      (pss_one (ps_set (i := 6) scDP.nd rfl (.inl rfl) (pe_forget (pe_op op_catA (pe_op op_catA (pe_slice sl_tupA (pv 5) po_none (po_some (pv 7))) (pe_tup (pa_cons pe_int pa_nil))) (pe_slice sl_tupA (pv 5) (po_some (pe_op op_add (pv 7) pe_int)) po_none)))))) pss_nil)
      (pss_one (ps_ret (pe_forget (pe_forget (pe_tup (pa_cons (pv 3) (pa_cons (pv 5) (pa_cons (pv 6) pa_nil)))))))))))))), ?_⟩
    -- p
    refine q_seq (q_set ?_)
    refine ⟨.ref h, rfl, .ref L, rfl, L, _, rfl, .inl (sl hL), h, dr, _, rfl, hd, by rw [List.length_map]; omega, fun r H1 r0 r1 e1 hd1 => ?_⟩
    rw [List.length_map] at r1
    have nLh : L ≠ h := by
      intro z
      obtain ⟨_, _, e, _⟩ := hd
      rw [← z, hL] at e
      exact ref_hand (h := h) _ _ (Option.some.inj e)
    have kp1 : Kp h H H1 := Kp.eq e1
    have hL1 := kp1 _ _ nLh hL
    have lps1 := lps.kp hd kp1
    obtain ⟨i, rfl⟩ : ∃ i : Nat, r = (i : Int) := ⟨r.toNat, by omega⟩
    have hi : i < bks.length := by omega
    have hz : bks[i]? = some bks[i] := List.getElem?_eq_getElem hi
    generalize bks[i] = z at hz
    obtain ⟨k, ms⟩ := z
    obtain ⟨pp, hp, lpr⟩ := paired_get lps1 hz
    obtain ⟨tp, h1, h2, k1, k3, lm, bd⟩ := id lpr
    simp only at h1 h2 k1 k3 lm
    have hpi : (ps.map V.ref)[i]? = some (.ref pp) := by rw [List.getElem?_map, hp]; rfl
    have l8 := rows8 k3
    have pos : 0 < (rowsOf k).length := by rw [rows_len]; exact Nat.two_pow_pos k
    dsimp only
    -- every
    refine q_seq (q_set ?_)
    refine ⟨.ref L, rfl, .int (i : Nat), rfl, L, _, _, .ref pp, rfl, rfl, sl hL1, at_z (j := i) rfl hpi, pp, _, 0, .int k, rfl, rfl, tl h1, at_z (j := 0) rfl rfl, k, rfl, k1, k3, fun H2 M rs s2 nM hM rw1 => ?_⟩
    have len1 := paired_len rw1
    have hd2 := hd1.same s2
    have kp2 := kp1.trans (Kp.of s2)
    have nMh : M ≠ h := hd1.ne nM
    dsimp only
    -- one
    have pick : ∀ {Hx : Hp} {r : Int}, Kp h H2 Hx → 0 ≤ r → r < ((rs.map V.ref).length : Int) → ∃ (a : Addr) (bs : List Int), atI (rs.map V.ref) r = some (.ref a) ∧ Hx M = some (.lst (rs.map V.ref)) ∧ RT h H Hx a bs ∧ (∃ o : Obj, o.dict = none ∧ Hx a = some (.frz o (.tup (bs.map V.int)))) ∧ bs ∈ rowsOf k := fun kx r0 r1 => by
      rename_i Hx r
      rw [List.length_map] at r1
      have lt : r.toNat < (rowsOf k).length := by omega
      have hb : (rowsOf k)[r.toNat]? = some (rowsOf k)[r.toNat] := List.getElem?_eq_getElem lt
      obtain ⟨a, ha1, ha2⟩ := paired_get rw1 hb
      rcases ha2 with ⟨z, _⟩ | ⟨o, od, oe, on⟩
      · omega
      have ah : a ≠ h := fun z => by
        obtain ⟨_, _, eh, _⟩ := hd1
        rw [← z, on] at eh
        cases eh
      have e2 := kx _ _ (hd2.ns oe (fun _ _ z => by cases z)) oe
      exact ⟨a, _, at_z (j := r.toNat) (by omega) (by rw [List.getElem?_map, ha1]; rfl), kx _ _ nMh hM, .inr ⟨by rw [← e1 a ah]; exact on, o, od, e2⟩, ⟨o, od, e2⟩, List.getElem_mem lt⟩
    refine q_seq (q_set ?_)
    refine ⟨.ref M, rfl, .ref h, rfl, .ref M, rfl, M, _, rfl, .inl (sl hM), h, dr, _, rfl, hd2, by rw [List.length_map]; omega, fun r H3 r0 r1 e3 hd3 => ?_⟩
    have kp3 : Kp h H2 H3 := Kp.eq e3
    obtain ⟨a1, bs1, at1, hM3, ha1, hf1, mb1⟩ := pick kp3 r0 r1
    refine ⟨M, _, _, _, rfl, rfl, sl hM3, at1, ?_⟩
    dsimp only
    -- other
    refine q_seq (q_set ?_)
    refine ⟨.ref M, rfl, .ref h, rfl, .ref M, rfl, M, _, rfl, .inl (sl hM3), h, dr, _, rfl, hd3, by rw [List.length_map]; omega, fun r H4 r0 r1 e4 hd4 => ?_⟩
    have kp4 : Kp h H2 H4 := kp3.trans (Kp.eq e4)
    obtain ⟨a2, bs2, at2, hM4, ha2, _, mb2⟩ := pick kp4 r0 r1
    obtain ⟨of1, od1, oe1⟩ := hf1
    have hfz : H4 a1 = some (.frz of1 (.tup (bs1.map V.int))) := Kp.eq e4 _ _ (hd3.ns oe1 (fun _ _ z => by cases z)) oe1
    have ha1' : RT h H H4 a1 bs1 := ha1.kp hd3 (Kp.eq e4)
    refine ⟨M, _, _, _, rfl, rfl, sl hM4, at2, ?_⟩
    have kp04 := kp2.trans kp4
    have ob1 := bits_rows k _ mb1
    have ol1 := row_len k _ mb1
    have ob2 := bits_rows k _ mb2
    have ol2 := row_len k _ mb2
    have i10 : -10 ≤ (i : Int) ∧ (i : Int) ≤ 10 := by omega
    clear pick kp3 kp4 e3 e4 hM hM3 hM4 at1 at2 ha1 hd3 hd2 lpr lps1 hL1 kp1 e1 oe1
    dsimp only
    -- the one row
    refine q_seq (q_if ?_)
    refine ⟨.str w, rfl, by show 2 ≤ sizeLine; decide, fun tw ntw => ⟨tw, _, rfl, .inl (sl upd_same), rfl, rfl, ?_⟩⟩
    rw [if_neg (show ¬ false = true by decide), isOne_in]
    refine ⟨_, rfl, ?_⟩
    have s5 := same_upd (o := .lst [V.str "all no", V.str "all yes"]) ntw
    replace ha1' := RT.same s5 ha1'
    replace ha2 := RT.same s5 ha2
    replace hfz := s5 _ _ hfz
    replace hd4 := hd4.same s5
    replace kp04 := kp04.trans (Kp.of s5)
    generalize upd H4 tw (.lst [V.str "all no", V.str "all yes"]) = H5 at s5 ha1' ha2 hfz hd4 kp04 ⊢
    clear s5 ntw
    refine ite2 (fun c => ?_) (fun c => ?_)
    · refine q_ret ?_
      refine RT.thaw ha1' hd4 (fun H6 _ kp6 hd6 hr1 _ _ => ?_) kp04
      refine ⟨.int (i : Nat), rfl, .ref a1, rfl, by show 2 ≤ sizeLine; decide, fun tt nt => ?_⟩
      have s6 := same_upd (o := .tup [V.int (i : Nat), V.ref a1]) nt
      exact q _ _ _ (kp6.trans (Kp.of s6)) (hd6.same s6) (fun N => .inr ⟨tt, _, _, rfl, .inl ⟨upd_same, rfl⟩, .cons (int_lv i10) (.cons (row_lv1 (s6 _ _ hr1) ob1 (by omega)) .nil), by show 2 ≤ 10; decide⟩)
    · refine q_next ?_
      dsimp only
      refine q_seqJ (fun σ H' => Kp h H H' ∧ Hdd H' h dr ∧ ∃ (a2 : Addr) (bs2 : List Int) (x7 : Option V), σ = [some (.ref h), some (.ref L), some (.str w), some (.int (i : Nat)), some (.ref M), some (.ref a1), some (.ref a2), x7, none] ∧ RT h H H' a1 bs1 ∧ RT h H H' a2 bs2 ∧ Bits bs2 ∧ bs2.length ≤ 3) (fun σ' H6 hJ => ?_) (fun J => ?_)
      · obtain ⟨kp6, hd6, a2, bs2, x7, rfl, h1, h2, o1, o2⟩ := hJ
        refine q_ret ?_
        refine RT.thaw h1 hd6 (fun H7 _ kp7 hd7 hr1 keep _ => ?_) kp6
        refine RT.thaw (keep _ _ h2) hd7 (fun H8 _ kp8 hd8 hr2 keep2 kt => ?_) kp7
        have hr1' := kt _ _ hr1
        refine ⟨.int (i : Nat), rfl, .ref a1, rfl, .ref a2, rfl, by show 3 ≤ sizeLine; decide, fun tt nt => ?_⟩
        have s6 := same_upd (o := .tup [V.int (i : Nat), V.ref a1, V.ref a2]) nt
        exact q _ _ _ (kp8.trans (Kp.of s6)) (hd8.same s6) (fun N => .inr ⟨tt, _, _, rfl, .inl ⟨upd_same, rfl⟩, .cons (int_lv i10) (.cons (row_lv1 (s6 _ _ hr1') ob1 (by omega)) (.cons (row_lv1 (s6 _ _ hr2) o1 o2) .nil)), by show 3 ≤ 10; decide⟩)
      · refine q_if ?_
        refine ⟨.str w, rfl, rfl, _, rfl, ?_⟩
        rw [dStr]
        by_cases eb : w = "bent"
        · rw [decide_eq_true eb]
          first | rw [if_neg (show ¬ (!true) = true by decide)] | (dsimp only; rw [if_neg (show ¬ (!true) = true by decide)])
          refine q_next ?_
          exact J _ _ ⟨kp04, hd4, a2, bs2, none, rfl, ha1', ha2, ob2, by omega⟩
        · rw [decide_eq_false eb]
          first | rw [if_pos (show (!false) = true by decide)] | (dsimp only; rw [if_pos (show (!false) = true by decide)])
          refine ⟨.ref a1, rfl, a1, _, rfl, .inr (RT.sq ha1'), rfl, flat_ints, _, rfl, ?_⟩
          rw [if_neg (show ¬ false = true by decide), zers_in ⟨k, by omega⟩ bs1 mb1]
          have zc := zers_count ⟨k, by omega⟩ bs1 mb1
          simp only at zc
          refine ite2 (fun c2 => ?_) (fun c2 => ?_)
          · have zp : 0 < (zers bs1 k).length := of_decide_eq_true c2
            refine q_seq (q_set ?_)
            refine ⟨.ref a1, rfl, a1, _, rfl, .inr (RT.sq ha1'), _, rfl, by rw [List.length_map]; omega, by rw [List.length_map]; omega, fun D nD => lc_range (lo := 0) (n := (bs1.map V.int).length) (fun j H' => Same H5 H' ∧ H' D = some (.lst ((zers bs1 j).map fun (j : Nat) => V.int (j : Int)))) ⟨same_upd nD, upd_same⟩ (fun j H' hj hP => ?_) (fun H' hP => ?_)⟩
            · obtain ⟨s', hD⟩ := hP
              rw [List.length_map] at hj
              have g1 : (bs1.map V.int)[j]? = some (.int bs1[j]) := row_int (by omega)
              refine ⟨rfl, .ref a1, rfl, _, rfl, a1, _, _, _, rfl, rfl, RT.sq (RT.same s' ha1'), at_z (j := j) (by omega) g1, rfl, _, rfl, ?_⟩
              have ed : zers bs1 (j + 1) = zers bs1 j ++ (if decide (bs1[j] = 0) = true then [j] else []) := by
                unfold zers
                rw [List.range_succ, List.filter_append]
                congr 1
                have e1 : bs1.getD j 0 = bs1[j] := by rw [List.getD_eq_getElem?_getD, List.getElem?_eq_getElem (by omega)]; rfl
                show List.filter _ [j] = _
                by_cases e : bs1[j] = 0
                · rw [List.filter_cons_of_pos (by rw [e1]; simpa using e), List.filter_nil, if_pos (by simpa using e)]
                · rw [List.filter_cons_of_neg (by rw [e1]; simpa using e), List.filter_nil, if_neg (by simpa using e)]
              rw [dInt, ed]
              refine ite2 (fun c3 => ?_) (fun c3 => ?_)
              · rw [if_pos c3]
                refine ⟨_, rfl, _, hD, ?_, fun b o e => ?_, ?_⟩
                · rw [List.length_map]
                  have z := List.length_filter_le (fun j => decide (bs1.getD j 0 = 0)) (List.range j)
                  rw [List.length_range] at z
                  exact small1000 (by unfold zers; omega)
                · rw [upd_ne (ne_of_none e nD)]
                  exact s' _ _ e
                · rw [upd_same, List.map_append, Int.zero_add]
                  rfl
              · rw [if_neg c3, List.append_nil]
                exact ⟨s', hD⟩
            · obtain ⟨s', hD⟩ := hP
              rw [List.length_map, ol1] at hD
              have hd6 := hd4.same s'
              refine ⟨.ref h, rfl, .ref a1, rfl, ⟨a1, of1, _, rfl, od1, s' _ _ hfz⟩, a1, bs1, 0, rfl, rfl, RT.sq (RT.same s' ha1'), h, dr, _, rfl, hd6, by rw [zc]; omega, fun r H7 r0 r1 e7 hd7 => ?_⟩
              rw [zc] at r1
              have lt : r.toNat < (zers bs1 k).length := by omega
              have hD7 : H7 D = _ := (e7 D (hd4.ne nD)).trans hD
              have gj : ((zers bs1 k).map fun (j : Nat) => V.int (j : Int))[r.toNat]? = some (.int ((zers bs1 k)[r.toNat] : Nat)) := by rw [List.getElem?_map, List.getElem?_eq_getElem lt]; rfl
              have jk : (zers bs1 k)[r.toNat] < k := List.mem_range.mp (List.mem_filter.mp (List.getElem_mem lt)).1
              generalize (zers bs1 k)[r.toNat] = j at gj jk
              refine ⟨D, _, _, _, rfl, rfl, sl hD7, at_z (j := r.toNat) (by omega) gj, ?_⟩
              have kp7 : Kp h H5 H7 := (Kp.of s').trans (Kp.eq e7)
              have ha7 : RT h H H7 a1 bs1 := ha1'.kp hd4 kp7
              dsimp only
              refine q_set ?_
              refine RT.thaw ha7 hd7 (fun H7' _ kp7' hd7' hr7 _ _ => ?_) (kp04.trans kp7)
              refine put_at (k := j) (y := .int 1) (show _ = some (some (V.ref a1)) from rfl) (show _ = some (some (V.int (j : Int))) from rfl) rfl hr7 (by rw [List.length_map]; omega) (by rw [List.length_map]; omega) fun t3 H8 s8 h8 => ?_
              have e3 : (bs1.map V.int).take j ++ [V.int 1] ++ (bs1.map V.int).drop (j + 1) = (bs1.take j ++ [1] ++ bs1.drop (j + 1)).map V.int := by simp
              rw [e3] at h8
              refine J _ _ ⟨kp7'.trans (Kp.of s8), hd7'.same s8, t3, _, _, rfl, .inl (s8 _ _ hr7), .inl h8, fun x m => ?_, ?_⟩
              · rcases List.mem_append.mp m with m | m
                · rcases List.mem_append.mp m with m | m
                  · exact ob1 x (List.mem_of_mem_take m)
                  · rw [List.mem_singleton.mp m]; exact .inr rfl
                · exact ob1 x (List.mem_of_mem_drop m)
              · rw [List.length_append, List.length_append, List.length_take, List.length_drop, List.length_cons, List.length_nil]
                omega
          · refine q_next ?_
            exact J _ _ ⟨kp04, hd4, a2, bs2, none, rfl, ha1', ha2, ob2, by omega⟩
end
end CC

namespace CC
open PySem PySem.Spec PyProof.Rows L2 Ek
variable {N : Addr → Prop}
theorem Kp.free {h dr : Addr} {H H' : Hp} {a : Addr} (kp : Kp h H H') (hd : Hdd H' h dr) (n : H' a = none) : H a = none := by
  cases e : H a with
  | none => rfl
  | some o =>
    have z := kp a o (hd.ne n) e
    rw [n] at z
    cases z
theorem paired_drop {α β : Type} {F : α → β → Prop} : ∀ {n : Nat} {xs : List α} {ds : List β}, Paired F xs ds → Paired F (xs.drop n) (ds.drop n)
  | 0, _, _, p => p
  | n + 1, _, _, .nil => .nil
  | n + 1, _, _, .cons _ p => paired_drop (n := n) p
theorem paired_take {α β : Type} {F : α → β → Prop} : ∀ {n : Nat} {xs : List α} {ds : List β}, Paired F xs ds → Paired F (xs.take n) (ds.take n)
  | 0, _, _, _ => .nil
  | n + 1, _, _, .nil => .nil
  | n + 1, _, _, .cons e p => .cons e (paired_take (n := n) p)
theorem paired_rev2 {α β : Type} {F : α → β → Prop} {a : List α} {b : List β} (x : Paired F a b) : Paired F a.reverse b.reverse := by
  induction x with
  | nil => exact .nil
  | cons h _ ih =>
    rw [List.reverse_cons, List.reverse_cons]
    exact paired_app ih (.cons h .nil)
theorem paired_cut {F : V → PyData → Prop} {xs : List V} {ds : List PyData} (p : Paired F xs ds) (lo hi : Option Int) : ∃ es, Paired F (cutV xs lo hi) es ∧ (cutV xs lo hi).length ≤ xs.length := by
  unfold cutV
  refine ⟨_, paired_take (paired_drop p), ?_⟩
  rw [List.length_take, List.length_drop]
  omega
/-- a tuple of such items -/
def Tq (F : V → PyData → Prop) (H : Hp) (v : V) (n : Nat) : Prop := ∃ (a : Addr) (xs : List V) (ds : List PyData), v = .ref a ∧ H a = some (.tup xs) ∧ Paired F xs ds ∧ xs.length ≤ n
theorem Tq.same {F : V → PyData → Prop} {H H' : Hp} {v : V} {n : Nat} (s : Same H H') (x : Tq F H v n) : Tq F H' v n := by
  obtain ⟨a, xs, ds, e, h, p, l⟩ := x
  exact ⟨a, xs, ds, e, s _ _ h, p, l⟩
theorem Tq.mono {F : V → PyData → Prop} {H : Hp} {v : V} {n m : Nat} (x : Tq F H v n) (h : n ≤ m) : Tq F H v m := by
  obtain ⟨a, xs, ds, e, h1, p, l⟩ := x
  exact ⟨a, xs, ds, e, h1, p, by omega⟩
section
variable {K : PySem.W.Frag}
theorem tq_sl {F : V → PyData → Prop} {H : Hp} {v : V} {n : Nat} {lo hi : Option Int} {Q : VK} (x : Tq F H v n) (k : ∀ v' H', Same H H' → Tq F H' v' n → Q v' H') : rSlA K v lo hi H Q := by
  obtain ⟨a, xs, ds, rfl, h, p, l⟩ := x
  obtain ⟨es, p2, l2⟩ := paired_cut p lo hi
  exact sl_A h rfl fun t H' s e => k _ H' s ⟨t, _, es, rfl, e, p2, by omega⟩
theorem tq_cat {F : V → PyData → Prop} {H : Hp} {v v2 : V} {n m : Nat} {Q : VK} (x : Tq F H v n) (y : Tq F H v2 m) (z : n + m ≤ 1000) (k : ∀ v' H', Same H H' → Tq F H' v' (n + m) → Q v' H') : rCatA K v v2 H Q := by
  obtain ⟨a, xs, ds, rfl, h, p, l⟩ := x
  obtain ⟨b, ys, es, rfl, h2, p2, l2⟩ := y
  exact cat_A h h2 (by omega) fun t H' s e => k _ H' s ⟨t, _, _, rfl, e, paired_app p p2, by rw [List.length_append]; omega⟩
end
theorem tq_rev {F : V → PyData → Prop} {K : PySem.W.Frag} {H : Hp} {v : V} {n : Nat} {Q : VK} (x : Tq F H v n) (k : ∀ v' H', Same H H' → Tq F H' v' n → Q v' H') : ∃ a xs, v = .ref a ∧ SqT K H a xs ∧ ∀ p, H p = none → Q (.ref p) (upd H p (.tup xs.reverse)) := by
  obtain ⟨a, xs, ds, rfl, h, p, l⟩ := x
  exact ⟨a, xs, rfl, tl h, fun t nt => k _ _ (same_upd nt) ⟨t, _, _, rfl, upd_same, paired_rev2 p, by rw [List.length_reverse]; exact l⟩⟩
/-- values, each of them such -/
inductive LvAll (N : Addr → Prop) (H : Hp) : List V → Prop
  | nil : LvAll N H []
  | cons {v : V} {vs : List V} (h : ∃ d, Lv2 N H v d) (t : LvAll N H vs) : LvAll N H (v :: vs)
theorem LvAll.imp {H H' : Hp} (f : ∀ v d, Lv2 N H v d → Lv2 N H' v d) {vs : List V} (x : LvAll N H vs) : LvAll N H' vs := by
  induction x with
  | nil => exact .nil
  | cons h _ ih => exact .cons (h.imp fun d z => f _ d z) ih
theorem LvAll.same {H H' : Hp} (s : Same H H') {vs : List V} (x : LvAll N H vs) : LvAll N H' vs := x.imp fun _ _ z => Lv2.same s z
theorem LvAll.kp {h dr : Addr} {H H' : Hp} (hd : Hdd H h dr) (kp : Kp h H H') {vs : List V} (x : LvAll N H vs) : LvAll N H' vs := x.imp fun _ _ z => Lv2.kp hd kp z
theorem LvAll.app {H : Hp} {xs ys : List V} (x : LvAll N H xs) (y : LvAll N H ys) : LvAll N H (xs ++ ys) := by
  induction x with
  | nil => exact y
  | cons h _ ih => exact .cons h ih
theorem LvAll.weak {N N' : Addr → Prop} (hN : ∀ a, N a → N' a) {H : Hp} {vs : List V} (x : LvAll N H vs) : LvAll N' H vs := by
  induction x with
  | nil => exact .nil
  | cons h _ ih => exact .cons (h.imp fun d z => Lv2.weak hN z) ih
theorem LvAll.updL {N : Addr → Prop} {H : Hp} {D : Addr} {ys : List V} {u : HO} (e : H D = some (.lst ys)) (n : ¬ N D) {vs : List V} (x : LvAll N H vs) : LvAll N (upd H D u) vs := by
  induction x with
  | nil => exact .nil
  | cons h _ ih => exact .cons (h.imp fun d z => Lv2.updL e n z) ih
theorem LvAll.at {H : Hp} {xs : List V} (x : LvAll N H xs) : ∀ {j : Nat}, j < xs.length → ∃ v d, xs[j]? = some v ∧ Lv2 N H v d := by
  induction x with
  | nil => intro j h; cases h
  | cons h _ ih =>
    intro j hj
    cases j with
    | zero =>
      obtain ⟨d, z⟩ := h
      exact ⟨_, d, rfl, z⟩
    | succ j =>
      obtain ⟨v, d, e, z⟩ := ih (j := j) (by rw [List.length_cons] at hj; omega)
      exact ⟨v, d, by rw [List.getElem?_cons_succ]; exact e, z⟩
theorem Tq.lv2 {H0 H : Hp} {v : V} {n : Nat} (s : Same H0 H) (x : Tq (Lv1 N H0) H v n) (h : n ≤ 10) : ∃ d, Lv2 N H v d := by
  obtain ⟨a, xs, ds, e, h1, p, l⟩ := x
  exact ⟨_, .inr ⟨a, xs, ds, e, .inl ⟨h1, rfl⟩, paired_imp (fun _ _ z => Lv1.same s z) p, by omega⟩⟩
theorem Tq.lv3 {H0 H : Hp} {v : V} {n : Nat} (s : Same H0 H) (x : Tq (Lv2 N H0) H v n) (h : n ≤ 10) : ∃ d, Lv3 N H v d := by
  obtain ⟨a, xs, ds, e, h1, p, l⟩ := x
  exact ⟨_, .inr ⟨a, xs, ds, e, .inl ⟨h1, rfl⟩, paired_imp (fun _ _ z => Lv2.same s z) p, by omega⟩⟩
theorem tq1 {F : V → PyData → Prop} {H : Hp} {t : Addr} {v : V} {d : PyData} (h : H t = some (.tup [v])) (f : F v d) : Tq F H (.ref t) 1 := ⟨t, _, _, rfl, h, .cons f .nil, Nat.le_refl _⟩
theorem tq2 {F : V → PyData → Prop} {H : Hp} {t : Addr} {v v2 : V} {d d2 : PyData} (h : H t = some (.tup [v, v2])) (f : F v d) (f2 : F v2 d2) : Tq F H (.ref t) 2 := ⟨t, _, _, rfl, h, .cons f (.cons f2 .nil), Nat.le_refl _⟩
theorem Tq.kp {h dr : Addr} {F : V → PyData → Prop} {H H' : Hp} {v : V} {n : Nat} (hd : Hdd H h dr) (kp : Kp h H H') (x : Tq F H v n) : Tq F H' v n := by
  obtain ⟨a, xs, ds, e, h, p, l⟩ := x
  exact ⟨a, xs, ds, e, kp _ _ (hd.ns h (fun _ _ z => by cases z)) h, p, l⟩
theorem Tq.lv1 {H : Hp} {v : V} {n : Nat} (x : Tq Fl H v n) (h : n ≤ 10) : ∃ d, Lv1 N H v d := by
  obtain ⟨a, xs, ds, e, h1, p, l⟩ := x
  exact ⟨_, .inr ⟨a, xs, ds, e, .inl ⟨h1, rfl⟩, p, by omega⟩⟩
theorem fl_bits {bs : List Int} (b : Bits bs) : Paired Fl (bs.map V.int) (bs.map .int) := by
  induction bs with
  | nil => exact .nil
  | cons x bs ih =>
    refine .cons (.int x ?_) (ih fun y m => b y (List.mem_cons_of_mem _ m))
    have := b x List.mem_cons_self
    omega
theorem Tq.imp {F G : V → PyData → Prop} (f : ∀ v d, F v d → G v d) {H : Hp} {v : V} {n : Nat} (x : Tq F H v n) : Tq G H v n := by
  obtain ⟨a, xs, ds, e, h, p, l⟩ := x
  exact ⟨a, xs, ds, e, h, paired_imp f p, l⟩
theorem row_tq {H : Hp} {r : Addr} {bs : List Int} (h : H r = some (.tup (bs.map V.int))) (b : Bits bs) (l : bs.length ≤ 3) : Tq Fl H (.ref r) 3 := by
  refine ⟨r, _, bs.map .int, rfl, h, ?_, by rw [List.length_map]; omega⟩
  clear h l
  induction bs with
  | nil => exact .nil
  | cons x bs ih =>
    refine .cons (.int x ?_) (ih fun y m => b y (List.mem_cons_of_mem _ m))
    have := b x List.mem_cons_self
    omega
theorem rows_tq {H : Hp} {as : List Addr} {rs : List (List Int)} (x : Rws H as rs) (ok : ∀ r ∈ rs, Bits r ∧ 1 ≤ r.length ∧ r.length ≤ 3) : ∃ ds, Paired (Lv1 N H) (as.map V.ref) ds := by
  induction x with
  | nil => exact ⟨[], .nil⟩
  | cons e _ ih =>
    obtain ⟨ds, p⟩ := ih fun r m => ok r (List.mem_cons_of_mem _ m)
    obtain ⟨b, _, l⟩ := ok _ List.mem_cons_self
    exact ⟨_, .cons (row_lv1 e b l) p⟩
section
variable {P : Program} {w : World} {K : PySem.W.Frag} {mg : Str → Option Value} {base : Heap}
def spBP : Sp := fun vs H Q _ => ∃ (h dr L t : Addr) (ps : List Addr) (i : Int) (as : List Addr) (rs : List (List Int)), vs = [.ref h, .ref L, .ref t] ∧ Hdd H h dr ∧ H L = some (.lst (ps.map V.ref)) ∧ ps.length ≤ 6 ∧ H t = some (.tup (.int i :: as.map V.ref)) ∧ Rws H as rs ∧ 1 ≤ as.length ∧ as.length ≤ 2 ∧ 0 ≤ i ∧ i ≤ 3 ∧ (∀ r ∈ rs, Bits r ∧ 1 ≤ r.length ∧ r.length ≤ 3) ∧ ∀ v d H', Kp h H H' → Hdd H' h dr → Lv2 (fun a => H a = none) H' v d → Q v H'
theorem ok_BP {f : Addr} {fd : FuncData} (F : Fun K "_law_bent_part" "_law_bent_part" sBP f fd) (B : Bt mg) {fTake : Addr} {fdTake : FuncData} (GTake : FnOk P w K mg base CX0 1 fTake fdTake ["hand", "many"] spTake) (kTake : PySem.W.keepIn K (.ref fTake) = true) (bTake : Binds K fdTake ["hand", "many"] []) (gTake : mg "_law_take" = some (.ref fTake)) : FnOk P w K mg base CX0 2 f fd ["hand", "book", "part"] spBP := by
  refine F.ok scBP (fun vs H Q E h => ?_) (fun cdv A outer s H vs Q E hr h => ?_)
  · obtain ⟨h, dr, L, t, ps, i, as, rs, rfl, _⟩ := h
    rfl
  · obtain ⟨h, dr, L, t, ps, i, as, rs, rfl, hd, hL, l6, ht, hrw, a1, a2, i0, i3, okr, q⟩ := h
    refine ⟨_, (pss_cons (ps_par (i := 3) (j := 4) rfl scBP.nd rfl rfl (by decide) rfl rfl (pa_cons (pe_ix ix_tup (pv 2) pe_int (fun _ _ => rfl)) (pa_cons (pe_ix ix_tup (pv 2) pe_int (fun _ _ => rfl)) pa_nil)) rfl)
      (pss_cons (ps_set (i := 5) scBP.nd rfl (.inl rfl) (pe_call GTake (hr.mono (by decide)) (by rfl) gTake kTake bTake .nil pass0 (pa_cons (pv 0) (pa_cons (pe_callB call_len_seq (by rfl) B.len PySem.boot_len (pa_cons (pv 4) pa_nil)) pa_nil))))
      (pss_cons (ps_set (i := 6) scBP.nd rfl (.inl rfl) (pe_op op_catA (pe_op op_catA (pe_slice sl_tupA (pv 4) po_none (po_some (pv 5))) (pe_tup (pa_cons (pe_ix ix_list (pe_lst (pa_cons (pe_op op_sub pe_int (pe_ix ix_tup (pv 4) (pv 5) (fun _ _ => rfl))) (pa_cons (pe_cmpR op_eq (pe_ix ix_tup (pv 4) (pv 5) (fun _ _ => rfl)) pe_int (nomark _)) (pa_cons pe_int (pa_cons pe_non pa_nil))))) (pe_call GTake (hr.mono (by decide)) (by rfl) gTake kTake bTake .nil pass0 (pa_cons (pv 0) (pa_cons pe_int pa_nil))) (fun _ _ => rfl)) pa_nil))) (pe_slice sl_tupA (pv 4) (po_some (pe_op op_add (pv 5) pe_int)) po_none)))
      (pss_cons (ps_set (i := 7) scBP.nd rfl (.inl rfl) (pe_lst (pa_cons (pe_callTy call_list_of (by rfl) B.list (by decide +kernel) (pa_cons (pv 2) pa_nil)) (pa_cons (pe_slice sl_tupA (pv 2) po_none (po_some (pe_un un_neg pe_int))) (pa_cons (pe_op op_catA (pv 2) (pe_slice sl_tupA (pv 2) (po_some pe_int) (po_some pe_int))) (pa_cons (pe_op op_catA (pe_tup (pa_cons (pv 3) (pa_cons (pv 6) pa_nil))) (pe_slice sl_tupA (pv 2) (po_some pe_int) po_none)) (pa_cons (pe_op op_catA (pe_slice sl_tupA (pv 2) po_none (po_some pe_int)) (pe_revT (pe_slice sl_tupA (pv 2) (po_some pe_int) po_none))) pa_nil)))))))
      (pss_cons (ps_set (i := 7) scBP.nd rfl (.inl rfl) (pe_op op_cat (pv 7) (pe_lst (pa_cons (pe_op op_catA (pe_tup (pa_cons (pe_cmpR op_eq (pv 3) pe_int (nomark _)) pa_nil)) (pe_slice sl_tupA (pv 2) (po_some pe_int) po_none)) (pa_cons (pe_op op_catA (pe_tup (pa_cons (pe_op op_sub (pv 3) (pe_callB call_len_seq (by rfl) B.len PySem.boot_len (pa_cons (pv 1) pa_nil))) pa_nil)) (pe_slice sl_tupA (pv 2) (po_some pe_int) po_none)) (pa_cons (pe_op op_catA (pe_tup (pa_cons (pe_callB call_len_seq (by rfl) B.len PySem.boot_len (pa_cons (pv 1) pa_nil)) pa_nil)) (pe_slice sl_tupA (pv 2) (po_some pe_int) po_none)) pa_nil))))))
      (pss_cons (ps_set (i := 7) scBP.nd rfl (.inl rfl) (pe_op op_cat (pv 7) (pe_lst (pa_cons (pe_op op_catA (pe_tup (pa_cons (pv 3) (pa_cons (pe_callTy call_list_of (by rfl) B.list (by decide +kernel) (pa_cons (pv 4) pa_nil)) pa_nil))) (pe_slice sl_tupA (pv 2) (po_some pe_int) po_none)) (pa_cons pe_non (pa_cons (pe_tup pa_nil) (pa_cons (pe_tup (pa_cons (pv 3) pa_nil)) (pa_cons pe_int pa_nil))))))))
      (pss_one (ps_ret (pe_ix ix_list (pv 7) (pe_call GTake (hr.mono (by decide)) (by rfl) gTake kTake bTake .nil pass0 (pa_cons (pv 0) (pa_cons pe_int pa_nil))) (fun _ _ => rfl)))))))))), ?_⟩
    obtain ⟨a, as', rfl⟩ : ∃ a as', as = a :: as' := by
      cases as with
      | nil => simp at a1
      | cons a l => exact ⟨a, l, rfl⟩
    obtain ⟨r, rs', rfl⟩ : ∃ r rs', rs = r :: rs' := by
      cases hrw with
      | cons _ _ => exact ⟨_, _, rfl⟩
    have har : H a = some (.tup (r.map V.int)) := by cases hrw with | cons e _ => exact e
    obtain ⟨ob, ol1, ol3⟩ := okr r List.mem_cons_self
    refine q_seq ?_
    refine ⟨.ref t, rfl, t, _, 0, .int i, rfl, rfl, tl ht, at_z (j := 0) rfl rfl, .ref t, rfl, t, _, 1, .ref a, rfl, rfl, tl ht, at_z (j := 1) rfl rfl, _, _, rfl, ?_⟩
    dsimp only
    refine q_seq (q_set ?_)
    refine ⟨.ref h, rfl, .ref a, rfl, a, _, rfl, .inr (tl har), h, dr, _, rfl, hd, by rw [List.length_map]; omega, fun rt H1 r0 r1 e1 hd1 => ?_⟩
    rw [List.length_map] at r1
    obtain ⟨j, rfl⟩ : ∃ j : Nat, rt = (j : Int) := ⟨rt.toNat, by omega⟩
    have kp1 : Kp h H H1 := Kp.eq e1
    have har1 := kp1 _ _ (hd.ns har (fun _ _ z => by cases z)) har
    have ht1 := kp1 _ _ (hd.ns ht (fun _ _ z => by cases z)) ht
    have hL1 := kp1 _ _ (hd.ns hL (ref_hand (h := h))) hL
    have hrw1 := hrw.kp hd kp1
    have jr : j < r.length := by omega
    have gj : (r.map V.int)[j]? = some (.int r[j]) := row_int jr
    have bj := ob _ (List.getElem_mem jr)
    dsimp only
    refine q_seq (q_set ?_)
    have rq : Tq Fl H1 (.ref a) 3 := row_tq har1 ob (by omega)
    refine ⟨.ref a, rfl, noPart ⟨.int (j : Nat), rfl, _, rfl, tq_sl rq fun v1 H2 s2 q1 => ?_⟩⟩
    have har2 := s2 _ _ har1
    refine ⟨.ref a, rfl, .int (j : Nat), rfl, a, _, _, _, rfl, rfl, tl har2, at_z (j := j) rfl gj, _, _, rfl, rfl, .ref a, rfl, .int (j : Nat), rfl, a, _, _, _, rfl, rfl, tl har2, at_z (j := j) rfl gj, rfl, by show 4 ≤ sizeLine; decide, fun Lx nLx => ?_⟩
    have s3 := same_upd (o := .lst [V.int (1 - r[j]), V.bl (decide (V.int r[j] = V.int 1)), V.int 2, V.non]) nLx
    have hd3 := (hd1.same s2).same s3
    refine ⟨.ref h, rfl, h, dr, 4, rfl, hd3, by decide, fun rx H4 x0 x1 e4 hd4 => ?_⟩
    have hLx : H4 Lx = some (.lst [V.int (1 - r[j]), V.bl (decide (V.int r[j] = V.int 1)), V.int 2, V.non]) := (e4 Lx ((hd1.same s2).ne nLx)).trans upd_same
    obtain ⟨vx, dx, gx, fx⟩ : ∃ vx dx, ([V.int (1 - r[j]), V.bl (decide (V.int r[j] = V.int 1)), V.int 2, V.non] : List V)[rx.toNat]? = some vx ∧ Fl vx dx := by
      rcases (show rx = 0 ∨ rx = 1 ∨ rx = 2 ∨ rx = 3 by omega) with rfl | rfl | rfl | rfl
      · exact ⟨_, _, rfl, .int _ (by omega)⟩
      · exact ⟨_, _, rfl, .bl _⟩
      · exact ⟨_, _, rfl, .int 2 (by decide)⟩
      · exact ⟨_, _, rfl, .non⟩
    refine ⟨Lx, _, _, _, rfl, rfl, sl hLx, at_z (j := rx.toNat) (by omega) gx, by show 1 ≤ sizeLine; decide, fun t5 n5 => ?_⟩
    have s5 := same_upd (o := .tup [vx]) n5
    have kp4 : Kp h H1 H4 := (Kp.of (s2.trans s3)).trans (Kp.eq e4)
    have q1' := (((q1.same s3).kp hd3 (Kp.eq e4)).same s5)
    refine tq_cat q1' (tq1 upd_same fx) (by decide) fun v6 H6 s6 q6 => ?_
    have kp6 : Kp h H1 H6 := kp4.trans (Kp.of (s5.trans s6))
    have hd6 := (hd4.same s5).same s6
    have rq6 := rq.kp hd1 kp6
    refine ⟨.ref a, rfl, ⟨.int (j : Nat), rfl, _, _, rfl, rfl, _, rfl, noPart (tq_sl rq6 fun v7 H7 s7 q7 => ?_)⟩⟩
    refine tq_cat (q6.same s7) q7 (by decide) fun vo H8 s8 q8 => ?_
    have kp8 : Kp h H1 H8 := kp6.trans (Kp.of (s7.trans s8))
    have hd8 := (hd6.same s7).same s8
    have har8 := kp8 _ _ (hd1.ns har1 (fun _ _ z => by cases z)) har1
    have ht8 := kp8 _ _ (hd1.ns ht1 (fun _ _ z => by cases z)) ht1
    have hL8 := kp8 _ _ (hd1.ns hL1 (ref_hand (h := h))) hL1
    have hrw8 := hrw1.kp hd1 kp8
    obtain ⟨dodd, lodd⟩ := q8.lv1 (N := fun a => H a = none) (by decide)
    have rq8 : Tq Fl H8 (.ref a) 3 := row_tq har8 ob (by omega)
    obtain ⟨da, la⟩ := rq8.lv1 (N := fun a => H a = none) (by decide)
    have kp08 : Kp h H H8 := kp1.trans kp8
    have i10 : -10 ≤ i ∧ i ≤ 10 := by omega
    have part : Tq (Lv1 (fun a => H a = none) H8) H8 (.ref t) 3 := by
      obtain ⟨ds, p⟩ := rows_tq hrw8 okr
      exact ⟨t, _, _, rfl, ht8, .cons (int_lv i10) p, by rw [List.length_cons, List.length_map]; omega⟩
    clear har2 s2 q1 s3 hd3 nLx e4 hd4 hLx gx fx n5 s5 kp4 q1' q6 s6 kp6 hd6 rq6 q7 s7 s8 q8 har1 ht1 hL1 hrw1 rq hd1 kp1 e1 kp8
    dsimp only
    refine q_seq (q_set ?_)
    -- the first five
    obtain ⟨_, pxs, pds, ept, hpt, ppt, plt⟩ := id part
    cases ept
    rw [ht8] at hpt
    cases hpt
    refine ⟨.ref t, rfl, t, _, rfl, .inr (tl ht8), fun l1 n1 => ?_⟩
    have s1 := same_upd (o := .lst (V.int i :: (a :: as').map V.ref)) n1
    have g1 : ∀ H', Same (upd H8 l1 (.lst (V.int i :: (a :: as').map V.ref))) H' → ∃ d, Lv2 (fun a => H a = none) H' (.ref l1) d := fun H' s => ⟨_, .inr ⟨l1, _, _, rfl, .inr ⟨s _ _ upd_same, rfl, (fun e t z => by injection z with z; injection z with z; cases z), Kp.free kp08 hd8 n1⟩, paired_imp (fun _ _ z => Lv1.same (s1.trans s) z) ppt, by omega⟩⟩
    have p1 := part.same s1
    generalize upd H8 l1 (.lst (V.int i :: (a :: as').map V.ref)) = K1 at s1 g1 p1 ⊢
    refine ⟨.ref t, rfl, noPart ⟨1, rfl, _, rfl, tq_sl p1 fun v2 K2 s2 q2 => ?_⟩⟩
    have c2 := s1.trans s2
    have g2 : ∀ H', Same K2 H' → ∃ d, Lv2 (fun a => H a = none) H' v2 d := fun H' s => (q2.same s).lv2 (c2.trans s) (by decide)
    refine ⟨.ref t, rfl, .ref t, rfl, ⟨1, rfl, ⟨2, rfl, tq_sl (part.same c2) fun v3 K3 s3 q3 => ?_⟩⟩⟩
    refine tq_cat (part.same (c2.trans s3)) q3 (by decide) fun v4 K4 s4 q4 => ?_
    have c4 := c2.trans (s3.trans s4)
    have g4 : ∀ H', Same K4 H' → ∃ d, Lv2 (fun a => H a = none) H' v4 d := fun H' s => (q4.same s).lv2 (c4.trans s) (by decide)
    refine ⟨.int i, rfl, vo, rfl, by show 2 ≤ sizeLine; decide, fun u5 n5 => ?_⟩
    have s5 := same_upd (o := .tup [V.int i, vo]) n5
    have q5 : Tq (Lv1 (fun a => H a = none) H8) (upd K4 u5 (.tup [V.int i, vo])) (.ref u5) 2 := tq2 upd_same (int_lv i10) lodd
    refine ⟨.ref t, rfl, ⟨2, rfl, noPart (tq_sl (part.same (c4.trans s5)) fun v6 K6 s6 q6 => ?_)⟩⟩
    refine tq_cat (q5.same s6) q6 (by decide) fun v7 K7 s7 q7 => ?_
    have c7 := c4.trans (s5.trans (s6.trans s7))
    have g7 : ∀ H', Same K7 H' → ∃ d, Lv2 (fun a => H a = none) H' v7 d := fun H' s => (q7.same s).lv2 (c7.trans s) (by decide)
    have e47 := s5.trans (s6.trans s7)
    clear n5 q5 s5 s6 q6 s7 q7
    refine ⟨.ref t, rfl, noPart ⟨1, rfl, tq_sl (part.same c7) fun v8 K8 s8 q8 => ?_⟩⟩
    refine ⟨.ref t, rfl, ⟨1, rfl, noPart (tq_sl (part.same (c7.trans s8)) fun v9 K9 s9 q9 => ?_)⟩⟩
    obtain ⟨a9, xs9, r91, r92, r93⟩ := tq_rev (K := K) (Q := fun v Hy => Tq (Lv1 (fun a => H a = none) H8) Hy v 3 ∧ Same K9 Hy) q9 (fun v10 K10 s10 q10 => ⟨q10, s10⟩)
    refine ⟨a9, xs9, r91, r92, fun u10 nu10 => ?_⟩
    obtain ⟨q10, s10⟩ := r93 u10 nu10
    generalize upd K9 u10 (HO.tup xs9.reverse) = K10 at q10 s10 ⊢
    refine tq_cat (q8.same (s9.trans s10)) q10 (by decide) fun v11 K11 s11 q11 => ?_
    have c11 := c7.trans (s8.trans (s9.trans (s10.trans s11)))
    have g11 : ∀ H', Same K11 H' → ∃ d, Lv2 (fun a => H a = none) H' v11 d := fun H' s => (q11.same s).lv2 (c11.trans s) (by decide)
    have e711 := s8.trans (s9.trans (s10.trans s11))
    clear s8 q8 s9 q9 s10 q10 s11 q11
    refine ⟨by show 5 ≤ sizeLine; decide, fun L1 nL1 => ?_⟩
    have la1 : LvAll (fun a => H a = none) K11 [V.ref l1, v2, v4, v7, v11] := .cons (g1 _ (s2.trans (s3.trans (s4.trans (e47.trans e711))))) (.cons (g2 _ (s3.trans (s4.trans (e47.trans e711)))) (.cons (g4 _ (e47.trans e711)) (.cons (g7 _ e711) (.cons (g11 _ (Same.refl _)) .nil))))
    have sL1 := same_upd (o := .lst [V.ref l1, v2, v4, v7, v11]) nL1
    have la2 := la1.same sL1
    have cL1 := c11.trans sL1
    have eL1 : (upd K11 L1 (.lst [V.ref l1, v2, v4, v7, v11])) L1 = some (.lst [V.ref l1, v2, v4, v7, v11]) := upd_same
    have xl : [V.ref l1, v2, v4, v7, v11].length = 5 := rfl
    generalize [V.ref l1, v2, v4, v7, v11] = xs1 at la1 sL1 la2 cL1 eL1 xl ⊢
    generalize upd K11 L1 (.lst xs1) = M0 at sL1 la2 cL1 eL1 ⊢
    clear g1 g2 g4 g7 g11 s1 s2 s3 s4 e47 e711 la1 sL1 c2 c4 c7 c11 p1 q2 q3 q4 n1 nL1
    dsimp only
    have ht0 := cL1 _ _ ht8
    have partM : ∀ H', Same M0 H' → Tq (Lv1 (fun a => H a = none) H8) H' (.ref t) 3 := fun H' s => part.same (cL1.trans s)
    have hLM := cL1 _ _ hL8
    have lps6 : (ps.map V.ref).length ≤ 6 := by rw [List.length_map]; exact l6
    -- three more
    refine q_seq (q_set ?_)
    refine ⟨.ref L1, rfl, .int i, rfl, rfl, by show 1 ≤ sizeLine; decide, fun u1 n1 => ?_⟩
    have s1 := same_upd (o := .tup [V.bl (decide (V.int i = V.int 1))]) n1
    have q1 : Tq (Lv1 (fun a => H a = none) H8) (upd M0 u1 (.tup [V.bl (decide (V.int i = V.int 1))])) (.ref u1) 1 := tq1 upd_same (.inl (.bl _))
    refine ⟨.ref t, rfl, ⟨1, rfl, noPart (tq_sl (partM _ s1) fun v2 K2 s2 q2 => ?_)⟩⟩
    refine tq_cat (q1.same s2) q2 (by decide) fun v3 K3 s3 q3 => ?_
    have c3 := s1.trans (s2.trans s3)
    have g3 : ∀ H', Same K3 H' → ∃ d, Lv2 (fun a => H a = none) H' v3 d := fun H' s => (q3.same s).lv2 (cL1.trans (c3.trans s)) (by decide)
    clear n1 q1 s1 s2 q2 s3 q3
    refine ⟨.int i, rfl, .ref L, rfl, L, _, rfl, .inl (sl (c3 _ _ hLM)), _, _, rfl, rfl, by show 1 ≤ sizeLine; decide, fun u4 n4 => ?_⟩
    have s4 := same_upd (o := .tup [V.int (i - ((ps.map V.ref).length : Nat))]) n4
    have q4 : Tq (Lv1 (fun a => H a = none) H8) (upd K3 u4 (.tup [V.int (i - ((ps.map V.ref).length : Nat))])) (.ref u4) 1 := tq1 upd_same (int_lv (by omega))
    refine ⟨.ref t, rfl, ⟨1, rfl, noPart (tq_sl (partM _ (c3.trans s4)) fun v5 K5 s5 q5 => ?_)⟩⟩
    refine tq_cat (q4.same s5) q5 (by decide) fun v6 K6 s6 q6 => ?_
    have e36 := s4.trans (s5.trans s6)
    have c6 := c3.trans e36
    have g6 : ∀ H', Same K6 H' → ∃ d, Lv2 (fun a => H a = none) H' v6 d := fun H' s => (q6.same s).lv2 (cL1.trans (c6.trans s)) (by decide)
    clear n4 q4 s4 s5 q5 s6 q6
    refine ⟨.ref L, rfl, L, _, rfl, .inl (sl (c6 _ _ hLM)), by show 1 ≤ sizeLine; decide, fun u7 n7 => ?_⟩
    have s7 := same_upd (o := .tup [V.int ((ps.map V.ref).length : Nat)]) n7
    have q7 : Tq (Lv1 (fun a => H a = none) H8) (upd K6 u7 (.tup [V.int ((ps.map V.ref).length : Nat)])) (.ref u7) 1 := tq1 upd_same (int_lv (by omega))
    refine ⟨.ref t, rfl, ⟨1, rfl, noPart (tq_sl (partM _ (c6.trans s7)) fun w2 K8 s8 q8 => ?_)⟩⟩
    refine tq_cat (q7.same s8) q8 (by decide) fun w3 K9 s9 q9 => ?_
    have e69 := s7.trans (s8.trans s9)
    have c9 := c6.trans e69
    have g9 : ∀ H', Same K9 H' → ∃ d, Lv2 (fun a => H a = none) H' w3 d := fun H' s => (q9.same s).lv2 (cL1.trans (c9.trans s)) (by decide)
    clear n7 q7 s7 s8 q8 s9 q9
    refine ⟨by show 3 ≤ sizeLine; decide, fun L2 nL2 => ?_⟩
    have lb1 : LvAll (fun a => H a = none) K9 [v3, v6, w3] := .cons (g3 _ (e36.trans e69)) (.cons (g6 _ e69) (.cons (g9 _ (Same.refl _)) .nil))
    have sL2 := same_upd (o := .lst [v3, v6, w3]) nL2
    have eL1' := sL2 _ _ (c9 _ _ eL1)
    have xl2 : [v3, v6, w3].length = 3 := rfl
    refine ⟨L1, L2, _, _, rfl, rfl, eL1', upd_same, by rw [xl, xl2]; decide, fun L3 nL3 => ?_⟩
    have sL3 := same_upd (o := .lst (xs1 ++ [v3, v6, w3])) nL3
    have cM1 := c9.trans (sL2.trans sL3)
    have lc := (la2.same cM1).app (lb1.same (sL2.trans sL3))
    have eL3 : (upd (upd K9 L2 (.lst [v3, v6, w3])) L3 (.lst (xs1 ++ [v3, v6, w3]))) L3 = some (.lst (xs1 ++ [v3, v6, w3])) := upd_same
    have xl3 : (xs1 ++ [v3, v6, w3]).length = 8 := by rw [List.length_append, xl]; rfl
    generalize xs1 ++ [v3, v6, w3] = xs3 at sL3 cM1 lc eL3 xl3 ⊢
    generalize upd (upd K9 L2 (.lst [v3, v6, w3])) L3 (.lst xs3) = M1 at sL3 cM1 lc eL3 ⊢
    clear g3 g6 g9 e36 e69 c3 c6 c9 lb1 sL2 eL1' sL3 nL2 nL3
    have partN : ∀ H', Same M1 H' → Tq (Lv1 (fun a => H a = none) H8) H' (.ref t) 3 := fun H' s => partM H' (cM1.trans s)
    have harN := cM1 _ _ (cL1 _ _ har8)
    have cN := cL1.trans cM1
    dsimp only
    -- five more
    refine q_seq (q_set ?_)
    refine ⟨.ref L3, rfl, .int i, rfl, .ref a, rfl, a, _, rfl, .inr (tl harN), fun l1 n1 => ⟨by show 2 ≤ sizeLine; decide, fun u2 n2 => ?_⟩⟩
    have s1 := same_upd (o := .lst (r.map V.int)) n1
    have s2 := same_upd (o := .tup [V.int i, .ref l1]) n2
    have la : Lv1 (fun a => H a = none) (upd (upd M1 l1 (.lst (r.map V.int))) u2 (.tup [V.int i, .ref l1])) (.ref l1) (.list (r.map .int)) := by
      refine .inr ⟨l1, _, _, rfl, .inr ⟨s2 _ _ upd_same, rfl, fun e t z => ?_, Kp.free (kp08.trans (Kp.of cN)) (hd8.same cN) n1⟩, ?_, by rw [List.length_map]; omega⟩
      · injection z with z
        cases r with
        | nil => cases z
        | cons _ _ => rw [List.map_cons] at z; injection z with z _; cases z
      · exact fl_bits ob
    have q2 : Tq (Lv1 (fun a => H a = none) (upd (upd M1 l1 (.lst (r.map V.int))) u2 (.tup [V.int i, .ref l1]))) (upd (upd M1 l1 (.lst (r.map V.int))) u2 (.tup [V.int i, .ref l1])) (.ref u2) 2 := tq2 upd_same (int_lv i10) la
    have s12 := s1.trans s2
    generalize upd (upd M1 l1 (.lst (r.map V.int))) u2 (.tup [V.int i, .ref l1]) = K2 at s12 la q2 ⊢
    refine ⟨.ref t, rfl, ⟨2, rfl, noPart (tq_sl (partN _ s12) fun v3 K3 s3 q3 => ?_)⟩⟩
    have q3' : Tq (Lv1 (fun a => H a = none) K2) K3 v3 3 := q3.imp fun _ _ z => Lv1.same (cN.trans s12) z
    refine tq_cat (q2.same s3) q3' (by decide) fun v4 K4 s4 q4 => ?_
    have g4 : ∀ H', Same K4 H' → ∃ d, Lv2 (fun a => H a = none) H' v4 d := fun H' s => (q4.same s).lv2 (s3.trans (s4.trans s)) (by decide)
    have c4 := s12.trans (s3.trans s4)
    clear n1 n2 la q2 s1 s2 s12 q3 q3' q4
    refine ⟨Nat.zero_le _, fun u5 n5 => ⟨.int i, rfl, by show 1 ≤ sizeLine; decide, fun u6 n6 => ⟨by show 5 ≤ sizeLine; decide, fun L4 nL4 => ?_⟩⟩⟩
    have s5 := same_upd (o := .tup []) n5
    have s6 := same_upd (o := .tup [V.int i]) n6
    have t5 : ∃ d, Lv2 (fun a => H a = none) (upd (upd K4 u5 (.tup [])) u6 (.tup [V.int i])) (.ref u5) d := ⟨_, .inr ⟨u5, _, _, rfl, .inl ⟨s6 _ _ upd_same, rfl⟩, .nil, by decide⟩⟩
    have t6 : ∃ d, Lv2 (fun a => H a = none) (upd (upd K4 u5 (.tup [])) u6 (.tup [V.int i])) (.ref u6) d := ⟨_, .inr ⟨u6, _, _, rfl, .inl ⟨upd_same, rfl⟩, .cons (int_lv i10) .nil, by show 1 ≤ 10; decide⟩⟩
    have lb1 : LvAll (fun a => H a = none) (upd (upd K4 u5 (.tup [])) u6 (.tup [V.int i])) [v4, V.non, .ref u5, .ref u6, .int 0] := .cons (g4 _ (s5.trans s6)) (.cons ⟨_, .inl .non⟩ (.cons t5 (.cons t6 (.cons ⟨_, .inl (.int 0 (by decide))⟩ .nil))))
    have c6 := c4.trans (s5.trans s6)
    generalize upd (upd K4 u5 (.tup [])) u6 (.tup [V.int i]) = K6 at nL4 lb1 c6 ⊢
    have sL4 := same_upd (o := .lst [v4, V.non, .ref u5, .ref u6, .int 0]) nL4
    have xl4 : [v4, V.non, .ref u5, .ref u6, .int 0].length = 5 := rfl
    refine ⟨L3, L4, _, _, rfl, rfl, sL4 _ _ (c6 _ _ eL3), upd_same, by rw [xl3, xl4]; decide, fun L5 nL5 => ?_⟩
    have sL5 := same_upd (o := .lst (xs3 ++ [v4, V.non, .ref u5, .ref u6, .int 0])) nL5
    have cM2 := c6.trans (sL4.trans sL5)
    have ld := (lc.same cM2).app (lb1.same (sL4.trans sL5))
    have eL5 : (upd (upd K6 L4 (.lst [v4, V.non, .ref u5, .ref u6, .int 0])) L5 (.lst (xs3 ++ [v4, V.non, .ref u5, .ref u6, .int 0]))) L5 = some (.lst (xs3 ++ [v4, V.non, .ref u5, .ref u6, .int 0])) := upd_same
    have nL5h : L5 ≠ h := ((hd8.same (cN.trans c6)).same sL4).ne nL5
    have xl5 : (xs3 ++ [v4, V.non, .ref u5, .ref u6, .int 0]).length = 13 := by rw [List.length_append, xl3]; rfl
    generalize xs3 ++ [v4, V.non, .ref u5, .ref u6, .int 0] = xs5 at sL5 cM2 ld eL5 xl5 ⊢
    generalize upd (upd K6 L4 (.lst [v4, V.non, .ref u5, .ref u6, .int 0])) L5 (.lst xs5) = M2 at sL5 cM2 ld eL5 ⊢
    have cE := cN.trans cM2
    have hdE := hd8.same cE
    dsimp only
    refine q_ret ?_
    refine ⟨.ref L5, rfl, .ref h, rfl, h, dr, 13, rfl, hdE, by decide, fun rx H9 y0 y1 e9 hd9 => ?_⟩
    obtain ⟨v9, d9, a9, l9⟩ := ld.at (j := rx.toNat) (by rw [xl5]; omega)
    refine ⟨L5, _, _, _, rfl, rfl, sl ((e9 L5 nL5h).trans eL5), at_z (j := rx.toNat) (by omega) a9, ?_⟩
    exact q _ _ _ (kp08.trans ((Kp.of cE).trans (Kp.eq e9))) hd9 (Lv2.kp hdE (Kp.eq e9) l9)
end
end CC

namespace CC
open PySem PySem.Spec PyProof.Rows L2 Ek
variable {N : Addr → Prop}
theorem fault_in {w : Str} {z : Pd} {rs : List (List Int)} (h : faultP w z = some rs) : rs ∈ shownsOf z.1 w := List.mem_of_find?_eq_some h
theorem lps_3 {H : Hp} {ps : List Addr} {bks : List Pd} (x : LPs H ps bks) : ∀ z ∈ bks, z.1 ≤ 3 ∧ 1 ≤ z.1 := by
  induction x with
  | nil => intro z m; cases m
  | cons h _ ih =>
    intro z m
    rcases List.mem_cons.mp m with e | m
    · rw [e]
      obtain ⟨t, _, _, h1, h3, _⟩ := h
      exact ⟨h3, h1⟩
    · exact ih z m
theorem faultF_shows {w : Str} : ∀ {bks : List Pd} {j i : Nat} {rs : List (List Int)}, faultF w j bks = some (i, rs) → ∃ m z, i = j + m ∧ bks[m]? = some z ∧ rs ∈ shownsOf z.1 w ∧ showsB w z rs = true
  | [], _, _, _, h => by cases h
  | z :: zs, j, i, rs, h => by
    have e : faultF w j (z :: zs) = (match faultP w z with | some rs => some (j, rs) | none => faultF w (j + 1) zs) := rfl
    rw [e] at h
    cases c : faultP w z with
    | some rs2 =>
      rw [c] at h
      cases h
      exact ⟨0, z, rfl, rfl, fault_in c, List.find?_some c⟩
    | none =>
      rw [c] at h
      obtain ⟨m, z2, e2, h1, h2, h3⟩ := faultF_shows h
      exact ⟨m + 1, z2, by omega, by rw [List.getElem?_cons_succ]; exact h1, h2, h3⟩
theorem no_kind {fx : Bool} {bks : List Pd} (c : (kindsOf fx bks).isEmpty = true) : ∀ w ∈ wordsOf fx, ∃ i rs, faultF w 0 bks = some (i, rs) := fun w m => by
  cases e : faultF w 0 bks with
  | some p => exact ⟨p.1, p.2, rfl⟩
  | none =>
    have : w ∈ kindsOf fx bks := List.mem_filter.mpr ⟨m, by rw [e]; rfl⟩
    rw [List.isEmpty_iff.mp c] at this
    cases this
def rowsP (rs : List (List Int)) : List PyData := rs.map fun r => .tuple (r.map .int)
theorem bitsD_of : ∀ {r : List Int}, Bits r → bitsD (r.map .int) = some r
  | [], _ => rfl
  | x :: r, b => by
    have := b x List.mem_cons_self
    show (if x = 0 ∨ x = 1 then (bitsD (r.map .int)).map (x :: ·) else none) = _
    rw [if_pos this, bitsD_of fun y m => b y (List.mem_cons_of_mem _ m)]
    rfl
theorem rowsD_of {n : Nat} : ∀ {rs : List (List Int)}, (∀ r ∈ rs, Bits r ∧ r.length = n) → rowsD n (rowsP rs) = some rs
  | [], _ => rfl
  | r :: rs, ok => by
    obtain ⟨b, l⟩ := ok r List.mem_cons_self
    have e : rowD n (.tuple (r.map .int)) = some r := by
      show (if (r.map PyData.int).length = n then bitsD (r.map .int) else none) = _
      rw [if_pos (by rw [List.length_map]; exact l), bitsD_of b]
    show (match rowD n (.tuple (r.map .int)) with
    | some r => (rowsD n (rowsP rs)).map (r :: ·)
    | none => none) = _
    rw [e, rowsD_of fun y m => ok y (List.mem_cons_of_mem _ m)]
    rfl
theorem rows_lvs {H : Hp} {as : List Addr} {rs : List (List Int)} (x : Rws H as rs) (ok : ∀ r ∈ rs, Bits r ∧ r.length ≤ 3) : Paired (Lv1 N H) (as.map V.ref) (rowsP rs) := by
  induction x with
  | nil => exact .nil
  | cons e _ ih =>
    obtain ⟨b, l⟩ := ok _ List.mem_cons_self
    exact .cons (row_lv1 e b l) (ih fun r m => ok r (List.mem_cons_of_mem _ m))
theorem shown_rows {w : Str} {z : Pd} {rs : List (List Int)} (h : rs ∈ shownsOf z.1 w) : rs.length = needW w ∧ ∀ r ∈ rs, Bits r ∧ r.length = z.1 := by
  have so := shown_ok h
  unfold needW
  by_cases c : isOne w = true
  · rw [if_pos c] at so ⊢
    obtain ⟨r1, rfl, b, l⟩ := so
    exact ⟨rfl, fun r m => by rw [List.mem_singleton.mp m]; exact ⟨b, l⟩⟩
  · rw [if_neg c] at so ⊢
    obtain ⟨a, b, rfl, h1, h2⟩ := so
    refine ⟨rfl, fun r m => ?_⟩
    rcases List.mem_cons.mp m with e | m
    · rw [e]; exact h1
    · rw [List.mem_singleton.mp m]; exact h2
/-- a fault told as a value -/
structure FltL (H : Hp) (bks : List Pd) (w : Str) (v : V) (d : PyData) : Prop where
  lv : ∀ N, Lv2 N H v d
  sh : isF bks w d = true
  at_ : ∃ (t : Addr) (i : Nat) (as : List Addr) (rs : List (List Int)), v = .ref t ∧ H t = some (.tup (.int (i : Nat) :: as.map V.ref)) ∧ Rws H as rs ∧ i < bks.length ∧ 1 ≤ rs.length ∧ rs.length ≤ 2 ∧ ∀ r ∈ rs, Bits r ∧ 1 ≤ r.length ∧ r.length ≤ 3
theorem flt_lv {H : Hp} {v : V} {w : Str} {bks : List Pd} {i : Nat} {rs : List (List Int)} (h3 : ∀ z ∈ bks, z.1 ≤ 3 ∧ 1 ≤ z.1) (l6 : bks.length ≤ 6) (e : faultF w 0 bks = some (i, rs)) (h : FltV H v (some (i, rs))) : ∃ d, FltL H bks w v d := by
  obtain ⟨m, z, e1, hz, hin, hsh⟩ := faultF_shows e
  obtain rfl : i = m := by omega
  obtain ⟨z3, z1⟩ := h3 z (List.mem_of_getElem? hz)
  obtain ⟨nl, ok⟩ := shown_rows hin
  have li : i < bks.length := (List.getElem?_eq_some_iff.mp hz).1
  have nw : 1 ≤ needW w ∧ needW w ≤ 2 := by unfold needW; by_cases c : isOne w = true <;> simp [c]
  obtain ⟨a, as, rfl, ha, hr⟩ := h
  have lar := paired_len hr
  refine ⟨.tuple (.int (i : Nat) :: rowsP rs), fun N => .inr ⟨a, _, _, rfl, .inl ⟨ha, rfl⟩, .cons (int_lv (by omega)) (rows_lvs hr fun r m => ⟨(ok r m).1, by have := (ok r m).2; omega⟩), by rw [List.length_cons, List.length_map]; omega⟩, ?_, a, i, as, rs, rfl, ha, hr, li, by omega, by omega, fun r m => ⟨(ok r m).1, by have := (ok r m).2; omega⟩⟩
  rw [isF_at hz, rowsD_of ok]
  show (decide ((rowsP rs).length = needW w) && showsB w z rs) = true
  rw [hsh, Bool.and_true, decide_eq_true]
  unfold rowsP
  rw [List.length_map]
  exact nl
theorem flts_lv {H : Hp} {xs : List V} {ws : List Str} {bks : List Pd} (h3 : ∀ z ∈ bks, z.1 ≤ 3 ∧ 1 ≤ z.1) (l6 : bks.length ≤ 6) (f : Flts H xs ws bks) (ok : ∀ w ∈ ws, ∃ i rs, faultF w 0 bks = some (i, rs)) : ∃ ds, (∀ N, Paired (Lv2 N H) xs ds) ∧ ds.length = ws.length ∧ ((ws.zip ds).all fun p => isF bks p.1 p.2) = true ∧ ∀ (j : Nat) x, xs[j]? = some x → ∃ w d, FltL H bks w x d := by
  induction f with
  | nil => exact ⟨[], fun _ => .nil, rfl, rfl, fun j x e => by cases e⟩
  | @cons x w xs ws e _ ih =>
    obtain ⟨ds, p, l, a, c⟩ := ih fun w m => ok w (List.mem_cons_of_mem _ m)
    obtain ⟨i, rs, ef⟩ := ok w List.mem_cons_self
    rw [ef] at e
    obtain ⟨d, fl⟩ := flt_lv h3 l6 ef e
    refine ⟨d :: ds, fun N => .cons (fl.lv N) (p N), by rw [List.length_cons, List.length_cons, l], ?_, fun j y ey => ?_⟩
    · rw [List.zip_cons_cons, List.all_cons, a, Bool.and_true]
      exact fl.sh
    · cases j with
      | zero => cases ey; exact ⟨w, d, fl⟩
      | succ j => exact c j y (by simpa using ey)
/-- the paper told as a value -/
structure PapL (H : Hp) (x : V) (fx : Bool) (bks : List Pd) (t : Addr) (xs : List V) : Prop where
  ref : x = .ref t
  tup : H t = some (.tup xs)
  lv : ∃ ds, (∀ N, Paired (Lv2 N H) xs ds) ∧ isPap fx bks (.tuple ds) = true
  len : xs.length = 0 ∨ xs.length = 3
  at_ : ∀ (j : Nat) y, xs[j]? = some y → ∃ w d, FltL H bks w y d
theorem pap_lv {H : Hp} {x : V} {fx : Bool} {bks : List Pd} (h3 : ∀ z ∈ bks, z.1 ≤ 3 ∧ 1 ≤ z.1) (l6 : bks.length ≤ 6) (h : PapV H x fx bks) : ∃ t xs, PapL H x fx bks t xs := by
  obtain ⟨t, xs, rfl, ht, r⟩ := h
  by_cases c : (kindsOf fx bks).isEmpty = true
  · rw [if_pos c] at r
    obtain ⟨ds, p, l, a, f⟩ := flts_lv h3 l6 r (no_kind c)
    rw [len3] at l
    refine ⟨t, xs, rfl, ht, ⟨ds, p, ?_⟩, .inr (by rw [paired_len (p Tr)]; exact l), f⟩
    show (if (kindsOf fx bks).isEmpty = true then decide (ds.length = 3) && ((wordsOf fx).zip ds).all fun p => isF bks p.1 p.2 else ds.isEmpty) = true
    rw [if_pos c, a, Bool.and_true, decide_eq_true l]
  · rw [if_neg c] at r
    subst r
    refine ⟨t, [], rfl, ht, ⟨[], fun _ => .nil, ?_⟩, .inl rfl, fun j y e => by cases e⟩
    show (if (kindsOf fx bks).isEmpty = true then _ else ([] : List PyData).isEmpty) = true
    rw [if_neg c]
    rfl
theorem PapL.lv3 {H : Hp} {x : V} {fx : Bool} {bks : List Pd} {t : Addr} {xs : List V} (p : PapL H x fx bks t xs) : ∃ d, (∀ N, Lv3 N H x d) ∧ isPap fx bks d = true := by
  obtain ⟨ds, q, i⟩ := p.lv
  obtain rfl := p.ref
  exact ⟨_, fun N => .inr ⟨t, xs, ds, rfl, .inl ⟨p.tup, rfl⟩, q N, by rcases p.len with e | e <;> omega⟩, i⟩
theorem FltL.kp {h dr : Addr} {H H' : Hp} {bks : List Pd} {w : Str} {v : V} {d : PyData} (hd : Hdd H h dr) (kp : Kp h H H') (x : FltL H bks w v d) : FltL H' bks w v d := by
  obtain ⟨t, i, as, rs, e, h1, h2, h3⟩ := x.at_
  exact ⟨fun N => Lv2.kp hd kp (x.lv N), x.sh, t, i, as, rs, e, kp _ _ (hd.ns h1 (fun _ _ z => by cases z)) h1, h2.kp hd kp, h3⟩
theorem PapL.kp {h dr : Addr} {H H' : Hp} {x : V} {fx : Bool} {bks : List Pd} {t : Addr} {xs : List V} (hd : Hdd H h dr) (kp : Kp h H H') (p : PapL H x fx bks t xs) : PapL H' x fx bks t xs := by
  obtain ⟨ds, q, i⟩ := p.lv
  refine ⟨p.ref, kp _ _ (hd.ns p.tup (fun _ _ z => by cases z)) p.tup, ⟨ds, fun N => paired_imp (fun _ _ z => Lv2.kp hd kp z) (q N), i⟩, p.len, fun j y e => ?_⟩
  obtain ⟨w, d, f⟩ := p.at_ j y e
  exact ⟨w, d, f.kp hd kp⟩
theorem PapL.tq {H : Hp} {x : V} {fx : Bool} {bks : List Pd} {t : Addr} {xs : List V} (p : PapL H x fx bks t xs) : Tq (Lv2 N H) H (.ref t) 3 := by
  obtain ⟨ds, q, i⟩ := p.lv
  exact ⟨t, xs, ds, rfl, p.tup, q N, by rcases p.len with e | e <;> omega⟩
theorem Tq.xl3 {H0 H : Hp} {v : V} {n : Nat} (s : Same H0 H) (x : Tq (Lv2 N H0) H v n) (h : n ≤ 10) : ∀ H', Same H H' → ∃ d, Lv3 N H' v d := fun H' s' => (x.same s').lv3 (s.trans s') h
/-- values, each of them such -/
inductive LvA3 (N : Addr → Prop) (H : Hp) : List V → Prop
  | nil : LvA3 N H []
  | cons {v : V} {vs : List V} (h : ∃ d, Lv3 N H v d) (t : LvA3 N H vs) : LvA3 N H (v :: vs)
theorem LvA3.imp {H H' : Hp} (f : ∀ v d, Lv3 N H v d → Lv3 N H' v d) {vs : List V} (x : LvA3 N H vs) : LvA3 N H' vs := by
  induction x with
  | nil => exact .nil
  | cons h _ ih => exact .cons (h.imp fun d z => f _ d z) ih
theorem LvA3.same {H H' : Hp} (s : Same H H') {vs : List V} (x : LvA3 N H vs) : LvA3 N H' vs := x.imp fun _ _ z => Lv3.same s z
theorem LvA3.kp {h dr : Addr} {H H' : Hp} (hd : Hdd H h dr) (kp : Kp h H H') {vs : List V} (x : LvA3 N H vs) : LvA3 N H' vs := x.imp fun _ _ z => Lv3.kp hd kp z
theorem LvA3.app {H : Hp} {xs ys : List V} (x : LvA3 N H xs) (y : LvA3 N H ys) : LvA3 N H (xs ++ ys) := by
  induction x with
  | nil => exact y
  | cons h _ ih => exact .cons h ih
theorem LvA3.weak {N N' : Addr → Prop} (hN : ∀ a, N a → N' a) {H : Hp} {vs : List V} (x : LvA3 N H vs) : LvA3 N' H vs := by
  induction x with
  | nil => exact .nil
  | cons h _ ih => exact .cons (h.imp fun d z => Lv3.weak hN z) ih
theorem LvA3.updL {N : Addr → Prop} {H : Hp} {D : Addr} {ys : List V} {u : HO} (e : H D = some (.lst ys)) (n : ¬ N D) {vs : List V} (x : LvA3 N H vs) : LvA3 N (upd H D u) vs := by
  induction x with
  | nil => exact .nil
  | cons h _ ih => exact .cons (h.imp fun d z => Lv3.updL e n z) ih
theorem LvA3.at {H : Hp} {xs : List V} (x : LvA3 N H xs) : ∀ {j : Nat}, j < xs.length → ∃ v d, xs[j]? = some v ∧ Lv3 N H v d := by
  induction x with
  | nil => intro j h; cases h
  | cons h _ ih =>
    intro j hj
    cases j with
    | zero =>
      obtain ⟨d, z⟩ := h
      exact ⟨_, d, rfl, z⟩
    | succ j =>
      obtain ⟨v, d, e, z⟩ := ih (j := j) (by rw [List.length_cons] at hj; omega)
      exact ⟨v, d, by rw [List.getElem?_cons_succ]; exact e, z⟩
theorem q_ifOr {D : Ends} {σ : L2.St} {H : Hp} {t u : TT} {a c : TS} (b1 b2 : Bool) (h1 : ∀ Q : Bool → Hp → Prop, Q b1 H → t σ H Q) (h2 : ∀ Q : Bool → Hp → Prop, Q b2 H → u σ H Q) (h : if (b1 || b2) = true then a D σ H else c D σ H) : tIfS (tOr t u) a c D σ H := by
  refine h1 _ ?_
  cases b1 with
  | true =>
    rw [Bool.true_or, if_pos rfl] at h
    show (if true = true then _ else _)
    rw [if_pos rfl]
    show (if true = true then _ else _)
    rw [if_pos rfl]
    exact h
  | false =>
    rw [Bool.false_or] at h
    show (if false = true then _ else _)
    rw [if_neg (by decide)]
    exact h2 _ h
section
variable {P : Program} {w : World} {K : PySem.W.Frag} {mg : Str → Option Value} {base : Heap}
def spLBe : Sp := fun vs H Q _ => ∃ (h dr L p W : Addr) (ps : List Addr) (bks : List Pd) (fx : Bool), vs = [.ref h, .ref L, .ref p, .ref W] ∧ Hdd H h dr ∧ H L = some (.lst (ps.map V.ref)) ∧ LPs H ps bks ∧ 1 ≤ bks.length ∧ bks.length ≤ 4 ∧ PapV H (.ref p) fx bks ∧ H W = some (.lst ((wordsOf fx).map V.str)) ∧ ∀ v d H', Kp h H H' → Hdd H' h dr → Lv3 (fun a => H a = none) H' v d → Q v H'
theorem ok_LBe {f : Addr} {fd : FuncData} (F : Fun K "_law_bent" "_law_bent" sLBe f fd) (B : Bt mg) {fTake : Addr} {fdTake : FuncData} (GTake : FnOk P w K mg base CX0 1 fTake fdTake ["hand", "many"] spTake) (kTake : PySem.W.keepIn K (.ref fTake) = true) (bTake : Binds K fdTake ["hand", "many"] []) (gTake : mg "_law_take" = some (.ref fTake)) {fDP : Addr} {fdDP : FuncData} (GDP : FnOk P w K mg base CX0 2 fDP fdDP ["hand", "book", "word"] spDP) (kDP : PySem.W.keepIn K (.ref fDP) = true) (bDP : Binds K fdDP ["hand", "book", "word"] []) (gDP : mg "_law_drawn_part" = some (.ref fDP)) {fBP : Addr} {fdBP : FuncData} (GBP : FnOk P w K mg base CX0 2 fBP fdBP ["hand", "book", "part"] spBP) (kBP : PySem.W.keepIn K (.ref fBP) = true) (bBP : Binds K fdBP ["hand", "book", "part"] []) (gBP : mg "_law_bent_part" = some (.ref fBP)) : FnOk P w K mg base CX0 3 f fd ["hand", "book", "paper", "words"] spLBe := by
  refine F.ok scLBe (fun vs H Q E h => ?_) (fun cdv A outer s H vs Q E hr h => ?_)
  · obtain ⟨h, dr, L, p, W, ps, bks, fx, rfl, _⟩ := h
    rfl
  · obtain ⟨h, dr, L, p, W, ps, bks, fx, rfl, hd, hL, lps, b1, b4, hpv, hW, q⟩ := h
    refine ⟨_, (pss_cons (ps_set (i := 4) scLBe.nd rfl (.inl rfl) (pe_call GTake (hr.mono (by decide)) (by rfl) gTake kTake bTake .nil pass0 (pa_cons (pv 0) (pa_cons pe_int pa_nil))))
      (pss_cons (ps_if (PW.pt (pw_or (pt_cmpR op_lt (pe_callB call_len_seq (by rfl) B.len PySem.boot_len (pa_cons (pv 2) pa_nil)) pe_int (nomark _)) (pw_or1 (pt_cmpR op_lt (pv 4) pe_int (nomark _)))))
      (pss_cons (ps_set (i := 5) scLBe.nd rfl (.inl rfl) (pe_tup (pa_cons pe_int (pa_cons (pe_op op_repTA (pe_tup (pa_cons pe_int pa_nil)) (pe_ix ix_tup (pe_ix ix_list (pv 1) pe_int (fun _ _ => rfl)) pe_int (fun _ _ => rfl))) pa_nil))))
      (pss_cons (ps_set (i := 6) scLBe.nd rfl (.inl rfl) (pe_lst (pa_cons (pe_tup pa_nil) (pa_cons pe_non (pa_cons (pe_callTy call_list_of (by rfl) B.list (by decide +kernel) (pa_cons (pv 2) pa_nil)) (pa_cons (pe_op op_catA (pv 2) (pe_slice sl_tupA (pv 2) po_none (po_some pe_int))) (pa_cons (pe_op op_catA (pv 2) (pe_tup (pa_cons (pe_tup (pa_cons pe_int (pa_cons (pe_tup (pa_cons pe_int pa_nil)) pa_nil))) pa_nil))) (pa_cons (pe_tup (pa_cons (pv 5) (pa_cons (pv 5) (pa_cons (pv 5) pa_nil)))) (pa_cons pe_int (pa_cons pe_str (pa_cons (pe_tup (pa_cons (pe_tup pa_nil) pa_nil)) pa_nil)))))))))))
      (pss_one (ps_ret (pe_ix ix_list (pe_op op_cat (pv 6) (pe_lst (pa_cons (pe_tup (pa_cons (pe_tup pa_nil) (pa_cons (pe_tup pa_nil) (pa_cons (pe_tup pa_nil) pa_nil)))) pa_nil))) (pv 4) (fun _ _ => rfl)))))) pss_nil)
      (pss_cons (ps_set (i := 7) scLBe.nd rfl (.inl rfl) (pe_call GTake (hr.mono (by decide)) (by rfl) gTake kTake bTake .nil pass0 (pa_cons (pv 0) (pa_cons pe_int pa_nil))))
      (pss_cons (ps_if (pt_cmpR op_eq (pv 4) pe_int (nomark _))
      (pss_one (ps_ret (pe_op op_catA (pe_slice sl_tupA (pv 2) po_none (po_some (pv 7))) (pe_slice sl_tupA (pv 2) (po_some (pe_op op_add (pv 7) pe_int)) po_none)))) pss_nil)
      (pss_cons (ps_if (pt_cmpR op_eq (pv 4) pe_int (nomark _))
      (pss_one (ps_ret (pe_revT (pv 2)))) pss_nil)
      (pss_cons (ps_if (pt_cmpR op_eq (pv 4) pe_int (nomark _))
      (pss_one (ps_ret (pe_op op_catA (pv 2) (pe_tup (pa_cons (pe_ix ix_tup (pv 2) (pv 7) (fun _ _ => rfl)) pa_nil))))) pss_nil)
      (pss_cons (ps_set (i := 8) scLBe.nd rfl (.inl rfl) (pe_call GBP (hr.mono (by decide)) (by rfl) gBP kBP bBP .nil pass0 (pa_cons (pv 0) (pa_cons (pv 1) (pa_cons (pe_ix ix_tup (pv 2) (pv 7) (fun _ _ => rfl)) pa_nil)))))
      (pss_cons (ps_if (pt_cmpR op_gt (pv 4) pe_int (nomark _))
      (pss_one (ps_set (i := 8) scLBe.nd rfl (.inl rfl) (pe_call GDP (hr.mono (by decide)) (by rfl) gDP kDP bDP .nil pass0 (pa_cons (pv 0) (pa_cons (pv 1) (pa_cons (pe_ix ix_list (pv 3) (pv 7) (fun _ _ => rfl)) pa_nil)))))) pss_nil)
      (pss_one (ps_ret (pe_op op_catA (pe_op op_catA (pe_slice sl_tupA (pv 2) po_none (po_some (pv 7))) (pe_tup (pa_cons (pv 8) pa_nil))) (pe_slice sl_tupA (pv 2) (po_some (pe_op op_add (pv 7) pe_int)) po_none)))))))))))), ?_⟩
    have z31 := lps_3 lps
    obtain ⟨t, xs, pl⟩ := pap_lv z31 (by omega) hpv
    cases pl.ref
    -- kind
    refine q_seq (q_set ?_)
    refine ⟨.ref h, rfl, h, dr, 10, rfl, hd, by decide, fun rk H1 k0 k9 e1 hd1 => ?_⟩
    have kp1 : Kp h H H1 := Kp.eq e1
    have hL1 := kp1 _ _ (hd.ns hL (ref_hand (h := h))) hL
    have lps1 := lps.kp hd kp1
    have pl1 := pl.kp hd kp1
    have hW1 : H1 W = some (.lst ((wordsOf fx).map V.str)) := kp1 _ _ (hd.ns hW (fun e t z => by cases fx <;> (injection z with z; injection z with z; cases z))) hW
    have hp1 := pl1.tup
    clear e1 pl hpv hL lps hW
    dsimp only
    refine q_seq ?_
    refine q_ifOr (decide ((xs.length : Int) < 3)) (decide (rk < 2)) (fun Q hQ => ⟨.ref p, rfl, p, xs, rfl, .inr (tl hp1), _, _, rfl, rfl, _, rfl, hQ⟩) (fun Q hQ => ⟨.int rk, rfl, _, _, rfl, rfl, _, rfl, hQ⟩) ?_
    refine ite2 (fun c => ?_) (fun c => ?_)
    · clear c
      obtain ⟨⟨k, ms⟩, hz⟩ : ∃ z, bks[0]? = some z := ⟨_, List.getElem?_eq_getElem (by omega)⟩
      obtain ⟨pp, hpp, lpr⟩ := paired_get lps1 hz
      obtain ⟨tp, g1, g2, k1, k3, lm, bd⟩ := id lpr
      simp only at g1 g2 k1 k3 lm
      have hp0 : (ps.map V.ref)[0]? = some (.ref pp) := by rw [List.getElem?_map, hpp]; rfl
      refine q_seq (q_set ?_)
      refine ⟨by show 1 ≤ sizeLine; decide, fun u1 n1 => ?_⟩
      have s1 := same_upd (o := .tup [V.int 0]) n1
      refine ⟨.ref L, rfl, L, _, _, .ref pp, rfl, rfl, sl (s1 _ _ hL1), at_z (j := 0) rfl hp0, pp, _, 0, .int k, rfl, rfl, tl (s1 _ _ g1), at_z (j := 0) rfl rfl, rep_one (bv := 0) upd_same k1 k3 fun u2 H3 s3 h3 => ⟨by show 2 ≤ sizeLine; decide, fun u3 n3 => ?_⟩⟩
      have s4 := same_upd (o := .tup [V.int 0, .ref u2]) n3
      have fl2 : Lv2 (fun a => H a = none) (upd H3 u3 (.tup [V.int 0, .ref u2])) (.ref u3) (.tuple [.int 0, .tuple ((List.replicate k (0 : Int)).map .int)]) := .inr ⟨u3, _, _, rfl, .inl ⟨upd_same, rfl⟩, .cons (int_lv (by decide)) (.cons (row_lv1 (s4 _ _ h3) (fun b m => .inl (List.eq_of_mem_replicate m)) (by rw [List.length_replicate]; exact k3)) .nil), by show 2 ≤ 10; decide⟩
      have c0 := s1.trans (s3.trans s4)
      generalize upd H3 u3 (.tup [V.int 0, .ref u2]) = M0 at c0 fl2 ⊢
      clear s1 s3 s4 h3 n1 n3
      have papq : ∀ H', Same H1 H' → Tq (Lv2 (fun a => H a = none) H1) H' (.ref p) 3 := fun H' s => pl1.tq.same s
      dsimp only
      refine q_seq (q_set ?_)
      have pM := papq _ c0
      -- the first ones
      refine ⟨Nat.zero_le _, fun a1 n1 => ⟨.ref p, rfl, p, _, rfl, .inr (tl (same_upd n1 _ _ (c0 _ _ hp1))), fun a2 n2 => ?_⟩⟩
      have s1 := same_upd (o := .tup []) n1
      have s2 := same_upd (o := .lst xs) n2
      have f1 : ∀ H', Same (upd M0 a1 (.tup [])) H' → ∃ d, Lv3 (fun a => H a = none) H' (.ref a1) d := fun H' s => ⟨_, .inr ⟨a1, _, _, rfl, .inl ⟨s _ _ upd_same, rfl⟩, .nil, by decide⟩⟩
      obtain ⟨pds, ppr', _⟩ := pl1.lv
      have ppr := ppr' (fun a => H a = none)
      have f2 : ∀ H', Same (upd (upd M0 a1 (.tup [])) a2 (.lst xs)) H' → ∃ d, Lv3 (fun a => H a = none) H' (.ref a2) d := fun H' s => ⟨_, .inr ⟨a2, xs, pds, rfl, .inr ⟨s _ _ upd_same, rfl, (fun e t z => by
        injection z with z
        rcases pl1.len with l | l <;> rw [z] at l <;> cases l), Kp.free (kp1.trans (Kp.of (c0.trans s1))) (hd1.same (c0.trans s1)) n2⟩, paired_imp (fun _ _ z => Lv2.same (c0.trans (s1.trans (s2.trans s))) z) ppr, by rcases pl1.len with l | l <;> omega⟩⟩
      replace f1 : ∀ H', Same (upd (upd M0 a1 (.tup [])) a2 (.lst xs)) H' → ∃ d, Lv3 (fun a => H a = none) H' (.ref a1) d := fun H' s => f1 H' (s2.trans s)
      have c2 := c0.trans (s1.trans s2)
      have fst2 : Lv2 (fun a => H a = none) (upd (upd M0 a1 (.tup [])) a2 (.lst xs)) (.ref u3) _ := Lv2.same (s1.trans s2) fl2
      generalize upd (upd M0 a1 (.tup [])) a2 (.lst xs) = M2 at c2 f1 f2 fst2 ⊢
      clear n1 n2 s1 s2 fl2 pM
      refine ⟨.ref p, rfl, .ref p, rfl, noPart ⟨1, rfl, tq_sl (papq _ c2) fun v3 M3 s3 q3 => ?_⟩⟩
      refine tq_cat (papq _ (c2.trans s3)) q3 (by decide) fun v4 M4 s4 q4 => ?_
      have c4 := c2.trans (s3.trans s4)
      have f4 := q4.xl3 c4 (by decide)
      have e24 := s3.trans s4
      clear s3 s4 q3 q4
      refine ⟨.ref p, rfl, by show 1 ≤ sizeLine; decide, fun a5 n5 => ⟨by show 2 ≤ sizeLine; decide, fun a6 n6 => ⟨by show 1 ≤ sizeLine; decide, fun a7 n7 => ?_⟩⟩⟩
      have s5 := same_upd (o := .tup [V.int 0]) n5
      have s6 := same_upd (o := .tup [V.int 0, .ref a5]) n6
      have s7 := same_upd (o := .tup [V.ref a6]) n7
      have f6 : Lv2 (fun a => H a = none) (upd (upd M4 a5 (.tup [V.int 0])) a6 (.tup [V.int 0, .ref a5])) (.ref a6) (.tuple [.int 0, .tuple [.int 0]]) := .inr ⟨a6, _, _, rfl, .inl ⟨upd_same, rfl⟩, .cons (int_lv (by decide)) (.cons (.inr ⟨a5, _, _, rfl, .inl ⟨s6 _ _ upd_same, rfl⟩, .cons (.int 0 (by decide)) .nil, by show 1 ≤ 10; decide⟩) .nil), by show 2 ≤ 10; decide⟩
      have s57 := s5.trans (s6.trans s7)
      generalize upd (upd M4 a5 (.tup [V.int 0])) a6 (.tup [V.int 0, .ref a5]) = M6 at n7 s7 f6 s57 ⊢
      have q7 : Tq (Lv2 (fun a => H a = none) M6) (upd M6 a7 (.tup [V.ref a6])) (.ref a7) 1 := tq1 upd_same f6
      generalize upd M6 a7 (.tup [V.ref a6]) = M7 at s7 s57 q7 ⊢
      have q7' := q7.imp fun _ _ z => Lv2.same s7 z
      have pq7 : Tq (Lv2 (fun a => H a = none) M7) M7 (.ref p) 3 := (papq _ (c4.trans s57)).imp fun _ _ z => Lv2.same (c4.trans s57) z
      refine tq_cat pq7 q7' (by decide) fun v8 M8 s8 q8 => ?_
      have c8 := c4.trans (s57.trans s8)
      have f8 := q8.xl3 s8 (by decide)
      have e48 := s57.trans s8
      clear n5 n6 n7 s5 s6 s7 f6 s57 q7 q7' pq7 s8 q8
      have fst8 := Lv2.same (e24.trans e48) fst2
      refine ⟨.ref u3, rfl, .ref u3, rfl, .ref u3, rfl, by show 3 ≤ sizeLine; decide, fun a9 n9 => ?_⟩
      have s9 := same_upd (o := .tup [V.ref u3, .ref u3, .ref u3]) n9
      have f9 : ∀ H', Same (upd M8 a9 (.tup [V.ref u3, .ref u3, .ref u3])) H' → ∃ d, Lv3 (fun a => H a = none) H' (.ref a9) d := fun H' s => ⟨_, .inr ⟨a9, _, _, rfl, .inl ⟨s _ _ upd_same, rfl⟩, .cons (Lv2.same (s9.trans s) fst8) (.cons (Lv2.same (s9.trans s) fst8) (.cons (Lv2.same (s9.trans s) fst8) .nil)), by show 3 ≤ 10; decide⟩⟩
      generalize upd M8 a9 (.tup [V.ref u3, .ref u3, .ref u3]) = M9 at s9 f9 ⊢
      refine ⟨Nat.zero_le _, fun b1 m1 => ⟨by show 1 ≤ sizeLine; decide, fun b2 m2 => ⟨by show 9 ≤ sizeLine; decide, fun Lb mb => ?_⟩⟩⟩
      have t1 := same_upd (o := .tup []) m1
      have t2 := same_upd (o := .tup [V.ref b1]) m2
      have fb : ∃ d, Lv3 (fun a => H a = none) (upd (upd M9 b1 (.tup [])) b2 (.tup [V.ref b1])) (.ref b2) d := ⟨_, .inr ⟨b2, _, _, rfl, .inl ⟨upd_same, rfl⟩, .cons (.inr ⟨b1, _, _, rfl, .inl ⟨t2 _ _ upd_same, rfl⟩, .nil, by decide⟩) .nil, by show 1 ≤ 10; decide⟩⟩
      have t12 := t1.trans t2
      generalize upd (upd M9 b1 (.tup [])) b2 (.tup [V.ref b1]) = M10 at mb fb t12 ⊢
      have la : LvA3 (fun a => H a = none) M10 [V.ref a1, .non, .ref a2, v4, v8, .ref a9, .int 0, .str "", .ref b2] := .cons (f1 _ (e24.trans (e48.trans (s9.trans t12)))) (.cons ⟨_, .inl .non⟩ (.cons (f2 _ (e24.trans (e48.trans (s9.trans t12)))) (.cons (f4 _ (e48.trans (s9.trans t12))) (.cons (f8 _ (s9.trans t12)) (.cons (f9 _ t12) (.cons ⟨_, .inl (.int 0 (by decide))⟩ (.cons ⟨_, .inl .str⟩ (.cons fb .nil))))))))
      have sb := same_upd (o := .lst [V.ref a1, .non, .ref a2, v4, v8, .ref a9, .int 0, .str "", .ref b2]) mb
      have eb : (upd M10 Lb (.lst [V.ref a1, .non, .ref a2, v4, v8, .ref a9, .int 0, .str "", .ref b2])) Lb = some (.lst [V.ref a1, .non, .ref a2, v4, v8, .ref a9, .int 0, .str "", .ref b2]) := upd_same
      have lb : [V.ref a1, .non, .ref a2, v4, v8, .ref a9, .int 0, .str "", .ref b2].length = 9 := rfl
      generalize [V.ref a1, .non, .ref a2, v4, v8, .ref a9, .int 0, .str "", .ref b2] = ys at la sb eb lb ⊢
      replace la := la.same sb
      have cb := c8.trans (s9.trans (t12.trans sb))
      generalize upd M10 Lb (.lst ys) = M11 at la cb eb ⊢
      clear f1 f2 f4 f8 f9 fb fst2 fst8 e24 e48 s9 t1 t2 t12 m1 m2 c2 c4 c8
      dsimp only
      refine q_ret ?_
      refine ⟨.ref Lb, rfl, Nat.zero_le _, fun d1 k1 => ⟨Nat.zero_le _, fun d2 k2 => ⟨Nat.zero_le _, fun d3 k3 => ⟨by show 3 ≤ sizeLine; decide, fun d4 k4 => ⟨by show 1 ≤ sizeLine; decide, fun d5 k5 => ?_⟩⟩⟩⟩⟩
      have w1 := same_upd (o := .tup []) k1
      have w2 := same_upd (o := .tup []) k2
      have w3 := same_upd (o := .tup []) k3
      have w4 := same_upd (o := .tup [V.ref d1, .ref d2, .ref d3]) k4
      have w5 := same_upd (o := .lst [V.ref d4]) k5
      have l0 : ∀ {Hx : Hp} {a : Addr}, Hx a = some (.tup []) → Lv2 (fun a => H a = none) Hx (.ref a) (.tuple []) := fun e => .inr ⟨_, _, _, rfl, .inl ⟨e, rfl⟩, .nil, by decide⟩
      have f5 : Lv3 (fun a => H a = none) (upd (upd (upd (upd M11 d1 (.tup [])) d2 (.tup [])) d3 (.tup [])) d4 (.tup [V.ref d1, .ref d2, .ref d3])) (.ref d4) (.tuple [.tuple [], .tuple [], .tuple []]) := .inr ⟨d4, _, _, rfl, .inl ⟨upd_same, rfl⟩, .cons (l0 (w4 _ _ (w3 _ _ (w2 _ _ upd_same)))) (.cons (l0 (w4 _ _ (w3 _ _ upd_same))) (.cons (l0 (w4 _ _ upd_same)) .nil)), by show 3 ≤ 10; decide⟩
      have w14 := w1.trans (w2.trans (w3.trans w4))
      generalize upd (upd (upd (upd M11 d1 (.tup [])) d2 (.tup [])) d3 (.tup [])) d4 (.tup [V.ref d1, .ref d2, .ref d3]) = M12 at k5 w5 f5 w14 ⊢
      refine ⟨Lb, d5, _, _, rfl, rfl, w5 _ _ (w14 _ _ eb), upd_same, by rw [lb]; show 9 + 1 ≤ sizeLine; decide, fun d6 k6 => ?_⟩
      have w6 := same_upd (o := .lst (ys ++ [V.ref d4])) k6
      have lf : LvA3 (fun a => H a = none) (upd (upd M12 d5 (.lst [V.ref d4])) d6 (.lst (ys ++ [V.ref d4]))) (ys ++ [V.ref d4]) := (la.same (w14.trans (w5.trans w6))).app (.cons ⟨_, Lv3.same (w5.trans w6) f5⟩ .nil)
      obtain ⟨vE, dE, aE, lE⟩ := lf.at (j := rk.toNat) (by rw [List.length_append, lb]; show _ < 9 + 1; omega)
      refine ⟨.int rk, rfl, d6, _, _, _, rfl, rfl, sl upd_same, at_z (j := rk.toNat) (by omega) aE, ?_⟩
      have sE := cb.trans (w14.trans (w5.trans w6))
      exact q _ _ _ (kp1.trans (Kp.of sE)) (hd1.same sE) lE
    · refine q_next ?_
      have l3 : xs.length = 3 := by
        rcases pl1.len with l | l
        · exact absurd (by rw [decide_eq_true (show ((xs.length : Int) < 3) by omega)]; rfl) c
        · exact l
      clear c
      dsimp only
      refine q_seq (q_set ?_)
      refine ⟨.ref h, rfl, h, dr, 3, rfl, hd1, by decide, fun ra H2 r0 r3 e2 hd2 => ?_⟩
      obtain ⟨j, rfl⟩ : ∃ j : Nat, ra = (j : Int) := ⟨ra.toNat, by omega⟩
      have kp2 : Kp h H1 H2 := Kp.eq e2
      have hL2 := kp2 _ _ (hd1.ns hL1 (ref_hand (h := h))) hL1
      have lps2 := lps1.kp hd1 kp2
      have pl2 := pl1.kp hd1 kp2
      have hW2 : H2 W = some (.lst ((wordsOf fx).map V.str)) := kp2 _ _ (hd1.ns hW1 (fun e t z => by cases fx <;> (injection z with z; injection z with z; cases z))) hW1
      have hp2 := pl2.tup
      have kp02 := kp1.trans kp2
      have papq : ∀ H', Same H2 H' → Tq (Lv2 (fun a => H a = none) H2) H' (.ref p) 3 := fun H' s => pl2.tq.same s
      clear e2 kp2 kp1 pl1 lps1 hL1 hW1 hp1 hd1
      have gj : xs[j]? = some xs[j] := List.getElem?_eq_getElem (by omega)
      generalize xs[j] = xj at gj
      obtain ⟨wj, dj, fj⟩ := pl2.at_ j xj gj
      have fin : ∀ (v : V) (H' : Hp) (n : Nat), Same H2 H' → Tq (Lv2 (fun a => H a = none) H2) H' v n → n ≤ 10 → Q v H' := fun v H' n s t l => by
        obtain ⟨d, z⟩ := t.lv3 s l
        exact q v d H' (kp02.trans (Kp.of s)) (hd2.same s) z
      dsimp only
      refine q_seq (q_if ?_)
      refine ⟨.int rk, rfl, rfl, _, rfl, ?_⟩
      refine ite2 (fun c => ?_) (fun c => ?_)
      · refine q_ret ?_
        refine ⟨.ref p, rfl, noPart ⟨.int (j : Nat), rfl, _, rfl, tq_sl (papq _ (Same.refl _)) fun v1 H3 s1 q1 => ?_⟩⟩
        refine ⟨.ref p, rfl, .int (j : Nat), rfl, _, _, rfl, rfl, _, rfl, noPart (tq_sl (papq _ s1) fun v2 H4 s2 q2 => ?_)⟩
        exact tq_cat (q1.same s2) q2 (by decide) fun v3 H5 s3 q3 => fin v3 H5 6 (s1.trans (s2.trans s3)) q3 (by decide)
      refine q_next ?_
      dsimp only
      refine q_seq (q_if ?_)
      refine ⟨.int rk, rfl, rfl, _, rfl, ?_⟩
      refine ite2 (fun c => ?_) (fun c => ?_)
      · refine q_ret ?_
        refine ⟨.ref p, rfl, p, xs, rfl, tl hp2, fun u nu => ?_⟩
        obtain ⟨pds, ppr', _⟩ := pl2.lv
        have ppr := ppr' (fun a => H a = none)
        exact fin _ _ 3 (same_upd nu) ⟨u, _, _, rfl, upd_same, paired_rev2 ppr, by rw [List.length_reverse]; omega⟩ (by decide)
      refine q_next ?_
      dsimp only
      refine q_seq (q_if ?_)
      refine ⟨.int rk, rfl, rfl, _, rfl, ?_⟩
      refine ite2 (fun c => ?_) (fun c => ?_)
      · refine q_ret ?_
        refine ⟨.ref p, rfl, .ref p, rfl, .int (j : Nat), rfl, p, _, _, _, rfl, rfl, tl hp2, at_z (j := j) rfl gj, by show 1 ≤ sizeLine; decide, fun u nu => ?_⟩
        have su := same_upd (o := .tup [xj]) nu
        exact tq_cat (papq _ su) (tq1 upd_same (fj.lv (fun a => H a = none))) (by decide) fun v3 H5 s3 q3 => fin v3 H5 4 (su.trans s3) q3 (by decide)
      refine q_next ?_
      dsimp only
      -- a bent part
      refine q_seq (q_set ?_)
      obtain ⟨t5, i5, as5, rs5, et5, ht5, hr5, li5, n15, n25, ok5⟩ := fj.at_
      subst et5
      refine ⟨.ref h, rfl, .ref L, rfl, .ref p, rfl, .int (j : Nat), rfl, p, _, _, _, rfl, rfl, tl hp2, at_z (j := j) rfl gj, h, dr, L, t5, ps, (i5 : Int), as5, rs5, rfl, hd2, hL2, by rw [paired_len lps2]; omega, ht5, hr5, by rw [paired_len hr5]; exact n15, by rw [paired_len hr5]; exact n25, by omega, by omega, ok5, fun v6 d6 H3 kp3 hd3 lv6 => ?_⟩
      dsimp only
      refine q_seqJ (fun σ H' => Kp h H2 H' ∧ Hdd H' h dr ∧ ∃ (v : V) (d : PyData), σ = [some (.ref h), some (.ref L), some (.ref p), some (.ref W), some (.int rk), none, none, some (.int (j : Nat)), some v] ∧ Lv2 (fun a => H a = none) H' v d) (fun σ' H6 hJ => ?_) (fun J => ?_)
      · obtain ⟨kp6, hd6, v, d, rfl, lv⟩ := hJ
        refine q_ret ?_
        have pl6 := pl2.kp hd2 kp6
        have papq6 : ∀ H', Same H6 H' → Tq (Lv2 (fun a => H a = none) H6) H' (.ref p) 3 := fun H' s => pl6.tq.same s
        refine ⟨.ref p, rfl, noPart ⟨.int (j : Nat), rfl, _, rfl, tq_sl (papq6 _ (Same.refl _)) fun v1 H7 s1 q1 => ?_⟩⟩
        refine ⟨v, rfl, by show 1 ≤ sizeLine; decide, fun u nu => ?_⟩
        have su := same_upd (o := .tup [v]) nu
        refine tq_cat (q1.same su) (tq1 upd_same lv) (by decide) fun v2 H8 s2 q2 => ?_
        refine ⟨.ref p, rfl, .int (j : Nat), rfl, _, _, rfl, rfl, _, rfl, noPart (tq_sl (papq6 _ (s1.trans (su.trans s2))) fun v3 H9 s3 q3 => ?_)⟩
        refine tq_cat (q2.same s3) q3 (by decide) fun v4 HA s4 q4 => ?_
        have sE := s1.trans (su.trans (s2.trans (s3.trans s4)))
        obtain ⟨dd, z⟩ := q4.lv3 sE (by decide)
        exact q v4 dd HA (kp02.trans (kp6.trans (Kp.of sE))) (hd6.same sE) z
      · refine q_if ?_
        refine ⟨.int rk, rfl, _, _, rfl, rfl, _, rfl, ?_⟩
        refine ite2 (fun c => ?_) (fun c => ?_)
        · refine q_set ?_
          obtain ⟨w3, hw3⟩ : ∃ w, (wordsOf fx)[j]? = some w := ⟨_, List.getElem?_eq_getElem (by rw [len3]; omega)⟩
          have gw : ((wordsOf fx).map V.str)[j]? = some (.str w3) := by rw [List.getElem?_map, hw3]; rfl
          have hL3 := kp3 _ _ (hd2.ns hL2 (ref_hand (h := h))) hL2
          have hW3 : H3 W = some (.lst ((wordsOf fx).map V.str)) := kp3 _ _ (hd2.ns hW2 (fun e t z => by cases fx <;> (injection z with z; injection z with z; cases z))) hW2
          refine ⟨.ref h, rfl, .ref L, rfl, .ref W, rfl, .int (j : Nat), rfl, W, _, _, _, rfl, rfl, sl hW3, at_z (j := j) rfl gw, h, dr, L, ps, bks, w3, rfl, hd3, hL3, lps2.kp hd2 kp3, b1, by omega, fun v7 d7 H4 kp4 hd4 lv7 => ?_⟩
          exact J _ _ ⟨kp3.trans kp4, hd4, v7, d7, rfl, lv7 _⟩
        · refine q_next ?_
          exact J _ _ ⟨kp3, hd3, v6, d6, rfl, Lv2.weak (fun a n => Kp.free kp02 hd2 n) lv6⟩
end
end CC

namespace CC
open PySem PySem.Spec PyProof.Rows L2 Ek
theorem PrsAt.kp {C h dr : Addr} {H H' : Hp} {ps : List Addr} {bks : List Pd} (hd : Hdd H h dr) (kp : Kp h H H') (x : PrsAt C H ps bks) : PrsAt C H' ps bks := paired_imp (fun _ _ z => PrAt.kp hd kp z) x
theorem BkAt.kp {C CB h dr : Addr} {H H' : Hp} {b : Addr} {bks : List Pd} (hd : Hdd H h dr) (kp : Kp h H H') (x : BkAt C CB H b bks) : BkAt C CB H' b bks := by
  obtain ⟨dx, t, ps, h1, h2, h3, h4⟩ := x
  exact ⟨dx, t, ps, kp _ _ (hd.ns h1 (fun _ _ z => by cases z)) h1, kp _ _ (hd.ns h2 (fun _ _ z => by cases z)) h2, PrsAt.kp hd kp h3, h4⟩
/-- what the law has made -/
structure Own (C CB h dr L b : Addr) (ps : List Addr) (bks : List Pd) (H : Hp) : Prop where
  hd : Hdd H h dr
  hL : H L = some (.lst (ps.map V.ref))
  lp : LPs H ps bks
  bk : BkAt C CB H b bks
theorem Own.kp {C CB h dr L b : Addr} {H H' : Hp} {ps : List Addr} {bks : List Pd} (kp : Kp h H H') (hd : Hdd H' h dr) (o : Own C CB h dr L b ps bks H) : Own C CB h dr L b ps bks H' := ⟨hd, kp _ _ (o.hd.ns o.hL (ref_hand (h := h))) o.hL, o.lp.kp o.hd kp, o.bk.kp o.hd kp⟩
theorem Own.same {C CB h dr L b : Addr} {H H' : Hp} {ps : List Addr} {bks : List Pd} (s : Same H H') (o : Own C CB h dr L b ps bks H) : Own C CB h dr L b ps bks H' := o.kp (Kp.of s) (o.hd.same s)
/-- what stands for one way -/
structure Due (h ad tw W p : Addr) (fx : Bool) (bks : List Pd) (H : Hp) : Prop where
  ha : H ad = some (.tup (sideV tw (kindsOf fx bks)))
  ht : H tw = some (.tup ((kindsOf fx bks).map V.str))
  hW : H W = some (.lst ((wordsOf fx).map V.str))
  pap : PapV H (.ref p) fx bks
theorem FltV.kp {h dr : Addr} {H H' : Hp} {v : V} {o : Option (Nat × List (List Int))} (hd : Hdd H h dr) (kp : Kp h H H') (x : FltV H v o) : FltV H' v o := by
  cases o with
  | none => exact x
  | some p =>
    obtain ⟨i, rs⟩ := p
    obtain ⟨a, as, ev, ha, hr⟩ := x
    exact ⟨a, as, ev, kp _ _ (hd.ns ha (fun _ _ z => by cases z)) ha, hr.kp hd kp⟩
theorem PapV.kp {h dr : Addr} {H H' : Hp} {x : V} {fx : Bool} {bks : List Pd} (hd : Hdd H h dr) (kp : Kp h H H') (p : PapV H x fx bks) : PapV H' x fx bks := by
  obtain ⟨a, xs, e, ha, r⟩ := p
  refine ⟨a, xs, e, kp _ _ (hd.ns ha (fun _ _ z => by cases z)) ha, ?_⟩
  by_cases c : (kindsOf fx bks).isEmpty = true
  · rw [if_pos c] at r ⊢
    exact paired_imp (fun _ _ z => FltV.kp hd kp z) r
  · rw [if_neg c] at r ⊢
    exact r
theorem LvA3.get {N : Addr → Prop} {H : Hp} {xs : List V} (x : LvA3 N H xs) : ∀ {j : Nat} {v : V}, xs[j]? = some v → ∃ d, Lv3 N H v d := by
  induction x with
  | nil => intro j v h; cases h
  | cons h _ ih =>
    intro j v hj
    cases j with
    | zero => cases hj; exact h
    | succ j => exact ih (j := j) (by simpa using hj)
theorem LvAll.paired {N : Addr → Prop} {H : Hp} {xs : List V} (x : LvAll N H xs) : ∃ ds, Paired (Lv2 N H) xs ds := by
  induction x with
  | nil => exact ⟨[], .nil⟩
  | cons h _ ih =>
    obtain ⟨d, z⟩ := h
    obtain ⟨ds, p⟩ := ih
    exact ⟨d :: ds, .cons z p⟩
theorem words_hand {fx : Bool} : ∀ e t, HO.lst ((wordsOf fx).map V.str) ≠ .lst [.ref e, .int t] := fun e t z => by cases fx <;> (injection z with z; injection z with z; cases z)
theorem Due.kp {h dr ad tw W p : Addr} {fx : Bool} {bks : List Pd} {H H' : Hp} (hd : Hdd H h dr) (kp : Kp h H H') (o : Due h ad tw W p fx bks H) : Due h ad tw W p fx bks H' := ⟨kp _ _ (hd.ns o.ha (fun _ _ z => by cases z)) o.ha, kp _ _ (hd.ns o.ht (fun _ _ z => by cases z)) o.ht, kp _ _ (hd.ns o.hW words_hand) o.hW, o.pap.kp hd kp⟩
section
variable {P : Program} {w : World} {K : PySem.W.Frag} {mg : Str → Option Value} {base : Heap}
theorem Due.dp {h ad tw W p : Addr} {fx : Bool} {bks : List Pd} {H : Hp} (o : Due h ad tw W p fx bks H) : Dp K H (.ref ad) (sideD fx bks) := side_dp o.ha o.ht
theorem ok_law {f C CB : Addr} {fd : FuncData} (F : Fun K "law" "law" sLaw f fd) (B : Bt mg) {fDraws : Addr} {fdDraws : FuncData} (GDraws : FnOk P w K mg base CX0 1 fDraws fdDraws ["script", "many"] (spDraws K)) (kDraws : PySem.W.keepIn K (.ref fDraws) = true) (bDraws : Binds K fdDraws ["script", "many"] []) (gDraws : mg "_law_draws" = some (.ref fDraws)) {fKB : Addr} {fdKB : FuncData} (GKB : FnOk P w K mg base CX0 4 fKB fdKB ["hand"] spKB) (kKB : PySem.W.keepIn K (.ref fKB) = true) (bKB : Binds K fdKB ["hand"] []) (gKB : mg "_law_kind_book" = some (.ref fKB)) {fLB : Addr} {fdLB : FuncData} (GLB : FnOk P w K mg base CX0 5 fLB fdLB ["book"] (spLB C CB)) (kLB : PySem.W.keepIn K (.ref fLB) = true) (bLB : Binds K fdLB ["book"] []) (gLB : mg "_law_book" = some (.ref fLB)) {fLW : Addr} {fdLW : FuncData} (GLW : FnOk P w K mg base CX0 1 fLW fdLW ["fixed"] spLW) (kLW : PySem.W.keepIn K (.ref fLW) = true) (bLW : Binds K fdLW ["fixed"] []) (gLW : mg "_law_words" = some (.ref fLW)) {fLS : Addr} {fdLS : FuncData} (GLS : FnOk P w K mg base CX0 6 fLS fdLS ["book", "fixed"] (spLS2 K)) (kLS : PySem.W.keepIn K (.ref fLS) = true) (bLS : Binds K fdLS ["book", "fixed"] []) (gLS : mg "_law_side" = some (.ref fLS)) {fLPa : Addr} {fdLPa : FuncData} (GLPa : FnG P w K mg base CX0 5 fLPa fdLPa ["book", "words", "cut", "value"] (spLPa K)) (kLPa : PySem.W.keepIn K (.ref fLPa) = true) (bLPa : Binds K fdLPa ["book", "words", "cut", "value"] []) (gLPa : mg "_law_is_paper" = some (.ref fLPa)) {fDP : Addr} {fdDP : FuncData} (GDP : FnOk P w K mg base CX0 2 fDP fdDP ["hand", "book", "word"] spDP) (kDP : PySem.W.keepIn K (.ref fDP) = true) (bDP : Binds K fdDP ["hand", "book", "word"] []) (gDP : mg "_law_drawn_part" = some (.ref fDP)) {fLBe : Addr} {fdLBe : FuncData} (GLBe : FnOk P w K mg base CX0 3 fLBe fdLBe ["hand", "book", "paper", "words"] spLBe) (kLBe : PySem.W.keepIn K (.ref fLBe) = true) (bLBe : Binds K fdLBe ["hand", "book", "paper", "words"] []) (gLBe : mg "_law_bent" = some (.ref fLBe))
    {fSP fSHo : Addr} {fdSP fdSHo : FuncData} {dsSP dsSHo : List Value}
    (GSP : FnOk P w K mg base CX0 12 fSP fdSP ["book", "fixed"] (spSP K C CB)) (kSP : PySem.W.keepIn K (.ref fSP) = true) (gSP : mg "side_paper" = some (.ref fSP)) (knSP : KBn K fdSP ["book", "fixed"] 1 ["fixed"] (fun us ws => us ++ ws) (fun vs zs => vs ++ zs))
    (bSP : Binds K fdSP ["book", "fixed"] dsSP) (vdSP : Vals [V.bl false] dsSP) (kwSP : ∀ (s : Shared) (ws : List Value), ws.length = (["book", "fixed"] : List Str).length → BindsTo s fdSP ⟨[], (["book", "fixed"] : List Str).zip ws⟩ ((["book", "fixed"] : List Str).zip ws))
    (GSHo : FnOk P w K mg base CX0 12 fSHo fdSHo ["book", "claim", "paper", "fixed"] (spSHo2 K C CB)) (kSHo : PySem.W.keepIn K (.ref fSHo) = true) (gSHo : mg "side_holds" = some (.ref fSHo)) (knSHo : KBn K fdSHo ["book", "claim", "paper", "fixed"] 3 ["fixed"] (fun us ws => us ++ ws) (fun vs zs => vs ++ zs))
    (bSHo : Binds K fdSHo ["book", "claim", "paper", "fixed"] dsSHo) (vdSHo : Vals [V.bl false] dsSHo) (kwSHo : ∀ (s : Shared) (ws : List Value), ws.length = (["book", "claim", "paper", "fixed"] : List Str).length → BindsTo s fdSHo ⟨[], (["book", "claim", "paper", "fixed"] : List Str).zip ws⟩ ((["book", "claim", "paper", "fixed"] : List Str).zip ws)) :
    FnG P w K mg base CX0 14 f fd ["script"] (spLaw K) := by
  refine okG F scLaw (fun vs H Q E h => ?_) (fun cdv A outer s H vs Q E hr gd h => ?_)
  · obtain ⟨a, ns, rfl, _⟩ := h
    rfl
  · obtain ⟨a, ns, rfl, hS, hlen, q⟩ := h
    refine ⟨_, (pss_cons (ps_set (i := 1) scLaw.nd rfl (.inr rfl) (pe_lst (pa_cons (pe_call GDraws (hr.mono (by decide)) (by rfl) gDraws kDraws bDraws .nil pass0 (pa_cons (pv 0) (pa_cons pe_int pa_nil))) (pa_cons pe_int pa_nil))))
      (pss_cons (ps_set (i := 2) scLaw.nd rfl (.inr rfl) (pe_call GKB (hr.mono (by decide)) (by rfl) gKB kKB bKB .nil pass0 (pa_cons (pv 1) pa_nil)))
      (pss_cons (ps_set (i := 3) scLaw.nd rfl (.inl rfl) (pe_call GLB (hr.mono (by decide)) (by rfl) gLB kLB bLB .nil pass0 (pa_cons (pv 2) pa_nil)))
      (pss_cons (ps_for PassesOwn.never rfl (pi_list (pe_lst (pa_cons pe_bl (pa_cons pe_bl pa_nil)))) (pg_name (i := 4) scLaw.nd rfl (.inl rfl))
      (pss_cons (ps_set (i := 5) scLaw.nd rfl (.inl rfl) (pe_call GLW (hr.mono (by decide)) (by rfl) gLW kLW bLW .nil pass0 (pa_cons (pv 4) pa_nil)))
      (pss_cons (ps_set (i := 6) scLaw.nd rfl (.inl rfl) (pe_call GLS (hr.mono (by decide)) (by rfl) gLS kLS bLS .nil pass0 (pa_cons (pv 2) (pa_cons (pv 4) pa_nil))))
      (pss_cons (ps_set (i := 7) scLaw.nd rfl (.inl rfl) (pe_cmpR (op_neD hr.units) (pv 6) (pe_tup (pa_cons pe_str pa_nil)) (nomark _)))
      (pss_cons (ps_set (i := 8) scLaw.nd rfl (.inl rfl) (pe_callN GSP (hr.mono (by decide)) (by rfl) gSP kSP knSP pass0 (pa_cons (pv 3) pa_nil) (pk_cons (pv 4) pk_nil)))
      (pss_cons (ps_if (pt_not (pt_val (pe_callG GLPa (hr.mono (by decide)) gd (by rfl) gLPa kLPa bLPa .nil pass0 (pa_cons (pv 2) (pa_cons (pv 5) (pa_cons (pv 7) (pa_cons (pv 8) pa_nil)))))))
      (pss_one (ps_ret pe_bl)) pss_nil)
      (pss_cons (ps_set (i := 9) scLaw.nd rfl (.inl rfl) (pe_lst (pa_cons (pv 8) (pa_cons (pe_callTy call_tuple_of (by rfl) B.tuple (by decide +kernel) (pa_cons (pe_lc (own := [("word", 13)]) (g := gName 13) (tt := tYes) rfl scLaw.nd (pi_list (pv 5)) (blkOk_by (N := NLaw) (sc := defScope sLaw) (by decide +kernel)) (fun _ _ _ _ _ => pg_name (i := 13) scLaw.nd rfl (Or.inl rfl)) (fun _ _ _ _ _ => pts_nil) (fun _ _ _ _ _ => (pe_call GDP (hr.mono (by decide)) (by rfl) gDP kDP bDP .nil pass0 (pa_cons (pv 1) (pa_cons (pv 2) (pa_cons (pv 13) pa_nil)))))) pa_nil)) pa_nil))))
      (pss_cons (ps_for PassesOwn.never rfl (pi_range1 rfl B.range (pa_cons pe_int pa_nil)) (pg_name (i := 10) scLaw.nd rfl (.inl rfl))
      (pss_one (ps_expr (pe_bm PySem.F.plainAttrs_list PySem.F.slot_list_append PySem.F.type_list_append mt_append (pv 9) (pa_cons (pe_call GLBe (hr.mono (by decide)) (by rfl) gLBe kLBe bLBe .nil pass0 (pa_cons (pv 1) (pa_cons (pv 2) (pa_cons (pv 8) (pa_cons (pv 5) pa_nil))))) pa_nil)))))
      (pss_one (ps_for PassesOwn.never rfl (pi_list (pv 9)) (pg_name (i := 11) scLaw.nd rfl (.inl rfl))
      (pss_cons (ps_set (i := 12) scLaw.nd rfl (.inl rfl) (pe_callN GSHo (hr.mono (by decide)) (by rfl) gSHo kSHo knSHo pass0 (pa_cons (pv 3) (pa_cons (pv 6) (pa_cons (pv 11) pa_nil))) (pk_cons (pv 4) pk_nil)))
      (pss_one (ps_if (PW.pt (pw_or (pt_not (pt_val (pe_callB call_isi (by rfl) B.isinstance (by decide +kernel) (pa_cons (pv 12) (pa_cons (pe_bltn (v := .ty "bool") (by rfl) B.bool (by decide +kernel) rfl) pa_nil))))) (pw_or1 (pt_cmpR op_ne (pv 12) (pe_callG GLPa (hr.mono (by decide)) gd (by rfl) gLPa kLPa bLPa .nil pass0 (pa_cons (pv 2) (pa_cons (pv 5) (pa_cons (pv 7) (pa_cons (pv 11) pa_nil))))) (nomark _)))))
      (pss_one (ps_ret pe_bl)) pss_nil)))))))))))))
      (pss_one (ps_ret pe_bl)))))), ?_⟩
    -- hand
    refine q_seq (q_set ?_)
    refine ⟨.ref a, rfl, a, ns, 300, rfl, hS, by omega, by decide, fun H1 dr ds s1 np1 hp1 hl1 h01 => ⟨by show 2 ≤ sizeLine; decide, fun h nL => ?_⟩⟩
    have hd1 : Hdd (upd H1 h (.lst [.ref dr, .int 0])) h dr := ⟨ds, 0, upd_same, by rw [upd_ne (ne_of_none hp1 nL)]; exact hp1, ne_of_none hp1 nL, h01⟩
    generalize upd H1 h (.lst [.ref dr, .int 0]) = H2 at hd1 ⊢
    dsimp only
    -- book
    refine q_seq (q_set ?_)
    refine ⟨.ref h, rfl, h, dr, rfl, hd1, fun L ps bks H3 kp3 hd3 nL3 hL lps b1 b3 => ?_⟩
    dsimp only
    -- made
    refine q_seq (q_set ?_)
    refine ⟨.ref L, rfl, L, ps, bks, rfl, hL, lps, b1, by omega, fun H4 b s4 bk => ?_⟩
    have o4 : Own C CB h dr L b ps bks H4 := ⟨hd3.same s4, s4 _ _ hL, lps.same s4, bk⟩
    have z3 := lps_3 lps
    have b6 : bks.length ≤ 6 := by omega
    clear kp3 hd3 hL lps s4 hd1 bk
    dsimp only
    refine q_seq ?_
    refine ⟨by show 2 ≤ sizeLine; decide, fun Lf nLf => ?_⟩
    have sf := same_upd (o := .lst [V.bl false, .bl true]) nLf
    have hLf : Lf ≠ h := o4.hd.ne nLf
    have eLf : (upd H4 Lf (.lst [V.bl false, .bl true])) Lf = some (.lst [V.bl false, .bl true]) := upd_same
    replace o4 := o4.same sf
    generalize upd H4 Lf (.lst [V.bl false, .bl true]) = H5 at o4 eLf ⊢
    clear sf nLf
    refine ⟨Lf, rfl, ⟨_, sl eLf⟩, for_list (K := K) (a := Lf) (xs := [.bl false, .bl true]) (fun i σ H' => Own C CB h dr L b ps bks H' ∧ H' Lf = some (.lst [V.bl false, .bl true]) ∧ ∃ x4 x5 x6 x7 x8 x9 x10 x11 x12 : Option V, σ = [some (.ref a), some (.ref h), some (.ref L), some (.ref b), x4, x5, x6, x7, x8, x9, x10, x11, x12, none]) ⟨o4, eLf, none, none, none, none, none, none, none, none, none, rfl⟩ (fun i σ H' _ hP => sl hP.2.1) (fun i x σ H' hx hP => ?_) (fun σ H' hP => ?_)⟩
    · obtain ⟨o9, eL9, x4, x5, x6, x7, x8, x9, x10, x11, x12, rfl⟩ := hP
      obtain ⟨fx, rfl⟩ : ∃ fx, x = V.bl fx := by
        match i, hx with
        | 0, hx => exact ⟨false, (Option.some.inj hx).symm⟩
        | 1, hx => exact ⟨true, (Option.some.inj hx).symm⟩
        | i + 2, hx => simp at hx
      have shS : SeqAt.shaped (sideD fx bks) = true := sh_side kinds_in
      clear o4 eLf
      -- words
      refine q_seq (q_set ?_)
      refine ⟨.bl fx, rfl, fx, rfl, fun HA W sA hW => ?_⟩
      have oA := o9.same sA
      dsimp only
      -- due
      refine q_seq (q_set ?_)
      refine ⟨.ref L, rfl, .bl fx, rfl, L, ps, bks, fx, rfl, oA.hL, oA.lp, b6, fun HB ad sB dDue htw => ?_⟩
      obtain ⟨tw, had, htw⟩ := htw
      have oB := oA.same sB
      have hWB := sB _ _ hW
      dsimp only
      -- cut
      refine q_seq (q_set ?_)
      refine ⟨.ref ad, rfl, by show 1 ≤ sizeLine; decide, fun t1 nt1 => ?_⟩
      have s1 := same_upd (o := .tup [V.str "all"]) nt1
      refine ⟨sideD fx bks, .tuple [.str "all"], Ek.Dp.same s1 dDue, .tup (tl upd_same) (.cons (.str _) .nil), shS, by decide +kernel, ?_⟩
      have ev : PyData.eqv (sideD fx bks) (.tuple [.str "all"]) = (kindsOf fx bks).isEmpty := eqv_all
      rw [ev]
      have oC := oB.same s1
      have hWC := s1 _ _ hWB
      have hadC := s1 _ _ had
      have htwC := s1 _ _ htw
      have eLC := s1 _ _ (sB _ _ (sA _ _ eL9))
      generalize upd HB t1 (.tup [V.str "all"]) = HC at oC hWC hadC htwC eLC ⊢
      clear s1 nt1 dDue had htw hWB oB sB hW oA sA o9 eL9
      dsimp only
      -- paper
      refine q_seq (q_set ?_)
      refine ⟨.ref b, rfl, .bl fx, rfl, rfl, rfl, b, bks, fx, rfl, oC.bk, fun HD xp sD hpp => ?_⟩
      obtain ⟨p, xs, pl⟩ := pap_lv z3 b6 hpp
      cases pl.ref
      have oD := oC.same sD
      have dD : Due h ad tw W p fx bks HD := ⟨sD _ _ hadC, sD _ _ htwC, sD _ _ hWC, hpp⟩
      have eLD := sD _ _ eLC
      obtain ⟨dp, lp3, isp⟩ := pl.lv3
      clear hWC hadC htwC eLC oC sD
      dsimp only
      refine q_seq (q_if ?_)
      refine ⟨.ref L, rfl, .ref W, rfl, _, rfl, .ref p, rfl, L, W, ps, bks, fx, .ref p, dp, rfl, oD.hL, oD.lp, b6, dD.hW, lp3 Tr, fun HE sE => ⟨_, rfl, ?_⟩⟩
      rw [isp]
      first | rw [if_neg (show ¬ (!true) = true by decide)] | (dsimp only; rw [if_neg (show ¬ (!true) = true by decide)])
      refine q_next ?_
      have oE := oD.same sE
      have dE := dD.kp oD.hd (Kp.of sE)
      have eLE := sE _ _ eLD
      have lpE : ∀ H', Same HE H' → ∀ N, Lv3 N H' (.ref p) dp := fun H' s N => Lv3.same (sE.trans s) (lp3 N)
      clear oD eLD sE lp3
      dsimp only
      -- given
      refine q_seq (q_set ?_)
      refine ⟨.ref p, rfl, .ref W, rfl, W, rfl, ⟨_, sl dE.hW⟩, fun D nD => lc_list (K := K) (a := W) (xs := (wordsOf fx).map V.str) (fun i H' => Kp h HE H' ∧ Hdd H' h dr ∧ ∃ xs : List V, H' D = some (.lst xs) ∧ xs.length ≤ i ∧ ∀ N, LvAll N H' xs) ⟨Kp.of (same_upd nD), oE.hd.same (same_upd nD), [], upd_same, Nat.le_refl _, fun N => .nil⟩ (fun i H' _ hP => sl (hP.1 _ _ (oE.hd.ns dE.hW words_hand) dE.hW)) (fun i x H' hx hP => ?_) (fun H' hP => ?_)⟩
      · obtain ⟨kp', hd', ys, hD, ly, la⟩ := hP
        obtain ⟨w, rfl, hw⟩ : ∃ w, x = V.str w ∧ (wordsOf fx)[i]? = some w := by
          rw [List.getElem?_map] at hx
          cases ee : ((wordsOf fx)[i]? : Option Str) with
          | none => rw [ee] at hx; cases hx
          | some p => rw [ee] at hx; exact ⟨p, (Option.some.inj hx).symm, rfl⟩
        have li : i < 3 := by
          have := (List.getElem?_eq_some_iff.mp hw).1
          rw [len3] at this
          exact this
        have o' := oE.kp kp' hd'
        have nDh : D ≠ h := oE.hd.ne nD
        refine ⟨rfl, .ref h, rfl, .ref L, rfl, .str w, rfl, h, dr, L, ps, bks, w, rfl, hd', o'.hL, o'.lp, b1, b6, fun y dy HG kpG hdG lvG => ?_⟩
        have hDG := kpG D _ nDh hD
        have nDd : D ≠ dr := fun z => by
          obtain ⟨_, _, _, ed, _⟩ := oE.hd
          rw [z, ed] at nD
          cases nD
        refine ⟨_, hDG, small1000 (by omega), fun c o nb e => ?_, hdG.upd nDh nDd, ys ++ [y], upd_same, by rw [List.length_append]; show _ + 1 ≤ _; omega, fun N => ?_⟩
        · rw [upd_ne (ne_of_none e nD)]
          exact (kp'.trans kpG) c o nb e
        · have z1 : LvAll (fun a => N a ∧ a ≠ D) HG (ys ++ [y]) := ((la _).kp hd' kpG).app (.cons ⟨_, lvG _⟩ .nil)
          exact (z1.updL hDG (fun z => z.2 rfl)).weak (fun a z => z.1)
      · obtain ⟨kp', hd', ys, hD, ly, la⟩ := hP
        rw [List.length_map, len3] at ly
        refine ⟨D, _, rfl, .inl ⟨sl hD, fun tt ntt => ⟨by show 2 ≤ sizeLine; decide, fun G nG => ?_⟩⟩⟩
        have st := same_upd (o := .tup ys) ntt
        have oT : Own C CB h dr L b ps bks (upd H' tt (.tup ys)) := (oE.kp kp' hd').same st
        have dT : Due h ad tw W p fx bks (upd H' tt (.tup ys)) := (dE.kp oE.hd kp').kp hd' (Kp.of st)
        have eLT : (upd H' tt (.tup ys)) Lf = some (.lst [V.bl false, .bl true]) := st _ _ (kp' _ _ hLf eLE)
        have lt3 : ∀ N, ∃ d, Lv3 N (upd H' tt (.tup ys)) (.ref tt) d := fun N => by
          obtain ⟨ds, pr⟩ := ((la N).same st).paired
          exact ⟨_, .inr ⟨tt, _, _, rfl, .inl ⟨upd_same, rfl⟩, pr, by omega⟩⟩
        have lpT : ∀ N, Lv3 N (upd H' tt (.tup ys)) (.ref p) dp := fun N => Lv3.same st (Lv3.kp oE.hd kp' (lpE _ (Same.refl _) N))
        generalize upd H' tt (.tup ys) = HT at nG oT dT eLT lt3 lpT ⊢
        clear st kp' hd' hD ly la oE dE eLE lpE
        have sG := same_upd (o := .lst [V.ref p, .ref tt]) nG
        have nGh : G ≠ h := oT.hd.ne nG
        have nGd : G ≠ dr := fun z => by
          obtain ⟨_, _, _, ed, _⟩ := oT.hd
          rw [z, ed] at nG
          cases nG
        dsimp only
        refine q_seq ?_
        refine ⟨5, rfl, by decide, by decide, for_range (lo := 0) (n := 5) (fun k σ H' => Kp h HT H' ∧ Hdd H' h dr ∧ (∃ gs, H' G = some (.lst gs) ∧ gs.length ≤ 2 + k ∧ LvA3 (fun a => a ≠ G) H' gs) ∧ ∃ x10 : Option V, σ = [some (.ref a), some (.ref h), some (.ref L), some (.ref b), some (.bl fx), some (.ref W), some (.ref ad), some (.bl (!(kindsOf fx bks).isEmpty)), some (.ref p), some (.ref G), x10, x11, x12, none]) ⟨Kp.of sG, oT.hd.same sG, ⟨_, upd_same, by show 2 ≤ 2 + 0; decide, .cons ⟨_, Lv3.same sG (lpT _)⟩ (.cons ((lt3 _).imp fun d z => Lv3.same sG z) .nil)⟩, _, rfl⟩ (fun k σ H' hk hP => ?_) (fun σ H' hP => ?_)⟩
        · obtain ⟨kp', hd', ⟨gs, hG, lg, la⟩, x10', rfl⟩ := hP
          have o' := oT.kp kp' hd'
          have d' := dT.kp oT.hd kp'
          refine ⟨.ref G, rfl, .inl ⟨rfl, _, .inl (.inl hG)⟩, .ref h, rfl, .ref L, rfl, .ref p, rfl, .ref W, rfl, h, dr, L, p, W, ps, bks, fx, rfl, hd', o'.hL, o'.lp, b1, by omega, d'.pap, d'.hW, fun v dv HG kpG hdG lvG => ⟨G, _, _, rfl, rfl, kpG G _ nGh hG, small1000 (by omega), ?_⟩⟩
          have hGG := kpG G _ nGh hG
          have lv' : Lv3 (fun a => a ≠ G) HG v dv := Lv3.weak (fun a n z => by rw [z, hG] at n; cases n) lvG
          refine ⟨fun c o nb e => ?_, hdG.upd nGh nGd, ⟨_, upd_same, by rw [List.length_append]; show _ + 1 ≤ _; omega, ((la.kp hd' kpG).app (.cons ⟨_, lv'⟩ .nil)).updL hGG (fun z => z rfl)⟩, _, rfl⟩
          rw [upd_ne (ne_of_none e nG)]
          exact (kp'.trans kpG) c o nb e
        · obtain ⟨kp', hd', ⟨gs, hG, lg, la⟩, x10', rfl⟩ := hP
          have o' := oT.kp kp' hd'
          have d' := dT.kp oT.hd kp'
          have eL' : H' Lf = some (.lst [V.bl false, .bl true]) := kp' _ _ hLf eLT
          clear oT dT eLT lt3 lpT sG kp' hd'
          dsimp only
          refine ⟨.ref G, rfl, G, rfl, ⟨_, sl hG⟩, for_list (K := K) (a := G) (xs := gs) (fun i σ H2 => Same H' H2 ∧ ∃ x11 x12 : Option V, σ = [some (.ref a), some (.ref h), some (.ref L), some (.ref b), some (.bl fx), some (.ref W), some (.ref ad), some (.bl (!(kindsOf fx bks).isEmpty)), some (.ref p), some (.ref G), x10', x11, x12, none]) ⟨Same.refl _, _, _, rfl⟩ (fun i σ H2 _ hP => sl (hP.1 _ _ hG)) (fun i x σ H2 hx hP => ?_) (fun σ H2 hP => ?_)⟩
          · obtain ⟨s2, x11', x12', rfl⟩ := hP
            obtain ⟨d, lv⟩ := la.get hx
            have lv2 : Lv3 Tr H2 x d := Lv3.weak (fun _ _ => trivial) (Lv3.same s2 lv)
            have o2 := o'.same s2
            have d2 := d'.kp o'.hd (Kp.of s2)
            refine q_seq (q_set ?_)
            refine ⟨.ref b, rfl, .ref ad, rfl, x, rfl, .bl fx, rfl, rfl, rfl, b, bks, .ref ad, x, d, fx, rfl, o2.bk, d2.dp, lv2, fun H3 s3 => ?_⟩
            have lv3 := Lv3.same s3 lv2
            have o3 := o2.same s3
            have d3 := d2.kp o2.hd (Kp.of s3)
            dsimp only
            refine q_if ?_
            refine ⟨.bl (isPap fx bks d), rfl, _, _, _, _, true, rfl, .ty _, .base (.bl _), kit_ty (by decide +kernel), true, rfl, ?_⟩
            refine ⟨.bl (isPap fx bks d), rfl, .ref L, rfl, .ref W, rfl, _, rfl, x, rfl, L, W, ps, bks, fx, x, d, rfl, o3.hL, o3.lp, b6, d3.hW, lv3, fun H4 s4 => ⟨rfl, _, rfl, ?_⟩⟩
            rw [decide_eq_true rfl]
            dsimp only
            rw [if_neg (by decide)]
            refine q_next ?_
            exact ⟨s2.trans (s3.trans s4), _, _, rfl⟩
          · obtain ⟨s2, x11', x12', rfl⟩ := hP
            exact ⟨o'.same s2, s2 _ _ eL', _, _, _, _, _, _, _, _, _, rfl⟩
    · obtain ⟨_, _, _, _, _, _, _, _, _, _, _, rfl⟩ := hP
      dsimp only
      exact q H'
end
end CC

namespace CC
open PySem PySem.Spec PyProof.Rows L2 Ek
abbrev VE : List Value := [.type "ValueError", .type "Exception", .type "BaseException", .type "object"]
section
variable {K : PySem.W.Frag} {C pe : Addr} {nm q : Str} {N : Addr} {bs : List Value} {sn : List Str} {su : List Value} {ab : Bool} {co : Option Bool} {dd : Option Addr} {k0 k1 k2 k3 k5 : Option Value}
theorem cls_of (h : K.lookup C = some (excClassObj nm q C N bs (.ref pe :: VE) true sn su ab co dd k0 k1 k2 k3 k5 "ValueError.__new__")) : PySem.W.clsIn K C = some { name := nm, bases := bs, mro := .ref C :: .ref pe :: VE, ns := N, qualname := q, hasDict := true, slotNames := sn, subclasses := su, abstract := ab, collection := co, hasDel := false } := by
  unfold PySem.W.clsIn
  rw [h] <;> rfl
theorem mro_of (h : K.lookup C = some (excClassObj nm q C N bs (.ref pe :: VE) true sn su ab co dd k0 k1 k2 k3 k5 "ValueError.__new__")) (b : Value) : PySem.W.mroIn K C b = some ((.ref C :: .ref pe :: VE : List Value).contains b) := by
  unfold PySem.W.mroIn
  rw [cls_of h] <;> rfl
theorem exc_of (h : K.lookup C = some (excClassObj nm q C N bs (.ref pe :: VE) true sn su ab co dd k0 k1 k2 k3 k5 "ValueError.__new__")) : PySem.W.subIn K (.ref C) (.type "BaseException") = some true := by
  show PySem.W.mroIn K C _ = _
  rw [mro_of h]
  rfl
theorem hd_of (h : K.lookup C = some (excClassObj nm q C N bs (.ref pe :: VE) true sn su ab co dd k0 k1 k2 k3 k5 "ValueError.__new__")) : PySem.W.hasDictIn K C = true := by
  unfold PySem.W.hasDictIn
  rw [cls_of h] <;> rfl
theorem kit_pe (h : K.lookup C = some (excClassObj nm q C N bs (.ref pe :: VE) true sn su ab co dd k0 k1 k2 k3 k5 "ValueError.__new__")) (hD : (PySem.W.clsIn K pe).isSome = true) (tD : PySem.W.typeIn K (.ref pe) = some (.type "type")) (e : C ≠ pe) : PySem.W.kitOne K (.ref C) (.ref pe) = some true := by
  unfold PySem.W.kitOne
  rw [if_neg (by simpa using e)]
  show (if ((PySem.W.clsIn K pe).isSome && PySem.W.typeIn K (.ref pe) == some (.type "type")) = true then PySem.W.subIn K (.ref C) (.ref pe) else none) = _
  rw [if_pos (by rw [hD, tD]; rfl)]
  show PySem.W.mroIn K C _ = _
  rw [mro_of h]
  simp [List.contains_cons]
/-- an error's class is named by its own clause -/
theorem exm_own (h : K.lookup C = some (excClassObj nm q C N bs (.ref pe :: VE) true sn su ab co dd k0 k1 k2 k3 k5 "ValueError.__new__")) (ty : PySem.W.typeIn K (.ref C) = some (.type "type")) : PySem.W.exmOne K (.ref C) (.ref C) = some true := by
  have a := exc_of h
  have b : PySem.W.subIn K (.ref C) (.ref C) = some true := by
    show PySem.W.mroIn K C _ = _
    rw [mro_of h]
    simp [List.contains_cons]
  have c : (PySem.W.clsIn K C).isSome = true := by
    rw [cls_of h]
    rfl
  unfold PySem.W.exmOne
  simp [a, b, c, ty, PySem.W.kitCls]
theorem exm_not {D : Addr} (h : K.lookup C = some (excClassObj nm q C N bs (.ref pe :: VE) true sn su ab co dd k0 k1 k2 k3 k5 "ValueError.__new__")) (c : (PySem.W.clsIn K D).isSome = true) (ty : PySem.W.typeIn K (.ref D) = some (.type "type")) (ne : C ≠ D) (np : D ≠ pe) (sD : PySem.W.subIn K (.ref D) (.type "BaseException") = some true) : PySem.W.exmOne K (.ref C) (.ref D) = some false := by
  have a := exc_of h
  have b : PySem.W.subIn K (.ref C) (.ref D) = some false := by
    show PySem.W.mroIn K C _ = _
    rw [mro_of h]
    simp [List.contains_cons, np, Ne.symm ne, ne]
  unfold PySem.W.exmOne
  simp [a, b, c, ty, sD, PySem.W.kitCls]
end
theorem all_mk {l : PySem.W.OpenLaw} {w : World} {K : PySem.W.Frag} {h : Heap} {mg : Str → Option Value} {fa pe CU C CB aW aFW aXW fXU fPI fPC fBI fBL fII fIB fIV fIS fIQ fIR fRO fRN fAA fAR fAO fOO fHM fRS fRW fPW fSH fTM fFO fIK fFK fXK fSW fSD fSP fIF fSHo fDraws fTake fEvery fAmount fPlace fCost fLPrice fLean fKB fLB fPO fBR fLF fLW fLK fLS fLN fLO fLH fLPa fDP fBP fLBe fLaw : Addr} (X : K.In h) (G : h.Ns mainGlobals mg) (hfa : mg "law" = some (.ref fa))
    {nmCU qCU : Str} {NCU : Addr} {bsCU : List Value} {snCU : List Str} {suCU : List Value} {abCU : Bool} {coCU : Option Bool} {ddCU : Option Addr} {kaCU kbCU kcCU kdCU keCU : Option Value}
    {odXU anXU : Option Addr} {slXU : Array (Option Value)} {ocXU kVXU dcXU pmXU cdXU ctXU : Value}
    {odPI anPI : Option Addr} {slPI : Array (Option Value)} {ocPI kVPI dcPI pmPI cdPI ctPI : Value}
    {odPC anPC : Option Addr} {slPC : Array (Option Value)} {ocPC kVPC dcPC pmPC cdPC ctPC : Value}
    {odBI anBI : Option Addr} {slBI : Array (Option Value)} {ocBI kVBI dcBI pmBI cdBI ctBI : Value}
    {odBL anBL : Option Addr} {slBL : Array (Option Value)} {ocBL kVBL dcBL pmBL cdBL ctBL : Value}
    {odII anII : Option Addr} {slII : Array (Option Value)} {ocII kVII dcII pmII cdII ctII : Value}
    {odIB anIB : Option Addr} {slIB : Array (Option Value)} {ocIB kVIB dcIB pmIB cdIB ctIB : Value}
    {odIV anIV : Option Addr} {slIV : Array (Option Value)} {ocIV kVIV dcIV pmIV cdIV ctIV : Value}
    {odIS anIS : Option Addr} {slIS : Array (Option Value)} {ocIS kVIS dcIS pmIS cdIS ctIS : Value}
    {odIQ anIQ : Option Addr} {slIQ : Array (Option Value)} {ocIQ kVIQ dcIQ pmIQ cdIQ ctIQ : Value}
    {odIR anIR : Option Addr} {slIR : Array (Option Value)} {ocIR kVIR dcIR pmIR cdIR ctIR : Value}
    {odRO anRO : Option Addr} {slRO : Array (Option Value)} {ocRO kVRO dcRO pmRO cdRO ctRO : Value}
    {odRN anRN : Option Addr} {slRN : Array (Option Value)} {ocRN kVRN dcRN pmRN cdRN ctRN : Value}
    {odAA anAA : Option Addr} {slAA : Array (Option Value)} {ocAA kVAA dcAA pmAA cdAA ctAA : Value}
    {odAR anAR : Option Addr} {slAR : Array (Option Value)} {ocAR kVAR dcAR pmAR cdAR ctAR : Value}
    {odAO anAO : Option Addr} {slAO : Array (Option Value)} {ocAO kVAO dcAO pmAO cdAO ctAO : Value}
    {odOO anOO : Option Addr} {slOO : Array (Option Value)} {ocOO kVOO dcOO pmOO cdOO ctOO : Value}
    {odHM anHM : Option Addr} {slHM : Array (Option Value)} {ocHM kVHM dcHM pmHM cdHM ctHM : Value}
    {odRS anRS : Option Addr} {slRS : Array (Option Value)} {ocRS kVRS dcRS pmRS cdRS ctRS : Value}
    {odRW anRW : Option Addr} {slRW : Array (Option Value)} {ocRW kVRW dcRW pmRW cdRW ctRW : Value}
    {odPW anPW : Option Addr} {slPW : Array (Option Value)} {ocPW kVPW dcPW pmPW cdPW ctPW : Value}
    {odSH anSH : Option Addr} {slSH : Array (Option Value)} {ocSH kVSH dcSH pmSH cdSH ctSH : Value}
    {odTM anTM : Option Addr} {slTM : Array (Option Value)} {ocTM kVTM dcTM pmTM cdTM ctTM : Value}
    {odFO anFO : Option Addr} {slFO : Array (Option Value)} {ocFO kVFO dcFO pmFO cdFO ctFO : Value}
    {odIK anIK : Option Addr} {slIK : Array (Option Value)} {ocIK kVIK dcIK pmIK cdIK ctIK : Value}
    {odFK anFK : Option Addr} {slFK : Array (Option Value)} {ocFK kVFK dcFK pmFK cdFK ctFK : Value}
    {odXK anXK : Option Addr} {slXK : Array (Option Value)} {ocXK kVXK dcXK pmXK cdXK ctXK : Value}
    {odSW anSW : Option Addr} {slSW : Array (Option Value)} {ocSW kVSW dcSW pmSW cdSW ctSW : Value}
    {odSD anSD : Option Addr} {slSD : Array (Option Value)} {kdSD : Addr} {ocSD dcSD pmSD cdSD ctSD : Value}
    {odSP anSP : Option Addr} {slSP : Array (Option Value)} {kdSP : Addr} {ocSP dcSP pmSP cdSP ctSP : Value}
    {odIF anIF : Option Addr} {slIF : Array (Option Value)} {ocIF kVIF dcIF pmIF cdIF ctIF : Value}
    {odSHo anSHo : Option Addr} {slSHo : Array (Option Value)} {kdSHo : Addr} {ocSHo dcSHo pmSHo cdSHo ctSHo : Value}
    {odDraws anDraws : Option Addr} {slDraws : Array (Option Value)} {ocDraws kVDraws dcDraws pmDraws cdDraws ctDraws : Value}
    {odTake anTake : Option Addr} {slTake : Array (Option Value)} {ocTake kVTake dcTake pmTake cdTake ctTake : Value}
    {odEvery anEvery : Option Addr} {slEvery : Array (Option Value)} {ocEvery kVEvery dcEvery pmEvery cdEvery ctEvery : Value}
    {odAmount anAmount : Option Addr} {slAmount : Array (Option Value)} {ocAmount kVAmount dcAmount pmAmount cdAmount ctAmount : Value}
    {odPlace anPlace : Option Addr} {slPlace : Array (Option Value)} {ocPlace kVPlace dcPlace pmPlace cdPlace ctPlace : Value}
    {odCost anCost : Option Addr} {slCost : Array (Option Value)} {ocCost kVCost dcCost pmCost cdCost ctCost : Value}
    {odLPrice anLPrice : Option Addr} {slLPrice : Array (Option Value)} {ocLPrice kVLPrice dcLPrice pmLPrice cdLPrice ctLPrice : Value}
    {odLean anLean : Option Addr} {slLean : Array (Option Value)} {ocLean kVLean dcLean pmLean cdLean ctLean : Value}
    {odKB anKB : Option Addr} {slKB : Array (Option Value)} {ocKB kVKB dcKB pmKB cdKB ctKB : Value}
    {odLB anLB : Option Addr} {slLB : Array (Option Value)} {ocLB kVLB dcLB pmLB cdLB ctLB : Value}
    {odPO anPO : Option Addr} {slPO : Array (Option Value)} {ocPO kVPO dcPO pmPO cdPO ctPO : Value}
    {odBR anBR : Option Addr} {slBR : Array (Option Value)} {ocBR kVBR dcBR pmBR cdBR ctBR : Value}
    {odLF anLF : Option Addr} {slLF : Array (Option Value)} {ocLF kVLF dcLF pmLF cdLF ctLF : Value}
    {odLW anLW : Option Addr} {slLW : Array (Option Value)} {ocLW kVLW dcLW pmLW cdLW ctLW : Value}
    {odLK anLK : Option Addr} {slLK : Array (Option Value)} {ocLK kVLK dcLK pmLK cdLK ctLK : Value}
    {odLS anLS : Option Addr} {slLS : Array (Option Value)} {ocLS kVLS dcLS pmLS cdLS ctLS : Value}
    {odLN anLN : Option Addr} {slLN : Array (Option Value)} {ocLN kVLN dcLN pmLN cdLN ctLN : Value}
    {odLO anLO : Option Addr} {slLO : Array (Option Value)} {ocLO kVLO dcLO pmLO cdLO ctLO : Value}
    {odLH anLH : Option Addr} {slLH : Array (Option Value)} {ocLH kVLH dcLH pmLH cdLH ctLH : Value}
    {odLPa anLPa : Option Addr} {slLPa : Array (Option Value)} {ocLPa kVLPa dcLPa pmLPa cdLPa ctLPa : Value}
    {odDP anDP : Option Addr} {slDP : Array (Option Value)} {ocDP kVDP dcDP pmDP cdDP ctDP : Value}
    {odBP anBP : Option Addr} {slBP : Array (Option Value)} {ocBP kVBP dcBP pmBP cdBP ctBP : Value}
    {odLBe anLBe : Option Addr} {slLBe : Array (Option Value)} {ocLBe kVLBe dcLBe pmLBe cdLBe ctLBe : Value}
    {odLaw anLaw : Option Addr} {slLaw : Array (Option Value)} {ocLaw kVLaw dcLaw pmLaw cdLaw ctLaw : Value}
    {ddW : Option Addr} {itW : Array Value} {nnW : Nat} {ssW : Array (Option Value)}
    {ddFW : Option Addr} {itFW : Array Value} {nnFW : Nat} {ssFW : Array (Option Value)}
    {ddXW : Option Addr} {itXW : Array Value} {nnXW : Nat} {ssXW : Array (Option Value)}
    (aCU : PySem.W.nsIn K mainGlobals "Undefined" = some (some (.ref CU)))
    (xLCU : K.lookup CU = some (excClassObj nmCU qCU CU NCU bsCU (.ref pe :: VE) true snCU suCU abCU coCU ddCU kaCU kbCU kcCU kdCU keCU "ValueError.__new__"))
    (saCU : PySem.W.findIn K (.ref CU) "__setattr__" = some (some (.builtin "object.__setattr__")))
    (gaCU : PySem.W.findIn K (.ref CU) "__getattribute__" = some (some (.builtin "BaseException.__getattribute__")))
    (ggCU : PySem.W.findIn K (.ref CU) "__getattr__" = some none)
    (caCU : PySem.W.findIn K (.ref CU) "__class__" = some (some (.builtin "object.__class__")))
    (tyCU : PySem.W.typeIn K (.ref CU) = some (.type "type"))
    (kpCU : PySem.W.keepIn K (.ref CU) = true)
    (noCU : PySem.W.findIn K (.ref CU) "what" = some none)
    (inCU : PySem.W.findIn K (.ref CU) "__init__" = some (some (.ref fXU)))
    (itCU : PySem.W.typeIn K (.ref fXU) = some (.type "function"))
    (lXU : K.lookup fXU = some ⟨ocXU, odXU, .func (PySem.W.fnOf "__init__" "Undefined.__init__" (defArgs sXU) (defBody sXU) (defScope sXU) .none kVXU dcXU pmXU anXU cdXU ctXU), slXU⟩)
    (cXU : PySem.W.codeIn K cdXU "Undefined.__init__" = true)
    (kkXU : PySem.W.keepIn K (.ref fXU) = true)
    (aCl : PySem.W.nsIn K mainGlobals "Price" = some (some (.ref C)))
    (pgC : PySem.W.plainGet K C Str.empty = true)
    (hdC : PySem.W.hasDictIn K C = true)
    (poC : PySem.W.plainOver K C = true)
    (saC : PySem.W.findIn K (.ref C) "__setattr__" = some (some (.builtin "object.__setattr__")))
    (mkC : PySem.W.makesIn K C = true)
    (kpC : PySem.W.keepIn K (.ref C) = true)
    (nSC : PySem.W.findIn K (.ref C) "size" = some none)
    (nAC : PySem.W.findIn K (.ref C) "amounts" = some none)
    (aCBl : PySem.W.nsIn K mainGlobals "Book" = some (some (.ref CB)))
    (pgCB : PySem.W.plainGet K CB Str.empty = true)
    (hdCB : PySem.W.hasDictIn K CB = true)
    (poCB : PySem.W.plainOver K CB = true)
    (saCB : PySem.W.findIn K (.ref CB) "__setattr__" = some (some (.builtin "object.__setattr__")))
    (mkCB : PySem.W.makesIn K CB = true)
    (kpCB : PySem.W.keepIn K (.ref CB) = true)
    (nPCB : PySem.W.findIn K (.ref CB) "prices" = some none)
    (caC : PySem.W.findIn K (.ref C) "__class__" = some (some (.builtin "object.__class__")))
    (moC : PySem.W.mroIn K C (.type "object") = some true)
    (ktC : PySem.W.kitOne K (.type "tuple") (.ref C) = some false)
    (inPI : PySem.W.findIn K (.ref C) "__init__" = some (some (.ref fPI)))
    (fnPI : PySem.W.isFn K (.ref fPI) = true)
    (lPI : K.lookup fPI = some ⟨ocPI, odPI, .func (PySem.W.fnOf "__init__" "Price.__init__" (defArgs sPI) (defBody sPI) (defScope sPI) .none kVPI dcPI pmPI anPI cdPI ctPI), slPI⟩)
    (cPI : PySem.W.codeIn K cdPI "Price.__init__" = true)
    (kkPI : PySem.W.keepIn K (.ref fPI) = true)
    (inPC : PySem.W.findIn K (.ref C) "cost" = some (some (.ref fPC)))
    (fnPC : PySem.W.isFn K (.ref fPC) = true)
    (lPC : K.lookup fPC = some ⟨ocPC, odPC, .func (PySem.W.fnOf "cost" "Price.cost" (defArgs sPC) (defBody sPC) (defScope sPC) .none kVPC dcPC pmPC anPC cdPC ctPC), slPC⟩)
    (cPC : PySem.W.codeIn K cdPC "Price.cost" = true)
    (kkPC : PySem.W.keepIn K (.ref fPC) = true)
    (inBI : PySem.W.findIn K (.ref CB) "__init__" = some (some (.ref fBI)))
    (fnBI : PySem.W.isFn K (.ref fBI) = true)
    (lBI : K.lookup fBI = some ⟨ocBI, odBI, .func (PySem.W.fnOf "__init__" "Book.__init__" (defArgs sBI) (defBody sBI) (defScope sBI) .none kVBI dcBI pmBI anBI cdBI ctBI), slBI⟩)
    (cBI : PySem.W.codeIn K cdBI "Book.__init__" = true)
    (kkBI : PySem.W.keepIn K (.ref fBI) = true)
    (inBL : PySem.W.findIn K (.ref CB) "__len__" = some (some (.ref fBL)))
    (fnBL : PySem.W.isFn K (.ref fBL) = true)
    (lBL : K.lookup fBL = some ⟨ocBL, odBL, .func (PySem.W.fnOf "__len__" "Book.__len__" (defArgs sBL) (defBody sBL) (defScope sBL) .none kVBL dcBL pmBL anBL cdBL ctBL), slBL⟩)
    (cBL : PySem.W.codeIn K cdBL "Book.__len__" = true)
    (kkBL : PySem.W.keepIn K (.ref fBL) = true)
    (aII : PySem.W.nsIn K mainGlobals "is_integer" = some (some (.ref fII)))
    (lII : K.lookup fII = some ⟨ocII, odII, .func (PySem.W.fnOf "is_integer" "is_integer" (defArgs sII) (defBody sII) (defScope sII) .none kVII dcII pmII anII cdII ctII), slII⟩)
    (cII : PySem.W.codeIn K cdII "is_integer" = true)
    (kkII : PySem.W.keepIn K (.ref fII) = true)
    (aIB : PySem.W.nsIn K mainGlobals "is_number_below" = some (some (.ref fIB)))
    (lIB : K.lookup fIB = some ⟨ocIB, odIB, .func (PySem.W.fnOf "is_number_below" "is_number_below" (defArgs sIB) (defBody sIB) (defScope sIB) .none kVIB dcIB pmIB anIB cdIB ctIB), slIB⟩)
    (cIB : PySem.W.codeIn K cdIB "is_number_below" = true)
    (kkIB : PySem.W.keepIn K (.ref fIB) = true)
    (aIV : PySem.W.nsIn K mainGlobals "is_value" = some (some (.ref fIV)))
    (lIV : K.lookup fIV = some ⟨ocIV, odIV, .func (PySem.W.fnOf "is_value" "is_value" (defArgs sIV) (defBody sIV) (defScope sIV) .none kVIV dcIV pmIV anIV cdIV ctIV), slIV⟩)
    (cIV : PySem.W.codeIn K cdIV "is_value" = true)
    (kkIV : PySem.W.keepIn K (.ref fIV) = true)
    (aIS : PySem.W.nsIn K mainGlobals "is_size" = some (some (.ref fIS)))
    (lIS : K.lookup fIS = some ⟨ocIS, odIS, .func (PySem.W.fnOf "is_size" "is_size" (defArgs sIS) (defBody sIS) (defScope sIS) .none kVIS dcIS pmIS anIS cdIS ctIS), slIS⟩)
    (cIS : PySem.W.codeIn K cdIS "is_size" = true)
    (kkIS : PySem.W.keepIn K (.ref fIS) = true)
    (aIQ : PySem.W.nsIn K mainGlobals "is_sequence" = some (some (.ref fIQ)))
    (lIQ : K.lookup fIQ = some ⟨ocIQ, odIQ, .func (PySem.W.fnOf "is_sequence" "is_sequence" (defArgs sIQ) (defBody sIQ) (defScope sIQ) .none kVIQ dcIQ pmIQ anIQ cdIQ ctIQ), slIQ⟩)
    (cIQ : PySem.W.codeIn K cdIQ "is_sequence" = true)
    (kkIQ : PySem.W.keepIn K (.ref fIQ) = true)
    (aIR : PySem.W.nsIn K mainGlobals "is_row" = some (some (.ref fIR)))
    (lIR : K.lookup fIR = some ⟨ocIR, odIR, .func (PySem.W.fnOf "is_row" "is_row" (defArgs sIR) (defBody sIR) (defScope sIR) .none kVIR dcIR pmIR anIR cdIR ctIR), slIR⟩)
    (cIR : PySem.W.codeIn K cdIR "is_row" = true)
    (kkIR : PySem.W.keepIn K (.ref fIR) = true)
    (aRO : PySem.W.nsIn K mainGlobals "rows_of" = some (some (.ref fRO)))
    (lRO : K.lookup fRO = some ⟨ocRO, odRO, .func (PySem.W.fnOf "rows_of" "rows_of" (defArgs sRO) (defBody sRO) (defScope sRO) .none kVRO dcRO pmRO anRO cdRO ctRO), slRO⟩)
    (cRO : PySem.W.codeIn K cdRO "rows_of" = true)
    (kkRO : PySem.W.keepIn K (.ref fRO) = true)
    (aRN : PySem.W.nsIn K mainGlobals "row_number" = some (some (.ref fRN)))
    (lRN : K.lookup fRN = some ⟨ocRN, odRN, .func (PySem.W.fnOf "row_number" "row_number" (defArgs sRN) (defBody sRN) (defScope sRN) .none kVRN dcRN pmRN anRN cdRN ctRN), slRN⟩)
    (cRN : PySem.W.codeIn K cdRN "row_number" = true)
    (kkRN : PySem.W.keepIn K (.ref fRN) = true)
    (aAA : PySem.W.nsIn K mainGlobals "_are_amounts" = some (some (.ref fAA)))
    (lAA : K.lookup fAA = some ⟨ocAA, odAA, .func (PySem.W.fnOf "_are_amounts" "_are_amounts" (defArgs sAA) (defBody sAA) (defScope sAA) .none kVAA dcAA pmAA anAA cdAA ctAA), slAA⟩)
    (cAA : PySem.W.codeIn K cdAA "_are_amounts" = true)
    (kkAA : PySem.W.keepIn K (.ref fAA) = true)
    (aAR : PySem.W.nsIn K mainGlobals "_are_prices" = some (some (.ref fAR)))
    (lAR : K.lookup fAR = some ⟨ocAR, odAR, .func (PySem.W.fnOf "_are_prices" "_are_prices" (defArgs sAR) (defBody sAR) (defScope sAR) .none kVAR dcAR pmAR anAR cdAR ctAR), slAR⟩)
    (cAR : PySem.W.codeIn K cdAR "_are_prices" = true)
    (kkAR : PySem.W.keepIn K (.ref fAR) = true)
    (aAO : PySem.W.nsIn K mainGlobals "and_of" = some (some (.ref fAO)))
    (lAO : K.lookup fAO = some ⟨ocAO, odAO, .func (PySem.W.fnOf "and_of" "and_of" (defArgs sAO) (defBody sAO) (defScope sAO) .none kVAO dcAO pmAO anAO cdAO ctAO), slAO⟩)
    (cAO : PySem.W.codeIn K cdAO "and_of" = true)
    (kkAO : PySem.W.keepIn K (.ref fAO) = true)
    (aOO : PySem.W.nsIn K mainGlobals "or_of" = some (some (.ref fOO)))
    (lOO : K.lookup fOO = some ⟨ocOO, odOO, .func (PySem.W.fnOf "or_of" "or_of" (defArgs sOO) (defBody sOO) (defScope sOO) .none kVOO dcOO pmOO anOO cdOO ctOO), slOO⟩)
    (cOO : PySem.W.codeIn K cdOO "or_of" = true)
    (kkOO : PySem.W.keepIn K (.ref fOO) = true)
    (aHM : PySem.W.nsIn K mainGlobals "has_one_more" = some (some (.ref fHM)))
    (lHM : K.lookup fHM = some ⟨ocHM, odHM, .func (PySem.W.fnOf "has_one_more" "has_one_more" (defArgs sHM) (defBody sHM) (defScope sHM) .none kVHM dcHM pmHM anHM cdHM ctHM), slHM⟩)
    (cHM : PySem.W.codeIn K cdHM "has_one_more" = true)
    (kkHM : PySem.W.keepIn K (.ref fHM) = true)
    (aRS : PySem.W.nsIn K mainGlobals "rows_to_show" = some (some (.ref fRS)))
    (lRS : K.lookup fRS = some ⟨ocRS, odRS, .func (PySem.W.fnOf "rows_to_show" "rows_to_show" (defArgs sRS) (defBody sRS) (defScope sRS) .none kVRS dcRS pmRS anRS cdRS ctRS), slRS⟩)
    (cRS : PySem.W.codeIn K cdRS "rows_to_show" = true)
    (kkRS : PySem.W.keepIn K (.ref fRS) = true)
    (aRW : PySem.W.nsIn K mainGlobals "_row_shows" = some (some (.ref fRW)))
    (lRW : K.lookup fRW = some ⟨ocRW, odRW, .func (PySem.W.fnOf "_row_shows" "_row_shows" (defArgs sRW) (defBody sRW) (defScope sRW) .none kVRW dcRW pmRW anRW cdRW ctRW), slRW⟩)
    (cRW : PySem.W.codeIn K cdRW "_row_shows" = true)
    (kkRW : PySem.W.keepIn K (.ref fRW) = true)
    (aPW : PySem.W.nsIn K mainGlobals "_pair_shows" = some (some (.ref fPW)))
    (lPW : K.lookup fPW = some ⟨ocPW, odPW, .func (PySem.W.fnOf "_pair_shows" "_pair_shows" (defArgs sPW) (defBody sPW) (defScope sPW) .none kVPW dcPW pmPW anPW cdPW ctPW), slPW⟩)
    (cPW : PySem.W.codeIn K cdPW "_pair_shows" = true)
    (kkPW : PySem.W.keepIn K (.ref fPW) = true)
    (aSH : PySem.W.nsIn K mainGlobals "shows" = some (some (.ref fSH)))
    (lSH : K.lookup fSH = some ⟨ocSH, odSH, .func (PySem.W.fnOf "shows" "shows" (defArgs sSH) (defBody sSH) (defScope sSH) .none kVSH dcSH pmSH anSH cdSH ctSH), slSH⟩)
    (cSH : PySem.W.codeIn K cdSH "shows" = true)
    (kkSH : PySem.W.keepIn K (.ref fSH) = true)
    (aTM : PySem.W.nsIn K mainGlobals "_that_may_show" = some (some (.ref fTM)))
    (lTM : K.lookup fTM = some ⟨ocTM, odTM, .func (PySem.W.fnOf "_that_may_show" "_that_may_show" (defArgs sTM) (defBody sTM) (defScope sTM) .none kVTM dcTM pmTM anTM cdTM ctTM), slTM⟩)
    (cTM : PySem.W.codeIn K cdTM "_that_may_show" = true)
    (kkTM : PySem.W.keepIn K (.ref fTM) = true)
    (aFO : PySem.W.nsIn K mainGlobals "fault_of" = some (some (.ref fFO)))
    (lFO : K.lookup fFO = some ⟨ocFO, odFO, .func (PySem.W.fnOf "fault_of" "fault_of" (defArgs sFO) (defBody sFO) (defScope sFO) .none kVFO dcFO pmFO anFO cdFO ctFO), slFO⟩)
    (cFO : PySem.W.codeIn K cdFO "fault_of" = true)
    (kkFO : PySem.W.keepIn K (.ref fFO) = true)
    (aIK : PySem.W.nsIn K mainGlobals "is_kind" = some (some (.ref fIK)))
    (lIK : K.lookup fIK = some ⟨ocIK, odIK, .func (PySem.W.fnOf "is_kind" "is_kind" (defArgs sIK) (defBody sIK) (defScope sIK) .none kVIK dcIK pmIK anIK cdIK ctIK), slIK⟩)
    (cIK : PySem.W.codeIn K cdIK "is_kind" = true)
    (kkIK : PySem.W.keepIn K (.ref fIK) = true)
    (aFK : PySem.W.nsIn K mainGlobals "free_kinds" = some (some (.ref fFK)))
    (lFK : K.lookup fFK = some ⟨ocFK, odFK, .func (PySem.W.fnOf "free_kinds" "free_kinds" (defArgs sFK) (defBody sFK) (defScope sFK) .none kVFK dcFK pmFK anFK cdFK ctFK), slFK⟩)
    (cFK : PySem.W.codeIn K cdFK "free_kinds" = true)
    (kkFK : PySem.W.keepIn K (.ref fFK) = true)
    (aXK : PySem.W.nsIn K mainGlobals "fixed_kinds" = some (some (.ref fXK)))
    (lXK : K.lookup fXK = some ⟨ocXK, odXK, .func (PySem.W.fnOf "fixed_kinds" "fixed_kinds" (defArgs sXK) (defBody sXK) (defScope sXK) .none kVXK dcXK pmXK anXK cdXK ctXK), slXK⟩)
    (cXK : PySem.W.codeIn K cdXK "fixed_kinds" = true)
    (kkXK : PySem.W.keepIn K (.ref fXK) = true)
    (aSW : PySem.W.nsIn K mainGlobals "_words" = some (some (.ref fSW)))
    (lSW : K.lookup fSW = some ⟨ocSW, odSW, .func (PySem.W.fnOf "_words" "_words" (defArgs sSW) (defBody sSW) (defScope sSW) .none kVSW dcSW pmSW anSW cdSW ctSW), slSW⟩)
    (cSW : PySem.W.codeIn K cdSW "_words" = true)
    (kkSW : PySem.W.keepIn K (.ref fSW) = true)
    (aSD : PySem.W.nsIn K mainGlobals "side" = some (some (.ref fSD)))
    (lSD : K.lookup fSD = some ⟨ocSD, odSD, .func (PySem.W.fnOf "side" "side" (defArgs sSD) (defBody sSD) (defScope sSD) .none (.ref kdSD) dcSD pmSD anSD cdSD ctSD), slSD⟩)
    (cSD : PySem.W.codeIn K cdSD "side" = true)
    (kkSD : PySem.W.keepIn K (.ref fSD) = true)
    (nSD : PySem.W.nsIn K kdSD "fixed" = some (some (.bool false)))
    (aSP : PySem.W.nsIn K mainGlobals "side_paper" = some (some (.ref fSP)))
    (lSP : K.lookup fSP = some ⟨ocSP, odSP, .func (PySem.W.fnOf "side_paper" "side_paper" (defArgs sSP) (defBody sSP) (defScope sSP) .none (.ref kdSP) dcSP pmSP anSP cdSP ctSP), slSP⟩)
    (cSP : PySem.W.codeIn K cdSP "side_paper" = true)
    (kkSP : PySem.W.keepIn K (.ref fSP) = true)
    (nSP : PySem.W.nsIn K kdSP "fixed" = some (some (.bool false)))
    (aIF : PySem.W.nsIn K mainGlobals "_is_fault" = some (some (.ref fIF)))
    (lIF : K.lookup fIF = some ⟨ocIF, odIF, .func (PySem.W.fnOf "_is_fault" "_is_fault" (defArgs sIF) (defBody sIF) (defScope sIF) .none kVIF dcIF pmIF anIF cdIF ctIF), slIF⟩)
    (cIF : PySem.W.codeIn K cdIF "_is_fault" = true)
    (kkIF : PySem.W.keepIn K (.ref fIF) = true)
    (aSHo : PySem.W.nsIn K mainGlobals "side_holds" = some (some (.ref fSHo)))
    (lSHo : K.lookup fSHo = some ⟨ocSHo, odSHo, .func (PySem.W.fnOf "side_holds" "side_holds" (defArgs sSHo) (defBody sSHo) (defScope sSHo) .none (.ref kdSHo) dcSHo pmSHo anSHo cdSHo ctSHo), slSHo⟩)
    (cSHo : PySem.W.codeIn K cdSHo "side_holds" = true)
    (kkSHo : PySem.W.keepIn K (.ref fSHo) = true)
    (nSHo : PySem.W.nsIn K kdSHo "fixed" = some (some (.bool false)))
    (aDraws : PySem.W.nsIn K mainGlobals "_law_draws" = some (some (.ref fDraws)))
    (lDraws : K.lookup fDraws = some ⟨ocDraws, odDraws, .func (PySem.W.fnOf "_law_draws" "_law_draws" (defArgs sDraws) (defBody sDraws) (defScope sDraws) .none kVDraws dcDraws pmDraws anDraws cdDraws ctDraws), slDraws⟩)
    (cDraws : PySem.W.codeIn K cdDraws "_law_draws" = true)
    (kkDraws : PySem.W.keepIn K (.ref fDraws) = true)
    (aTake : PySem.W.nsIn K mainGlobals "_law_take" = some (some (.ref fTake)))
    (lTake : K.lookup fTake = some ⟨ocTake, odTake, .func (PySem.W.fnOf "_law_take" "_law_take" (defArgs sTake) (defBody sTake) (defScope sTake) .none kVTake dcTake pmTake anTake cdTake ctTake), slTake⟩)
    (cTake : PySem.W.codeIn K cdTake "_law_take" = true)
    (kkTake : PySem.W.keepIn K (.ref fTake) = true)
    (aEvery : PySem.W.nsIn K mainGlobals "_law_every" = some (some (.ref fEvery)))
    (lEvery : K.lookup fEvery = some ⟨ocEvery, odEvery, .func (PySem.W.fnOf "_law_every" "_law_every" (defArgs sEvery) (defBody sEvery) (defScope sEvery) .none kVEvery dcEvery pmEvery anEvery cdEvery ctEvery), slEvery⟩)
    (cEvery : PySem.W.codeIn K cdEvery "_law_every" = true)
    (kkEvery : PySem.W.keepIn K (.ref fEvery) = true)
    (aAmount : PySem.W.nsIn K mainGlobals "_law_amount" = some (some (.ref fAmount)))
    (lAmount : K.lookup fAmount = some ⟨ocAmount, odAmount, .func (PySem.W.fnOf "_law_amount" "_law_amount" (defArgs sAmount) (defBody sAmount) (defScope sAmount) .none kVAmount dcAmount pmAmount anAmount cdAmount ctAmount), slAmount⟩)
    (cAmount : PySem.W.codeIn K cdAmount "_law_amount" = true)
    (kkAmount : PySem.W.keepIn K (.ref fAmount) = true)
    (aPlace : PySem.W.nsIn K mainGlobals "_law_place" = some (some (.ref fPlace)))
    (lPlace : K.lookup fPlace = some ⟨ocPlace, odPlace, .func (PySem.W.fnOf "_law_place" "_law_place" (defArgs sPlace) (defBody sPlace) (defScope sPlace) .none kVPlace dcPlace pmPlace anPlace cdPlace ctPlace), slPlace⟩)
    (cPlace : PySem.W.codeIn K cdPlace "_law_place" = true)
    (kkPlace : PySem.W.keepIn K (.ref fPlace) = true)
    (aCost : PySem.W.nsIn K mainGlobals "_law_cost" = some (some (.ref fCost)))
    (lCost : K.lookup fCost = some ⟨ocCost, odCost, .func (PySem.W.fnOf "_law_cost" "_law_cost" (defArgs sCost) (defBody sCost) (defScope sCost) .none kVCost dcCost pmCost anCost cdCost ctCost), slCost⟩)
    (cCost : PySem.W.codeIn K cdCost "_law_cost" = true)
    (kkCost : PySem.W.keepIn K (.ref fCost) = true)
    (aLPrice : PySem.W.nsIn K mainGlobals "_law_price" = some (some (.ref fLPrice)))
    (lLPrice : K.lookup fLPrice = some ⟨ocLPrice, odLPrice, .func (PySem.W.fnOf "_law_price" "_law_price" (defArgs sLPrice) (defBody sLPrice) (defScope sLPrice) .none kVLPrice dcLPrice pmLPrice anLPrice cdLPrice ctLPrice), slLPrice⟩)
    (cLPrice : PySem.W.codeIn K cdLPrice "_law_price" = true)
    (kkLPrice : PySem.W.keepIn K (.ref fLPrice) = true)
    (aLean : PySem.W.nsIn K mainGlobals "_law_leaning" = some (some (.ref fLean)))
    (lLean : K.lookup fLean = some ⟨ocLean, odLean, .func (PySem.W.fnOf "_law_leaning" "_law_leaning" (defArgs sLean) (defBody sLean) (defScope sLean) .none kVLean dcLean pmLean anLean cdLean ctLean), slLean⟩)
    (cLean : PySem.W.codeIn K cdLean "_law_leaning" = true)
    (kkLean : PySem.W.keepIn K (.ref fLean) = true)
    (aKB : PySem.W.nsIn K mainGlobals "_law_kind_book" = some (some (.ref fKB)))
    (lKB : K.lookup fKB = some ⟨ocKB, odKB, .func (PySem.W.fnOf "_law_kind_book" "_law_kind_book" (defArgs sKB) (defBody sKB) (defScope sKB) .none kVKB dcKB pmKB anKB cdKB ctKB), slKB⟩)
    (cKB : PySem.W.codeIn K cdKB "_law_kind_book" = true)
    (kkKB : PySem.W.keepIn K (.ref fKB) = true)
    (aLB : PySem.W.nsIn K mainGlobals "_law_book" = some (some (.ref fLB)))
    (lLB : K.lookup fLB = some ⟨ocLB, odLB, .func (PySem.W.fnOf "_law_book" "_law_book" (defArgs sLB) (defBody sLB) (defScope sLB) .none kVLB dcLB pmLB anLB cdLB ctLB), slLB⟩)
    (cLB : PySem.W.codeIn K cdLB "_law_book" = true)
    (kkLB : PySem.W.keepIn K (.ref fLB) = true)
    (aPO : PySem.W.nsIn K mainGlobals "_law_pairs_of" = some (some (.ref fPO)))
    (lPO : K.lookup fPO = some ⟨ocPO, odPO, .func (PySem.W.fnOf "_law_pairs_of" "_law_pairs_of" (defArgs sPO) (defBody sPO) (defScope sPO) .none kVPO dcPO pmPO anPO cdPO ctPO), slPO⟩)
    (cPO : PySem.W.codeIn K cdPO "_law_pairs_of" = true)
    (kkPO : PySem.W.keepIn K (.ref fPO) = true)
    (aBR : PySem.W.nsIn K mainGlobals "_law_breaks" = some (some (.ref fBR)))
    (lBR : K.lookup fBR = some ⟨ocBR, odBR, .func (PySem.W.fnOf "_law_breaks" "_law_breaks" (defArgs sBR) (defBody sBR) (defScope sBR) .none kVBR dcBR pmBR anBR cdBR ctBR), slBR⟩)
    (cBR : PySem.W.codeIn K cdBR "_law_breaks" = true)
    (kkBR : PySem.W.keepIn K (.ref fBR) = true)
    (aLF : PySem.W.nsIn K mainGlobals "_law_fault" = some (some (.ref fLF)))
    (lLF : K.lookup fLF = some ⟨ocLF, odLF, .func (PySem.W.fnOf "_law_fault" "_law_fault" (defArgs sLF) (defBody sLF) (defScope sLF) .none kVLF dcLF pmLF anLF cdLF ctLF), slLF⟩)
    (cLF : PySem.W.codeIn K cdLF "_law_fault" = true)
    (kkLF : PySem.W.keepIn K (.ref fLF) = true)
    (aLW : PySem.W.nsIn K mainGlobals "_law_words" = some (some (.ref fLW)))
    (lLW : K.lookup fLW = some ⟨ocLW, odLW, .func (PySem.W.fnOf "_law_words" "_law_words" (defArgs sLW) (defBody sLW) (defScope sLW) .none kVLW dcLW pmLW anLW cdLW ctLW), slLW⟩)
    (cLW : PySem.W.codeIn K cdLW "_law_words" = true)
    (kkLW : PySem.W.keepIn K (.ref fLW) = true)
    (aLK : PySem.W.nsIn K mainGlobals "_law_kinds" = some (some (.ref fLK)))
    (lLK : K.lookup fLK = some ⟨ocLK, odLK, .func (PySem.W.fnOf "_law_kinds" "_law_kinds" (defArgs sLK) (defBody sLK) (defScope sLK) .none kVLK dcLK pmLK anLK cdLK ctLK), slLK⟩)
    (cLK : PySem.W.codeIn K cdLK "_law_kinds" = true)
    (kkLK : PySem.W.keepIn K (.ref fLK) = true)
    (aLS : PySem.W.nsIn K mainGlobals "_law_side" = some (some (.ref fLS)))
    (lLS : K.lookup fLS = some ⟨ocLS, odLS, .func (PySem.W.fnOf "_law_side" "_law_side" (defArgs sLS) (defBody sLS) (defScope sLS) .none kVLS dcLS pmLS anLS cdLS ctLS), slLS⟩)
    (cLS : PySem.W.codeIn K cdLS "_law_side" = true)
    (kkLS : PySem.W.keepIn K (.ref fLS) = true)
    (aLN : PySem.W.nsIn K mainGlobals "_law_is_number" = some (some (.ref fLN)))
    (lLN : K.lookup fLN = some ⟨ocLN, odLN, .func (PySem.W.fnOf "_law_is_number" "_law_is_number" (defArgs sLN) (defBody sLN) (defScope sLN) .none kVLN dcLN pmLN anLN cdLN ctLN), slLN⟩)
    (cLN : PySem.W.codeIn K cdLN "_law_is_number" = true)
    (kkLN : PySem.W.keepIn K (.ref fLN) = true)
    (aLO : PySem.W.nsIn K mainGlobals "_law_is_row" = some (some (.ref fLO)))
    (lLO : K.lookup fLO = some ⟨ocLO, odLO, .func (PySem.W.fnOf "_law_is_row" "_law_is_row" (defArgs sLO) (defBody sLO) (defScope sLO) .none kVLO dcLO pmLO anLO cdLO ctLO), slLO⟩)
    (cLO : PySem.W.codeIn K cdLO "_law_is_row" = true)
    (kkLO : PySem.W.keepIn K (.ref fLO) = true)
    (aLH : PySem.W.nsIn K mainGlobals "_law_shows" = some (some (.ref fLH)))
    (lLH : K.lookup fLH = some ⟨ocLH, odLH, .func (PySem.W.fnOf "_law_shows" "_law_shows" (defArgs sLH) (defBody sLH) (defScope sLH) .none kVLH dcLH pmLH anLH cdLH ctLH), slLH⟩)
    (cLH : PySem.W.codeIn K cdLH "_law_shows" = true)
    (kkLH : PySem.W.keepIn K (.ref fLH) = true)
    (aLPa : PySem.W.nsIn K mainGlobals "_law_is_paper" = some (some (.ref fLPa)))
    (lLPa : K.lookup fLPa = some ⟨ocLPa, odLPa, .func (PySem.W.fnOf "_law_is_paper" "_law_is_paper" (defArgs sLPa) (defBody sLPa) (defScope sLPa) .none kVLPa dcLPa pmLPa anLPa cdLPa ctLPa), slLPa⟩)
    (cLPa : PySem.W.codeIn K cdLPa "_law_is_paper" = true)
    (kkLPa : PySem.W.keepIn K (.ref fLPa) = true)
    (aDP : PySem.W.nsIn K mainGlobals "_law_drawn_part" = some (some (.ref fDP)))
    (lDP : K.lookup fDP = some ⟨ocDP, odDP, .func (PySem.W.fnOf "_law_drawn_part" "_law_drawn_part" (defArgs sDP) (defBody sDP) (defScope sDP) .none kVDP dcDP pmDP anDP cdDP ctDP), slDP⟩)
    (cDP : PySem.W.codeIn K cdDP "_law_drawn_part" = true)
    (kkDP : PySem.W.keepIn K (.ref fDP) = true)
    (aBP : PySem.W.nsIn K mainGlobals "_law_bent_part" = some (some (.ref fBP)))
    (lBP : K.lookup fBP = some ⟨ocBP, odBP, .func (PySem.W.fnOf "_law_bent_part" "_law_bent_part" (defArgs sBP) (defBody sBP) (defScope sBP) .none kVBP dcBP pmBP anBP cdBP ctBP), slBP⟩)
    (cBP : PySem.W.codeIn K cdBP "_law_bent_part" = true)
    (kkBP : PySem.W.keepIn K (.ref fBP) = true)
    (aLBe : PySem.W.nsIn K mainGlobals "_law_bent" = some (some (.ref fLBe)))
    (lLBe : K.lookup fLBe = some ⟨ocLBe, odLBe, .func (PySem.W.fnOf "_law_bent" "_law_bent" (defArgs sLBe) (defBody sLBe) (defScope sLBe) .none kVLBe dcLBe pmLBe anLBe cdLBe ctLBe), slLBe⟩)
    (cLBe : PySem.W.codeIn K cdLBe "_law_bent" = true)
    (kkLBe : PySem.W.keepIn K (.ref fLBe) = true)
    (aLaw : PySem.W.nsIn K mainGlobals "law" = some (some (.ref fLaw)))
    (lLaw : K.lookup fLaw = some ⟨ocLaw, odLaw, .func (PySem.W.fnOf "law" "law" (defArgs sLaw) (defBody sLaw) (defScope sLaw) .none kVLaw dcLaw pmLaw anLaw cdLaw ctLaw), slLaw⟩)
    (cLaw : PySem.W.codeIn K cdLaw "law" = true)
    (kkLaw : PySem.W.keepIn K (.ref fLaw) = true)
    (gW : PySem.W.nsIn K mainGlobals "WORDS" = some (some (.ref aW)))
    (tW : K.lookup aW = some { cls := .type "tuple", dict := ddW, data := .seq itW nnW, slots := ssW })
    (vW : Vals (words5.map V.str) itW.toList)
    (zW : itW.size ≤ sizeLine)
    (gFW : PySem.W.nsIn K mainGlobals "FREE_WORDS" = some (some (.ref aFW)))
    (tFW : K.lookup aFW = some { cls := .type "tuple", dict := ddFW, data := .seq itFW nnFW, slots := ssFW })
    (vFW : Vals (free3.map V.str) itFW.toList)
    (zFW : itFW.size ≤ sizeLine)
    (gXW : PySem.W.nsIn K mainGlobals "FIXED_WORDS" = some (some (.ref aXW)))
    (tXW : K.lookup aXW = some { cls := .type "tuple", dict := ddXW, data := .seq itXW nnXW, slots := ssXW })
    (vXW : Vals (fixed3.map V.str) itXW.toList)
    (zXW : itXW.size ≤ sizeLine)
    (aPE2 : PySem.W.nsIn K mainGlobals "PriceError" = some (some (.ref pe)))
    (hn : PySem.W.specialIn K (.builtin "object.__class__") "__get__" = some (some (.builtin "getset_descriptor.__get__")))
    (ht : PySem.W.takesIn K (.builtin "object.__class__") = some true)
    (cPE2 : (PySem.W.clsIn K pe).isSome = true)
    (tPE2 : PySem.W.typeIn K (.ref pe) = some (.type "type"))
    (zlen : PySem.W.nsIn K mainGlobals "len" = some none)
    (zint : PySem.W.nsIn K mainGlobals "int" = some none)
    (zabs : PySem.W.nsIn K mainGlobals "abs" = some none)
    (zrange : PySem.W.nsIn K mainGlobals "range" = some none)
    (zisinstance : PySem.W.nsIn K mainGlobals "isinstance" = some none)
    (zbool : PySem.W.nsIn K mainGlobals "bool" = some none)
    (zlist : PySem.W.nsIn K mainGlobals "list" = some none)
    (ztuple : PySem.W.nsIn K mainGlobals "tuple" = some none)
    (zall : PySem.W.nsIn K mainGlobals "all" = some none)
    (zmin : PySem.W.nsIn K mainGlobals "min" = some none)
    (zmax : PySem.W.nsIn K mainGlobals "max" = some none)
    (zsum : PySem.W.nsIn K mainGlobals "sum" = some none)
    (zrepr : PySem.W.nsIn K mainGlobals "repr" = some none)
    (zzip : PySem.W.nsIn K mainGlobals "zip" = some none)
    (zenumerate : PySem.W.nsIn K mainGlobals "enumerate" = some none)
    (zsorted : PySem.W.nsIn K mainGlobals "sorted" = some none)
    (neU : CU ≠ pe)
    (neB : C ≠ CB)
    : ∃ fd : FuncData, (∀ (s : Shared) (v : Value), BindsTo s fd ⟨[v], []⟩ [("script", v)]) ∧ ∀ base : Heap, K.In base → base.Ns mainGlobals mg → FnG l.prog w K mg base CX0 14 fa fd ["script"] (spLaw K) := by
  have e := hfa.symm.trans (PySem.W.mg_of X G aLaw)
  cases e
  have FXU := fun_mk (st := sXU) lXU cXU kkXU
  have bXU := FXU.binds (ps := ["self", "what"]) fun _ _ _ _ _ _ us hl => match us, hl with | [_, _], _ => rfl
  have oCU : OexC K CU := ⟨⟨_, _, _, _, _, _, _, _, _, _, _, _, _, _, _, xLCU, rfl⟩, saCU, exc_of xLCU, tyCU, kpCU⟩
  have xCU : ExcC K CU := ⟨gaCU, ggCU, exc_of xLCU, hd_of xLCU, caCU, hn, ht, by rw [mro_of xLCU]; rfl⟩
  have ECU : Xe K CU pe := ⟨exm_own xLCU tyCU, kit_pe xLCU cPE2 tPE2 neU⟩
  have XCU : Xc K mg "Undefined" "what" CU := ⟨PySem.W.mg_of X G aCU, oCU, ⟨gaCU, ggCU, exc_of xLCU, hd_of xLCU⟩, xCU, noCU⟩
  have FPI := fun_mk (st := sPI) lPI cPI kkPI
  have bPI := FPI.binds (ps := ["self", "size", "amounts"]) fun _ _ _ _ _ _ us hl => match us, hl with | [_, _, _], _ => rfl
  have mPI : Meth K C "__init__" fPI := ⟨inPI, fnPI, kkPI⟩
  have FPC := fun_mk (st := sPC) lPC cPC kkPC
  have bPC := FPC.binds (ps := ["self", "row"]) fun _ _ _ _ _ _ us hl => match us, hl with | [_, _], _ => rfl
  have mPC : Meth K C "cost" fPC := ⟨inPC, fnPC, kkPC⟩
  have FBI := fun_mk (st := sBI) lBI cBI kkBI
  have bBI := FBI.binds (ps := ["self", "prices"]) fun _ _ _ _ _ _ us hl => match us, hl with | [_, _], _ => rfl
  have mBI : Meth K CB "__init__" fBI := ⟨inBI, fnBI, kkBI⟩
  have FBL := fun_mk (st := sBL) lBL cBL kkBL
  have bBL := FBL.binds (ps := ["self"]) fun _ _ _ _ _ _ us hl => match us, hl with | [_], _ => rfl
  have mBL : Meth K CB "__len__" fBL := ⟨inBL, fnBL, kkBL⟩
  have FII := fun_mk (st := sII) lII cII kkII
  have bII := FII.binds (ps := ["value"]) fun _ _ _ _ _ _ us hl => match us, hl with | [_], _ => rfl
  have gII : mg "is_integer" = some (.ref fII) := PySem.W.mg_of X G aII
  have FIB := fun_mk (st := sIB) lIB cIB kkIB
  have bIB := FIB.binds (ps := ["value", "limit"]) fun _ _ _ _ _ _ us hl => match us, hl with | [_, _], _ => rfl
  have gIB : mg "is_number_below" = some (.ref fIB) := PySem.W.mg_of X G aIB
  have FIV := fun_mk (st := sIV) lIV cIV kkIV
  have bIV := FIV.binds (ps := ["value"]) fun _ _ _ _ _ _ us hl => match us, hl with | [_], _ => rfl
  have gIV : mg "is_value" = some (.ref fIV) := PySem.W.mg_of X G aIV
  have FIS := fun_mk (st := sIS) lIS cIS kkIS
  have bIS := FIS.binds (ps := ["value"]) fun _ _ _ _ _ _ us hl => match us, hl with | [_], _ => rfl
  have gIS : mg "is_size" = some (.ref fIS) := PySem.W.mg_of X G aIS
  have FIQ := fun_mk (st := sIQ) lIQ cIQ kkIQ
  have bIQ := FIQ.binds (ps := ["value"]) fun _ _ _ _ _ _ us hl => match us, hl with | [_], _ => rfl
  have gIQ : mg "is_sequence" = some (.ref fIQ) := PySem.W.mg_of X G aIQ
  have FIR := fun_mk (st := sIR) lIR cIR kkIR
  have bIR := FIR.binds (ps := ["value", "size"]) fun _ _ _ _ _ _ us hl => match us, hl with | [_, _], _ => rfl
  have gIR : mg "is_row" = some (.ref fIR) := PySem.W.mg_of X G aIR
  have FRO := fun_mk (st := sRO) lRO cRO kkRO
  have bRO := FRO.binds (ps := ["size"]) fun _ _ _ _ _ _ us hl => match us, hl with | [_], _ => rfl
  have gRO : mg "rows_of" = some (.ref fRO) := PySem.W.mg_of X G aRO
  have FRN := fun_mk (st := sRN) lRN cRN kkRN
  have bRN := FRN.binds (ps := ["row"]) fun _ _ _ _ _ _ us hl => match us, hl with | [_], _ => rfl
  have gRN : mg "row_number" = some (.ref fRN) := PySem.W.mg_of X G aRN
  have FAA := fun_mk (st := sAA) lAA cAA kkAA
  have bAA := FAA.binds (ps := ["value", "size"]) fun _ _ _ _ _ _ us hl => match us, hl with | [_, _], _ => rfl
  have gAA : mg "_are_amounts" = some (.ref fAA) := PySem.W.mg_of X G aAA
  have FAR := fun_mk (st := sAR) lAR cAR kkAR
  have bAR := FAR.binds (ps := ["value"]) fun _ _ _ _ _ _ us hl => match us, hl with | [_], _ => rfl
  have gAR : mg "_are_prices" = some (.ref fAR) := PySem.W.mg_of X G aAR
  have FAO := fun_mk (st := sAO) lAO cAO kkAO
  have bAO := FAO.binds (ps := ["one", "other"]) fun _ _ _ _ _ _ us hl => match us, hl with | [_, _], _ => rfl
  have gAO : mg "and_of" = some (.ref fAO) := PySem.W.mg_of X G aAO
  have FOO := fun_mk (st := sOO) lOO cOO kkOO
  have bOO := FOO.binds (ps := ["one", "other"]) fun _ _ _ _ _ _ us hl => match us, hl with | [_, _], _ => rfl
  have gOO : mg "or_of" = some (.ref fOO) := PySem.W.mg_of X G aOO
  have FHM := fun_mk (st := sHM) lHM cHM kkHM
  have bHM := FHM.binds (ps := ["one", "other"]) fun _ _ _ _ _ _ us hl => match us, hl with | [_, _], _ => rfl
  have gHM : mg "has_one_more" = some (.ref fHM) := PySem.W.mg_of X G aHM
  have FRS := fun_mk (st := sRS) lRS cRS kkRS
  have bRS := FRS.binds (ps := ["word"]) fun _ _ _ _ _ _ us hl => match us, hl with | [_], _ => rfl
  have gRS : mg "rows_to_show" = some (.ref fRS) := PySem.W.mg_of X G aRS
  have FRW := fun_mk (st := sRW) lRW cRW kkRW
  have bRW := FRW.binds (ps := ["price", "word", "row"]) fun _ _ _ _ _ _ us hl => match us, hl with | [_, _, _], _ => rfl
  have gRW : mg "_row_shows" = some (.ref fRW) := PySem.W.mg_of X G aRW
  have FPW := fun_mk (st := sPW) lPW cPW kkPW
  have bPW := FPW.binds (ps := ["price", "word", "one", "other"]) fun _ _ _ _ _ _ us hl => match us, hl with | [_, _, _, _], _ => rfl
  have gPW : mg "_pair_shows" = some (.ref fPW) := PySem.W.mg_of X G aPW
  have FSH := fun_mk (st := sSH) lSH cSH kkSH
  have bSH := FSH.binds (ps := ["price", "word", "shown"]) fun _ _ _ _ _ _ us hl => match us, hl with | [_, _, _], _ => rfl
  have gSH : mg "shows" = some (.ref fSH) := PySem.W.mg_of X G aSH
  have FTM := fun_mk (st := sTM) lTM cTM kkTM
  have bTM := FTM.binds (ps := ["size", "word"]) fun _ _ _ _ _ _ us hl => match us, hl with | [_, _], _ => rfl
  have gTM : mg "_that_may_show" = some (.ref fTM) := PySem.W.mg_of X G aTM
  have FFO := fun_mk (st := sFO) lFO cFO kkFO
  have bFO := FFO.binds (ps := ["book", "word"]) fun _ _ _ _ _ _ us hl => match us, hl with | [_, _], _ => rfl
  have gFO : mg "fault_of" = some (.ref fFO) := PySem.W.mg_of X G aFO
  have FIK := fun_mk (st := sIK) lIK cIK kkIK
  have bIK := FIK.binds (ps := ["book", "word"]) fun _ _ _ _ _ _ us hl => match us, hl with | [_, _], _ => rfl
  have gIK : mg "is_kind" = some (.ref fIK) := PySem.W.mg_of X G aIK
  have FFK := fun_mk (st := sFK) lFK cFK kkFK
  have bFK := FFK.binds (ps := ["book"]) fun _ _ _ _ _ _ us hl => match us, hl with | [_], _ => rfl
  have gFK : mg "free_kinds" = some (.ref fFK) := PySem.W.mg_of X G aFK
  have FXK := fun_mk (st := sXK) lXK cXK kkXK
  have bXK := FXK.binds (ps := ["book"]) fun _ _ _ _ _ _ us hl => match us, hl with | [_], _ => rfl
  have gXK : mg "fixed_kinds" = some (.ref fXK) := PySem.W.mg_of X G aXK
  have FSW := fun_mk (st := sSW) lSW cSW kkSW
  have bSW := FSW.binds (ps := ["fixed"]) fun _ _ _ _ _ _ us hl => match us, hl with | [_], _ => rfl
  have gSW : mg "_words" = some (.ref fSW) := PySem.W.mg_of X G aSW
  have DSD : FunD K "side" "side" (defArgs sSD) (defBody sSD) (defScope sSD) [] [("fixed", V.bl false)] fSD _ := ⟨⟨_, _, _, _, _, _, _, _, _, _, rfl, lSD, cSD, .inl ⟨rfl, rfl⟩, .inr ⟨kdSD, rfl, fun q m => by rw [List.mem_singleton.mp m]; exact ⟨_, nSD, rfl⟩⟩⟩, kkSD⟩
  have knSD := kb_all DSD 1 ["fixed"] ["book", "fixed"] (fun D doc pm an cdv ct us ws l1 l2 => match us, ws, l1, l2 with | [_], [_], _, _ => rfl)
  have kwSD := kw_all DSD ["book", "fixed"] (fun D doc pm an cdv ct ws l2 => match ws, l2 with | [_, _], _ => rfl)
  obtain ⟨dsSD, vdSD, bSD⟩ := kb_dfl DSD 1 ["book", "fixed"] rfl (fun D doc pm an cdv ct us k l => match us, l with | [_], _ => ⟨_, _, _, _, _, _, rfl, rfl, rfl⟩)
  have gSD : mg "side" = some (.ref fSD) := PySem.W.mg_of X G aSD
  have DSP : FunD K "side_paper" "side_paper" (defArgs sSP) (defBody sSP) (defScope sSP) [] [("fixed", V.bl false)] fSP _ := ⟨⟨_, _, _, _, _, _, _, _, _, _, rfl, lSP, cSP, .inl ⟨rfl, rfl⟩, .inr ⟨kdSP, rfl, fun q m => by rw [List.mem_singleton.mp m]; exact ⟨_, nSP, rfl⟩⟩⟩, kkSP⟩
  have knSP := kb_all DSP 1 ["fixed"] ["book", "fixed"] (fun D doc pm an cdv ct us ws l1 l2 => match us, ws, l1, l2 with | [_], [_], _, _ => rfl)
  have kwSP := kw_all DSP ["book", "fixed"] (fun D doc pm an cdv ct ws l2 => match ws, l2 with | [_, _], _ => rfl)
  obtain ⟨dsSP, vdSP, bSP⟩ := kb_dfl DSP 1 ["book", "fixed"] rfl (fun D doc pm an cdv ct us k l => match us, l with | [_], _ => ⟨_, _, _, _, _, _, rfl, rfl, rfl⟩)
  have gSP : mg "side_paper" = some (.ref fSP) := PySem.W.mg_of X G aSP
  have FIF := fun_mk (st := sIF) lIF cIF kkIF
  have bIF := FIF.binds (ps := ["book", "word", "value"]) fun _ _ _ _ _ _ us hl => match us, hl with | [_, _, _], _ => rfl
  have gIF : mg "_is_fault" = some (.ref fIF) := PySem.W.mg_of X G aIF
  have DSHo : FunD K "side_holds" "side_holds" (defArgs sSHo) (defBody sSHo) (defScope sSHo) [] [("fixed", V.bl false)] fSHo _ := ⟨⟨_, _, _, _, _, _, _, _, _, _, rfl, lSHo, cSHo, .inl ⟨rfl, rfl⟩, .inr ⟨kdSHo, rfl, fun q m => by rw [List.mem_singleton.mp m]; exact ⟨_, nSHo, rfl⟩⟩⟩, kkSHo⟩
  have knSHo := kb_all DSHo 3 ["fixed"] ["book", "claim", "paper", "fixed"] (fun D doc pm an cdv ct us ws l1 l2 => match us, ws, l1, l2 with | [_, _, _], [_], _, _ => rfl)
  have kwSHo := kw_all DSHo ["book", "claim", "paper", "fixed"] (fun D doc pm an cdv ct ws l2 => match ws, l2 with | [_, _, _, _], _ => rfl)
  obtain ⟨dsSHo, vdSHo, bSHo⟩ := kb_dfl DSHo 3 ["book", "claim", "paper", "fixed"] rfl (fun D doc pm an cdv ct us k l => match us, l with | [_, _, _], _ => ⟨_, _, _, _, _, _, rfl, rfl, rfl⟩)
  have gSHo : mg "side_holds" = some (.ref fSHo) := PySem.W.mg_of X G aSHo
  have FDraws := fun_mk (st := sDraws) lDraws cDraws kkDraws
  have bDraws := FDraws.binds (ps := ["script", "many"]) fun _ _ _ _ _ _ us hl => match us, hl with | [_, _], _ => rfl
  have gDraws : mg "_law_draws" = some (.ref fDraws) := PySem.W.mg_of X G aDraws
  have FTake := fun_mk (st := sTake) lTake cTake kkTake
  have bTake := FTake.binds (ps := ["hand", "many"]) fun _ _ _ _ _ _ us hl => match us, hl with | [_, _], _ => rfl
  have gTake : mg "_law_take" = some (.ref fTake) := PySem.W.mg_of X G aTake
  have FEvery := fun_mk (st := sEvery) lEvery cEvery kkEvery
  have bEvery := FEvery.binds (ps := ["many"]) fun _ _ _ _ _ _ us hl => match us, hl with | [_], _ => rfl
  have gEvery : mg "_law_every" = some (.ref fEvery) := PySem.W.mg_of X G aEvery
  have FAmount := fun_mk (st := sAmount) lAmount cAmount kkAmount
  have bAmount := FAmount.binds (ps := ["hand", "wide"]) fun _ _ _ _ _ _ us hl => match us, hl with | [_, _], _ => rfl
  have gAmount : mg "_law_amount" = some (.ref fAmount) := PySem.W.mg_of X G aAmount
  have FPlace := fun_mk (st := sPlace) lPlace cPlace kkPlace
  have bPlace := FPlace.binds (ps := ["row"]) fun _ _ _ _ _ _ us hl => match us, hl with | [_], _ => rfl
  have gPlace : mg "_law_place" = some (.ref fPlace) := PySem.W.mg_of X G aPlace
  have FCost := fun_mk (st := sCost) lCost cCost kkCost
  have bCost := FCost.binds (ps := ["price", "row"]) fun _ _ _ _ _ _ us hl => match us, hl with | [_, _], _ => rfl
  have gCost : mg "_law_cost" = some (.ref fCost) := PySem.W.mg_of X G aCost
  have FLPrice := fun_mk (st := sLPrice) lLPrice cLPrice kkLPrice
  have bLPrice := FLPrice.binds (ps := ["hand", "size"]) fun _ _ _ _ _ _ us hl => match us, hl with | [_, _], _ => rfl
  have gLPrice : mg "_law_price" = some (.ref fLPrice) := PySem.W.mg_of X G aLPrice
  have FLean := fun_mk (st := sLean) lLean cLean kkLean
  have bLean := FLean.binds (ps := ["hand", "size", "kind"]) fun _ _ _ _ _ _ us hl => match us, hl with | [_, _, _], _ => rfl
  have gLean : mg "_law_leaning" = some (.ref fLean) := PySem.W.mg_of X G aLean
  have FKB := fun_mk (st := sKB) lKB cKB kkKB
  have bKB := FKB.binds (ps := ["hand"]) fun _ _ _ _ _ _ us hl => match us, hl with | [_], _ => rfl
  have gKB : mg "_law_kind_book" = some (.ref fKB) := PySem.W.mg_of X G aKB
  have FLB := fun_mk (st := sLB) lLB cLB kkLB
  have bLB := FLB.binds (ps := ["book"]) fun _ _ _ _ _ _ us hl => match us, hl with | [_], _ => rfl
  have gLB : mg "_law_book" = some (.ref fLB) := PySem.W.mg_of X G aLB
  have FPO := fun_mk (st := sPO) lPO cPO kkPO
  have bPO := FPO.binds (ps := ["price", "word"]) fun _ _ _ _ _ _ us hl => match us, hl with | [_, _], _ => rfl
  have gPO : mg "_law_pairs_of" = some (.ref fPO) := PySem.W.mg_of X G aPO
  have FBR := fun_mk (st := sBR) lBR cBR kkBR
  have bBR := FBR.binds (ps := ["price", "word", "one", "other"]) fun _ _ _ _ _ _ us hl => match us, hl with | [_, _, _, _], _ => rfl
  have gBR : mg "_law_breaks" = some (.ref fBR) := PySem.W.mg_of X G aBR
  have FLF := fun_mk (st := sLF) lLF cLF kkLF
  have bLF := FLF.binds (ps := ["book", "word"]) fun _ _ _ _ _ _ us hl => match us, hl with | [_, _], _ => rfl
  have gLF : mg "_law_fault" = some (.ref fLF) := PySem.W.mg_of X G aLF
  have FLW := fun_mk (st := sLW) lLW cLW kkLW
  have bLW := FLW.binds (ps := ["fixed"]) fun _ _ _ _ _ _ us hl => match us, hl with | [_], _ => rfl
  have gLW : mg "_law_words" = some (.ref fLW) := PySem.W.mg_of X G aLW
  have FLK := fun_mk (st := sLK) lLK cLK kkLK
  have bLK := FLK.binds (ps := ["book", "fixed"]) fun _ _ _ _ _ _ us hl => match us, hl with | [_, _], _ => rfl
  have gLK : mg "_law_kinds" = some (.ref fLK) := PySem.W.mg_of X G aLK
  have FLS := fun_mk (st := sLS) lLS cLS kkLS
  have bLS := FLS.binds (ps := ["book", "fixed"]) fun _ _ _ _ _ _ us hl => match us, hl with | [_, _], _ => rfl
  have gLS : mg "_law_side" = some (.ref fLS) := PySem.W.mg_of X G aLS
  have FLN := fun_mk (st := sLN) lLN cLN kkLN
  have bLN := FLN.binds (ps := ["value", "most"]) fun _ _ _ _ _ _ us hl => match us, hl with | [_, _], _ => rfl
  have gLN : mg "_law_is_number" = some (.ref fLN) := PySem.W.mg_of X G aLN
  have FLO := fun_mk (st := sLO) lLO cLO kkLO
  have bLO := FLO.binds (ps := ["value", "size"]) fun _ _ _ _ _ _ us hl => match us, hl with | [_, _], _ => rfl
  have gLO : mg "_law_is_row" = some (.ref fLO) := PySem.W.mg_of X G aLO
  have FLH := fun_mk (st := sLH) lLH cLH kkLH
  have bLH := FLH.binds (ps := ["book", "word", "value"]) fun _ _ _ _ _ _ us hl => match us, hl with | [_, _, _], _ => rfl
  have gLH : mg "_law_shows" = some (.ref fLH) := PySem.W.mg_of X G aLH
  have FLPa := fun_mk (st := sLPa) lLPa cLPa kkLPa
  have bLPa := FLPa.binds (ps := ["book", "words", "cut", "value"]) fun _ _ _ _ _ _ us hl => match us, hl with | [_, _, _, _], _ => rfl
  have gLPa : mg "_law_is_paper" = some (.ref fLPa) := PySem.W.mg_of X G aLPa
  have FDP := fun_mk (st := sDP) lDP cDP kkDP
  have bDP := FDP.binds (ps := ["hand", "book", "word"]) fun _ _ _ _ _ _ us hl => match us, hl with | [_, _, _], _ => rfl
  have gDP : mg "_law_drawn_part" = some (.ref fDP) := PySem.W.mg_of X G aDP
  have FBP := fun_mk (st := sBP) lBP cBP kkBP
  have bBP := FBP.binds (ps := ["hand", "book", "part"]) fun _ _ _ _ _ _ us hl => match us, hl with | [_, _, _], _ => rfl
  have gBP : mg "_law_bent_part" = some (.ref fBP) := PySem.W.mg_of X G aBP
  have FLBe := fun_mk (st := sLBe) lLBe cLBe kkLBe
  have bLBe := FLBe.binds (ps := ["hand", "book", "paper", "words"]) fun _ _ _ _ _ _ us hl => match us, hl with | [_, _, _, _], _ => rfl
  have gLBe : mg "_law_bent" = some (.ref fLBe) := PySem.W.mg_of X G aLBe
  have FLaw := fun_mk (st := sLaw) lLaw cLaw kkLaw
  have bLaw := FLaw.binds (ps := ["script"]) fun _ _ _ _ _ _ us hl => match us, hl with | [_], _ => rfl
  have B : Bt mg := ⟨PySem.W.mg_none_of X G zlen, PySem.W.mg_none_of X G zint, PySem.W.mg_none_of X G zabs, PySem.W.mg_none_of X G zrange, PySem.W.mg_none_of X G zisinstance, PySem.W.mg_none_of X G zbool, PySem.W.mg_none_of X G zlist, PySem.W.mg_none_of X G ztuple, PySem.W.mg_none_of X G zall, PySem.W.mg_none_of X G zmin, PySem.W.mg_none_of X G zmax, PySem.W.mg_none_of X G zsum, PySem.W.mg_none_of X G zrepr, PySem.W.mg_none_of X G zzip, PySem.W.mg_none_of X G zenumerate, PySem.W.mg_none_of X G zsorted⟩
  have T : Pc K mg C := ⟨PySem.W.mg_of X G aCl, ⟨pgC, hdC, poC, saC⟩, nSC, nAC⟩
  have TB : Bc K mg CB := ⟨PySem.W.mg_of X G aCBl, ⟨pgCB, hdCB, poCB, saCB⟩, nPCB⟩
  have e : Pe K C := ⟨caC, hn, ht, moC, ktC⟩
  have M : Mk K C fPI := ⟨mkC, inPI, fnPI, kpC⟩
  have MB : Mk K CB fBI := ⟨mkCB, inBI, fnBI, kpCB⟩
  have WW : Wt K mg "WORDS" aW words5 := ⟨PySem.W.mg_of X G gW, fun _ => .inr ⟨_, _, _, tW, rfl, rfl, zW, vW⟩⟩
  have WFW : Wt K mg "FREE_WORDS" aFW free3 := ⟨PySem.W.mg_of X G gFW, fun _ => .inr ⟨_, _, _, tFW, rfl, rfl, zFW, vFW⟩⟩
  have WXW : Wt K mg "FIXED_WORDS" aXW fixed3 := ⟨PySem.W.mg_of X G gXW, fun _ => .inr ⟨_, _, _, tXW, rfl, rfl, zXW, vXW⟩⟩
  have gPE2 : mg "PriceError" = some (.ref pe) := PySem.W.mg_of X G aPE2
  refine ⟨PySem.W.fnOf "law" "law" (defArgs sLaw) (defBody sLaw) (defScope sLaw) .none kVLaw dcLaw pmLaw anLaw cdLaw ctLaw, fun s v => .of_eq rfl, fun base _ _ => ?_⟩
  have GII := ok_II (P := l.prog) (w := w) (mg := mg) (base := base) FII B
  have GIB := ok_IB (P := l.prog) (w := w) (mg := mg) (base := base) FIB GII kkII bII gII
  have GIV := ok_IV (P := l.prog) (w := w) (mg := mg) (base := base) FIV GIB kkIB bIB gIB
  have GIS := ok_IS (P := l.prog) (w := w) (mg := mg) (base := base) FIS GII kkII bII gII
  have GIQ := ok_IQ (P := l.prog) (w := w) (mg := mg) (base := base) FIQ B
  have GIR := ok_IR (P := l.prog) (w := w) (mg := mg) (base := base) FIR B GIV kkIV bIV gIV
  have GRO := ok_RO (P := l.prog) (w := w) (mg := mg) (base := base) FRO B
  have GRN := ok_RN (P := l.prog) (w := w) (mg := mg) (base := base) FRN
  have GAA := ok_AA (P := l.prog) (w := w) (mg := mg) (base := base) FAA B GIQ kkIQ bIQ gIQ GII kkII bII gII
  have GXU := ok_XU (P := l.prog) (w := w) (mg := mg) (base := base) FXU
  have GPI := ok_PI0 (P := l.prog) (w := w) (mg := mg) (base := base) FPI T B GIS kkIS bIS gIS GAA kkAA bAA gAA
  have GPC := ok_PC0 (P := l.prog) (w := w) (mg := mg) (base := base) FPC T GIR kkIR bIR gIR GRN kkRN bRN gRN
  have GAR := ok_AR (P := l.prog) (w := w) (mg := mg) (base := base) FAR B T e GIQ kkIQ bIQ gIQ
  have GBI := ok_BI (P := l.prog) (w := w) (mg := mg) (base := base) FBI TB neB B GAR kkAR bAR gAR
  have GAO := ok_AO (P := l.prog) (w := w) (mg := mg) (base := base) FAO B
  have GOO := ok_OO (P := l.prog) (w := w) (mg := mg) (base := base) FOO B
  have GHM := ok_HM (P := l.prog) (w := w) (mg := mg) (base := base) FHM B GAO kkAO bAO gAO
  have GRS := ok_RS (P := l.prog) (w := w) (mg := mg) (base := base) FRS
  have GRW := ok_RW (P := l.prog) (w := w) (mg := mg) (base := base) FRW T GPC kkPC bPC mPC
  have GPW := ok_PW (P := l.prog) (w := w) (mg := mg) (base := base) FPW T GPC kkPC bPC mPC GAO kkAO bAO gAO GOO kkOO bOO gOO GHM kkHM bHM gHM
  have GSH := ok_SH (P := l.prog) (w := w) (mg := mg) (base := base) FSH GRS kkRS bRS gRS GRW kkRW bRW gRW GPW kkPW bPW gPW
  have GTM := ok_TM (P := l.prog) (w := w) (mg := mg) (base := base) FTM GRO kkRO bRO gRO GRS kkRS bRS gRS
  have GFO := ok_FO (P := l.prog) (w := w) (mg := mg) (base := base) FFO B T TB WW XCU inCU itCU GXU bXU GTM kkTM bTM gTM GSH kkSH bSH gSH
  have GIK := ok_IK (P := l.prog) (w := w) (mg := mg) (base := base) FIK GFO kkFO bFO gFO
  have GFK := ok_FK (P := l.prog) (w := w) (mg := mg) (base := base) FFK B WFW GIK kkIK bIK gIK
  have GXK := ok_XK (P := l.prog) (w := w) (mg := mg) (base := base) FXK B WXW GIK kkIK bIK gIK
  have GSW := ok_SW (P := l.prog) (w := w) (mg := mg) (base := base) FSW WFW WXW
  have GSD := ok_SD (P := l.prog) (w := w) (mg := mg) (base := base) DSD B GFK kkFK bFK gFK GXK kkXK bXK gXK
  have GSP := ok_SP (P := l.prog) (w := w) (mg := mg) (base := base) DSP B WFW WXW GSW kkSW bSW gSW GFO kkFO bFO gFO GSD kkSD gSD knSD
  have GBL := ok_BL (P := l.prog) (w := w) (mg := mg) (base := base) (C := C) FBL B TB
  have GIF := ok_IF2 (P := l.prog) (w := w) (mg := mg) (base := base) FIF B T TB GRS kkRS bRS gRS GIB kkIB bIB gIB GIR kkIR bIR gIR GSH kkSH bSH gSH GBL kkBL bBL inBL fnBL
  have GSHo := ok_SHo2 (P := l.prog) (w := w) (mg := mg) (base := base) DSHo B WFW WXW GSW kkSW bSW gSW GIF kkIF bIF gIF GSD kkSD gSD knSD
  have GDraws := ok_draws (P := l.prog) (w := w) (mg := mg) (base := base) FDraws B
  have GTake := ok_take (P := l.prog) (w := w) (mg := mg) (base := base) FTake B
  have GEvery := ok_every (P := l.prog) (w := w) (mg := mg) (base := base) FEvery B
  have GAmount := ok_amount (P := l.prog) (w := w) (mg := mg) (base := base) FAmount GTake kkTake bTake gTake
  have GLPrice := ok_lprice (P := l.prog) (w := w) (mg := mg) (base := base) FLPrice B GTake kkTake bTake gTake GEvery kkEvery bEvery gEvery GAmount kkAmount bAmount gAmount
  have GPlace := ok_place (P := l.prog) (w := w) (mg := mg) (base := base) FPlace
  have GPlaceL := ok_placeL (P := l.prog) (w := w) (mg := mg) (base := base) FPlace
  have GCost := ok_cost (P := l.prog) (w := w) (mg := mg) (base := base) FCost GPlace kkPlace bPlace gPlace
  have GCostL := ok_costL (P := l.prog) (w := w) (mg := mg) (base := base) FCost GPlaceL kkPlace bPlace gPlace
  have GLean := ok_Lean (P := l.prog) (w := w) (mg := mg) (base := base) FLean B GTake kkTake bTake gTake GEvery kkEvery bEvery gEvery GPlace kkPlace bPlace gPlace
  have GKB := ok_KB (P := l.prog) (w := w) (mg := mg) (base := base) FKB B GTake kkTake bTake gTake GLPrice kkLPrice bLPrice gLPrice GLean kkLean bLean gLean
  have GLB := ok_LB (P := l.prog) (w := w) (mg := mg) (base := base) FLB T TB neB M GPI bPI MB GBI bBI
  have GPO := ok_POf (P := l.prog) (w := w) (mg := mg) (base := base) FPO B GEvery kkEvery bEvery gEvery
  have GBR := ok_BR (P := l.prog) (w := w) (mg := mg) (base := base) FBR B GCost kkCost bCost gCost GCostL
  have GLF := ok_LF (P := l.prog) (w := w) (mg := mg) (base := base) FLF B GEvery kkEvery bEvery gEvery GCost kkCost bCost gCost GPO kkPO bPO gPO GBR kkBR bBR gBR
  have GLW := ok_LW (P := l.prog) (w := w) (mg := mg) (base := base) FLW
  have GLK := ok_LK (P := l.prog) (w := w) (mg := mg) (base := base) FLK B GLW kkLW bLW gLW GLF kkLF bLF gLF
  have GLS := ok_LS2 (P := l.prog) (w := w) (mg := mg) (base := base) FLS B GLK kkLK bLK gLK
  have GLN := ok_LN (P := l.prog) (w := w) (mg := mg) (base := base) FLN B
  have GLO := ok_LO (P := l.prog) (w := w) (mg := mg) (base := base) FLO B GLN kkLN bLN gLN
  have GLH := ok_LH (P := l.prog) (w := w) (mg := mg) (base := base) FLH B GLN kkLN bLN gLN GLO kkLO bLO gLO GCost kkCost bCost gCost GBR kkBR bBR gBR
  have GLPa := ok_LPa (P := l.prog) (w := w) (mg := mg) (base := base) FLPa B GLH kkLH bLH gLH
  have GEvF := ok_everyF (P := l.prog) (w := w) (mg := mg) (base := base) FEvery B
  have GDP := ok_DP (P := l.prog) (w := w) (mg := mg) (base := base) FDP B GTake kkTake bTake gTake GEvF kkEvery bEvery gEvery
  have GBP := ok_BP (P := l.prog) (w := w) (mg := mg) (base := base) FBP B GTake kkTake bTake gTake
  have GLBe := ok_LBe (P := l.prog) (w := w) (mg := mg) (base := base) FLBe B GTake kkTake bTake gTake GDP kkDP bDP gDP GBP kkBP bBP gBP
  exact ok_law FLaw B GDraws kkDraws bDraws gDraws GKB kkKB bKB gKB GLB kkLB bLB gLB GLW kkLW bLW gLW GLS kkLS bLS gLS GLPa kkLPa bLPa gLPa GDP kkDP bDP gDP GLBe kkLBe bLBe gLBe GSP kkSP gSP knSP bSP vdSP kwSP GSHo kkSHo gSHo knSHo bSHo vdSHo kwSHo
end CC

open PySem PySem.W PyProof.Rows
set_option maxHeartbeats 0 in
theorem PySem.Challenge.cw_cutorall_k13_papers_of_sides_holds : PySem.Challenge.rw_cutorall_k13_papers_of_sides.Holds := by
  w_on; o_law; k_head; (case hw => w_witness2)
  k_fill
  refine Ek.walk_ofG (l := PySem.Challenge.rw_cutorall_k13_papers_of_sides) (n := 63) (k := 14) (x := "script") (sp := CC.spLaw) rfl (by decide) rfl ⟨rfl, by decide, by decide⟩ (fun w h Y => PySem.W.kIn_of Y) ?F (fun _ _ a ns hl _ hS => ⟨a, ns, rfl, hS, hl, fun _ => rfl⟩)
  case F =>
    intro w mg fa h KX G hmg
    refine' CC.all_mk KX G hmg ?aCU ?xLCU ?saCU ?gaCU ?ggCU ?caCU ?tyCU ?kpCU ?noCU ?inCU ?itCU ?lXU ?cXU ?kkXU ?aCl ?pgC ?hdC ?poC ?saC ?mkC ?kpC ?nSC ?nAC ?aCBl ?pgCB ?hdCB ?poCB ?saCB ?mkCB ?kpCB ?nPCB ?caC ?moC ?ktC ?inPI ?fnPI ?lPI ?cPI ?kkPI ?inPC ?fnPC ?lPC ?cPC ?kkPC ?inBI ?fnBI ?lBI ?cBI ?kkBI ?inBL ?fnBL ?lBL ?cBL ?kkBL ?aII ?lII ?cII ?kkII ?aIB ?lIB ?cIB ?kkIB ?aIV ?lIV ?cIV ?kkIV ?aIS ?lIS ?cIS ?kkIS ?aIQ ?lIQ ?cIQ ?kkIQ ?aIR ?lIR ?cIR ?kkIR ?aRO ?lRO ?cRO ?kkRO ?aRN ?lRN ?cRN ?kkRN ?aAA ?lAA ?cAA ?kkAA ?aAR ?lAR ?cAR ?kkAR ?aAO ?lAO ?cAO ?kkAO ?aOO ?lOO ?cOO ?kkOO ?aHM ?lHM ?cHM ?kkHM ?aRS ?lRS ?cRS ?kkRS ?aRW ?lRW ?cRW ?kkRW ?aPW ?lPW ?cPW ?kkPW ?aSH ?lSH ?cSH ?kkSH ?aTM ?lTM ?cTM ?kkTM ?aFO ?lFO ?cFO ?kkFO ?aIK ?lIK ?cIK ?kkIK ?aFK ?lFK ?cFK ?kkFK ?aXK ?lXK ?cXK ?kkXK ?aSW ?lSW ?cSW ?kkSW ?aSD ?lSD ?cSD ?kkSD ?nSD ?aSP ?lSP ?cSP ?kkSP ?nSP ?aIF ?lIF ?cIF ?kkIF ?aSHo ?lSHo ?cSHo ?kkSHo ?nSHo ?aDraws ?lDraws ?cDraws ?kkDraws ?aTake ?lTake ?cTake ?kkTake ?aEvery ?lEvery ?cEvery ?kkEvery ?aAmount ?lAmount ?cAmount ?kkAmount ?aPlace ?lPlace ?cPlace ?kkPlace ?aCost ?lCost ?cCost ?kkCost ?aLPrice ?lLPrice ?cLPrice ?kkLPrice ?aLean ?lLean ?cLean ?kkLean ?aKB ?lKB ?cKB ?kkKB ?aLB ?lLB ?cLB ?kkLB ?aPO ?lPO ?cPO ?kkPO ?aBR ?lBR ?cBR ?kkBR ?aLF ?lLF ?cLF ?kkLF ?aLW ?lLW ?cLW ?kkLW ?aLK ?lLK ?cLK ?kkLK ?aLS ?lLS ?cLS ?kkLS ?aLN ?lLN ?cLN ?kkLN ?aLO ?lLO ?cLO ?kkLO ?aLH ?lLH ?cLH ?kkLH ?aLPa ?lLPa ?cLPa ?kkLPa ?aDP ?lDP ?cDP ?kkDP ?aBP ?lBP ?cBP ?kkBP ?aLBe ?lLBe ?cLBe ?kkLBe ?aLaw ?lLaw ?cLaw ?kkLaw ?gW ?tW ?vW ?zW ?gFW ?tFW ?vFW ?zFW ?gXW ?tXW ?vXW ?zXW ?aPE2 ?hn ?ht ?cPE2 ?tPE2 ?zlen ?zint ?zabs ?zrange ?zisinstance ?zbool ?zlist ?ztuple ?zall ?zmin ?zmax ?zsum ?zrepr ?zzip ?zenumerate ?zsorted ?neU ?neB
    (case aCU => k_is)
    (case xLCU => k_is)
    (case saCU => k_is)
    (case gaCU => k_is)
    (case ggCU => k_is)
    (case caCU => k_is)
    (case tyCU => k_is)
    (case kpCU => k_is)
    (case noCU => k_is)
    (case inCU => k_is)
    (case itCU => k_is)
    (case lXU => k_is)
    (case cXU => k_is)
    (case kkXU => k_is)
    (case aCl => k_is)
    (case pgC => (first | k_is | rfl | decide +kernel))
    (case hdC => (first | k_is | rfl | decide +kernel))
    (case poC => (first | k_is | rfl | decide +kernel))
    (case saC => k_is)
    (case mkC => (first | k_is | rfl | decide +kernel))
    (case kpC => k_is)
    (case nSC => k_is)
    (case nAC => k_is)
    (case aCBl => k_is)
    (case pgCB => (first | k_is | rfl | decide +kernel))
    (case hdCB => (first | k_is | rfl | decide +kernel))
    (case poCB => (first | k_is | rfl | decide +kernel))
    (case saCB => k_is)
    (case mkCB => (first | k_is | rfl | decide +kernel))
    (case kpCB => k_is)
    (case nPCB => k_is)
    (case caC => k_is)
    (case moC => (first | k_is | rfl | decide +kernel))
    (case ktC => (first | k_is | rfl | decide +kernel))
    (case inPI => k_is)
    (case fnPI => (first | k_is | rfl | decide +kernel))
    (case lPI => k_is)
    (case cPI => k_is)
    (case kkPI => k_is)
    (case inPC => k_is)
    (case fnPC => (first | k_is | rfl | decide +kernel))
    (case lPC => k_is)
    (case cPC => k_is)
    (case kkPC => k_is)
    (case inBI => k_is)
    (case fnBI => (first | k_is | rfl | decide +kernel))
    (case lBI => k_is)
    (case cBI => k_is)
    (case kkBI => k_is)
    (case inBL => k_is)
    (case fnBL => (first | k_is | rfl | decide +kernel))
    (case lBL => k_is)
    (case cBL => k_is)
    (case kkBL => k_is)
    (case aII => k_is)
    (case lII => k_is)
    (case cII => k_is)
    (case kkII => k_is)
    (case aIB => k_is)
    (case lIB => k_is)
    (case cIB => k_is)
    (case kkIB => k_is)
    (case aIV => k_is)
    (case lIV => k_is)
    (case cIV => k_is)
    (case kkIV => k_is)
    (case aIS => k_is)
    (case lIS => k_is)
    (case cIS => k_is)
    (case kkIS => k_is)
    (case aIQ => k_is)
    (case lIQ => k_is)
    (case cIQ => k_is)
    (case kkIQ => k_is)
    (case aIR => k_is)
    (case lIR => k_is)
    (case cIR => k_is)
    (case kkIR => k_is)
    (case aRO => k_is)
    (case lRO => k_is)
    (case cRO => k_is)
    (case kkRO => k_is)
    (case aRN => k_is)
    (case lRN => k_is)
    (case cRN => k_is)
    (case kkRN => k_is)
    (case aAA => k_is)
    (case lAA => k_is)
    (case cAA => k_is)
    (case kkAA => k_is)
    (case aAR => k_is)
    (case lAR => k_is)
    (case cAR => k_is)
    (case kkAR => k_is)
    (case aAO => k_is)
    (case lAO => k_is)
    (case cAO => k_is)
    (case kkAO => k_is)
    (case aOO => k_is)
    (case lOO => k_is)
    (case cOO => k_is)
    (case kkOO => k_is)
    (case aHM => k_is)
    (case lHM => k_is)
    (case cHM => k_is)
    (case kkHM => k_is)
    (case aRS => k_is)
    (case lRS => k_is)
    (case cRS => k_is)
    (case kkRS => k_is)
    (case aRW => k_is)
    (case lRW => k_is)
    (case cRW => k_is)
    (case kkRW => k_is)
    (case aPW => k_is)
    (case lPW => k_is)
    (case cPW => k_is)
    (case kkPW => k_is)
    (case aSH => k_is)
    (case lSH => k_is)
    (case cSH => k_is)
    (case kkSH => k_is)
    (case aTM => k_is)
    (case lTM => k_is)
    (case cTM => k_is)
    (case kkTM => k_is)
    (case aFO => k_is)
    (case lFO => k_is)
    (case cFO => k_is)
    (case kkFO => k_is)
    (case aIK => k_is)
    (case lIK => k_is)
    (case cIK => k_is)
    (case kkIK => k_is)
    (case aFK => k_is)
    (case lFK => k_is)
    (case cFK => k_is)
    (case kkFK => k_is)
    (case aXK => k_is)
    (case lXK => k_is)
    (case cXK => k_is)
    (case kkXK => k_is)
    (case aSW => k_is)
    (case lSW => k_is)
    (case cSW => k_is)
    (case kkSW => k_is)
    (case aSD => k_is)
    (case lSD => k_is)
    (case cSD => k_is)
    (case kkSD => k_is)
    (case nSD => k_is)
    (case aSP => k_is)
    (case lSP => k_is)
    (case cSP => k_is)
    (case kkSP => k_is)
    (case nSP => k_is)
    (case aIF => k_is)
    (case lIF => k_is)
    (case cIF => k_is)
    (case kkIF => k_is)
    (case aSHo => k_is)
    (case lSHo => k_is)
    (case cSHo => k_is)
    (case kkSHo => k_is)
    (case nSHo => k_is)
    (case aDraws => k_is)
    (case lDraws => k_is)
    (case cDraws => k_is)
    (case kkDraws => k_is)
    (case aTake => k_is)
    (case lTake => k_is)
    (case cTake => k_is)
    (case kkTake => k_is)
    (case aEvery => k_is)
    (case lEvery => k_is)
    (case cEvery => k_is)
    (case kkEvery => k_is)
    (case aAmount => k_is)
    (case lAmount => k_is)
    (case cAmount => k_is)
    (case kkAmount => k_is)
    (case aPlace => k_is)
    (case lPlace => k_is)
    (case cPlace => k_is)
    (case kkPlace => k_is)
    (case aCost => k_is)
    (case lCost => k_is)
    (case cCost => k_is)
    (case kkCost => k_is)
    (case aLPrice => k_is)
    (case lLPrice => k_is)
    (case cLPrice => k_is)
    (case kkLPrice => k_is)
    (case aLean => k_is)
    (case lLean => k_is)
    (case cLean => k_is)
    (case kkLean => k_is)
    (case aKB => k_is)
    (case lKB => k_is)
    (case cKB => k_is)
    (case kkKB => k_is)
    (case aLB => k_is)
    (case lLB => k_is)
    (case cLB => k_is)
    (case kkLB => k_is)
    (case aPO => k_is)
    (case lPO => k_is)
    (case cPO => k_is)
    (case kkPO => k_is)
    (case aBR => k_is)
    (case lBR => k_is)
    (case cBR => k_is)
    (case kkBR => k_is)
    (case aLF => k_is)
    (case lLF => k_is)
    (case cLF => k_is)
    (case kkLF => k_is)
    (case aLW => k_is)
    (case lLW => k_is)
    (case cLW => k_is)
    (case kkLW => k_is)
    (case aLK => k_is)
    (case lLK => k_is)
    (case cLK => k_is)
    (case kkLK => k_is)
    (case aLS => k_is)
    (case lLS => k_is)
    (case cLS => k_is)
    (case kkLS => k_is)
    (case aLN => k_is)
    (case lLN => k_is)
    (case cLN => k_is)
    (case kkLN => k_is)
    (case aLO => k_is)
    (case lLO => k_is)
    (case cLO => k_is)
    (case kkLO => k_is)
    (case aLH => k_is)
    (case lLH => k_is)
    (case cLH => k_is)
    (case kkLH => k_is)
    (case aLPa => k_is)
    (case lLPa => k_is)
    (case cLPa => k_is)
    (case kkLPa => k_is)
    (case aDP => k_is)
    (case lDP => k_is)
    (case cDP => k_is)
    (case kkDP => k_is)
    (case aBP => k_is)
    (case lBP => k_is)
    (case cBP => k_is)
    (case kkBP => k_is)
    (case aLBe => k_is)
    (case lLBe => k_is)
    (case cLBe => k_is)
    (case kkLBe => k_is)
    (case aLaw => k_is)
    (case lLaw => k_is)
    (case cLaw => k_is)
    (case kkLaw => k_is)
    (case gW => k_is)
    (case tW => k_is)
    (case vW => exact .cons ⟨_, rfl⟩ (.cons ⟨_, rfl⟩ (.cons ⟨_, rfl⟩ (.cons ⟨_, rfl⟩ (.cons ⟨_, rfl⟩ (.nil))))))
    (case zW => decide +kernel)
    (case gFW => k_is)
    (case tFW => k_is)
    (case vFW => exact .cons ⟨_, rfl⟩ (.cons ⟨_, rfl⟩ (.cons ⟨_, rfl⟩ (.nil))))
    (case zFW => decide +kernel)
    (case gXW => k_is)
    (case tXW => k_is)
    (case vXW => exact .cons ⟨_, rfl⟩ (.cons ⟨_, rfl⟩ (.cons ⟨_, rfl⟩ (.nil))))
    (case zXW => decide +kernel)
    (case aPE2 => k_is)
    (case hn => k_is)
    (case ht => k_is)
    (case cPE2 => (first | k_is | rfl | decide +kernel))
    (case tPE2 => k_is)
    (case zlen => k_is)
    (case zint => k_is)
    (case zabs => k_is)
    (case zrange => k_is)
    (case zisinstance => k_is)
    (case zbool => k_is)
    (case zlist => k_is)
    (case ztuple => k_is)
    (case zall => k_is)
    (case zmin => k_is)
    (case zmax => k_is)
    (case zsum => k_is)
    (case zrepr => k_is)
    (case zzip => k_is)
    (case zenumerate => k_is)
    (case zsorted => k_is)
    (case neU => decide)
    (case neB => decide)

