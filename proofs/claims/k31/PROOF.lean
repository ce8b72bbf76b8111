import PyProof.Rows.All
import Wide.All
import OpenK.AllK
import Wide.FinOn
import HandS.ForMost
import HandS.ForExc
import HandS.ExcInit
import HandS.ExcIs
import HandS.IsInst
import HandS.Defaults
import HandS.MakeKwOnly
import HandS.Flow
import KE.KExcIs
import HandS.ExcField
import HandS.OwnEq
import HandS.TupMul
import HandS.TupAny
import HandS.Style
import HandS.CallSlots
import KE.DataMinMax
import HandS.RaiseMore
import HandS.TryOnly
import PyProof.Rows.ReprOcc
import HandS.Exc
import HandS.Zip
import HandS.Deep
import KE.SortData
import KE.GoesMore
import KE.KTupSum
import KE.DataFind
import HandS.Conv
import HandS.DictTup
import HandS.DictSubView
import KE.KDictKeyed
import HandS.More
import KE.KDictSum
import HandS.SetFor
import HandS.Strs
import HandS.Walk
import HandS.TupLe
import HandS.TupLen
import PySem.Challenge.RW_cutorall_k31_least_over_helpers
set_option Elab.async false
set_option linter.all false
set_option maxRecDepth 100000
set_option maxHeartbeats 4000000
namespace Ek
open PySem PySem.W PySem.Calls PyProof.Rows PySem.HandSPX
section
variable {prog : Program} {w : World} {A : Around} {E : Value → Shared → Prop} {R : Result → Shared → Prop} {h : Heap} {g : Array GenState} {d : Drawn} {t : Nat} {os : OsState}
variable {nm q : Str} {C N fI : Addr} {bs bm bmB : List Value} {hdct : Bool} {sn : List Str} {sub : List Value} {ab : Bool} {col : Option Bool} {dd : Option Addr} {k0 k1 k2 k3 k5 : Option Value} {B newId initId : String}
/-- the check ahead of an own exception's making, keywords or none -/
theorem chk_kw (F : ExcBaseFacts B newId initId bmB) (hT : ∀ X : String, bm.contains (.type X) = bmB.contains (.type X)) {us : List Value} {kw : List (Str × Value)} {Q : Unit → Shared → Prop}
    (hC : h.get? C = some (excClassObj nm q C N bs bm hdct sn sub ab col dd k0 k1 k2 k3 k5 newId)) (z : Q () ⟨h, g, d, t, os⟩) : wpAny (model prog w) A (checkBuiltinCall newId ⟨.ref C :: us, kw⟩) Q E ⟨h, g, d, t, os⟩ := by
  have isB : (Value.ref C :: bm).contains (.type B) = true := by rw [List.contains_cons, hT, F.hasB, Bool.or_true]
  have st := F.noStar
  simp only [checkBuiltinCall, F.newKind, F.newSplit, F.newRow]
  repeat (first | (refine wpAny_isSubtype_exc hC ?_; rw [isB]) | refine wpAny_staticBase_exc hC ?_ | refine wpAny_madeBy_exc hC ?_ | refine wpAny_loadPart_at hC ?_ | simp only [bne_self_eq_false, Bool.false_eq_true, if_false] | wp_step)
  exact z
/-- what is laid: the tuple of the values by place, the exception -/
def laid (h : Heap) (C : Addr) (us : List Value) : Heap := (h.push (W.kdv_tup us)).push (excO C h.objs.size)
theorem new_kw (F : ExcBaseFacts B newId initId bmB) (hT : ∀ X : String, bm.contains (.type X) = bmB.contains (.type X)) {us : List Value} {kw : List (Str × Value)} (hC : h.get? C = some (excClassObj nm q C N bs bm hdct sn sub ab col dd k0 k1 k2 k3 k5 newId))
    (hz : us.length ≤ sizeLine) (z : R (.ok (.ret (.ref (h.objs.size + 1)))) ⟨laid h C us, g, d, t, os⟩) : codeAny (model prog w) A (.builtin newId ⟨.ref C :: us, kw⟩) R ⟨h, g, d, t, os⟩ := by
  have en := F.ends
  have isB : (Value.ref C :: bm).contains (.type B) = true := by rw [List.contains_cons, hT, F.hasB, Bool.or_true]
  have isA : (Value.ref C :: bm).contains (.type "AttributeError") = false := by rw [List.contains_cons, hT, F.noAttr]; rfl
  have isN : (Value.ref C :: bm).contains (.type "NameError") = false := by rw [List.contains_cons, hT, F.noName]; rfl
  refine codeAny_builtinAt F.entry ?_
  unfold Builtin.«BaseException.__new__»
  refine PySem.wpAt_bind ?_
  show PySem.wpAt _ _ _ (stack >>= _) _ _ _
  refine PySem.wpAt_bind (PySem.wpAt_stack fun p below => PySem.wpAt_of_wpAny ?_)
  wp_walk
  refine PySem.wpAt_of_wpAny ?_
  rw [F.owner]
  repeat (first | (with_reducible refine wpAny_isSubtype_exc hC ?_; first | rw [isB] | rw [isA] | rw [isN]) | with_reducible refine wpAny_madeHere_exc F.canon hC ?_ | with_reducible refine wpAny_loadPart_at hC ?_ | wp_step)
  show R _ _
  rw [Heap.size_push]
  exact z
theorem made_kw (F : ExcBaseFacts B newId initId bmB) (hT : ∀ X : String, bm.contains (.type X) = bmB.contains (.type X)) {us : List Value} {kw : List (Str × Value)} {Q : Fin → Shared → Prop} (hC : h.get? C = some (excClassObj nm q C N bs bm hdct sn sub ab col dd k0 k1 k2 k3 k5 newId))
    (hi : W.Looks (model prog w) h (typeLookup (.ref C) "__init__") (some (.ref fI))) (hb : ∀ self, W.Looks (model prog w) h (bindSpecial (.ref fI) self) (.ref fI, [self])) (hz : us.length ≤ sizeLine)
    (y : codeAny (model prog w) A (.call (.ref fI) ⟨.ref (h.objs.size + 1) :: us, kw⟩) (fun r s' => match r with | .ok (.ret v) => v = .none ∧ Q (.done (.ret (.ref (h.objs.size + 1)))) s' | .ok _ => False | .error e => E e s') ⟨laid h C us, g, d, t, os⟩) :
    wpAny (model prog w) A (Builtin.«type.__call__» ⟨.ref C :: us, kw⟩) Q E ⟨h, g, d, t, os⟩ := by
  repeat (first | with_reducible refine wpAny_madeBy_exc hC ?_ | with_reducible refine wpAny_loadPart_at hC ?_ | wp_step)
  refine codeAny_call_builtin_code (Code.quiet_builtin _ F.quiet) (chk_kw F hT hC (new_kw F hT hC hz (show wpAny _ _ _ _ _ _ from ?_)))
  have k : ∀ b o, h.get? b = some o → (laid h C us).get? b = some o := fun b o e => Heap.get?_push_of_some _ (Heap.get?_push_of_some _ e)
  have hx : (laid h C us).get? (h.objs.size + 1) = some (excO C h.objs.size) := by unfold laid; heap_get
  have isC : (Value.ref C :: bm).contains (.ref C) = true := by simp
  unfold isInstance
  repeat (first | (with_reducible refine wpAny_isSubtype_exc (k _ _ hC) ?_; rw [isC]) | with_reducible refine wpAny_loadPart_at hx ?_ | wp_step)
  refine (show wpAny _ _ (typeLookup (.ref C) _) _ _ _ from (hi.keeps k).at (wpAny_holding (wpAny_bind (((hb (.ref (h.objs.size + 1))).keeps k).at (wpAny_bind (wpAny_call (codeAny_mono y fun r s' z => ?_)))))))
  rcases r with e | (v | _ | _ | _) <;> first | exact z | exact z.elim | skip
  obtain ⟨rfl, z⟩ := z
  first | exact wpAny_pure (wpAny_pure z) | (wp_walk; exact z)
/-- C(.., k = v, ..) of an own exception class with its own __init__ -/
theorem call_kw (F : ExcBaseFacts B newId initId bmB) (hT : ∀ X : String, bm.contains (.type X) = bmB.contains (.type X)) {us : List Value} {kw : List (Str × Value)} (hC : h.get? C = some (excClassObj nm q C N bs bm hdct sn sub ab col dd k0 k1 k2 k3 k5 newId))
    (hi : W.Looks (model prog w) h (typeLookup (.ref C) "__init__") (some (.ref fI))) (hb : ∀ self, W.Looks (model prog w) h (bindSpecial (.ref fI) self) (.ref fI, [self])) (hz : us.length ≤ sizeLine)
    (y : codeAny (model prog w) (A.under (.builtin "type.__call__" ⟨.ref C :: us, kw⟩)) (.call (.ref fI) ⟨.ref (h.objs.size + 1) :: us, kw⟩) (W.InitBack (h.objs.size + 1) R) ⟨laid h C us, g, d, t, os⟩) :
    codeAny (model prog w) A (.call (.ref C) ⟨us, kw⟩) R ⟨h, g, d, t, os⟩ := by
  have f1 := tc_lookup
  have f2 := tc_bind (.ref C)
  have ty : (⟨h, g, d, t, os⟩ : Shared).TypeIs (.ref C) "type" := ⟨_, hC, rfl⟩
  refine codeAny_of_tree (show wpAny _ _ (callAny (.ref C) _) _ _ _ from ?_)
  repeat (any_goals (first | with_reducible refine wpAny_loadPart_at hC ?_ | assumption | wp_step))
  refine ⟨rfl, codeAny_call_builtin_at (Code.quiet_builtin _ (by decide +kernel)) entry_typeCall (wpAny_check_type_call_sub hC (made_kw F hT hC hi hb hz (codeAny_mono y fun r s' z => ?_)))⟩
  rcases r with e | (v | _ | _ | _) <;> exact z
end
end Ek

namespace Ek
open PySem PySem.Spec PyProof.Rows L2
/-! ### own exceptions as values -/
/-- at a: an exception of the class at C that has the fields fs -/
def XA (H : Hp) (a C : Addr) (fs : List (Str × V)) : Prop := ∃ d, H a = some (exo a C (some d)) ∧ H d = some (exd d fs)
/-- C(..), its own __init__ keeping sp -/
def tEx (C : Addr) (sp : Sp) (ta : TA) : TE := fun σ H Q => ta σ H fun vs H1 => vs.length ≤ 1000 ∧ ∀ a, H1 a = none → sp (.ref a :: vs) (upd H1 a (exo a C none)) (fun v H2 => v = .non ∧ Q (.ref a) H2) E0
section
variable {X : Cx} {CX : CXT} {x : Str} {C fI : Addr} {k : Nat} {fd : FuncData} {ps ks : List Str} {sp : Sp} {p pos : Pos} {e : Expr} {es : List Expr} {kws : List Keyword} {ta : TA}
theorem run_ex {pins : List (Addr × Obj)} {σ : L2.St} {H : Hp} {s : Shared} {Q : VK} {us all : List Value} {kw : List (Str × Value)} {vs : List V} (T : OexC X.K C) (iC : PySem.W.findIn X.K (.ref C) "__init__" = some (some (.ref fI))) (tI : PySem.W.typeIn X.K (.ref fI) = some (.type "function"))
    (F : FnOk X.prog X.w X.K X.mg X.base CX k fI fd ps sp) (hr : Room (k + 1) X.A) (hb : ∀ (s : Shared) (self : Value), X.K.In s.heap → BindsTo s fd ⟨self :: us, kw⟩ (ps.zip (self :: all))) (hx : Passes CX X E0) (I : Inv X pins σ H s) (hz : us.length ≤ sizeLine) (r : Vals vs all)
    (h : ∀ a, H a = none → sp (.ref a :: vs) (upd H a (exo a C none)) (fun v H2 => v = .non ∧ Q (.ref a) H2) E0) : wpAny (model X.prog X.w) X.A (call (.ref C) us kw) (EP X pins σ Q) X.xe s := by
  obtain ⟨nm, q, N, bs, bm, sn, sub, ab, col, dd, k0, k1, k2, k3, k5, hC, hbm⟩ := T.cls
  obtain ⟨hp, g, dr, tk, os⟩ := s
  have sz : hp.objs.size ≤ hp.objs.size + 1 := Nat.le_succ _
  have hq := h (hp.objs.size + 1) (I.hok.fresh sz)
  have kk : ∀ b o, hp.get? b = some o → (laid hp C us).get? b = some o := fun b o e => Heap.get?_push_of_some _ (Heap.get?_push_of_some _ e)
  have gx : (laid hp C us).get? (hp.objs.size + 1) = some (PySem.HandSPX.excO C hp.objs.size) := by unfold laid; heap_get
  have I2 : Inv X pins σ (upd H (hp.objs.size + 1) (exo (hp.objs.size + 1) C none)) ⟨laid hp C us, g, dr, tk, os⟩ := I.laid (t' := tk) (a := hp.objs.size + 1) (o := exo (hp.objs.size + 1) C none) (h' := laid hp C us) kk sz (exo_ok gx)
  refine wpAny_call (call_kw PySem.F.excBase_ValueError (fun Y => PySem.HandSPX.refsVE_contains Y bm hbm) (I.kIn _ _ hC) (PySem.W.looks_findIn I.kIn iC) (fun self => PySem.W.bind_fn I.kIn self tI) hz
    (codeAny_mono (F.run _ X.stack _ _ ⟨Value.ref (hp.objs.size + 1) :: us, kw⟩ (Value.ref (hp.objs.size + 1) :: all) _ _ E0 (hr.make C us kw) (I2.env0.make C us kw) (hb _ _ I2.kIn) (show Vals (V.ref (hp.objs.size + 1) :: vs) (Value.ref (hp.objs.size + 1) :: all) from .cons rfl r) hq) fun r s' z => ?_))
  cases r with
  | error er => exact hx pins σ _ _ er s' I2 z
  | ok fl =>
    cases fl with
    | ret u =>
      obtain ⟨v, H2, I3, rv, ev, q3⟩ := I2.after z
      subst ev
      exact ⟨rv, ⟨V.ref (hp.objs.size + 1), H2, I3, rfl, q3⟩⟩
    | next => exact False.elim z
    | brk => exact False.elim z
    | cont => exact False.elim z
/-- C(e, ..) as a value -/
theorem pe_ex (T : OexC X.K C) (iC : PySem.W.findIn X.K (.ref C) "__init__" = some (some (.ref fI))) (tI : PySem.W.typeIn X.K (.ref fI) = some (.type "function")) (F : FnOk X.prog X.w X.K X.mg X.base CX k fI fd ps sp) (hr : Room (k + 1) X.A) (hg : Gl X x) (hm : X.mg x = some (.ref C))
    (hb : Binds X.K fd ps []) (hx : Passes CX X E0) (ha : PA X (e :: es) ta) (hdb : (x == ("__debug__" : Str)) = false := by decide)
    (he : starEach (e :: es) X.env = (false, eval e X.env) :: starEach es X.env := by rfl) (hpl : (backTo pos (starEach es X.env)).any (·.1) = false := by rfl) : PE X (.Call (.Name x p) (e :: es) [] pos) (tEx C sp ta) := by
  refine ⟨fun pins s σ H Q I h => ?_⟩
  refine wpAny_Call_Name_kw (ld_glob I hg hm ?_ hdb)
  refine PySem.W.callWith_K (h₀ := X.base) I.ok.mod.kin T.kC (thn (ha.run pos pins s σ H _ I h) fun us s1 ⟨vs, H1, I1, r, hz, q⟩ => ⟨I1.kIn, ?_⟩) he hpl
  have hl : ∀ self : Value, ((self :: us) ++ []).length = ps.length := fun self => by
    have z := F.len _ _ _ _ (q (s1.heap.objs.size) (I1.hok.fresh (Nat.le_refl _)))
    rw [← z, List.append_nil, List.length_cons, List.length_cons, ← r.length]
  refine run_ex (all := us) (kw := []) T iC tI F hr (fun s2 self KX => ?_) hx I1 (by show us.length ≤ sizeLine; rw [← r.length, sizeLine_eq]; omega) r q
  have z := hb s2 (self :: us) KX (hl self)
  rw [List.append_nil] at z
  exact z
/-- C(k = v, ..) as a value -/
theorem pe_exk (T : OexC X.K C) (iC : PySem.W.findIn X.K (.ref C) "__init__" = some (some (.ref fI))) (tI : PySem.W.typeIn X.K (.ref fI) = some (.type "function")) (F : FnOk X.prog X.w X.K X.mg X.base CX k fI fd ps sp) (hr : Room (k + 1) X.A)
    (hg : Gl X x) (hm : X.mg x = some (.ref C)) (hps : ps.length = ks.length + 1) (hb : ∀ (s : Shared) (self : Value) (ws : List Value), ws.length = ks.length → BindsTo s fd ⟨[self], ks.zip ws⟩ (ps.zip (self :: ws))) (hx : Passes CX X E0) (hkw : PK X kws ta)
    (hall : (backToKw pos (keywordEach kws X.env)).all (·.1.isSome) = true := by rfl) (hks : (backToKw pos (keywordEach kws X.env)).filterMap (·.1) = ks := by rfl) (hdb : (x == ("__debug__" : Str)) = false := by decide)
    (hpl : ((backTo pos (starEach [] X.env)).any (·.1) || (backToKw pos (keywordEach kws X.env)).any (·.1.isNone)) = false := by rfl) :
    PE X (.Call (.Name x p) [] kws pos) (tEx C sp ta) := by
  refine ⟨fun pins s σ H Q I h => ?_⟩
  refine wpAny_Call_Name_kw (ld_glob I hg hm ?_ hdb)
  refine PySem.W.callWith_KW0 (h₀ := X.base) I.ok.mod.kin T.kC hall ?_ hpl
  refine thn (hkw.run pos pins s σ H _ I h) fun ws s2 ⟨zs, H2, I2, rz, hz, q2⟩ => ⟨I2.kIn, ?_⟩
  rw [hks]
  have hl : ws.length = ks.length := by
    have z := F.len _ _ _ _ (q2 (s2.heap.objs.size) (I2.hok.fresh (Nat.le_refl _)))
    rw [← rz.length]
    exact Nat.succ.inj (z.trans hps)
  exact run_ex (us := []) (all := ws) T iC tI F hr (fun s3 self _ => hb s3 self ws hl) hx I2 (Nat.zero_le _) rz q2
/-- e.f of such an exception -/
def tXA (K : PySem.W.Frag) (f : Str) (te : TE) : TE := fun σ H Q => te σ H fun x H1 => ∃ a C fs v, x = .ref a ∧ XfC K C ∧ PySem.W.findIn K (.ref C) f = some none ∧ XA H1 a C fs ∧ fs.lookup f = some v ∧ Q v H1
theorem pe_xa {n : Str} {te : TE} (he : PE X e te) (hb : attributeBase e n X.env (eval e X.env) = eval e X.env := by rfl) : PE X (.Attribute e n pos) (tXA X.K n te) := by
  refine ⟨fun pins s σ H Q I h => ?_⟩
  refine attr_of hb (thn (he.run pins s σ H _ I h) fun u s1 ⟨x, H1, I1, rx, a, C, fs, v, ex, T, hno, ⟨d, ha, hd⟩, l, q⟩ => ?_)
  subst ex
  obtain rfl : u = Value.ref a := rx
  obtain ⟨t1, ho⟩ := exo_at I1.hok ha
  obtain ⟨mA, hns, rel⟩ := exd_at I1.hok hd
  obtain ⟨od, hod, hl⟩ := lookIn_ns hns
  obtain ⟨u, hu, ru⟩ := RelO.some_of (v := v) (o := mA n) (by rw [← l]; exact rel n)
  have J : PySem.W.InstAt s1.heap a { cls := .ref C, dict := some d, data := .fields #[.ref t1, .none, .none, .none, .bool false, .none] } C (some od) := ⟨ho, rfl, rfl, hod⟩
  exact HandSPX.exc_get I1.kIn J T.ga T.gg T.exC (PySem.W.findObj_own T.hdC hno rfl (by rw [hl, hu])) (handed_of ru) ⟨v, H1, I1.tok _, ru, q⟩
/-- isinstance(e, c), e such an exception -/
def rIsX (K : PySem.W.Frag) : List V → Hp → VK → Prop := fun xs H Q => ∃ (a C : Addr) (fs : List (Str × V)) (c : V) (u : Value) (b : Bool), xs = [.ref a, c] ∧ XA H a C fs ∧ ExcC K C ∧ ClsV c u ∧ PySem.W.kitOne K (.ref C) u = some b ∧ Q (.bl b) H
theorem call_isX : CallR X (.builtin "isinstance") (rIsX X.K) := by
  intro pins s σ H xs us Q I r h
  obtain ⟨a, D, fs, c, u, b, rfl, ⟨d, ha, hd⟩, C, k, e, q⟩ := h
  obtain ⟨u1, u2, rfl, r1, r2⟩ := vals2 r
  have e2 := k.eq r2
  subst e2
  obtain rfl : u1 = Value.ref a := r1
  obtain ⟨t1, ho⟩ := exo_at I.hok ha
  obtain ⟨mA, hns, rel⟩ := exd_at I.hok hd
  obtain ⟨od, hod, hl⟩ := lookIn_ns hns
  have J : PySem.W.InstAt s.heap a { cls := .ref D, dict := some d, data := .fields #[.ref t1, .none, .none, .none, .bool false, .none] } D (some od) := ⟨ho, rfl, rfl, hod⟩
  have hcl : (PySem.W.clsIn X.K D).isSome = true := by
    obtain ⟨cd, hc, _⟩ := PySem.W.any_some C.hd
    rw [hc]
    rfl
  exact PySem.W.kia_one (PySem.W.kitx_exc hcl C.hg C.hk C.hs C.ha C.hn C.ht C.hm) I.kIn J e (fun z => nomatch z) fun tk => ⟨.bl b, H, I.kept (t' := tk) fun _ _ z => z, rfl, q⟩
end
/-! ### repr of data -/
/-- what repr may be asked of -/
def Okd (d : PyData) : Prop := d.showable = true ∧ d.hasDict = false ∧ d.depth ≤ 32 ∧ d.shown.length ≤ 1000000
def rRepr (K : PySem.W.Frag) : List V → Hp → VK → Prop := fun xs H Q => ∃ x d, xs = [x] ∧ Dp K H x d ∧ isDisplay d = true ∧ Okd d ∧ Q (.str d.shown) H
section
variable {X : Cx}
theorem call_repr (hg : X.A.guards = some []) (hu : X.A.units + 64 < cLine) : CallR X (.builtin "repr") (rRepr X.K) := by
  intro pins s σ H xs us Q I r h
  obtain ⟨x, d, rfl, hd, hdis, ⟨h1, h2, h3, h4⟩, q⟩ := h
  obtain ⟨u, rfl, ru⟩ := vals1 r
  obtain ⟨as, hr⟩ := Dp.reads I d x u hd ru
  obtain ⟨a, rfl⟩ := isRef_of_reads hr hdis
  exact repr_of_reads' hr h1 (PyData.noDict_hsm h2) hg (by omega) (fun _ _ e => e) (fun h' u tk hk => ⟨.str d.shown, H, I.kept (t' := tk) hk, ⟨u, rfl⟩, q⟩) (by rw [sizeLine_eq]; omega)
end
end Ek

namespace Ek
open PySem PySem.Spec PyProof.Rows L2
/-! ### promises of defs that are called while nothing is being shown (so that repr may be asked) -/
structure FnG (P : Program) (w : World) (K : PySem.W.Frag) (mg : Str → Option Value) (base : Heap) (CX : CXT) (k : Nat) (f : Addr) (fd : FuncData) (ps : List Str) (sp : Sp) : Prop where
  len : ∀ vs H Q E, sp vs H Q E → vs.length = ps.length
  run : ∀ (A : Around) (outer : List Env) (s : Shared) (H : Hp) (args : Args) (us : List Value) (vs : List V) (Q : VK) (E : XK), Room k A → A.guards = some [] → Env0 P w K mg base A outer s H →
    BindsTo s fd args (ps.zip us) → Vals vs us → sp vs H Q E → codeAny (model P w) A (.call (.ref f) args) (CR CX outer P w H s Q E) s
section
variable {P : Program} {w : World} {K : PySem.W.Frag} {mg : Str → Option Value} {base : Heap} {CX : CXT} {k : Nat} {f : Addr} {fd : FuncData} {ps : List Str} {sp : Sp}
theorem FnG.mono {j : Nat} (F : FnG P w K mg base CX j f fd ps sp) (h : j ≤ k) : FnG P w K mg base CX k f fd ps sp := ⟨F.len, fun A outer s H args us vs Q E hr => F.run A outer s H args us vs Q E (hr.mono h)⟩
/-- a def by its body -/
theorem okGX {x qual : Str} {st : Stmt} {N : List Str} (F : Fun K x qual st f fd) (S : FnScope N ps (defScope st)) (len : ∀ vs H Q E, sp vs H Q E → vs.length = ps.length)
    (body : ∀ (cdv : Value) (A : Around) (outer : List Env) (s : Shared) (H : Hp) (vs : List V) (Q : VK) (E : XK), Room k (A.deeper (envOfC qual (defScope st) s.heap.objs.size f cdv)) → A.guards = some [] → sp vs H Q E →
      ∃ t, PSs (cxOf CX P w K mg base N qual (defScope st) f cdv A outer s H E) (defBody st) t ∧ t { nx := fun _ H' => Q .non H', rt := Q } (start N vs) H) : FnG P w K mg base CX (k + 1) f fd ps sp := by
  obtain ⟨oc, od, kV, doc, pm, an, cdv, ct, osl, rfl, lk, hcd⟩ := F.ex
  constructor
  · exact len
  intro A outer s H args us vs Q E hr gd e0 hb r hsp
  have KX : K.In s.heap := e0.mod.kin.keeps fun b o e => (e0.bs b o e).1
  have kd : ∀ y ∈ ps.zip us, (defScope st).names.lookup y.1 = some .local ∨ ((defScope st).names.lookup y.1 = some .cell ∧ ((cellsFrom (s.heap.objs.size + 1) (defScope st).names []).lookup y.1).isSome = true) := by
    rintro ⟨n, v⟩ hy
    exact (S.par n (List.of_mem_zip hy).1).imp id fun q => ⟨q, PySem.W.cellsFrom_some _ _ _ (.inl q)⟩
  refine codeAny_call_function hr.depth (KX _ _ lk) rfl S.co S.gen rfl (PySem.W.codeRec_of KX hcd) (hb _ _ _ _ (wpAny_newFunctionEnv_cells S.kind kd fun env he s1 x => ?_))
  subst he
  obtain ⟨t, ht, hq⟩ := body cdv A outer s H vs Q E (hr.deeper _) gd hsp
  refine ⟨(e0.mod.nolimit.keeps fun b o e => (e0.bs b o e).1).keeps x.toInCall.keep, codeAny_func (wpAny_mono (ht.run [] s1 _ _ _ (inv_start S hr.hd e0 (len _ _ _ _ hsp) r x) hq) (fun fl s' hs => ?_) fun e s' hs => hs)⟩
  rcases fl with _ | _ | _ | u
  · obtain ⟨σ', H', J, q⟩ := hs
    exact ⟨V.non, H', J.os, J.bare, J.base, J.hok, rfl, q⟩
  · exact False.elim (by obtain ⟨_, _, _, q⟩ := hs; exact q)
  · exact False.elim (by obtain ⟨_, _, _, q⟩ := hs; exact q)
  · obtain ⟨v, σ', H', J, rv, q⟩ := hs
    exact ⟨v, H', J.os, J.bare, J.base, J.hok, rv, q⟩
theorem okG {x qual : Str} {st : Stmt} {N : List Str} (F : Fun K x qual st f fd) (S : FnScope N ps (defScope st)) (len : ∀ vs H Q E, sp vs H Q E → vs.length = ps.length)
    (body : ∀ (cdv : Value) (A : Around) (outer : List Env) (s : Shared) (H : Hp) (vs : List V) (Q : VK) (E : XK), Room k (A.deeper (envOfC qual (defScope st) s.heap.objs.size f cdv)) → A.guards = some [] → sp vs H Q E →
      ∃ t, PSs (cxOf CX0 P w K mg base N qual (defScope st) f cdv A outer s H E).nox (defBody st) t ∧ t { nx := fun _ H' => Q .non H', rt := Q } (start N vs) H) : FnG P w K mg base CX0 (k + 1) f fd ps sp :=
  okGX F S len fun cdv A outer s H vs Q E hr gd hsp => by
    obtain ⟨t, h, q⟩ := body cdv A outer s H vs Q E hr gd hsp
    exact ⟨t, h.nox, q⟩
end
section
variable {X : Cx} {CX : CXT} {x : Str} {f : Addr} {k : Nat} {fd : FuncData} {ps : List Str} {sp : Sp} {E : XK} {ds : List Value} {dvs : List V} {p pos : Pos} {e : Expr} {es : List Expr} {t : TA}
/-- f(e, ..) of such a def -/
theorem pe_callG (F : FnG X.prog X.w X.K X.mg X.base CX k f fd ps sp) (hr : Room k X.A) (gd : X.A.guards = some []) (hg : Gl X x) (hm : X.mg x = some (.ref f)) (hk : PySem.W.keepIn X.K (.ref f) = true) (hb : Binds X.K fd ps ds) (hd : Vals dvs ds) (hx : Passes CX X E) (ha : PA X (e :: es) t)
    (hdb : (x == ("__debug__" : Str)) = false := by decide) (he : starEach (e :: es) X.env = (false, eval e X.env) :: starEach es X.env := by rfl) (hpl : (backTo pos (starEach es X.env)).any (·.1) = false := by rfl) : PE X (.Call (.Name x p) (e :: es) [] pos) (tCall sp dvs E t) := by
  constructor
  intro pins s σ H Q I h
  refine wpAny_Call_Name_kw (ld_glob I hg hm (PySem.W.callWith_K (h₀ := X.base) I.ok.mod.kin hk (thn (ha.run pos pins s σ H _ I h) fun us s1 ⟨vs, H1, I1, r, q⟩ => ⟨I1.kIn, ?_⟩) he hpl) hdb)
  have r2 := r.append hd
  have hl : (us ++ ds).length = ps.length := r2.length.symm.trans (F.len _ _ _ _ q)
  refine wpAny_call (codeAny_mono (F.run X.A X.stack s1 H1 ⟨us, []⟩ (us ++ ds) (vs ++ dvs) Q E hr gd I1.env0 (hb s1 us I1.kIn hl) r2 q) fun r s' z => ?_)
  rcases r with er | (_ | _ | _ | u)
  · exact hx pins σ H1 s1 er s' I1 z
  · exact False.elim z
  · exact False.elim z
  · exact False.elim z
  · exact I1.after z
/-- less asked, the same said -/
theorem imp {e : Expr} {te te' : TE} (h : PE X e te) (i : ∀ σ H Q, te' σ H Q → te σ H Q) : PE X e te' := ⟨fun pins s σ H Q I q => h.run pins s σ H Q I (i σ H Q q)⟩
end
/-! ### the law's call -/
theorem law_callG {P : Program} {w : World} {K : PySem.W.Frag} {mg mb : Str → Option Value} {k : Nat} {fa a : Addr} {fd : FuncData} {x : Str} {sp : Sp} {s : Shared} {vs : List Value} {ns : List Int} (KX : K.In s.heap) (gl : s.heap.Ns mainGlobals mg) (bl : s.heap.Ns builtinsNs mb)
    (bb : ∀ x : Str, x ≠ "__name__" → mb x = bootBuiltins x) (lim : s.heap.NoLimit) (hg : s.gens = #[]) (ha : s.heap.get? a = some { cls := .type "list", data := .seq vs.toArray }) (hi : IntsAre vs ns) (hl : ns.length ≤ sizeLine) (hr : Room k callerA)
    (F : ∀ base : Heap, K.In base → base.Ns mainGlobals mg → FnG P w K mg base CX0 k fa fd [x] sp) (hb : ∀ (s : Shared) (u : Value), BindsTo s fd ⟨[u], []⟩ [(x, u)])
    (hsp : ∀ H : Hp, Only H → SqL K H a (ns.map V.int) → sp [.ref a] H (fun v _ => v = .bl true) fun _ _ _ => False) :
    codeAny (model P w) callerA (.call (.ref fa) ⟨[.ref a], []⟩) (fun r s' => r = .ok (.ret (.bool true)) ∧ OldK s.heap s'.heap ∧ s'.os = s.os ∧ AllBare s'.gens) s := by
  have core : ∀ H : Hp, Only H → SqL K H a (ns.map V.int) → HOk P w H s.heap → (∀ b u, H b = some u → b = a ∧ K.lookup a = none) →
      codeAny (model P w) callerA (.call (.ref fa) ⟨[.ref a], []⟩) (fun r s' => r = .ok (.ret (.bool true)) ∧ OldK s.heap s'.heap ∧ s'.os = s.os ∧ AllBare s'.gens) s := fun H hO hS ok one => by
    have free : ∀ b, b ≠ a → H b = none := fun b hb => by
      cases q : H b with
      | none => rfl
      | some u => exact absurd (one b u q).1 hb
    have dct : ∀ {b : Addr} {o : Obj} {es : Array DictEntry} {ep : Nat}, s.heap.get? b = some o → o.data = .dict es ep → H b = none := fun {b o es ep} e d => free b fun z => by
      rw [z, ha] at e
      cases e
      exact nomatch d
    have nsK : ∀ {b : Addr} {m : Str → Option Value}, s.heap.Ns b m → (hidT s.heap H).Ns b m := fun {b m} ⟨o, es, ep, e, d, r⟩ => ⟨o, es, ep, hidT_get e (dct e d), d, r⟩
    have kb : K.In (hidT s.heap H) := fun b o e => hidT_get (KX b o e) (by
      cases q : H b with
      | none => rfl
      | some u =>
        obtain ⟨rfl, z⟩ := one b u q
        rw [z] at e
        exact nomatch e)
    have md : Mod K mg (hidT s.heap H) := ⟨kb, nsK gl, ⟨mb, nsK bl, bb⟩, by obtain ⟨mc, h1, h2⟩ := lim; exact ⟨mc, nsK h1, h2⟩⟩
    have e0 : Env0 P w K mg (hidT s.heap H) callerA [] s H := ⟨rfl, md, fun b o e => of_hidT e, Nat.le_of_eq (hidT_size _ _), trivial, (fun b hb => by have z : b ∈ ([] : List Addr) := hb; cases z), ok, .of_eq hg⟩
    refine codeAny_mono ((F _ kb (nsK gl)).run callerA [] s H ⟨[.ref a], []⟩ [.ref a] [.ref a] _ _ hr rfl e0 (hb s (.ref a)) (.cons rfl .nil) (hsp H hO hS)) fun r s' h => ?_
    rcases r with e | (_ | _ | _ | u)
    · exact False.elim h
    · exact False.elim h
    · exact False.elim h
    · exact False.elim h
    · obtain ⟨v, H', os, bare, un, ok', r', q⟩ := h
      obtain rfl : v = .bl true := q
      obtain rfl : u = Value.bool true := r'
      refine ⟨rfl, OldK.of_keep fun b o e => ?_, os, bare⟩
      cases q : H b with
      | none => exact un.keep b o e q (by intro z; have z' : b ∈ ([] : List Addr) := z; cases z') (by simp)
      | some u =>
        rcases hO b with z | ⟨ob, xs, z⟩
        · rw [q] at z
          cases z
        · obtain ⟨e1, _⟩ := ok b _ z
          obtain ⟨e2, _⟩ := ok' b _ (un.frzs b ob _ z)
          rw [← e1, e] at *
          exact e2
  cases hk : K.lookup a with
  | some o =>
    have e := KX a o hk
    rw [ha] at e
    cases e
    exact core (fun _ => none) (fun _ => .inl rfl) (.inr ⟨_, vs.toArray, _, hk, rfl, rfl, rfl, by rw [List.size_toArray, hi.length]; exact hl, by simpa using vals_ints hi⟩) (fun b u z => nomatch (show (none : Option HO) = some u from z)) fun b u z => nomatch (show (none : Option HO) = some u from z)
  | none =>
    have pos : ∀ {b : Addr} {u : HO}, (if b = a then some (HO.frz { cls := .type "list", data := .seq vs.toArray } (.lst (ns.map V.int))) else none) = some u → b = a ∧ HO.frz { cls := .type "list", data := .seq vs.toArray } (.lst (ns.map V.int)) = u := fun {b u} z => by
      by_cases hb : b = a
      · rw [if_pos hb] at z
        exact ⟨hb, Option.some.inj z⟩
      · rw [if_neg hb] at z
        cases z
    refine core (fun b => if b = a then some (.frz { cls := .type "list", data := .seq vs.toArray } (.lst (ns.map V.int))) else none) (fun b => ?_) (.inl (.inr ⟨_, if_pos rfl⟩)) (fun b u z => ?_) fun b u z => ⟨(pos z).1, hk⟩
    · by_cases hb : b = a
      · exact .inr ⟨_, _, if_pos hb⟩
      · exact .inl (if_neg hb)
    · obtain ⟨rfl, rfl⟩ := pos z
      exact ⟨ha, by rw [List.length_map]; exact hl, vs, _, vals_ints hi, ha⟩
theorem walk_ofG {l : PySem.W.OpenLaw} {n k : Nat} {q : Program} {loose : List Str} {XP : (Str → Option Value) → Heap → Prop} {YP : World → Heap → Prop} {d : DefRec} {K : Params → PySem.W.Frag} {sp : PySem.W.Frag → Sp} {x : Str} (hn : l.most = some n) (hn2 : n ≤ sizeLine) (hdf : d.params.defaults = [])
    (hr : Room k callerA) (hY : ∀ (w : World) (h : Heap), YP w h → (K w.params).In h)
    (F : ∀ (w : World) (mg : Str → Option Value) (fa : Addr) (h : Heap), (K w.params).In h → h.Ns mainGlobals mg → mg d.name = some (.ref fa) → ∃ fd : FuncData, (∀ (s : Shared) (u : Value), BindsTo s fd ⟨[u], []⟩ [(x, u)]) ∧
      ∀ base : Heap, (K w.params).In base → base.Ns mainGlobals mg → FnG l.prog w (K w.params) mg base CX0 k fa fd [x] (sp (K w.params)))
    (hsp : ∀ (K : PySem.W.Frag) (H : Hp) (a : Addr) (ns : List Int), ns.length ≤ n → Only H → SqL K H a (ns.map V.int) → sp K [.ref a] H (fun v _ => v = .bl true) fun _ _ _ => False) : PySem.W.WalkO q loose XP YP l.row.toRowW d [] (fun f vs => PySem.call f vs) := by
  refine Att.attach_call hn hdf fun w s₀ s₁ mg mb fa o pm cd doc a vs ns G Y ho hd hcd hmg hobj hints hlen hg => ?_
  obtain ⟨fd, hb, hF⟩ := F w mg fa _ (hY w _ Y) G.T.g hmg
  exact law_callG (hY w _ Y) G.T.g G.T.b G.T.builtins G.T.nolimit hg hobj hints (Nat.le_trans hlen hn2) hr hF hb fun H hO hS => hsp _ H a ns hlen hO hS
end Ek

namespace Ek
open PySem PySem.Spec PyProof.Rows L2
/-! ### heaps and places -/
theorem at_z {α : Type} {xs : List α} {z : Int} {j : Nat} {v : α} (e : z = (j : Int)) (h : xs[j]? = some v) : atI xs z = some v := by
  rw [e]
  exact atI_nat h
theorem ix_z {n : Nat} {z : Int} {j : Nat} (e : z = (j : Int)) (h : j < n) : ixN n z = some j := by
  unfold ixN
  rw [e, if_pos (by omega), if_pos (by omega)]
  simp
theorem in64 {x n : Int} (hn : 0 < n ∧ n < 2147483648) : -(2 ^ 64) < x % n ∧ x % n < 2 ^ 64 := by
  have a := Int.emod_nonneg x (show n ≠ 0 by omega)
  have b := Int.emod_lt_of_pos x hn.1
  constructor
  · exact Int.lt_of_lt_of_le (by decide) a
  · exact Int.lt_trans (Int.lt_trans b hn.2) (by decide)
theorem same_upd {H : Hp} {p : Addr} {o : HO} (h : H p = none) : Same H (upd H p o) := fun b x e => by
  rw [upd_ne (ne_of_none e h)]
  exact e
theorem sl {K : PySem.W.Frag} {H : Hp} {a : Addr} {xs : List V} (h : H a = some (.lst xs)) : SqL K H a xs := .inl (.inl h)
theorem tl {K : PySem.W.Frag} {H : Hp} {a : Addr} {xs : List V} (h : H a = some (.tup xs)) : SqT K H a xs := .inl (.inl h)
/-- all but the hand is as it was -/
def Kp (h : Addr) (H H' : Hp) : Prop := ∀ b o, b ≠ h → H b = some o → H' b = some o
theorem Kp.refl {h : Addr} {H : Hp} : Kp h H H := fun _ _ _ e => e
theorem Kp.trans {h : Addr} {H H1 H2 : Hp} (a : Kp h H H1) (b : Kp h H1 H2) : Kp h H H2 := fun c o n e => b c o n (a c o n e)
theorem Kp.of {h : Addr} {H H1 : Hp} (a : Same H H1) : Kp h H H1 := fun c o _ e => a c o e
/-- the hand: a list of the drawn numbers and the place of the next -/
def Hd (H : Hp) (h : Addr) : Prop := ∃ (d : Addr) (ds : List Int) (t : Nat), H h = some (.lst [.ref d, .int (t : Int)]) ∧ H d = some (.lst (ds.map V.int)) ∧ d ≠ h ∧ ∀ x ∈ ds, 0 ≤ x
theorem Hd.same {H H' : Hp} {h : Addr} (s : Same H H') (x : Hd H h) : Hd H' h := by
  obtain ⟨d, ds, t, h1, h2, n, p⟩ := x
  exact ⟨d, ds, t, s _ _ h1, s _ _ h2, n, p⟩
theorem Hd.ne {H : Hp} {h b : Addr} (x : Hd H h) (e : H b = none) : b ≠ h := fun z => by
  obtain ⟨d, ds, t, h1, _⟩ := x
  rw [z, h1] at e
  cases e
theorem Hd.ns {H : Hp} {h b : Addr} {o : HO} (x : Hd H h) (e : H b = some o) (n : ∀ d t, o ≠ .lst [.ref d, .int t]) : b ≠ h := fun z => by
  obtain ⟨d, ds, t, h1, _⟩ := x
  rw [z, h1] at e
  exact n _ _ (Option.some.inj e).symm
/-! ### what a display of exceptions leaves -/
theorem XA.mono {H H' : Hp} {a C : Addr} {fs : List (Str × V)} (s : Same H H') (x : XA H a C fs) : XA H' a C fs := by
  obtain ⟨d, h1, h2⟩ := x
  exact ⟨d, s _ _ h1, s _ _ h2⟩
/-- exceptions at es, of these classes, with these fields -/
abbrev XAs (H : Hp) (es : List Addr) (cfs : List (Addr × List (Str × V))) : Prop := Paired (fun e (cf : Addr × List (Str × V)) => XA H e cf.1 cf.2) es cfs
theorem XAs.mono {H H' : Hp} {es : List Addr} {cfs : List (Addr × List (Str × V))} (s : Same H H') (x : XAs H es cfs) : XAs H' es cfs := by
  induction x with
  | nil => exact .nil
  | cons a _ ih => exact .cons (XA.mono s a) ih
theorem paired_app {α β : Type} {F : α → β → Prop} {a c : List α} {b d : List β} (x : Paired F a b) (y : Paired F c d) : Paired F (a ++ c) (b ++ d) := by
  induction x with
  | nil => exact y
  | cons h _ ih => exact .cons h ih
theorem paired_get {α β : Type} {F : α → β → Prop} {a : List α} {b : List β} (x : Paired F a b) : ∀ {i : Nat} {z : β}, b[i]? = some z → ∃ y, a[i]? = some y ∧ F y z := by
  induction x with
  | nil => intro i z h; simp at h
  | cons p _ ih =>
    intro i z h
    cases i with
    | zero => exact ⟨_, rfl, by cases h; exact p⟩
    | succ i => exact ih (by simpa using h)
theorem paired_len {α β : Type} {F : α → β → Prop} {a : List α} {b : List β} (x : Paired F a b) : a.length = b.length := by
  induction x with
  | nil => rfl
  | cons _ _ ih => rw [List.length_cons, List.length_cons, ih]
/-- what the __init__ of such a class leaves -/
def spX1 (K : PySem.W.Frag) (f : Str) : Sp := fun vs H Q _ => ∃ (a C : Addr) (y : V), vs = [.ref a, y] ∧ OexC K C ∧ PySem.W.findIn K (.ref C) f = some none ∧ H a = some (exo a C none) ∧ ∀ H', (∀ b o, b ≠ a → H b = some o → H' b = some o) → XA H' a C [(f, y)] → Q .non H'
def spX2 (K : PySem.W.Frag) (f g : Str) : Sp := fun vs H Q _ => ∃ (a C : Addr) (y z : V), vs = [.ref a, y, z] ∧ OexC K C ∧ PySem.W.findIn K (.ref C) f = some none ∧ PySem.W.findIn K (.ref C) g = some none ∧ H a = some (exo a C none) ∧
  ∀ H', (∀ b o, b ≠ a → H b = some o → H' b = some o) → XA H' a C [(g, z), (f, y)] → Q .non H'
theorem x1_end {H : Hp} {a C d : Addr} {f : Str} {y : V} (nd : H d = none) (ne : d ≠ a) :
    (∀ b o, b ≠ a → H b = some o → (upd (upd H d (exd d [(f, y)])) a (exo a C (some d))) b = some o) ∧ XA (upd (upd H d (exd d [(f, y)])) a (exo a C (some d))) a C [(f, y)] := by
  refine ⟨fun b o n e => ?_, d, upd_same, ?_⟩
  · rw [upd_ne n, upd_ne (ne_of_none e nd)]
    exact e
  · rw [upd_ne ne, upd_same]
theorem x2_end {H : Hp} {a C d : Addr} {f g : Str} {y z : V} (nd : H d = none) (ne : d ≠ a) :
    (∀ b o, b ≠ a → H b = some o → (upd (upd (upd H d (exd d [(f, y)])) a (exo a C (some d))) d (exd d [(g, z), (f, y)])) b = some o) ∧ XA (upd (upd (upd H d (exd d [(f, y)])) a (exo a C (some d))) d (exd d [(g, z), (f, y)])) a C [(g, z), (f, y)] := by
  refine ⟨fun b o n e => ?_, d, ?_, upd_same⟩
  · rw [upd_ne (ne_of_none e nd), upd_ne n, upd_ne (ne_of_none e nd)]
    exact e
  · rw [upd_ne ne.symm, upd_same]
/-- arguments that are values whatever the heap -/
def EvV (ta : TA) (σ : L2.St) (vs : List V) : Prop := ∀ (H : Hp) (Q : List V → Hp → Prop), Q vs H → ta σ H Q
theorem evv_nil {σ : L2.St} : EvV tNil σ [] := fun _ _ q => q
theorem evv_c {σ : L2.St} {v : V} {ta : TA} {vs : List V} (h : EvV ta σ vs) : EvV (tCons (tC v) ta) σ (v :: vs) := fun H Q q => h H _ q
theorem evv_v {σ : L2.St} {i : Nat} {v : V} {ta : TA} {vs : List V} (e : σ[i]? = some (some v)) (h : EvV ta σ vs) : EvV (tCons (tVar i) ta) σ (v :: vs) := fun H Q q => ⟨v, e, h H _ q⟩
def EvX (ta : TA) (σ : L2.St) (cfs : List (Addr × List (Str × V))) : Prop := ∀ (H : Hp) (Q : List V → Hp → Prop), (∀ (es : List Addr) (H2 : Hp), Same H H2 → XAs H2 es cfs → Q (es.map V.ref) H2) → ta σ H Q
theorem evx_nil {σ : L2.St} : EvX tNil σ [] := fun H Q q => q [] H (Same.refl H) .nil
theorem evx_1 {K : PySem.W.Frag} {σ : L2.St} {C : Addr} {f : Str} {y : V} {ta tr : TA} {cfs : List (Addr × List (Str × V))} (T : OexC K C) (n : PySem.W.findIn K (.ref C) f = some none) (h : EvV ta σ [y]) (hr : EvX tr σ cfs) : EvX (tCons (tEx C (spX1 K f) ta) tr) σ ((C, [(f, y)]) :: cfs) := fun H Q q =>
  h H _ ⟨by show 1 ≤ 1000; decide, fun a na => ⟨a, C, y, rfl, T, n, upd_same, fun H' k xa => ⟨rfl, hr H' _ fun es H2 s p => q (a :: es) H2 (fun b o e => s b o (k b o (ne_of_none e na) (by rw [upd_ne (ne_of_none e na)]; exact e))) (.cons (XA.mono s xa) p)⟩⟩⟩
theorem evx_2 {K : PySem.W.Frag} {σ : L2.St} {C : Addr} {f g : Str} {y z : V} {ta tr : TA} {cfs : List (Addr × List (Str × V))} (T : OexC K C) (n : PySem.W.findIn K (.ref C) f = some none) (n2 : PySem.W.findIn K (.ref C) g = some none) (h : EvV ta σ [y, z]) (hr : EvX tr σ cfs) :
    EvX (tCons (tEx C (spX2 K f g) ta) tr) σ ((C, [(g, z), (f, y)]) :: cfs) := fun H Q q =>
  h H _ ⟨by show 2 ≤ 1000; decide, fun a na => ⟨a, C, y, z, rfl, T, n, n2, upd_same, fun H' k xa => ⟨rfl, hr H' _ fun es H2 s p => q (a :: es) H2 (fun b o e => s b o (k b o (ne_of_none e na) (by rw [upd_ne (ne_of_none e na)]; exact e))) (.cons (XA.mono s xa) p)⟩⟩⟩
/-- [X(..), ..] -/
theorem st_list {σ : L2.St} {H : Hp} {ta : TA} {cfs : List (Addr × List (Str × V))} {Q : VK} (ev : EvX ta σ cfs) (hz : cfs.length ≤ 1000) (k : ∀ L es H', H L = none → Same H H' → H' L = some (.lst (es.map V.ref)) → XAs H' es cfs → Q (.ref L) H') : tLst ta σ H Q :=
  ev H _ fun es H2 s p => ⟨by rw [List.length_map, paired_len p]; exact Nat.le_of_lt (small1000 hz), fun L nL => k L es _ (s.free nL) (s.trans (same_upd nL)) upd_same (XAs.mono (same_upd nL) p)⟩
/-- found + [X(..), ..] -/
theorem st_more {σ : L2.St} {H : Hp} {i : Nat} {L : Addr} {es : List Addr} {ta : TA} {cfs old : List (Addr × List (Str × V))} {Q : VK} (ev : EvX ta σ cfs) (hσ : σ[i]? = some (some (.ref L))) (hL : H L = some (.lst (es.map V.ref))) (ho : XAs H es old) (hz : old.length + cfs.length ≤ 1000)
    (k : ∀ L' es' H', H L' = none → Same H H' → H' L' = some (.lst (es'.map V.ref)) → XAs H' es' (old ++ cfs) → Q (.ref L') H') : tOp rCat (tVar i) (tLst ta) σ H Q :=
  ⟨.ref L, hσ, st_list ev (by omega) fun L2 es2 H2 n2 s2 h2 p2 => ⟨L, L2, _, _, rfl, rfl, s2 _ _ hL, h2, by rw [List.length_map, List.length_map, paired_len p2, paired_len ho]; exact Nat.le_of_lt (small1000 hz), fun p np =>
    k p (es ++ es2) _ (s2.free np) (s2.trans (same_upd np)) (by rw [upd_same, List.map_append]) (XAs.mono (same_upd np) (paired_app (XAs.mono s2 ho) p2))⟩⟩
/-! ### statements, one by one -/
section
variable {D : Ends} {σ : L2.St} {H : Hp} {a b : TS} {te : TE} {g : TG} {i : Nat}
theorem q_seq (h : a { D with nx := fun s h => b D s h } σ H) : tSeq a b D σ H := h
theorem q_set (h : te σ H fun v H1 => D.nx (σ.set i (some v)) H1) : tAsg te (gName i) D σ H := h
theorem q_setc {v : V} (h : D.nx (σ.set i (some v)) H) : tAsg (tC v) (gName i) D σ H := h
theorem q_next (h : D.nx σ H) : tNext D σ H := h
theorem q_if {t : TT} {c : TS} (h : t σ H fun b H1 => if b = true then a D σ H1 else c D σ H1) : tIfS t a c D σ H := h
theorem q_ret (h : te σ H D.rt) : tRet te D σ H := h
end
/-! ### data that may be shown: at most n signs, at most k deep -/
structure Sm (n k : Nat) (d : PyData) : Prop where
  s : d.showable = true
  h : d.hasDict = false
  l : d.depth ≤ k
  z : d.shown.length ≤ n
theorem Sm.mono {n k n' k' : Nat} {d : PyData} (x : Sm n k d) (h1 : n ≤ n') (h2 : k ≤ k') : Sm n' k' d := ⟨x.s, x.h, Nat.le_trans x.l h2, Nat.le_trans x.z h1⟩
theorem Sm.okd {n k : Nat} {d : PyData} (x : Sm n k d) (h1 : n ≤ 1000000) (h2 : k ≤ 32) : Okd d := ⟨x.s, x.h, Nat.le_trans x.l h2, Nat.le_trans x.z h1⟩
theorem Sm.all {n k : Nat} : ∀ {ds : List PyData}, (∀ d ∈ ds, Sm n k d) → PyData.showableAll ds = true ∧ PyData.hasDictAll ds = false ∧ PyData.depthAll ds ≤ k ∧ ((PyData.shownAll ds).map (·.length)).sum ≤ ds.length * n ∧ (PyData.shownAll ds).length = ds.length
  | [], _ => ⟨by simp only [PyData.showableAll], by simp only [PyData.hasDictAll], by simp only [PyData.depthAll]; exact Nat.zero_le _, by simp [PyData.shownAll], by simp [PyData.shownAll]⟩
  | x :: xs, h => by
    obtain ⟨h1, h2, h3, h4⟩ := h x List.mem_cons_self
    obtain ⟨a, b, c, e, l⟩ := Sm.all (ds := xs) fun d m => h d (List.mem_cons_of_mem _ m)
    refine ⟨by simp only [PyData.showableAll, h1, a, Bool.and_self], by simp only [PyData.hasDictAll, h2, b, Bool.or_self], by simp only [PyData.depthAll]; omega, ?_, by simp only [PyData.shownAll, List.length_cons, l]⟩
    simp only [PyData.shownAll, List.map_cons, List.sum_cons, List.length_cons, Nat.succ_mul]
    omega
theorem Sm.list {n k : Nat} {ds : List PyData} (h : ∀ d ∈ ds, Sm n k d) : Sm (ds.length * n + 2 * ds.length + 3) (k + 1) (.list ds) := by
  obtain ⟨a, b, c, e, l⟩ := Sm.all h
  refine ⟨by simp only [PyData.showable, a], by simp only [PyData.hasDict, b], by simp only [PyData.depth]; omega, ?_⟩
  have z := listText_len_le (PyData.shownAll ds)
  simp only [PyData.shown]
  omega
theorem Sm.tuple {n k : Nat} {ds : List PyData} (h : ∀ d ∈ ds, Sm n k d) : Sm (ds.length * n + 2 * ds.length + 3) (k + 1) (.tuple ds) := by
  obtain ⟨a, b, c, e, l⟩ := Sm.all h
  refine ⟨by simp only [PyData.showable, a], by simp only [PyData.hasDict, b], by simp only [PyData.depth]; omega, ?_⟩
  have z := tupleText_len_le (PyData.shownAll ds)
  simp only [PyData.shown]
  omega
theorem Sm.int {i : Int} (h : i.natAbs < 10 ^ 12) : Sm 13 0 (.int i) := by
  refine ⟨?_, by simp only [PyData.hasDict], by simp only [PyData.depth]; exact Nat.le_refl _, PyData.shown_int_le h⟩
  simp only [PyData.showable, decide_eq_true_eq]
  by_cases z : i.natAbs = 0
  · rw [z]
    decide
  · exact Nat.lt_trans ((Nat.log2_lt z).mpr (Nat.lt_trans h (by decide : 10 ^ 12 < 2 ^ 40))) (by decide)
theorem DpAll.rep {K : PySem.W.Frag} {H : Hp} {v : V} {d : PyData} (h : Dp K H v d) : ∀ n : Nat, DpAll K H (List.replicate n v) (List.replicate n d)
  | 0 => .nil
  | n + 1 => .cons h (DpAll.rep h n)
mutual
theorem Dp.same {K : PySem.W.Frag} {H H' : Hp} (s : Same H H') : ∀ {v : V} {d : PyData}, Dp K H v d → Dp K H' v d
  | _, _, .non => .non
  | _, _, .bl b => .bl b
  | _, _, .int i => .int i
  | _, _, .str x => .str x
  | _, _, .lst h a => .lst (s.seq h) (DpAll.same s a)
  | _, _, .tup h a => .tup (by
      rcases h with (h | ⟨o, h⟩) | h
      · exact .inl (.inl (s _ _ h))
      · exact .inl (.inr ⟨o, s _ _ h⟩)
      · exact .inr h) (DpAll.same s a)
theorem DpAll.same {K : PySem.W.Frag} {H H' : Hp} (s : Same H H') : ∀ {vs : List V} {ds : List PyData}, DpAll K H vs ds → DpAll K H' vs ds
  | _, _, .nil => .nil
  | _, _, .cons h a => .cons (Dp.same s h) (DpAll.same s a)
end
/-- data that the hand is no part of -/
def Dps (K : PySem.W.Frag) (h : Addr) (H : Hp) (v : V) (d : PyData) : Prop := ∀ H', Kp h H H' → Dp K H' v d
theorem Dps.kp {K : PySem.W.Frag} {h : Addr} {H H' : Hp} {v : V} {d : PyData} (x : Dps K h H v d) (k : Kp h H H') : Dps K h H' v d := fun H2 k2 => x H2 (k.trans k2)
theorem Dps.now {K : PySem.W.Frag} {h : Addr} {H : Hp} {v : V} {d : PyData} (x : Dps K h H v d) : Dp K H v d := x H Kp.refl
/-! ### own exception classes, one and two fields -/
structure Cl1 (P : Program) (w : World) (K : PySem.W.Frag) (mg : Str → Option Value) (base : Heap) (x f : Str) (C : Addr) : Prop where
  g : mg x = some (.ref C)
  o : OexC K C
  xf : XfC K C
  xe : ExcC K C
  no : PySem.W.findIn K (.ref C) f = some none
  made : ∃ fI fd, PySem.W.findIn K (.ref C) "__init__" = some (some (.ref fI)) ∧ PySem.W.typeIn K (.ref fI) = some (.type "function") ∧ FnOk P w K mg base CX0 1 fI fd ["self", f] (spX1 K f) ∧ Binds K fd ["self", f] [] ∧
    ∀ (s : Shared) (self : Value) (ws : List Value), ws.length = [f].length → BindsTo s fd ⟨[self], [f].zip ws⟩ ((["self", f] : List Str).zip (self :: ws))
structure Cl2 (P : Program) (w : World) (K : PySem.W.Frag) (mg : Str → Option Value) (base : Heap) (x f g2 : Str) (C : Addr) : Prop where
  g : mg x = some (.ref C)
  o : OexC K C
  xf : XfC K C
  xe : ExcC K C
  no : PySem.W.findIn K (.ref C) f = some none
  no2 : PySem.W.findIn K (.ref C) g2 = some none
  made : ∃ fI fd, PySem.W.findIn K (.ref C) "__init__" = some (some (.ref fI)) ∧ PySem.W.typeIn K (.ref fI) = some (.type "function") ∧ FnOk P w K mg base CX0 1 fI fd ["self", f, g2] (spX2 K f g2) ∧ Binds K fd ["self", f, g2] [] ∧
    ∀ (s : Shared) (self : Value) (ws : List Value), ws.length = [f, g2].length → BindsTo s fd ⟨[self], [f, g2].zip ws⟩ ((["self", f, g2] : List Str).zip (self :: ws))
section
variable {X : Cx} {x f g2 : Str} {C : Addr} {p pos : Pos} {e : Expr} {es : List Expr} {kws : List Keyword} {ta : TA}
theorem pe_c1 (c : Cl1 X.prog X.w X.K X.mg X.base x f C) (hr : Room 2 X.A) (hg : Gl X x) (ha : PA X (e :: es) ta) (hdb : (x == ("__debug__" : Str)) = false := by decide) (he : starEach (e :: es) X.env = (false, eval e X.env) :: starEach es X.env := by rfl)
    (hpl : (backTo pos (starEach es X.env)).any (·.1) = false := by rfl) : PE X (.Call (.Name x p) (e :: es) [] pos) (tEx C (spX1 X.K f) ta) := by
  obtain ⟨fI, fd, i, t, F, b, _⟩ := c.made
  exact pe_ex c.o i t F hr hg c.g b pass0 ha hdb he hpl
theorem pe_k1 (c : Cl1 X.prog X.w X.K X.mg X.base x f C) (hr : Room 2 X.A) (hg : Gl X x) (hkw : PK X kws ta) (hall : (backToKw pos (keywordEach kws X.env)).all (·.1.isSome) = true := by rfl) (hks : (backToKw pos (keywordEach kws X.env)).filterMap (·.1) = [f] := by rfl)
    (hdb : (x == ("__debug__" : Str)) = false := by decide) (hpl : ((backTo pos (starEach [] X.env)).any (·.1) || (backToKw pos (keywordEach kws X.env)).any (·.1.isNone)) = false := by rfl) : PE X (.Call (.Name x p) [] kws pos) (tEx C (spX1 X.K f) ta) := by
  obtain ⟨fI, fd, i, t, F, _, b⟩ := c.made
  exact pe_exk (ks := [f]) c.o i t F hr hg c.g rfl b pass0 hkw hall hks hdb hpl
theorem pe_c2 (c : Cl2 X.prog X.w X.K X.mg X.base x f g2 C) (hr : Room 2 X.A) (hg : Gl X x) (ha : PA X (e :: es) ta) (hdb : (x == ("__debug__" : Str)) = false := by decide) (he : starEach (e :: es) X.env = (false, eval e X.env) :: starEach es X.env := by rfl)
    (hpl : (backTo pos (starEach es X.env)).any (·.1) = false := by rfl) : PE X (.Call (.Name x p) (e :: es) [] pos) (tEx C (spX2 X.K f g2) ta) := by
  obtain ⟨fI, fd, i, t, F, b, _⟩ := c.made
  exact pe_ex c.o i t F hr hg c.g b pass0 ha hdb he hpl
theorem pe_k2 (c : Cl2 X.prog X.w X.K X.mg X.base x f g2 C) (hr : Room 2 X.A) (hg : Gl X x) (hkw : PK X kws ta) (hall : (backToKw pos (keywordEach kws X.env)).all (·.1.isSome) = true := by rfl) (hks : (backToKw pos (keywordEach kws X.env)).filterMap (·.1) = [f, g2] := by rfl)
    (hdb : (x == ("__debug__" : Str)) = false := by decide) (hpl : ((backTo pos (starEach [] X.env)).any (·.1) || (backToKw pos (keywordEach kws X.env)).any (·.1.isNone)) = false := by rfl) : PE X (.Call (.Name x p) [] kws pos) (tEx C (spX2 X.K f g2) ta) := by
  obtain ⟨fI, fd, i, t, F, _, b⟩ := c.made
  exact pe_exk (ks := [f, g2]) c.o i t F hr hg c.g rfl b pass0 hkw hall hks hdb hpl
end
/-- e.f of an own exception, within a comprehension -/
theorem pe_xak {X : Cx} (K : PySem.W.Frag) {e : Expr} {te : TE} {n : Str} {pos : Pos} (hK : X.K = K) (he : PE X e te) (hb : attributeBase e n X.env (eval e X.env) = eval e X.env := by rfl) : PE X (.Attribute e n pos) (tXA K n te) := by
  subst hK
  exact pe_xa he hb
end Ek

namespace Ek
open PySem PySem.Spec PyProof.Rows L2
/-! ### min of a tuple of ints -/
section
variable {prog : Program} {w : World} {A : Around} {E : Value → Shared → Prop} {s : Shared} {l : Addr} {xs : Array (Int × Tok)}
theorem min_intTup {its : List Value} {ns : List Int} {Q : Value → Shared → Prop} (hh : A.handled = none) (hl : s.heap.IsTuple l its.toArray) (hi : IntsAre its ns) (hne : 0 < ns.length)
    (h : ∀ h' tk M t', (∀ b o, s.heap.get? b = some o → h'.get? b = some o) → M ∈ ns → (∀ a, a ∈ ns → M ≤ a) → Q (.int M t') { s with heap := h', toks := tk }) : wpAny (model prog w) A (call (.builtin "min") [.ref l]) Q E s := by
  obtain ⟨xs, e⟩ := hi.allInts.items
  have hn : numsOf (intItems xs).toList = ns := by rw [← e]; exact hi.numsOf
  rw [nums_intItems] at hn
  subst hn
  rw [e] at hl
  have sz : 0 < xs.size := by simpa using hne
  have hlt : l < s.heap.objs.size := by obtain ⟨_, z, _⟩ := hl; exact Heap.lt_size z
  refine call_min_walk (wpAny_pyIter_tuple hl ?_)
  refine ⟨_, _, _, _, _, _, _, rfl, Walks.tuple (A := A.in1) hh _ l (Nat.ne_of_lt hlt) (intItems xs), ⟨⟨_, Heap.get?_push_size _ rfl, rfl, rfl⟩, hl.push _⟩, (fun b hb => ?_), (by simpa [intItems] using sz), CmpOf.ints_lt (numAt xs) (fun _ _ => intItems_at), fun v h' tk hP hk => ?_⟩
  · show b < (s.heap.push _).objs.size
    rw [Heap.size_push]
    simp only [List.mem_cons, List.not_mem_nil, or_false] at hb
    rcases hb with rfl | rfl
    · exact Nat.lt_succ_self _
    · exact Nat.lt_succ_of_lt hlt
  · have hv : (intItems xs)[argBest (fun i j => decide (numAt xs i < numAt xs j)) (xs.size - 1)]? = some v := by simpa [intItems] using hP
    obtain ⟨t, rfl⟩ := intItems_at hv
    obtain ⟨h1, h2⟩ := argBest_lt (numAt xs) (xs.size - 1)
    refine h h' tk _ t (fun b o z => hk b o (fun hm => ?_) (Heap.get?_push_of_some _ z)) ?_ fun a ha => ?_
    · simp only [List.mem_cons, List.not_mem_nil, or_false] at hm
      exact absurd (hm ▸ Heap.lt_size z) (Nat.lt_irrefl _)
    · rw [numAt_eq]
      exact PySem.getD_mem (by rw [List.length_map, Array.length_toList]; omega)
    · obtain ⟨j, hj, rfl⟩ := mem_getD ha
      rw [List.length_map, Array.length_toList] at hj
      rw [← numAt_eq]
      exact h2 j (by omega)
end
def rMinT (K : PySem.W.Frag) : List V → Hp → VK → Prop := fun vs H Q => ∃ (a : Addr) (ns : List Int), vs = [V.ref a] ∧ SqT K H a (ns.map V.int) ∧ 0 < ns.length ∧ ∀ m, m ∈ ns → (∀ y, y ∈ ns → m ≤ y) → Q (.int m) H
/-- '0' times a size -/
def rRep0 : R2 := fun x y H Q => ∃ k : Nat, x = .str "0" ∧ y = .int (k : Int) ∧ ((k = 1 ∧ Q (.str "0") H) ∨ (k = 2 ∧ Q (.str "00") H) ∨ (k = 3 ∧ Q (.str "000") H))
section
variable {X : Cx}
theorem call_minT (hc : X.calm = true) : CallR X (.builtin "min") (rMinT X.K) := by
  intro pins s σ H vs us Q I r h
  obtain ⟨a, ns, rfl, hs, hne, q⟩ := h
  obtain ⟨its, rv, hl, _⟩ := I.tuple hs
  rw [Vals.ref1 r]
  exact min_intTup (I.ok.hd hc) hl rv.ints hne fun h' tk m t' hk h1 h2 => ⟨.int _, H, I.kept hk, ⟨_, rfl⟩, q m h1 h2⟩
/-- a == y by a's own ==; y of whatever type -/
def rOwnEq (K : PySem.W.Frag) (C : Addr) (sp : Sp) (E : XK) : R2 := fun x y H Q => ∃ (a dx : Addr) (fs : List (Str × V)) (t : Value), x = .ref a ∧ H a = some (.ins C dx fs) ∧ TyOf K H y t ∧ PySem.W.notFirst K C t = true ∧ sp [x, y] H (fun v H' => ∃ b, v = .bl b ∧ Q v H') E
theorem op_ownEq {CX : CXT} {C f : Addr} {fd : FuncData} {ps : List Str} {k : Nat} {sp : Sp} {E : XK} (F : FnOk X.prog X.w X.K X.mg X.base CX k f fd ps sp) (hr : Room k X.A) (hs : PySem.W.findIn X.K (.ref C) "__eq__" = some (some (.ref f))) (hf : PySem.W.isFn X.K (.ref f) = true)
    (hb : Binds X.K fd ps []) (hx : Passes CX X E) : OpR X (compareOp .Eq) (rOwnEq X.K C sp E) := by
  intro pins s σ H x y v u Q I rx ry h
  obtain ⟨a, dx, fs, t, rfl, ha, ty, hn, hsp⟩ := h
  obtain rfl : v = Value.ref a := rx
  obtain ⟨mA, J, _⟩ := ins_get I.hok ha
  obtain ⟨od, J, _⟩ := J.look
  obtain ⟨m, hF⟩ := I.fr
  obtain ⟨PP, Z, pp, _⟩ := kit_of I ry (.base ty)
  show wpAny (model X.prog X.w) X.A (richCompare .Eq (.ref a) u) (EP X pins σ Q) X.xe s
  refine PySem.W.cmp_K (op := .Eq) (tb := t) hr.units0 hF I.ok.mod.kin J (Z.ty _ _ I.kIn pp) hn hs hf ?_
  have r2 : Vals [V.ref a, y] [Value.ref a, u] := .cons rfl (.cons ry .nil)
  have hl := F.len _ _ _ _ hsp
  refine wpAny_call (codeAny_mono (F.run X.A X.stack s H ⟨[.ref a, u], []⟩ [.ref a, u] [.ref a, y] _ E hr I.env0 (by
    have z := hb s [.ref a, u] I.kIn (by simpa using hl)
    simpa using z) r2 hsp) fun r s' z => ?_)
  rcases r with e | (_ | _ | _ | w)
  · exact hx pins σ H s e s' I z
  · exact False.elim z
  · exact False.elim z
  · exact False.elim z
  · obtain ⟨z, H', I', rz, b, ez, q⟩ := I.after z
    subst ez
    obtain rfl : w = Value.bool b := rz
    exact ⟨.bl b, H', I', rfl, q⟩
theorem op_rep0 : OpR X (binaryOp .Mult) rRep0 := by
  intro pins s σ H x y v u Q I rx ry h
  obtain ⟨k, rfl, rfl, h⟩ := h
  obtain ⟨t, rfl⟩ := rx
  obtain ⟨t2, rfl⟩ := ry
  rcases h with ⟨rfl, q⟩ | ⟨rfl, q⟩ | ⟨rfl, q⟩
  · exact PySem.P.mul_str (by decide +kernel) (fun _ _ => by decide +kernel) (fun _ _ => by decide +kernel) (show Made.post (Made.val (.str "0" t)) _ _ from ⟨.str "0", H, I, ⟨t, rfl⟩, q⟩)
  · exact PySem.P.mul_str (by decide +kernel) (fun _ _ => by decide +kernel) (fun _ _ => by decide +kernel) (show Made.post (Made.str ⟨#[48, 48]⟩) _ _ from ⟨by decide +kernel, .str "00", H, I.tok _, ⟨_, rfl⟩, q⟩)
  · exact PySem.P.mul_str (by decide +kernel) (fun _ _ => by decide +kernel) (fun _ _ => by decide +kernel) (show Made.post (Made.str ⟨#[48, 48, 48]⟩) _ _ from ⟨by decide +kernel, .str "000", H, I.tok _, ⟨_, rfl⟩, q⟩)
end
/-! ### making and calling where what is raised is caught -/
def tMakeS (C : Addr) (sp : Sp) (E : L2.St → XK) (t : TA) : TE := fun σ H Q => t σ H fun vs H1 => ∀ x dx, H1 x = none → H1 dx = none → dx ≠ x → sp (.ref x :: vs) (upd (upd H1 dx (.own x)) x (.ins C dx [])) (fun v H2 => v = .non ∧ Q (.ref x) H2) (E σ)
def tMethS (C : Addr) (m : Str) (sp : Sp) (E : L2.St → XK) (ta : TE) (t : TA) : TE := fun σ H Q => ta σ H fun x H1 => ∃ a dx fs, x = .ref a ∧ H1 a = some (.ins C dx fs) ∧ fs.lookup m = none ∧ t σ H1 fun vs H2 => sp (x :: vs) H2 Q (E σ)
section
variable {X : Cx} {CX : CXT} {k : Nat} {f C : Addr} {fd : FuncData} {ps : List Str} {sp : Sp} {E : L2.St → XK} {x m : Str} {p pos apos : Pos} {e o : Expr} {es : List Expr} {ta : TE} {t : TA}
theorem pe_makeS (M : Mk X.K C f) (F : FnOk X.prog X.w X.K X.mg X.base CX k f fd ps sp) (hr : Room (k + 1) X.A) (hg : Gl X x) (hm : X.mg x = some (.ref C)) (hb : Binds X.K fd ps []) (hx : ∀ σ, PassesAt CX X σ (E σ)) (ha : PA X (e :: es) t) (hdb : (x == ("__debug__" : Str)) = false := by decide)
    (he : starEach (e :: es) X.env = (false, eval e X.env) :: starEach es X.env := by rfl) (hpl : (backTo pos (starEach es X.env)).any (·.1) = false := by rfl) : PE X (.Call (.Name x p) (e :: es) [] pos) (tMakeS C sp E t) := by
  refine ⟨fun pins s σ H Q I h => ?_⟩
  refine wpAny_Call_Name_kw (ld_glob I hg hm (PySem.W.callWith_K (h₀ := X.base) I.ok.mod.kin M.kp (thn (ha.run pos pins s σ H _ I h) fun us s1 ⟨vs, H1, I1, r, q⟩ => ⟨I1.kIn, ?_⟩) he hpl) hdb)
  have hq := q (s1.heap.objs.size + 1) s1.heap.objs.size (I1.hok.fresh (Nat.le_succ _)) (I1.hok.fresh (Nat.le_refl _)) (Nat.ne_of_lt (Nat.lt_succ_self _))
  have I2 := Inv.made (C := C) I1
  have r2 : Vals (V.ref (s1.heap.objs.size + 1) :: vs) (Value.ref (s1.heap.objs.size + 1) :: us) := .cons rfl r
  have hl : (Value.ref (s1.heap.objs.size + 1) :: us).length = ps.length := r2.length.symm.trans (F.len _ _ _ _ hq)
  refine wpAny_call (make_map (f := f) I1.kIn M.makes M.init (beq_iff_eq.mp M.fn) (codeAny_mono (F.run _ X.stack _ _ ⟨Value.ref (s1.heap.objs.size + 1) :: us, []⟩ (Value.ref (s1.heap.objs.size + 1) :: us) _ _ (E σ) (hr.make C us []) (I2.env0.make C us []) (by
    have z := hb _ (Value.ref (s1.heap.objs.size + 1) :: us) I2.kIn (by simpa using hl)
    simpa using z) r2 hq) fun r s' z => ?_))
  rcases r with er | (_ | _ | _ | u)
  · exact hx σ pins _ _ er s' I2 z
  · exact False.elim z
  · exact False.elim z
  · exact False.elim z
  · obtain ⟨v, H', I3, rv, ev, q3⟩ := I2.after z
    subst ev
    exact ⟨rv, ⟨V.ref (s1.heap.objs.size + 1), H', I3, rfl, q3⟩⟩
theorem run_S {pins : List (Addr × Obj)} {σ : L2.St} {H : Hp} {s : Shared} {Q : VK} {us : List Value} {vs : List V} {args : Args} (F : FnOk X.prog X.w X.K X.mg X.base CX k f fd ps sp) (hr : Room k X.A) (hb : BindsTo s fd args (ps.zip us)) (hx : PassesAt CX X σ (E σ)) (I : Inv X pins σ H s) (r : Vals vs us)
    (h : sp vs H Q (E σ)) : wpAny (model X.prog X.w) X.A (call (.ref f) args.pos args.kw) (EP X pins σ Q) X.xe s := by
  refine wpAny_call (codeAny_mono (F.run X.A X.stack s H args us vs Q (E σ) hr I.env0 hb r h) fun r s' z => ?_)
  rcases r with er | (_ | _ | _ | u)
  · exact hx pins _ _ er s' I z
  · exact False.elim z
  · exact False.elim z
  · exact False.elim z
  · exact I.after z
/-- o.m(k = v, ..) -/
theorem pe_methKS {kws : List Keyword} {ks : List Str} {pl : Sem Bool} (he : PE X o ta) (c : Cls X.K C) (hm : Meth X.K C m f) (F : FnOk X.prog X.w X.K X.mg X.base CX k f fd ps sp) (hr : Room k X.A) (hps : ps.length = ks.length + 1)
    (hb : ∀ (s : Shared) (self : Value) (ws : List Value), ws.length = ks.length → BindsTo s fd ⟨[self], ks.zip ws⟩ (ps.zip (self :: ws))) (hx : ∀ σ, PassesAt CX X σ (E σ)) (hkw : PK X kws t)
    (hall : (backToKw pos (keywordEach kws X.env)).all (·.1.isSome) = true := by rfl) (hks : (backToKw pos (keywordEach kws X.env)).filterMap (·.1) = ks := by rfl) (hpl : ((backTo pos (starEach [] X.env)).any (·.1) || (backToKw pos (keywordEach kws X.env)).any (·.1.isNone)) = false := by rfl)
    (ht : eval (.Call (.Attribute o m apos) [] kws pos) X.env = (do
      let ov ← eval o X.env
      standAt apos.atName
      let (f, first) ← holding [ov] (getMethod ov m pl)
      callWith pos f first (backTo pos (starEach [] X.env)) (backToKw pos (keywordEach kws X.env))) := by rfl) : PE X (.Call (.Attribute o m apos) [] kws pos) (tMethS C m sp E ta t) := by
  refine ⟨fun pins s σ H Q I h => ?_⟩
  refine PySem.W.methodCall_KW (pl := pl) (thn (he.run pins s σ H _ I h) fun u s1 ⟨x, H1, I1, rx, a, dx, fs, ex, ea, l, q⟩ => ?_) ht
  subst ex
  obtain rfl : u = Value.ref a := rx
  refine getmeth_ok I1 ea c hm l ?_
  refine PySem.W.callWith_KW0 (first := [.ref a]) (h₀ := X.base) I1.ok.mod.kin hm.kp hall ?_ hpl
  refine thn (hkw.run pos pins s1 σ H1 _ I1 q) fun ws s2 ⟨zs, H2, I2, rz, q2⟩ => ⟨I2.kIn, ?_⟩
  rw [hks]
  have hl : ws.length = ks.length := by
    have z := F.len _ _ _ _ q2
    rw [← rz.length]
    exact Nat.succ.inj (z.trans hps)
  exact run_S (args := ⟨[.ref a], ks.zip ws⟩) (us := .ref a :: ws) F hr (hb s2 _ ws hl) (hx σ) I2 (show Vals (V.ref a :: zs) (Value.ref a :: ws) from .cons rfl rz) q2
end
/-- isinstance(e, c), e the exception that the suite holds, d its own dict -/
def rIsES (K : PySem.W.Frag) (a : Addr) (cls : Value) (d : Option Addr) : List V → Hp → VK → Prop := fun xs H Q => ∃ (D dd : Addr) (fs : List (Str × V)) (c : V) (u : Value) (b : Bool), xs = [.ref a, c] ∧ cls = .ref D ∧ ExcC K D ∧ d = some dd ∧ H dd = some (.xd fs) ∧ ClsV c u ∧ PySem.W.kitOne K (.ref D) u = some b ∧ Q (.bl b) H
theorem call_isES {X : Cx} {a : Addr} {oe : Obj} {cls : Value} {d : Option Addr} {pn : List (Addr × Obj)} (hz : Zc cls d oe) (hf : ∃ vs, oe.data = .fields vs) : CallR (X.suite a ((a, oe) :: pn)) (.builtin "isinstance") (rIsES X.K a cls d) := by
  intro pins s σ H xs us Q I r h
  obtain ⟨D, dd, fs, c, u, b, rfl, rfl, C, rfl, hx, k, e, q⟩ := h
  obtain ⟨u1, u2, rfl, r1, r2⟩ := vals2 r
  have e2 := k.eq r2
  subst e2
  obtain rfl : u1 = Value.ref a := r1
  obtain ⟨ha, _⟩ := I.pin (a, oe) (List.mem_append_left _ List.mem_cons_self)
  obtain ⟨vs, hd⟩ := hf
  have hxd : ObjOk X.prog X.w H s.heap dd (.xd fs) := I.hok dd _ hx
  obtain ⟨mA, hns, _⟩ := hxd
  obtain ⟨od, ho, _⟩ := lookIn_ns hns
  have J : PySem.W.InstAt s.heap a oe D (some od) := ⟨ha, hz.1, by unfold PySem.W.notCls; rw [hd] <;> rfl, by rw [hz.2]; exact ho⟩
  have hcl : (PySem.W.clsIn X.K D).isSome = true := by
    obtain ⟨cd, hc, _⟩ := PySem.W.any_some C.hd
    rw [hc]
    rfl
  exact PySem.W.kia_one (PySem.W.kitx_exc hcl C.hg C.hk C.hs C.ha C.hn C.ht C.hm) I.kIn J e (fun z => nomatch z) fun tk => ⟨.bl b, H, I.kept (t' := tk) fun _ _ z => z, rfl, q⟩
/-! ### turns of a loop, whatever its body -/
section
variable {K : PySem.W.Frag} {a : Addr} {xs : List V} {Bd : V → Hp → (Hp → Prop) → Prop} {H0 : Hp} {Fin : Hp → Prop}
theorem lp_tup (Pv : Nat → Hp → Prop) (h0 : Pv 0 H0) (hl : ∀ i H, i ≤ xs.length → Pv i H → SqT K H a xs) (hs : ∀ i x H, xs[i]? = some x → Pv i H → Bd x H (Pv (i + 1))) (hd : ∀ H, Pv xs.length H → Fin H) :
    ∃ W : Nat → Nat → Hp → Prop, (∃ m, W 0 m H0) ∧ ∀ i m H, W i m H → ((Itt K a).stop i H ∧ Fin H) ∨ ((Itt K a).go i H ∧ ∃ Nx : Hp → Prop, (∀ H', Nx H' → ∃ m', m' < m ∧ W (i + 1) m' H') ∧ ∀ x H', (Itt K a).yld i H x H' → Bd x H' Nx) := by
  refine ⟨fun i m H => i + m = xs.length ∧ Pv i H, ⟨xs.length, by omega, h0⟩, fun i m H ⟨em, p⟩ => ?_⟩
  have q := hl i H (by omega) p
  by_cases lt : i < xs.length
  · refine .inr ⟨⟨xs, xs[i], q, List.getElem?_eq_getElem lt⟩, Pv (i + 1), fun H' p' => ⟨m - 1, by omega, by omega, p'⟩, fun x H' y => ?_⟩
    obtain ⟨rfl, y⟩ := y
    exact hs i x H' (y xs q) p
  · obtain rfl : i = xs.length := by omega
    exact .inl ⟨⟨xs, q, Nat.le_refl _⟩, hd H p⟩
theorem lp_list (Pv : Nat → Hp → Prop) (h0 : Pv 0 H0) (hl : ∀ i H, i ≤ xs.length → Pv i H → SqL K H a xs) (hs : ∀ i x H, xs[i]? = some x → Pv i H → Bd x H (Pv (i + 1))) (hd : ∀ H, Pv xs.length H → Fin H) :
    ∃ W : Nat → Nat → Hp → Prop, (∃ m, W 0 m H0) ∧ ∀ i m H, W i m H → ((Itl K a).stop i H ∧ Fin H) ∨ ((Itl K a).go i H ∧ ∃ Nx : Hp → Prop, (∀ H', Nx H' → ∃ m', m' < m ∧ W (i + 1) m' H') ∧ ∀ x H', (Itl K a).yld i H x H' → Bd x H' Nx) := by
  refine ⟨fun i m H => i + m = xs.length ∧ Pv i H, ⟨xs.length, by omega, h0⟩, fun i m H ⟨em, p⟩ => ?_⟩
  have q := hl i H (by omega) p
  by_cases lt : i < xs.length
  · refine .inr ⟨⟨xs, xs[i], q, List.getElem?_eq_getElem lt⟩, Pv (i + 1), fun H' p' => ⟨m - 1, by omega, by omega, p'⟩, fun x H' y => ?_⟩
    obtain ⟨rfl, y⟩ := y
    exact hs i x H' (y xs q) p
  · obtain rfl : i = xs.length := by omega
    exact .inl ⟨⟨xs, q, Nat.le_refl _⟩, hd H p⟩
end
/-! ### rules with the written part named (within comprehensions) -/
section
variable {X : Cx} {tg l : Expr} {tl : TE}
theorem pi_tupk (K : PySem.W.Frag) (hK : X.K = K) (hl : PE X l tl) : PI X tg l (iTup K tl) := by
  subst hK
  exact pi_tup hl
theorem op_catAk (K : PySem.W.Frag) (hK : X.K = K) : OpR X (binaryOp .Add) (rCatA K) := by
  subst hK
  exact op_catA
theorem ixl_k (K : PySem.W.Frag) (hK : X.K = K) : IxR X (rIxL K) := by
  subst hK
  exact ix_list
theorem ixt_k (K : PySem.W.Frag) (hK : X.K = K) : IxR X (rIxT K) := by
  subst hK
  exact ix_tup
theorem sl_tupk (K : PySem.W.Frag) (hK : X.K = K) : SlR X (rSlA K) := by
  subst hK
  exact sl_tupA
end
end Ek

namespace Ek
open PySem PySem.Spec PyProof.Rows L2
/-! ### the hand, its list of numbers named -/
def Hdd (H : Hp) (h dr : Addr) : Prop := ∃ (ds : List Int) (t : Nat), H h = some (.lst [.ref dr, .int (t : Int)]) ∧ H dr = some (.lst (ds.map V.int)) ∧ dr ≠ h ∧ ∀ x ∈ ds, 0 ≤ x
theorem Hdd.same {H H' : Hp} {h dr : Addr} (s : Same H H') (x : Hdd H h dr) : Hdd H' h dr := by
  obtain ⟨ds, t, h1, h2, n, p⟩ := x
  exact ⟨ds, t, s _ _ h1, s _ _ h2, n, p⟩
theorem Hdd.ne {H : Hp} {h dr b : Addr} (x : Hdd H h dr) (e : H b = none) : b ≠ h := fun z => by
  obtain ⟨ds, t, h1, _⟩ := x
  rw [z, h1] at e
  cases e
theorem Hdd.ned {H : Hp} {h dr b : Addr} (x : Hdd H h dr) (e : H b = none) : b ≠ dr := fun z => by
  obtain ⟨ds, t, h1, h2, _⟩ := x
  rw [z, h2] at e
  cases e
theorem Hdd.ns {H : Hp} {h dr b : Addr} {o : HO} (x : Hdd H h dr) (e : H b = some o) (n : ∀ d t, o ≠ .lst [.ref d, .int t]) : b ≠ h := fun z => by
  obtain ⟨ds, t, h1, _⟩ := x
  rw [z, h1] at e
  exact n _ _ (Option.some.inj e).symm
theorem Hdd.upd {H : Hp} {h dr D : Addr} {o : HO} (x : Hdd H h dr) (n1 : D ≠ h) (n2 : D ≠ dr) : Hdd (upd H D o) h dr := by
  obtain ⟨ds, t, h1, h2, n, p⟩ := x
  exact ⟨ds, t, by rw [upd_ne n1.symm]; exact h1, by rw [upd_ne n2.symm]; exact h2, n, p⟩
/-! ### repr of any data -/
def rReprA (K : PySem.W.Frag) : List V → Hp → VK → Prop := fun xs H Q => ∃ x d, xs = [x] ∧ Dp K H x d ∧ Okd d ∧ Q (.str d.shown) H
section
variable {X : Cx}
theorem call_reprA (hg : X.A.guards = some []) (hu : X.A.units + 64 < cLine) : CallR X (.builtin "repr") (rReprA X.K) := by
  intro pins s σ H xs us Q I r h
  obtain ⟨x, d, rfl, hd, hk, q⟩ := h
  have r0 := r
  obtain ⟨u, rfl, ru⟩ := vals1 r
  obtain ⟨h1, h2, h3, h4⟩ := id hk
  cases hd with
  | non =>
    obtain rfl : u = Value.none := ru
    exact PySem.P.repr_of_none ⟨.str _, H, I.tok _, ⟨_, rfl⟩, q⟩
  | bl b =>
    obtain rfl : u = Value.bool b := ru
    cases b
    · exact PySem.P.repr_of_bool ⟨.str _, H, I.tok _, ⟨_, rfl⟩, q⟩
    · exact PySem.P.repr_of_bool ⟨.str _, H, I.tok _, ⟨_, rfl⟩, q⟩
  | int i =>
    obtain ⟨t, rfl⟩ := ru
    refine PySem.P.repr_of_int ?_ ⟨.str _, H, I.tok _, ⟨_, rfl⟩, q⟩
    simpa [PyData.showable] using h1
  | str z =>
    obtain ⟨t, rfl⟩ := ru
    exact PySem.P.repr_of_str (hsz := by
      have e : (reprText z) = PyData.shown (.str z) := by simp [PyData.shown]
      rw [e, sizeLine_eq]
      omega) ⟨.str _, H, I.tok _, ⟨_, rfl⟩, q⟩
  | lst hs a => exact call_repr hg hu pins s σ H _ _ Q I r0 ⟨_, _, rfl, .lst hs a, rfl, hk, q⟩
  | tup hs a => exact call_repr hg hu pins s σ H _ _ Q I r0 ⟨_, _, rfl, .tup hs a, rfl, hk, q⟩
theorem call_reprAk (K : PySem.W.Frag) (hK : X.K = K) (hg : X.A.guards = some []) (hu : X.A.units + 64 < cLine) : CallR X (.builtin "repr") (rReprA K) := by
  subst hK
  exact call_reprA hg hu
theorem call_minTk (K : PySem.W.Frag) (hK : X.K = K) (hc : X.calm = true) : CallR X (.builtin "min") (rMinT K) := by
  subst hK
  exact call_minT hc
theorem call_lenk (K : PySem.W.Frag) (hK : X.K = K) : CallR X (.builtin "len") (fun xs H Q => ∃ p ys, xs = [V.ref p] ∧ (SqL K H p ys ∨ SqT K H p ys) ∧ Q (V.int ys.length) H) := by
  subst hK
  exact call_len_seq
theorem call_isik (K : PySem.W.Frag) (hK : X.K = K) : CallR X (.builtin "isinstance") (rIsi K) := by
  subst hK
  exact call_isi
/-! ### tuple * int, once too -/
theorem tuple_mul1 (l : Addr) (items : Array Value) (n : Nat) (dd : Option Addr) (sl : Array (Option Value)) (u : Tok) :
    Meets (Builtin.«tuple.__mul__» ⟨[.ref l, .int 1 u], []⟩) (fun _ R s => s.heap.get? l = some { cls := .type "tuple", dict := dd, data := .seq items n, slots := sl } ∧
      R (.ok (.ret (Value.ref l))) s) :=
  .of_wp fun prog w A R s h => by
    obtain ⟨hp, g, d, tk, os⟩ := s
    obtain ⟨hl, h⟩ := h
    have f1 := AutoSeq1.idx_int
    have c1 : (items.isEmpty || (1 : Int) == 1) = true := by simp
    wp_walk using wpAny_loadPart' hl
    repeat (first
      | (refine wpAny_ite_true (decide_eq_true (by rw [c1])) ?_; wp_walk using wpAny_loadPart' hl)
      | (refine wpAny_ite_false (decide_eq_false (by decide)) ?_; wp_walk using wpAny_loadPart' hl))
    exact ⟨_, rfl, h⟩
def rRepTA (K : PySem.W.Frag) : R2 := fun x y H Q => rRepT K x y H Q ∨ ∃ l xs, x = .ref l ∧ y = .int 1 ∧ SqT K H l xs ∧ Q (.ref l) H
theorem op_repTA : OpR X (binaryOp .Mult) (rRepTA X.K) := by
  intro pins s σ H x y v u Q I rx ry h
  rcases h with h | h
  · exact op_repT pins s σ H x y v u Q I rx ry h
  · obtain ⟨l, xs, rfl, rfl, hT, q⟩ := h
    cases rx
    obtain ⟨t, rfl⟩ := ry
    obtain ⟨its, r, ⟨⟨cls, dd, data, sl⟩, ho, hc, n, hd⟩, hs⟩ := I.tuple hT
    simp only at hc hd
    subst hc hd
    refine wpAny_binaryOp_repeat_ref (T := "tuple") (U := "int") (by decide) ⟨_, ho, rfl⟩ (fun s' => typeIs_int s' 1 t) noFill_tuple_mul F.fills_int_mul F.slot_int_rmul repeat_tuple F.slot_int_index.lookup
      (call_meets F.slot_int_rmul (typeIs_int s 1 t) F.entry_int_rmul (F.args_int_rmul_2 _ _) (int_rmul_tuple 1 t l its.toArray n dd sl)
        ⟨ho, rfl, ⟨_, ho, rfl⟩, call_meets F.slot_tuple_mul ⟨_, ho, rfl⟩ F.entry_tuple_mul (F.args_tuple_mul_2 _ _) (tuple_mul1 l its.toArray n dd sl t) ⟨ho, ?_⟩⟩)
    exact ⟨.ref l, H, I, rfl, q⟩
end
end Ek

namespace Ek
open PySem PySem.Spec PyProof.Rows L2
/-! ### a text shown is a text -/
theorem strOk_iff {s : Str} : PyData.strOk s = true ↔ ∀ c ∈ s.cps.toList, c < 0x110000 := by
  unfold PyData.strOk
  rw [Array.all_eq_true_iff_forall_mem]
  simp
theorem strOk_app {a b : Str} (ha : PyData.strOk a = true) (hb : PyData.strOk b = true) : PyData.strOk (a ++ b) = true := by
  rw [strOk_iff] at *
  intro c m
  have e : (a ++ b).cps = a.cps ++ b.cps := rfl
  rw [e, Array.toList_append] at m
  rcases List.mem_append.mp m with m | m
  · exact ha c m
  · exact hb c m
theorem strOk_int (i : Int) : PyData.strOk (toString i : String) = true := by
  rw [strOk_iff]
  intro c m
  by_cases h : c < 0x110000
  · exact h
  · exact absurd m (int_text_free' c ⟨by omega, .inr (by omega)⟩ i)
theorem strOk_from : ∀ {ts : List Str} {k : Nat} {acc : Str}, PyData.strOk acc = true → (∀ t ∈ ts, PyData.strOk t = true) → PyData.strOk (textFrom k acc ts) = true
  | [], _, _, h, _ => h
  | t :: ts, k, acc, h, ht => by
    refine strOk_from (ts := ts) (strOk_app (strOk_app h ?_) (ht t List.mem_cons_self)) fun x m => ht x (List.mem_cons_of_mem _ m)
    split <;> decide +kernel
theorem strOk_list {ts : List Str} (ht : ∀ t ∈ ts, PyData.strOk t = true) : PyData.strOk (listText ts) = true := strOk_app (strOk_from (by decide +kernel) ht) (by decide +kernel)
theorem strOk_join : ∀ {ts : List Str}, (∀ t ∈ ts, PyData.strOk t = true) → PyData.strOk (Str.join ", " ts) = true
  | [], _ => by decide +kernel
  | [x], h => h x List.mem_cons_self
  | x :: y :: r, h => strOk_app (strOk_app (h x List.mem_cons_self) (by decide +kernel)) (strOk_join (ts := y :: r) fun t m => h t (List.mem_cons_of_mem _ m))
theorem strOk_tuple {ts : List Str} (ht : ∀ t ∈ ts, PyData.strOk t = true) : PyData.strOk (tupleText ts) = true := by
  refine strOk_app (strOk_app (by decide +kernel) (strOk_join ht)) ?_
  split <;> decide +kernel
/-- what is shown of it is a text -/
def Tx (d : PyData) : Prop := PyData.strOk d.shown = true
theorem Tx.int {i : Int} : Tx (.int i) := by
  unfold Tx
  rw [PyData.shown]
  exact strOk_int i
theorem Tx.bool {b : Bool} : Tx (.bool b) := by cases b <;> (unfold Tx; decide +kernel)
theorem Tx.none : Tx .none := by unfold Tx; decide +kernel
theorem shownAll_mem : ∀ {ds : List PyData} {t : Str}, t ∈ PyData.shownAll ds → ∃ d ∈ ds, t = d.shown
  | [], t, h => by simp [PyData.shownAll] at h
  | d :: ds, t, h => by
    rw [PyData.shownAll] at h
    rcases List.mem_cons.mp h with rfl | h
    · exact ⟨d, List.mem_cons_self, rfl⟩
    · obtain ⟨d', m, e⟩ := shownAll_mem h
      exact ⟨d', List.mem_cons_of_mem _ m, e⟩
theorem Tx.all {ds : List PyData} (h : ∀ d ∈ ds, Tx d) : ∀ t ∈ PyData.shownAll ds, PyData.strOk t = true := fun t m => by
  obtain ⟨d, md, rfl⟩ := shownAll_mem m
  exact h d md
theorem Tx.list {ds : List PyData} (h : ∀ d ∈ ds, Tx d) : Tx (.list ds) := by
  unfold Tx
  rw [PyData.shown]
  exact strOk_list (Tx.all h)
theorem Tx.tuple {ds : List PyData} (h : ∀ d ∈ ds, Tx d) : Tx (.tuple ds) := by
  unfold Tx
  rw [PyData.shown]
  exact strOk_tuple (Tx.all h)
end Ek

namespace Ek
open PySem PySem.Spec PyProof.Rows L2
/-! ### several clauses, all with the same name; what no clause names does not come -/
abbrev Suite := Addr → Value → Option Addr → TS
def lostAt (i : Nat) (D : Ends) : Ends := { nx := fun t G => D.nx (t.set i none) G, rt := D.rt, bk := fun t G => D.bk (t.set i none) G, ct := fun t G => D.ct (t.set i none) G }
def wCl (K : PySem.W.Frag) (i : Nat) (D : Ends) : List (Value × Suite) → WX
  | [] => fun _ _ _ _ => False
  | (c, ts) :: more => fun k dd t G => ∃ hit, PySem.W.exmOne K k c = some hit ∧ (hit = true → ∀ ex, G ex = none → ts ex k dd (lostAt i D) (t.set i (some (.ref ex))) G) ∧ (hit = false → wCl K i D more k dd t G)
inductive Cls2 (X : Cx) (n : Str) : List ExceptHandler → List (Value × Suite) → Prop
  | none : Cls2 X n [] []
  | one {x : Str} {c : Value} {ts : Suite} {first : Stmt} {rest : List Stmt} {p p' : Pos} {hds : List ExceptHandler} {more : List (Value × Suite)} (nm : Names X x c)
      (ok : ∀ (ex : Addr) (ob : Obj) (k : Value) (dd : Option Addr) (pn : List (Addr × Obj)), Zc k dd ob → (∃ vs, ob.data = .fields vs) → PSs (X.suite ex ((ex, ob) :: pn)) (first :: rest) (ts ex k dd)) (m : Cls2 X n hds more) : Cls2 X n (.ExceptHandler (some (.Name x p)) (some n) (first :: rest) p' :: hds) ((c, ts) :: more)
section
variable {X : Cx} {n : Str} {i : Nat} {body : List Stmt} {h1 : ExceptHandler} {hds : List ExceptHandler} {cl : List (Value × Suite)} {pos : Pos} {tb : WX → TS}
theorem ps_clauses (st : X.stack = X.env :: X.outer) (fr : X.env.frame = some X.env.locals) (nd : X.N.Nodup) (at_ : X.N[i]? = some n) (lo : X.env.kindOf n = some .local)
    (bd : ∀ (W : WX) (pn : List (Addr × Obj)) (xe : Value → Shared → Prop), Takes (X.tr pn xe) W → PassesOwn (model X.prog X.w) X.A X.env xe → PSs (X.tr pn xe) body (tb W)) (hc : Cls2 X n (h1 :: hds) cl) :
    PS X (.Try body (h1 :: hds) [] [] pos) (fun D t G => tb (wCl X.K i D cl) D t G) := by
  constructor
  intro pins s σ G D inv wish
  have good := inv.ok
  have frames : X.A.frames = some (X.env :: X.outer) := st ▸ good.frames
  have here : Loc X.env.scope n := Or.inl lo
  apply wpAny_Try_except
  have run := (bd (wCl X.K i D cl) (X.pn ++ pins) (fun ev u1 => wpAny (model X.prog X.w) X.A (noteFrame ev X.env) (fun _ u2 => wpAny (model X.prog X.w) X.A (setFlight ev none) (fun _ u3 => wpAny (model X.prog X.w) X.A (handleBy ev X.env (h1 :: hds)) (SP X pins D) X.xe u3) X.xe u2) X.xe u1) ?caught PassesOwn.looking).run [] s σ G D (inv.toTry _) wish
  refine wpAny_mono run (fun fl u r => ?through) (fun _ _ z => z)
  case caught =>
    rintro ev u ⟨ex, B, sI, pins', t, G', k, dd, rfl, iv, nb, up, sky, free, os, ag, want⟩
    have iv2 : Inv X pins t G' sI := iv.ofTry good
    change wpAny (model X.prog X.w) X.A (noteFrame (.ref ex) X.env) _ _ _
    refine Sky.land Zc.steady frames fr (show Sky B (X.env :: X.outer) ex (Zc k dd) X.env.locals u.heap from st ▸ sky) fun g3 f3 u3 => ?_
    have iv3 : Inv X pins t G' { u with heap := g3 } := iv2.landed nb f3.1 (up.trans u3) os ag
    obtain ⟨ob, vs, eob, zob, dob⟩ := f3.there
    have away : ex ∉ frs (X.env :: X.outer) := fun m => by
      obtain ⟨_, o2, e2, no⟩ := f3.2.2.1.mem m
      have same : ob = o2 := Option.some.inj (eob.symm.trans e2)
      subst same
      exact no _ dob
    have neL : ex ≠ X.env.locals := fun z => away (by
      rw [z]
      exact List.mem_filterMap.mpr ⟨X.env, by simp, fr⟩)
    have neF : ex ∉ X.fs := fun m => by
      obtain ⟨e0, m0, q0⟩ := List.mem_filterMap.mp m
      exact away (List.mem_filterMap.mpr ⟨e0, List.mem_cons_of_mem _ m0, q0⟩)
    have su3 := iv3.suite eob dob free neL neF
    have walk : ∀ {hs : List ExceptHandler} {cs : List (Value × Suite)}, Cls2 X n hs cs → wCl X.K i D cs k dd t G' → wpAny (model X.prog X.w) X.A (handleBy (.ref ex) X.env hs) (SP X pins D) X.xe { u with heap := g3 } := by
      intro hs cs hk
      induction hk with
      | none => exact fun z => False.elim z
      | @one x c ts first rest p p' hs2 more nm ok m ih =>
        rintro ⟨hit, eh, yes, no⟩
        refine wpAny_handleBy_cons (codeAny_handlers_test ?_) (by intro z; cases z)
        have look : PySem.W.Looks (model X.prog X.w) g3 (typeOf (.ref ex)) k := fun A Q E s0 kp q => wpAny_typeOf_ref (kp _ _ eob) (by rw [zob.1]; exact q)
        have says := PySem.W.exm_one (M := model X.prog X.w) iv3.kIn look eh
        have named : ∀ {Q E : Value → Shared → Prop}, Q c { u with heap := g3 } → wpAny (model X.prog X.w) (X.A.mark (some (.ref ex))) (eval (.Name x p) X.env) Q E { u with heap := g3 } := by
          intro Q E q
          rcases nm with ⟨gl, db, own | ⟨no1, bt, nn⟩⟩
          · exact ld_glob (X := X.suite ex ((ex, ob) :: (X.pn ++ pins))) su3 gl own q db
          · exact ld_blt (X := X.suite ex ((ex, ob) :: (X.pn ++ pins))) su3 gl no1 bt q nn db
        refine named (says.here ?_)
        cases hit with
        | false => exact ih (no rfl)
        | true =>
          refine codeAny_handlers_suite_as (HandSPX.lands_againZ f3 fun g4 f4 u4 => ?_)
          have iv4 : Inv X pins t G' { u with heap := g4 } := iv2.landed nb f4.1 ((up.trans u3).trans u4) os ag
          obtain ⟨ob4, vs4, eob4, zob4, dob4⟩ := f4.there
          have su4 := iv4.suite eob4 dob4 free neL neF
          refine store_ok (X := X.suite ex ((ex, ob4) :: (X.pn ++ pins))) (v := .ref ex) su4 nd at_ here rfl (fun u5 su5 => ?_) (Or.inr lo)
          have suite := (ok ex ob4 k dd (X.pn ++ pins) zob4 ⟨_, dob4⟩).run [] u5 _ G' _ su5 (yes rfl ex free)
          refine wpAny_mono suite (fun fl u6 r => ?_) (fun _ _ z => z.elim)
          have leave : ∀ {t6 : L2.St} {G6 : Hp} {Q : Shared → Prop}, Inv (X.suite ex ((ex, ob4) :: (X.pn ++ pins))) [] t6 G6 u6 → (∀ u7, Inv X pins (t6.set i none) G6 u7 → Q u7) →
              wpAny (model X.prog X.w) X.A (do bindName X.env n .none; unbindBehindTheSuite X.env n p') (fun _ u7 => Q u7) X.xe u6 := fun w q => gone_ok (w.unsuite good) nd at_ lo q
          cases fl with
          | ret v => exact r.elim fun v6 r => r.elim fun t6 r => r.elim fun G6 r => leave r.1 fun u7 w => ⟨_, _, _, w, r.2.1, r.2.2⟩
          | next => exact r.elim fun t6 r => r.elim fun G6 r => leave r.1 fun u7 w => ⟨_, _, w, r.2⟩
          | brk => exact r.elim fun t6 r => r.elim fun G6 r => leave r.1 fun u7 w => ⟨_, _, w, r.2⟩
          | cont => exact r.elim fun t6 r => r.elim fun G6 r => leave r.1 fun u7 w => ⟨_, _, w, r.2⟩
    exact walk hc want
  case through =>
    cases fl with
    | ret v => exact r.elim fun v6 r => r.elim fun t6 r => r.elim fun G6 r => ⟨v6, t6, G6, r.1.ofTry good, r.2.1, r.2.2⟩
    | next => exact r.elim fun t6 r => r.elim fun G6 r => wpAny_execs_nil ⟨t6, G6, r.1.ofTry good, r.2⟩
    | brk => exact r.elim fun t6 r => r.elim fun G6 r => ⟨t6, G6, r.1.ofTry good, r.2⟩
    | cont => exact r.elim fun t6 r => r.elim fun G6 r => ⟨t6, G6, r.1.ofTry good, r.2⟩
end
end Ek

namespace Ek
open PySem PySem.Spec PyProof.Rows L2
/-! ### a tuple from its end -/
theorem adj_rev (n : Nat) : Builtin.Slice.sliceAdjust none none (-1) (n : Int) = ((n : Int) - 1, -1) := by
  have neg : ((-1 : Int) < 0) := by decide
  simp [Builtin.Slice.sliceAdjust, neg]
theorem places_rev (n : Nat) : Builtin.Slice.slicePlaces ((n : Int) - 1) (-1) (-1) = n := by
  unfold Builtin.Slice.slicePlaces
  rw [if_neg (by decide)]
  by_cases z : n = 0
  · subst z
    rfl
  · rw [if_pos (by omega), show (-(-1) : Int) = 1 from rfl, Int.ediv_one]
    omega
theorem pick_rev (xs : Array Value) : ((List.range xs.size).filterMap fun (j : Nat) => xs[(((xs.size : Nat) : Int) - 1 + (j : Int) * (-1)).toNat]?).toArray = xs.toList.reverse.toArray := by
  congr 1
  have step : ∀ (l : List Value), ((List.range l.length).filterMap fun (j : Nat) => l[((l.length : Int) - 1 + (j : Int) * (-1)).toNat]?) = l.reverse := by
    intro l
    apply List.ext_getElem?
    intro m
    have e : ((List.range l.length).filterMap fun (j : Nat) => l[((l.length : Int) - 1 + (j : Int) * (-1)).toNat]?) = (List.range l.length).map fun j => l.getD (l.length - 1 - j) .none := by
      have go : ∀ (r : List Nat), (∀ j ∈ r, j < l.length) → (r.filterMap fun (j : Nat) => l[((l.length : Int) - 1 + (j : Int) * (-1)).toNat]?) = r.map fun j => l.getD (l.length - 1 - j) .none := by
        intro r
        induction r with
        | nil => intro _; rfl
        | cons j r ih =>
          intro hr
          have lt := hr j List.mem_cons_self
          have e2 : ((l.length : Int) - 1 + (j : Int) * (-1)).toNat = l.length - 1 - j := by omega
          have e3 : l[((l.length : Int) - 1 + (j : Int) * (-1)).toNat]? = some (l.getD (l.length - 1 - j) .none) := by
            rw [e2, List.getD_eq_getElem?_getD, List.getElem?_eq_getElem (show l.length - 1 - j < l.length by omega)]
            rfl
          simp only [List.filterMap_cons, e3, List.map_cons]
          rw [ih fun x m => hr x (List.mem_cons_of_mem _ m)]
      exact go _ fun j m => List.mem_range.mp m
    rw [e, List.getElem?_map]
    by_cases lt : m < l.length
    · rw [List.getElem?_eq_getElem (show m < (List.range l.length).length by rw [List.length_range]; exact lt), List.getElem_range, List.getElem?_reverse lt]
      show some (l.getD (l.length - 1 - m) .none) = _
      rw [List.getD_eq_getElem?_getD, List.getElem?_eq_getElem (show l.length - 1 - m < l.length by omega)]
      rfl
    · rw [List.getElem?_eq_none (by rw [List.length_range]; omega), List.getElem?_eq_none (by rw [List.length_reverse]; omega)]
      rfl
  have z := step xs.toList
  rw [Array.length_toList] at z
  simpa using z
section
variable {prog : Program} {w : World} {A : Around} {E : Value → Shared → Prop} {s : Shared}
theorem app_rev {sl : Addr} {vs : Value} {n : Nat} {Q : Int × Int × Nat → Shared → Prop} (ob : s.heap.IsSliceOf sl .none .none vs) (pt : IsPart vs (some (-1))) (h : Q ((n : Int) - 1, -1, n) s) : wpAny (model prog w) A (Builtin.Slice.sliceApplied (.ref sl) (pure (n : Int))) Q E s := by
  obtain ⟨o, ho, _, dat⟩ := id ob
  unfold Builtin.Slice.sliceApplied Builtin.Slice.sliceFields
  refine wpAny_bind (wpAny_bind (wpAny_field ho dat (x := .none) rfl (wpAny_bind (wpAny_field ho dat (x := .none) rfl (wpAny_bind (wpAny_field ho dat (x := vs) rfl (wpAny_pure ?_)))))))
  refine wpAny_bind (HT.slicePart_ pt ?_)
  change wpAny _ _ (if ((-1 : Int) == 0) = true then _ else _) _ _ s
  rw [if_neg (by decide)]
  refine wpAny_bind (HT.slicePart_ .none (wpAny_bind (HT.slicePart_ .none (wpAny_bind (wpAny_pure ?_)))))
  change wpAny _ _ (match Builtin.Slice.sliceAdjust none none (-1) (n : Int) with | (lo, hi) => pure (lo, (-1 : Int), Builtin.Slice.slicePlaces lo hi (-1))) _ _ s
  rw [adj_rev]
  change wpAny _ _ (pure ((n : Int) - 1, (-1 : Int), Builtin.Slice.slicePlaces ((n : Int) - 1) (-1) (-1))) _ _ s
  rw [places_rev]
  exact wpAny_pure h
theorem get_rev {t sl : Addr} {items : Array Value} {vs : Value} {Q : Value → Shared → Prop} (tu : IsTup s.heap t items) (ob : s.heap.IsSliceOf sl .none .none vs) (pt : IsPart vs (some (-1)))
    (h : Q (.ref s.heap.objs.size) { s with heap := s.heap.push { cls := .type "tuple", data := .seq items.toList.reverse.toArray } }) (fits : items.size ≤ sizeLine) : wpAny (model prog w) A (getItem (.ref t) (.ref sl)) Q E s := by
  have ok : sizeOk (.seq items.toList.reverse.toArray) := by
    show items.toList.reverse.toArray.size ≤ sizeLine
    simpa using fits
  obtain ⟨o, ho, cl, dat⟩ := id ob
  have isSl : s.TypeIs (.ref sl) "slice" := ⟨o, ho, cl⟩
  unfold getItem
  try with_reducible refine wpAny_holding ?_
  first | refine wpAny_bind (wpAny_pure ?_) | skip
  refine wpAny_bind (wpAny_sequenceKey tu.typeIs (by decide) (wpAny_bind (wpAny_callSpecial?_slot (name := Str.ofString "__getitem__") tu.typeIs PyProof.Rows.slot_tuple_getitem (wpAny_call_entry PyProof.Rows.slot_tuple_getitem tu.typeIs PyProof.Rows.entry_tuple_getitem ?_ (PyProof.Rows.args_tuple_getitem _ _)))))
  change wpAny _ _ (Builtin.Tuple.tupleItemsOf (.ref t) >>= _) _ _ s
  refine wpAny_bind (PyProof.Rows.tupleItemsOf_ tu (wpAny_bind (wpAny_typeOf isSl ?_)))
  rw [if_pos (by decide)]
  refine wpAny_bind (app_rev ob pt ?_)
  change wpAny _ _ (if ((((items.size : Nat) : Int) - 1 == 0) && (-1 : Int) == 1 && items.size == items.size) = true then _ else _) _ _ s
  rw [if_neg (by simp), pick_rev]
  first
    | exact wpAny_bind (m := Builtin.Tuple.tupleExact _) (wpAny_newObj_type (wpAny_pure ⟨_, rfl, wpAny_pure h⟩) ok)
    | exact wpAny_bind (m := Builtin.Tuple.tupleExact _) (wpAny_newObj_type (wpAny_bind (wpAny_pure (wpAny_pure ⟨_, rfl, wpAny_pure h⟩))) ok)
    | exact wpAny_bind (wpAny_bind (m := Builtin.Tuple.tupleExact _) (wpAny_newObj_type (wpAny_pure (wpAny_pure ⟨_, rfl, wpAny_pure h⟩)) ok))
    | exact wpAny_bind (wpAny_bind (m := Builtin.Tuple.tupleExact _) (wpAny_newObj_type (wpAny_pure ⟨_, rfl, wpAny_pure h⟩) ok))
end
/-- t[::-1] -/
def tRevT (K : PySem.W.Frag) (te : TE) : TE := fun σ H Q => te σ H fun x H1 => ∃ a xs, x = .ref a ∧ SqT K H1 a xs ∧ ∀ p, H1 p = none → Q (.ref p) (upd H1 p (.tup xs.reverse))
theorem pe_revT {X : Cx} {e : Expr} {te : TE} {k : Nat} {p1 p2 p3 pos : Pos} (he : PE X e te) : PE X (.Subscript e (.Slice none none (some (.UnaryOp .USub (.Constant (.int 1) k p1) p2)) p3) pos) (tRevT X.K te) := by
  constructor
  intro pins s σ H Q inv wish
  refine Subscript_ (thn (he.run pins s σ H _ inv wish) fun u s1 ⟨x, H1, i1, rx, a, xs, ex, hx, q⟩ => ?_)
  subst ex
  obtain rfl : u = Value.ref a := rx
  have stp : PO X (some (.UnaryOp .USub (.Constant (.int 1) k p1) p2)) (tPart (tUn (rU fun i => .int (-i)) (tC (.int 1)))) := po_some (pe_un un_neg pe_int)
  refine wpAny_Slice (thn (po_none.run pins s1 σ H1 (fun o G => o = none ∧ G = H1) i1 ⟨rfl, rfl⟩) fun v1 s2 ⟨o1, G1, i2, t1, f1, g1⟩ => ?_)
  subst f1 g1
  refine thn (po_none.run pins s2 σ G1 (fun o G => o = none ∧ G = G1) i2 ⟨rfl, rfl⟩) fun v2 s3 ⟨o2, G2, i3, t2, f2, g2⟩ => ?_
  subst f2 g2
  refine thn (stp.run pins s3 σ G2 (fun o G => o = some (-1) ∧ G = G2) i3 ⟨1, rfl, -1, rfl, rfl, rfl⟩) fun v3 s4 ⟨o3, G3, i4, t3, f3, g3⟩ => ?_
  subst f3 g3
  cases t1
  cases t2
  have i5 : Inv X pins σ G3 { s4 with heap := s4.heap.push { cls := .type "slice", data := .fields #[.none, .none, v3] } } := i4.kept (t' := s4.toks) fun b ob z => Heap.get?_push_of_some _ z
  obtain ⟨its, r, tu, fits⟩ := i5.tuple hx
  have len := r.length
  change wpAny (model X.prog X.w) X.A (subscriptTail e (.Slice none none (some (.UnaryOp .USub (.Constant (.int 1) k p1) p2)) p3) (.ref a) (.ref s4.heap.objs.size)) (EP X pins σ Q) X.xe { s4 with heap := s4.heap.push { cls := .type "slice", data := .fields #[.none, .none, v3] } }
  refine tail_any (ops := [.ref a, .ref s4.heap.objs.size]) tu.typeIs (PyProof.Rows.slot_tuple_getitem.lookup) ?_ (by with_unfolding_all rfl)
  refine get_rev tu (Heap.IsSliceOf.new _ .none .none v3) t3 ?_ (by rw [List.size_toArray]; omega)
  refine ⟨.ref _, _, i5.laid (t' := s4.toks) (o := .tup xs.reverse) (fun b ob z => Heap.get?_push_of_some _ z) (Nat.le_refl _) ?_, rfl, q _ (i5.hok.fresh (Nat.le_refl _))⟩
  exact ⟨by rw [List.length_reverse]; exact fits, _, r.reverse, IsTup.new _ _⟩
theorem pg_tupk {X : Cx} {pos : Pos} {es : List Expr} {k n : Nat} {t : TGs} (K : PySem.W.Frag) (hK : X.K = K) (hc : X.calm = true) (h : PGs X es t) (hn : (assignEach es X.env).length = n := by rfl) (hst : (assignEach es X.env).findIdx? (·.1) = none := by rfl) : PG X (.Tuple es k pos) (gTup K n t) := by
  subst hK
  exact pg_tup hc h hn hst
theorem Sm.intW {i : Int} (h : i.natAbs < 10 ^ 18) : Sm 19 0 (.int i) := by
  refine ⟨?_, by simp only [PyData.hasDict], by simp only [PyData.depth]; exact Nat.le_refl _, ?_⟩
  · simp only [PyData.showable, decide_eq_true_eq]
    by_cases z : i.natAbs = 0
    · rw [z]
      decide
    · exact Nat.lt_trans ((Nat.log2_lt z).mpr (Nat.lt_trans h (by decide : 10 ^ 18 < 2 ^ 64))) (by decide)
  · rw [PyData.shown, PySem.ofString_length]
    exact int_text_length_le10 (by decide) h
theorem pi_listk {X : Cx} {tg l : Expr} {tl : TE} (K : PySem.W.Frag) (hK : X.K = K) (hl : PE X l tl) : PI X tg l (iList K tl) := by
  subst hK
  exact pi_list hl
theorem call_tuple_ofk {X : Cx} (K : PySem.W.Frag) (hK : X.K = K) : CallR X (.type "tuple") (fun xs H Q => ∃ p ys, xs = [V.ref p] ∧ ((SqL K H p ys ∧ ∀ l, H l = none → Q (V.ref l) (upd H l (.tup ys))) ∨ (SqT K H p ys ∧ Q (V.ref p) H))) := by
  subst hK
  exact call_tuple_of
end Ek

namespace Ek
open PySem PySem.Spec PyProof.Rows L2
/-! ### x in t, x not in t: t a tuple of data -/
def rInTD (K : PySem.W.Frag) (neg : Bool) : R2 := fun x y H Q => ∃ d ds, Dp K H x d ∧ Dp K H y (.tuple ds) ∧ SeqAt.shaped d = true ∧ SeqAt.shaped (.tuple ds) = true ∧ Q (.bl (if neg then !ds.any (fun z => PyData.eqv z d) else ds.any fun z => PyData.eqv z d)) H
section
variable {X : Cx}
theorem op_inTD (hu : X.A.units + 65 < cLine) : OpR X (compareOp .In) (rInTD X.K false) := by
  intro pins s σ H x y v u Q I rx ry h
  obtain ⟨d, ds, hd, he, sd, se, q⟩ := h
  obtain ⟨as, r1⟩ := Dp.reads I d x v hd rx
  obtain ⟨bs, r2⟩ := Dp.reads I (.tuple ds) y u he ry
  exact SeqAt.in_tuple_reads r2 r1 (SeqAt.canLay_of_shaped se) (SeqAt.canLay_of_shaped sd) (room_in_shaped sd hu) ⟨.bl _, H, I, rfl, q⟩
theorem op_notInTD (hu : X.A.units + 65 < cLine) : OpR X (compareOp .NotIn) (rInTD X.K true) := by
  intro pins s σ H x y v u Q I rx ry h
  obtain ⟨d, ds, hd, he, sd, se, q⟩ := h
  obtain ⟨as, r1⟩ := Dp.reads I d x v hd rx
  obtain ⟨bs, r2⟩ := Dp.reads I (.tuple ds) y u he ry
  exact SeqAt.notIn_tuple_reads r2 r1 (SeqAt.canLay_of_shaped se) (SeqAt.canLay_of_shaped sd) (room_in_shaped sd hu) ⟨.bl _, H, I, rfl, q⟩
theorem op_ltTk (K : PySem.W.Frag) (hK : X.K = K) (hu : X.A.units < cLine) : OpR X (compareOp .Lt) (rLtT K) := by
  subst hK
  exact op_ltT hu
end
/-! ### sorted of data -/
def rSortB {β : Type} (enc : β → PyData) (val : β → V) (K : PySem.W.Frag) : List V → Hp → VK → Prop := fun vs H Q => ∃ (a : Addr) (bs : List β), vs = [V.ref a] ∧ SqL K H a (bs.map val) ∧ (∀ b ∈ bs, Dp K H (val b) (enc b)) ∧ PySem.W.AllAlike (bs.map enc) ∧ PySem.W.Sortable (bs.map enc) ∧ (∀ b ∈ bs, (enc b).depth ≤ 60) ∧
  ∀ p, H p = none → Q (.ref p) (upd H p (.lst ((bs.mergeSort (PySem.W.dataLe false enc)).map val)))
theorem each_vals {β : Type} {val : β → V} : ∀ {us : List Value} {bs : List β}, Vals (bs.map val) us → PySem.W.EachIs (fun v b => RelV (val b) v) us bs
  | us, [], h => by
    have h' : Vals [] us := h
    cases h'
    exact .nil
  | us, b :: bs, h => by
    have h' : Vals (val b :: bs.map val) us := h
    cases h' with
    | cons h1 h2 => exact .cons h1 (each_vals h2)
theorem vals_each {β : Type} {val : β → V} : ∀ {us : List Value} {bs : List β}, PySem.W.EachIs (fun v b => RelV (val b) v) us bs → Vals (bs.map val) us
  | _, _, .nil => .nil
  | _, _, .cons h t => .cons h (vals_each t)
theorem call_sortB {X : Cx} {β : Type} {enc : β → PyData} {val : β → V} (hu : X.A.units + 64 < cLine) : CallR X (.builtin "sorted") (rSortB enc val X.K) := by
  intro pins s σ H vs us Q I r h
  obtain ⟨a, bs, rfl, hs, hd, al, so, dp, q⟩ := h
  obtain ⟨its, rv, hl, hz⟩ := I.list hs
  rw [Vals.ref1 r]
  have e := each_vals rv
  have hlen : bs.length ≤ sizeLine := by rw [List.length_map] at hz; exact hz
  refine PySem.W.sorted_data (vs := its) (bs := bs) (enc := enc) (R := fun v b => RelV (val b) v) hl.isList e ((PySem.W.each_mem e).mono fun v b z => Dp.reads I (enc b) (val b) v (hd b z.2) z.1) al so hlen (fun b m => by have := dp b m; omega) fun out ho e2 => ?_
  obtain ⟨ep, he'⟩ := PyProof.Rows.sortedAll_at s.heap its out.toArray
  have hv : Vals ((bs.mergeSort (PySem.W.dataLe false enc)).map val) out := vals_each e2
  refine ⟨.ref _, upd H (s.heap.objs.size + 1) (.lst ((bs.mergeSort (PySem.W.dataLe false enc)).map val)), I.laid (t' := s.toks) (fun _ _ => PyProof.Rows.sortedAll_old) (Nat.le_succ _) ⟨?_, out, ep, hv, ?_⟩, rfl, q _ (I.hok.fresh (Nat.le_succ _))⟩
  · rw [hv.length, ho]
    exact hlen
  · simpa using he'
/-! ### enumerate over a tuple -/
def IteT (K : PySem.W.Frag) (a : Addr) : It :=
  ⟨fun i H => ∃ (xs : List V) (x : V), SqT K H a xs ∧ xs[i]? = some x, fun i H v H' => ∃ T x, v = .ref T ∧ H T = none ∧ H' = upd H T (.tup [.int (i : Nat), x]) ∧ ∀ xs, SqT K H a xs → xs[i]? = some x, fun i H => ∃ xs : List V, SqT K H a xs ∧ xs.length = i⟩
theorem turn_enumT {P : Program} {w : World} {K : PySem.W.Frag} {elts : List Expr} {kk : Nat} {tpos : Pos} (a e it : Addr) :
    Turn P w K (.Tuple elts kk tpos) (IteT K a) [e, it] e (fun i h => (∃ old, IsEnum h e it ((i : Nat) : Int) old) ∧ h.IsTupleIter it a i ∧ e ≠ it ∧ e ≠ a ∧ a ≠ it) where
  mem := by simp
  obj := fun i h st b hb => by
    obtain ⟨⟨old, he⟩, ⟨o, ho, hc, hd⟩, _⟩ := st
    have e' : b = e ∨ b = it := by simpa using hb
    rcases e' with z | z
    · rw [z]; exact ⟨_, he, fun v q => nomatch q⟩
    · rw [z]; exact ⟨o, ho, fun v q => by rw [hd] at q; cases q⟩
  keep := fun i h h' st k => let ⟨⟨old, he⟩, hi, hne⟩ := st; ⟨⟨old, k e (by simp) _ he⟩, hi.at fun o q => k it (by simp) o q, hne⟩
  item := by
    intro X hP hw hK hc i pins s σ H E I hf st hg
    subst hP hw hK
    obtain ⟨⟨old, he⟩, hit, hne, hea, hai⟩ := st
    obtain ⟨xs, x, hq, hx⟩ := hg
    obtain ⟨its, rv, p, hz⟩ := I.tuple hq
    obtain ⟨u, hu, ru⟩ := rv.get hx
    have hel : e < s.heap.objs.size := Heap.lt_size he
    have hil : it < s.heap.objs.size := by obtain ⟨_, q, _⟩ := hit; exact Heap.lt_size q
    have ilt : i < its.length := (List.getElem?_eq_some_iff.mp hu).1
    refine wpAny_pyNext_enum_itemD (P := fun i v => its.toArray[i]? = some v) (St := fun i h => h.IsTupleIter it a i ∧ h.IsTuple a its.toArray) (n := its.toArray.size) (Draws.tuple (A := X.A.in1) (I.ok.hd hc) it a hai its.toArray) he ⟨hit, p⟩ (by simpa using ilt) hne (by simp [hne, hea]) fun y h' tk hy ho hst hT hsz hk => ?_
    obtain ⟨hit', _⟩ := hst
    have ey : y = u := by
      have z : its[i]? = some y := by simpa using hy
      rw [hu] at z
      exact (Option.some.inj z).symm
    subst ey
    refine ⟨_, rfl, wpAny_letOwnedTupleGo_enum (s := { s with heap := h', toks := tk + 1 }) ho fun h'' he' sb => ?_⟩
    have hT2 : h''.get? s.heap.objs.size = some { cls := .type "tuple", data := .seq #[.int i tk, y] } := (sb.2 _ (Nat.ne_of_gt hel)).trans hT
    have new : ObjOk X.prog X.w (upd H s.heap.objs.size (.tup [.int (i : Nat), x])) h'' s.heap.objs.size (.tup [.int (i : Nat), x]) :=
      ⟨by show 2 ≤ sizeLine; decide, [.int i tk, y], .cons ⟨_, rfl⟩ (.cons ru .nil), ⟨_, hT2, rfl, _, rfl⟩⟩
    have I1 : Inv X pins σ (upd H s.heap.objs.size (.tup [.int (i : Nat), x])) { s with heap := h'', toks := tk + 1 } :=
      I.turnedNew (ch := [e, it]) (fun b ob hb q => (sb.2 b (fun z => hb (by simp [z]))).trans (hk b ob (fun z => hb (by simp [z])) (fun z => hb (by simp [z])) q)) hf (Nat.le_refl _) new
    refine ⟨.ref s.heap.objs.size, _, I1, rfl, ⟨_, x, rfl, I.hok.fresh (Nat.le_refl _), rfl, fun ys hy => by rw [I.tuple_inj hy hq]; exact hx⟩, ⟨⟨y, ?_⟩, hit'.at fun o q => (sb.2 it (Ne.symm hne)).trans q, hne, hea, hai⟩, fun b hb => ?_⟩
    · have e1 : ((i + 1 : Nat) : Int) = (i : Int) + 1 := by omega
      rw [e1]; exact he'
    · have hb' : b < s.heap.objs.size := by
        have e' : b = e ∨ b = it := by simpa using hb
        rcases e' with z | z
        · rw [z]; exact hel
        · rw [z]; exact hil
      rw [upd_ne (Nat.ne_of_lt hb')]
      exact (hf b hb).1
  done := by
    intro X hP hw hK hc i pins s σ H E I hf st hg
    subst hP hw hK
    obtain ⟨⟨old, he⟩, hit, hne, hea, hai⟩ := st
    obtain ⟨xs, hq, hx⟩ := hg
    obtain ⟨its, rv, p, hz⟩ := I.tuple hq
    obtain ⟨f0, f1, f2, f3, f4, f5⟩ := hf it (by simp)
    have hl := rv.length
    have e0 : its.toArray.size = i := by simp; omega
    subst e0
    exact wpAny_pyNext_enum_endD (Draws.tuple (A := X.A.in1) (I.ok.hd hc) it a hai its.toArray) he ⟨hit, p⟩ fun h' eb => ⟨rfl, I.turned (t' := s.toks) (fun b o hb q => eb b o hb q) f0 f1 f3 f4 f5⟩
  self := fun A i s Q E st h => let ⟨⟨_, he⟩, _⟩ := st; wpAny_pyIter_enum he h
theorem meets_enumerate_newT (l : Addr) (items : Array Value) (n : Nat) (dct : Option Addr) (sl : Array (Option Value)) :
    Meets (Builtin.«enumerate.__new__» ⟨[.type "enumerate", .ref l], []⟩) (fun _ R s => s.heap.get? l = some { cls := .type "tuple", dict := dct, data := .seq items n, slots := sl } ∧
      R (.ok (.ret (.ref (s.heap.push { cls := .type "tuple_iterator", data := .fields #[.ref l, .int 0 0] }).objs.size)))
        { s with heap := (s.heap.push { cls := .type "tuple_iterator", data := .fields #[.ref l, .int 0 0] }).push { cls := .type "enumerate", data := .fields #[.none, .bool false, .ref s.heap.objs.size, rawInt 0, .none, .none] } }) :=
  .of_wp fun prog w A R s h => by
    obtain ⟨hp, g, d, tk, os⟩ := s; obtain ⟨hl, h⟩ := h
    have hsub := sub_enumerate
    have hL : Heap.IsTuple (Shared.heap ⟨hp, g, d, tk, os⟩) l items := ⟨_, hl, rfl, n, rfl⟩
    wp_walk using wpAny_loadPart' hl
    refine wpAny_stack_any fun st => wpAny_pure ?_
    split
    · rename_i c _ _ _ _ _
      cases (c == Value.type "enumerate")
      · wp_walk using wpAny_loadPart' hl, wpAny_pyIter_tuple hL
        exact ⟨_, rfl, h⟩
      · wp_walk using wpAny_loadPart' hl, wpAny_pyIter_tuple hL
        exact ⟨_, rfl, h⟩
    · wp_walk using wpAny_loadPart' hl, wpAny_pyIter_tuple hL
      exact ⟨_, rfl, h⟩
theorem call_enumerate_tuple {prog : Program} {w : World} {A : Around} {E : Value → Shared → Prop} {s : Shared} {l : Addr} {items : Array Value} {Q : Value → Shared → Prop} (hL : s.heap.IsTuple l items)
    (h : ∀ h', IsEnum h' (s.heap.objs.size + 1) s.heap.objs.size 0 .none → h'.IsTupleIter s.heap.objs.size l 0 → h'.objs.size = s.heap.objs.size + 2 →
      (∀ b o, s.heap.get? b = some o → h'.get? b = some o) → Q (.ref (s.heap.objs.size + 1)) { s with heap := h' }) :
    wpAny (model prog w) A (call (.type "enumerate") [.ref l]) Q E s := by
  obtain ⟨⟨c, dct, dt, sl⟩, hl, hc, n, hd⟩ := hL
  replace hc : c = .type "tuple" := hc
  replace hd : dt = .seq items n := hd
  subst hc hd
  refine callType_new F.called_enumerate (by decide) (F.typeCall_enumerate_1 _) (F.newCall_enumerate_1 _) (fun obj => F.args_object_init_2 obj _) F.entry_enumerate_new
    (meets_enumerate_newT l items n dct sl) ⟨hl, ?_⟩
  have hz : (s.heap.push { cls := .type "tuple_iterator", data := .fields #[.ref l, .int 0 0] }).objs.size = s.heap.objs.size + 1 := Heap.size_push ..
  show _ ∧ _
  rw [hz]
  have he : IsEnum ((s.heap.push { cls := .type "tuple_iterator", data := .fields #[.ref l, .int 0 0] }).push
      { cls := .type "enumerate", data := .fields #[.none, .bool false, .ref s.heap.objs.size, rawInt 0, .none, .none] }) (s.heap.objs.size + 1) s.heap.objs.size 0 .none := by
    have := Heap.get?_push_size (s.heap.push { cls := .type "tuple_iterator", data := .fields #[.ref l, .int 0 0] })
      (o := { cls := .type "enumerate", data := .fields #[.none, .bool false, .ref s.heap.objs.size, rawInt 0, .none, .none] }) rfl
    rw [hz] at this; exact this
  refine ⟨⟨_, he, rfl⟩, h _ he ⟨_, Heap.get?_push_of_some _ (Heap.get?_push_size _ rfl), rfl, rfl⟩ (by rw [Heap.size_push, hz]) fun b o x => Heap.get?_push_of_some _ (Heap.get?_push_of_some _ x)⟩
def iEnumT (K : PySem.W.Frag) (ta : TA) : TI := fun σ H R => ta σ H fun vs H1 => ∃ a xs, vs = [.ref a] ∧ SqT K H1 a xs ∧ R (IteT K a) H1
theorem pi_enumT {X : Cx} {e : Expr} {ta : TA} {p pos tpos : Pos} {elts : List Expr} {kk : Nat} (hg : Gl X "enumerate") (hm : X.mg "enumerate" = none) (ha : PA X [e] ta) (hs : starEach [e] X.env = [(false, eval e X.env)] := by rfl) :
    PI X (.Tuple elts kk tpos) (.Call (.Name "enumerate" p) [e] [] pos) (iEnumT X.K ta) := by
  refine ⟨fun pins s σ H R I h => ?_⟩
  refine Call_ (ld_blt I hg hm boot_enumerate (PyProof.Rows.callWith_type1 (thn (ha.run pos pins s σ H _ I h) fun us s1 ⟨vs, H1, I1, r1, q1⟩ => ?_) hs rfl))
  obtain ⟨a, xs, ex, hq, q⟩ := q1
  subst ex
  cases r1 with
  | cons r rr =>
    cases rr
    cases r
    obtain ⟨its, rv, p', hz⟩ := I1.tuple hq
    have hal : a < s1.heap.objs.size := by
      obtain ⟨o, ho, _⟩ := id p'
      exact Heap.lt_size ho
    refine call_enumerate_tuple p' fun h' he hit hsz hk => wpAny_pyIter_enum he ?_
    have I2 : Inv X pins σ H1 { s1 with heap := h' } := I1.kept (t' := s1.toks) hk
    refine ⟨s1.heap.objs.size + 1, [s1.heap.objs.size + 1, s1.heap.objs.size], _, _, H1, rfl, I2, turn_enumT a (s1.heap.objs.size + 1) s1.heap.objs.size, ⟨⟨.none, he⟩, hit, Nat.succ_ne_self _, Nat.ne_of_gt (Nat.lt_succ_of_lt hal), Nat.ne_of_lt hal⟩, fun b hb => ?_, q⟩
    have e' : b = s1.heap.objs.size + 1 ∨ b = s1.heap.objs.size := by simpa using hb
    have hle : s1.heap.objs.size ≤ b := by
      rcases e' with z | z
      · rw [z]; exact Nat.le_add_right _ _
      · rw [z]; exact Nat.le_refl _
    exact I1.fpOk hle (I1.hok.fresh hle)
end Ek

namespace Ek
open PySem PySem.Spec PyProof.Rows L2 RZ
/-! ### sum of a tuple of ints -/
def rSumT (K : PySem.W.Frag) : List V → Hp → VK → Prop := fun vs H Q => ∃ (a : Addr) (ns : List Int), vs = [V.ref a] ∧ SqT K H a (ns.map V.int) ∧ Q (.int ns.sum) H
theorem sum_rawT {prog : Program} {w : World} {A : Around} {E : Value → Shared → Prop} {s : Shared} {l : Addr} {its : List Value} {ns : List Int} {Q : Value → Shared → Prop} (hh : A.handled = none) (hl : s.heap.IsTuple l its.toArray) (hi : IntsAre its ns)
    (h : ∀ h' tk t', (∀ b o, s.heap.get? b = some o → h'.get? b = some o) → Q (.int ns.sum t') { s with heap := h', toks := tk }) : wpAny (model prog w) A (call (.builtin "sum") [.ref l]) Q E s := by
  obtain ⟨xs, e⟩ := hi.allInts.items
  have hn : numsOf (intItems xs).toList = ns := by rw [← e]; exact hi.numsOf
  rw [nums_intItems] at hn
  rw [e] at hl
  refine PySem.W.ktm_sumG hh hl fun h' tk t' hk => ?_
  have := h h' tk t' hk
  rw [preSum_eq, List.take_of_length_le (by simp), hn]; exact this
theorem cr_sumT {X : Cx} (hc : X.calm = true) : CallR X (.builtin "sum") (rSumT X.K) := by
  intro pins s σ H vs us Q I r h
  obtain ⟨a, ns, rfl, hs, q⟩ := h
  obtain ⟨its, rv, hl, _⟩ := I.tuple hs
  rw [Vals.ref1 r]
  exact sum_rawT (I.ok.hd hc) hl rv.ints fun h' tk t' hk => ⟨.int _, H, I.kept hk, ⟨_, rfl⟩, q⟩
/-- a comprehension over zip of two tuples -/
theorem lc_zipT {K : PySem.W.Frag} {a b : Addr} {xs ys : List V} {g : TG} {tt : TT} {te : TE} {vs : List Nat} {σ : L2.St} {H1 : Hp} {D : Addr} {Qd : Hp → Prop} (Pv : Nat → Hp → Prop) (h0 : Pv 0 (upd H1 D (.lst []))) (hl : ∀ i H, i ≤ xs.length → Pv i H → SqT K H a xs ∧ SqT K H b ys) (hxy : xs.length = ys.length)
    (hs : ∀ i x y H T, xs[i]? = some x → ys[i]? = some y → Pv i H → H T = none → g (.ref T) (wipe σ vs) (upd H T (.tup [x, y])) fun σ2 H2 => wipe σ2 vs = wipe σ vs ∧ tt σ2 H2 fun b H3 =>
      if b = true then te σ2 H3 fun y H4 => ∃ acc, H4 D = some (.lst acc) ∧ acc.length < sizeLine ∧ Pv (i + 1) (upd H4 D (.lst (acc ++ [y]))) else Pv (i + 1) H3) (hd : ∀ H, Pv xs.length H → Qd H) :
    ∃ W : Nat → Nat → Hp → Prop, (∃ m, W 0 m (upd H1 D (.lst []))) ∧ ∀ i m H, W i m H →
      ((ItzT K a b).stop i H ∧ Qd H) ∨ ((ItzT K a b).go i H ∧ ∃ Nx : Hp → Prop, (∀ H', Nx H' → ∃ m', m' < m ∧ W (i + 1) m' H') ∧ ∀ x H', (ItzT K a b).yld i H x H' → g x (wipe σ vs) H' fun σ2 H2 => wipe σ2 vs = wipe σ vs ∧ tt σ2 H2 fun b H3 =>
        if b = true then te σ2 H3 fun y H4 => ∃ acc, H4 D = some (.lst acc) ∧ acc.length < sizeLine ∧ Nx (upd H4 D (.lst (acc ++ [y]))) else Nx H3) := by
  refine ⟨fun i m H => i + m = xs.length ∧ Pv i H, ⟨xs.length, by omega, h0⟩, fun i m H ⟨em, p⟩ => ?_⟩
  obtain ⟨q1, q2⟩ := hl i H (by omega) p
  by_cases lt : i < xs.length
  · have lt2 : i < ys.length := by omega
    refine .inr ⟨⟨xs, ys, xs[i], ys[i], q1, q2, List.getElem?_eq_getElem lt, List.getElem?_eq_getElem lt2⟩, Pv (i + 1), fun H' p' => ⟨m - 1, by omega, by omega, p'⟩, fun x H' y => ?_⟩
    obtain ⟨T, x1, y1, rfl, nT, rfl, gx, gy⟩ := y
    exact hs i x1 y1 H T (gx xs q1) (gy ys q2) p nT
  · obtain rfl : i = xs.length := by omega
    exact .inl ⟨⟨xs, ys, q1, q2, .inl (Nat.le_refl _)⟩, hd H p⟩
/-- for a, b in enumerate(t) -/
theorem for_enumT {K : PySem.W.Frag} {a : Addr} {xs : List V} {g : TG} {tb : TS} {D : Ends} {σ : L2.St} {H : Hp} (Pv : Nat → L2.St → Hp → Prop) (h0 : Pv 0 σ H) (hl : ∀ i σ H, i ≤ xs.length → Pv i σ H → SqT K H a xs)
    (hs : ∀ i x σ H T, xs[i]? = some x → Pv i σ H → H T = none → g (.ref T) σ (upd H T (.tup [.int (i : Nat), x])) fun σ2 H2 => tb { D with nx := Pv (i + 1), ct := Pv (i + 1), bk := D.nx } σ2 H2) (hd : ∀ σ H, Pv xs.length σ H → D.nx σ H) :
    ∃ W : Nat → Nat → L2.St → Hp → Prop, (∃ m, W 0 m σ H) ∧ ∀ i m σ H, W i m σ H →
      ((IteT K a).stop i H ∧ D.nx σ H) ∨ ((IteT K a).go i H ∧ ∃ N : L2.St → Hp → Prop, (∀ σ' H', N σ' H' → ∃ m', m' < m ∧ W (i + 1) m' σ' H') ∧ ∀ x H', (IteT K a).yld i H x H' → g x σ H' fun σ2 H2 => tb { D with nx := N, ct := N, bk := D.nx } σ2 H2) := by
  refine ⟨fun i m σ H => m = xs.length - i ∧ i ≤ xs.length ∧ Pv i σ H, ⟨xs.length, by simp, Nat.zero_le _, h0⟩, ?_⟩
  rintro i m σ H ⟨rfl, hi, p⟩
  have q := hl i σ H hi p
  by_cases hlt : i < xs.length
  · refine .inr ⟨⟨xs, xs[i], q, by simp [hlt]⟩, Pv (i + 1), fun σ' H' p' => ⟨xs.length - (i + 1), by omega, rfl, hlt, p'⟩, fun x H' y => ?_⟩
    obtain ⟨T, x1, rfl, nT, rfl, gx⟩ := y
    exact hs i x1 σ H T (gx xs q) p nT
  · have e : i = xs.length := by omega
    subst e
    exact .inl ⟨⟨xs, q, rfl⟩, hd σ H p⟩
theorem find_at {α : Type} {f : α → Bool} {l : List α} {j : Nat} {x : α} (h : l[j]? = some x) (n : (l.take j).find? f = none) (c : f x = true) : l.find? f = some x := by
  have e : l = l.take j ++ x :: l.drop (j + 1) := by
    have := List.getElem?_eq_some_iff.mp h
    obtain ⟨lt, hx⟩ := this
    rw [← hx, ← List.drop_eq_getElem_cons lt, List.take_append_drop]
  rw [e, List.find?_append, n, List.find?_cons_of_pos c]
  rfl
theorem find_no {α : Type} {f : α → Bool} {l : List α} {j : Nat} {x : α} (h : l[j]? = some x) (n : (l.take j).find? f = none) (c : ¬ f x = true) : (l.take (j + 1)).find? f = none := by
  rw [List.take_add_one, h, List.find?_append, n]
  show (none : Option α).or (List.find? f [x]) = none
  rw [List.find?_cons_of_neg c, List.find?_nil]
  rfl
theorem ru65 {k : Nat} {A : Around} (r : Room k A) : A.units + 65 < cLine := by
  have := r.un
  omega
theorem passE0 {X : Cx} {P : Program} {w : World} : Passes (L2.CX P w) X E0 := fun _ _ _ _ _ _ _ h => by
  obtain ⟨a, B, H', cls, d, _, _, _, _, _, _, _, z⟩ := h
  exact False.elim z
theorem eqv_str {a : Str} : ∀ {d : PyData}, PyData.eqv (.str a) d = true → d = .str a := fun {d} h => by
  cases d with
  | str b =>
    rw [PyData.eqv] at h
    rw [eq_of_beq h]
  | _ => simp [PyData.eqv] at h
end Ek

namespace Ek
open PySem PySem.Spec PyProof.Rows L2
/-! ### calls by name alone; calls whose errors are caught -/
def tCallW (sp : Sp) (E : XK) (t : TA) : TE := fun σ H Q => t σ H fun vs H1 => sp vs H1 Q E
def tCallT (sp : Sp) (E : L2.St → XK) (t : TA) : TE := fun σ H Q => t σ H fun vs H1 => sp vs H1 Q (E σ)
section
variable {X : Cx} {CX : CXT} {x : Str} {f : Addr} {k : Nat} {fd : FuncData} {ps ks : List Str} {sp : Sp} {E : XK} {ES : L2.St → XK} {p pos : Pos} {e : Expr} {es : List Expr} {kws : List Keyword} {ta : TA}
/-- f(k = v, ..) -/
theorem pe_callKw (F : FnOk X.prog X.w X.K X.mg X.base CX k f fd ps sp) (hr : Room k X.A) (hg : Gl X x) (hm : X.mg x = some (.ref f)) (hk : PySem.W.keepIn X.K (.ref f) = true) (hps : ps.length = ks.length) (hb : ∀ (s : Shared) (ws : List Value), ws.length = ks.length → BindsTo s fd ⟨[], ks.zip ws⟩ (ps.zip ws)) (hx : Passes CX X E) (hkw : PK X kws ta)
    (hall : (backToKw pos (keywordEach kws X.env)).all (·.1.isSome) = true := by rfl) (hks : (backToKw pos (keywordEach kws X.env)).filterMap (·.1) = ks := by rfl) (hdb : (x == ("__debug__" : Str)) = false := by decide)
    (hpl : ((backTo pos (starEach [] X.env)).any (·.1) || (backToKw pos (keywordEach kws X.env)).any (·.1.isNone)) = false := by rfl) :
    PE X (.Call (.Name x p) [] kws pos) (tCallW sp E ta) := by
  refine ⟨fun pins s σ H Q I h => ?_⟩
  refine wpAny_Call_Name_kw (ld_glob I hg hm ?_ hdb)
  refine PySem.W.callWith_KW0 (h₀ := X.base) I.ok.mod.kin hk hall ?_ hpl
  refine thn (hkw.run pos pins s σ H _ I h) fun ws s2 ⟨zs, H2, I2, rz, q2⟩ => ⟨I2.kIn, ?_⟩
  rw [hks]
  have hl : ws.length = ks.length := by
    have z := F.len _ _ _ _ q2
    rw [← rz.length]
    exact z.trans hps
  refine wpAny_call (codeAny_mono (F.run X.A X.stack s2 H2 ⟨[], ks.zip ws⟩ ws zs Q E hr I2.env0 (hb s2 ws hl) rz q2) fun r s' z => ?_)
  rcases r with er | (_ | _ | _ | u)
  · exact hx pins σ H2 s2 er s' I2 z
  · exact False.elim z
  · exact False.elim z
  · exact False.elim z
  · exact I2.after z
/-- f(e, ..), its errors caught by the try around it -/
theorem pe_callT (F : FnOk X.prog X.w X.K X.mg X.base CX k f fd ps sp) (hr : Room k X.A) (hg : Gl X x) (hm : X.mg x = some (.ref f)) (hk : PySem.W.keepIn X.K (.ref f) = true) (hb : Binds X.K fd ps []) (hx : ∀ σ, PassesAt CX X σ (ES σ)) (ha : PA X (e :: es) ta)
    (hdb : (x == ("__debug__" : Str)) = false := by decide) (he : starEach (e :: es) X.env = (false, eval e X.env) :: starEach es X.env := by rfl) (hpl : (backTo pos (starEach es X.env)).any (·.1) = false := by rfl) : PE X (.Call (.Name x p) (e :: es) [] pos) (tCallT sp ES ta) := by
  constructor
  intro pins s σ H Q I h
  refine wpAny_Call_Name_kw (ld_glob I hg hm (PySem.W.callWith_K (h₀ := X.base) I.ok.mod.kin hk (thn (ha.run pos pins s σ H _ I h) fun us s1 ⟨vs, H1, I1, r, q⟩ => ⟨I1.kIn, ?_⟩) he hpl) hdb)
  have hl : us.length = ps.length := r.length.symm.trans (F.len _ _ _ _ q)
  have z := hb s1 us I1.kIn (by simpa using hl)
  exact run_S (args := ⟨us, []⟩) (us := us) F hr (by simpa using z) (hx σ) I1 r q
end
end Ek

namespace Ek
open PySem PySem.Spec PyProof.Rows L2
/-! ### len of an object by its own __len__ -/
def rLenOwn (C : Addr) (sp : Sp) (E : XK) : List V → Hp → VK → Prop := fun xs H Q => ∃ (a dx : Addr) (fs : List (Str × V)), xs = [.ref a] ∧ H a = some (.ins C dx fs) ∧ sp [.ref a] H (fun v H' => ∃ n : Nat, v = .int n ∧ n ≤ 1000 ∧ Q v H') E
theorem call_lenOwn {X : Cx} {CX : CXT} {C f : Addr} {fd : FuncData} {ps : List Str} {k : Nat} {sp : Sp} {E : XK} (F : FnOk X.prog X.w X.K X.mg X.base CX k f fd ps sp) (hr : Room (k + 1) X.A) (hs : PySem.W.findIn X.K (.ref C) "__len__" = some (some (.ref f))) (hf : PySem.W.isFn X.K (.ref f) = true)
    (hb : Binds X.K fd ps []) (hx : Passes CX X E) : CallR X (.builtin "len") (rLenOwn C sp E) := by
  intro pins s σ H xs us Q I r h
  obtain ⟨a, dx, fs, rfl, ha, hsp⟩ := h
  rw [Vals.ref1 r]
  obtain ⟨mA, J, _⟩ := ins_get I.hok ha
  obtain ⟨od, J, _⟩ := J.look
  obtain ⟨m, hF⟩ := I.fr
  refine PySem.W.len_K hF I.ok.mod.kin J hs hf ?_
  have r2 : Vals [V.ref a] [Value.ref a] := .cons rfl .nil
  have hl := F.len _ _ _ _ hsp
  refine wpAny_call (codeAny_mono (F.run X.A.in1 X.stack s H ⟨[.ref a], []⟩ [.ref a] [.ref a] _ E hr.in1 I.env0.in1 (by
    have z := hb s [.ref a] I.kIn (by simpa using hl)
    simpa using z) r2 hsp) fun r s' z => ?_)
  rcases r with e | (_ | _ | _ | w)
  · exact hx pins σ H s e s' I z
  · exact False.elim z
  · exact False.elim z
  · exact False.elim z
  · obtain ⟨z, H', I', rz, n, ez, n9, q⟩ := I.after z
    subst ez
    obtain ⟨t, rfl⟩ := rz
    refine ⟨⟨by omega, by omega⟩, .int n, H', I'.tok _, ⟨_, rfl⟩, q⟩
/-! ### defs with parameters by name alone -/
section
variable {K : PySem.W.Frag} {x qual : Str} {params : Arguments} {body : List Stmt} {scope : Scope} {f : Addr} {fd : FuncData}
/-- every value handed in: us by place, ws by name, in order -/
theorem kb_all {v : V} {n : Str} (F : FunD K x qual params body scope [] [(n, v)] f fd) (m : Nat) (ks ps : List Str) (h : ∀ (D : Addr) (doc pm : Value) (an : Option Addr) (cdv ct : Value) (us ws : List Value), us.length = m → ws.length = ks.length →
      bindArgs (PySem.W.fnOf x qual params body scope .none (.ref D) doc pm an cdv ct) ⟨us, ks.zip ws⟩ = pure (ps.zip (us ++ ws))) : KBn K fd ps m ks (fun us ws => us ++ ws) (fun vs zs => vs ++ zs) := by
  obtain ⟨oc, od, dV, kV, doc, pm, an, cdv, ct, osl, rfl, lk, hcd, hD, hK⟩ := F.ex
  rcases hD with ⟨_, rfl⟩ | ⟨e, _⟩
  · rcases hK with e | ⟨D, rfl, hq⟩
    · exact absurd e (List.cons_ne_nil _ _)
    · refine ⟨fun s us ws X l1 l2 => BindsTo.of_looks fun M => PySem.W.Looks.of_pure (h D doc pm an cdv ct us ws l1 l2), fun r1 r2 => r1.append r2⟩
  · exact absurd rfl e
/-- the same, no value by place -/
theorem kw_all {v : V} {n : Str} (F : FunD K x qual params body scope [] [(n, v)] f fd) (ks : List Str) (h : ∀ (D : Addr) (doc pm : Value) (an : Option Addr) (cdv ct : Value) (ws : List Value), ws.length = ks.length →
      bindArgs (PySem.W.fnOf x qual params body scope .none (.ref D) doc pm an cdv ct) ⟨[], ks.zip ws⟩ = pure (ks.zip ws)) : ∀ (s : Shared) (ws : List Value), ws.length = ks.length → BindsTo s fd ⟨[], ks.zip ws⟩ (ks.zip ws) := by
  obtain ⟨oc, od, dV, kV, doc, pm, an, cdv, ct, osl, rfl, lk, hcd, hD, hK⟩ := F.ex
  rcases hD with ⟨_, rfl⟩ | ⟨e, _⟩
  · rcases hK with e | ⟨D, rfl, hq⟩
    · exact absurd e (List.cons_ne_nil _ _)
    · exact fun s ws l2 => BindsTo.of_looks fun M => PySem.W.Looks.of_pure (h D doc pm an cdv ct ws l2)
  · exact absurd rfl e
/-- the keyword-only value left out -/
theorem kb_dfl {v : V} {n : Str} (F : FunD K x qual params body scope [] [(n, v)] f fd) (m : Nat) (ps : List Str) (hn : m + 1 = ps.length) (h : ∀ (D : Addr) (doc pm : Value) (an : Option Addr) (cdv ct : Value) (us : List Value) (k : Value), us.length = m →
      KwChain D [(n, k)] (bindArgs (PySem.W.fnOf x qual params body scope .none (.ref D) doc pm an cdv ct) ⟨us, []⟩) (ps.zip (us ++ [k]))) : ∃ ds, Vals [v] ds ∧ Binds K fd ps ds := by
  refine FunD.binds0 F m (List.cons_ne_nil _ _) hn fun D doc pm an cdv ct us ks l1 l2 => ?_
  match ks, l2 with
  | [k], _ => exact h D doc pm an cdv ct us k l1
end
theorem pe_fldk {X : Cx} {e : Expr} {n : Str} {pos : Pos} {ta : TE} (K : PySem.W.Frag) (hK : X.K = K) (he : PE X e ta) (hb : attributeBase e n X.env (eval e X.env) = eval e X.env := by rfl) : PE X (.Attribute e n pos) (tFld K ta n) := by
  subst hK
  exact pe_fld he hb
end Ek

namespace Ek
open PySem PySem.Spec PyProof.Rows L2
/-! ### tuples whose own dict is known to be none: laid frozen -/
def tTupF (t : TA) : TE := fun σ H Q => t σ H fun xs H1 => xs.length ≤ sizeLine ∧ ∀ p o, o.dict = none → H1 p = none → Q (.ref p) (upd H1 p (.frz o (.tup xs)))
theorem pe_tupF {X : Cx} {es : List Expr} {t : TA} {x1 : Nat} {pos : Pos} (h : PA X es t) : PE X (.Tuple es x1 pos) (tTupF t) := by
  refine ⟨fun pins s σ H Q I hq => ?_⟩
  refine wpAny_Tuple_spliced (thn (h.run pos pins s σ H _ I hq) fun us s1 ⟨xs, H1, I1, r, z, q⟩ => ⟨by rw [← r.length]; exact z, ?_⟩)
  have hf : H1 s1.heap.objs.size = none := I1.hok.fresh (Nat.le_refl _)
  refine ⟨.ref s1.heap.objs.size, upd H1 s1.heap.objs.size (.frz { cls := .type "tuple", data := .seq us.toArray } (.tup xs)), I1.laid (t' := s1.toks) (fun b u e => Heap.get?_push_of_some _ e) (Nat.le_refl _) ?_, rfl, q _ _ rfl hf⟩
  exact ⟨Heap.get?_push_size _ rfl, z, us, r, ⟨_, Heap.get?_push_size _ rfl, rfl, _, rfl⟩⟩
def rCatF (K : PySem.W.Frag) : R2 := fun x y H Q => ∃ a b xs ys, x = .ref a ∧ y = .ref b ∧ SqT K H a xs ∧ SqT K H b ys ∧ xs.length + ys.length ≤ sizeLine ∧
  (xs = [] → Q (.ref b) H) ∧ (xs ≠ [] → ys = [] → Q (.ref a) H) ∧ (xs ≠ [] → ys ≠ [] → ∀ p o, o.dict = none → H p = none → Q (.ref p) (upd H p (.frz o (.tup (xs ++ ys)))))
theorem op_catF {X : Cx} : OpR X (binaryOp .Add) (rCatF X.K) := by
  intro pins s σ H x y v u Q I rx ry h
  obtain ⟨a, b, xs, ys, rfl, rfl, ha, hb, hz, q0, q1, q2⟩ := h
  by_cases hx : xs = []
  · exact op_catA pins s σ H _ _ v u Q I rx ry ⟨a, b, xs, ys, rfl, rfl, ha, hb, hz, q0, fun z => absurd hx z, fun z => absurd hx z⟩
  · cases rx
    cases ry
    obtain ⟨its, r1, p1, _⟩ := I.tuple ha
    obtain ⟨its2, r2, p2, _⟩ := I.tuple hb
    refine HT.cat_tup p1 p2 (fun z => hx (r1.nil_iff.mp z)) (fun z => ⟨.ref a, H, I, rfl, q1 hx (r2.nil_iff.mp z)⟩) (fun z => ?_) (by rw [← r1.length, ← r2.length]; exact hz)
    refine ⟨.ref s.heap.objs.size, _, I.laid (t' := s.toks) (o := .frz { cls := .type "tuple", data := .seq (its ++ its2).toArray } (.tup (xs ++ ys))) (fun b ob q => Heap.get?_push_of_some _ q) (Nat.le_refl _) ?_, rfl, q2 hx (fun w => z (r2.nil_iff.mpr w)) _ _ rfl (I.hok.fresh (Nat.le_refl _))⟩
    exact ⟨Heap.get?_push_size _ rfl, by rw [List.length_append]; exact hz, _, r1.append r2, IsTup.new _ _⟩
theorem op_catFk {X : Cx} (K : PySem.W.Frag) (hK : X.K = K) : OpR X (binaryOp .Add) (rCatF K) := hK ▸ op_catF
/-- t.count(n) of such a tuple of whole numbers -/
def rCountF (K : PySem.W.Frag) : V → List V → Hp → VK → Prop := fun x vs H Q => ∃ (l : Addr) (ns : List Int) (i : Int), x = .ref l ∧ vs = [.int i] ∧ SqT K H l (ns.map V.int) ∧ Q (.int (((ns.map PyData.int).countP fun y => PyData.eqv y (.int i) : Nat) : Int)) H
theorem plain_ints : ∀ {ns : List Int}, PyData.plainAll (ns.map PyData.int) = true
  | [] => by simp [PyData.plainAll]
  | n :: ns => by simp only [List.map_cons, PyData.plainAll, PyData.plain, plain_ints, Bool.and_self]
theorem dp_intsF {K : PySem.W.Frag} {H : Hp} : ∀ {ns : List Int}, DpAll K H (ns.map V.int) (ns.map PyData.int)
  | [] => .nil
  | n :: ns => .cons (.int n) dp_intsF
theorem mt_countF {X : Cx} (hu : X.A.units + 65 < cLine) : MtM X "tuple.count" (rCountF X.K) := by
  intro pins s σ H x vs v us Q I rx rv h
  obtain ⟨l, ns, i, rfl, rfl, hS, q⟩ := h
  cases rx
  obtain ⟨u, rfl, ru⟩ := rv.one
  obtain ⟨its, r, hl, _⟩ := I.tuple hS
  obtain ⟨as, r1⟩ := Dp.readsAll I (ns.map .int) (ns.map V.int) its dp_intsF r
  obtain ⟨bs, r2⟩ := Dp.reads I (.int i) (.int i) u (.int i) ru
  exact SeqAt.count_tuple_data hl (by simpa using r1) r2 plain_ints (by simp only [PyData.plain]) (by simp only [PyData.depth, Nat.min_zero, Nat.zero_min]; omega) ⟨.int _, H, I.kept (fun _ _ h => h), ⟨_, rfl⟩, q⟩
def tBMF (r : V → List V → Hp → VK → Prop) (to : TE) (t : TA) : TE := fun σ H Q => to σ H fun x H1 => (∃ p o xs, x = .ref p ∧ o.dict = none ∧ H1 p = some (.frz o (.tup xs))) ∧ t σ H1 fun xs H2 => r x xs H2 Q
theorem pe_bmF {X : Cx} {o e : Expr} {es : List Expr} {to : TE} {t : TA} {name : Str} {apos cpos : Pos} {id : String} {r : V → List V → Hp → VK → Prop} (pa : PlainAttrs "tuple") (slot : Slot "tuple" name id) (hty : typeOf (.builtin id) = pure (.type "method_descriptor")) (hm : MtM X id r) (ho : PE X o to) (ha : PA X (e :: es) t)
    (hbase : attributeBase o name X.env (eval o X.env) = eval o X.env := by rfl)
    (hfew : ((backTo cpos (starEach (e :: es) X.env)).all (fun x => !x.1) && (backToKw cpos (keywordEach [] X.env)).all (fun x => x.1.isSome)
      && decide ((e :: es).length + ([] : List Keyword).length + (if ([] : List Keyword).isEmpty then 0 else 1) < 30)) = true := by rfl)
    (hline : (apos.endLine == cpos.line) = true := by rfl) (hs : starEach (e :: es) X.env = (false, eval e X.env) :: starEach es X.env := by rfl) (hplain : (backTo cpos (starEach es X.env)).any (·.1) = false := by rfl) :
    PE X (.Call (.Attribute o name apos) (e :: es) [] cpos) (tBMF r to t) := by
  refine ⟨fun pins s σ H Q I h => ?_⟩
  refine wpAny_Call_method_late hbase hfew hline rfl (thn (ho.run pins s σ H _ I h) fun v s1 ⟨x, H1, I1, r1, ty, q1⟩ => ?_)
  obtain ⟨p, ob, xs, rfl, hd, hp⟩ := ty
  cases r1
  obtain ⟨e1, z, its, rv, ob2, e2, c2, _⟩ := (show ObjOk X.prog X.w H1 s1.heap p (.frz ob (.tup xs)) from I1.hok p _ hp)
  have h1 : s1.TypeIs (.ref p) "tuple" := ⟨ob2, e2, c2⟩
  have h2 : ∀ a, Value.ref p = .ref a → ∃ ob, s1.heap.get? a = some ob ∧ ob.dict = none := fun a e => by
    cases e
    exact ⟨ob, e1, hd⟩
  refine ⟨"tuple", id, pa, slot, hty, h1, h2, ?_⟩
  have hA := ha.run cpos pins s1 σ H1 _ I1 q1
  rw [hs] at hA ⊢
  refine Calls.callWith_builtin (by show (false || (backTo cpos (starEach es X.env)).any (·.1)) = false; rw [hplain] <;> rfl) (Calls.evalArgs_plain ?_)
  exact thn hA fun us s2 ⟨vs, H2, I2, r2, q2⟩ => hm pins s2 σ H2 (.ref p) vs (.ref p) us Q I2 rfl r2 q2
/-- what is known of a frozen tuple is let go -/
def tForget (H0 : Hp) (te : TE) : TE := fun σ H Q => (∃ a o xs, H a = some (.frz o (.tup xs)) ∧ (∀ o' u', H0 a ≠ some (.frz o' u')) ∧ te σ (upd H a (.tup xs)) Q) ∨ te σ H Q
theorem pe_forget {X : Cx} {e : Expr} {te : TE} (h : PE X e te) : PE X e (tForget X.H_0 te) := by
  refine ⟨fun pins s σ H Q I hq => ?_⟩
  rcases hq with ⟨a, o, xs, ha, hn, q⟩ | q
  · exact h.run pins s σ (upd H a (.tup xs)) Q (I.unlock ha hn) q
  · exact h.run pins s σ H Q I q
end Ek

namespace Ek
open PySem PySem.Spec PyProof.Rows L2
/-! ### the values of a dict with tuples as keys, as a list -/
section
variable {prog : Program} {w : World} {A : Around} {E : Value → Shared → Prop} {s : Shared} {d : Addr} {es : Array DictEntry} {ep : Nat}
theorem meets_vals (hd : (d == sysModules) = false) : MeetsIn prog w (Builtin.«dict.values» ⟨[.ref d], []⟩) fun _ R s => DT.Raw s.heap d es ep ∧ R (.ok (.ret (.ref s.heap.objs.size))) { s with heap := s.heap.push (DSub.viewOb "dict_values" d) } := .of_wp fun A R s ⟨hm, h⟩ => by
  refine wpAny_bind ?_; unfold Builtin.Dict.noArgs
  refine wpAny_bind (wpAny_notOrdered_dict hm.typeIs ?_); show wpAny _ _ (pure d) _ _ s
  refine wpAny_pure ?_; show wpAny _ _ (Builtin.Dict.showsAll d >>= _) _ _ s; unfold Builtin.Dict.showsAll; rw [if_neg (by rw [hd]; exact Bool.false_ne_true)]
  refine wpAny_bind (wpAny_pure ?_); exact wpAny_bind (wpAny_newObj_type (wpAny_pure ⟨_, rfl, h⟩))
theorem call_vals {Q : Value → Shared → Prop} (hd : (d == sysModules) = false) (hm : DT.Raw s.heap d es ep) (h : Q (.ref s.heap.objs.size) { s with heap := s.heap.push (DSub.viewOb "dict_values" d) }) : wpAny (model prog w) A (call (.builtin "dict.values") [.ref d]) Q E s :=
  call_meetsIn PySem.F.slot_dict_values hm.typeIs PySem.F.entry_dict_values (PySem.F.args_dict_values_1 _) (meets_vals (es := es) (ep := ep) hd) ⟨hm, h⟩
theorem kdl_vals {v : Addr} {o : Obj} (hx : o.ExactDict) (hd : o.data = .dict es ep) : PySem.W.KdlSrc prog w "dict_values" v d es.size (fun i x => ∃ en : DictEntry, es[i]? = some en ∧ x = en.val) fun h => h.get? v = some (DSub.viewOb "dict_values" d) ∧ h.get? d = some o where
  type := fun _ hm => ⟨_, hm.1, rfl⟩
  there := fun _ hm => ⟨Heap.lt_size hm.1, Heap.lt_size hm.2⟩
  keep := fun _ _ hm hk => ⟨hk v (.inl rfl) _ hm.1, hk d (.inr rfl) _ hm.2⟩
  notList := by decide
  notTuple := by decide
  hint := fun _ _ s _ hm hq => PySem.W.kdl_hint_values (s := s) ⟨_, hm.1, rfl⟩ hq
  iter := fun _ s hh hm => ⟨_, _, (fun _ _ hq => DSub.iter_vals hm.1 hm.2 hd hq), DSub.walksVal hh (Nat.ne_of_lt (Heap.lt_size hm.2)) hd (fun i e he => ⟨e, he, rfl⟩), ⟨Heap.get?_push_size _ rfl, Heap.get?_push_of_some _ hm.2⟩⟩
end
section
variable {X : Cx}
def rValsT : V → List V → Hp → VK → Prop := fun x xs H Q => ∃ (a : Addr) (kvs : List (List L2.Key × V)), x = .ref a ∧ xs = [] ∧ H a = some (.dT kvs) ∧ ∀ p, H p = none → Q (.ref p) (upd H p (viewO "dict_values" p a))
theorem mt_valsT : MtR X "dict.values" rValsT := by
  intro pins s σ H x xs v us Q I rx rxs h
  obtain ⟨a, kvs, rfl, rfl, ha, q⟩ := h
  cases rx
  cases rxs
  obtain ⟨z, hd, ws, rel, o, es, ep, ho, hx, hdat, _⟩ := dt_of I.hok ha
  refine call_vals (es := es) (ep := ep) hd ⟨o, ho, hx, hdat⟩ ?_
  exact ⟨.ref s.heap.objs.size, upd H s.heap.objs.size (viewO "dict_values" s.heap.objs.size a), I.laid (t' := s.toks) (fun b u e => Heap.get?_push_of_some _ e) (Nat.le_refl _) (viewO_ok (Heap.get?_push_size _ rfl)), rfl, q _ (I.hok.fresh (Nat.le_refl _))⟩
def rListV : List V → Hp → VK → Prop := fun xs H Q => ∃ (p a : Addr) (kvs : List (List L2.Key × V)), xs = [V.ref p] ∧ H p = some (viewO "dict_values" p a) ∧ H a = some (.dT kvs) ∧ ∀ q, H q = none → Q (.ref q) (upd H q (.lst (kvs.map (·.2))))
theorem call_list_vals (hc : X.calm = true) : CallR X (.type "list") rListV := by
  intro pins s σ H xs us Q I r h
  obtain ⟨p, d, kvs, rfl, hp, hd, q⟩ := h
  obtain ⟨u, rfl, rx⟩ := r.one
  cases rx
  have hv : s.heap.get? p = some (DSub.viewOb "dict_values" d) := (show ObjOk X.prog X.w H s.heap p (viewO "dict_values" p d) from I.hok p _ hp).1
  obtain ⟨z, hs, ks, pr, o, es, ep, ho, hx, hdt, he, hn⟩ := dt_of I.hok hd
  have l1 : es.size = ks.length := size_of_entries he
  have l2 : kvs.length = ks.length := Paired.length pr
  refine PySem.W.kdl_call (kdl_vals hx hdt) (I.ok.hd hc) ⟨hv, ho⟩ (by omega) fun h' tk acc' c' kp e it => ?_
  have rv : Vals (kvs.map (·.2)) acc'.toList := by
    have la : acc'.toList.length = acc'.size := by simp
    refine vals_of_at (by rw [List.length_map, la, it.1, l1, l2]) fun j x u h1 h2 => ?_
    obtain ⟨en, hen, rfl⟩ := it.2 j u (by rw [← Array.getElem?_toList]; exact h2)
    rw [List.getElem?_map] at h1
    obtain ⟨p, hp1, rfl⟩ := Option.map_eq_some_iff.mp h1
    have hj : j < ks.length := by have := (List.getElem?_eq_some_iff.mp hp1).1; omega
    obtain ⟨p', h3, h4⟩ := DX.pget pr (List.getElem?_eq_getElem hj)
    rw [hp1] at h3
    cases h3
    have qe := entry_at he j
    rw [hen, List.getElem?_eq_getElem hj] at qe
    have e2 : en = entryOfKey (tupleKind (mixKind X.prog X.w)) ks[j] := Option.some.inj qe
    rw [e2]
    exact h4.2.2
  have hz : (kvs.map (·.2)).length ≤ sizeLine := by rw [List.length_map]; omega
  refine ⟨.ref s.heap.objs.size, _, I.laid (t' := tk) (o := .lst (kvs.map (·.2))) kp (Nat.le_refl _) ?_, rfl, q _ (I.hok.fresh (Nat.le_refl _))⟩
  exact ⟨hz, acc'.toList, c', rv, by rw [Array.toArray_toList]; exact e⟩
/-! ### dict(t) of a tuple of pairs (tuple, value), each key once; the tuple's own dict is known to be none -/
abbrev PrT (K : PySem.W.Frag) (H : Hp) (p : Addr) (q : Addr × List L2.Key × V) : Prop := SqT K H p [.ref q.1, q.2.2] ∧ H q.1 = some (.tup (q.2.1.map kV))
theorem prsT_of {pins : List (Addr × Obj)} {σ : L2.St} {H : Hp} {s : Shared} (I : Inv X pins σ H s) : ∀ {ps : List Addr} {L : List (Addr × List L2.Key × V)}, Paired (PrT X.K H) ps L →
    ∃ prs : List (List L2.Key × Addr × Value), KT H (L.map (·.2)) prs ∧ prs.length = ps.length ∧ prs.map (·.1) = L.map (·.2.1) ∧ ∀ (j : Nat) (q : List L2.Key × Addr × Value), prs[j]? = some q → ∃ b : Addr, ps[j]? = some b ∧ IsTup s.heap b #[.ref q.2.1, q.2.2]
  | _, _, .nil => ⟨[], .nil, rfl, rfl, fun j q e => by simp at e⟩
  | _, _, .cons (a := p) (b := kv) h t => by
    obtain ⟨prs, r, hl, hk, hp⟩ := prsT_of I t
    obtain ⟨its, rv, ht, _⟩ := I.tuple h.1
    obtain ⟨u, y, ei, ru, ry⟩ := vals2 rv
    subst ei
    cases ru
    refine ⟨(kv.2.1, kv.1, y) :: prs, .cons ⟨rfl, h.2, ry⟩ r, by rw [List.length_cons, List.length_cons, hl], by rw [List.map_cons, List.map_cons, hk], fun j q e => ?_⟩
    cases j with
    | zero =>
      cases (show some (kv.2.1, kv.1, y) = some q from e)
      exact ⟨p, rfl, ht⟩
    | succ j =>
      obtain ⟨b, e1, e2⟩ := hp j q (by simpa using e)
      exact ⟨b, by simpa using e1, e2⟩
theorem kt_mem {H : Hp} {kvs : List (List L2.Key × V)} {prs : List (List L2.Key × Addr × Value)} (r : KT H kvs prs) : ∀ x ∈ prs, H x.2.1 = some (.tup (x.1.map kV)) := by
  induction r with
  | nil => intro x m; cases m
  | cons h _ ih =>
    intro x m
    rcases List.mem_cons.mp m with e | m
    · rw [e, ← h.1]; exact h.2.1
    · exact ih x m
def rDictF (K : PySem.W.Frag) : List V → Hp → VK → Prop := fun xs H Q => ∃ (a : Addr) (o : Obj) (ps : List Addr) (L : List (Addr × List L2.Key × V)), xs = [V.ref a] ∧ o.dict = none ∧ H a = some (.frz o (.tup (ps.map V.ref))) ∧ Paired (PrT K H) ps L ∧ (L.map (·.2.1)).Nodup ∧ L.length ≤ sizeLine ∧ ∀ p, H p = none → Q (.ref p) (upd H p (.dT (L.map (·.2))))
theorem call_dictF (hc : X.calm = true) (hu : X.A.units + 64 < cLine) : CallR X (.type "dict") (rDictF X.K) := by
  intro pins s σ H xs us Q I r h
  obtain ⟨a, o, ps, L, rfl, hod, ha, pr, nd, hz, q⟩ := h
  obtain ⟨u, rfl, rx⟩ := r.one
  cases rx
  obtain ⟨e1, z, its, rv, ob2, e2, c2, nn, d2⟩ := (show ObjOk X.prog X.w H s.heap a (.frz o (.tup (ps.map V.ref))) from I.hok a _ ha)
  obtain rfl : ob2 = o := Option.some.inj (e2.symm.trans e1)
  obtain ⟨prs, kt, hl, hk, hp⟩ := prsT_of I pr
  have ei := refs_at rv
  have lL : L.length = prs.length := by
    have := congrArg List.length hk
    rw [List.length_map, List.length_map] at this
    exact this.symm
  have nd2 : (prs.map (·.1)).Nodup := by rw [hk]; exact nd
  have km := kt_mem kt
  refine PySem.call_dict_pairsH (knd := tupleKind (mixKind X.prog X.w)) (ps := prs) (PySem.PairArg.tuple a its.toArray (fun j => ps.getD j 0) (prs.map fun x => (Value.ref x.2.1, x.2.2))) (I.ok.hd hc) ?room ⟨⟨_, nn, e1, c2, hod, d2⟩, ?sz, fun j k v hj => ?pr⟩ ⟨(List.length_map _).symm, fun i key v rel => ?rel⟩ (fun h' hk' x hx => ?st) (by rw [List.length_map]; omega) fun h' tk dd hkk => ?fin
  case room => exact tupleKind_room_in1 (A := X.A.in1) (by show X.A.units + 1 + 1 < cLine; omega)
  case sz => rw [ei, List.size_toArray, List.length_map, List.length_map, hl]
  case pr =>
    rw [List.getElem?_map] at hj
    obtain ⟨x, hx, ex⟩ := Option.map_eq_some_iff.mp hj
    cases ex
    obtain ⟨b, hb, tb⟩ := hp j x hx
    have eb : ps.getD j 0 = b := by rw [List.getD_eq_getElem?_getD, hb]; rfl
    show its.toArray[j]? = some (Value.ref (ps.getD j 0)) ∧ PairAt s.heap (ps.getD j 0) _ _
    rw [eb]
    exact ⟨by rw [ei, List.getElem?_toArray, List.getElem?_map, hb]; rfl, .inl tb⟩
  case rel =>
    have rel' : (prs.map fun x => (Value.ref x.2.1, x.2.2))[i]? = some (key, v) := rel
    rw [List.getElem?_map] at rel'
    obtain ⟨x, hx, ex⟩ := Option.map_eq_some_iff.mp rel'
    cases ex
    exact ⟨x.1, x.2.1, hx, rfl⟩
  case st =>
    exact PySem.tupleKind_stays.stays (fun b ob vs n e _ => hk' b ob (Nat.ne_of_lt (Heap.lt_size e)) (fun z => by cases z) e) (key_of I.hok (km x hx))
  case fin =>
    rw [PySem.storedAllH_nil_of_nodup prs nd2] at dd
    obtain ⟨oD, es, ep, h1, h2, h3, h4, _, h5⟩ := dd
    have hf : H s.heap.objs.size = none := I.hok.fresh (Nat.le_refl _)
    refine ⟨.ref s.heap.objs.size, upd H s.heap.objs.size (.dT (L.map (·.2))), I.laid (t' := tk) (fun b u e => hkk b u (fun z => by cases z) e) (Nat.le_refl _) ?_, rfl, q _ hf⟩
    exact ⟨by rw [List.length_map]; exact hz, beq_eq_false_iff_ne.mpr (Ne.symm (Nat.ne_of_lt I.big)), prs, kt.keeps fun b ys e => (by rw [upd_ne (ne_of_none e hf)]; exact e), oD, es, ep, h1, h2, h3, h4, h5⟩
/-! ### tuple(l) of a list, laid with its own dict known to be none -/
def rTupF (K : PySem.W.Frag) : List V → Hp → VK → Prop := fun xs H Q => ∃ p ys, xs = [.ref p] ∧ SqL K H p ys ∧ ∀ l o, o.dict = none → H l = none → Q (.ref l) (upd H l (.frz o (.tup ys)))
theorem call_tupleF : CallR X (.type "tuple") (rTupF X.K) := by
  intro pins s σ H xs us Q I r h
  obtain ⟨p, ys, rfl, hq, q⟩ := h
  obtain ⟨u, rfl, rx⟩ := r.one
  cases rx
  obtain ⟨its, r', pl, hz⟩ := I.list hq
  have hlen := r'.length
  refine call_tuple_list pl.isList (fun h' kp => ?_) (by simp only [List.size_toArray] <;> omega)
  have I1 : Inv X pins σ H { s with heap := h' } := I.kept (t' := s.toks) kp
  have hf : H h'.objs.size = none := I1.hok.fresh (Nat.le_refl _)
  refine ⟨.ref h'.objs.size, upd H h'.objs.size (.frz { cls := .type "tuple", data := .seq its.toArray } (.tup ys)), I1.laid (t' := s.toks) (fun b o e => Heap.get?_push_of_some _ e) (Nat.le_refl _) ?_, rfl, q _ _ rfl hf⟩
  exact ⟨Heap.get?_push_size _ rfl, hz, its, r', IsTup.new _ _⟩
theorem ru1 {k : Nat} {A : Around} (r : Room k A) : A.units + 1 < cLine := by
  have := r.un
  omega
theorem cr_allk (K : PySem.W.Frag) (hK : X.K = K) (hc : X.calm = true) : CallR X (.builtin "all") (rAll K) := hK ▸ cr_all hc
end
end Ek

namespace Ek
open PySem PySem.Spec PySem.Calls PyProof.Rows L2
/-! ### tuples, some of them empty, in order -/
def TupsA (h : Heap) : List Value → List (Option Value) → Prop
  | [], [] => True
  | v :: vs, f :: fs => (∃ a o xs n, v = .ref a ∧ h.get? a = some o ∧ o.cls = .type "tuple" ∧ o.data = .seq xs n ∧ xs[0]? = f) ∧ TupsA h vs fs
  | _, _ => False
section
variable {M : Model} {s : Shared} {A : Around} {E : Value → Shared → Prop}
theorem firstsA : ∀ (vs : List Value) (fs : List (Option Value)) {Q : List (Option Value) → Shared → Prop}, TupsA s.heap vs fs → Q fs s → wpAny M A (vs.mapM firstOfTuple') Q E s
  | [], [], _, _, now => by rw [List.mapM_nil]; exact wpAny_pure now
  | [], _ :: _, _, tups, _ => tups.elim
  | _ :: _, [], _, tups, _ => tups.elim
  | v :: vs, f :: fs, Q, tups, h => by
    obtain ⟨⟨a, o, xs, n, e, ho, hc, hd, hf⟩, t⟩ := tups; subst e
    rw [List.mapM_cons]; refine wpAny_bind ?_
    rw [PySem.W.kas_first_eq]; refine wpAny_bind (PySem.W.Looks.here (show PySem.W.Looks M s.heap (typeOf (.ref a)) o.cls from (PySem.W.Looks.ld ho).andThen .now) ?_)
    rw [hc, if_neg (by first | decide | simp)]; refine wpAny_bind (listItems_at ho hd (wpAny_pure ?_))
    rw [hf]; exact wpAny_bind (firstsA vs fs (Q := fun bs s' => wpAny M A (pure (f :: bs)) Q E s') t (wpAny_pure h))
theorem tupsA_len {h : Heap} : ∀ {vs : List Value} {fs : List (Option Value)}, TupsA h vs fs → vs.length = fs.length
  | [], [], _ => rfl
  | [], _ :: _, t => t.elim
  | _ :: _, [], t => t.elim
  | _ :: vs, _ :: fs, t => by rw [List.length_cons, List.length_cons, tupsA_len t.2]
theorem tupsA_look {h : Heap} : ∀ {vs : List Value} {fs : List (Option Value)}, TupsA h vs fs → ∀ v ∈ vs, PySem.W.Looks M h (typeOf v) (.type "tuple")
  | [], [], _, v, m => by cases m
  | [], _ :: _, t, _, _ => t.elim
  | _ :: _, [], t, _, _ => t.elim
  | u :: vs, f :: fs, t, v, m => by
    obtain ⟨⟨a, o, xs, n, e, ho, hc, hd, hf⟩, t⟩ := t
    rcases List.mem_cons.mp m with z | m
    · rw [z, e]
      exact hc ▸ (PySem.W.Looks.ld ho).andThen .now
    · exact tupsA_look t v m
theorem kindA {vs : List Value} {fs : List (Option Value)} {Q : SortKind → Shared → Prop} (t : TupsA s.heap vs fs) (h2 : 2 ≤ vs.length) (hn : fs.all (·.isSome) = false) (hg : (fs[0]?.bind id).isSome = true → Q general' s) (ho : (fs[0]?.bind id).isSome = false → Q oneType' s) : wpAny M A (keyKind' vs.toArray) Q E s := by
  have lk := tupsA_look (M := M) t
  obtain ⟨v₁, rest, rfl⟩ : ∃ v₁ rest, vs = v₁ :: rest := by
    cases vs with
    | nil => simp at h2
    | cons a l => exact ⟨a, l, rfl⟩
  rw [keyKind'_eq, List.mapM_toArray, map_eq_pure_bind]; refine wpAny_bind (wpAny_bind (firstsA _ fs t (wpAny_pure ?_)))
  have hn' : (fs.toArray.all fun x => x.isSome) = false := by rw [List.all_toArray]; exact hn
  have h0 : fs.toArray[0]? = fs[0]? := by simp
  rw [if_neg (by rw [hn']; decide), h0]
  cases c : (fs[0]?.bind id).isSome with
  | true =>
    rw [if_pos rfl]
    exact wpAny_pure (hg c)
  | false =>
    rw [if_neg (by decide), oneTypeOnly'_eq, List.mapM_toArray, map_eq_pure_bind]
    refine wpAny_bind (wpAny_bind (wpAny_bind (PySem.W.kas_mapM (r := Value.type "tuple") _ (fun v hv Q' hq => (lk v hv).here hq) (wpAny_pure ?_))))
    have hall : ((List.map (fun _ => Value.type "tuple") (v₁ :: rest)).toArray.all fun x => x == Value.type "tuple") = true := by
      simp only [List.all_toArray, List.all_map, List.all_eq_true]; intro _ _; exact beq_self_eq_true _
    have h00 : (List.map (fun _ => Value.type "tuple") (v₁ :: rest)).toArray[0]? = some (Value.type "tuple") := by simp
    rw [h00]; simp only [hall, if_true]; exact wpAny_pure (wpAny_pure (ho c))
end
/-! ### the order of two tuples of data, as the sort asks for it -/
section
variable {s : Shared} {prog : Program} {w : World} {A : Around} {E : Value → Shared → Prop}
open PySem.SeqAt in
theorem oneLt_tup {xs ys : List PyData} {a b : Value} {as bs : List Addr} {Q : Bool → Shared → Prop} (ra : Reads s.heap a (.tuple xs) as) (rb : Reads s.heap b (.tuple ys) bs) (h : PySem.W.alike (.tuple xs) (.tuple ys) = true) (hu : A.units + min (PyData.tuple xs).depth (PyData.tuple ys).depth < cLine) (hq : Q (PySem.W.dataLt (.tuple xs) (.tuple ys)) s) : wpAny (model prog w) A (oneLt' true a b) Q E s := by
  have hal : PySem.W.alikeAll xs ys = true := by simpa [PySem.W.alike] using h
  cases ra with
  | @tuple l o vs n _ _ h1 h2 h3 h4 =>
    cases rb with
    | @tuple l' o' vs' n' _ _ k1 k2 k3 k4 =>
      have n1 : vs.size = xs.length := by simpa using PySem.SeqAt.ReadsAll.length _ _ _ h4
      have n2 : vs'.size = ys.length := by simpa using PySem.SeqAt.ReadsAll.length _ _ _ k4
      rw [PySem.W.dataLt_tuple, ← PySem.W.firstLt_toks xs ys hal, ← n1, ← n2] at hq
      rw [oneLt'_eq]; simp only [if_true]
      refine wpAny_bind (wpAny_cRoomFor (PySem.SeqAt.room_here hu) ?_)
      obtain ⟨cls, dd, data, sl⟩ := o; obtain ⟨cls2, dd2, data2, sl2⟩ := o'
      simp only at h2 h3 k2 k3
      subst h2 h3 k2 k3
      refine wpAny_bind (wpAny_callSpecialIfBound?_slot (T := "tuple") ⟨_, h1, rfl⟩ PySem.F.slot_tuple_lt (call_meets PySem.F.slot_tuple_lt ⟨_, h1, rfl⟩ PySem.F.entry_tuple_lt (PySem.F.args_tuple_lt_2 _ _) (PySem.SeqAt.tuple_ltAt _ _ vs vs' n n' dd dd2 sl sl2 (pairEq xs ys) (fun j => PySem.W.dataLt (xs.getD j .none) (ys.getD j .none))) ⟨h1, k1, fun j j1 j2 => ?_, fun j j1 j2 hj => ?_, ?_⟩))
      · have z := PySem.W.eqAt_alikeAll xs ys A.in1 s vs.toList vs'.toList _ _ h4 k4 hal (PySem.SeqAt.room_in hu) j (by simpa using j1) (by simpa using j2); simpa using z
      · have z := PySem.W.rcLt_alikeAll xs ys A.in1 s vs.toList vs'.toList _ _ h4 k4 hal (PySem.SeqAt.room_in hu) j (by simpa using j1) (by simpa using j2) hj; simpa using z
      · exact wpAny_truthy_bool hq
end
theorem eachA {h : Heap} : ∀ {vs : List Value} {ds : List PyData}, PySem.W.EachIs (fun v d => ∃ as, Reads h v d as) vs ds → (∀ d, d ∈ ds → ∃ xs, d = .tuple xs) → ∃ fs, TupsA h vs fs ∧ (fs.all (·.isSome) = true → ∀ d, d ∈ ds → ∃ x r, d = .tuple (x :: r))
  | _, _, .nil, _ => ⟨[], trivial, fun _ d m => by cases m⟩
  | _, _, .cons (b := d) ⟨_, r⟩ t, ht => by
    obtain ⟨fs, h1, h2⟩ := eachA t fun d hd => ht d (List.mem_cons_of_mem _ hd)
    obtain ⟨ys, rfl⟩ := ht d (List.mem_cons_self ..)
    cases r with
    | @tuple a o xs c _ _ ho hc hd hr =>
      refine ⟨xs[0]? :: fs, ⟨⟨a, o, xs, c, rfl, ho, hc, hd, rfl⟩, h1⟩, fun z d m => ?_⟩
      rw [List.all_cons, Bool.and_eq_true] at z
      rcases List.mem_cons.mp m with e | m
      · cases ys with
        | nil =>
          have l0 : xs.toList.length = 0 := PySem.SeqAt.ReadsAll.length _ _ _ hr
          have : xs[0]? = none := by rw [← Array.getElem?_toList]; exact List.getElem?_eq_none (by omega)
          rw [this] at z; exact absurd z.1 (by decide)
        | cons y ys => exact ⟨y, ys, e⟩
      · exact h2 z.2 d m
section
variable {s : Shared} {prog : Program} {w : World} {A : Around}
theorem sortsTups {vs : List Value} {ds : List PyData} (e : PySem.W.EachIs (fun v d => ∃ as, Reads s.heap v d as) vs ds) (hal : PySem.W.AllAlike ds) (ht : ∀ d, d ∈ ds → ∃ xs, d = .tuple xs) (hu : ∀ d, d ∈ ds → A.units + d.depth < cLine) : PySem.W.SortsAt prog w A s (PySem.W.dataKind s.heap ds) vs := by
  have room : ∀ {d d' : PyData}, d ∈ ds → A.units + min d.depth d'.depth < cLine := fun {d d'} hd => by have := hu d hd; omega
  obtain ⟨fs, t, hz⟩ := eachA e ht
  by_cases c : fs.all (·.isSome) = true
  · exact PySem.W.SortsAt.data e hal (.inl (hz c)) hu
  · have c' : fs.all (·.isSome) = false := by simpa using c
    refine ⟨fun v hv => ?_, ?_⟩
    · obtain ⟨d, hd, _, r⟩ := e.left v hv; exact ⟨_, PySem.W.dataKind_some hal hd r⟩
    · cases g : (fs[0]?.bind id).isSome with
      | true =>
        refine ⟨general', fun E x y a b Q ha hb hq => ?_, fun h2 E Q hq => kindA t h2 c' (fun _ => hq) (fun z => by rw [g] at z; cases z)⟩
        obtain ⟨d, as, hd, ra, rfl⟩ := PySem.W.dataKind_inv ha
        obtain ⟨d', as', hd', rb, rfl⟩ := PySem.W.dataKind_inv hb
        obtain ⟨u, rfl⟩ := ht d hd
        exact PySem.W.oneLt_alike (f := false) (fun z => by cases z) ra rb (hal _ hd _ hd') (fun z => by cases z) (room hd) hq
      | false =>
        refine ⟨oneType', fun E x y a b Q ha hb hq => ?_, fun h2 E Q hq => kindA t h2 c' (fun z => by rw [g] at z; cases z) (fun _ => hq)⟩
        obtain ⟨d, as, hd, ra, rfl⟩ := PySem.W.dataKind_inv ha
        obtain ⟨d', as', hd', rb, rfl⟩ := PySem.W.dataKind_inv hb
        obtain ⟨u, rfl⟩ := ht d hd; obtain ⟨u', rfl⟩ := ht d' hd'
        exact oneLt_tup ra rb (hal _ hd _ hd') (room hd) hq
end
/-! ### sorted(d) of a dict with tuples of numbers as keys -/
section
variable {X : Cx}
def encT (z : Addr × List Int) : PyData := .tuple (z.2.map .int)
theorem alikeT (x y : Addr × List Int) : PySem.W.alike (encT x) (encT y) = true := by unfold encT; simp [PySem.W.alike, PySem.W.alike_ints]
theorem depthT (x : Addr × List Int) : (encT x).depth ≤ 60 := by unfold encT; simp [PyData.depth, PySem.W.depth_ints]
theorem dpInts {K : PySem.W.Frag} {H : Hp} : ∀ {xs : List Int}, DpAll K H (xs.map V.int) (xs.map .int)
  | [] => .nil
  | x :: xs => .cons (.int x) dpInts
def rSortedT : List V → Hp → VK → Prop := fun xs H Q => ∃ (d : Addr) (kvs : List (List L2.Key × V)) (ks : List (List Int)), xs = [V.ref d] ∧ Rd H d (.dT kvs) ∧ kvs.map (·.1) = ks.map (·.map Sum.inl) ∧
  ∀ (p : Addr) (zs : List (Addr × List Int)), H p = none → zs.map (·.2) = ks → (∀ z ∈ zs, H z.1 = some (.tup (z.2.map V.int))) → Q (.ref p) (upd H p (.lst ((zs.mergeSort (PySem.W.dataLe false encT)).map fun z => V.ref z.1)))
theorem zsOf {H : Hp} : ∀ {kvs : List (List L2.Key × V)} {ws : List (List L2.Key × Addr × Value)} {ks : List (List Int)}, KT H kvs ws → kvs.map (·.1) = ks.map (·.map Sum.inl) → ∃ zs : List (Addr × List Int), zs.map (·.2) = ks ∧ (∀ z ∈ zs, H z.1 = some (.tup (z.2.map V.int))) ∧ zs.map (fun z => Value.ref z.1) = ws.map fun x => Value.ref x.2.1
  | [], _, [], .nil, _ => ⟨[], rfl, fun z m => (by cases m), rfl⟩
  | [], _, _ :: _, .nil, h => by simp at h
  | _ :: _, _, [], _, h => by simp at h
  | _ :: kvs, _, k :: ks, .cons (b := b) h1 t, h => by
    rw [List.map_cons, List.map_cons] at h; injection h with e1 e2
    obtain ⟨zs, a1, a2, a3⟩ := zsOf t e2
    refine ⟨(b.2.1, k) :: zs, by rw [List.map_cons, a1], fun z m => ?_, by rw [List.map_cons, List.map_cons, a3]⟩
    rcases List.mem_cons.mp m with e | m
    · rw [e]; have h2 := h1.2.1; rw [e1, List.map_map] at h2; exact h2
    · exact a2 z m
theorem call_sortedDT (hc : X.calm = true) (hu : X.A.units + 64 < cLine) : CallR X (.builtin "sorted") rSortedT := by
  intro pins s σ H xs us Q I r told
  obtain ⟨d, kvs, ks, ex, hd, hks, q⟩ := told
  subst ex
  obtain ⟨u, eu, rx⟩ := r.one
  subst eu
  cases rx
  obtain ⟨z, hs, ws, pr, o, es, ep, ho, hx, hdt, he, hn⟩ := (show ObjOk X.prog X.w H s.heap d (.dT kvs) from hd.ok I.hok)
  have l1 : es.size = ws.length := size_of_entries he
  have l2 : kvs.length = ws.length := Paired.length pr
  obtain ⟨zs, z1, z2, z3⟩ := zsOf pr hks
  have l3 : zs.length = ws.length := by have := congrArg List.length z3; simpa using this
  refine call_function_entry PyProof.Rows.kind_sorted PyProof.Rows.plain_sorted PyProof.Rows.entry_sorted (PyProof.Rows.args_sorted1 (.ref d)) ?_; unfold Builtin.«sorted»; refine wpAny_bind (m := checkCount "sorted" 1 1 _) (wpAny_pure ?_)
  refine wpAny_bind (PySem.W.kdu_collect (A := X.A.in1) (kdl_raw hs hx hdt) (I.ok.hd hc) ho (by omega) fun h' tk acc hk it => ?_)
  have ea : acc.toList = zs.map fun z => Value.ref z.1 := by
    rw [z3]
    have hl : acc.toList.length = ws.length := by rw [Array.length_toList, it.1]; exact l1
    apply List.ext_getElem?
    intro j; rw [List.getElem?_map]
    cases hj : acc.toList[j]? with
    | none => rw [List.getElem?_eq_none (by have := List.getElem?_eq_none_iff.mp hj; omega)]; all_goals rfl
    | some v =>
      obtain ⟨en, hen, hv⟩ := it.2 j v (by rw [← Array.getElem?_toList]; exact hj); have qe := entry_at he j
      rw [hen] at qe
      cases hb : ws[j]? with
      | none => rw [hb] at qe; exact nomatch (show some en = none from qe)
      | some b =>
        rw [hb] at qe; have e2 : en = entryOfKey (tupleKind (mixKind X.prog X.w)) b := Option.some.inj qe
        rw [hv, e2]
        all_goals rfl
  have hal : acc.toList.length = zs.length := by rw [ea, List.length_map]
  have I1 : Inv X pins σ H { s with heap := h', toks := tk } := I.kept hk; refine wpAny_bind (wpAny_newList ?_ (by rw [hal]; omega)); have hoL : (h'.push (seqObj "list" acc.toList.toArray 0)).get? h'.objs.size = some (seqObj "list" acc.toList.toArray 0) := Heap.get?_push_size _ rfl; show wpAny _ _ _ _ _ { s with heap := h'.push (seqObj "list" acc.toList.toArray 0), toks := tk }
  have rv : Vals (zs.map fun z => V.ref z.1) acc.toList := by
    rw [ea]; have := vals_refs (zs.map (·.1)); rwa [List.map_map, List.map_map] at this
  have e := each_vals rv
  have e0 : PySem.W.EachIs (fun v b => ∃ as, Reads h' v (encT b) as) acc.toList zs := (PySem.W.each_mem e).mono fun v b z => Dp.reads I1 (encT b) (V.ref b.1) v (.tup (Or.inl (Or.inl (z2 b z.2))) dpInts) z.1
  have er : PySem.W.EachIs (fun v b => ∃ as, Reads (PySem.W.sortingHeap (h'.push (seqObj "list" acc.toList.toArray 0)) h'.objs.size acc.toList) v (encT b) as) acc.toList zs := e0.mono fun v b ⟨as, r⟩ => ⟨as, PyProof.Rows.Reads.keeps (fun b' o' q' => PySem.W.sortingHeap_old (Nat.ne_of_lt (Heap.lt_size q')) (Heap.get?_push_of_some _ q')) r⟩
  have al : PySem.W.AllAlike (zs.map encT) := PySem.W.AllAlike.of alikeT
  refine wpAny_bind (wpAny_holding (wpAny_call_entry PyProof.Rows.slot_list_sort ⟨_, hoL, rfl⟩ PyProof.Rows.entry_list_sort (PySem.W.list_sort_vals (s := { s with heap := h'.push (seqObj "list" acc.toList.toArray 0), toks := tk }) hoL (sortsTups (PySem.W.each_map (R := fun v d => ∃ as, Reads (PySem.W.sortingHeap (h'.push (seqObj "list" acc.toList.toArray 0)) h'.objs.size acc.toList) v d as) encT er) al (fun d m => by
      obtain ⟨b, _, rfl⟩ := List.mem_map.mp m
      exact ⟨_, rfl⟩) (fun d m => by
      obtain ⟨b, _, rfl⟩ := List.mem_map.mp m
      have := depthT b
      show X.A.units + 1 + 1 + _ < _
      omega)) (by rw [hal]; omega) ⟨_, rfl, ?_⟩) (PyProof.Rows.args_list_sort _)))
  have e2 := PySem.W.sortVals_data false e er al
  obtain ⟨e', he'⟩ := PyProof.Rows.sortedHeap_at (vs := acc.toList) (out := (PySem.W.sortVals (PySem.W.dataKind (PySem.W.sortingHeap (h'.push (seqObj "list" acc.toList.toArray 0)) h'.objs.size acc.toList) (zs.map encT)) false acc.toList acc.toList).toArray) hoL
  have hv : Vals ((zs.mergeSort (PySem.W.dataLe false encT)).map fun z => V.ref z.1) (PySem.W.sortVals (PySem.W.dataKind (PySem.W.sortingHeap (h'.push (seqObj "list" acc.toList.toArray 0)) h'.objs.size acc.toList) (zs.map encT)) false acc.toList acc.toList) := vals_each (val := fun z : Addr × List Int => V.ref z.1) e2
  have hlen : ((zs.mergeSort (PySem.W.dataLe false encT)).map fun z => V.ref z.1).length ≤ sizeLine := by
    rw [List.length_map, List.length_mergeSort]; omega
  refine wpAny_pure ⟨_, rfl, .ref h'.objs.size, upd H h'.objs.size (.lst ((zs.mergeSort (PySem.W.dataLe false encT)).map fun z => V.ref z.1)), I1.laid (t' := tk) (fun b u e => ?_) (Nat.le_refl _)
    (show ObjOk X.prog X.w _ _ _ (.lst ((zs.mergeSort (PySem.W.dataLe false encT)).map fun z => V.ref z.1)) from ⟨hlen, _, e', hv, he'⟩), rfl, q _ zs (I1.hok.fresh (Nat.le_refl _)) z1 z2⟩
  have lb : b < h'.objs.size := Heap.lt_size e
  rw [PyProof.Rows.sortedHeap_old (Nat.ne_of_lt lb) (by rw [size_push']; exact Nat.lt_succ_of_lt lb)]; exact Heap.get?_push_of_some _ e
end
end Ek

namespace Ek
open PySem PySem.Spec PySem.Calls PyProof.Rows L2
/-! ### set(..) of a list of ints -/
/-- a set as it is laid: nothing in it -/
def bare (w : World) : Obj := { cls := .type "set", dict := none, data := .set #[] 0 (.fresh 0 0 (!w.params.followText "set-order")) }
section
variable {P : Program} {w : World} {A : Around} {E : Value → Shared → Prop} {s : Shared}
/-- what is known once the set at p holds the ints -/
def Full (w : World) (s : Shared) (ns : List Int) (r : Value) (t : Shared) : Prop := r = .none ∧ ∃ G k c, t = { s with heap := G, toks := k } ∧ SetR w G s.heap.objs.size (fun j => decide (j ∈ ns)) c ∧ c ≤ ns.length ∧ ∀ b o, s.heap.get? b = some o → G.get? b = some o
theorem vals_at {us : List Value} {ns : List Int} (r : IntsAre us ns) (e : us.length = ns.length) : ∀ (i : Nat) (v : Value), us.toArray[i]? = some v → ∃ k t, ns[i]? = some k ∧ v = .int k t := fun i v g => by
  have li : i < ns.length := by
    have z := (Array.getElem?_eq_some_iff.mp g).1
    rw [List.size_toArray] at z
    omega
  obtain ⟨t, f⟩ := PyProof.Rows.IntsAre.int_at r i v (by simpa using g)
  exact ⟨ns[i], t, List.getElem?_eq_getElem li, by rw [f, List.getD_eq_getElem?_getD, List.getElem?_eq_getElem li]; rfl⟩
set_option maxHeartbeats 3200000 in
theorem fill_L {l : Addr} {us : List Value} {ns : List Int} (hh : A.handled = none) (hl : s.heap.IsList l us.toArray) (r : IntsAre us ns) (few : ns.length + 1 < scanBound) :
    wpAny (model P w) A.in1 (Builtin.«set.__init__» ⟨[.ref s.heap.objs.size] ++ [.ref l], []⟩) (fun x t => match x with
      | .done f => wants (Full w s ns) E (.ok f) t
      | .again c => c.quiet = true ∧ codeAny (model P w) A c (wants (Full w s ns) E) t) (fun e t => wants (Full w s ns) E (.error e) t) { s with heap := s.heap.push (bare w) } := by
  have en : us.length = ns.length := IntsAre.length r
  obtain ⟨⟨c0, d0, x0, y0⟩, g0, c1, n0, x1⟩ := hl
  simp only at c1 x1
  subst c1 x1
  have g1 : (s.heap.push (bare w)).get? l = some ⟨.type "list", d0, .seq us.toArray n0, y0⟩ := Heap.get?_push_of_some _ g0
  have i1 : (s.heap.push (bare w)).IsList l us.toArray := ⟨_, g1, rfl, n0, rfl⟩
  have sub1 := F.sub_list_set
  have sub2 := F.sub_list_frozenset
  have nd : (Value.type "list" == Value.type "dict") = false := rfl
  have lt : l < s.heap.objs.size := Heap.lt_size g0
  have sz : (s.heap.push (bare w)).objs.size = s.heap.objs.size + 1 := Heap.size_push ..
  have gS : (s.heap.push (bare w)).get? s.heap.objs.size = some (bare w) := Heap.get?_push_size _ rfl
  unfold Builtin.«set.__init__» noKeywords Builtin.Frozenset.updateFrom
  generalize hI : pyIter = I
  wp_walk
  subst hI
  refine wpAny_pyIter_list i1 (wpAny_bind (wpAny_runValue ?_))
  have h3 : A.in1.in1.handled = none := hh
  have apart : l ≠ (s.heap.push (bare w)).objs.size := by rw [sz]; exact Nat.ne_of_lt (Nat.lt_succ_of_lt lt)
  have out : s.heap.objs.size ∉ [(s.heap.push (bare w)).objs.size, l] := by rw [sz]; exact fun m => (List.mem_cons.mp m).elim (Nat.ne_of_lt (Nat.lt_succ_self _)) fun m => Nat.ne_of_gt lt (List.mem_singleton.mp m)
  refine set_update_ints ((Walks.list h3 _ l apart us.toArray).toS) s.heap.objs.size out ns (by simpa using en) few (vals_at r en) (us.toArray.size - 0) 0 _ (by omega) (Nat.zero_le _)
    ⟨⟨_, Heap.get?_push_size _ rfl, rfl, rfl⟩, i1.push _⟩ ⟨0, Nat.le_refl 0, setR_new_at (h := (s.heap.push (bare w)).push { cls := .type "list_iterator", data := .fields #[.ref l, .int 0 0] }) (Heap.get?_push_of_some _ gS)⟩ fun s' c m lc R => ?_
  have m1 := m.gens
  have m2 := m.drawn
  have m3 := m.os
  have m4 := m.heap
  obtain ⟨G, g2, d2, k2, o2⟩ := s'
  simp only at m1 m2 m3
  subst m1 m2 m3
  refine wpAny_pure (wpAny_pure ⟨rfl, G, k2, c, rfl, R, by simpa [en] using lc, fun b o e => m4 b o ?_ (Heap.get?_push_of_some _ (Heap.get?_push_of_some _ e))⟩)
  have lb : b < s.heap.objs.size := Heap.lt_size e
  rw [sz]
  exact fun m => (List.mem_cons.mp m).elim (Nat.ne_of_lt lb) fun m => Nat.ne_of_lt (Nat.lt_succ_of_lt lb) (List.mem_singleton.mp m)
end
section
variable {X : Cx}
/-- set(xs) of a list of ints -/
def rSetI (K : PySem.W.Frag) (w : World) : List V → Hp → VK → Prop := fun vs H Q => ∃ (a : Addr) (ns : List Int), vs = [V.ref a] ∧ SqL K H a (ns.map V.int) ∧ ns.length ≤ 1000 ∧ ∀ p so, H p = none → (∃ c, c ≤ ns.length ∧ so = SetO w p (fun j => decide (j ∈ ns)) c) → Q (.ref p) (upd H p so)
theorem set_made {P : Program} {w : World} {A : Around} {E : Value → Shared → Prop} {s : Shared} {l : Addr} {us : List Value} {ns : List Int} {Q : Value → Shared → Prop} (hh : A.handled = none) (hl : s.heap.IsList l us.toArray) (r : IntsAre us ns) (few : ns.length + 1 < scanBound)
    (q : ∀ t, Full w s ns .none t → Q (.ref s.heap.objs.size) t) : wpAny (model P w) A (call (.type "set") [.ref l]) Q E s := by
  obtain ⟨_, _, mro⟩ := F.called_set.mro
  have made := F.called_set.made
  have sub := F.called_set.sub
  have notT := F.called_set.notType
  have can := F.called_set.canCreate
  have tc := F.typeCall_set_1 (.ref l)
  refine wpAny_call (codeAny_of_tree (show wpAny _ _ (callAny (.type "set") _) _ _ _ from wpAny_pure ⟨Code.quiet_builtin _ (by decide +kernel), codeAny_builtin F.entry_type_call ?_⟩))
  rw [Around.under_plain (weight_type_call_type "set" [.ref l] []) rfl]
  repeat (any_goals (first | assumption | wp_step))
  refine codeAny_mono (code_set_led1 (.ref l) (E := E) (Q₁ := fun o t => o = .ref s.heap.objs.size ∧ t = { s with heap := s.heap.push (bare w) }) ⟨rfl, rfl⟩) fun a t at_ => ?_
  rcases a with fl | e
  · exact at_
  · cases e with
    | ret o =>
      obtain ⟨rfl, rfl⟩ := at_
      have laid : (s.heap.push (bare w)).get? s.heap.objs.size = some (bare w) := Heap.get?_push_size _ rfl
      have isS : Shared.TypeIs { s with heap := s.heap.push (bare w) } (.ref s.heap.objs.size) "set" := ⟨_, laid, rfl⟩
      have look := F.called_set.init.lookup
      have bnd := F.called_set.init.bind (.ref s.heap.objs.size)
      repeat (any_goals (first | assumption | wp_step))
      refine codeAny_mono (codeAny_call_builtin (R := wants (Full w s ns) E) F.called_set.init.plain F.entry_set_init (check_set_init_1 isS (fill_L hh hl r few))) fun b t2 bt => ?_
      rcases b with fl2 | e2
      · exact bt
      · cases e2 with
        | ret v =>
          have e3 : v = .none := bt.1
          subst e3
          repeat (any_goals (first | assumption | wp_step))
          exact q _ bt
        | _ => exact bt.elim
    | _ => exact at_.elim
theorem call_setI (hc : X.calm = true) : CallR X (.type "set") (rSetI X.K X.w) := by
  intro pins s σ H xs us Q I r h
  obtain ⟨a, ns, rfl, hs, few, q⟩ := h
  obtain ⟨its, rv, hl, _⟩ := I.list hs
  rw [Vals.ref1 r]
  refine set_made (I.ok.hd hc) hl.isList (ints_of_vals rv) (by unfold scanBound; omega) fun t ft => ?_
  obtain ⟨_, G, k, c, rfl, R, lc, kp⟩ := ft
  exact ⟨.ref _, upd H s.heap.objs.size (SetO X.w s.heap.objs.size (fun j => decide (j ∈ ns)) c), I.laid (t' := k) kp (Nat.le_refl _) (setO_new R), rfl, q _ _ (I.hok.fresh (Nat.le_refl _)) ⟨c, lc, rfl⟩⟩
/-! ### sorted of tuples, some of them empty -/
def rSortZ {β : Type} (enc : β → PyData) (val : β → V) (K : PySem.W.Frag) : List V → Hp → VK → Prop := fun vs H Q => ∃ (a : Addr) (bs : List β), vs = [V.ref a] ∧ SqL K H a (bs.map val) ∧ (∀ b ∈ bs, Dp K H (val b) (enc b)) ∧ PySem.W.AllAlike (bs.map enc) ∧ (∀ b ∈ bs, ∃ xs, enc b = .tuple xs) ∧ (∀ b ∈ bs, (enc b).depth ≤ 60) ∧
  ∀ p, H p = none → Q (.ref p) (upd H p (.lst ((bs.mergeSort (PySem.W.dataLe false enc)).map val)))
theorem call_sortZ {β : Type} {enc : β → PyData} {val : β → V} (hu : X.A.units + 64 < cLine) : CallR X (.builtin "sorted") (rSortZ enc val X.K) := by
  intro pins s σ H vs us Q I r h
  obtain ⟨a, bs, rfl, hs, hd, al, tp, dp, q⟩ := h
  obtain ⟨its, rv, hl, hz⟩ := I.list hs
  rw [Vals.ref1 r]
  have e := each_vals rv
  have hlen : bs.length ≤ sizeLine := by rw [List.length_map] at hz; exact hz
  have er : PySem.W.EachIs (fun v b => ∃ as, Reads s.heap v (enc b) as) its bs := (PySem.W.each_mem e).mono fun v b z => Dp.reads I (enc b) (val b) v (hd b z.2) z.1
  have er2 : PySem.W.EachIs (fun v b => ∃ as, Reads (PySem.W.sortingHeap (PySem.W.copyHeap s.heap its) (s.heap.objs.size + 1) its) v (enc b) as) its bs := er.mono fun _ _ ⟨as, r⟩ => ⟨as, PyProof.Rows.Reads.keeps (fun _ _ => PySem.W.sorting_copy_old) r⟩
  refine PySem.W.sorted_vals hl.isList (sortsTups (s := { s with heap := PySem.W.sortingHeap (PySem.W.copyHeap s.heap its) (s.heap.objs.size + 1) its }) (PySem.W.each_map (R := fun v d => ∃ as, Reads (PySem.W.sortingHeap (PySem.W.copyHeap s.heap its) (s.heap.objs.size + 1) its) v d as) enc er2) al (fun d m => ?_) fun d m => ?_) (by rw [e.length]; exact hlen) ?_
  · obtain ⟨b, mb, rfl⟩ := List.mem_map.mp m
    exact tp b mb
  · obtain ⟨b, mb, rfl⟩ := List.mem_map.mp m
    have := dp b mb
    show X.A.units + 1 + 1 + _ < _
    omega
  · have e2 := PySem.W.sortVals_data false e er2 al
    obtain ⟨ep, he'⟩ := PyProof.Rows.sortedAll_at s.heap its (PySem.W.sortVals (PySem.W.dataKind (PySem.W.sortingHeap (PySem.W.copyHeap s.heap its) (s.heap.objs.size + 1) its) (bs.map enc)) false its its).toArray
    have hv : Vals ((bs.mergeSort (PySem.W.dataLe false enc)).map val) (PySem.W.sortVals (PySem.W.dataKind (PySem.W.sortingHeap (PySem.W.copyHeap s.heap its) (s.heap.objs.size + 1) its) (bs.map enc)) false its its) := vals_each e2
    refine ⟨.ref _, upd H (s.heap.objs.size + 1) (.lst ((bs.mergeSort (PySem.W.dataLe false enc)).map val)), I.laid (t' := s.toks) (fun _ _ => PyProof.Rows.sortedAll_old) (Nat.le_succ _) ⟨?_, _, ep, hv, ?_⟩, rfl, q _ (I.hok.fresh (Nat.le_succ _))⟩
    · rw [List.length_map, List.length_mergeSort]
      exact hlen
    · simpa using he'
end
end Ek

namespace CC
open PySem PySem.Spec PyProof.Rows L2 Ek
def topS (i : Nat) : Stmt := PySem.Challenge.pw_cutorall_k31_least_over_helpers.main.body.getD i (.Pass ⟨0, 0, 0, 0⟩)
abbrev sAm2 : Stmt := topS 22
abbrev NAm2 : List Str := ["script", "state", "most"]
theorem scAm2 : FnScope NAm2 ["script", "state"] (defScope sAm2) := ⟨rfl, rfl, rfl, by decide +kernel, rfl, by decide +kernel, by decide +kernel⟩

abbrev sAT : Stmt := topS 13
abbrev NAT : List Str := ["numbers", "letters", "number"]
theorem scAT : FnScope NAT ["numbers", "letters", "number"] (defScope sAT) := ⟨rfl, rfl, rfl, by decide +kernel, rfl, by decide +kernel, by decide +kernel⟩

abbrev sPsO : Stmt := topS 14
abbrev NPsO : List Str := ["letters", "one", "other"]
theorem scPsO : FnScope NPsO ["letters"] (defScope sPsO) := ⟨rfl, rfl, rfl, by decide +kernel, rfl, by decide +kernel, by decide +kernel⟩

abbrev sLWo : Stmt := topS 26
abbrev NLWo : List Str := ["told", "row", "found", "letters", "number", "yes", "letter"]
theorem scLWo : FnScope NLWo ["told", "row"] (defScope sLWo) := ⟨rfl, rfl, rfl, by decide +kernel, rfl, by decide +kernel, by decide +kernel⟩

abbrev sLD2 : Stmt := topS 23
abbrev NLD2 : List Str := ["script", "state", "count", "most", "triples", "found", "left", "k", "letters", "place", "number"]
theorem scLD2 : FnScope NLD2 ["script", "state", "count", "most", "triples"] (defScope sLD2) := ⟨rfl, rfl, rfl, by decide +kernel, rfl, by decide +kernel, by decide +kernel⟩

abbrev sLaw : Stmt := topS 31
abbrev NLaw : List Str := ["script", "state", "count", "told", "answer", "paired", "many", "letters", "number", "triples", "rows", "row", "least", "bent", "k", "more"]
theorem scLaw : FnScope NLaw ["script"] (defScope sLaw) := ⟨rfl, rfl, rfl, by decide +kernel, rfl, by decide +kernel, by decide +kernel⟩

abbrev sIsI : Stmt := topS 4
abbrev NIsI : List Str := ["value"]
theorem scIsI : FnScope NIsI ["value"] (defScope sIsI) := ⟨rfl, rfl, rfl, by decide +kernel, rfl, by decide +kernel, by decide +kernel⟩

abbrev sINB : Stmt := topS 5
abbrev NINB : List Str := ["value", "limit"]
theorem scINB : FnScope NINB ["value", "limit"] (defScope sINB) := ⟨rfl, rfl, rfl, by decide +kernel, rfl, by decide +kernel, by decide +kernel⟩

abbrev sIsR : Stmt := topS 8
abbrev NIsR : List Str := ["members", "one", "other"]
theorem scIsR : FnScope NIsR ["members"] (defScope sIsR) := ⟨rfl, rfl, rfl, by decide +kernel, rfl, by decide +kernel, by decide +kernel⟩

abbrev sArL : Stmt := topS 9
abbrev NArL : List Str := ["value", "letter_count", "letter"]
theorem scArL : FnScope NArL ["value", "letter_count"] (defScope sArL) := ⟨rfl, rfl, rfl, by decide +kernel, rfl, by decide +kernel, by decide +kernel⟩

abbrev sIsM : Stmt := topS 10
abbrev NIsM : List Str := ["value", "letter_count"]
theorem scIsM : FnScope NIsM ["value", "letter_count"] (defScope sIsM) := ⟨rfl, rfl, rfl, by decide +kernel, rfl, by decide +kernel, by decide +kernel⟩

abbrev sIsS : Stmt := topS 11
abbrev NIsS : List Str := ["value", "letter_count", "member"]
theorem scIsS : FnScope NIsS ["value", "letter_count"] (defScope sIsS) := ⟨rfl, rfl, rfl, by decide +kernel, rfl, by decide +kernel, by decide +kernel⟩

abbrev sSFr : Stmt := topS 12
abbrev NSFr : List Str := ["numbers", "letters"]
theorem scSFr : FnScope NSFr ["numbers"] (defScope sSFr) := ⟨rfl, rfl, rfl, by decide +kernel, rfl, by decide +kernel, by decide +kernel⟩

abbrev sLI2 : Stmt := topS 30
abbrev NLI2 : List Str := ["value", "count", "one", "number"]
theorem scLI2 : FnScope NLI2 ["value", "count"] (defScope sLI2) := ⟨rfl, rfl, rfl, by decide +kernel, rfl, by decide +kernel, by decide +kernel⟩

abbrev sDrw : Stmt := topS 19
abbrev NDrw : List Str := ["script", "state", "many", "found", "k", "rest", "base", "mixed"]
theorem scDrw : FnScope NDrw ["script", "state", "many"] (defScope sDrw) := ⟨rfl, rfl, rfl, by decide +kernel, rfl, by decide +kernel, by decide +kernel⟩

abbrev sSte : Stmt := topS 20
abbrev NSte : List Str := ["script", "state", "k"]
theorem scSte : FnScope NSte ["script"] (defScope sSte) := ⟨rfl, rfl, rfl, by decide +kernel, rfl, by decide +kernel, by decide +kernel⟩

abbrev sPck : Stmt := topS 21
abbrev NPck : List Str := ["script", "state", "things"]
theorem scPck : FnScope NPck ["script", "state", "things"] (defScope sPck) := ⟨rfl, rfl, rfl, by decide +kernel, rfl, by decide +kernel, by decide +kernel⟩

abbrev sMor : Stmt := topS 24
abbrev NMor : List Str := ["found", "letters", "number"]
theorem scMor : FnScope NMor ["found", "letters", "number"] (defScope sMor) := ⟨rfl, rfl, rfl, by decide +kernel, rfl, by decide +kernel, by decide +kernel⟩

abbrev sLSm : Stmt := topS 25
abbrev NLSm : List Str := ["found", "letters"]
theorem scLSm : FnScope NLSm ["found"] (defScope sLSm) := ⟨rfl, rfl, rfl, by decide +kernel, rfl, by decide +kernel, by decide +kernel⟩

abbrev sRws2 : Stmt := topS 27
abbrev NRws2 : List Str := ["count", "rows", "letter", "longer", "row"]
theorem scRws2 : FnScope NRws2 ["count"] (defScope sRws2) := ⟨rfl, rfl, rfl, by decide +kernel, rfl, by decide +kernel, by decide +kernel⟩

abbrev sMdB : Stmt := topS 28
abbrev NMdB : List Str := ["script", "state", "told", "count", "found", "letters", "number", "x", "y", "z", "pair"]
theorem scMdB : FnScope NMdB ["script", "state", "told", "count"] (defScope sMdB) := ⟨rfl, rfl, rfl, by decide +kernel, rfl, by decide +kernel, by decide +kernel⟩

abbrev sBbR : Stmt := topS 29
abbrev NBbR : List Str := ["told", "count", "rows", "worth", "row", "one", "place", "other", "up", "left", "both"]
theorem scBbR : FnScope NBbR ["told", "count"] (defScope sBbR) := ⟨rfl, rfl, rfl, by decide +kernel, rfl, by decide +kernel, by decide +kernel⟩

abbrev sAtP : Stmt := topS 16
abbrev NAtP : List Str := ["numbers", "letters", "number", "helper", "letter", "pair"]
theorem scAtP : FnScope NAtP ["numbers", "letters", "number", "helper"] (defScope sAtP) := ⟨rfl, rfl, rfl, by decide +kernel, rfl, by decide +kernel, by decide +kernel⟩

abbrev sPSm : Stmt := topS 17
abbrev NPSm : List Str := ["told", "letter_count", "numbers", "count", "letters", "number"]
theorem scPSm : FnScope NPSm ["told", "letter_count"] (defScope sPSm) := ⟨rfl, rfl, rfl, by decide +kernel, rfl, by decide +kernel, by decide +kernel⟩
structure Bt (mg : Str → Option Value) : Prop where
  len : mg "len" = none
  int : mg "int" = none
  abs : mg "abs" = none
  range : mg "range" = none
  isinstance : mg "isinstance" = none
  bool : mg "bool" = none
  list : mg "list" = none
  tuple : mg "tuple" = none
  all : mg "all" = none
  min : mg "min" = none
  max : mg "max" = none
  sum : mg "sum" = none
  repr : mg "repr" = none
  zip : mg "zip" = none
  enumerate : mg "enumerate" = none
  sorted : mg "sorted" = none
  dict : mg "dict" = none
  set : mg "set" = none
/-- a value of a kind that may be asked about -/
inductive Kn (H : Hp) : V → Prop where
  | non : Kn H .non
  | bl (b : Bool) : Kn H (.bl b)
  | int (i : Int) : Kn H (.int i)
  | str (x : Str) : Kn H (.str x)
  | lst {a : Addr} {xs : List V} (e : H a = some (.lst xs)) : Kn H (.ref a)
  | tup {a : Addr} {xs : List V} (e : H a = some (.tup xs)) : Kn H (.ref a)
theorem Kn.same {H H' : Hp} {v : V} (s : Same H H') (k : Kn H v) : Kn H' v := by
  cases k with
  | non => exact .non
  | bl b => exact .bl b
  | int i => exact .int i
  | str x => exact .str x
  | lst e => exact .lst (s _ _ e)
  | tup e => exact .tup (s _ _ e)
def isI : V → Bool
  | .int _ => true
  | _ => false
def isB (n : Int) : V → Bool
  | .int i => decide (0 ≤ i) && decide (i < n)
  | _ => false
def isZ : V → Bool
  | .int i => decide (1 ≤ i) && decide (i ≤ 3)
  | _ => false
def isR : V → Bool
  | .ref _ => true
  | _ => false
theorem len_small {xs : List V} {n : Nat} (h : xs.length ≤ n) (hn : n ≤ 1000) : xs.length < sizeLine := small1000 (by omega)
def rowsOf : Nat → List (List Int)
  | 0 => [[]]
  | n + 1 => (rowsOf n).flatMap fun r => [r ++ [0], r ++ [1]]
theorem rows_len : ∀ n, (rowsOf n).length = 2 ^ n
  | 0 => rfl
  | n + 1 => by
    have h : ∀ l : List (List Int), (l.flatMap fun r => [r ++ [0], r ++ [1]]).length = 2 * l.length := fun l => by
      induction l with
      | nil => rfl
      | cons x l ih => rw [List.flatMap_cons, List.length_append, ih, List.length_cons, List.length_cons, List.length_cons, List.length_nil]; omega
    show ((rowsOf n).flatMap fun r => [r ++ [0], r ++ [1]]).length = _
    rw [h, rows_len n, Nat.pow_succ]
    omega
theorem row_len : ∀ n, ∀ r ∈ rowsOf n, r.length = n
  | 0, r, h => by
    obtain rfl := List.mem_singleton.mp h
    rfl
  | n + 1, r, h => by
    obtain ⟨x, hx, hr⟩ := List.mem_flatMap.mp h
    have z := row_len n x hx
    simp only [List.mem_cons, List.not_mem_nil, or_false] at hr
    rcases hr with rfl | rfl <;> simp [z]
abbrev Rws (H : Hp) (rs : List Addr) (bss : List (List Int)) : Prop := Paired (fun r (bs : List Int) => H r = some (.tup (bs.map V.int))) rs bss
theorem Rws.same {H H' : Hp} {rs : List Addr} {bss : List (List Int)} (s : Same H H') (x : Rws H rs bss) : Rws H' rs bss := by
  induction x with
  | nil => exact .nil
  | cons e _ ih => exact .cons (s _ _ e) ih
theorem Rws.updL {H : Hp} {rs : List Addr} {bss : List (List Int)} {D : Addr} {xs : List V} {o : HO} (e : H D = some (.lst xs)) (x : Rws H rs bss) : Rws (upd H D o) rs bss := by
  induction x with
  | nil => exact .nil
  | cons h _ ih => exact .cons (by rw [upd_ne (ne_of h e (by intro z; cases z))]; exact h) ih
theorem take_flat {α β : Type} (g : α → List β) {l : List α} {i : Nat} {x : α} (h : l[i]? = some x) : (l.take (i + 1)).flatMap g = (l.take i).flatMap g ++ g x := by
  rw [List.take_add_one, h, List.flatMap_append]
  simp
end CC

namespace CC
open PySem PySem.Spec PyProof.Rows L2 Ek
/-! ### the other way of drawing: a state of four numbers -/
theorem q_ifOr {D : Ends} {σ : L2.St} {H : Hp} {t u : TT} {a c : TS} (b1 b2 : Bool) (h1 : ∀ Q : Bool → Hp → Prop, Q b1 H → t σ H Q) (h2 : ∀ Q : Bool → Hp → Prop, Q b2 H → u σ H Q) (h : if (b1 || b2) = true then a D σ H else c D σ H) : tIfS (tOr t u) a c D σ H := by
  refine h1 _ ?_
  cases b1 with
  | true =>
    rw [Bool.true_or, if_pos rfl] at h
    show (if true = true then _ else _)
    rw [if_pos rfl]
    show (if true = true then _ else _)
    rw [if_pos rfl]
    exact h
  | false =>
    rw [Bool.false_or] at h
    show (if false = true then _ else _)
    rw [if_neg (by decide)]
    exact h2 _ h
theorem q_seqJ {D : Ends} {σ : L2.St} {H : Hp} {a b : TS} (J : L2.St → Hp → Prop) (h1 : ∀ σ' H', J σ' H' → b D σ' H') (h2 : (∀ σ' H', J σ' H' → b D σ' H') → a { D with nx := fun s h => b D s h } σ H) : tSeq a b D σ H := h2 h1
/-- the script: of the heap, and not the state, or of what stands fast -/
def Scr (K : PySem.W.Frag) (ns : List Int) (s st : Addr) (H : Hp) : Prop := (SqL K H s (ns.map V.int) ∧ s ≠ st) ∨ ∀ H', SqL K H' s (ns.map V.int)
theorem Scr.sq {K : PySem.W.Frag} {ns : List Int} {s st : Addr} {H : Hp} (x : Scr K ns s st H) : SqL K H s (ns.map V.int) := x.elim (fun y => y.1) fun y => y H
theorem sqL_st {K : PySem.W.Frag} {ns : List Int} {H H' : Hp} {s st : Addr} (k : ∀ b, b ≠ st → H' b = H b) (x : Scr K ns s st H) : Scr K ns s st H' := by
  rcases x with ⟨(e | ⟨o, e⟩) | e, ne⟩ | y
  · exact .inl ⟨.inl (.inl ((k s ne).trans e)), ne⟩
  · exact .inl ⟨.inl (.inr ⟨o, (k s ne).trans e⟩), ne⟩
  · exact .inr fun _ => .inr e
  · exact .inr y
section
variable {P : Program} {w : World} {K : PySem.W.Frag} {mg : Str → Option Value} {base : Heap}
/-- the script at s, the state at st -/
def Sta (K : PySem.W.Frag) (ns : List Int) (s st : Addr) (H : Hp) : Prop := Scr K ns s st H ∧ ∃ a b c d : Int, H st = some (.lst [.int a, .int b, .int c, .int d]) ∧ 0 ≤ a ∧ a ≤ 1000 ∧ 0 ≤ b ∧ 0 ≤ d ∧ d < 2147483647
theorem Sta.put {ns : List Int} {s st : Addr} {H : Hp} (x : Sta K ns s st H) {a b c d : Int} (ha : 0 ≤ a) (ha2 : a ≤ 1000) (hb : 0 ≤ b) (hd : 0 ≤ d) (hd2 : d < 2147483647) : Sta K ns s st (upd H st (.lst [.int a, .int b, .int c, .int d])) := by
  exact ⟨sqL_st (fun b hb => upd_ne hb) x.1, a, b, c, d, upd_same, ha, ha2, hb, hd, hd2⟩
def spDrw (K : PySem.W.Frag) : Sp := fun vs H Q _ => ∃ (s st : Addr) (ns : List Int) (m : Int), vs = [.ref s, .ref st, .int m] ∧ 0 < m ∧ m < 1000000000 ∧ ns.length ≤ 63 ∧ Sta K ns s st H ∧ ∀ r H', 0 ≤ r → r < m → (∀ b, b ≠ st → H' b = H b) → Sta K ns s st H' → Q (.int r) H'
theorem ok_Drw {f : Addr} {fd : FuncData} (F : Fun K "_law_draw" "_law_draw" sDrw f fd) (B : Bt mg) : FnOk P w K mg base CX0 1 f fd ["script", "state", "many"] (spDrw K) := by
  refine F.ok scDrw (fun vs H Q E h => ?_) (fun cdv A outer s0 H vs Q E hr h => ?_)
  · obtain ⟨s, st, ns, m, rfl, _⟩ := h
    rfl
  · obtain ⟨s, st, ns, m, rfl, m0, m9, l63, sta, q⟩ := h
    refine ⟨_, (pss_cons (ps_if (pt_cmpR op_gt (pe_ix ix_list (pv 1) pe_int (fun _ _ => rfl)) pe_int (nomark _))
      (pss_cons (ps_set (i := 3) scDrw.nd rfl (.inl rfl) (pe_op op_mod (pe_callTy call_int1 (by rfl) B.int (by decide +kernel) (pa_cons (pe_ix ix_list (pv 1) pe_int (fun _ _ => rfl)) pa_nil)) (pv 2)))
      (pss_cons (ps_asg (pe_op op_fdiv (pe_ix ix_list (pv 1) pe_int (fun _ _ => rfl)) (pv 2)) (pg_sub (pv 1) pe_int set_list))
      (pss_one (ps_ret (pv 3))))) pss_nil)
      (pss_cons (ps_for PassesOwn.never rfl (pi_range2 rfl B.range (pa_cons (pe_ix ix_list (pv 1) pe_int (fun _ _ => rfl)) (pa_cons (pe_callB call_len_seq (by rfl) B.len PySem.boot_len (pa_cons (pv 0) pa_nil)) pa_nil))) (pg_name (i := 4) scDrw.nd rfl (.inl rfl))
      (pss_cons (ps_asg (pe_op op_add (pv 4) pe_int) (pg_sub (pv 1) pe_int set_list))
      (pss_one (ps_if (PW.pt (pw_or (pt_cmpR op_ge (pe_ix ix_list (pv 0) (pv 4) (fun _ _ => rfl)) (pe_op op_pow pe_int pe_int) (nomark _)) (pw_or1 (pt_cmpR op_le (pe_ix ix_list (pv 0) (pv 4) (fun _ _ => rfl)) (pe_un un_neg (pe_op op_pow pe_int pe_int)) (nomark _)))))
      (pss_cons (ps_set (i := 5) scDrw.nd rfl (.inl rfl) (pe_callB call_abs (by rfl) B.abs (by decide +kernel) (pa_cons (pe_ix ix_list (pv 0) (pv 4) (fun _ _ => rfl)) pa_nil)))
      (pss_cons (ps_asg (pe_op op_fdiv (pv 5) (pv 2)) (pg_sub (pv 1) pe_int set_list))
      (pss_one (ps_ret (pe_op op_mod (pe_callTy call_int1 (by rfl) B.int (by decide +kernel) (pa_cons (pv 5) pa_nil)) (pv 2)))))) pss_nil))))
      (pss_cons (ps_asg (pe_op op_add (pe_ix ix_list (pv 1) pe_int (fun _ _ => rfl)) pe_int) (pg_sub (pv 1) pe_int set_list))
      (pss_cons (ps_set (i := 6) scDrw.nd rfl (.inl rfl) (pe_ifExp (pt_cmpR op_gt (pe_callB call_len_seq (by rfl) B.len PySem.boot_len (pa_cons (pv 0) pa_nil)) pe_int (nomark _)) (pe_ix ix_list (pv 0) (pe_op op_mod (pe_callTy call_int1 (by rfl) B.int (by decide +kernel) (pa_cons (pe_ix ix_list (pv 1) pe_int (fun _ _ => rfl)) pa_nil)) (pe_callB call_len_seq (by rfl) B.len PySem.boot_len (pa_cons (pv 0) pa_nil))) (fun _ _ => rfl)) pe_int))
      (pss_cons (ps_asg (pe_op op_mod (pe_callTy call_int1 (by rfl) B.int (by decide +kernel) (pa_cons (pe_op op_add (pe_op op_add (pe_op op_add (pe_op op_mul (pe_ix ix_list (pv 1) pe_int (fun _ _ => rfl)) pe_int) (pe_op op_mul (pv 6) pe_int)) (pe_op op_mul (pe_ix ix_list (pv 1) pe_int (fun _ _ => rfl)) pe_int)) pe_int) pa_nil)) pe_int) (pg_sub (pv 1) pe_int set_list))
      (pss_cons (ps_set (i := 7) scDrw.nd rfl (.inl rfl) (pe_op op_mod (pe_callTy call_int1 (by rfl) B.int (by decide +kernel) (pa_cons (pe_op op_add (pe_op op_add (pe_op op_mul (pe_ix ix_list (pv 1) pe_int (fun _ _ => rfl)) (pe_ix ix_list (pv 1) pe_int (fun _ _ => rfl))) (pe_op op_mul (pe_ix ix_list (pv 1) pe_int (fun _ _ => rfl)) pe_int)) pe_int) pa_nil)) pe_int))
      (pss_one (ps_ret (pe_op op_mod (pe_callTy call_int1 (by rfl) B.int (by decide +kernel) (pa_cons (pe_op op_fdiv (pv 7) pe_int) pa_nil)) (pv 2)))))))))), ?_⟩
    obtain ⟨hs0, a, b, c, d, hst, a0, a1, b0, d0, d1⟩ := id sta
    have hs := hs0.sq
    refine q_seq (q_if ?_)
    refine ⟨.ref st, rfl, st, _, 1, .int b, rfl, rfl, sl hst, at_z (j := 1) rfl rfl, b, 1, rfl, rfl, _, rfl, ?_⟩
    refine ite2 (fun cc => ?_) (fun cc => ?_)
    · refine q_seq (q_set ?_)
      refine ⟨.ref st, rfl, st, _, 1, .int b, rfl, rfl, sl hst, at_z (j := 1) rfl rfl, .inl ⟨b, rfl, .int m, rfl, b, m, rfl, rfl, m0, ?_⟩⟩
      dsimp only
      refine q_seq ?_
      refine ⟨.ref st, rfl, st, _, 1, .int b, rfl, rfl, sl hst, at_z (j := 1) rfl rfl, .int m, rfl, b, m, rfl, rfl, ⟨m0, by omega⟩, .ref st, rfl, st, _, 1, 1, rfl, rfl, hst, ix_z rfl (by show 1 < 4; decide), ?_⟩
      refine ⟨_, rfl, q (b % m) _ (Int.emod_nonneg _ (by omega)) (Int.emod_lt_of_pos _ m0) (fun x hx => upd_ne hx) (sta.put a0 a1 (Int.ediv_nonneg b0 (by omega)) d0 d1)⟩
    refine q_next ?_
    dsimp only
    refine q_seq ?_
    refine ⟨.ref st, rfl, st, _, 0, .int a, rfl, rfl, sl hst, at_z (j := 0) rfl rfl, .ref s, rfl, s, _, rfl, .inl hs, a, _, rfl, ⟨by omega, by omega, by omega, by rw [List.length_map]; omega⟩, ?_⟩
    rw [List.length_map]
    refine for_range (lo := a) (n := ((ns.length : Int) - a).toNat) (fun i σ H' => (∀ x, x ≠ st → H' x = H x) ∧ (∃ a', H' st = some (.lst [.int a', .int b, .int c, .int d]) ∧ 0 ≤ a' ∧ a' ≤ 1000) ∧ ∃ x4 : Option V, σ = [some (.ref s), some (.ref st), some (.int m), none, x4, none, none, none]) ⟨fun _ _ => rfl, ⟨a, hst, a0, a1⟩, none, rfl⟩ (fun i σ H' hi hP => ?_) (fun σ H' hP => ?_)
    · obtain ⟨kp, ⟨a', hst', a0', a1'⟩, x4, rfl⟩ := hP
      refine q_seq ?_
      refine ⟨_, rfl, _, 1, rfl, rfl, .ref st, rfl, st, _, 0, 0, rfl, rfl, hst', ix_z rfl (by show 0 < 4; decide), ?_⟩
      have kp2 : ∀ o x, x ≠ st → (upd H' st o) x = H x := fun o x hx => (upd_ne hx).trans (kp x hx)
      have hst2 : (upd H' st (.lst [.int (a + (i : Int) + 1), .int b, .int c, .int d])) st = some (.lst [.int (a + (i : Int) + 1), .int b, .int c, .int d]) := upd_same
      have kp3 := kp2 (.lst [.int (a + (i : Int) + 1), .int b, .int c, .int d])
      dsimp only [List.set]
      generalize upd H' st (.lst [.int (a + (i : Int) + 1), .int b, .int c, .int d]) = H2 at hst2 kp3 ⊢
      have hs3 := sqL_st kp3 hs0
      have hs2 := hs3.sq
      have lt : (a + (i : Int)).toNat < ns.length := by omega
      have gx : (ns.map V.int)[(a + (i : Int)).toNat]? = some (.int ns[(a + (i : Int)).toNat]) := by rw [List.getElem?_map, List.getElem?_eq_getElem lt]; rfl
      generalize ns[(a + (i : Int)).toNat] = x at gx
      have st2 : Sta K ns s st H2 := ⟨hs3, _, _, _, _, hst2, by omega, by omega, b0, d0, d1⟩
      refine q_ifOr (decide ((10 : Int) ^ (18 : Int).toNat ≤ x)) (decide (x ≤ -((10 : Int) ^ (18 : Int).toNat))) (fun Q hQ => ⟨.ref s, rfl, _, rfl, s, _, _, .int x, rfl, rfl, hs2, at_z (j := (a + (i : Int)).toNat) (by omega) gx, 10, 18, rfl, rfl, ⟨by decide, by decide, by decide⟩, _, _, rfl, rfl, _, rfl, hQ⟩) (fun Q hQ => ⟨.ref s, rfl, _, rfl, s, _, _, .int x, rfl, rfl, hs2, at_z (j := (a + (i : Int)).toNat) (by omega) gx, 10, 18, rfl, rfl, ⟨by decide, by decide, by decide⟩, _, rfl, _, _, rfl, rfl, _, rfl, hQ⟩) ?_
      refine ite2 (fun c2 => ?_) (fun c2 => ?_)
      · refine q_seq (q_set ?_)
        refine ⟨.ref s, rfl, _, rfl, s, _, _, .int x, rfl, rfl, hs2, at_z (j := (a + (i : Int)).toNat) (by omega) gx, x, rfl, ?_⟩
        have r0 : 0 ≤ (if x < 0 then -x else x) := by split <;> omega
        generalize (if x < 0 then -x else x) = r at r0
        dsimp only
        refine q_seq ?_
        refine ⟨.int r, rfl, .int m, rfl, r, m, rfl, rfl, ⟨m0, by omega⟩, .ref st, rfl, st, _, 1, 1, rfl, rfl, hst2, ix_z rfl (by show 1 < 4; decide), ?_⟩
        dsimp only [List.set]
        refine q_ret ?_
        exact ⟨.int r, rfl, .inl ⟨r, rfl, .int m, rfl, r, m, rfl, rfl, m0, q (r % m) _ (Int.emod_nonneg _ (by omega)) (Int.emod_lt_of_pos _ m0) (fun x hx => (upd_ne hx).trans (kp3 x hx)) (st2.put (by omega) (by omega) (Int.ediv_nonneg r0 (by omega)) d0 d1)⟩⟩
      · refine q_next ?_
        exact ⟨kp3, ⟨_, hst2, by omega, by omega⟩, _, rfl⟩
    · obtain ⟨kp, ⟨a', hst', a0', a1'⟩, x4, rfl⟩ := hP
      have hs' := sqL_st kp hs0
      dsimp only
      refine q_seq ?_
      refine ⟨.ref st, rfl, st, _, 2, .int c, rfl, rfl, sl hst', at_z (j := 2) rfl rfl, _, 1, rfl, rfl, .ref st, rfl, st, _, 2, 2, rfl, rfl, hst', ix_z rfl (by show 2 < 4; decide), ?_⟩
      have kp2 : ∀ x, x ≠ st → (upd H' st (.lst [.int a', .int b, .int (c + 1), .int d])) x = H x := fun x hx => (upd_ne hx).trans (kp x hx)
      have hst2 : (upd H' st (.lst [.int a', .int b, .int (c + 1), .int d])) st = some (.lst [.int a', .int b, .int (c + 1), .int d]) := upd_same
      dsimp only [List.set]
      generalize upd H' st (.lst [.int a', .int b, .int (c + 1), .int d]) = H2 at hst2 kp2 ⊢
      have hs3 := sqL_st kp2 hs0
      have hs2 := hs3.sq
      have st2 : Sta K ns s st H2 := ⟨hs3, _, _, _, _, hst2, a0', a1', b0, d0, d1⟩
      refine q_seqJ (fun σ H3 => H3 = H2 ∧ ∃ bv : Int, σ = [some (.ref s), some (.ref st), some (.int m), none, x4, none, some (.int bv), none]) (fun σ H3 hJ => ?_) (fun J => ?_)
      · obtain ⟨rfl, bv, rfl⟩ := hJ
        refine q_seq ?_
        refine ⟨.ref st, rfl, st, _, 3, .int d, rfl, rfl, sl hst2, at_z (j := 3) rfl rfl, d, 48271, rfl, rfl, .inr ⟨by decide, by decide⟩, .int bv, rfl, bv, 16807, rfl, rfl, .inr ⟨by decide, by decide⟩, _, _, rfl, rfl, .ref st, rfl, st, _, 2, .int (c + 1), rfl, rfl, sl hst2, at_z (j := 2) rfl rfl, _, 69621, rfl, rfl, .inr ⟨by decide, by decide⟩, _, _, rfl, rfl, _, 11, rfl, rfl, .inl ⟨_, rfl, _, 2147483647, rfl, rfl, by show (0 : Int) < 2147483647; decide, .ref st, rfl, st, _, 3, 3, rfl, rfl, hst2, ix_z rfl (by show 3 < 4; decide), ?_⟩⟩
        dsimp only [List.set]
        have e0 := Int.emod_nonneg (d * 48271 + bv * 16807 + (c + 1) * 69621 + 11) (show (2147483647 : Int) ≠ 0 by decide)
        have e1 := Int.emod_lt_of_pos (d * 48271 + bv * 16807 + (c + 1) * 69621 + 11) (show (0 : Int) < 2147483647 by decide)
        generalize (d * 48271 + bv * 16807 + (c + 1) * 69621 + 11) % 2147483647 = d' at e0 e1
        have st3 := st2.put (c := c + 1) a0' a1' b0 e0 e1
        have hst3 : (upd H3 st (.lst [.int a', .int b, .int (c + 1), .int d'])) st = some (.lst [.int a', .int b, .int (c + 1), .int d']) := upd_same
        have kp3 : ∀ x, x ≠ st → (upd H3 st (.lst [.int a', .int b, .int (c + 1), .int d'])) x = H x := fun x hx => (upd_ne hx).trans (kp2 x hx)
        generalize upd H3 st (.lst [.int a', .int b, .int (c + 1), .int d']) = H4 at st3 hst3 kp3 ⊢
        refine q_seq (q_set ?_)
        refine ⟨.ref st, rfl, st, _, 3, .int d', rfl, rfl, sl hst3, at_z (j := 3) rfl rfl, .ref st, rfl, st, _, 3, .int d', rfl, rfl, sl hst3, at_z (j := 3) rfl rfl, d', d', rfl, rfl, .inr ⟨by omega, by omega⟩, .ref st, rfl, st, _, 2, .int (c + 1), rfl, rfl, sl hst3, at_z (j := 2) rfl rfl, _, 40692, rfl, rfl, .inr ⟨by decide, by decide⟩, _, _, rfl, rfl, _, 3, rfl, rfl, .inl ⟨_, rfl, _, 2147483399, rfl, rfl, by show (0 : Int) < 2147483399; decide, ?_⟩⟩
        dsimp only
        refine q_ret ?_
        exact ⟨_, rfl, _, 7, rfl, rfl, ⟨by decide, by decide⟩, .inl ⟨_, rfl, .int m, rfl, _, m, rfl, rfl, m0, q _ H4 (Int.emod_nonneg _ (by omega)) (Int.emod_lt_of_pos _ m0) kp3 st3⟩⟩
      · refine q_set ?_
        refine ⟨.ref s, rfl, s, _, rfl, .inl hs2, _, 0, rfl, rfl, _, rfl, ?_⟩
        refine ite2 (fun c2 => ?_) (fun c2 => ?_)
        · have pos : (0 : Int) < ((ns.map V.int).length : Nat) := of_decide_eq_true c2
          have m1 := Int.emod_nonneg (c + 1) (show (((ns.map V.int).length : Nat) : Int) ≠ 0 by omega)
          have m2 := Int.emod_lt_of_pos (c + 1) pos
          have lt : ((c + 1) % (((ns.map V.int).length : Nat) : Int)).toNat < (ns.map V.int).length := by omega
          have gx : (ns.map V.int)[((c + 1) % (((ns.map V.int).length : Nat) : Int)).toNat]? = some (ns.map V.int)[((c + 1) % (((ns.map V.int).length : Nat) : Int)).toNat] := List.getElem?_eq_getElem lt
          obtain ⟨y, hy⟩ : ∃ y : Int, (ns.map V.int)[((c + 1) % (((ns.map V.int).length : Nat) : Int)).toNat] = .int y := ⟨_, List.getElem_map ..⟩
          rw [hy] at gx
          exact ⟨.ref s, rfl, .ref st, rfl, st, _, 2, .int (c + 1), rfl, rfl, sl hst2, at_z (j := 2) rfl rfl, .inl ⟨_, rfl, .ref s, rfl, s, _, rfl, .inl hs2, _, _, rfl, rfl, pos, s, _, _, .int y, rfl, rfl, hs2, at_z (j := ((c + 1) % (((ns.map V.int).length : Nat) : Int)).toNat) (by omega) gx, J _ _ ⟨rfl, y, rfl⟩⟩⟩
        · exact J _ _ ⟨rfl, 5, rfl⟩
def spSte (K : PySem.W.Frag) : Sp := fun vs H Q _ => ∃ (s : Addr) (ns : List Int), vs = [.ref s] ∧ SqL K H s (ns.map V.int) ∧ ns.length ≤ 63 ∧ ∀ H' st, Same H H' → H st = none → Sta K ns s st H' → Q (.ref st) H'
theorem ok_Ste {f : Addr} {fd : FuncData} (F : Fun K "_law_state" "_law_state" sSte f fd) (B : Bt mg) : FnOk P w K mg base CX0 1 f fd ["script"] (spSte K) := by
  refine F.ok scSte (fun vs H Q E h => ?_) (fun cdv A outer s0 H vs Q E hr h => ?_)
  · obtain ⟨s, ns, rfl, _⟩ := h
    rfl
  · obtain ⟨s, ns, rfl, hs, l63, q⟩ := h
    refine ⟨_, (pss_cons (ps_set (i := 1) scSte.nd rfl (.inl rfl) (pe_lst (pa_cons pe_int (pa_cons pe_int (pa_cons pe_int (pa_cons (pe_callB call_len_seq (by rfl) B.len PySem.boot_len (pa_cons (pv 0) pa_nil)) pa_nil))))))
      (pss_cons (ps_for PassesOwn.never rfl (pi_range1 rfl B.range (pa_cons (pe_callB call_len_seq (by rfl) B.len PySem.boot_len (pa_cons (pv 0) pa_nil)) pa_nil)) (pg_name (i := 2) scSte.nd rfl (.inl rfl))
      (pss_one (ps_asg (pe_op op_mod (pe_callTy call_int1 (by rfl) B.int (by decide +kernel) (pa_cons (pe_op op_add (pe_op op_add (pe_op op_mul (pe_ix ix_list (pv 1) pe_int (fun _ _ => rfl)) pe_int) (pe_ix ix_list (pv 0) (pv 2) (fun _ _ => rfl))) (pv 2)) pa_nil)) pe_int) (pg_sub (pv 1) pe_int set_list))))
      (pss_one (ps_ret (pv 1))))), ?_⟩
    refine q_seq (q_set ?_)
    refine ⟨.ref s, rfl, s, _, rfl, .inl hs, by show 4 ≤ sizeLine; decide, fun st nst => ?_⟩
    have sst := same_upd (o := .lst [V.int 0, .int 0, .int 0, .int (((ns.map V.int).length : Nat) : Int)]) nst
    have sc : Scr K ns s st (upd H st (.lst [V.int 0, .int 0, .int 0, .int (((ns.map V.int).length : Nat) : Int)])) := by
      rcases hs with (e | ⟨o, e⟩) | e
      · exact .inl ⟨.inl (.inl (sst _ _ e)), ne_of_none e nst⟩
      · exact .inl ⟨.inl (.inr ⟨o, sst _ _ e⟩), ne_of_none e nst⟩
      · exact .inr fun _ => .inr e
    have hst : (upd H st (.lst [V.int 0, .int 0, .int 0, .int (((ns.map V.int).length : Nat) : Int)])) st = some (.lst [V.int 0, .int 0, .int 0, .int (((ns.map V.int).length : Nat) : Int)]) := upd_same
    have sta : Sta K ns s st (upd H st (.lst [V.int 0, .int 0, .int 0, .int (((ns.map V.int).length : Nat) : Int)])) := ⟨sc, 0, 0, 0, _, hst, by decide, by decide, by decide, by omega, by rw [List.length_map]; omega⟩
    generalize upd H st (.lst [V.int 0, .int 0, .int 0, .int (((ns.map V.int).length : Nat) : Int)]) = H1 at sst sta hst ⊢
    clear sc
    dsimp only
    refine q_seq ?_
    refine ⟨.ref s, rfl, s, _, rfl, .inl sta.1.sq, _, rfl, by rw [List.length_map]; omega, by rw [List.length_map]; omega, ?_⟩
    rw [List.length_map, Int.toNat_natCast]
    refine for_range (lo := 0) (n := ns.length) (fun i σ H' => (∀ x, x ≠ st → H' x = H1 x) ∧ (∃ d, H' st = some (.lst [.int 0, .int 0, .int 0, .int d]) ∧ 0 ≤ d ∧ d < 2147483647) ∧ ∃ x2 : Option V, σ = [some (.ref s), some (.ref st), x2]) ?_ (fun i σ H' hi hP => ?_) (fun σ H' hP => ?_)
    · exact ⟨fun _ _ => rfl, ⟨_, hst, by omega, by rw [List.length_map]; omega⟩, none, rfl⟩
    · obtain ⟨kp, ⟨d, hst', d0, d1⟩, x2, rfl⟩ := hP
      have hs' := (sqL_st kp sta.1).sq
      have gx : (ns.map V.int)[i]? = some (.int ns[i]) := by rw [List.getElem?_map, List.getElem?_eq_getElem hi]; rfl
      generalize ns[i] = y at gx
      refine ⟨.ref st, rfl, st, _, 3, .int d, rfl, rfl, sl hst', at_z (j := 3) rfl rfl, d, 31, rfl, rfl, .inr ⟨by decide, by decide⟩, .ref s, rfl, _, rfl, s, _, _, .int y, rfl, rfl, hs', at_z (j := i) (by omega) gx, _, _, rfl, rfl, _, rfl, _, _, rfl, rfl, .inl ⟨_, rfl, _, 2147483647, rfl, rfl, by show (0 : Int) < 2147483647; decide, .ref st, rfl, st, _, 3, 3, rfl, rfl, hst', ix_z rfl (by show 3 < 4; decide), ?_⟩⟩
      dsimp only [List.set]
      exact ⟨fun x hx => (upd_ne hx).trans (kp x hx), ⟨_, upd_same, Int.emod_nonneg _ (by decide), Int.emod_lt_of_pos _ (by decide)⟩, _, rfl⟩
    · obtain ⟨kp, ⟨d, hst', d0, d1⟩, x2, rfl⟩ := hP
      dsimp only
      exact ⟨.ref st, rfl, q H' st (fun b o e => (kp b (ne_of_none e nst)).trans (sst _ _ e)) nst ⟨sqL_st kp sta.1, 0, 0, 0, d, hst', by decide, by decide, by decide, d0, d1⟩⟩
end
end CC

namespace CC
open PySem PySem.Spec PyProof.Rows L2 Ek
section
variable {P : Program} {w : World} {K : PySem.W.Frag} {mg : Str → Option Value} {base : Heap}
def spPck (K : PySem.W.Frag) : Sp := fun vs H Q _ => ∃ (s st t : Addr) (ns : List Int) (xs : List V), vs = [.ref s, .ref st, .ref t] ∧ ns.length ≤ 63 ∧ Sta K ns s st H ∧ H t = some (.lst xs) ∧ t ≠ st ∧ 0 < xs.length ∧ xs.length ≤ 1000 ∧ ∀ v H', v ∈ xs → (∀ b, b ≠ st → H' b = H b) → Sta K ns s st H' → Q v H'
theorem ok_Pck {f : Addr} {fd : FuncData} (F : Fun K "_law_pick" "_law_pick" sPck f fd) (B : Bt mg) {fDrw : Addr} {fdDrw : FuncData} (GDrw : FnOk P w K mg base CX0 1 fDrw fdDrw ["script", "state", "many"] (spDrw K)) (kDrw : PySem.W.keepIn K (.ref fDrw) = true) (bDrw : Binds K fdDrw ["script", "state", "many"] []) (gDrw : mg "_law_draw" = some (.ref fDrw)) : FnOk P w K mg base CX0 2 f fd ["script", "state", "things"] (spPck K) := by
  refine F.ok scPck (fun vs H Q E h => ?_) (fun cdv A outer s0 H vs Q E hr h => ?_)
  · obtain ⟨s, st, t, ns, xs, rfl, _⟩ := h
    rfl
  · obtain ⟨s, st, t, ns, xs, rfl, l63, sta, ht, ne, l0, l9, q⟩ := h
    refine ⟨_, (pss_one (ps_ret (pe_ix ix_list (pv 2) (pe_call GDrw (hr.mono (by decide)) (by rfl) gDrw kDrw bDrw .nil pass0 (pa_cons (pv 0) (pa_cons (pv 1) (pa_cons (pe_callB call_len_seq (by rfl) B.len PySem.boot_len (pa_cons (pv 2) pa_nil)) pa_nil)))) (fun _ _ => rfl)))), ?_⟩
    refine q_ret ?_
    refine ⟨.ref t, rfl, .ref s, rfl, .ref st, rfl, .ref t, rfl, t, xs, rfl, .inl (sl ht), s, st, ns, _, rfl, by omega, by omega, l63, sta, fun r H' r0 r1 kp sta' => ?_⟩
    have ht' : H' t = some (.lst xs) := (kp t ne).trans ht
    have gv : xs[r.toNat]? = some xs[r.toNat] := List.getElem?_eq_getElem (by omega)
    exact ⟨t, xs, r, _, rfl, rfl, sl ht', at_z (j := r.toNat) (by omega) gv, q _ H' (List.mem_of_getElem? gv) kp sta'⟩
def spAm2 (K : PySem.W.Frag) : Sp := fun vs H Q _ => ∃ (s st : Addr) (ns : List Int), vs = [.ref s, .ref st] ∧ ns.length ≤ 63 ∧ Sta K ns s st H ∧ ∀ r H', -50000 ≤ r → r ≤ 50000 → (∀ b o, b ≠ st → H b = some o → H' b = some o) → Sta K ns s st H' → Q (.int r) H'
theorem ok_Am2 {f : Addr} {fd : FuncData} (F : Fun K "_law_amount" "_law_amount" sAm2 f fd) (B : Bt mg) {fDrw : Addr} {fdDrw : FuncData} (GDrw : FnOk P w K mg base CX0 1 fDrw fdDrw ["script", "state", "many"] (spDrw K)) (kDrw : PySem.W.keepIn K (.ref fDrw) = true) (bDrw : Binds K fdDrw ["script", "state", "many"] []) (gDrw : mg "_law_draw" = some (.ref fDrw)) {fPck : Addr} {fdPck : FuncData} (GPck : FnOk P w K mg base CX0 2 fPck fdPck ["script", "state", "things"] (spPck K)) (kPck : PySem.W.keepIn K (.ref fPck) = true) (bPck : Binds K fdPck ["script", "state", "things"] []) (gPck : mg "_law_pick" = some (.ref fPck)) : FnOk P w K mg base CX0 3 f fd ["script", "state"] (spAm2 K) := by
  refine F.ok scAm2 (fun vs H Q E h => ?_) (fun cdv A outer s0 H vs Q E hr h => ?_)
  · obtain ⟨s, st, ns, rfl, _⟩ := h
    rfl
  · obtain ⟨s, st, ns, rfl, l63, sta, q⟩ := h
    refine ⟨_, (pss_cons (ps_set (i := 2) scAm2.nd rfl (.inl rfl) (pe_call GPck (hr.mono (by decide)) (by rfl) gPck kPck bPck .nil pass0 (pa_cons (pv 0) (pa_cons (pv 1) (pa_cons (pe_lst (pa_cons pe_int (pa_cons pe_int (pa_cons pe_int (pa_cons pe_int (pa_cons pe_int (pa_cons pe_int pa_nil))))))) pa_nil)))))
      (pss_one (ps_ret (pe_op op_sub (pe_call GDrw (hr.mono (by decide)) (by rfl) gDrw kDrw bDrw .nil pass0 (pa_cons (pv 0) (pa_cons (pv 1) (pa_cons (pe_op op_add (pe_op op_mul pe_int (pv 2)) pe_int) pa_nil)))) (pv 2))))), ?_⟩
    refine q_seq (q_set ?_)
    refine ⟨.ref s, rfl, .ref st, rfl, by show 6 ≤ sizeLine; decide, fun t nt => ?_⟩
    have st' := sta
    obtain ⟨sc, a, b, c, d, hst, r⟩ := st'
    have nts : t ≠ st := fun z => by rw [z, hst] at nt; cases nt
    have s1 := same_upd (o := .lst [V.int 2, .int 2, .int 2, .int 9, .int 1000, .int 50000]) nt
    have sc1 : Scr K ns s st (upd H t (.lst [V.int 2, .int 2, .int 2, .int 9, .int 1000, .int 50000])) := by
      rcases sc with ⟨(e | ⟨o, e⟩) | e, ne⟩ | y
      · exact .inl ⟨.inl (.inl (s1 _ _ e)), ne⟩
      · exact .inl ⟨.inl (.inr ⟨o, s1 _ _ e⟩), ne⟩
      · exact .inr fun _ => .inr e
      · exact .inr y
    refine ⟨s, st, t, ns, _, rfl, l63, ⟨sc1, a, b, c, d, s1 _ _ hst, r⟩, upd_same, nts, by show 0 < 6; decide, by show 6 ≤ 1000; decide, fun v H2 mv kp2 sta2 => ?_⟩
    have hv : ∃ m : Int, v = .int m ∧ 1 ≤ m ∧ m ≤ 50000 := by
      simp only [List.mem_cons, List.not_mem_nil, or_false] at mv
      rcases mv with rfl | rfl | rfl | rfl | rfl | rfl <;> exact ⟨_, rfl, by decide, by decide⟩
    obtain ⟨m, rfl, m1, m2⟩ := hv
    dsimp only
    refine q_ret ?_
    refine ⟨.ref s, rfl, .ref st, rfl, .int m, rfl, 2, m, rfl, rfl, .inl ⟨by decide, by decide⟩, _, 1, rfl, rfl, s, st, ns, 2 * m + 1, rfl, by omega, by omega, l63, sta2, fun r H3 r0 r1 kp3 sta3 => ?_⟩
    refine ⟨.int m, rfl, r, m, rfl, rfl, q (r - m) H3 (by omega) (by omega) (fun b o nb e => ?_) sta3⟩
    exact (kp3 b nb).trans ((kp2 b nb).trans (s1 _ _ e))
end
end CC

namespace CC
open PySem PySem.Spec PyProof.Rows L2 Ek
section
variable {P : Program} {w : World} {K : PySem.W.Frag} {mg : Str → Option Value} {base : Heap}
/-- letters as a key -/
abbrev kI (ns : List Nat) : List L2.Key := ns.map fun (n : Nat) => Sum.inl (n : Int)
/-- a dict of numbers for letters -/
abbrev Mp := List (List Nat × Int)
abbrev dV (m : Mp) : List (List L2.Key × V) := m.map fun p => (kI p.1, V.int p.2)
def getM (m : Mp) (l : List Nat) : Int := ((m.find? fun p => decide (p.1 = l)).map (·.2)).getD 0
def putM (m : Mp) (l : List Nat) (n : Int) : Mp := if m.any (fun p => decide (p.1 = l)) then m.map fun p => if p.1 = l then (p.1, n) else p else m ++ [(l, n)]
theorem kI_inj {a b : List Nat} (h : kI a = kI b) : a = b := by
  induction a generalizing b with
  | nil => cases b with
    | nil => rfl
    | cons _ _ => cases h
  | cons x a ih => cases b with
    | nil => cases h
    | cons y b =>
      rw [kI, kI, List.map_cons, List.map_cons] at h
      injection h with h1 h2
      have e : (x : Int) = (y : Int) := Sum.inl.inj h1
      rw [ih h2, show x = y by omega]
theorem kI_iff {a b : List Nat} : (kI a = kI b) = (a = b) := propext ⟨kI_inj, fun h => by rw [h]⟩
theorem kV_kI {l : List Nat} : (kI l).map kV = l.map fun (n : Nat) => V.int (n : Int) := by
  rw [kI, List.map_map]
  rfl
theorem valV_dV {l : List Nat} : ∀ {m : Mp}, valV (dV m) (kI l) = (m.find? fun p => decide (p.1 = l)).map fun p => V.int p.2
  | [] => rfl
  | p :: m => by
    by_cases e : p.1 = l
    · rw [dV, List.map_cons, valV_pos (by rw [e]), List.find?_cons_of_pos (by simpa using e)]
      rfl
    · rw [dV, List.map_cons, valV_neg (fun z => e (kI_inj z)), List.find?_cons_of_neg (by simpa using e)]
      exact valV_dV
theorem getD_dV {m : Mp} {l : List Nat} : ((valV (dV m) (kI l)).getD (V.int 0)) = V.int (getM m l) := by
  rw [valV_dV, getM]
  cases m.find? fun p => decide (p.1 = l) <;> rfl
theorem any_dV {l : List Nat} {m : Mp} : ((dV m).any fun kv => decide (kv.1 = kI l)) = m.any fun p => decide (p.1 = l) := by
  rw [dV, List.any_map]
  congr 1
  funext p
  show decide (kI p.1 = kI l) = decide (p.1 = l)
  rw [decide_eq_decide, kI_iff]
theorem putK_dV {m : Mp} {l : List Nat} {n : Int} : putK (dV m) (kI l) (V.int n) = dV (putM m l n) := by
  unfold putK putM
  rw [any_dV]
  by_cases c : (m.any fun p => decide (p.1 = l)) = true
  · rw [if_pos c, if_pos c, dV, dV, List.map_map, List.map_map]
    apply List.map_congr_left
    intro p _
    show (if kI p.1 = kI l then (kI p.1, V.int n) else (kI p.1, V.int p.2)) = (kI (if p.1 = l then (p.1, n) else p).1, V.int (if p.1 = l then (p.1, n) else p).2)
    by_cases e : p.1 = l
    · rw [if_pos (by rw [e]), if_pos e]
    · rw [if_neg (fun z => e (kI_inj z)), if_neg e]
  · rw [if_neg c, if_neg c, dV, dV, List.map_append]
    rfl
theorem isD_dT {H : Hp} {d : Addr} {kvs : List (List L2.Key × V)} (h : H d = some (.dT kvs)) : IsD H d := .inr ⟨kvs, .inl h⟩
theorem put_dV {H : Hp} {d a : Addr} {m : Mp} {l : List Nat} {n : Int} (hd : H d = some (.dT (dV m))) (ha : H a = some (.tup ((kI l).map kV))) (hm : m.length ≤ 1000) : DPut H d (.ref a) (.int n) (upd H d (.dT (dV (putM m l n)))) := by
  have z := DPut.t (v := V.int n) hd ha (by rw [dV, List.length_map]; exact small1000 (by omega))
  rw [putK_dV] at z
  exact z
def spAT : Sp := fun vs H Q _ => ∃ (d a : Addr) (m : Mp) (l : List Nat) (n : Int), vs = [.ref d, .ref a, .int n] ∧ H d = some (.dT (dV m)) ∧ H a = some (.tup ((kI l).map kV)) ∧ m.length ≤ 1000 ∧ Q .non (upd H d (.dT (dV (putM m l (getM m l + n)))))
theorem ok_AT {f : Addr} {fd : FuncData} (F : Fun K "add_to" "add_to" sAT f fd) : FnOk P w K mg base CX0 1 f fd ["numbers", "letters", "number"] spAT := by
  refine F.ok scAT (fun vs H Q E h => ?_) (fun cdv A outer s H vs Q E hr h => ?_)
  · obtain ⟨d, a, m, l, n, rfl, _⟩ := h
    rfl
  · obtain ⟨d, a, m, l, n, rfl, hd, ha, hm, q⟩ := h
    refine ⟨_, (pss_one (ps_dput (ru1 hr) (pv 0) (pv 1) (pe_op op_add (pe_dget2 (ru1 hr) (pv 0) (pv 1) pe_int ⟨rfl, rfl, rfl, rfl⟩) (pv 2)) rfl)), ?_⟩
    refine ⟨.ref d, rfl, d, rfl, isD_dT hd, .ref a, rfl, _, DGet.t hd ha, .int n, rfl, getM m l, n, getD_dV, rfl, .ref d, rfl, .ref a, rfl, d, _, rfl, put_dV hd ha hm, q⟩
end
end CC

namespace CC
open PySem PySem.Spec PyProof.Rows L2 Ek
abbrev lV (l : List Nat) : List V := l.map fun (n : Nat) => V.int (n : Int)
theorem lV_at {l : List Nat} {i : Nat} {x : V} (h : (lV l)[i]? = some x) : ∃ n, l[i]? = some n ∧ x = V.int (n : Nat) := by
  rw [lV, List.getElem?_map] at h
  obtain ⟨n, e, rfl⟩ := Option.map_eq_some_iff.mp h
  exact ⟨n, e, rfl⟩
/-- the pairs of letters, each of two that rise -/
def prR (l : List Nat) (x : Nat) : List (List Nat) := (l.filter fun y => decide (x < y)).map fun y => [x, y]
def prL (l : List Nat) : List (List Nat) := l.flatMap (prR l)
/-- tuples of letters -/
abbrev KsT (H : Hp) (qs : List Addr) (ls : List (List Nat)) : Prop := Paired (fun q (l : List Nat) => H q = some (.tup (lV l))) qs ls
theorem KsT.same {H H' : Hp} {qs : List Addr} {ls : List (List Nat)} (s : Same H H') (x : KsT H qs ls) : KsT H' qs ls := by
  induction x with
  | nil => exact .nil
  | cons e _ ih => exact .cons (s _ _ e) ih
theorem KsT.updL {H : Hp} {qs : List Addr} {ls : List (List Nat)} {D : Addr} {xs : List V} {o : HO} (e : H D = some (.lst xs)) (x : KsT H qs ls) : KsT (upd H D o) qs ls := by
  induction x with
  | nil => exact .nil
  | cons h _ ih => exact .cons (by rw [upd_ne (ne_of h e (by intro z; cases z))]; exact h) ih
theorem prR_len {l : List Nat} {x : Nat} : (prR l x).length ≤ l.length := by
  rw [prR, List.length_map]
  exact List.length_filter_le _ _
theorem flat_len {l : List Nat} : ∀ {m : List Nat}, (m.flatMap (prR l)).length ≤ m.length * l.length
  | [] => by simp
  | x :: m => by
    rw [List.flatMap_cons, List.length_append, List.length_cons, Nat.succ_mul]
    have := prR_len (l := l) (x := x)
    have := flat_len (l := l) (m := m)
    omega
section
variable {P : Program} {w : World} {K : PySem.W.Frag} {mg : Str → Option Value} {base : Heap}
def spPsO : Sp := fun vs H Q _ => ∃ (a : Addr) (l : List Nat), vs = [.ref a] ∧ H a = some (.tup (lV l)) ∧ l.length ≤ 3 ∧ ∀ H' p qs, Same H H' → H' p = some (.tup (qs.map V.ref)) → KsT H' qs (prL l) → Q (.ref p) H'
theorem ok_PsO {f : Addr} {fd : FuncData} (F : Fun K "pairs_of" "pairs_of" sPsO f fd) (B : Bt mg) : FnOk P w K mg base CX0 1 f fd ["letters"] spPsO := by
  refine F.ok scPsO (fun vs H Q E h => ?_) (fun cdv A outer s H vs Q E hr h => ?_)
  · obtain ⟨a, l, rfl, _⟩ := h
    rfl
  · obtain ⟨a, l, rfl, ha, l3, q⟩ := h
    refine ⟨_, (pss_one (ps_ret (pe_callTy call_tuple_of (by rfl) B.tuple (by decide +kernel) (pa_cons (pe_lc2 (own := [("one", 1), ("other", 2)]) (vs1 := [2]) (g := gName 1) (g1 := gName 2) (tt := tYes) rfl scPsO.nd (pi_tup (pv 0)) (blkOk_by (N := NPsO) (sc := defScope sPsO) (by decide +kernel)) (by decide) (fun _ _ _ _ _ => pg_name (i := 1) scPsO.nd rfl (Or.inl rfl)) (fun _ _ _ _ _ => pts_nil) (fun _ _ _ _ _ => (pi_tupk K rfl (pv 0))) (fun _ _ _ _ _ => pg_name (i := 2) scPsO.nd rfl (Or.inl rfl)) (fun _ _ _ _ _ => pts_one (pt_cmpR op_lt (pv 1) (pv 2) (nomark _))) (fun _ _ _ _ _ => (pe_tup (pa_cons (pv 1) (pa_cons (pv 2) pa_nil))))) pa_nil)))), ?_⟩
    refine q_ret ?_
    refine ⟨.ref a, rfl, a, rfl, ⟨_, tl ha⟩, fun D nD => lp_tup (K := K) (a := a) (xs := lV l) (fun j H2 => Same H H2 ∧ ∃ qs : List Addr, H2 D = some (.lst (qs.map V.ref)) ∧ KsT H2 qs ((l.take j).flatMap (prR l))) ⟨same_upd nD, [], upd_same, .nil⟩ (fun j H2 _ hQ => tl (hQ.1 _ _ ha)) (fun j x H2 hx hQ => ?_) (fun H2 hQ => ?_)⟩
    · obtain ⟨s2, qs, hD, ks⟩ := hQ
      obtain ⟨n, hn, rfl⟩ := lV_at hx
      have jl : j < l.length := (List.getElem?_eq_some_iff.mp hn).1
      have lq : qs.length ≤ 9 := by
        have z := paired_len ks
        have z2 := flat_len (l := l) (m := l.take j)
        rw [List.length_take] at z2
        have z3 : min j l.length * l.length ≤ 3 * 3 := Nat.mul_le_mul (by omega) l3
        omega
      refine ⟨rfl, .ref a, rfl, a, rfl, ⟨_, tl (s2 _ _ ha)⟩, lp_tup (K := K) (a := a) (xs := lV l) (fun k H3 => Same H H3 ∧ ∃ rs : List Addr, H3 D = some (.lst (rs.map V.ref)) ∧ rs.length ≤ 9 + k ∧ KsT H3 rs ((l.take j).flatMap (prR l) ++ ((l.take k).filter fun y => decide (n < y)).map fun y => [n, y])) ⟨s2, qs, hD, by omega, by rw [List.take_zero, List.filter_nil, List.map_nil, List.append_nil]; exact ks⟩ (fun k H3 _ hR => tl (hR.1 _ _ ha)) (fun k y H3 hy hR => ?_) (fun H3 hR => ?_)⟩
      · obtain ⟨s3, rs, hD3, lr, ks3⟩ := hR
        obtain ⟨m, hm, rfl⟩ := lV_at hy
        have kl : k < l.length := (List.getElem?_eq_some_iff.mp hm).1
        have ek : (l.take (k + 1)).filter (fun y => decide (n < y)) = (l.take k).filter (fun y => decide (n < y)) ++ (if n < m then [m] else []) := by
          rw [List.take_add_one, hm, List.filter_append]
          congr 1
          by_cases c : n < m
          · rw [if_pos c]
            exact List.filter_cons_of_pos (by simpa using c)
          · rw [if_neg c]
            exact List.filter_cons_of_neg (by simpa using c)
        refine ⟨rfl, .int (n : Nat), rfl, .int (m : Nat), rfl, _, _, rfl, rfl, _, rfl, ?_⟩
        refine ite2 (fun c => ?_) (fun c => ?_)
        · have c' : n < m := by have := of_decide_eq_true c; omega
          refine ⟨.int (n : Nat), rfl, .int (m : Nat), rfl, by show 2 ≤ sizeLine; decide, fun t nt => ?_⟩
          have st := same_upd (o := .tup [V.int (n : Nat), .int (m : Nat)]) nt
          have hDt := st _ _ hD3
          refine ⟨_, hDt, by rw [List.length_map]; exact small1000 (by omega), fun c o e => ?_, rs ++ [t], by rw [upd_same, List.map_append]; rfl, by rw [List.length_append]; show _ + 1 ≤ _; omega, ?_⟩
          · rw [upd_ne (ne_of_none e nD)]
            exact st _ _ (s3 _ _ e)
          · rw [ek, if_pos c', List.map_append, ← List.append_assoc]
            exact KsT.updL hDt (paired_app (ks3.same st) (.cons upd_same .nil))
        · have c' : ¬ n < m := fun z => c (decide_eq_true (by omega))
          refine ⟨s3, rs, hD3, by omega, ?_⟩
          rw [ek, if_neg c', List.append_nil]
          exact ks3
      · obtain ⟨s3, rs, hD3, lr, ks3⟩ := hR
        refine ⟨s3, rs, hD3, ?_⟩
        rw [List.length_map, List.take_length] at ks3
        rw [take_flat _ hn]
        exact ks3
    · obtain ⟨s2, qs, hD, ks⟩ := hQ
      rw [List.length_map, List.take_length] at ks
      refine ⟨D, _, rfl, .inl ⟨sl hD, fun p np => ?_⟩⟩
      have sp := same_upd (o := .tup (qs.map V.ref)) np
      exact q _ p qs (s2.trans sp) upd_same (ks.same sp)
end
end CC

namespace CC
open PySem PySem.Spec PyProof.Rows L2 Ek
theorem sqT_same {K : PySem.W.Frag} {H H' : Hp} {a : Addr} {xs : List V} (s : Same H H') (x : SqT K H a xs) : SqT K H' a xs := by
  rcases x with (e | ⟨o, e⟩) | c
  · exact .inl (.inl (s _ _ e))
  · exact .inl (.inr ⟨o, s _ _ e⟩)
  · exact .inr c
/-- members of a sum -/
abbrev MbT (H : Hp) (ps : List Addr) (L : Mp) : Prop := Paired (fun p (q : List Nat × Int) => ∃ b, H p = some (.tup [.ref b, .int q.2]) ∧ H b = some (.tup (lV q.1))) ps L
theorem MbT.same {H H' : Hp} {ps : List Addr} {L : Mp} (s : Same H H') (x : MbT H ps L) : MbT H' ps L := by
  induction x with
  | nil => exact .nil
  | cons e _ ih =>
    obtain ⟨b, h1, h2⟩ := e
    exact .cons ⟨b, s _ _ h1, s _ _ h2⟩ ih
def addM (m : Mp) (n : Int) (ls : List (List Nat)) : Mp := ls.foldl (fun m l => putM m l (getM m l + n)) m
def askM (q : List Nat × Int) : Bool := decide (q.1.length = 2) || (decide (q.1.length = 3) && decide (0 < q.2))
def mostM (L : Mp) : Mp := L.foldl (fun m q => if askM q = true then addM m q.2 (prL q.1) else m) []
def bentM (L : Mp) : Bool := (mostM L).all fun p => decide (p.2 ≤ 0)
theorem most_take {L : Mp} {i : Nat} {q : List Nat × Int} (h : L[i]? = some q) : mostM (L.take (i + 1)) = if askM q = true then addM (mostM (L.take i)) q.2 (prL q.1) else mostM (L.take i) := by
  rw [mostM, List.take_add_one, h, List.foldl_append]
  rfl
theorem addM_take {m : Mp} {n : Int} {ls : List (List Nat)} {j : Nat} {l : List Nat} (h : ls[j]? = some l) : addM m n (ls.take (j + 1)) = putM (addM m n (ls.take j)) l (getM (addM m n (ls.take j)) l + n) := by
  rw [addM, List.take_add_one, h, List.foldl_append]
  rfl
theorem putM_len {m : Mp} {l : List Nat} {n : Int} : (putM m l n).length ≤ m.length + 1 := by
  unfold putM
  by_cases c : (m.any fun p => decide (p.1 = l)) = true
  · rw [if_pos c, List.length_map]; omega
  · rw [if_neg c, List.length_append]; exact Nat.le_refl _
theorem prL_len {l : List Nat} (h : l.length ≤ 3) : (prL l).length ≤ 9 := by
  have z := flat_len (l := l) (m := l)
  have z3 : l.length * l.length ≤ 3 * 3 := Nat.mul_le_mul h h
  exact Nat.le_trans z z3
theorem mbt_at {H : Hp} {ps : List Addr} {L : Mp} {i : Nat} {x : V} (mb : MbT H ps L) (hx : (ps.map V.ref)[i]? = some x) : ∃ p q b, x = .ref p ∧ L[i]? = some q ∧ H p = some (.tup [.ref b, .int q.2]) ∧ H b = some (.tup (lV q.1)) := by
  rw [List.getElem?_map] at hx
  obtain ⟨p, hp, rfl⟩ := Option.map_eq_some_iff.mp hx
  have hi : i < L.length := by rw [← paired_len mb]; exact (List.getElem?_eq_some_iff.mp hp).1
  obtain ⟨y, hy, b, hz⟩ := paired_get mb (List.getElem?_eq_getElem hi)
  rw [hp] at hy
  cases hy
  exact ⟨p, _, b, rfl, List.getElem?_eq_getElem hi, hz⟩
theorem kst_at {H : Hp} {qs : List Addr} {ls : List (List Nat)} {i : Nat} {x : V} (ks : KsT H qs ls) (hx : (qs.map V.ref)[i]? = some x) : ∃ q l, x = .ref q ∧ ls[i]? = some l ∧ H q = some (.tup (lV l)) := by
  rw [List.getElem?_map] at hx
  obtain ⟨p, hp, rfl⟩ := Option.map_eq_some_iff.mp hx
  have hi : i < ls.length := by rw [← paired_len ks]; exact (List.getElem?_eq_some_iff.mp hp).1
  obtain ⟨y, hy, hz⟩ := paired_get ks (List.getElem?_eq_getElem hi)
  rw [hp] at hy
  cases hy
  exact ⟨p, _, rfl, List.getElem?_eq_getElem hi, hz⟩
theorem t_and {σ : L2.St} {H : Hp} {t u : TT} (b1 b2 : Bool) (h1 : ∀ Q : Bool → Hp → Prop, Q b1 H → t σ H Q) (h2 : ∀ Q : Bool → Hp → Prop, Q b2 H → u σ H Q) : ∀ Q : Bool → Hp → Prop, Q (b1 && b2) H → tAnd t u σ H Q := fun Q hQ => by
  refine h1 _ ?_
  cases b1 with
  | true =>
    show (if true = true then _ else _)
    rw [if_pos rfl]
    exact h2 _ hQ
  | false =>
    show (if false = true then _ else _)
    rw [if_neg (by decide)]
    exact hQ
theorem dInt {a b : Int} : decide (V.int a = V.int b) = decide (a = b) := decide_eq_decide.mpr ⟨fun h => V.int.inj h, fun h => by rw [h]⟩
theorem ask_eq {l : List Nat} {n : Int} : (decide (V.int (((lV l).length : Nat) : Int) = V.int 2) || (decide (V.int (((lV l).length : Nat) : Int) = V.int 3) && decide ((0 : Int) < n))) = askM (l, n) := by
  rw [dInt, dInt, List.length_map]
  unfold askM
  have e2 : decide ((l.length : Int) = 2) = decide (l.length = 2) := decide_eq_decide.mpr (by omega)
  have e3 : decide ((l.length : Int) = 3) = decide (l.length = 3) := decide_eq_decide.mpr (by omega)
  rw [e2, e3]
end CC

namespace CC
open PySem PySem.Spec PyProof.Rows L2 Ek
def lI (l : List Nat) : List Int := l.map fun (n : Nat) => (n : Int)
theorem lV_lI {l : List Nat} : lV l = (lI l).map V.int := by rw [lI, List.map_map]; rfl
/-- a member of a sum as data -/
def encS (q : List Nat × Int) : PyData := .tuple [.tuple ((lI q.1).map .int), .int q.2]
theorem alike_S (x y : List Nat × Int) : PySem.W.alike (encS x) (encS y) = true := by
  unfold encS
  simp [PySem.W.alike, PySem.W.alikeAll, PySem.W.alike_ints]
theorem depth_S (x : List Nat × Int) : (encS x).depth ≤ 60 := by
  unfold encS
  simp [PyData.depth, PyData.depthAll, PySem.W.depth_ints]
/-! ### the order of keys and of members -/
abbrev keyLt (a b : List Nat) : Prop := lI a < lI b
theorem lI_inj {a b : List Nat} (h : lI a = lI b) : a = b := by
  induction a generalizing b with
  | nil => cases b with
    | nil => rfl
    | cons _ _ => cases h
  | cons x a ih => cases b with
    | nil => cases h
    | cons y b =>
      simp only [lI, List.map_cons, List.cons.injEq] at h
      have e : x = y := by omega
      rw [e, ih h.2]
theorem eqv_ints : ∀ (xs ys : List Int), PyData.eqvAll (xs.map .int) (ys.map .int) = decide (xs = ys)
  | [], [] => by simp [PyData.eqvAll]
  | [], _ :: _ => by simp [PyData.eqvAll]
  | _ :: _, [] => by simp [PyData.eqvAll]
  | x :: xs, y :: ys => by
    rw [List.map_cons, List.map_cons, PySem.W.eqv_all_cons, eqv_ints xs ys]
    by_cases h : x = y
    · simp [PyData.eqv, h]
    · simp [PyData.eqv, h]
theorem lt_S (p q : List Nat × Int) : PySem.W.dataLt (encS p) (encS q) = decide (lI p.1 < lI q.1 ∨ (lI p.1 = lI q.1 ∧ p.2 < q.2)) := by
  unfold encS
  rw [PySem.W.dataLt_tuple, PySem.W.dataLt_cons (by simp [PySem.W.alike, PySem.W.alike_ints])]
  have ev : PyData.eqv (.tuple ((lI p.1).map .int)) (.tuple ((lI q.1).map .int)) = decide (lI p.1 = lI q.1) := by
    rw [PyData.eqv]
    exact eqv_ints _ _
  by_cases h : lI p.1 = lI q.1
  · rw [if_pos (ev.trans (decide_eq_true h)), PySem.W.dataLt_cons (by simp [PySem.W.alike])]
    have irr : ¬ lI q.1 < lI q.1 := List.lt_irrefl _
    by_cases g : p.2 = q.2
    · rw [if_pos (by simp [PyData.eqv, g]), lex_irrefl, h, g]
      simp
    · rw [if_neg (by simp [PyData.eqv, g]), PySem.W.dataLt_int, h]
      simp only [irr, false_or, true_and]
  · rw [if_neg (by rw [ev, decide_eq_false h]; decide), PySem.W.dataLt_tuple]
    have z := PySem.W.dataLt_ints (lI p.1) (lI q.1)
    unfold PySem.W.rowLt at z
    rw [z]
    simp [h]
theorem le_S (p q : List Nat × Int) : PySem.W.dataLe false encS p q = decide (lI p.1 < lI q.1 ∨ (lI p.1 = lI q.1 ∧ p.2 ≤ q.2)) := by
  show (!PySem.W.dataLt (encS q) (encS p)) = _
  rw [lt_S]
  by_cases e : lI p.1 = lI q.1
  · have irr : ¬ lI q.1 < lI q.1 := List.lt_irrefl _
    by_cases g : q.2 < p.2
    · have g' : ¬ p.2 ≤ q.2 := by omega
      simp [e, g, g']
    · have g' : p.2 ≤ q.2 := by omega
      simp [e, g, g']
  · have e' : ¬ lI q.1 = lI p.1 := fun z => e z.symm
    by_cases g : lI q.1 < lI p.1
    · have g' : ¬ lI p.1 < lI q.1 := fun z => absurd (List.lt_trans g z) (List.lt_irrefl _)
      simp [e, e', g, g']
    · have g' : lI p.1 < lI q.1 := by
        rcases Decidable.em (lI p.1 < lI q.1) with z | z
        · exact z
        · exact absurd (List.le_antisymm (List.not_lt.mp g) (List.not_lt.mp z)) e
      simp [e, e', g, g']
theorem le_T (p q : Addr × List Int) : PySem.W.dataLe false encT p q = decide (p.2 ≤ q.2) := by
  show (!PySem.W.dataLt (encT q) (encT p)) = _
  unfold encT
  rw [PySem.W.dataLt_tuple]
  have z := PySem.W.dataLt_ints q.2 p.2
  unfold PySem.W.rowLt at z
  rw [z]
  by_cases h : q.2 < p.2
  · have h' : ¬ p.2 ≤ q.2 := fun r => List.not_lt.mpr r h
    simp [h, h']
  · have h' : p.2 ≤ q.2 := List.not_lt.mp h
    simp [h, h']
/-- members in the order of their letters -/
def Up (L : Mp) : Prop := L.Pairwise fun p q => lI p.1 < lI q.1
theorem up_sortT {zs : List (Addr × List Int)} (nd : (zs.map (·.2)).Nodup) : (zs.mergeSort (PySem.W.dataLe false encT)).Pairwise fun p q => p.2 < q.2 := by
  have pw : (zs.mergeSort (PySem.W.dataLe false encT)).Pairwise fun p q => PySem.W.dataLe false encT p q = true := List.pairwise_mergeSort (fun a b c h1 h2 => by
    rw [le_T, decide_eq_true_iff] at *
    exact List.le_trans h1 h2) (fun a b => by
    rw [le_T, le_T, Bool.or_eq_true, decide_eq_true_iff, decide_eq_true_iff]
    exact List.le_total _ _) zs
  have nd2 : ((zs.mergeSort (PySem.W.dataLe false encT)).map (·.2)).Nodup := ((List.mergeSort_perm zs (PySem.W.dataLe false encT)).map (·.2)).nodup_iff.mpr nd
  have nd3 : (zs.mergeSort (PySem.W.dataLe false encT)).Pairwise fun p q => p.2 ≠ q.2 := List.pairwise_map.mp nd2
  refine (pw.and nd3).imp fun {p q} h => ?_
  have h1 := h.1
  rw [le_T, decide_eq_true_iff] at h1
  rcases Decidable.em (p.2 < q.2) with z | z
  · exact z
  · exact absurd (List.le_antisymm h1 (List.not_lt.mp z)) h.2
theorem up_sortS {β : Type} {g : β → List Nat × Int} {zs : List β} (nd : (zs.map fun z => (g z).1).Nodup) : (zs.mergeSort (PySem.W.dataLe false fun z => encS (g z))).Pairwise fun p q => lI (g p).1 < lI (g q).1 := by
  have e : ∀ p q : β, PySem.W.dataLe false (fun z => encS (g z)) p q = decide (lI (g p).1 < lI (g q).1 ∨ (lI (g p).1 = lI (g q).1 ∧ (g p).2 ≤ (g q).2)) := fun p q => le_S (g p) (g q)
  have pw : (zs.mergeSort (PySem.W.dataLe false fun z => encS (g z))).Pairwise fun p q => PySem.W.dataLe false (fun z => encS (g z)) p q = true := List.pairwise_mergeSort (fun a b c h1 h2 => by
    rw [e, decide_eq_true_iff] at *
    rcases h1 with h1 | ⟨h1, h1'⟩ <;> rcases h2 with h2 | ⟨h2, h2'⟩
    · exact .inl (List.lt_trans h1 h2)
    · exact .inl (h2 ▸ h1)
    · exact .inl (h1 ▸ h2)
    · exact .inr ⟨h1.trans h2, by omega⟩) (fun a b => by
    rw [e, e, Bool.or_eq_true, decide_eq_true_iff, decide_eq_true_iff]
    rcases Decidable.em (lI (g a).1 < lI (g b).1) with z | z
    · exact .inl (.inl z)
    · rcases Decidable.em (lI (g b).1 < lI (g a).1) with y | y
      · exact .inr (.inl y)
      · have eq := List.le_antisymm (List.not_lt.mp y) (List.not_lt.mp z)
        rcases Int.le_total (g a).2 (g b).2 with x | x
        · exact .inl (.inr ⟨eq, x⟩)
        · exact .inr (.inr ⟨eq.symm, x⟩)) zs
  have nd2 : ((zs.mergeSort (PySem.W.dataLe false fun z => encS (g z))).map fun z => (g z).1).Nodup := ((List.mergeSort_perm zs (PySem.W.dataLe false fun z => encS (g z))).map fun z => (g z).1).nodup_iff.mpr nd
  have nd3 : (zs.mergeSort (PySem.W.dataLe false fun z => encS (g z))).Pairwise fun p q => (g p).1 ≠ (g q).1 := List.pairwise_map.mp nd2
  refine (pw.and nd3).imp fun {p q} h => ?_
  have h1 := h.1
  rw [e, decide_eq_true_iff] at h1
  rcases h1 with z | ⟨z, _⟩
  · exact z
  · exact absurd (lI_inj z) h.2
theorem up_eq {L L' : Mp} (u : Up L) (u' : Up L') (h : ∀ p, p ∈ L ↔ p ∈ L') : L = L' := by
  have nd : ∀ {L : Mp}, Up L → L.Nodup := fun {L} u => u.imp fun {p q} h e => by rw [e] at h; exact List.lt_irrefl _ h
  have pm : L.Perm L' := (List.perm_ext_iff_of_nodup (nd u) (nd u')).mpr h
  exact pm.eq_of_pairwise (le := fun (p q : List Nat × Int) => lI p.1 < lI q.1) (fun a b _ _ h1 h2 => absurd (show lI a.1 < lI a.1 from List.lt_trans h1 h2) (List.lt_irrefl _)) u u'
end CC

namespace CC
open PySem PySem.Spec PyProof.Rows L2 Ek
theorem dp_ints {K : PySem.W.Frag} {H : Hp} : ∀ {xs : List Int}, DpAll K H (xs.map V.int) (xs.map .int)
  | [] => .nil
  | x :: xs => .cons (.int x) dp_ints
theorem paired_zip {α β : Type} {F : α → β → Prop} {a : List α} {b : List β} (x : Paired F a b) : (a.zip b).map Prod.fst = a ∧ (a.zip b).map Prod.snd = b ∧ ∀ p ∈ a.zip b, F p.1 p.2 := by
  induction x with
  | nil => exact ⟨rfl, rfl, fun p m => by cases m⟩
  | cons h _ ih =>
    obtain ⟨h1, h2, h3⟩ := ih
    refine ⟨by rw [List.zip_cons_cons, List.map_cons, h1], by rw [List.zip_cons_cons, List.map_cons, h2], fun p m => ?_⟩
    rw [List.zip_cons_cons] at m
    rcases List.mem_cons.mp m with e | m
    · rw [e]; exact h
    · exact h3 p m
theorem paired_of {α β : Type} {F : α → β → Prop} : ∀ {l : List (α × β)}, (∀ p ∈ l, F p.1 p.2) → Paired F (l.map Prod.fst) (l.map Prod.snd)
  | [], _ => .nil
  | p :: l, h => .cons (h p List.mem_cons_self) (paired_of fun q m => h q (List.mem_cons_of_mem _ m))
theorem refs_fst {β : Type} (l : List (Addr × β)) : l.map (fun b => V.ref b.1) = (l.map Prod.fst).map V.ref := by
  rw [List.map_map]
  rfl
theorem MbT.updL {H : Hp} {ps : List Addr} {L : Mp} {D : Addr} {xs : List V} {o : HO} (e : H D = some (.lst xs)) (x : MbT H ps L) : MbT (upd H D o) ps L := by
  induction x with
  | nil => exact .nil
  | cons h _ ih =>
    obtain ⟨b, h1, h2⟩ := h
    exact .cons ⟨b, by rw [upd_ne (ne_of h1 e (by intro z; cases z))]; exact h1, by rw [upd_ne (ne_of h2 e (by intro z; cases z))]; exact h2⟩ ih
theorem call_sortS {X : Cx} (hu : X.A.units + 64 < cLine) : CallR X (.builtin "sorted") (rSortB (fun b : Addr × (List Nat × Int) => encS b.2) (fun b => V.ref b.1) X.K) := call_sortB hu
theorem find_nodup {m : Mp} (nd : (m.map (·.1)).Nodup) {i : Nat} {p : List Nat × Int} (h : m[i]? = some p) : m.find? (fun q => decide (q.1 = p.1)) = some p := by
  induction m generalizing i with
  | nil => cases h
  | cons x m ih =>
    rw [List.map_cons, List.nodup_cons] at nd
    cases i with
    | zero =>
      cases h
      exact List.find?_cons_of_pos (by simp)
    | succ i =>
      have h' : m[i]? = some p := by simpa using h
      rw [List.find?_cons_of_neg (fun z => nd.1 (by rw [of_decide_eq_true z]; exact List.mem_map.mpr ⟨p, List.mem_of_getElem? h', rfl⟩))]
      exact ih nd.2 h'
end CC

namespace CC
open PySem PySem.Spec PyProof.Rows L2 Ek
theorem putM_keys {m : Mp} {l : List Nat} {n : Int} : (putM m l n).map (·.1) = if m.any (fun p => decide (p.1 = l)) = true then m.map (·.1) else m.map (·.1) ++ [l] := by
  unfold putM
  by_cases c : (m.any fun p => decide (p.1 = l)) = true
  · rw [if_pos c, if_pos c, List.map_map]
    apply List.map_congr_left
    intro p _
    show (if p.1 = l then (p.1, n) else p).1 = p.1
    by_cases e : p.1 = l
    · rw [if_pos e]
    · rw [if_neg e]
  · rw [if_neg c, if_neg c, List.map_append]
    rfl
theorem keys_kI {m : Mp} : (dV m).map (·.1) = (m.map fun p => lI p.1).map (·.map Sum.inl) := by
  rw [dV, List.map_map, List.map_map]
  apply List.map_congr_left
  intro p _
  show kI p.1 = (lI p.1).map Sum.inl
  rw [kI, lI, List.map_map]
  rfl
theorem pick_of {m : Mp} : ∀ {S : List (Addr × List Int)}, (∀ z ∈ S, ∃ p ∈ m, z.2 = lI p.1) → ∃ qs : List (Addr × (List Nat × Int)), S = qs.map (fun q => (q.1, lI q.2.1)) ∧ ∀ q ∈ qs, q.2 ∈ m
  | [], _ => ⟨[], rfl, fun q h => by cases h⟩
  | z :: S, h => by
    obtain ⟨qs, e, hq⟩ := pick_of fun y hy => h y (List.mem_cons_of_mem _ hy)
    obtain ⟨p, hp, ez⟩ := h z List.mem_cons_self
    refine ⟨(z.1, p) :: qs, ?_, fun q hq2 => ?_⟩
    · rw [List.map_cons, ← e, ← ez]
    · rcases List.mem_cons.mp hq2 with x | x
      · rw [x]; exact hp
      · exact hq q x
theorem find_mem {m : Mp} (nd : (m.map (·.1)).Nodup) {p : List Nat × Int} (h : p ∈ m) : m.find? (fun q => decide (q.1 = p.1)) = some p := by
  obtain ⟨i, hi, e⟩ := List.mem_iff_getElem.mp h
  exact find_nodup nd (by rw [List.getElem?_eq_getElem hi, e])
theorem mem_eq {m : Mp} (nd : (m.map (·.1)).Nodup) {p q : List Nat × Int} (hp : p ∈ m) (hq : q ∈ m) (e : p.1 = q.1) : p = q := by
  have a := find_mem nd hp
  have b := find_mem nd hq
  rw [e, b] at a
  exact (Option.some.inj a).symm
section
variable {P : Program} {w : World} {K : PySem.W.Frag} {mg : Str → Option Value} {base : Heap}
def spSFr : Sp := fun vs H Q _ => ∃ (d : Addr) (m : Mp), vs = [.ref d] ∧ H d = some (.dT (dV m)) ∧ m.length ≤ 200 ∧ (m.map (·.1)).Nodup ∧ ∀ H' t ps L, Same H H' → H' t = some (.tup (ps.map V.ref)) → MbT H' ps L → Up L → (∀ p, p ∈ L ↔ p ∈ m ∧ p.2 ≠ 0) → L.length ≤ m.length → Q (.ref t) H'
theorem ok_SFr {f : Addr} {fd : FuncData} (F : Fun K "sum_from" "sum_from" sSFr f fd) (B : Bt mg) : FnOk P w K mg base CX0 1 f fd ["numbers"] spSFr := by
  refine F.ok scSFr (fun vs H Q E h => ?_) (fun cdv A outer s H vs Q E hr h => ?_)
  · obtain ⟨d, m, rfl, _⟩ := h
    rfl
  · obtain ⟨d, m, rfl, hd, hm, nd, q⟩ := h
    refine ⟨_, (pss_one (ps_ret (pe_callTy call_tuple_of (by rfl) B.tuple (by decide +kernel) (pa_cons (pe_lc (own := [("letters", 1)]) (g := gName 1) rfl scSFr.nd (pi_list (pe_callB (call_sortedDT rfl hr.units) (by rfl) B.sorted (by decide +kernel) (pa_cons (pv 0) pa_nil))) (blkOk_by (N := NSFr) (sc := defScope sSFr) (by decide +kernel)) (fun _ _ _ _ _ => pg_name (i := 1) scSFr.nd rfl (Or.inl rfl)) (fun _ _ _ _ _ => pts_one (pt_cmpR op_ne (pe_dget (ru1 hr) (pv 0) (pv 1) (fun _ _ => rfl)) pe_int (nomark _))) (fun _ _ _ _ _ => (pe_tup (pa_cons (pv 1) (pa_cons (pe_dget (ru1 hr) (pv 0) (pv 1) (fun _ _ => rfl)) pa_nil))))) pa_nil)))), ?_⟩
    refine q_ret ?_
    refine ⟨.ref d, rfl, d, dV m, m.map fun p => lI p.1, rfl, .inl hd, keys_kI, fun p zs np ez hz => ⟨p, rfl, ⟨_, sl upd_same⟩, fun D nD => ?_⟩⟩
    have ndz : (zs.map (·.2)).Nodup := by
      rw [ez]
      have z : m.Pairwise fun p q => p.1 ≠ q.1 := List.pairwise_map.mp nd
      exact List.pairwise_map.mpr (z.imp fun {p q} h e => h (lI_inj e))
    have upS := up_sortT ndz
    have memS : ∀ z, z ∈ zs.mergeSort (PySem.W.dataLe false encT) ↔ z ∈ zs := fun z => (List.mergeSort_perm zs _).mem_iff
    have lenS : (zs.mergeSort (PySem.W.dataLe false encT)).length = m.length := by
      rw [List.length_mergeSort]
      have := congrArg List.length ez
      simpa using this
    obtain ⟨qs, eS, hqs⟩ := pick_of (m := m) (S := zs.mergeSort (PySem.W.dataLe false encT)) fun z mz => by
      have : z.2 ∈ zs.map (·.2) := List.mem_map.mpr ⟨z, (memS z).mp mz, rfl⟩
      rw [ez] at this
      obtain ⟨p, hp, e⟩ := List.mem_map.mp this
      exact ⟨p, hp, e.symm⟩
    have hq2 : ∀ q ∈ qs, H q.1 = some (.tup (lV q.2.1)) := fun q mq => by
      have mz : (q.1, lI q.2.1) ∈ zs := (memS _).mp (by rw [eS]; exact List.mem_map.mpr ⟨q, mq, rfl⟩)
      rw [lV_lI]
      exact hz _ mz
    have all : ∀ p, p ∈ m → ∃ q ∈ qs, q.2 = p := fun p hp => by
      have h1 : lI p.1 ∈ zs.map (·.2) := by rw [ez]; exact List.mem_map.mpr ⟨p, hp, rfl⟩
      obtain ⟨z, mz, e⟩ := List.mem_map.mp h1
      have h2 : z ∈ qs.map (fun q => (q.1, lI q.2.1)) := by rw [← eS]; exact (memS z).mpr mz
      obtain ⟨q, mq, rfl⟩ := List.mem_map.mp h2
      exact ⟨q, mq, mem_eq nd (hqs q mq) hp (lI_inj e)⟩
    rw [eS] at upS lenS nD ⊢
    rw [List.length_map] at lenS
    have upQ : (qs.map Prod.snd).Pairwise fun p q => lI p.1 < lI q.1 := List.pairwise_map.mpr ((List.pairwise_map (R := fun (p q : Addr × List Int) => p.2 < q.2)).mp upS)
    clear eS memS ndz ez hz
    have es : (qs.map (fun q => (q.1, lI q.2.1))).map (fun z => V.ref z.1) = qs.map fun q => V.ref q.1 := by rw [List.map_map]; rfl
    rw [es] at nD ⊢
    have s1 := same_upd (o := .lst (qs.map fun q => V.ref q.1)) np
    have hp : (upd H p (.lst (qs.map fun q => V.ref q.1))) p = some (.lst (qs.map fun q => V.ref q.1)) := upd_same
    generalize upd H p (.lst (qs.map fun q => V.ref q.1)) = H1 at s1 hp nD ⊢
    refine lc_list (K := K) (a := p) (xs := qs.map fun q => V.ref q.1) (fun i H' => Same H1 H' ∧ ∃ ps : List Addr, H' D = some (.lst (ps.map V.ref)) ∧ ps.length ≤ i ∧ MbT H' ps (((qs.map Prod.snd).take i).filter fun p => decide (p.2 ≠ 0))) ⟨same_upd nD, [], upd_same, Nat.le_refl _, .nil⟩ (fun i H' _ hP => sl (hP.1 _ _ hp)) (fun i x H' hx hP => ?_) (fun H' hP => ?_)
    · obtain ⟨s', ps, hD, lp, mb⟩ := hP
      rw [List.getElem?_map] at hx
      obtain ⟨qq, hb, rfl⟩ := Option.map_eq_some_iff.mp hx
      have mq := List.mem_of_getElem? hb
      have hz' := s' _ _ (s1 _ _ (hq2 qq mq))
      have hd' := s' _ _ (s1 _ _ hd)
      have fn := find_mem nd (hqs qq mq)
      have il : i < qs.length := (List.getElem?_eq_some_iff.mp hb).1
      have hb2 : (qs.map Prod.snd)[i]? = some qq.2 := by rw [List.getElem?_map, hb]; rfl
      obtain ⟨b, l, n⟩ := qq
      simp only at hz' fn hb2
      have g : DGet H' d (.ref b) (some (V.int n)) := by
        have := DGet.t (k := kI l) hd' (by rw [kV_kI]; exact hz')
        rw [valV_dV, fn] at this
        exact this
      refine ⟨rfl, .ref d, rfl, .ref b, rfl, d, _, rfl, g, ?_⟩
      have ef : ((qs.map Prod.snd).take (i + 1)).filter (fun p => decide (p.2 ≠ 0)) = ((qs.map Prod.snd).take i).filter (fun p => decide (p.2 ≠ 0)) ++ (if n ≠ 0 then [(l, n)] else []) := by
        rw [List.take_add_one, hb2, List.filter_append]
        congr 1
        by_cases c : n ≠ 0
        · rw [if_pos c]
          exact List.filter_cons_of_pos (by simpa using c)
        · rw [if_neg c]
          exact List.filter_cons_of_neg (by simpa using c)
      refine ⟨rfl, _, rfl, ?_⟩
      refine ite2 (fun c => ?_) (fun c => ?_)
      · have c' : n ≠ 0 := fun z => by subst z; simp at c
        refine ⟨.ref b, rfl, .ref d, rfl, .ref b, rfl, d, _, rfl, g, by show 2 ≤ sizeLine; decide, fun t nt => ?_⟩
        have st := same_upd (o := .tup [V.ref b, .int n]) nt
        have hDt := st _ _ hD
        refine ⟨_, hDt, by rw [List.length_map]; exact small1000 (by omega), fun c o e => ?_, ps ++ [t], by rw [upd_same, List.map_append]; rfl, by rw [List.length_append]; show _ + 1 ≤ _; omega, ?_⟩
        · rw [upd_ne (ne_of_none e nD)]
          exact st _ _ (s' _ _ e)
        · rw [ef, if_pos c']
          exact MbT.updL hDt (paired_app (mb.same st) (.cons ⟨b, upd_same, st _ _ hz'⟩ .nil))
      · have c' : ¬ n ≠ 0 := fun z => c (by simp [z])
        refine ⟨s', ps, hD, by omega, ?_⟩
        rw [ef, if_neg c', List.append_nil]
        exact mb
    · obtain ⟨s', ps, hD, lp, mb⟩ := hP
      have lb : (qs.map fun q => V.ref q.1).length = (qs.map Prod.snd).length := by rw [List.length_map, List.length_map]
      rw [lb, List.take_length] at mb
      refine ⟨D, _, rfl, .inl ⟨sl hD, fun t nt => ?_⟩⟩
      have st := same_upd (o := .tup (ps.map V.ref)) nt
      refine q _ t ps _ (s1.trans (s'.trans st)) upd_same (mb.same st) (upQ.filter _) (fun p => ?_) (Nat.le_trans (List.length_filter_le _ _) (by rw [List.length_map]; omega))
      rw [List.mem_filter, List.mem_map]
      refine ⟨fun ⟨⟨q, mq, e⟩, c⟩ => ⟨e ▸ hqs q mq, by simpa using c⟩, fun ⟨hp, c⟩ => ⟨?_, by simpa using c⟩⟩
      obtain ⟨q, mq, e⟩ := all p hp
      exact ⟨q, mq, e⟩
end
end CC

namespace CC
open PySem PySem.Spec PyProof.Rows L2 Ek
/-! ### numbers added up -/
def accM (m L : Mp) : Mp := L.foldl (fun m q => putM m q.1 (getM m q.1 + q.2)) m
def valL (L : Mp) (k : List Nat) : Int := ((L.filter fun q => decide (q.1 = k)).map (·.2)).sum
theorem accM_take {m L : Mp} {i : Nat} {q : List Nat × Int} (h : L[i]? = some q) : accM m (L.take (i + 1)) = putM (accM m (L.take i)) q.1 (getM (accM m (L.take i)) q.1 + q.2) := by
  rw [accM, List.take_add_one, h, List.foldl_append]
  rfl
theorem accM_len {L : Mp} : ∀ {m : Mp}, (accM m L).length ≤ m.length + L.length := by
  induction L with
  | nil => exact Nat.le_refl _
  | cons q L ih =>
    intro m
    have a := ih (m := putM m q.1 (getM m q.1 + q.2))
    have b := putM_len (m := m) (l := q.1) (n := getM m q.1 + q.2)
    show (accM (putM m q.1 (getM m q.1 + q.2)) L).length ≤ _
    rw [List.length_cons]
    omega
theorem any_mem {m : Mp} {l : List Nat} : (m.any fun p => decide (p.1 = l)) = true ↔ l ∈ m.map (·.1) := by
  rw [List.any_eq_true, List.mem_map]
  exact ⟨fun ⟨p, hp, e⟩ => ⟨p, hp, of_decide_eq_true e⟩, fun ⟨p, hp, e⟩ => ⟨p, hp, decide_eq_true e⟩⟩
theorem putM_nodup {m : Mp} {l : List Nat} {n : Int} (nd : (m.map (·.1)).Nodup) : ((putM m l n).map (·.1)).Nodup := by
  rw [putM_keys]
  by_cases c : (m.any fun p => decide (p.1 = l)) = true
  · rw [if_pos c]; exact nd
  · rw [if_neg c, List.nodup_append]
    refine ⟨nd, by simp, fun a ha b hb e => c ?_⟩
    rw [List.mem_singleton.mp hb] at e
    exact any_mem.mpr (e ▸ ha)
theorem accM_nodup {L : Mp} : ∀ {m : Mp}, (m.map (·.1)).Nodup → ((accM m L).map (·.1)).Nodup := by
  induction L with
  | nil => exact fun h => h
  | cons q L ih => exact fun h => ih (putM_nodup h)
theorem getM_none {m : Mp} {k : List Nat} (h : k ∉ m.map (·.1)) : getM m k = 0 := by
  unfold getM
  rw [List.find?_eq_none.mpr fun p hp z => h (List.mem_map.mpr ⟨p, hp, of_decide_eq_true z⟩)]
  rfl
theorem getM_mem {m : Mp} (nd : (m.map (·.1)).Nodup) {p : List Nat × Int} (h : p ∈ m) : getM m p.1 = p.2 := by
  unfold getM
  rw [find_mem nd h]
  rfl
theorem mem_iff_get {m : Mp} (nd : (m.map (·.1)).Nodup) (p : List Nat × Int) : (p ∈ m ∧ p.2 ≠ 0) ↔ (p.2 = getM m p.1 ∧ p.2 ≠ 0) := by
  refine ⟨fun ⟨h, c⟩ => ⟨(getM_mem nd h).symm, c⟩, fun ⟨h, c⟩ => ⟨?_, c⟩⟩
  rcases Decidable.em (p.1 ∈ m.map (·.1)) with z | z
  · obtain ⟨q, hq, e⟩ := List.mem_map.mp z
    have g := getM_mem nd hq
    rw [e] at g
    have : q = p := by
      obtain ⟨a, b⟩ := q
      obtain ⟨c, d⟩ := p
      simp only at e g h
      rw [e, ← g, ← h]
    exact this ▸ hq
  · rw [getM_none z] at h
    exact absurd h c
theorem getM_put {m : Mp} {l k : List Nat} {n : Int} (nd : (m.map (·.1)).Nodup) : getM (putM m l n) k = if k = l then n else getM m k := by
  have nd2 := putM_nodup (l := l) (n := n) nd
  by_cases e : k = l
  · subst e
    rw [if_pos rfl]
    refine getM_mem (p := (k, n)) nd2 ?_
    unfold putM
    by_cases c : (m.any fun p => decide (p.1 = k)) = true
    · rw [if_pos c]
      obtain ⟨p, hp, e⟩ := List.any_eq_true.mp c
      have e' := of_decide_eq_true e
      exact List.mem_map.mpr ⟨p, hp, by rw [if_pos e', e']⟩
    · rw [if_neg c]
      exact List.mem_append_right _ List.mem_cons_self
  · rw [if_neg e]
    rcases Decidable.em (k ∈ m.map (·.1)) with z | z
    · obtain ⟨q, hq, e2⟩ := List.mem_map.mp z
      have q1 : q.1 ≠ l := fun x => e (by rw [← e2, x])
      have h2 : q ∈ putM m l n := by
        unfold putM
        by_cases c : (m.any fun p => decide (p.1 = l)) = true
        · rw [if_pos c]
          exact List.mem_map.mpr ⟨q, hq, by rw [if_neg q1]⟩
        · rw [if_neg c]
          exact List.mem_append_left _ hq
      rw [← e2, getM_mem nd2 h2, getM_mem nd hq]
    · rw [getM_none z, getM_none]
      rw [putM_keys]
      by_cases c : (m.any fun p => decide (p.1 = l)) = true
      · rw [if_pos c]; exact z
      · rw [if_neg c, List.mem_append, List.mem_singleton]
        exact fun x => x.elim z e
theorem valL_cons {q : List Nat × Int} {L : Mp} {k : List Nat} : valL (q :: L) k = (if k = q.1 then q.2 else 0) + valL L k := by
  unfold valL
  by_cases c : q.1 = k
  · rw [List.filter_cons_of_pos (by simpa using c), List.map_cons, List.sum_cons, if_pos c.symm]
  · rw [List.filter_cons_of_neg (by simpa using c), if_neg (fun z => c z.symm), Int.zero_add]
theorem valL_app {L M : Mp} {k : List Nat} : valL (L ++ M) k = valL L k + valL M k := by
  induction L with
  | nil => rw [List.nil_append, show valL [] k = 0 from rfl, Int.zero_add]
  | cons q L ih => rw [List.cons_append, valL_cons, valL_cons, ih, Int.add_assoc]
theorem get_acc {L : Mp} : ∀ {m : Mp} {k : List Nat}, (m.map (·.1)).Nodup → getM (accM m L) k = getM m k + valL L k := by
  induction L with
  | nil => intro m k _; rw [show valL [] k = 0 from rfl, Int.add_zero]; rfl
  | cons q L ih =>
    intro m k nd
    show getM (accM (putM m q.1 (getM m q.1 + q.2)) L) k = _
    rw [ih (putM_nodup nd), getM_put nd, valL_cons]
    by_cases c : k = q.1
    · rw [if_pos c, if_pos c, c, Int.add_assoc]
    · rw [if_neg c, if_neg c, Int.zero_add]
theorem get_val {L : Mp} {k : List Nat} (nd : (L.map (·.1)).Nodup) : getM L k = valL L k := by
  induction L with
  | nil => rfl
  | cons q L ih =>
    rw [List.map_cons, List.nodup_cons] at nd
    rw [valL_cons]
    by_cases c : k = q.1
    · have z : valL L k = 0 := by rw [← ih nd.2, getM_none (by rw [c]; exact nd.1)]
      rw [if_pos c, z, Int.add_zero]
      unfold getM
      rw [List.find?_cons_of_pos (by simpa using c.symm)]
      rfl
    · rw [if_neg c, Int.zero_add, ← ih nd.2]
      unfold getM
      rw [List.find?_cons_of_neg (by simpa using fun z : q.1 = k => c z.symm)]
section
variable {P : Program} {w : World} {K : PySem.W.Frag} {mg : Str → Option Value} {base : Heap}
theorem cat_S {H : Hp} {a b : Addr} {xs ys : List V} {Q : VK} (ha : SqT K H a xs) (hb : SqT K H b ys) (hz : xs.length + ys.length ≤ 1000) (k : ∀ t H', Same H H' → SqT K H' t (xs ++ ys) → Q (.ref t) H') : rCatA K (.ref a) (.ref b) H Q := by
  refine ⟨a, b, xs, ys, rfl, rfl, ha, hb, Nat.le_of_lt (small1000 hz), fun z => ?_, fun _ z => ?_, fun _ _ p np => k p _ (same_upd np) (tl upd_same)⟩
  · subst z
    exact k b H (Same.refl H) hb
  · subst z
    rw [List.append_nil] at k
    exact k a H (Same.refl H) ha
theorem sqT_but {H H' : Hp} {a d : Addr} {xs : List V} {kvs : List (List L2.Key × V)} (k : ∀ c o, c ≠ d → H c = some o → H' c = some o) (hd : H d = some (.dT kvs)) (x : SqT K H a xs) : SqT K H' a xs := by
  rcases x with (e | ⟨o, e⟩) | c
  · exact .inl (.inl (k _ _ (ne_of e hd (by intro z; cases z)) e))
  · exact .inl (.inr ⟨o, k _ _ (ne_of e hd (by intro z; cases z)) e⟩)
  · exact .inr c
end
end CC

namespace CC
open PySem PySem.Spec PyProof.Rows L2 Ek
theorem cut_lo (xs : List V) (n : Nat) : cutV xs (some (n : Int)) none = xs.drop n := by
  unfold cutV
  rw [HT.sIx_nat, HT.sIx_none]
  by_cases h : n ≤ xs.length
  · rw [Nat.min_eq_left h]
    exact List.take_of_length_le (by rw [List.length_drop]; exact Nat.le_refl _)
  · rw [Nat.min_eq_right (by omega), List.drop_of_length_le (Nat.le_refl _), List.drop_of_length_le (by omega), List.take_nil]
theorem cut_hi (xs : List V) (n : Nat) : cutV xs none (some (n : Int)) = xs.take n := by
  unfold cutV
  rw [HT.sIx_nat, HT.sIx_none, List.drop_zero, Nat.sub_zero]
  by_cases h : n ≤ xs.length
  · rw [Nat.min_eq_left h]
  · rw [Nat.min_eq_right (by omega), List.take_of_length_le (Nat.le_refl _), List.take_of_length_le (by omega)]
theorem cut_lo1 (xs : List V) (n : Nat) : cutV xs (some ((n : Int) + 1)) none = xs.drop (n + 1) := cut_lo xs (n + 1)
theorem noPart {σ : L2.St} {H : Hp} {Q : Option Int → Hp → Prop} (h : Q none H) : tNoPart σ H Q := h
theorem sl_S {K : PySem.W.Frag} {H : Hp} {a : Addr} {xs ys : List V} {lo hi : Option Int} {Q : VK} (ha : SqT K H a xs) (e : cutV xs lo hi = ys) (k : ∀ t H', Same H H' → SqT K H' t ys → Q (.ref t) H') : rSlA K (.ref a) lo hi H Q := by
  refine ⟨a, xs, rfl, ha, fun ⟨z1, z2⟩ => ?_, fun _ p np => k p _ (same_upd np) (tl (by rw [upd_same, e]))⟩
  refine k a H (Same.refl H) ?_
  rw [← e]
  unfold cutV
  rw [z1, z2, Nat.sub_zero, List.drop_zero, List.take_length]
  exact ha
/-- a comprehension over zip of two tuples, of any lengths -/
theorem lc_zipT2 {K : PySem.W.Frag} {a b : Addr} {xs ys : List V} {n : Nat} {g : TG} {tt : TT} {te : TE} {vs : List Nat} {σ : L2.St} {H1 : Hp} {D : Addr} {Qd : Hp → Prop} (nx : n ≤ xs.length) (ny : n ≤ ys.length) (ne : xs.length ≤ n ∨ ys.length ≤ n) (Pv : Nat → Hp → Prop) (h0 : Pv 0 (upd H1 D (.lst []))) (hl : ∀ i H, i ≤ n → Pv i H → SqT K H a xs ∧ SqT K H b ys)
    (hs : ∀ i x y H T, i < n → xs[i]? = some x → ys[i]? = some y → Pv i H → H T = none → g (.ref T) (wipe σ vs) (upd H T (.tup [x, y])) fun σ2 H2 => wipe σ2 vs = wipe σ vs ∧ tt σ2 H2 fun b H3 =>
      if b = true then te σ2 H3 fun y H4 => ∃ acc, H4 D = some (.lst acc) ∧ acc.length < sizeLine ∧ Pv (i + 1) (upd H4 D (.lst (acc ++ [y]))) else Pv (i + 1) H3) (hd : ∀ H, Pv n H → Qd H) :
    ∃ W : Nat → Nat → Hp → Prop, (∃ m, W 0 m (upd H1 D (.lst []))) ∧ ∀ i m H, W i m H →
      ((RZ.ItzT K a b).stop i H ∧ Qd H) ∨ ((RZ.ItzT K a b).go i H ∧ ∃ Nx : Hp → Prop, (∀ H', Nx H' → ∃ m', m' < m ∧ W (i + 1) m' H') ∧ ∀ x H', (RZ.ItzT K a b).yld i H x H' → g x (wipe σ vs) H' fun σ2 H2 => wipe σ2 vs = wipe σ vs ∧ tt σ2 H2 fun b H3 =>
        if b = true then te σ2 H3 fun y H4 => ∃ acc, H4 D = some (.lst acc) ∧ acc.length < sizeLine ∧ Nx (upd H4 D (.lst (acc ++ [y]))) else Nx H3) := by
  refine ⟨fun i m H => i + m = n ∧ Pv i H, ⟨n, by omega, h0⟩, fun i m H ⟨em, p⟩ => ?_⟩
  obtain ⟨q1, q2⟩ := hl i H (by omega) p
  by_cases lt : i < n
  · refine .inr ⟨⟨xs, ys, xs[i], ys[i], q1, q2, List.getElem?_eq_getElem (by omega), List.getElem?_eq_getElem (by omega)⟩, Pv (i + 1), fun H' p' => ⟨m - 1, by omega, by omega, p'⟩, fun x H' y => ?_⟩
    obtain ⟨T, x1, y1, rfl, nT, rfl, gx, gy⟩ := y
    exact hs i x1 y1 H T lt (gx xs q1) (gy ys q2) p nT
  · obtain rfl : i = n := by omega
    exact .inl ⟨⟨xs, ys, q1, q2, ne⟩, hd H p⟩
/-- a comprehension over zip of two lists, of any lengths -/
theorem lc_zipL2 {K : PySem.W.Frag} {a b : Addr} {xs ys : List V} {n : Nat} {g : TG} {tt : TT} {te : TE} {vs : List Nat} {σ : L2.St} {H1 : Hp} {D : Addr} {Qd : Hp → Prop} (nx : n ≤ xs.length) (ny : n ≤ ys.length) (ne : xs.length ≤ n ∨ ys.length ≤ n) (Pv : Nat → Hp → Prop) (h0 : Pv 0 (upd H1 D (.lst []))) (hl : ∀ i H, i ≤ n → Pv i H → SqL K H a xs ∧ SqL K H b ys)
    (hs : ∀ i x y H T, i < n → xs[i]? = some x → ys[i]? = some y → Pv i H → H T = none → g (.ref T) (wipe σ vs) (upd H T (.tup [x, y])) fun σ2 H2 => wipe σ2 vs = wipe σ vs ∧ tt σ2 H2 fun b H3 =>
      if b = true then te σ2 H3 fun y H4 => ∃ acc, H4 D = some (.lst acc) ∧ acc.length < sizeLine ∧ Pv (i + 1) (upd H4 D (.lst (acc ++ [y]))) else Pv (i + 1) H3) (hd : ∀ H, Pv n H → Qd H) :
    ∃ W : Nat → Nat → Hp → Prop, (∃ m, W 0 m (upd H1 D (.lst []))) ∧ ∀ i m H, W i m H →
      ((Itz K a b).stop i H ∧ Qd H) ∨ ((Itz K a b).go i H ∧ ∃ Nx : Hp → Prop, (∀ H', Nx H' → ∃ m', m' < m ∧ W (i + 1) m' H') ∧ ∀ x H', (Itz K a b).yld i H x H' → g x (wipe σ vs) H' fun σ2 H2 => wipe σ2 vs = wipe σ vs ∧ tt σ2 H2 fun b H3 =>
        if b = true then te σ2 H3 fun y H4 => ∃ acc, H4 D = some (.lst acc) ∧ acc.length < sizeLine ∧ Nx (upd H4 D (.lst (acc ++ [y]))) else Nx H3) := by
  refine ⟨fun i m H => i + m = n ∧ Pv i H, ⟨n, by omega, h0⟩, fun i m H ⟨em, p⟩ => ?_⟩
  obtain ⟨q1, q2⟩ := hl i H (by omega) p
  by_cases lt : i < n
  · refine .inr ⟨⟨xs, ys, xs[i], ys[i], q1, q2, List.getElem?_eq_getElem (by omega), List.getElem?_eq_getElem (by omega)⟩, Pv (i + 1), fun H' p' => ⟨m - 1, by omega, by omega, p'⟩, fun x H' y => ?_⟩
    obtain ⟨T, x1, y1, rfl, nT, rfl, gx, gy⟩ := y
    exact hs i x1 y1 H T lt (gx xs q1) (gy ys q2) p nT
  · obtain rfl : i = n := by omega
    exact .inl ⟨⟨xs, ys, q1, q2, ne⟩, hd H p⟩
/-! ### rising -/
def riseI (xs : List Int) : Bool := (xs.zip (xs.drop 1)).all fun p => decide (p.1 < p.2)
def riseT (xss : List (List Int)) : Bool := (xss.zip (xss.drop 1)).all fun p => HT.lexLt p.1 p.2
/-- tuples of ints, some of them frozen -/
abbrev RtS (K : PySem.W.Frag) (H : Hp) (rs : List Addr) (bss : List (List Int)) : Prop := Paired (fun r (bs : List Int) => SqT K H r (bs.map V.int)) rs bss
theorem RtS.same {K : PySem.W.Frag} {H H' : Hp} {rs : List Addr} {bss : List (List Int)} (s : Same H H') (x : RtS K H rs bss) : RtS K H' rs bss := by
  induction x with
  | nil => exact .nil
  | cons e _ ih => exact .cons (sqT_same s e) ih
theorem RtS.updL {K : PySem.W.Frag} {H : Hp} {rs : List Addr} {bss : List (List Int)} {D : Addr} {xs : List V} {u : HO} (e : H D = some (.lst xs)) (x : RtS K H rs bss) : RtS K (upd H D u) rs bss := by
  induction x with
  | nil => exact .nil
  | cons h _ ih =>
    refine .cons ?_ ih
    rcases h with (g | ⟨o, g⟩) | c
    · exact .inl (.inl (by rw [upd_ne (ne_of g e (by intro z; cases z))]; exact g))
    · exact .inl (.inr ⟨o, by rw [upd_ne (ne_of g e (by intro z; cases z))]; exact g⟩)
    · exact .inr c
section
variable {P : Program} {w : World} {K : PySem.W.Frag} {mg : Str → Option Value} {base : Heap}
def spIsR (K : PySem.W.Frag) : Sp := fun vs H Q _ => ∃ (a : Addr) (xs : List Int), vs = [.ref a] ∧ SqT K H a (xs.map V.int) ∧ xs.length ≤ 500 ∧ ∀ H', Same H H' → Q (.bl (riseI xs)) H'
theorem ok_IsR {f : Addr} {fd : FuncData} (F : Fun K "_is_rising" "_is_rising" sIsR f fd) (B : Bt mg) : FnOk P w K mg base CX0 1 f fd ["members"] (spIsR K) := by
  refine F.ok scIsR (fun vs H Q E h => ?_) (fun cdv A outer s H vs Q E hr h => ?_)
  · obtain ⟨a, xs, rfl, _⟩ := h
    rfl
  · obtain ⟨a, xs, rfl, ha, l500, q⟩ := h
    refine ⟨_, (pss_one (ps_ret (pe_callB (cr_all rfl) (by rfl) B.all (by decide +kernel) (pa_cons (pe_lc (own := [("one", 1), ("other", 2)]) (tt := tYes) rfl scIsR.nd (RZ.pi_zipA (by rfl) B.zip (pa_cons (pv 0) (pa_cons (pe_slice sl_tupA (pv 0) (po_some pe_int) po_none) pa_nil))) (blkOk_by (N := NIsR) (sc := defScope sIsR) (by decide +kernel)) (fun _ _ _ _ _ => (pg_tupk (n := 2) K rfl rfl (pgs_cons (pg_name (i := 1) scIsR.nd rfl (Or.inl rfl)) (pgs_cons (pg_name (i := 2) scIsR.nd rfl (Or.inl rfl)) pgs_nil)))) (fun _ _ _ _ _ => pts_nil) (fun _ _ _ _ _ => (pe_cmpR op_lt (pv 1) (pv 2) (nomark _)))) pa_nil)))), ?_⟩
    refine q_ret ?_
    have lz : (xs.zip (xs.drop 1)).length = xs.length - 1 := by rw [List.length_zip, List.length_drop]; omega
    refine ⟨.ref a, rfl, .ref a, rfl, ⟨1, rfl, noPart (sl_S (ys := (xs.map V.int).drop 1) ha (cut_lo1 _ 0) fun t H1 s1 ht => ⟨a, t, _, _, rfl, .inr ⟨sqT_same s1 ha, ht, fun D nD => ?_⟩⟩)⟩⟩
    refine lc_zipT2 (K := K) (a := a) (b := t) (xs := xs.map V.int) (ys := (xs.map V.int).drop 1) (n := xs.length - 1) (by rw [List.length_map]; omega) (by rw [List.length_drop, List.length_map]; omega) (.inr (by rw [List.length_drop, List.length_map]; omega)) (fun i H' => Same H1 H' ∧ H' D = some (.lst ((((xs.zip (xs.drop 1)).take i).map fun p => decide (p.1 < p.2)).map V.bl))) ⟨same_upd nD, upd_same⟩ (fun i H' _ hP => ⟨sqT_same (s1.trans hP.1) ha, sqT_same hP.1 ht⟩) (fun i x y H' T il hx hy hP nT => ?_) (fun H' hP => ?_)
    · obtain ⟨s', hD⟩ := hP
      rw [List.getElem?_map] at hx
      rw [← List.map_drop, List.getElem?_map] at hy
      obtain ⟨x, hx2, rfl⟩ := Option.map_eq_some_iff.mp hx
      obtain ⟨y, hy2, rfl⟩ := Option.map_eq_some_iff.mp hy
      have hz : (xs.zip (xs.drop 1))[i]? = some (x, y) := List.getElem?_zip_eq_some.mpr ⟨hx2, hy2⟩
      have st := same_upd (o := .tup [V.int x, .int y]) nT
      refine ⟨T, _, rfl, tl upd_same, rfl, _, _, rfl, _, _, rfl, rfl, ?_⟩
      refine ⟨rfl, .int x, rfl, .int y, rfl, x, y, rfl, rfl, _, st _ _ hD, ?_, fun c o e => ?_, ?_⟩
      · rw [List.length_map, List.length_map, List.length_take]
        exact small1000 (by omega)
      · rw [upd_ne (ne_of_none e nD)]
        exact st _ _ (s' _ _ e)
      · rw [upd_same, List.take_add_one, hz, List.map_append, List.map_append]
        rfl
    · obtain ⟨s', hD⟩ := hP
      rw [← lz, List.take_length] at hD
      refine ⟨D, _, rfl, sl hD, ?_⟩
      rw [show ((xs.zip (xs.drop 1)).map fun p => decide (p.1 < p.2)).all id = riseI xs by rw [List.all_map]; rfl]
      exact q _ (s1.trans s')
def spIsRt (K : PySem.W.Frag) : Sp := fun vs H Q _ => ∃ (a : Addr) (rs : List Addr) (xss : List (List Int)), vs = [.ref a] ∧ H a = some (.lst (rs.map V.ref)) ∧ RtS K H rs xss ∧ xss.length ≤ 500 ∧ ∀ H', Same H H' → Q (.bl (riseT xss)) H'
theorem ok_IsRt {f : Addr} {fd : FuncData} (F : Fun K "_is_rising" "_is_rising" sIsR f fd) (B : Bt mg) : FnOk P w K mg base CX0 1 f fd ["members"] (spIsRt K) := by
  refine F.ok scIsR (fun vs H Q E h => ?_) (fun cdv A outer s H vs Q E hr h => ?_)
  · obtain ⟨a, rs, xss, rfl, _⟩ := h
    rfl
  · obtain ⟨a, rs, xss, rfl, ha, rw1, l500, q⟩ := h
    refine ⟨_, (pss_one (ps_ret (pe_callB (cr_all rfl) (by rfl) B.all (by decide +kernel) (pa_cons (pe_lc (own := [("one", 1), ("other", 2)]) (tt := tYes) rfl scIsR.nd (RZ.pi_zipA (by rfl) B.zip (pa_cons (pv 0) (pa_cons (pe_slice sl_list (pv 0) (po_some pe_int) po_none) pa_nil))) (blkOk_by (N := NIsR) (sc := defScope sIsR) (by decide +kernel)) (fun _ _ _ _ _ => (pg_tupk (n := 2) K rfl rfl (pgs_cons (pg_name (i := 1) scIsR.nd rfl (Or.inl rfl)) (pgs_cons (pg_name (i := 2) scIsR.nd rfl (Or.inl rfl)) pgs_nil)))) (fun _ _ _ _ _ => pts_nil) (fun _ _ _ _ _ => (pe_cmpR (op_ltTk K rfl hr.units0) (pv 1) (pv 2) (nomark _)))) pa_nil)))), ?_⟩
    refine q_ret ?_
    have lx := paired_len rw1
    have lz : (xss.zip (xss.drop 1)).length = xss.length - 1 := by rw [List.length_zip, List.length_drop]; omega
    refine ⟨.ref a, rfl, .ref a, rfl, ⟨1, rfl, noPart ⟨a, _, rfl, sl ha, fun t nt => ⟨a, t, _, _, rfl, .inl ⟨sl (same_upd nt _ _ ha), sl upd_same, fun D nD => ?_⟩⟩⟩⟩⟩
    have s1 := same_upd (o := .lst (cutV (rs.map V.ref) (some 1) none)) nt
    have ht : (upd H t (.lst (cutV (rs.map V.ref) (some 1) none))) t = some (.lst ((rs.map V.ref).drop 1)) := by rw [upd_same, ← cut_lo1 _ 0]; rfl
    generalize upd H t (.lst (cutV (rs.map V.ref) (some 1) none)) = H1 at s1 ht nD ⊢
    refine lc_zipL2 (K := K) (a := a) (b := t) (xs := rs.map V.ref) (ys := (rs.map V.ref).drop 1) (n := xss.length - 1) (by rw [List.length_map]; omega) (by rw [List.length_drop, List.length_map]; omega) (.inr (by rw [List.length_drop, List.length_map]; omega)) (fun i H' => Same H1 H' ∧ H' D = some (.lst ((((xss.zip (xss.drop 1)).take i).map fun p => HT.lexLt p.1 p.2).map V.bl))) ⟨same_upd nD, upd_same⟩ (fun i H' _ hP => ⟨sl ((s1.trans hP.1) _ _ ha), sl (hP.1 _ _ ht)⟩) (fun i x y H' T il hx hy hP nT => ?_) (fun H' hP => ?_)
    · obtain ⟨s', hD⟩ := hP
      rw [List.getElem?_map] at hx
      rw [← List.map_drop, List.getElem?_map, List.getElem?_drop] at hy
      obtain ⟨x, hx2, rfl⟩ := Option.map_eq_some_iff.mp hx
      obtain ⟨y, hy2, rfl⟩ := Option.map_eq_some_iff.mp hy
      obtain ⟨xi, hxi, ex⟩ : ∃ b, xss[i]? = some b ∧ SqT K H x (b.map V.int) := by
        obtain ⟨z, e1, e2⟩ := paired_get rw1 (List.getElem?_eq_getElem (show i < xss.length by omega))
        rw [hx2] at e1
        cases e1
        exact ⟨_, List.getElem?_eq_getElem (by omega), e2⟩
      obtain ⟨yi, hyi, ey⟩ : ∃ b, xss[1 + i]? = some b ∧ SqT K H y (b.map V.int) := by
        obtain ⟨z, e1, e2⟩ := paired_get rw1 (List.getElem?_eq_getElem (show 1 + i < xss.length by omega))
        rw [hy2] at e1
        cases e1
        exact ⟨_, List.getElem?_eq_getElem (by omega), e2⟩
      have hz : (xss.zip (xss.drop 1))[i]? = some (xi, yi) := List.getElem?_zip_eq_some.mpr ⟨hxi, by rw [List.getElem?_drop]; exact hyi⟩
      have st := same_upd (o := .tup [V.ref x, .ref y]) nT
      refine ⟨T, _, rfl, tl upd_same, rfl, _, _, rfl, _, _, rfl, rfl, ?_⟩
      refine ⟨rfl, .ref x, rfl, .ref y, rfl, x, y, xi, yi, rfl, rfl, sqT_same ((s1.trans s').trans st) ex, sqT_same ((s1.trans s').trans st) ey, _, st _ _ hD, ?_, fun c o e => ?_, ?_⟩
      · rw [List.length_map, List.length_map, List.length_take]
        exact small1000 (by omega)
      · rw [upd_ne (ne_of_none e nD)]
        exact st _ _ (s' _ _ e)
      · rw [upd_same, List.take_add_one, hz, List.map_append, List.map_append]
        rfl
    · obtain ⟨s', hD⟩ := hP
      rw [← lz, List.take_length] at hD
      refine ⟨D, _, rfl, sl hD, ?_⟩
      rw [show ((xss.zip (xss.drop 1)).map fun p => HT.lexLt p.1 p.2).all id = riseT xss by rw [List.all_map]; rfl]
      exact q _ (s1.trans s')
end
end CC

namespace CC
open PySem PySem.Spec PyProof.Rows L2 Ek
/-! ### any value as data -/
mutual
inductive Dv (N : Addr → Prop) (H : Hp) : V → PyData → Prop
  | non : Dv N H .non .none
  | bl (b : Bool) : Dv N H (.bl b) (.bool b)
  | int (i : Int) : Dv N H (.int i) (.int i)
  | str (s : Str) : Dv N H (.str s) (.str s)
  | tup {a : Addr} {xs : List V} {ds : List PyData} (h : Rd H a (.tup xs)) (p : DvAll N H xs ds) : Dv N H (.ref a) (.tuple ds)
  | lst {a : Addr} {xs : List V} {ds : List PyData} (h : H a = some (.lst xs)) (n : N a) (p : DvAll N H xs ds) : Dv N H (.ref a) (.list ds)
inductive DvAll (N : Addr → Prop) (H : Hp) : List V → List PyData → Prop
  | nil : DvAll N H [] []
  | cons {v : V} {d : PyData} {vs : List V} {ds : List PyData} (h : Dv N H v d) (t : DvAll N H vs ds) : DvAll N H (v :: vs) (d :: ds)
end
mutual
theorem Dv.imp {N N' : Addr → Prop} {H H' : Hp} (hT : ∀ a xs, Rd H a (.tup xs) → Rd H' a (.tup xs)) (hL : ∀ a xs, N a → H a = some (.lst xs) → N' a ∧ H' a = some (.lst xs)) : ∀ {v : V} {d : PyData}, Dv N H v d → Dv N' H' v d
  | _, _, .non => .non
  | _, _, .bl b => .bl b
  | _, _, .int i => .int i
  | _, _, .str s => .str s
  | _, _, .tup h p => .tup (hT _ _ h) (DvAll.imp hT hL p)
  | _, _, .lst h n p => .lst (hL _ _ n h).2 (hL _ _ n h).1 (DvAll.imp hT hL p)
theorem DvAll.imp {N N' : Addr → Prop} {H H' : Hp} (hT : ∀ a xs, Rd H a (.tup xs) → Rd H' a (.tup xs)) (hL : ∀ a xs, N a → H a = some (.lst xs) → N' a ∧ H' a = some (.lst xs)) : ∀ {vs : List V} {ds : List PyData}, DvAll N H vs ds → DvAll N' H' vs ds
  | _, _, .nil => .nil
  | _, _, .cons h t => .cons (Dv.imp hT hL h) (DvAll.imp hT hL t)
end
variable {N : Addr → Prop}
theorem rd_same {H H' : Hp} (s : Same H H') {a : Addr} {u : HO} (x : Rd H a u) : Rd H' a u := by
  rcases x with e | ⟨o, e⟩
  · exact .inl (s _ _ e)
  · exact .inr ⟨o, s _ _ e⟩
theorem Dv.same {H H' : Hp} (s : Same H H') {v : V} {d : PyData} (x : Dv N H v d) : Dv N H' v d := x.imp (fun _ _ => rd_same s) (fun _ _ n e => ⟨n, s _ _ e⟩)
theorem DvAll.same {H H' : Hp} (s : Same H H') {v : List V} {d : List PyData} (x : DvAll N H v d) : DvAll N H' v d := x.imp (fun _ _ => rd_same s) (fun _ _ n e => ⟨n, s _ _ e⟩)
theorem Dv.kp {h dr : Addr} {H H' : Hp} (hd : Hdd H h dr) (kp : Kp h H H') (nh : ¬ N h) {v : V} {d : PyData} (x : Dv N H v d) : Dv N H' v d := x.imp (fun a xs r => by
  rcases r with e | ⟨o, e⟩
  · exact .inl (kp _ _ (hd.ns e (fun _ _ z => by cases z)) e)
  · exact .inr ⟨o, kp _ _ (hd.ns e (fun _ _ z => by cases z)) e⟩) (fun a xs n e => ⟨n, kp _ _ (fun z => nh (z ▸ n)) e⟩)
theorem Dv.updL {H : Hp} {D : Addr} {ys : List V} {u : HO} (e : H D = some (.lst ys)) (nD : ¬ N D) {v : V} {d : PyData} (x : Dv N H v d) : Dv N (upd H D u) v d := x.imp (fun a xs r => by
  rcases r with g | ⟨o, g⟩
  · exact .inl (by rw [upd_ne (ne_of g e (by intro z; cases z))]; exact g)
  · exact .inr ⟨o, by rw [upd_ne (ne_of g e (by intro z; cases z))]; exact g⟩) (fun a xs n g => ⟨n, by rw [upd_ne (fun z : a = D => nD (z ▸ n))]; exact g⟩)
theorem Dv.weak {N' : Addr → Prop} (hN : ∀ a, N a → N' a) {H : Hp} {v : V} {d : PyData} (x : Dv N H v d) : Dv N' H v d := x.imp (fun _ _ r => r) (fun a xs n e => ⟨hN a n, e⟩)
theorem dv_len {H : Hp} : ∀ {vs : List V} {ds : List PyData}, DvAll N H vs ds → vs.length = ds.length
  | _, _, .nil => rfl
  | _, _, .cons _ t => by rw [List.length_cons, List.length_cons, dv_len t]
theorem dv_at {H : Hp} : ∀ {vs : List V} {ds : List PyData} {i : Nat} {x : V}, DvAll N H vs ds → vs[i]? = some x → ∃ d, ds[i]? = some d ∧ Dv N H x d
  | _, _, _, _, .nil, h => by cases h
  | _, _, 0, _, .cons h _, e => by cases e; exact ⟨_, rfl, h⟩
  | _, _, i + 1, _, .cons _ t, e => by
    have e' := e
    rw [List.getElem?_cons_succ] at e'
    obtain ⟨d, h1, h2⟩ := dv_at t e'
    exact ⟨d, by rw [List.getElem?_cons_succ]; exact h1, h2⟩
def isTupD : PyData → Bool
  | .tuple _ => true
  | _ => false
def isIntB : PyData → Bool
  | .int _ => true
  | .bool _ => true
  | _ => false
def isBoolD : PyData → Bool
  | .bool _ => true
  | _ => false
def isIntD : PyData → Bool
  | .int _ => true
  | _ => false
section
variable {K : PySem.W.Frag}
theorem ty_of {H : Hp} {v : V} {d : PyData} (x : Dv N H v d) : ∃ t, TyX K H v t ∧ PySem.W.kitOne K t (.type "tuple") = some (isTupD d) ∧ PySem.W.kitOne K t (.type "int") = some (isIntB d) ∧ PySem.W.kitOne K t (.type "bool") = some (isBoolD d) := by
  cases x with
  | non => exact ⟨_, .base .non, kit_ty (r := false) (by decide +kernel), kit_ty (r := false) (by decide +kernel), kit_ty (r := false) (by decide +kernel)⟩
  | bl b => exact ⟨_, .base (.bl _), kit_ty (r := false) (by decide +kernel), kit_ty (r := true) (by decide +kernel), kit_ty (r := true) (by decide +kernel)⟩
  | int i => exact ⟨_, .base (.int _), kit_ty (r := false) (by decide +kernel), kit_ty (r := true) (by decide +kernel), kit_ty (r := false) (by decide +kernel)⟩
  | str s => exact ⟨_, .base (.str _), kit_ty (r := false) (by decide +kernel), kit_ty (r := false) (by decide +kernel), kit_ty (r := false) (by decide +kernel)⟩
  | tup h p =>
    rcases h with h | ⟨o, h⟩
    · exact ⟨_, .base (.tup h), kit_ty (r := true) (by decide +kernel), kit_ty (r := false) (by decide +kernel), kit_ty (r := false) (by decide +kernel)⟩
    · exact ⟨_, .fTuple h, kit_ty (r := true) (by decide +kernel), kit_ty (r := false) (by decide +kernel), kit_ty (r := false) (by decide +kernel)⟩
  | lst h n p => exact ⟨_, .base (.lst h), kit_ty (r := false) (by decide +kernel), kit_ty (r := false) (by decide +kernel), kit_ty (r := false) (by decide +kernel)⟩
theorem tup_dv {H : Hp} {v : V} {d : PyData} (x : Dv N H v d) (e : isTupD d = true) : ∃ (a : Addr) (xs : List V) (ds : List PyData), v = .ref a ∧ SqT K H a xs ∧ d = .tuple ds ∧ DvAll N H xs ds := by
  cases x with
  | tup h p => exact ⟨_, _, _, rfl, .inl h, rfl, p⟩
  | _ => cases e
theorem int_dv {H : Hp} {v : V} {d : PyData} (x : Dv N H v d) (e : isIntD d = true) : ∃ i, v = .int i ∧ d = .int i := by
  cases x with
  | int i => exact ⟨i, rfl, rfl⟩
  | _ => cases e
end
theorem int_split (d : PyData) : isIntD d = (isIntB d && !isBoolD d) := by cases d <;> rfl
def belD (n : Int) : PyData → Bool
  | .int i => decide (0 ≤ i) && decide (i < n)
  | _ => false
theorem bel_not {n : Int} {d : PyData} (h : isIntD d = false) : belD n d = false := by cases d <;> first | rfl | cases h
section
variable {P : Program} {w : World} {K : PySem.W.Frag} {mg : Str → Option Value} {base : Heap}
def spIsI : Sp := fun vs H Q _ => ∃ (N : Addr → Prop) (v : V) (d : PyData), vs = [v] ∧ Dv N H v d ∧ Q (.bl (isIntD d)) H
theorem ok_IsI {f : Addr} {fd : FuncData} (F : Fun K "is_integer" "is_integer" sIsI f fd) (B : Bt mg) : FnOk P w K mg base CX0 1 f fd ["value"] spIsI := by
  refine F.ok scIsI (fun vs H Q E h => ?_) (fun cdv A outer s H vs Q E hr h => ?_)
  · obtain ⟨N, v, d, rfl, _⟩ := h
    rfl
  · obtain ⟨N, v, d, rfl, dv, q⟩ := h
    refine ⟨_, (pss_one (ps_ret (pe_and (pe_callB call_isi (by rfl) B.isinstance (by decide +kernel) (pa_cons (pv 0) (pa_cons (pe_bltn (v := .ty "int") (by rfl) B.int (by decide +kernel) rfl) pa_nil))) (pe_one (pe_not (pe_callB call_isi (by rfl) B.isinstance (by decide +kernel) (pa_cons (pv 0) (pa_cons (pe_bltn (v := .ty "bool") (by rfl) B.bool (by decide +kernel) rfl) pa_nil)))))))), ?_⟩
    refine q_ret ?_
    obtain ⟨ty, hty, k1, k2, k3⟩ := ty_of (K := K) dv
    rw [int_split] at q
    refine ⟨v, rfl, v, _, ty, _, isIntB d, rfl, .ty _, hty, k2, _, rfl, ?_⟩
    cases e : isIntB d with
    | false => rw [e] at q; exact q
    | true =>
      rw [e] at q
      exact ⟨v, rfl, v, _, ty, _, isBoolD d, rfl, .ty _, hty, k3, _, rfl, q⟩
def spINB : Sp := fun vs H Q _ => ∃ (N : Addr → Prop) (v : V) (d : PyData) (n : Int), vs = [v, .int n] ∧ Dv N H v d ∧ Q (.bl (belD n d)) H
theorem ok_INB {f : Addr} {fd : FuncData} (F : Fun K "is_number_below" "is_number_below" sINB f fd) (B : Bt mg) {fIsI : Addr} {fdIsI : FuncData} (GIsI : FnOk P w K mg base CX0 1 fIsI fdIsI ["value"] spIsI) (kIsI : PySem.W.keepIn K (.ref fIsI) = true) (bIsI : Binds K fdIsI ["value"] []) (gIsI : mg "is_integer" = some (.ref fIsI)) : FnOk P w K mg base CX0 2 f fd ["value", "limit"] spINB := by
  refine F.ok scINB (fun vs H Q E h => ?_) (fun cdv A outer s H vs Q E hr h => ?_)
  · obtain ⟨N, v, d, n, rfl, _⟩ := h
    rfl
  · obtain ⟨N, v, d, n, rfl, dv, q⟩ := h
    refine ⟨_, (pss_one (ps_ret (pe_and (pe_call GIsI (hr.mono (by decide)) (by rfl) gIsI kIsI bIsI .nil pass0 (pa_cons (pv 0) pa_nil)) (pe_one (pe_chain op_le op_lt pe_int (pv 0) (pv 1)))))), ?_⟩
    refine q_ret ?_
    refine ⟨v, rfl, N, v, d, rfl, dv, _, rfl, ?_⟩
    cases e : isIntD d with
    | false => rw [bel_not e] at q; exact q
    | true =>
      obtain ⟨i, rfl, rfl⟩ := int_dv dv e
      refine ⟨.int i, rfl, 0, i, rfl, rfl, _, rfl, ?_⟩
      have q' : Q (.bl (decide (0 ≤ i) && decide (i < n))) H := q
      cases c : decide (0 ≤ i) with
      | false => rw [c] at q'; exact q'
      | true => rw [c] at q'; exact ⟨.int n, rfl, i, n, rfl, rfl, q'⟩
end
end CC

namespace CC
open PySem PySem.Spec PyProof.Rows L2 Ek
variable {N : Addr → Prop}
def intOf : PyData → Int
  | .int i => i
  | _ => 0
def lettersD (n : Int) : PyData → Bool
  | .tuple ds => decide (ds.length ≤ 3) && (ds.all (belD n) && riseI (ds.map intOf))
  | _ => false
def memberD (n : Int) : PyData → Bool
  | .tuple ds => decide (ds.length = 2) && (lettersD n (ds.getD 0 .none) && (isIntD (ds.getD 1 .none) && decide (intOf (ds.getD 1 .none) ≠ 0)))
  | _ => false
def keyOf : PyData → List Int
  | .tuple (.tuple ds :: _) => ds.map intOf
  | _ => []
def isSumD (n : Int) : PyData → Bool
  | .tuple ds => ds.all (memberD n) && riseT (ds.map keyOf)
  | _ => false
theorem letters_no {n : Int} {d : PyData} (h : isTupD d = false) : lettersD n d = false := by cases d <;> first | rfl | cases h
theorem member_no {n : Int} {d : PyData} (h : isTupD d = false) : memberD n d = false := by cases d <;> first | rfl | cases h
theorem sum_no {n : Int} {d : PyData} (h : isTupD d = false) : isSumD n d = false := by cases d <;> first | rfl | cases h
theorem ints_dv {n : Int} {H : Hp} : ∀ {vs : List V} {ds : List PyData}, DvAll N H vs ds → ds.all (belD n) = true → vs = (ds.map intOf).map V.int
  | _, _, .nil, _ => rfl
  | _, _, .cons h t, e => by
    rw [List.all_cons, Bool.and_eq_true] at e
    rw [List.map_cons, List.map_cons, ← ints_dv t e.2]
    cases h with
    | int i => rfl
    | _ => cases e.1
theorem mem_dv {K : PySem.W.Frag} {n : Int} {H : Hp} {x : V} {e : PyData} (dx : Dv N H x e) (m : memberD n e = true) : ∃ (b r : Addr) (y1 : V) (d0 d1 : PyData), x = .ref b ∧ SqT K H b [.ref r, y1] ∧ SqT K H r ((keyOf e).map V.int) ∧ e = .tuple [d0, d1] ∧ Dv N H (.ref r) d0 ∧ Dv N H y1 d1 ∧ lettersD n d0 = true ∧ isIntD d1 = true ∧ intOf d1 ≠ 0 := by
  have tt : isTupD e = true := by
    cases z : isTupD e with
    | true => rfl
    | false => rw [member_no z] at m; cases m
  obtain ⟨b, xs, ds, rfl, ht, rfl, p⟩ := tup_dv (K := K) dx tt
  have m' : (decide (ds.length = 2) && (lettersD n (ds.getD 0 .none) && (isIntD (ds.getD 1 .none) && decide (intOf (ds.getD 1 .none) ≠ 0)))) = true := m
  rw [Bool.and_eq_true, Bool.and_eq_true, Bool.and_eq_true, decide_eq_true_iff, decide_eq_true_iff] at m'
  obtain ⟨c, m1, m2, m3⟩ := m'
  cases p with
  | nil => cases c
  | @cons x0 d0 xs ds v0 p =>
  cases p with
  | nil => cases c
  | @cons x1 d1 xs ds v1 p =>
  cases p with
  | cons _ _ => simp at c
  | nil =>
  have m1' : lettersD n d0 = true := m1
  have t0 : isTupD d0 = true := by
    cases z : isTupD d0 with
    | true => rfl
    | false => rw [letters_no z] at m1'; cases m1'
  obtain ⟨r, ys, es, rfl, hr, rfl, p0⟩ := tup_dv (K := K) v0 t0
  have l0 : (decide (es.length ≤ 3) && (es.all (belD n) && riseI (es.map intOf))) = true := m1'
  rw [Bool.and_eq_true, Bool.and_eq_true] at l0
  refine ⟨b, r, x1, _, d1, rfl, ht, ?_, rfl, v0, v1, m1', m2, m3⟩
  show SqT K H r ((es.map intOf).map V.int)
  rw [← ints_dv p0 l0.2.1]
  exact hr
section
variable {P : Program} {w : World} {K : PySem.W.Frag} {mg : Str → Option Value} {base : Heap}
def spArL : Sp := fun vs H Q _ => ∃ (N : Addr → Prop) (v : V) (d : PyData) (n : Int), vs = [v, .int n] ∧ Dv N H v d ∧ ∀ H', Same H H' → Q (.bl (lettersD n d)) H'
theorem ok_ArL {f : Addr} {fd : FuncData} (F : Fun K "_are_letters" "_are_letters" sArL f fd) (B : Bt mg) {fINB : Addr} {fdINB : FuncData} (GINB : FnOk P w K mg base CX0 2 fINB fdINB ["value", "limit"] spINB) (kINB : PySem.W.keepIn K (.ref fINB) = true) (bINB : Binds K fdINB ["value", "limit"] []) (gINB : mg "is_number_below" = some (.ref fINB)) {fIsR : Addr} {fdIsR : FuncData} (GIsR : FnOk P w K mg base CX0 1 fIsR fdIsR ["members"] (spIsR K)) (kIsR : PySem.W.keepIn K (.ref fIsR) = true) (bIsR : Binds K fdIsR ["members"] []) (gIsR : mg "_is_rising" = some (.ref fIsR)) {tk : Tok} (gML : mg "MOST_LETTERS" = some (.int 3 tk)) : FnOk P w K mg base CX0 3 f fd ["value", "letter_count"] spArL := by
  refine F.ok scArL (fun vs H Q E h => ?_) (fun cdv A outer s H vs Q E hr h => ?_)
  · obtain ⟨N, v, d, n, rfl, _⟩ := h
    rfl
  · obtain ⟨N, v, d, n, rfl, dv, q⟩ := h
    refine ⟨_, (pss_cons (ps_if (PW.pt (pw_or (pt_not (pt_val (pe_callB call_isi (by rfl) B.isinstance (by decide +kernel) (pa_cons (pv 0) (pa_cons (pe_bltn (v := .ty "tuple") (by rfl) B.tuple (by decide +kernel) rfl) pa_nil))))) (pw_or1 (pt_cmpR op_gt (pe_callB call_len_seq (by rfl) B.len PySem.boot_len (pa_cons (pv 0) pa_nil)) (pe_glob (v := .int 3) (by rfl) gML ⟨_, rfl⟩) (nomark _)))))
      (pss_one (ps_ret pe_bl)) pss_nil)
      (pss_one (ps_ret (pe_and (pe_callB (cr_all rfl) (by rfl) B.all (by decide +kernel) (pa_cons (pe_lc (own := [("letter", 2)]) (g := gName 2) (tt := tYes) rfl scArL.nd (pi_tup (pv 0)) (blkOk_by (N := NArL) (sc := defScope sArL) (by decide +kernel)) (fun _ _ _ _ _ => pg_name (i := 2) scArL.nd rfl (Or.inl rfl)) (fun _ _ _ _ _ => pts_nil) (fun _ _ _ _ _ => (pe_call GINB (hr.mono (by decide)) (by rfl) gINB kINB bINB .nil pass0 (pa_cons (pv 2) (pa_cons (pv 1) pa_nil))))) pa_nil)) (pe_one (pe_call GIsR (hr.mono (by decide)) (by rfl) gIsR kIsR bIsR .nil pass0 (pa_cons (pv 0) pa_nil))))))), ?_⟩
    obtain ⟨ty, hty, k1, k2, k3⟩ := ty_of (K := K) dv
    refine q_seq (q_if ?_)
    refine ⟨v, rfl, v, _, ty, _, isTupD d, rfl, .ty _, hty, k1, ?_⟩
    cases tt : isTupD d with
    | false =>
      refine ⟨false, rfl, ?_⟩
      have z := q H (Same.refl H)
      rw [letters_no tt] at z
      exact z
    | true =>
      refine ⟨true, rfl, ?_⟩
      obtain ⟨a, xs, ds, rfl, ht, rfl, p⟩ := tup_dv dv tt
      have lx := dv_len p
      refine ⟨.ref a, rfl, a, xs, rfl, .inr ht, _, _, rfl, rfl, _, rfl, ?_⟩
      by_cases c : ds.length ≤ 3
      · rw [decide_eq_false (show ¬ (3 : Int) < ((xs.length : Nat) : Int) by omega)]
        refine q_next ?_
        have ed : lettersD n (.tuple ds) = (ds.all (belD n) && riseI (ds.map intOf)) := by
          show (decide (ds.length ≤ 3) && _) = _
          rw [decide_eq_true c, Bool.true_and]
        rw [ed] at q
        dsimp only
        refine q_ret ?_
        refine ⟨.ref a, rfl, a, rfl, ⟨_, ht⟩, fun D nD => lc_tup (K := K) (a := a) (xs := xs) (fun i H' => Same H H' ∧ H' D = some (.lst (((ds.take i).map (belD n)).map V.bl))) ⟨same_upd nD, upd_same⟩ (fun i H' _ hP => sqT_same hP.1 ht) (fun i x H' hx hP => ?_) (fun H' hP => ?_)⟩
        · obtain ⟨s', hD⟩ := hP
          have il : i < xs.length := (List.getElem?_eq_some_iff.mp hx).1
          obtain ⟨e, he, dx⟩ := dv_at (p.same s') hx
          refine ⟨rfl, x, rfl, .int n, rfl, N, x, e, n, rfl, dx, _, hD, ?_, fun c o e => ?_, ?_⟩
          · rw [List.length_map, List.length_map, List.length_take]
            exact small1000 (by omega)
          · rw [upd_ne (ne_of_none e nD)]
            exact s' _ _ e
          · rw [upd_same, List.take_add_one, he, List.map_append, List.map_append]
            rfl
        · obtain ⟨s', hD⟩ := hP
          rw [lx, List.take_length] at hD
          refine ⟨D, _, rfl, sl hD, _, rfl, ?_⟩
          rw [show (ds.map (belD n)).all id = ds.all (belD n) by rw [List.all_map]; rfl]
          cases al : ds.all (belD n) with
          | false => rw [al] at q; exact q H' s'
          | true =>
            rw [al, Bool.true_and] at q
            refine ⟨.ref a, rfl, a, ds.map intOf, rfl, ?_, by rw [List.length_map]; omega, fun H2 s2 => q H2 (s'.trans s2)⟩
            rw [← ints_dv p al]
            exact sqT_same s' ht
      · rw [decide_eq_true (show (3 : Int) < ((xs.length : Nat) : Int) by omega)]
        have z := q H (Same.refl H)
        rw [show lettersD n (.tuple ds) = false by show (decide (ds.length ≤ 3) && _) = _; rw [decide_eq_false c, Bool.false_and]] at z
        exact z
def spIsM : Sp := fun vs H Q _ => ∃ (N : Addr → Prop) (v : V) (d : PyData) (n : Int), vs = [v, .int n] ∧ Dv N H v d ∧ ∀ H', Same H H' → Q (.bl (memberD n d)) H'
theorem ok_IsM {f : Addr} {fd : FuncData} (F : Fun K "_is_member" "_is_member" sIsM f fd) (B : Bt mg) {fArL : Addr} {fdArL : FuncData} (GArL : FnOk P w K mg base CX0 3 fArL fdArL ["value", "letter_count"] spArL) (kArL : PySem.W.keepIn K (.ref fArL) = true) (bArL : Binds K fdArL ["value", "letter_count"] []) (gArL : mg "_are_letters" = some (.ref fArL)) {fIsI : Addr} {fdIsI : FuncData} (GIsI : FnOk P w K mg base CX0 1 fIsI fdIsI ["value"] spIsI) (kIsI : PySem.W.keepIn K (.ref fIsI) = true) (bIsI : Binds K fdIsI ["value"] []) (gIsI : mg "is_integer" = some (.ref fIsI)) : FnOk P w K mg base CX0 4 f fd ["value", "letter_count"] spIsM := by
  refine F.ok scIsM (fun vs H Q E h => ?_) (fun cdv A outer s H vs Q E hr h => ?_)
  · obtain ⟨N, v, d, n, rfl, _⟩ := h
    rfl
  · obtain ⟨N, v, d, n, rfl, dv, q⟩ := h
    refine ⟨_, (pss_cons (ps_if (PW.pt (pw_or (pt_not (pt_val (pe_callB call_isi (by rfl) B.isinstance (by decide +kernel) (pa_cons (pv 0) (pa_cons (pe_bltn (v := .ty "tuple") (by rfl) B.tuple (by decide +kernel) rfl) pa_nil))))) (pw_or1 (pt_cmpR op_ne (pe_callB call_len_seq (by rfl) B.len PySem.boot_len (pa_cons (pv 0) pa_nil)) pe_int (nomark _)))))
      (pss_one (ps_ret pe_bl)) pss_nil)
      (pss_one (ps_ret (pe_and (pe_call GArL (hr.mono (by decide)) (by rfl) gArL kArL bArL .nil pass0 (pa_cons (pe_ix ix_tup (pv 0) pe_int (fun _ _ => rfl)) (pa_cons (pv 1) pa_nil))) (pe_and (pe_call GIsI (hr.mono (by decide)) (by rfl) gIsI kIsI bIsI .nil pass0 (pa_cons (pe_ix ix_tup (pv 0) pe_int (fun _ _ => rfl)) pa_nil)) (pe_one (pe_cmpR op_ne (pe_ix ix_tup (pv 0) pe_int (fun _ _ => rfl)) pe_int (nomark _)))))))), ?_⟩
    obtain ⟨ty, hty, k1, k2, k3⟩ := ty_of (K := K) dv
    refine q_seq (q_if ?_)
    refine ⟨v, rfl, v, _, ty, _, isTupD d, rfl, .ty _, hty, k1, ?_⟩
    cases tt : isTupD d with
    | false =>
      refine ⟨false, rfl, ?_⟩
      have z := q H (Same.refl H)
      rw [member_no tt] at z
      exact z
    | true =>
      refine ⟨true, rfl, ?_⟩
      obtain ⟨a, xs, ds, rfl, ht, rfl, p⟩ := tup_dv dv tt
      have lx := dv_len p
      refine ⟨.ref a, rfl, a, xs, rfl, .inr ht, rfl, _, rfl, ?_⟩
      rw [dInt]
      by_cases c : ds.length = 2
      · rw [decide_eq_true (show ((xs.length : Nat) : Int) = 2 by omega)]
        refine q_next ?_
        have ed : memberD n (.tuple ds) = (lettersD n (ds.getD 0 .none) && (isIntD (ds.getD 1 .none) && decide (intOf (ds.getD 1 .none) ≠ 0))) := by
          show (decide (ds.length = 2) && _) = _
          rw [decide_eq_true c, Bool.true_and]
        rw [ed] at q
        cases p with
        | nil => cases c
        | @cons x0 d0 xs ds v0 p =>
        cases p with
        | nil => cases c
        | @cons x1 d1 xs ds v1 p =>
        cases p with
        | cons _ _ => simp at c
        | nil =>
        have q' : ∀ H', Same H H' → Q (.bl (lettersD n d0 && (isIntD d1 && decide (intOf d1 ≠ 0)))) H' := q
        clear q
        dsimp only
        refine q_ret ?_
        refine ⟨.ref a, rfl, a, _, 0, x0, rfl, rfl, ht, at_z (j := 0) rfl rfl, .int n, rfl, N, x0, d0, n, rfl, v0, fun H1 s1 => ⟨_, rfl, ?_⟩⟩
        cases e0 : lettersD n d0 with
        | false => rw [e0] at q'; exact q' H1 s1
        | true =>
          rw [e0, Bool.true_and] at q'
          refine ⟨.ref a, rfl, a, _, 1, x1, rfl, rfl, sqT_same s1 ht, at_z (j := 1) rfl rfl, N, x1, d1, rfl, v1.same s1, _, rfl, ?_⟩
          cases e1 : isIntD d1 with
          | false => rw [e1] at q'; exact q' H1 s1
          | true =>
            rw [e1, Bool.true_and] at q'
            obtain ⟨i, rfl, rfl⟩ := int_dv v1 e1
            refine ⟨.ref a, rfl, a, _, 1, .int i, rfl, rfl, sqT_same s1 ht, at_z (j := 1) rfl rfl, rfl, ?_⟩
            have z := q' H1 s1
            have ez : (!decide (V.int i = V.int 0)) = decide (intOf (.int i) ≠ 0) := by
              rw [dInt]
              show (!decide (i = 0)) = decide (i ≠ 0)
              by_cases g : i = 0 <;> simp [g]
            rw [ez]
            exact z
      · rw [decide_eq_false (show ¬ ((xs.length : Nat) : Int) = 2 by omega)]
        have z := q H (Same.refl H)
        rw [show memberD n (.tuple ds) = false by show (decide (ds.length = 2) && _) = _; rw [decide_eq_false c, Bool.false_and]] at z
        exact z
def spIsS : Sp := fun vs H Q _ => ∃ (N : Addr → Prop) (v : V) (d : PyData) (n : Int), vs = [v, .int n] ∧ Dv N H v d ∧ (∀ ds, d = .tuple ds → ds.length ≤ 200) ∧ ∀ H', Same H H' → Q (.bl (isSumD n d)) H'
theorem ok_IsS {f : Addr} {fd : FuncData} (F : Fun K "is_sum" "is_sum" sIsS f fd) (B : Bt mg) {fIsM : Addr} {fdIsM : FuncData} (GIsM : FnOk P w K mg base CX0 4 fIsM fdIsM ["value", "letter_count"] spIsM) (kIsM : PySem.W.keepIn K (.ref fIsM) = true) (bIsM : Binds K fdIsM ["value", "letter_count"] []) (gIsM : mg "_is_member" = some (.ref fIsM)) {fIsR : Addr} {fdIsR : FuncData} (GIsR : FnOk P w K mg base CX0 1 fIsR fdIsR ["members"] (spIsRt K)) (kIsR : PySem.W.keepIn K (.ref fIsR) = true) (bIsR : Binds K fdIsR ["members"] []) (gIsR : mg "_is_rising" = some (.ref fIsR)) : FnOk P w K mg base CX0 5 f fd ["value", "letter_count"] spIsS := by
  refine F.ok scIsS (fun vs H Q E h => ?_) (fun cdv A outer s H vs Q E hr h => ?_)
  · obtain ⟨N, v, d, n, rfl, _⟩ := h
    rfl
  · obtain ⟨N, v, d, n, rfl, dv, l200, q⟩ := h
    refine ⟨_, (pss_cons (ps_if (PW.pt (pw_or (pt_not (pt_val (pe_callB call_isi (by rfl) B.isinstance (by decide +kernel) (pa_cons (pv 0) (pa_cons (pe_bltn (v := .ty "tuple") (by rfl) B.tuple (by decide +kernel) rfl) pa_nil))))) (pw_or1 (pt_not (pt_val (pe_callB (cr_all rfl) (by rfl) B.all (by decide +kernel) (pa_cons (pe_lc (own := [("member", 2)]) (g := gName 2) (tt := tYes) rfl scIsS.nd (pi_tup (pv 0)) (blkOk_by (N := NIsS) (sc := defScope sIsS) (by decide +kernel)) (fun _ _ _ _ _ => pg_name (i := 2) scIsS.nd rfl (Or.inl rfl)) (fun _ _ _ _ _ => pts_nil) (fun _ _ _ _ _ => (pe_call GIsM (hr.mono (by decide)) (by rfl) gIsM kIsM bIsM .nil pass0 (pa_cons (pv 2) (pa_cons (pv 1) pa_nil))))) pa_nil)))))))
      (pss_one (ps_ret pe_bl)) pss_nil)
      (pss_one (ps_ret (pe_call GIsR (hr.mono (by decide)) (by rfl) gIsR kIsR bIsR .nil pass0 (pa_cons (pe_lc (own := [("member", 2)]) (g := gName 2) (tt := tYes) rfl scIsS.nd (pi_tup (pv 0)) (blkOk_by (N := NIsS) (sc := defScope sIsS) (by decide +kernel)) (fun _ _ _ _ _ => pg_name (i := 2) scIsS.nd rfl (Or.inl rfl)) (fun _ _ _ _ _ => pts_nil) (fun _ _ _ _ _ => (pe_ix (ixt_k K rfl) (pv 2) pe_int (fun _ _ => rfl)))) pa_nil))))), ?_⟩
    obtain ⟨ty, hty, k1, k2, k3⟩ := ty_of (K := K) dv
    refine q_seq (q_if ?_)
    refine ⟨v, rfl, v, _, ty, _, isTupD d, rfl, .ty _, hty, k1, ?_⟩
    cases tt : isTupD d with
    | false =>
      refine ⟨false, rfl, ?_⟩
      have z := q H (Same.refl H)
      rw [sum_no tt] at z
      exact z
    | true =>
      refine ⟨true, rfl, ?_⟩
      obtain ⟨a, xs, ds, rfl, ht, rfl, p⟩ := tup_dv dv tt
      have lx := dv_len p
      have l2 := l200 ds rfl
      refine ⟨.ref a, rfl, a, rfl, ⟨_, ht⟩, fun D nD => lc_tup (K := K) (a := a) (xs := xs) (fun i H' => Same H H' ∧ H' D = some (.lst (((ds.take i).map (memberD n)).map V.bl))) ⟨same_upd nD, upd_same⟩ (fun i H' _ hP => sqT_same hP.1 ht) (fun i x H' hx hP => ?_) (fun H' hP => ?_)⟩
      · obtain ⟨s', hD⟩ := hP
        have il : i < xs.length := (List.getElem?_eq_some_iff.mp hx).1
        obtain ⟨e, he, dx⟩ := dv_at (p.same s') hx
        refine ⟨rfl, x, rfl, .int n, rfl, N, x, e, n, rfl, dx, fun H2 s2 => ⟨_, s2 _ _ hD, ?_, fun c o e => ?_, ?_⟩⟩
        · rw [List.length_map, List.length_map, List.length_take]
          exact small1000 (by omega)
        · rw [upd_ne (ne_of_none e nD)]
          exact s2 _ _ (s' _ _ e)
        · rw [upd_same, List.take_add_one, he, List.map_append, List.map_append]
          rfl
      · obtain ⟨s', hD⟩ := hP
        rw [lx, List.take_length] at hD
        refine ⟨D, _, rfl, sl hD, _, rfl, ?_⟩
        rw [show (ds.map (memberD n)).all id = ds.all (memberD n) by rw [List.all_map]; rfl]
        have q' : ∀ H', Same H H' → Q (.bl (ds.all (memberD n) && riseT (ds.map keyOf))) H' := q
        clear q
        cases al : ds.all (memberD n) with
        | false => rw [al] at q'; exact q' H' s'
        | true =>
          rw [al, Bool.true_and] at q'
          refine q_next ?_
          dsimp only
          refine q_ret ?_
          refine ⟨.ref a, rfl, a, rfl, ⟨_, sqT_same s' ht⟩, fun D2 nD2 => lc_tup (K := K) (a := a) (xs := xs) (fun i H2 => Same H' H2 ∧ ∃ rs : List Addr, H2 D2 = some (.lst (rs.map V.ref)) ∧ RtS K H2 rs ((ds.take i).map keyOf)) ⟨same_upd nD2, [], upd_same, .nil⟩ (fun i H2 _ hP => sqT_same (s'.trans hP.1) ht) (fun i x H2 hx hP => ?_) (fun H2 hP => ?_)⟩
          · obtain ⟨s2, rs, hD2, rt⟩ := hP
            have il : i < xs.length := (List.getElem?_eq_some_iff.mp hx).1
            obtain ⟨e, he, dx⟩ := dv_at (p.same (s'.trans s2)) hx
            have me : memberD n e = true := List.all_eq_true.mp al e (List.mem_of_getElem? he)
            obtain ⟨b, r, y1, d0, d1, rfl, hb, hr2, rfl, _⟩ := mem_dv (K := K) dx me
            refine ⟨rfl, ?_⟩
            refine ⟨.ref b, rfl, b, _, 0, .ref r, rfl, rfl, hb, at_z (j := 0) rfl rfl, _, hD2, ?_, fun c o e => ?_, rs ++ [r], ?_, ?_⟩
            · have z := paired_len rt
              rw [List.length_map, List.length_take] at z
              rw [List.length_map]
              exact small1000 (by omega)
            · rw [upd_ne (ne_of_none e nD2)]
              exact s2 _ _ e
            · rw [upd_same, List.map_append]
              rfl
            · rw [List.take_add_one, he, List.map_append]
              exact RtS.updL hD2 (paired_app rt (.cons hr2 .nil))
          · obtain ⟨s2, rs, hD2, rt⟩ := hP
            rw [lx, List.take_length] at rt
            exact ⟨D2, rs, _, rfl, hD2, rt, by rw [List.length_map]; omega, fun H3 s3 => q' H3 (s'.trans (s2.trans s3))⟩
end
end CC

namespace CC
open PySem PySem.Spec PyProof.Rows L2 Ek
section
variable {P : Program} {w : World} {K : PySem.W.Frag} {mg : Str → Option Value} {base : Heap}
theorem ok_Mor {f : Addr} {fd : FuncData} (F : Fun K "_law_more" "_law_more" sMor f fd) : FnOk P w K mg base CX0 1 f fd ["found", "letters", "number"] spAT := by
  refine F.ok scMor (fun vs H Q E h => ?_) (fun cdv A outer s H vs Q E hr h => ?_)
  · obtain ⟨d, a, m, l, n, rfl, _⟩ := h
    rfl
  · obtain ⟨d, a, m, l, n, rfl, hd, ha, hm, q⟩ := h
    refine ⟨_, (pss_one (ps_dput (ru1 hr) (pv 0) (pv 1) (pe_op op_add (pe_dget2 (ru1 hr) (pv 0) (pv 1) pe_int ⟨rfl, rfl, rfl, rfl⟩) (pv 2)) rfl)), ?_⟩
    refine ⟨.ref d, rfl, d, rfl, isD_dT hd, .ref a, rfl, _, DGet.t hd ha, .int n, rfl, getM m l, n, getD_dV, rfl, .ref d, rfl, .ref a, rfl, d, _, rfl, put_dV hd ha hm, q⟩
end
end CC

namespace CC
open PySem PySem.Spec PyProof.Rows L2 Ek
/-! ### letters that may be, sums that were drawn -/
def sumI (r : List Int) : Int := r.sum
def onesR (n : Nat) (r : List Int) : List Nat := (List.range n).filter fun k => decide (r.getD k 0 = 1)
def subsF (n : Nat) : List (List Nat) := ((rowsOf n).filter fun r => decide (sumI r ≤ 3)).map (onesR n)
def chkS : Bool := (List.range 6).all fun n => (subsF n).elem [] && (List.range n).all fun a => (subsF n).elem [a] && (List.range n).all fun b => !decide (a < b) || ((subsF n).elem [a, b] && (List.range n).all fun c => !decide (b < c) || (subsF n).elem [a, b, c])
theorem chkS_ok : chkS = true := by decide +kernel
theorem subs_mem {n : Nat} {l : List Nat} (n5 : n ≤ 5) (pw : l.Pairwise (· < ·)) (lt : ∀ x ∈ l, x < n) (l3 : l.length ≤ 3) : l ∈ subsF n := by
  have a := List.all_eq_true.mp chkS_ok n (List.mem_range.mpr (by omega))
  rw [Bool.and_eq_true] at a
  match l, pw, lt, l3 with
  | [], _, _, _ => exact List.elem_iff.mp a.1
  | [x], _, lt, _ =>
    have b := List.all_eq_true.mp a.2 x (List.mem_range.mpr (lt x List.mem_cons_self))
    rw [Bool.and_eq_true] at b
    exact List.elem_iff.mp b.1
  | [x, y], pw, lt, _ =>
    have b := List.all_eq_true.mp a.2 x (List.mem_range.mpr (lt x List.mem_cons_self))
    rw [Bool.and_eq_true] at b
    have xy : x < y := (List.pairwise_cons.mp pw).1 y List.mem_cons_self
    have c := List.all_eq_true.mp b.2 y (List.mem_range.mpr (lt y (List.mem_cons_of_mem _ List.mem_cons_self)))
    rw [decide_eq_true xy, Bool.not_true, Bool.false_or, Bool.and_eq_true] at c
    exact List.elem_iff.mp c.1
  | [x, y, z], pw, lt, _ =>
    have b := List.all_eq_true.mp a.2 x (List.mem_range.mpr (lt x List.mem_cons_self))
    rw [Bool.and_eq_true] at b
    have xy : x < y := (List.pairwise_cons.mp pw).1 y List.mem_cons_self
    have yz : y < z := (List.pairwise_cons.mp (List.pairwise_cons.mp pw).2).1 z List.mem_cons_self
    have c := List.all_eq_true.mp b.2 y (List.mem_range.mpr (lt y (List.mem_cons_of_mem _ List.mem_cons_self)))
    rw [decide_eq_true xy, Bool.not_true, Bool.false_or, Bool.and_eq_true] at c
    have d := List.all_eq_true.mp c.2 z (List.mem_range.mpr (lt z (List.mem_cons_of_mem _ (List.mem_cons_of_mem _ List.mem_cons_self))))
    rw [decide_eq_true yz, Bool.not_true, Bool.false_or] at d
    exact List.elem_iff.mp d
  | _ :: _ :: _ :: _ :: _, _, _, l3 => simp at l3
/-- letters that may be, each once -/
def okM (n : Nat) (m : Mp) : Prop := (∀ p ∈ m, p.1 ∈ subsF n) ∧ (m.map (·.1)).Nodup
theorem okM.nil {n : Nat} : okM n [] := ⟨fun p h => (by cases h), List.nodup_nil⟩
theorem putM_mem {m : Mp} {l : List Nat} {x : Int} {p : List Nat × Int} (hp : p ∈ putM m l x) : p ∈ m ∨ p = (l, x) := by
  unfold putM at hp
  by_cases c : (m.any fun p => decide (p.1 = l)) = true
  · rw [if_pos c] at hp
    obtain ⟨q, hq, rfl⟩ := List.mem_map.mp hp
    by_cases e : q.1 = l
    · rw [if_pos e]; exact .inr (by rw [e])
    · rw [if_neg e]; exact .inl hq
  · rw [if_neg c] at hp
    rcases List.mem_append.mp hp with z | z
    · exact .inl z
    · exact .inr (List.mem_singleton.mp z)
theorem okM.put {n : Nat} {m : Mp} {l : List Nat} {x : Int} (h : okM n m) (hl : l ∈ subsF n) : okM n (putM m l x) :=
  ⟨fun p hp => (putM_mem hp).elim (h.1 p) fun e => by rw [e]; exact hl, putM_nodup h.2⟩
/-- numbers within bounds, none of them 0 -/
def bdM (b : Int) (m : Mp) : Prop := ∀ p ∈ m, -b ≤ p.2 ∧ p.2 ≤ b
def nzM (m : Mp) : Prop := ∀ p ∈ m, p.2 ≠ 0
theorem bdM.put {b : Int} {m : Mp} {l : List Nat} {x : Int} (h : bdM b m) (h1 : -b ≤ x) (h2 : x ≤ b) : bdM b (putM m l x) := fun p hp => (putM_mem hp).elim (h p) fun e => by rw [e]; exact ⟨h1, h2⟩
theorem nzM.put {m : Mp} {l : List Nat} {x : Int} (h : nzM m) (h1 : x ≠ 0) : nzM (putM m l x) := fun p hp => (putM_mem hp).elim (h p) fun e => by rw [e]; exact h1
/-- the number of members with three letters -/
def triM (m : Mp) : Nat := (m.filter fun p => decide (p.1.length = 3)).length
theorem tri_keys {m : Mp} : triM m = ((m.map (·.1)).filter fun l => decide (l.length = 3)).length := by
  unfold triM
  rw [List.filter_map, List.length_map]
  rfl
theorem tri_put {m : Mp} {l : List Nat} {x : Int} : triM (putM m l x) ≤ triM m + (if l.length = 3 then 1 else 0) := by
  rw [tri_keys, tri_keys, putM_keys]
  by_cases c : (m.any fun p => decide (p.1 = l)) = true
  · rw [if_pos c]; omega
  · rw [if_neg c, List.filter_append, List.length_append]
    by_cases e : l.length = 3
    · rw [if_pos e, List.filter_cons_of_pos (by simpa using e)]; exact Nat.le_refl _
    · rw [if_neg e, List.filter_cons_of_neg (by simpa using e)]; exact Nat.le_refl _
theorem tri_perm {m m' : Mp} (h : m.Perm m') : triM m = triM m' := (h.filter _).length_eq
/-- a sum of the law's: over n letters, at most c members, at most t of three letters, numbers within b -/
structure Tld (n c t : Nat) (b : Int) (L : Mp) : Prop where
  ok : okM n L
  up : Up L
  nz : nzM L
  bd : bdM b L
  le : L.length ≤ c
  tr : triM L ≤ t
theorem t_or {σ : L2.St} {H : Hp} {t u : TT} (b1 b2 : Bool) (h1 : ∀ Q : Bool → Hp → Prop, Q b1 H → t σ H Q) (h2 : ∀ Q : Bool → Hp → Prop, Q b2 H → u σ H Q) : ∀ Q : Bool → Hp → Prop, Q (b1 || b2) H → tOr t u σ H Q := fun Q hQ => by
  refine h1 _ ?_
  cases b1 with
  | true =>
    show (if true = true then _ else _)
    rw [if_pos rfl]
    exact hQ
  | false =>
    show (if false = true then _ else _)
    rw [if_neg (by decide)]
    exact h2 _ hQ
/-- the script stands apart from D -/
def Apt (K : PySem.W.Frag) (ns : List Int) (s D : Addr) : Prop := s ≠ D ∨ ∀ H', SqL K H' s (ns.map V.int)
theorem Sta.apt {K : PySem.W.Frag} {ns : List Int} {s st D : Addr} {H : Hp} (x : Sta K ns s st H) (nD : H D = none) : Apt K ns s D ∧ D ≠ st := by
  obtain ⟨sc, a, b, c, d, hst, _⟩ := x
  refine ⟨?_, fun z => by rw [z, hst] at nD; cases nD⟩
  rcases sc with ⟨(e | ⟨o, e⟩) | e, ne⟩ | y
  · exact .inl fun z => by rw [z, nD] at e; cases e
  · exact .inl fun z => by rw [z, nD] at e; cases e
  · exact .inr fun _ => .inr e
  · exact .inr y
theorem Scr.mv {K : PySem.W.Frag} {ns : List Int} {s st D : Addr} {H H' : Hp} (ap : Apt K ns s D) (k : ∀ b o, b ≠ D → H b = some o → H' b = some o) (x : Scr K ns s st H) : Scr K ns s st H' := by
  rcases ap with ap | ap
  · rcases x with ⟨(e | ⟨o, e⟩) | e, ne⟩ | y
    · exact .inl ⟨.inl (.inl (k _ _ ap e)), ne⟩
    · exact .inl ⟨.inl (.inr ⟨o, k _ _ ap e⟩), ne⟩
    · exact .inr fun _ => .inr e
    · exact .inr y
  · exact .inr ap
theorem Sta.mv {K : PySem.W.Frag} {ns : List Int} {s st D : Addr} {H H' : Hp} (ap : Apt K ns s D ∧ D ≠ st) (k : ∀ b o, b ≠ D → H b = some o → H' b = some o) (x : Sta K ns s st H) : Sta K ns s st H' := by
  obtain ⟨sc, a, b, c, d, hst, r⟩ := x
  exact ⟨sc.mv ap.1 k, a, b, c, d, k _ _ (Ne.symm ap.2) hst, r⟩
theorem Sta.same {K : PySem.W.Frag} {ns : List Int} {s st : Addr} {H H' : Hp} (k : Same H H') (x : Sta K ns s st H) : Sta K ns s st H' := by
  obtain ⟨sc, a, b, c, d, hst, r⟩ := x
  refine ⟨?_, a, b, c, d, k _ _ hst, r⟩
  rcases sc with ⟨(e | ⟨o, e⟩) | e, ne⟩ | y
  · exact .inl ⟨.inl (.inl (k _ _ e)), ne⟩
  · exact .inl ⟨.inl (.inr ⟨o, k _ _ e⟩), ne⟩
  · exact .inr fun _ => .inr e
  · exact .inr y
theorem Sta.upd {K : PySem.W.Frag} {ns : List Int} {s st D : Addr} {H : Hp} {o : HO} (ap : Apt K ns s D ∧ D ≠ st) (x : Sta K ns s st H) : Sta K ns s st (upd H D o) := x.mv ap fun b u nb e => by rw [upd_ne nb]; exact e
theorem lI_nat {ks : List Int} {n : Nat} (h : ∀ x ∈ ks, 0 ≤ x ∧ x < n) (pw : ks.Pairwise (· < ·)) : ∃ l : List Nat, ks = lI l ∧ l.Pairwise (· < ·) ∧ ∀ x ∈ l, x < n := by
  refine ⟨ks.map Int.toNat, ?_, ?_, fun x hx => ?_⟩
  · rw [lI, List.map_map]
    have e : ks.map id = ks := List.map_id ks
    rw [show ks = ks.map id from e.symm]
    rw [List.map_map]
    refine List.map_congr_left fun x hx => ?_
    have := h x hx
    show x = ((Int.toNat x : Nat) : Int)
    omega
  · rw [List.pairwise_map]
    refine pw.imp_of_mem fun {a b} ha hb ab => ?_
    have := h a ha
    have := h b hb
    omega
  · obtain ⟨y, hy, rfl⟩ := List.mem_map.mp hx
    have := h y hy
    omega
theorem Tld.perm {n c t : Nat} {b : Int} {m L : Mp} (pm : L.Perm m) (up : Up L) (ok : okM n m) (nz : nzM m) (bd : bdM b m) (le : m.length ≤ c) (tr : triM m ≤ t) : Tld n c t b L :=
  ⟨⟨fun p hp => ok.1 p (pm.mem_iff.mp hp), (pm.map (·.1)).nodup_iff.mpr ok.2⟩, up, fun p hp => nz p (pm.mem_iff.mp hp), fun p hp => bd p (pm.mem_iff.mp hp), by rw [pm.length_eq]; exact le, by rw [tri_perm pm]; exact tr⟩
theorem MbT.but {H : Hp} {d : Addr} {u o : HO} {ps : List Addr} {L : Mp} (hd : H d = some u) (nt : ∀ xs, u ≠ .tup xs) (x : MbT H ps L) : MbT (upd H d o) ps L := by
  induction x with
  | nil => exact .nil
  | cons e _ ih =>
    obtain ⟨b, h1, h2⟩ := e
    exact .cons ⟨b, by rw [upd_ne (ne_of h1 hd fun z => nt _ z.symm)]; exact h1, by rw [upd_ne (ne_of h2 hd fun z => nt _ z.symm)]; exact h2⟩ ih
theorem dV_at {m : Mp} {i : Nat} {k : List L2.Key} {v : V} (h : (dV m)[i]? = some (k, v)) : ∃ l n, m[i]? = some (l, n) ∧ k = kI l ∧ v = V.int n := by
  rw [dV, List.getElem?_map] at h
  obtain ⟨p, hp, e⟩ := Option.map_eq_some_iff.mp h
  injection e with e1 e2
  exact ⟨p.1, p.2, hp, e1.symm, e2.symm⟩
/-- what follows a tuple(..) of a new list -/
def kTup (K : PySem.W.Frag) (Q : VK) : VK := fun x H1 => ∃ p ys, [x] = [V.ref p] ∧ ((SqL K H1 p ys ∧ ∀ l, H1 l = none → Q (.ref l) (upd H1 l (.tup ys))) ∨ (SqT K H1 p ys ∧ Q (.ref p) H1))
theorem mb_sort {K : PySem.W.Frag} {H : Hp} {D : Addr} {ps : List Addr} {m : Mp} {Q : VK} (hD : H D = some (.lst (ps.map V.ref))) (mb : MbT H ps m) (nd : (m.map (·.1)).Nodup)
    (q : ∀ H' p (qs : List Addr) (L : Mp), Same H H' → H' p = some (.lst (qs.map V.ref)) → MbT H' qs L → L.Perm m → Up L → Q (.ref p) H') : rSortB (β := Addr × (List Nat × Int)) (fun b => encS b.2) (fun b => V.ref b.1) K [.ref D] H Q := by
  obtain ⟨z1, z2, z3⟩ := paired_zip mb
  have ev : (ps.zip m).map (fun b => V.ref b.1) = ps.map V.ref := by rw [refs_fst, z1]
  refine ⟨D, ps.zip m, rfl, sl (by rw [ev]; exact hD), fun b mm => ?_, PySem.W.AllAlike.of fun b b' => alike_S _ _, PySem.W.Sortable.tuples fun b => ⟨_, _, rfl⟩, fun b _ => depth_S _, fun p np => ?_⟩
  · obtain ⟨c, h1, h2⟩ := z3 b mm
    rw [lV_lI] at h2
    exact .tup (tl h1) (.cons (.tup (tl h2) dp_ints) (.cons (.int _) .nil))
  · have pm : ((ps.zip m).mergeSort (PySem.W.dataLe false fun b => encS b.2)).Perm (ps.zip m) := List.mergeSort_perm _ _
    have pr := paired_of (F := fun p (q : List Nat × Int) => ∃ b, H p = some (.tup [.ref b, .int q.2]) ∧ H b = some (.tup (lV q.1))) (l := (ps.zip m).mergeSort (PySem.W.dataLe false fun b => encS b.2)) fun b mm => z3 b (pm.mem_iff.mp mm)
    have up : Up (((ps.zip m).mergeSort (PySem.W.dataLe false fun b => encS b.2)).map Prod.snd) := by
      unfold Up
      rw [List.pairwise_map]
      refine up_sortS (g := Prod.snd) ?_
      have e : (ps.zip m).map (fun z => z.2.1) = m.map (·.1) := by
        rw [show (ps.zip m).map (fun z => z.2.1) = ((ps.zip m).map Prod.snd).map (·.1) by rw [List.map_map]; rfl, z2]
      rw [e]
      exact nd
    have st := same_upd (o := .lst (((ps.zip m).mergeSort (PySem.W.dataLe false fun b => encS b.2)).map fun b => V.ref b.1)) np
    refine q _ p _ _ st ?_ (MbT.same st pr) (by have := pm.map Prod.snd; rw [z2] at this; exact this) up
    rw [upd_same, refs_fst]
section
variable {P : Program} {w : World} {K : PySem.W.Frag} {mg : Str → Option Value} {base : Heap}
def spLD2 (K : PySem.W.Frag) : Sp := fun vs H Q _ => ∃ (s st : Addr) (ns : List Int) (n mo tr : Nat), vs = [.ref s, .ref st, .int n, .int mo, .int tr] ∧ ns.length ≤ 63 ∧ n ≤ 5 ∧ mo ≤ 30 ∧ tr ≤ 30 ∧ Sta K ns s st H ∧ ∀ H' t ps L, Kp st H H' → Sta K ns s st H' → H' t = some (.tup (ps.map V.ref)) → MbT H' ps L → Tld n mo tr 50000 L → Q (.ref t) H'
theorem ok_LD2 {f : Addr} {fd : FuncData} (F : Fun K "_law_drawn_sum" "_law_drawn_sum" sLD2 f fd) (B : Bt mg) {fDrw : Addr} {fdDrw : FuncData} (GDrw : FnOk P w K mg base CX0 1 fDrw fdDrw ["script", "state", "many"] (spDrw K)) (kDrw : PySem.W.keepIn K (.ref fDrw) = true) (bDrw : Binds K fdDrw ["script", "state", "many"] []) (gDrw : mg "_law_draw" = some (.ref fDrw)) {fAm2 : Addr} {fdAm2 : FuncData} (GAm2 : FnOk P w K mg base CX0 3 fAm2 fdAm2 ["script", "state"] (spAm2 K)) (kAm2 : PySem.W.keepIn K (.ref fAm2) = true) (bAm2 : Binds K fdAm2 ["script", "state"] []) (gAm2 : mg "_law_amount" = some (.ref fAm2)) : FnOk P w K mg base CX0 4 f fd ["script", "state", "count", "most", "triples"] (spLD2 K) := by
  refine F.ok scLD2 (fun vs H Q E h => ?_) (fun cdv A outer s0 H vs Q E hr h => ?_)
  · obtain ⟨s, st, ns, n, mo, tr, rfl, _⟩ := h
    rfl
  · obtain ⟨s, st, ns, n, mo, tr, rfl, l63, n5, mo30, tr30, sta, q⟩ := h
    refine ⟨_, (pss_cons (ps_set (i := 5) scLD2.nd rfl (.inr rfl) pe_dnewT)
      (pss_cons (ps_set (i := 6) scLD2.nd rfl (.inl rfl) (pv 4))
      (pss_cons (ps_for PassesOwn.never rfl (pi_range1 rfl B.range (pa_cons (pe_call GDrw (hr.mono (by decide)) (by rfl) gDrw kDrw bDrw .nil pass0 (pa_cons (pv 0) (pa_cons (pv 1) (pa_cons (pe_op op_add (pv 3) pe_int) pa_nil)))) pa_nil)) (pg_name (i := 7) scLD2.nd rfl (.inl rfl))
      (pss_cons (ps_set (i := 8) scLD2.nd rfl (.inl rfl) (pe_lst pa_nil))
      (pss_cons (ps_for PassesOwn.never rfl (pi_range1 rfl B.range (pa_cons (pe_call GDrw (hr.mono (by decide)) (by rfl) gDrw kDrw bDrw .nil pass0 (pa_cons (pv 0) (pa_cons (pv 1) (pa_cons pe_int pa_nil)))) pa_nil)) (pg_name (i := 9) scLD2.nd rfl (.inl rfl))
      (pss_one (ps_if (pt_cmpR op_gt (pv 2) pe_int (nomark _))
      (pss_one (ps_expr (pe_bm PySem.F.plainAttrs_list PySem.F.slot_list_append PySem.F.type_list_append mt_append (pv 8) (pa_cons (pe_call GDrw (hr.mono (by decide)) (by rfl) gDrw kDrw bDrw .nil pass0 (pa_cons (pv 0) (pa_cons (pv 1) (pa_cons (pv 2) pa_nil)))) pa_nil)))) pss_nil)))
      (pss_cons (ps_set (i := 8) scLD2.nd rfl (.inl rfl) (pe_callTy call_tuple_of (by rfl) B.tuple (by decide +kernel) (pa_cons (pe_callB (cr_sortedSet rfl) (by rfl) B.sorted (by decide +kernel) (pa_cons (pe_callTy (call_setI rfl) (by rfl) B.set (by decide +kernel) (pa_cons (pv 8) pa_nil)) pa_nil)) pa_nil)))
      (pss_cons (ps_if (pt_cmpR op_eq (pe_callB call_len_seq (by rfl) B.len PySem.boot_len (pa_cons (pv 8) pa_nil)) pe_int (nomark _))
      (pss_one (ps_set (i := 6) scLD2.nd rfl (.inl rfl) (pe_op op_sub (pv 6) pe_int))) pss_nil)
      (pss_cons (ps_set (i := 10) scLD2.nd rfl (.inl rfl) (pe_call GAm2 (hr.mono (by decide)) (by rfl) gAm2 kAm2 bAm2 .nil pass0 (pa_cons (pv 0) (pa_cons (pv 1) pa_nil))))
      (pss_one (ps_if (PW.pt (pw_and (pt_cmpR op_ne (pv 10) pe_int (nomark _)) (pw_and1 (PW.pt (pw_or (pt_cmpR op_lt (pe_callB call_len_seq (by rfl) B.len PySem.boot_len (pa_cons (pv 8) pa_nil)) pe_int (nomark _)) (pw_or1 (pt_cmpR op_ge (pv 6) pe_int (nomark _))))))))
      (pss_one (ps_dput (ru1 hr) (pv 5) (pv 8) (pv 10) rfl)) pss_nil))))))))
      (pss_one (ps_ret (pe_callTy call_tuple_of (by rfl) B.tuple (by decide +kernel) (pa_cons (pe_callB (call_sortS hr.units) (by rfl) B.sorted (by decide +kernel) (pa_cons (pe_lock (pe_lc (own := [("letters", 8)]) (g := gName 8) (tt := tYes) rfl scLD2.nd (pi_keys (pv 5)) (blkOk_by (N := NLD2) (sc := defScope sLD2) (by decide +kernel)) (fun _ _ _ _ _ => pg_name (i := 8) scLD2.nd rfl (Or.inl rfl)) (fun _ _ _ _ _ => pts_nil) (fun _ _ _ _ _ => (pe_tup (pa_cons (pv 8) (pa_cons (pe_dget (ru1 hr) (pv 5) (pv 8) (fun _ _ => rfl)) pa_nil)))))) pa_nil)) pa_nil))))))), ?_⟩
    refine q_seq (q_set (fun d nd => ?_))
    have ad := sta.apt nd
    have sd := same_upd (o := .dT []) nd
    have sta1 := sta.same sd
    have hd1 : (upd H d (.dT [])) d = some (.dT []) := upd_same
    generalize upd H d (.dT []) = H1 at sd sta1 hd1 ⊢
    dsimp only
    refine q_seq (q_set ?_)
    refine ⟨.int tr, rfl, ?_⟩
    dsimp only
    refine q_seq ?_
    refine ⟨.ref s, rfl, .ref st, rfl, .int mo, rfl, _, _, rfl, rfl, s, st, ns, (mo : Int) + 1, rfl, by omega, by omega, l63, sta1, fun r H2 r0 r1 kp2 sta2 => ?_⟩
    have k02 : ∀ b o, b ≠ st → b ≠ d → H b = some o → H2 b = some o := fun b o nb _ e => (kp2 b nb).trans (sd _ _ e)
    have hd2 : H2 d = some (.dT (dV [])) := (kp2 d ad.2).trans hd1
    clear kp2 sta1 hd1 sd
    refine ⟨_, rfl, by omega, by omega, for_range (lo := 0) (n := r.toNat) (fun i σ H' => (∀ b o, b ≠ st → b ≠ d → H b = some o → H' b = some o) ∧ Sta K ns s st H' ∧ (∃ m, H' d = some (.dT (dV m)) ∧ m.length ≤ i ∧ okM n m ∧ nzM m ∧ bdM 50000 m ∧ ∃ lf : Int, triM m ≤ tr ∧ lf ≤ tr ∧ (triM m : Int) ≤ tr - lf ∧ ∃ x7 x8 x9 x10 : Option V, σ = [some (.ref s), some (.ref st), some (.int n), some (.int mo), some (.int tr), some (.ref d), some (.int lf), x7, x8, x9, x10])) ⟨k02, sta2, [], hd2, Nat.le_refl _, okM.nil, fun p h => (by cases h), fun p h => (by cases h), tr, Nat.zero_le _, Int.le_refl _, by show ((0 : Nat) : Int) ≤ _; omega, none, none, none, none, rfl⟩ (fun i σ H' hi hP => ?_) (fun σ H' hP => ?_)⟩
    · obtain ⟨k0, sta', m, hm, lm, okm, nzm, bdm, lf, t1, lf1, t2, x7, x8, x9, x10, rfl⟩ := hP
      refine q_seq (q_set ⟨Nat.zero_le _, fun L nL => ?_⟩)
      have aL := sta'.apt nL
      have ndL : d ≠ L := ne_of_none hm nL
      have sL := same_upd (o := .lst []) nL
      have staL := sta'.same sL
      have hL1 : (upd H' L (.lst [])) L = some (.lst ([].map V.int)) := upd_same
      have hmL := sL _ _ hm
      generalize upd H' L (.lst []) = HL at sL staL hL1 hmL ⊢
      dsimp only
      refine q_seq ?_
      refine ⟨.ref s, rfl, .ref st, rfl, s, st, ns, 4, rfl, by decide, by decide, l63, staL, fun r2 H3 r20 r21 kp3 sta3 => ?_⟩
      refine ⟨_, rfl, by omega, by omega, for_range (lo := 0) (n := r2.toNat) (fun j σ H4 => (∀ b o, b ≠ st → b ≠ L → H' b = some o → H4 b = some o) ∧ Sta K ns s st H4 ∧ (∃ ks : List Int, H4 L = some (.lst (ks.map V.int)) ∧ ks.length ≤ j ∧ ∀ x ∈ ks, 0 ≤ x ∧ x < n) ∧ ∃ x7 x9 x10 : Option V, σ = [some (.ref s), some (.ref st), some (.int n), some (.int mo), some (.int tr), some (.ref d), some (.int lf), x7, some (.ref L), x9, x10]) ⟨fun b o nb _ e => (kp3 b nb).trans (sL _ _ e), sta3, ⟨[], (kp3 L aL.2).trans hL1, Nat.le_refl _, fun x h => by cases h⟩, _, _, _, rfl⟩ (fun j σ H4 hj hR => ?_) (fun σ H4 hR => ?_)⟩
      · obtain ⟨k4, sta4, ⟨ks, hL4, lk, kb⟩, y7, y9, y10, rfl⟩ := hR
        refine q_if ?_
        refine ⟨.int n, rfl, _, _, rfl, rfl, _, rfl, ?_⟩
        refine ite2 (fun c => ?_) (fun c => ?_)
        · have n0 : (0 : Int) < n := of_decide_eq_true c
          refine ⟨.ref L, rfl, .inl ⟨rfl, _, .inl (.inl hL4)⟩, .ref s, rfl, .ref st, rfl, .int n, rfl, s, st, ns, n, rfl, n0, by omega, l63, sta4, fun v H5 v0 v1 kp5 sta5 => ?_⟩
          have hL5 : H5 L = some (.lst (ks.map V.int)) := (kp5 L aL.2).trans hL4
          refine ⟨L, _, _, rfl, rfl, hL5, by rw [List.length_map]; exact small1000 (by omega), ?_⟩
          refine ⟨fun b o nb nL2 e => ?_, sta5.upd aL, ⟨ks ++ [v], by rw [upd_same, List.map_append]; rfl, by rw [List.length_append]; show _ + 1 ≤ _; omega, fun x hx => ?_⟩, _, _, _, rfl⟩
          · rw [upd_ne nL2]
            exact (kp5 b nb).trans (k4 b o nb nL2 e)
          · rcases List.mem_append.mp hx with z | z
            · exact kb x z
            · rw [List.mem_singleton.mp z]; exact ⟨v0, v1⟩
        · refine q_next ?_
          exact ⟨k4, sta4, ⟨ks, hL4, by omega, kb⟩, _, _, _, rfl⟩
      · obtain ⟨k4, sta4, ⟨ks, hL4, lk, kb⟩, y7, y9, y10, rfl⟩ := hR
        dsimp only
        refine q_seq (q_set ?_)
        refine ⟨.ref L, rfl, L, ks, rfl, sl hL4, by omega, fun S so nS hso => ?_⟩
        obtain ⟨c, lc, eso⟩ := hso
        refine ⟨S, _, c, rfl, by rw [eso]; exact upd_same, by omega, fun ks2 p pw mem len np => ⟨p, _, rfl, .inl ⟨sl upd_same, fun T nT => ?_⟩⟩⟩
        have sS : Same H4 _ := (same_upd (o := so) nS).trans ((same_upd (o := .lst (ks2.map V.int)) np).trans (same_upd (o := .tup (ks2.map V.int)) nT))
        have hT : (upd (upd (upd H4 S so) p (.lst (ks2.map V.int))) T (.tup (ks2.map V.int))) T = some (.tup (ks2.map V.int)) := upd_same
        generalize upd (upd (upd H4 S so) p (.lst (ks2.map V.int))) T (.tup (ks2.map V.int)) = H5 at sS hT ⊢
        have aT := (sta4.same sS)
        obtain ⟨l, rfl, pwl, ltl⟩ := lI_nat (n := n) (fun x hx => kb x (of_decide_eq_true ((mem x).mp hx))) pw
        have l3 : l.length ≤ 3 := by rw [lI, List.length_map] at len; omega
        have lm3 := subs_mem n5 pwl ltl l3
        rw [← lV_lI] at hT
        have hd5 := sS _ _ (k4 _ _ ad.2 ndL hm)
        have k05 : ∀ b o, b ≠ st → b ≠ d → H b = some o → H5 b = some o := fun b o nb nd2 e => sS _ _ (k4 _ _ nb (ne_of_none (k0 b o nb nd2 e) nL) (k0 b o nb nd2 e))
        clear k4 sS mem kb hL4 sta4 nT np nS staL sta3 kp3 sL hL1 hmL nL
        dsimp only
        refine q_seqJ (fun σ H6 => H6 = H5 ∧ σ = [some (.ref s), some (.ref st), some (.int n), some (.int mo), some (.int tr), some (.ref d), some (.int (if l.length = 3 then lf - 1 else lf)), y7, some (.ref T), y9, y10]) (fun σ H6 hJ => ?_) (fun J => ?_)
        · obtain ⟨rfl, rfl⟩ := hJ
          have ta : triM m ≤ tr := t1
          generalize hlf : (if l.length = 3 then lf - 1 else lf) = lf2
          refine q_seq (q_set ?_)
          refine ⟨.ref s, rfl, .ref st, rfl, s, st, ns, rfl, l63, aT, fun v H7 v0 v1 k7 sta7 => ?_⟩
          have hT7 := k7 T _ (fun z => by
            obtain ⟨_, _, _, _, _, e, _⟩ := aT
            rw [z, e] at hT
            cases hT) hT
          have hd7 := k7 d _ ad.2 hd5
          dsimp only
          refine q_if (t_and (!decide (V.int v = V.int 0)) _ (fun Q hQ => ⟨.int v, rfl, rfl, _, rfl, hQ⟩) (t_or (decide ((((lV l).length : Nat) : Int) < 3)) (decide (0 ≤ lf2)) (fun Q hQ => ⟨.ref T, rfl, T, _, rfl, .inr (tl hT7), _, _, rfl, rfl, _, rfl, hQ⟩) (fun Q hQ => ⟨.int lf2, rfl, _, _, rfl, rfl, _, rfl, hQ⟩)) _ ?_)
          have k07 : ∀ b o, b ≠ st → b ≠ d → H b = some o → H7 b = some o := fun b o nb nd2 e => k7 b o nb (k05 b o nb nd2 e)
          refine ite2 (fun c => ?_) (fun c => ?_)
          · rw [dInt, List.length_map, Bool.and_eq_true, Bool.or_eq_true, decide_eq_true_iff, decide_eq_true_iff, Bool.not_eq_true', decide_eq_false_iff_not] at c
            refine ⟨.int v, rfl, .ref d, rfl, .ref T, rfl, d, _, rfl, put_dV hd7 (by rw [kV_kI]; exact hT7) (by omega), ?_⟩
            have tp := tri_put (m := m) (l := l) (x := v)
            have pl := putM_len (m := m) (l := l) (n := v)
            refine ⟨fun b o nb nd2 e => by rw [upd_ne nd2]; exact k07 b o nb nd2 e, sta7.upd ad, _, upd_same, by omega, okm.put lm3, nzm.put c.1, bdm.put v0 v1, lf2, ?_, ?_, ?_, _, _, _, _, rfl⟩
            all_goals
              by_cases e : l.length = 3
              · rw [if_pos e] at hlf tp
                omega
              · rw [if_neg e] at hlf tp
                omega
          · refine q_next ?_
            refine ⟨k07, sta7, m, hd7, by omega, okm, nzm, bdm, lf2, t1, ?_, ?_, _, _, _, _, rfl⟩
            all_goals
              by_cases e : l.length = 3
              · rw [if_pos e] at hlf
                omega
              · rw [if_neg e] at hlf
                omega
        · refine q_if ?_
          refine ⟨.ref T, rfl, T, _, rfl, .inr (tl hT), rfl, _, rfl, ?_⟩
          rw [dInt, List.length_map]
          refine ite2 (fun c => ?_) (fun c => ?_)
          · have c' : l.length = 3 := by have := of_decide_eq_true c; omega
            refine q_set ?_
            refine ⟨.int lf, rfl, _, _, rfl, rfl, J _ _ ⟨rfl, ?_⟩⟩
            rw [if_pos c']
            rfl
          · have c' : ¬ l.length = 3 := fun z => c (decide_eq_true (by omega))
            refine q_next ?_
            refine J _ _ ⟨rfl, ?_⟩
            rw [if_neg c']
            rfl
    · obtain ⟨k0, sta', m, hm, lm, okm, nzm, bdm, lf, t1, lf1, t2, x7, x8, x9, x10, rfl⟩ := hP
      have lm2 : m.length ≤ mo := by omega
      dsimp only
      refine q_ret ?_
      refine ⟨d, _, hm, trivial, fun od => ⟨.ref d, rfl, d, od, rfl, .inr ⟨dV m, upd_same, fun D nD => ?_⟩⟩⟩
      have hf : (upd H' d (.frz od (.dT (dV m)))) d = some (.frz od (.dT (dV m))) := upd_same
      have ndD : D ≠ d := fun z => by rw [z, hf] at nD; cases nD
      have nDH : H' D = none := by rw [upd_ne ndD] at nD; exact nD
      refine lc_it (walk_keysT (kvs := dV m) (d := d) (o := od)) (fun i H2 => Same (upd H' d (.frz od (.dT (dV m)))) H2 ∧ ∃ ps : List Addr, H2 D = some (.lst (ps.map V.ref)) ∧ MbT H2 ps (m.take i)) ⟨same_upd nD, [], upd_same, .nil⟩ (fun i H2 _ hP => hP.1 _ _ hf) (fun i x H2 H3 hi hP hy => ?_) (fun H2 hP => ?_)
      · obtain ⟨s2, ps, hD, mb⟩ := hP
        obtain ⟨rfl, k, v, qa, hk, rfl, hqa⟩ := hy
        obtain ⟨l, v, hm2, rfl, rfl⟩ := dV_at hk
        have g : DGet H3 d (.ref qa) (some (V.int v)) := by
          refine .inr ⟨dV m, kI l, qa, .inr ⟨od, s2 _ _ hf⟩, rfl, hqa, ?_⟩
          rw [valV_dV, find_nodup okm.2 hm2]
          rfl
        rw [dV, List.length_map] at hi
        refine ⟨rfl, .ref qa, rfl, .ref d, rfl, .ref qa, rfl, d, _, rfl, g, by show 2 ≤ sizeLine; decide, fun t nt => ?_⟩
        have st := same_upd (o := .tup [V.ref qa, .int v]) nt
        have hDt := st _ _ hD
        have lp := paired_len mb
        rw [List.length_take] at lp
        refine ⟨_, hDt, by rw [List.length_map]; exact small1000 (by omega), fun c o e => ?_, ps ++ [t], by rw [upd_same, List.map_append]; rfl, ?_⟩
        · rw [upd_ne (ne_of_none e nD)]
          exact st _ _ (s2 _ _ e)
        · rw [List.take_add_one, hm2]
          rw [kV_kI] at hqa
          exact MbT.updL hDt (paired_app (mb.same st) (.cons ⟨qa, upd_same, st _ _ hqa⟩ .nil))
      · obtain ⟨s2, ps, hD, mb⟩ := hP
        rw [dV, List.length_map, List.take_length] at mb
        have hf2 := s2 _ _ hf
        refine ⟨hf2, (show rSortB (β := Addr × (List Nat × Int)) (fun b => encS b.2) (fun b => V.ref b.1) K [.ref D] (upd H2 d (.dT (dV m))) (kTup K Q) from ?_)⟩
        refine mb_sort (by rw [upd_ne ndD]; exact hD) (mb.but hf2 fun xs z => by cases z) okm.2 fun H4 p qs L s4 hp mbL pm up => ⟨p, _, rfl, .inl ⟨sl hp, fun t nt => ?_⟩⟩
        have s5 := same_upd (o := .tup (qs.map V.ref)) nt
        have k4 : Kp st H (upd H4 t (.tup (qs.map V.ref))) := fun b o nb e => by
          have nbd : b ≠ d := ne_of_none e nd
          refine s5 _ _ (s4 _ _ ?_)
          rw [upd_ne nbd]
          refine s2 _ _ ?_
          rw [upd_ne nbd]
          exact k0 b o nb nbd e
        refine q _ t qs L k4 ((sta'.mv ad fun b o nb e => ?_)) upd_same (mbL.same s5) (.perm pm up okm nzm bdm lm2 t1)
        refine s5 _ _ (s4 _ _ ?_)
        rw [upd_ne nb]
        refine s2 _ _ ?_
        rw [upd_ne nb]
        exact e
end
end CC

namespace CC
open PySem PySem.Spec PyProof.Rows L2 Ek
theorem rws_at {H : Hp} {rs : List Addr} {bss : List (List Int)} {i : Nat} {x : V} (rw1 : Rws H rs bss) (hx : (rs.map V.ref)[i]? = some x) : ∃ r bs, x = V.ref r ∧ bss[i]? = some bs ∧ H r = some (.tup (bs.map V.int)) := by
  rw [List.getElem?_map] at hx
  obtain ⟨r, e, rfl⟩ := Option.map_eq_some_iff.mp hx
  have hj : i < bss.length := by
    rw [← paired_len rw1]
    exact (List.getElem?_eq_some_iff.mp e).1
  obtain ⟨y, hy, hz⟩ := paired_get rw1 (List.getElem?_eq_getElem hj)
  rw [e] at hy
  cases hy
  exact ⟨r, _, rfl, List.getElem?_eq_getElem hj, hz⟩
theorem rws_mem {H : Hp} {rs : List Addr} {bss : List (List Int)} {x : V} (rw1 : Rws H rs bss) (hx : x ∈ rs.map V.ref) : ∃ r bs, x = V.ref r ∧ bs ∈ bss ∧ H r = some (.tup (bs.map V.int)) := by
  obtain ⟨i, hi, e⟩ := List.mem_iff_getElem.mp hx
  obtain ⟨r, bs, e1, e2, e3⟩ := rws_at rw1 (by rw [List.getElem?_eq_getElem hi, e])
  exact ⟨r, bs, e1, List.mem_of_getElem? e2, e3⟩
theorem rows32 {n : Nat} (h : n ≤ 5) : (rowsOf n).length ≤ 32 := by
  rw [rows_len]
  exact Nat.le_trans (Nat.pow_le_pow_right (by decide) h) (by decide)
theorem rows_bit : ∀ {n : Nat} {r : List Int}, r ∈ rowsOf n → ∀ b ∈ r, b = 0 ∨ b = 1
  | 0, r, h, b, hb => by
    have : r = [] := List.mem_singleton.mp h
    rw [this] at hb
    cases hb
  | n + 1, r, h, b, hb => by
    have h' : r ∈ (rowsOf n).flatMap fun r => [r ++ [0], r ++ [1]] := h
    obtain ⟨r0, h0, h1⟩ := List.mem_flatMap.mp h'
    have hr : r = r0 ++ [0] ∨ r = r0 ++ [1] := by simpa using h1
    rcases hr with e | e <;> rw [e] at hb <;> rcases List.mem_append.mp hb with z | z
    · exact rows_bit h0 b z
    · exact .inl (List.mem_singleton.mp z)
    · exact rows_bit h0 b z
    · exact .inr (List.mem_singleton.mp z)
/-- x + (y,) -/
theorem tup_more {K : PySem.W.Frag} {σ : L2.St} {H : Hp} {i : Nat} {r : Addr} {xs : List V} {y : V} {Q : VK} (hσ : σ[i]? = some (some (.ref r))) (hr : H r = some (.tup xs)) (lb : xs.length ≤ 100) (k : ∀ t H', Same H H' → H' t = some (.tup (xs ++ [y])) → Q (.ref t) H') : tOp (rCatA K) (tVar i) (tTup (tCons (tC y) tNil)) σ H Q := by
  refine ⟨.ref r, hσ, by show 1 ≤ sizeLine; decide, fun t1 nt1 => ?_⟩
  refine ⟨r, t1, xs, [y], rfl, rfl, tl (same_upd nt1 _ _ hr), tl upd_same, ?_, fun z => ?_, (fun _ z => absurd z (List.cons_ne_nil _ _)), fun _ _ p np => ?_⟩
  · exact Nat.le_of_lt (small1000 (by show xs.length + 1 ≤ 1000; omega))
  · subst z
    exact k t1 _ (same_upd nt1) upd_same
  · exact k p _ ((same_upd nt1).trans (same_upd np)) upd_same
def onR (bs : List Int) (l : List Nat) : Bool := l.all fun x => decide (bs.getD x 0 = 1)
def wt (r : List Int) (q : List Nat × Int) : Int := if onR r q.1 = true then q.2 else 0
def worthM (L : Mp) (r : List Int) : Int := (L.map (wt r)).sum
theorem worth_take {L : Mp} {r : List Int} {i : Nat} {q : List Nat × Int} (h : L[i]? = some q) : worthM (L.take (i + 1)) r = worthM (L.take i) r + wt r q := by
  unfold worthM
  rw [List.take_add_one, h, List.map_append, List.sum_append]
  simp
theorem on_take {r : List Int} {l : List Nat} {j x : Nat} (h : l[j]? = some x) : onR r (l.take (j + 1)) = (onR r (l.take j) && decide (r.getD x 0 = 1)) := by
  unfold onR
  rw [List.take_add_one, h, List.all_append]
  simp
section
variable {P : Program} {w : World} {K : PySem.W.Frag} {mg : Str → Option Value} {base : Heap}
def spRws2 : Sp := fun vs H Q _ => ∃ n : Nat, vs = [.int n] ∧ n ≤ 5 ∧ ∀ H' p rs, Same H H' → H p = none → H' p = some (.lst (rs.map V.ref)) → Rws H' rs (rowsOf n) → Q (.ref p) H'
theorem ok_Rws2 {f : Addr} {fd : FuncData} (F : Fun K "_law_rows" "_law_rows" sRws2 f fd) (B : Bt mg) : FnOk P w K mg base CX0 1 f fd ["count"] spRws2 := by
  refine F.ok scRws2 (fun vs H Q E h => ?_) (fun cdv A outer s H vs Q E hr h => ?_)
  · obtain ⟨n, rfl, _⟩ := h
    rfl
  · obtain ⟨n, rfl, hn, q⟩ := h
    refine ⟨_, (pss_cons (ps_set (i := 1) scRws2.nd rfl (.inl rfl) (pe_lst (pa_cons (pe_tup pa_nil) pa_nil)))
      (pss_cons (ps_for PassesOwn.never rfl (pi_range1 rfl B.range (pa_cons (pv 0) pa_nil)) (pg_name (i := 2) scRws2.nd rfl (.inl rfl))
      (pss_cons (ps_set (i := 3) scRws2.nd rfl (.inl rfl) (pe_lst pa_nil))
      (pss_cons (ps_for PassesOwn.never rfl (pi_list (pv 1)) (pg_name (i := 4) scRws2.nd rfl (.inl rfl))
      (pss_one (ps_expr (pe_bm PySem.F.plainAttrs_list PySem.F.slot_list_extend PySem.F.type_list_extend mt_extend (pv 3) (pa_cons (pe_lst (pa_cons (pe_op op_catA (pv 4) (pe_tup (pa_cons pe_int pa_nil))) (pa_cons (pe_op op_catA (pv 4) (pe_tup (pa_cons pe_int pa_nil))) pa_nil))) pa_nil)))))
      (pss_one (ps_set (i := 1) scRws2.nd rfl (.inl rfl) (pv 3))))))
      (pss_one (ps_ret (pv 1))))), ?_⟩
    refine q_seq (q_set ?_)
    refine ⟨Nat.zero_le _, fun t0 nt0 => ⟨by show 1 ≤ sizeLine; decide, fun L0 nL0 => ?_⟩⟩
    have s0 : Same H (upd (upd H t0 (.tup [])) L0 (.lst [.ref t0])) := (same_upd nt0).trans (same_upd nL0)
    have e0 : (upd (upd H t0 (.tup [])) L0 (.lst [.ref t0])) t0 = some (.tup []) := same_upd nL0 _ _ upd_same
    have n0 : H L0 = none := (same_upd nt0).free nL0
    dsimp only
    refine q_seq ?_
    refine ⟨_, rfl, n, rfl, by omega, by omega, for_range (lo := 0) (n := n) (fun i σ H' => ∃ (L : Addr) (u v x : Option V) (rs : List Addr), σ = [some (.int n), some (.ref L), u, v, x] ∧ Same H H' ∧ H L = none ∧ H' L = some (.lst (rs.map V.ref)) ∧ Rws H' rs (rowsOf i))
      ⟨L0, none, none, none, [t0], rfl, s0, n0, upd_same, .cons e0 .nil⟩ (fun i σ H1 hi hP => ?_) (fun σ H1 hP => ?_)⟩
    · obtain ⟨L, u, v, x, rs, rfl, s1, nL, hL, rw1⟩ := hP
      refine q_seq (q_set ⟨Nat.zero_le _, fun M nM => ?_⟩)
      dsimp only
      have lim := rows32 (show i ≤ 5 by omega)
      have len1 := paired_len rw1
      have nML : M ≠ L := fun z => by rw [z, hL] at nM; cases nM
      refine q_seq ?_
      refine ⟨.ref L, rfl, L, rfl, ⟨_, sl (same_upd nM _ _ hL)⟩, for_list (K := K) (a := L) (xs := rs.map V.ref) (fun j σ H2 => ∃ (x : Option V) (rs2 : List Addr), σ = [some (.int n), some (.ref L), some (.int (0 + (i : Int))), some (.ref M), x] ∧ Same H1 H2 ∧ H2 M = some (.lst (rs2.map V.ref)) ∧ Rws H2 rs2 (((rowsOf i).take j).flatMap fun r => [r ++ [0], r ++ [1]]))
        ⟨x, [], rfl, same_upd nM, upd_same, .nil⟩ (fun j σ H2 _ hQ => ?_) (fun j x σ H2 hx hQ => ?_) (fun σ H2 hQ => ?_)⟩
      · obtain ⟨x, rs2, rfl, s2, _⟩ := hQ
        exact sl (s2 _ _ hL)
      · obtain ⟨x', rs2, rfl, s2, hM, rw2⟩ := hQ
        obtain ⟨r, bs, rfl, hbs, hr⟩ := rws_at rw1 hx
        have l2 : rs2.length ≤ 64 := by
          have z := paired_len rw2
          have h2 : ∀ l : List (List Int), (l.flatMap fun r => [r ++ [0], r ++ [1]]).length = 2 * l.length := fun l => by
            induction l with
            | nil => rfl
            | cons x l ih => rw [List.flatMap_cons, List.length_append, ih, List.length_cons, List.length_cons, List.length_cons, List.length_nil]; omega
          rw [h2, List.length_take] at z
          omega
        have lb : (bs.map V.int).length ≤ 100 := by
          rw [List.length_map, row_len i bs (List.mem_of_getElem? hbs)]
          omega
        refine ⟨.ref M, rfl, .inl ⟨rfl, _, .inl (.inl hM)⟩, ?_⟩
        refine tup_more (show _ = some (some (V.ref r)) from rfl) (s2 _ _ hr) lb fun t1 H3 s3 h3 => ?_
        refine tup_more (show _ = some (some (V.ref r)) from rfl) (s3 _ _ (s2 _ _ hr)) lb fun t2 H4 s4 h4 => ?_
        refine ⟨by show 2 ≤ sizeLine; decide, fun L2 nL2 => ?_⟩
        have s5 := s3.trans (s4.trans (same_upd (o := .lst [.ref t1, .ref t2]) nL2))
        have hM5 := s5 _ _ hM
        have ht1 : (upd H4 L2 (.lst [.ref t1, .ref t2])) t1 = some (.tup ((bs ++ [0]).map V.int)) := same_upd nL2 _ _ (s4 _ _ (by rw [h3, List.map_append]; rfl))
        have ht2 : (upd H4 L2 (.lst [.ref t1, .ref t2])) t2 = some (.tup ((bs ++ [1]).map V.int)) := same_upd nL2 _ _ (by rw [h4, List.map_append]; rfl)
        refine ⟨M, L2, rs2.map V.ref, [.ref t1, .ref t2], rfl, rfl, hM5, upd_same, by rw [List.length_map]; exact Nat.le_of_lt (small1000 (by show rs2.length + 2 ≤ 1000; omega)), ?_⟩
        refine ⟨_, rs2 ++ [t1, t2], rfl, fun b o e => ?_, by rw [upd_same, List.map_append]; rfl, ?_⟩
        · rw [upd_ne (ne_of_none e nM)]
          exact s5 _ _ (s2 _ _ e)
        · rw [take_flat _ hbs]
          exact Rws.updL hM5 (paired_app (rw2.same s5) (.cons ht1 (.cons ht2 .nil)))
      · obtain ⟨x', rs2, rfl, s2, hM, rw2⟩ := hQ
        dsimp only
        refine q_set ?_
        refine ⟨.ref M, rfl, ?_⟩
        refine ⟨M, _, _, _, rs2, rfl, s1.trans s2, s1.free nM, hM, ?_⟩
        rw [List.length_map, len1, List.take_length] at rw2
        exact rw2
    · obtain ⟨L, u, v, x, rs, rfl, s1, nL, hL, rw1⟩ := hP
      dsimp only
      refine q_ret ?_
      exact ⟨.ref L, rfl, q _ L rs s1 nL hL rw1⟩
def spLWo (K : PySem.W.Frag) : Sp := fun vs H Q _ => ∃ (t r : Addr) (ps : List Addr) (L : Mp) (bs : List Int), vs = [.ref t, .ref r] ∧ SqT K H t (ps.map V.ref) ∧ MbT H ps L ∧ SqT K H r (bs.map V.int) ∧ (∀ b ∈ bs, b = 0 ∨ b = 1) ∧ (∀ q ∈ L, ∀ x ∈ q.1, x < bs.length) ∧ Q (.int (worthM L bs)) H
theorem ok_LWo {f : Addr} {fd : FuncData} (F : Fun K "_law_worth" "_law_worth" sLWo f fd) (B : Bt mg) : FnOk P w K mg base CX0 1 f fd ["told", "row"] (spLWo K) := by
  refine F.ok scLWo (fun vs H Q E h => ?_) (fun cdv A outer s H vs Q E hr h => ?_)
  · obtain ⟨t, r, ps, L, bs, rfl, _⟩ := h
    rfl
  · obtain ⟨t, r, ps, L, bs, rfl, ht, mb, hr', bit, lb, q⟩ := h
    refine ⟨_, (pss_cons (ps_set (i := 2) scLWo.nd rfl (.inl rfl) pe_int)
      (pss_cons (ps_for PassesOwn.never rfl (pi_tup (pv 0)) (pg_tup (by rfl) (pgs_cons (pg_name (i := 3) scLWo.nd rfl (.inl rfl)) (pgs_cons (pg_name (i := 4) scLWo.nd rfl (.inl rfl)) pgs_nil)))
      (pss_cons (ps_set (i := 5) scLWo.nd rfl (.inl rfl) (pv 4))
      (pss_cons (ps_for PassesOwn.never rfl (pi_tup (pv 3)) (pg_name (i := 6) scLWo.nd rfl (.inl rfl))
      (pss_one (ps_set (i := 5) scLWo.nd rfl (.inl rfl) (pe_op op_mul (pv 5) (pe_ix ix_tup (pv 1) (pv 6) (fun _ _ => rfl))))))
      (pss_one (ps_set (i := 2) scLWo.nd rfl (.inl rfl) (pe_op op_add (pv 2) (pv 5)))))))
      (pss_one (ps_ret (pv 2))))), ?_⟩
    refine q_seq (q_set ?_)
    dsimp only
    refine q_seq ?_
    refine ⟨.ref t, rfl, t, rfl, ⟨_, ht⟩, for_tup (K := K) (a := t) (xs := ps.map V.ref) (fun i σ H' => H' = H ∧ ∃ x3 x4 x5 x6 : Option V, σ = [some (.ref t), some (.ref r), some (.int (worthM (L.take i) bs)), x3, x4, x5, x6]) ⟨rfl, none, none, none, none, rfl⟩ (fun i σ H' _ hP => by rw [hP.1]; exact ht) (fun i x σ H' hx hP => ?_) (fun σ H' hP => ?_)⟩
    · obtain ⟨rfl, x3, x4, x5, x6, rfl⟩ := hP
      obtain ⟨p, ⟨l, v⟩, b, rfl, hq, hp, hb⟩ := mbt_at mb hx
      have qb := lb _ (List.mem_of_getElem? hq)
      simp only at hp hb qb
      refine ⟨p, _, rfl, tl hp, rfl, _, _, rfl, _, _, rfl, rfl, ?_⟩
      refine q_seq (q_set ?_)
      refine ⟨.int v, rfl, ?_⟩
      dsimp only
      refine q_seq ?_
      refine ⟨.ref b, rfl, b, rfl, ⟨_, tl hb⟩, for_tup (K := K) (a := b) (xs := lV l) (fun j σ H2 => H2 = H' ∧ ∃ x6 : Option V, σ = [some (.ref t), some (.ref r), some (.int (worthM (L.take i) bs)), some (.ref b), some (.int v), some (.int (if onR bs (l.take j) = true then v else 0)), x6]) ⟨rfl, _, rfl⟩ (fun j σ H2 _ hR => by rw [hR.1]; exact tl hb) (fun j y σ H2 hy hR => ?_) (fun σ H2 hR => ?_)⟩
      · obtain ⟨rfl, y6, rfl⟩ := hR
        obtain ⟨x, hx2, rfl⟩ := lV_at hy
        have xb := qb x (List.mem_of_getElem? hx2)
        have g1 : (bs.map V.int)[x]? = some (.int bs[x]) := by rw [List.getElem?_map, List.getElem?_eq_getElem xb]; rfl
        have e1 : bs.getD x 0 = bs[x] := by rw [List.getD_eq_getElem?_getD, List.getElem?_eq_getElem xb]; rfl
        have b01 := bit bs[x] (List.getElem_mem xb)
        refine q_set ?_
        refine ⟨_, rfl, .ref r, rfl, _, rfl, r, _, _, .int bs[x], rfl, rfl, hr', at_z (j := x) rfl g1, _, _, rfl, rfl, .inr ⟨by rcases b01 with z | z <;> rw [z] <;> decide, by rcases b01 with z | z <;> rw [z] <;> decide⟩, rfl, some (V.int ((x : Nat) : Int)), ?_⟩
        rw [on_take hx2, e1]
        have ev : (if onR bs (l.take j) = true then v else 0) * bs[x] = if (onR bs (l.take j) && decide (bs[x] = 1)) = true then v else 0 := by
          rcases b01 with z | z
          · rw [z]; simp
          · rw [z]; simp
        rw [← ev]
        rfl
      · obtain ⟨rfl, y6, rfl⟩ := hR
        have el : l.take (lV l).length = l := by rw [lV, List.length_map, List.take_length]
        rw [el]
        dsimp only
        refine q_set ?_
        refine ⟨_, rfl, _, rfl, _, _, rfl, rfl, rfl, some (.ref b), some (.int v), some (.int (if onR bs l = true then v else 0)), y6, ?_⟩
        rw [worth_take hq]
        rfl
    · obtain ⟨rfl, x3, x4, x5, x6, rfl⟩ := hP
      have el : L.take (ps.map V.ref).length = L := by rw [List.length_map, paired_len mb, List.take_length]
      rw [el]
      dsimp only
      refine q_ret ?_
      exact ⟨_, rfl, q⟩
def spLSm : Sp := fun vs H Q _ => ∃ (d : Addr) (m : Mp), vs = [.ref d] ∧ H d = some (.dT (dV m)) ∧ m.length ≤ 200 ∧ (m.map (·.1)).Nodup ∧ ∀ H' t ps L, Same H H' → H' t = some (.tup (ps.map V.ref)) → MbT H' ps L → L.Perm (m.filter fun p => decide (p.2 ≠ 0)) → Up L → Q (.ref t) H'
theorem ok_LSm {f : Addr} {fd : FuncData} (F : Fun K "_law_sum" "_law_sum" sLSm f fd) (B : Bt mg) : FnOk P w K mg base CX0 1 f fd ["found"] spLSm := by
  refine F.ok scLSm (fun vs H Q E h => ?_) (fun cdv A outer s H vs Q E hr h => ?_)
  · obtain ⟨d, m, rfl, _⟩ := h
    rfl
  · obtain ⟨d, m, rfl, hd, hm, nd, q⟩ := h
    refine ⟨_, (pss_one (ps_ret (pe_callTy call_tuple_of (by rfl) B.tuple (by decide +kernel) (pa_cons (pe_callB (call_sortS hr.units) (by rfl) B.sorted (by decide +kernel) (pa_cons (pe_lock (pe_lc (own := [("letters", 1)]) (g := gName 1) rfl scLSm.nd (pi_keys (pv 0)) (blkOk_by (N := NLSm) (sc := defScope sLSm) (by decide +kernel)) (fun _ _ _ _ _ => pg_name (i := 1) scLSm.nd rfl (Or.inl rfl)) (fun _ _ _ _ _ => pts_one (pt_cmpR op_ne (pe_dget (ru1 hr) (pv 0) (pv 1) (fun _ _ => rfl)) pe_int (nomark _))) (fun _ _ _ _ _ => (pe_tup (pa_cons (pv 1) (pa_cons (pe_dget (ru1 hr) (pv 0) (pv 1) (fun _ _ => rfl)) pa_nil)))))) pa_nil)) pa_nil)))), ?_⟩
    refine q_ret ?_
    refine ⟨d, _, hd, trivial, fun od => ⟨.ref d, rfl, d, od, rfl, .inr ⟨dV m, upd_same, fun D nD => ?_⟩⟩⟩
    have hf : (upd H d (.frz od (.dT (dV m)))) d = some (.frz od (.dT (dV m))) := upd_same
    have ndD : D ≠ d := fun z => by rw [z, hf] at nD; cases nD
    have nDH : H D = none := by rw [upd_ne ndD] at nD; exact nD
    refine lc_it (walk_keysT (kvs := dV m) (d := d) (o := od)) (fun i H2 => Same (upd H d (.frz od (.dT (dV m)))) H2 ∧ ∃ ps : List Addr, H2 D = some (.lst (ps.map V.ref)) ∧ MbT H2 ps ((m.take i).filter fun p => decide (p.2 ≠ 0))) ⟨same_upd nD, [], upd_same, .nil⟩ (fun i H2 _ hP => hP.1 _ _ hf) (fun i x H2 H3 hi hP hy => ?_) (fun H2 hP => ?_)
    · obtain ⟨s2, ps, hD, mb⟩ := hP
      obtain ⟨rfl, k, v, qa, hk, rfl, hqa⟩ := hy
      obtain ⟨l, v, hm2, rfl, rfl⟩ := dV_at hk
      have g : DGet H3 d (.ref qa) (some (V.int v)) := by
        refine .inr ⟨dV m, kI l, qa, .inr ⟨od, s2 _ _ hf⟩, rfl, hqa, ?_⟩
        rw [valV_dV, find_nodup nd hm2]
        rfl
      rw [dV, List.length_map] at hi
      have ef : (m.take (i + 1)).filter (fun p => decide (p.2 ≠ 0)) = (m.take i).filter (fun p => decide (p.2 ≠ 0)) ++ (if v ≠ 0 then [(l, v)] else []) := by
        rw [List.take_add_one, hm2, List.filter_append]
        congr 1
        by_cases c : v ≠ 0
        · rw [if_pos c]
          exact List.filter_cons_of_pos (by simpa using c)
        · rw [if_neg c]
          exact List.filter_cons_of_neg (by simpa using c)
      refine ⟨rfl, .ref d, rfl, .ref qa, rfl, d, _, rfl, g, rfl, _, rfl, ?_⟩
      refine ite2 (fun c => ?_) (fun c => ?_)
      · have c' : v ≠ 0 := fun z => by subst z; simp at c
        refine ⟨.ref qa, rfl, .ref d, rfl, .ref qa, rfl, d, _, rfl, g, by show 2 ≤ sizeLine; decide, fun t nt => ?_⟩
        have st := same_upd (o := .tup [V.ref qa, .int v]) nt
        have hDt := st _ _ hD
        have lp := paired_len mb
        have lf := List.length_filter_le (fun p : List Nat × Int => decide (p.2 ≠ 0)) (m.take i)
        rw [List.length_take] at lf
        refine ⟨_, hDt, by rw [List.length_map]; exact small1000 (by omega), fun c o e => ?_, ps ++ [t], by rw [upd_same, List.map_append]; rfl, ?_⟩
        · rw [upd_ne (ne_of_none e nD)]
          exact st _ _ (s2 _ _ e)
        · rw [ef, if_pos c']
          rw [kV_kI] at hqa
          exact MbT.updL hDt (paired_app (mb.same st) (.cons ⟨qa, upd_same, st _ _ hqa⟩ .nil))
      · have c' : ¬ v ≠ 0 := fun z => c (by simp [z])
        refine ⟨s2, ps, hD, ?_⟩
        rw [ef, if_neg c', List.append_nil]
        exact mb
    · obtain ⟨s2, ps, hD, mb⟩ := hP
      rw [dV, List.length_map, List.take_length] at mb
      have hf2 := s2 _ _ hf
      have ndf : ((m.filter fun p => decide (p.2 ≠ 0)).map (·.1)).Nodup := (List.Sublist.map _ List.filter_sublist).nodup nd
      refine ⟨hf2, (show rSortB (β := Addr × (List Nat × Int)) (fun b => encS b.2) (fun b => V.ref b.1) K [.ref D] (upd H2 d (.dT (dV m))) (kTup K Q) from ?_)⟩
      refine mb_sort (by rw [upd_ne ndD]; exact hD) (mb.but hf2 fun xs z => by cases z) ndf fun H4 p qs L s4 hp mbL pm up => ⟨p, _, rfl, .inl ⟨sl hp, fun t nt => ?_⟩⟩
      have s5 := same_upd (o := .tup (qs.map V.ref)) nt
      refine q _ t qs L (fun b o e => s5 _ _ (s4 _ _ ?_)) upd_same (mbL.same s5) pm up
      by_cases nb : b = d
      · rw [nb, hd] at e
        cases e
        rw [nb]
        exact upd_same
      · rw [upd_ne nb]
        refine s2 _ _ ?_
        rw [upd_ne nb]
        exact e
end
end CC

namespace CC
open PySem PySem.Spec PyProof.Rows L2 Ek
theorem three_form : ∀ n : Fin 6, ∀ l ∈ subsF n.1, l.length = 3 → l = [l.getD 0 0, l.getD 1 0, l.getD 2 0] ∧ l.getD 0 0 < l.getD 1 0 ∧ l.getD 1 0 < l.getD 2 0 ∧ l.getD 2 0 < n.1 ∧ [l.getD 0 0, l.getD 1 0] ∈ subsF n.1 ∧ [l.getD 0 0, l.getD 2 0] ∈ subsF n.1 ∧ [l.getD 1 0, l.getD 2 0] ∈ subsF n.1 := by decide +kernel
theorem three {n : Nat} {l : List Nat} (n5 : n ≤ 5) (h : l ∈ subsF n) (e : l.length = 3) : ∃ x y z, l = [x, y, z] ∧ x < y ∧ y < z ∧ z < n ∧ [x, y] ∈ subsF n ∧ [x, z] ∈ subsF n ∧ [y, z] ∈ subsF n := ⟨_, _, _, three_form ⟨n, by omega⟩ l h e⟩
theorem len3s : ∀ n : Fin 6, ∀ l ∈ subsF n.1, l.length ≤ 3 := by decide +kernel
theorem below : ∀ n : Fin 6, ∀ l ∈ subsF n.1, ∀ z ∈ l, z < n.1 := by decide +kernel
theorem put_take {L : Mp} {i : Nat} {q : List Nat × Int} (nd : (L.map (·.1)).Nodup) (h : L[i]? = some q) : putM (L.take i) q.1 q.2 = L.take (i + 1) := by
  have e : L.take (i + 1) = L.take i ++ [q] := by rw [List.take_add_one, h]; rfl
  have nd2 : ((L.take (i + 1)).map (·.1)).Nodup := (List.Sublist.map _ (List.take_sublist _ _)).nodup nd
  rw [e, List.map_append, List.nodup_append] at nd2
  unfold putM
  rw [if_neg, e]
  intro c
  exact nd2.2.2 q.1 (any_mem.mp c) q.1 (List.mem_singleton.mpr rfl) rfl
theorem ex_bd (L : Mp) : ∃ b, bdM b L := by
  induction L with
  | nil => exact ⟨0, fun p h => by cases h⟩
  | cons q L ih =>
    obtain ⟨b, hb⟩ := ih
    refine ⟨(b.natAbs + q.2.natAbs : Nat), fun p hp => ?_⟩
    rcases List.mem_cons.mp hp with e | m
    · rw [e]; omega
    · have := hb p m
      omega
/-- what the numbers of letters may be while they are made bent -/
structure Mak (n c : Nat) (m : Mp) : Prop where
  ok : okM n m
  tr : triM m ≤ 3
  le : m.length ≤ c
theorem Mak.put {n c : Nat} {m : Mp} {l : List Nat} {x : Int} (h : Mak n c m) (hl : l ∈ subsF n) (l2 : l.length = 2) : Mak n (c + 1) (putM m l x) := by
  have tp := tri_put (m := m) (l := l) (x := x)
  rw [if_neg (by omega)] at tp
  have pl := putM_len (m := m) (l := l) (n := x)
  have := h.tr
  have := h.le
  exact ⟨h.ok.put hl, by omega, by omega⟩
theorem Mak.has {n c : Nat} {m : Mp} {l : List Nat} {x : Int} (h : Mak n c m) (hl : l ∈ m.map (·.1)) : Mak n c (putM m l x) ∧ (putM m l x).map (·.1) = m.map (·.1) := by
  have ks : (putM m l x).map (·.1) = m.map (·.1) := by rw [putM_keys, if_pos (any_mem.mpr hl)]
  refine ⟨⟨?_, by rw [tri_keys, ks, ← tri_keys]; exact h.tr, ?_⟩, ks⟩
  · obtain ⟨p, hp, e⟩ := List.mem_map.mp hl
    exact h.ok.put (e ▸ h.ok.1 p hp)
  · have := congrArg List.length ks
    rw [List.length_map, List.length_map] at this
    rw [this]
    exact h.le
theorem find_key {m : Mp} {l : List Nat} (h : l ∈ m.map (·.1)) : m.find? (fun p => decide (p.1 = l)) = some (l, getM m l) := by
  cases e : m.find? (fun p => decide (p.1 = l)) with
  | none =>
    obtain ⟨p, hp, e2⟩ := List.mem_map.mp h
    exact absurd (decide_eq_true e2) (List.find?_eq_none.mp e p hp)
  | some p =>
    have e1 : p.1 = l := by simpa using List.find?_some e
    unfold getM
    rw [e, ← e1]
    rfl
theorem get_key {H : Hp} {d a : Addr} {m : Mp} {l : List Nat} (hd : H d = some (.dT (dV m))) (ha : H a = some (.tup (lV l))) (h : l ∈ m.map (·.1)) : DGet H d (.ref a) (some (V.int (getM m l))) := by
  have z := DGet.t (k := kI l) hd (by rw [kV_kI]; exact ha)
  rw [valV_dV, find_key h] at z
  exact z
/-- an order over keys -/
theorem sort_parts {H : Hp} {K : PySem.W.Frag} {a : Addr} {bs : List Addr} {ls : List (List Nat)} (ha : H a = some (.lst (bs.map V.ref))) (ks : KsT H bs ls) : SqL K H a ((bs.zip ls).map fun z => V.ref z.1) ∧ (∀ b ∈ bs.zip ls, Dp K H (V.ref b.1) (.tuple ((lI b.2).map .int))) ∧ PySem.W.AllAlike ((bs.zip ls).map fun z => PyData.tuple ((lI z.2).map .int)) ∧ (∀ b ∈ bs.zip ls, ∃ xs, PyData.tuple ((lI b.2).map .int) = .tuple xs) ∧ (∀ b ∈ bs.zip ls, (PyData.tuple ((lI b.2).map .int)).depth ≤ 60) := by
  obtain ⟨z1, z2, z3⟩ := paired_zip ks
  refine ⟨sl ?_, fun b mb => ?_, PySem.W.AllAlike.of fun x y => by simp [PySem.W.alike, PySem.W.alike_ints], fun b _ => ⟨_, rfl⟩, fun b _ => by simp [PyData.depth, PySem.W.depth_ints]⟩
  · rw [show (bs.zip ls).map (fun z => V.ref z.1) = bs.map V.ref by rw [refs_fst, z1]]
    exact ha
  · have h := z3 b mb
    rw [lV_lI] at h
    exact .tup (tl h) dp_ints
theorem ks_of {H : Hp} {m : Mp} {bs : List Addr} (ik : IsKeys H (dV m) bs) : KsT H bs (m.map (·.1)) := by
  induction m generalizing bs with
  | nil => cases ik; exact .nil
  | cons q m ih =>
    cases ik with
    | cons h t =>
      have h2 : H _ = some (.tup ((kI q.1).map kV)) := h
      rw [kV_kI] at h2
      exact .cons h2 (ih t)
theorem KsT.but {H H' : Hp} {d : Addr} {u : HO} {qs : List Addr} {ls : List (List Nat)} (k : ∀ b o, b ≠ d → H b = some o → H' b = some o) (hd : H d = some u) (nt : ∀ xs, u ≠ .tup xs) (x : KsT H qs ls) : KsT H' qs ls := by
  induction x with
  | nil => exact .nil
  | cons h _ ih => exact .cons (k _ _ (ne_of h hd fun z => nt _ z.symm) h) ih
theorem tri_filter {m : Mp} {f : List Nat × Int → Bool} : triM (m.filter f) ≤ triM m := by
  unfold triM
  rw [List.filter_filter]
  have e : (m.filter fun a => decide (a.1.length = 3) && f a) = (m.filter fun a => decide (a.1.length = 3)).filter f := by
    rw [List.filter_filter]
    congr 1
    funext a
    rw [Bool.and_comm]
  rw [e]
  exact List.length_filter_le _ _
theorem Mak.sum {n c : Nat} {m L : Mp} (h : Mak n c m) (pm : L.Perm (m.filter fun p => decide (p.2 ≠ 0))) (up : Up L) : ∃ b, Tld n c 3 b L := by
  obtain ⟨b, hb⟩ := ex_bd (m.filter fun p => decide (p.2 ≠ 0))
  refine ⟨b, .perm pm up ⟨fun p hp => h.ok.1 p (List.mem_filter.mp hp).1, (List.Sublist.map _ List.filter_sublist).nodup h.ok.2⟩ (fun p hp => by simpa using (List.mem_filter.mp hp).2) hb (Nat.le_trans (List.length_filter_le _ _) h.le) (Nat.le_trans tri_filter h.tr)⟩
section
variable {P : Program} {w : World} {K : PySem.W.Frag} {mg : Str → Option Value} {base : Heap}
def spMdB (K : PySem.W.Frag) : Sp := fun vs H Q _ => ∃ (s st t : Addr) (ns : List Int) (n : Nat) (ps : List Addr) (L : Mp) (b0 : Int), vs = [.ref s, .ref st, .ref t, .int n] ∧ ns.length ≤ 63 ∧ n ≤ 5 ∧ Sta K ns s st H ∧ SqT K H t (ps.map V.ref) ∧ MbT H ps L ∧ Tld n 10 3 b0 L ∧ ∀ H' t ps L b, Kp st H H' → Sta K ns s st H' → H' t = some (.tup (ps.map V.ref)) → MbT H' ps L → Tld n 50 3 b L → Q (.ref t) H'
theorem ok_MdB {f : Addr} {fd : FuncData} (F : Fun K "_law_made_bent" "_law_made_bent" sMdB f fd) (B : Bt mg) {fDrw : Addr} {fdDrw : FuncData} (GDrw : FnOk P w K mg base CX0 1 fDrw fdDrw ["script", "state", "many"] (spDrw K)) (kDrw : PySem.W.keepIn K (.ref fDrw) = true) (bDrw : Binds K fdDrw ["script", "state", "many"] []) (gDrw : mg "_law_draw" = some (.ref fDrw)) {fPck : Addr} {fdPck : FuncData} (GPck : FnOk P w K mg base CX0 2 fPck fdPck ["script", "state", "things"] (spPck K)) (kPck : PySem.W.keepIn K (.ref fPck) = true) (bPck : Binds K fdPck ["script", "state", "things"] []) (gPck : mg "_law_pick" = some (.ref fPck)) {fMor : Addr} {fdMor : FuncData} (GMor : FnOk P w K mg base CX0 1 fMor fdMor ["found", "letters", "number"] spAT) (kMor : PySem.W.keepIn K (.ref fMor) = true) (bMor : Binds K fdMor ["found", "letters", "number"] []) (gMor : mg "_law_more" = some (.ref fMor)) {fLSm : Addr} {fdLSm : FuncData} (GLSm : FnOk P w K mg base CX0 1 fLSm fdLSm ["found"] spLSm) (kLSm : PySem.W.keepIn K (.ref fLSm) = true) (bLSm : Binds K fdLSm ["found"] []) (gLSm : mg "_law_sum" = some (.ref fLSm)) : FnOk P w K mg base CX0 3 f fd ["script", "state", "told", "count"] (spMdB K) := by
  refine F.ok scMdB (fun vs H Q E h => ?_) (fun cdv A outer s0 H vs Q E hr h => ?_)
  · obtain ⟨s, st, t, ns, n, ps, L, b0, rfl, _⟩ := h
    rfl
  · obtain ⟨s, st, t, ns, n, ps, L, b0, rfl, l63, n5, sta, ht, mb, td, q⟩ := h
    refine ⟨_, (pss_cons (ps_set (i := 4) scMdB.nd rfl (.inl rfl) pe_dnewT)
      (pss_cons (ps_for PassesOwn.never rfl (pi_tup (pv 2)) (pg_tup (by rfl) (pgs_cons (pg_name (i := 5) scMdB.nd rfl (.inl rfl)) (pgs_cons (pg_name (i := 6) scMdB.nd rfl (.inl rfl)) pgs_nil)))
      (pss_one (ps_dput (ru1 hr) (pv 4) (pv 5) (pv 6) rfl)))
      (pss_cons (ps_for PassesOwn.never rfl (pi_tup (pv 2)) (pg_tup (by rfl) (pgs_cons (pg_name (i := 5) scMdB.nd rfl (.inl rfl)) (pgs_cons (pg_name (i := 6) scMdB.nd rfl (.inl rfl)) pgs_nil)))
      (pss_one (ps_if (PW.pt (pw_and (pt_cmpR op_eq (pe_callB call_len_seq (by rfl) B.len PySem.boot_len (pa_cons (pv 5) pa_nil)) pe_int (nomark _)) (pw_and1 (pt_cmpR op_gt (pv 6) pe_int (nomark _)))))
      (pss_cons (ps_asg (pv 5) (pg_tup (by rfl) (pgs_cons (pg_name (i := 7) scMdB.nd rfl (.inl rfl)) (pgs_cons (pg_name (i := 8) scMdB.nd rfl (.inl rfl)) (pgs_cons (pg_name (i := 9) scMdB.nd rfl (.inl rfl)) pgs_nil)))))
      (pss_one (ps_for PassesOwn.never rfl (pi_list (pe_lst (pa_cons (pe_tup (pa_cons (pv 7) (pa_cons (pv 8) pa_nil))) (pa_cons (pe_tup (pa_cons (pv 7) (pa_cons (pv 9) pa_nil))) (pa_cons (pe_tup (pa_cons (pv 8) (pa_cons (pv 9) pa_nil))) pa_nil))))) (pg_name (i := 10) scMdB.nd rfl (.inl rfl))
      (pss_one (ps_expr (pe_call GMor (hr.mono (by decide)) (by rfl) gMor kMor bMor .nil pass0 (pa_cons (pv 4) (pa_cons (pv 10) (pa_cons (pe_un un_neg (pv 6)) pa_nil))))))))) pss_nil)))
      (pss_cons (ps_for PassesOwn.never rfl (pi_list (pe_callTy (call_list_dT rfl) (by rfl) B.list (by decide +kernel) (pa_cons (pv 4) pa_nil))) (pg_name (i := 5) scMdB.nd rfl (.inl rfl))
      (pss_one (ps_if (PW.pt (pw_and (pt_cmpR op_eq (pe_callB call_len_seq (by rfl) B.len PySem.boot_len (pa_cons (pv 5) pa_nil)) pe_int (nomark _)) (pw_and1 (pt_cmpR op_gt (pe_dget (ru1 hr) (pv 4) (pv 5) (fun _ _ => rfl)) pe_int (nomark _)))))
      (pss_one (ps_dput (ru1 hr) (pv 4) (pv 5) (pe_un un_neg (pe_dget (ru1 hr) (pv 4) (pv 5) (fun _ _ => rfl))) rfl)) pss_nil)))
      (pss_cons (ps_if (PW.pt (pw_and (pt_cmpR op_eq (pe_call GDrw (hr.mono (by decide)) (by rfl) gDrw kDrw bDrw .nil pass0 (pa_cons (pv 0) (pa_cons (pv 1) (pa_cons pe_int pa_nil)))) pe_int (nomark _)) (pw_and1 (pt_cmpR op_gt (pe_callB call_len_dT (by rfl) B.len PySem.boot_len (pa_cons (pv 4) pa_nil)) pe_int (nomark _)))))
      (pss_cons (ps_set (i := 5) scMdB.nd rfl (.inl rfl) (pe_call GPck (hr.mono (by decide)) (by rfl) gPck kPck bPck .nil pass0 (pa_cons (pv 0) (pa_cons (pv 1) (pa_cons (pe_callB (call_sortZ (β := Addr × List Nat) (enc := fun z => .tuple ((lI z.2).map .int)) (val := fun z => V.ref z.1) hr.units) (by rfl) B.sorted (by decide +kernel) (pa_cons (pe_callTy (call_list_dT rfl) (by rfl) B.list (by decide +kernel) (pa_cons (pv 4) pa_nil)) pa_nil)) pa_nil)))))
      (pss_one (ps_expr (pe_call GMor (hr.mono (by decide)) (by rfl) gMor kMor bMor .nil pass0 (pa_cons (pv 4) (pa_cons (pv 5) (pa_cons (pe_op op_add pe_int (pe_call GDrw (hr.mono (by decide)) (by rfl) gDrw kDrw bDrw .nil pass0 (pa_cons (pv 0) (pa_cons (pv 1) (pa_cons pe_int pa_nil))))) pa_nil))))))) pss_nil)
      (pss_one (ps_ret (pe_call GLSm (hr.mono (by decide)) (by rfl) gLSm kLSm bLSm .nil pass0 (pa_cons (pv 4) pa_nil))))))))), ?_⟩
    have nd := td.ok.2
    have l10 := td.le
    refine q_seq (q_set (fun d ndd => ?_))
    have ad := sta.apt ndd
    have sd := same_upd (o := .dT []) ndd
    have kd : ∀ {H' : Hp}, (∀ b o, b ≠ d → upd H d (.dT []) b = some o → H' b = some o) → ∀ b o, b ≠ d → H b = some o → H' b = some o := fun k b o nb e => k b o nb (sd _ _ e)
    have hd1 : (upd H d (.dT [])) d = some (.dT (dV [])) := upd_same
    have ht1 := sqT_same sd ht
    have mb1 := mb.same sd
    have sta1 := sta.same sd
    have k1 : ∀ b o, b ≠ d → H b = some o → (upd H d (.dT [])) b = some o := fun b o nb e => sd _ _ e
    generalize upd H d (.dT []) = H1 at hd1 ht1 mb1 sta1 k1 ⊢
    dsimp only
    -- found is told
    refine q_seq ?_
    refine ⟨.ref t, rfl, t, rfl, ⟨_, ht1⟩, for_tup (K := K) (a := t) (xs := ps.map V.ref) (fun i σ H' => (∀ b o, b ≠ d → H1 b = some o → H' b = some o) ∧ H' d = some (.dT (dV (L.take i))) ∧ ∃ x5 x6 x7 x8 x9 x10 : Option V, σ = [some (.ref s), some (.ref st), some (.ref t), some (.int n), some (.ref d), x5, x6, x7, x8, x9, x10]) ⟨fun _ _ _ e => e, hd1, none, none, none, none, none, none, rfl⟩ (fun i σ H' _ hP => sqT_but hP.1 hd1 ht1) (fun i x σ H' hx hP => ?_) (fun σ H' hP => ?_)⟩
    · obtain ⟨k, hd, x5, x6, x7, x8, x9, x10, rfl⟩ := hP
      obtain ⟨p, ⟨l, v⟩, b, rfl, hq, hp, hb⟩ := mbt_at mb1 hx
      simp only at hp hb
      have il := (List.getElem?_eq_some_iff.mp hq).1
      have hp' := k _ _ (ne_of hp hd1 (by intro z; cases z)) hp
      have hb' := k _ _ (ne_of hb hd1 (by intro z; cases z)) hb
      refine ⟨p, _, rfl, tl hp', rfl, _, _, rfl, _, _, rfl, rfl, ?_⟩
      refine ⟨.int v, rfl, .ref d, rfl, .ref b, rfl, d, _, rfl, put_dV hd (by rw [kV_kI]; exact hb') (by rw [List.length_take]; omega), ?_⟩
      refine ⟨fun c o nc e => by rw [upd_ne nc]; exact k c o nc e, ?_, _, _, _, _, _, _, rfl⟩
      rw [upd_same, put_take nd hq]
    obtain ⟨k, hd, x5, x6, x7, x8, x9, x10, rfl⟩ := hP
    rw [List.length_map, paired_len mb1, List.take_length] at hd
    -- pairs of the triples
    have mak0 : Mak n 10 L := ⟨td.ok, td.tr, td.le⟩
    have stk : ∀ {H' : Hp}, (∀ b o, b ≠ d → H1 b = some o → H' b = some o) → Sta K ns s st H' := fun k => sta1.mv ad k
    dsimp only
    refine q_seq ?_
    refine ⟨.ref t, rfl, t, rfl, ⟨_, sqT_but k hd1 ht1⟩, for_tup (K := K) (a := t) (xs := ps.map V.ref) (fun i σ H' => (∀ b o, b ≠ d → H1 b = some o → H' b = some o) ∧ (∃ m, H' d = some (.dT (dV m)) ∧ Mak n (10 + 3 * i) m) ∧ ∃ x5 x6 x7 x8 x9 x10 : Option V, σ = [some (.ref s), some (.ref st), some (.ref t), some (.int n), some (.ref d), x5, x6, x7, x8, x9, x10]) ⟨k, ⟨L, hd, mak0⟩, _, _, _, _, _, _, rfl⟩ (fun i σ H' _ hP => sqT_but hP.1 hd1 ht1) (fun i x σ H' hx hP => ?_) (fun σ H' hP => ?_)⟩
    · obtain ⟨k, ⟨m, hm, mk⟩, x5, x6, x7, x8, x9, x10, rfl⟩ := hP
      obtain ⟨p, ⟨l, v⟩, b, rfl, hq, hp, hb⟩ := mbt_at mb1 hx
      simp only at hp hb
      have il := (List.getElem?_eq_some_iff.mp hq).1
      have ml : l ∈ subsF n := td.ok.1 _ (List.mem_of_getElem? hq)
      have hp' := k _ _ (ne_of hp hd1 (by intro z; cases z)) hp
      have hb' := k _ _ (ne_of hb hd1 (by intro z; cases z)) hb
      refine ⟨p, _, rfl, tl hp', rfl, _, _, rfl, _, _, rfl, rfl, ?_⟩
      dsimp only
      refine q_if (t_and (decide (V.int (((lV l).length : Nat) : Int) = V.int 3)) (decide ((0 : Int) < v)) (fun Q hQ => ⟨.ref b, rfl, b, _, rfl, .inr (tl hb'), rfl, _, rfl, hQ⟩) (fun Q hQ => ⟨.int v, rfl, _, _, rfl, rfl, _, rfl, hQ⟩) _ ?_)
      rw [dInt, List.length_map]
      refine ite2 (fun c => ?_) (fun c => ?_)
      · rw [Bool.and_eq_true, decide_eq_true_iff, decide_eq_true_iff] at c
        obtain ⟨x, y, z, rfl, xy, yz, zn, m1, m2, m3⟩ := three n5 ml (by omega)
        refine q_seq ?_
        refine ⟨.ref b, rfl, b, _, rfl, tl hb', rfl, _, _, rfl, _, _, rfl, _, _, rfl, rfl, ?_⟩
        dsimp only
        refine ⟨_, rfl, _, rfl, by show 2 ≤ sizeLine; decide, fun t1 nt1 => ⟨_, rfl, _, rfl, by show 2 ≤ sizeLine; decide, fun t2 nt2 => ⟨_, rfl, _, rfl, by show 2 ≤ sizeLine; decide, fun t3 nt3 => ⟨by show 3 ≤ sizeLine; decide, fun p0 np0 => ?_⟩⟩⟩⟩
        have e1 := same_upd (o := .tup [V.int (x : Nat), .int (y : Nat)]) nt1
        have e2 := same_upd (o := .tup [V.int (x : Nat), .int (z : Nat)]) nt2
        have e3 := same_upd (o := .tup [V.int (y : Nat), .int (z : Nat)]) nt3
        have e4 := same_upd (o := .lst [V.ref t1, .ref t2, .ref t3]) np0
        have g1 := e4 _ _ (e3 _ _ (e2 _ _ (upd_same (H := H') (a := t1) (o := .tup [V.int (x : Nat), .int (y : Nat)]))))
        have g2 := e4 _ _ (e3 _ _ (upd_same (H := upd H' t1 (.tup [V.int (x : Nat), .int (y : Nat)])) (a := t2) (o := .tup [V.int (x : Nat), .int (z : Nat)])))
        have g3 := e4 _ _ (upd_same (H := upd (upd H' t1 (.tup [V.int (x : Nat), .int (y : Nat)])) t2 (.tup [V.int (x : Nat), .int (z : Nat)])) (a := t3) (o := .tup [V.int (y : Nat), .int (z : Nat)]))
        have g4 := upd_same (H := upd (upd (upd H' t1 (.tup [V.int (x : Nat), .int (y : Nat)])) t2 (.tup [V.int (x : Nat), .int (z : Nat)])) t3 (.tup [V.int (y : Nat), .int (z : Nat)])) (a := p0) (o := .lst [V.ref t1, .ref t2, .ref t3])
        have s4 := e1.trans (e2.trans (e3.trans e4))
        generalize upd (upd (upd (upd H' t1 (.tup [V.int (x : Nat), .int (y : Nat)])) t2 (.tup [V.int (x : Nat), .int (z : Nat)])) t3 (.tup [V.int (y : Nat), .int (z : Nat)])) p0 (.lst [V.ref t1, .ref t2, .ref t3]) = H4 at g1 g2 g3 g4 s4 ⊢
        clear e1 e2 e3 e4 nt1 nt2 nt3 np0
        have hm4 := s4 _ _ hm
        have npd : p0 ≠ d := ne_of g4 hm4 (by intro z; cases z)
        have n1d : t1 ≠ d := ne_of g1 hm4 (by intro z; cases z)
        have n2d : t2 ≠ d := ne_of g2 hm4 (by intro z; cases z)
        have n3d : t3 ≠ d := ne_of g3 hm4 (by intro z; cases z)
        refine ⟨p0, rfl, ⟨_, sl g4⟩, for_list (K := K) (a := p0) (xs := [V.ref t1, .ref t2, .ref t3]) (fun j σ H5 => (∀ b o, b ≠ d → H4 b = some o → H5 b = some o) ∧ (∃ m, H5 d = some (.dT (dV m)) ∧ Mak n (10 + 3 * i + j) m) ∧ ∃ x10 : Option V, σ = [some (.ref s), some (.ref st), some (.ref t), some (.int n), some (.ref d), some (.ref b), some (.int v), some (.int (x : Nat)), some (.int (y : Nat)), some (.int (z : Nat)), x10]) ⟨fun _ _ _ e => e, ⟨m, hm4, mk⟩, _, rfl⟩ (fun j σ H5 _ hR => sl (hR.1 _ _ npd g4)) (fun j u σ H5 hu hR => ?_) (fun σ H5 hR => ?_)⟩
        · obtain ⟨k5, ⟨m5, hm5, mk5⟩, y10, rfl⟩ := hR
          have pick : ∃ (a : Addr) (l : List Nat), u = .ref a ∧ H5 a = some (.tup (lV l)) ∧ l ∈ subsF n ∧ l.length = 2 := by
            match j, hu with
            | 0, hu => cases hu; exact ⟨t1, [x, y], rfl, k5 _ _ n1d g1, m1, rfl⟩
            | 1, hu => cases hu; exact ⟨t2, [x, z], rfl, k5 _ _ n2d g2, m2, rfl⟩
            | 2, hu => cases hu; exact ⟨t3, [y, z], rfl, k5 _ _ n3d g3, m3, rfl⟩
            | j + 3, hu => cases hu
          obtain ⟨a, l, rfl, ha, hl, l2⟩ := pick
          have j3 : j < 3 := (List.getElem?_eq_some_iff.mp hu).1
          have := mk5.le
          refine ⟨.ref d, rfl, .ref a, rfl, _, rfl, _, rfl, d, a, m5, l, _, rfl, hm5, by rw [kV_kI]; exact ha, by omega, ?_⟩
          exact ⟨fun b o nb e => by rw [upd_ne nb]; exact k5 b o nb e, ⟨_, upd_same, mk5.put hl l2⟩, _, rfl⟩
        · obtain ⟨k5, ⟨m5, hm5, mk5⟩, y10, rfl⟩ := hR
          exact ⟨fun b o nb e => k5 _ _ nb (s4 _ _ (k _ _ nb e)), ⟨m5, hm5, mk5⟩, _, _, _, _, _, _, rfl⟩
      · refine q_next ?_
        exact ⟨k, ⟨m, hm, ⟨mk.ok, mk.tr, by have := mk.le; omega⟩⟩, _, _, _, _, _, _, rfl⟩
    clear k hd x5 x6 x7 x8 x9 x10
    obtain ⟨k, ⟨m, hm, mk⟩, x5, x6, x7, x8, x9, x10, rfl⟩ := hP
    rw [List.length_map, paired_len mb1] at mk
    have mk : Mak n 40 m := ⟨mk.ok, mk.tr, by have := mk.le; omega⟩
    dsimp only
    refine q_seq ?_
    refine ⟨.ref d, rfl, d, _, rfl, .inl hm, fun p1 bs np1 ik => ?_⟩
    have ks := ks_of ik
    have n1d : p1 ≠ d := fun z => by rw [z, hm] at np1; cases np1
    have s2 := same_upd (o := .lst (bs.map V.ref)) np1
    have hm2 := s2 _ _ hm
    have hp1 : (upd H' p1 (.lst (bs.map V.ref))) p1 = some (.lst (bs.map V.ref)) := upd_same
    have ks2 := ks.same s2
    have k2 : ∀ b o, b ≠ d → H b = some o → (upd H' p1 (.lst (bs.map V.ref))) b = some o := fun b o nb e => s2 _ _ (k _ _ nb (k1 _ _ nb e))
    have sta2 : Sta K ns s st (upd H' p1 (.lst (bs.map V.ref))) := (stk k).same s2
    generalize upd H' p1 (.lst (bs.map V.ref)) = H2 at hm2 hp1 ks2 k2 sta2 s2 ⊢
    refine ⟨p1, rfl, ⟨_, sl hp1⟩, for_list (K := K) (a := p1) (xs := bs.map V.ref) (fun i σ H5 => (∀ b o, b ≠ d → H2 b = some o → H5 b = some o) ∧ (∃ m5, H5 d = some (.dT (dV m5)) ∧ Mak n 40 m5 ∧ m5.map (·.1) = m.map (·.1)) ∧ ∃ x5 x6 x7 x8 x9 x10 : Option V, σ = [some (.ref s), some (.ref st), some (.ref t), some (.int n), some (.ref d), x5, x6, x7, x8, x9, x10]) ⟨fun _ _ _ e => e, ⟨m, hm2, mk, rfl⟩, _, _, _, _, _, _, rfl⟩ (fun i σ H5 _ hP => sl (hP.1 _ _ n1d hp1)) (fun i x σ H5 hx hP => ?_) (fun σ H5 hP => ?_)⟩
    · obtain ⟨k5, ⟨m5, hm5, mk5, ke⟩, x5, x6, x7, x8, x9, x10, rfl⟩ := hP
      obtain ⟨qa, l, rfl, hl, hqa⟩ := kst_at ks2 hx
      have hqa5 := k5 _ _ (ne_of hqa hm2 (by intro z; cases z)) hqa
      have lk : l ∈ m5.map (·.1) := by rw [ke]; exact List.mem_of_getElem? hl
      have g := get_key hm5 hqa5 lk
      have := mk5.le
      refine q_if (t_and (decide (V.int (((lV l).length : Nat) : Int) = V.int 2)) (decide ((0 : Int) < getM m5 l)) (fun Q hQ => ⟨.ref qa, rfl, qa, _, rfl, .inr (tl hqa5), rfl, _, rfl, hQ⟩) (fun Q hQ => ⟨.ref d, rfl, .ref qa, rfl, d, _, rfl, g, _, _, rfl, rfl, _, rfl, hQ⟩) _ ?_)
      refine ite2 (fun c => ?_) (fun c => ?_)
      · refine ⟨.ref d, rfl, .ref qa, rfl, d, _, rfl, g, _, rfl, .ref d, rfl, .ref qa, rfl, d, _, rfl, put_dV hm5 (by rw [kV_kI]; exact hqa5) (by omega), ?_⟩
        obtain ⟨mk6, ke6⟩ := mk5.has (x := -getM m5 l) lk
        exact ⟨fun b o nb e => by rw [upd_ne nb]; exact k5 b o nb e, ⟨_, upd_same, mk6, ke6.trans ke⟩, _, _, _, _, _, _, rfl⟩
      · refine q_next ?_
        exact ⟨k5, ⟨m5, hm5, mk5, ke⟩, _, _, _, _, _, _, rfl⟩
    obtain ⟨k5, ⟨m5, hm5, mk5, ke⟩, x5, x6, x7, x8, x9, x10, rfl⟩ := hP
    have k05 : ∀ b o, b ≠ d → H b = some o → H5 b = some o := fun b o nb e => k5 _ _ nb (k2 _ _ nb e)
    have sta5 : Sta K ns s st H5 := sta2.mv ad k5
    clear k5 ke ks2 ks ik hp1 k2 sta2 s2 k mk hm hm2
    have := mk5.le
    dsimp only
    refine q_seqJ (fun σ H7 => (∀ b o, b ≠ st → b ≠ d → H b = some o → H7 b = some o) ∧ Sta K ns s st H7 ∧ (∃ m7, H7 d = some (.dT (dV m7)) ∧ Mak n 41 m7) ∧ ∃ x5 x6 x7 x8 x9 x10 : Option V, σ = [some (.ref s), some (.ref st), some (.ref t), some (.int n), some (.ref d), x5, x6, x7, x8, x9, x10]) (fun σ H7 hJ => ?_) (fun J => ?_)
    · obtain ⟨k7, sta7, ⟨m7, hm7, mk7⟩, y5, y6, y7, y8, y9, y10, rfl⟩ := hJ
      have := mk7.le
      refine q_ret ?_
      refine ⟨.ref d, rfl, d, m7, rfl, hm7, by omega, mk7.ok.2, fun H8 t2 ps2 L2 s8 ht2 mb2 pm up => ?_⟩
      obtain ⟨b, td2⟩ := mk7.sum pm up
      exact q H8 t2 ps2 L2 b (fun b o nb e => s8 _ _ (k7 _ _ nb (ne_of_none e ndd) e)) (sta7.same s8) ht2 mb2 ⟨td2.ok, td2.up, td2.nz, td2.bd, by have := td2.le; omega, td2.tr⟩
    · refine q_if ?_
      refine ⟨.ref s, rfl, .ref st, rfl, s, st, ns, 4, rfl, by decide, by decide, l63, sta5, fun r H6 r0 r1 kp6 sta6 => ⟨rfl, _, rfl, ?_⟩⟩
      have hm6 : H6 d = some (.dT (dV m5)) := (kp6 d ad.2).trans hm5
      have k06 : ∀ b o, b ≠ st → b ≠ d → H b = some o → H6 b = some o := fun b o nb nd2 e => (kp6 b nb).trans (k05 b o nd2 e)
      have stop := fun (x5 x6 x7 x8 x9 x10 : Option V) => J [some (.ref s), some (.ref st), some (.ref t), some (.int n), some (.ref d), x5, x6, x7, x8, x9, x10] H6 ⟨k06, sta6, ⟨m5, hm6, ⟨mk5.ok, mk5.tr, by omega⟩⟩, _, _, _, _, _, _, rfl⟩
      refine ite2 (fun c => ?_) (fun c => stop _ _ _ _ _ _)
      refine ⟨.ref d, rfl, d, _, rfl, hm6, _, _, rfl, rfl, _, rfl, ?_⟩
      refine ite2 (fun c2 => ?_) (fun c2 => stop _ _ _ _ _ _)
      have pos : 0 < m5.length := by
        have := of_decide_eq_true c2
        rw [dV, List.length_map] at this
        omega
      clear stop
      refine q_seq (q_set ?_)
      refine ⟨.ref s, rfl, .ref st, rfl, .ref d, rfl, d, _, rfl, .inl hm6, fun p2 bs2 np2 ik2 => ?_⟩
      have s7 := same_upd (o := .lst (bs2.map V.ref)) np2
      have hp2 : (upd H6 p2 (.lst (bs2.map V.ref))) p2 = some (.lst (bs2.map V.ref)) := upd_same
      have ks2 := (ks_of ik2).same s7
      generalize upd H6 p2 (.lst (bs2.map V.ref)) = H7 at s7 hp2 ks2 ⊢
      obtain ⟨o1, o2, o3, o4, o5⟩ := sort_parts (K := K) hp2 ks2
      obtain ⟨w1, w2, w3⟩ := paired_zip ks2
      have lz : (bs2.zip (m5.map (·.1))).length = m5.length := by
        have := congrArg List.length w2
        rw [List.length_map, List.length_map] at this
        exact this
      refine ⟨p2, _, rfl, o1, o2, o3, o4, o5, fun p3 np3 => ?_⟩
      have s8 := s7.trans (same_upd (o := .lst (((bs2.zip (m5.map (·.1))).mergeSort (PySem.W.dataLe false fun z => PyData.tuple ((lI z.2).map .int))).map fun z => V.ref z.1)) np3)
      have hp3 : (upd H7 p3 (.lst (((bs2.zip (m5.map (·.1))).mergeSort (PySem.W.dataLe false fun z => PyData.tuple ((lI z.2).map .int))).map fun z => V.ref z.1))) p3 = some (.lst (((bs2.zip (m5.map (·.1))).mergeSort (PySem.W.dataLe false fun z => PyData.tuple ((lI z.2).map .int))).map fun z => V.ref z.1)) := upd_same
      have w3' : ∀ z ∈ (bs2.zip (m5.map (·.1))).mergeSort (PySem.W.dataLe false fun z => PyData.tuple ((lI z.2).map .int)), (upd H7 p3 (.lst (((bs2.zip (m5.map (·.1))).mergeSort (PySem.W.dataLe false fun z => PyData.tuple ((lI z.2).map .int))).map fun z => V.ref z.1))) z.1 = some (.tup (lV z.2)) ∧ z.2 ∈ m5.map (·.1) := fun z mz => by
        have mz2 := (List.mergeSort_perm _ _).mem_iff.mp mz
        refine ⟨same_upd np3 _ _ (w3 z mz2), ?_⟩
        rw [← w2]
        exact List.mem_map.mpr ⟨z, mz2, rfl⟩
      have l3 : (((bs2.zip (m5.map (·.1))).mergeSort (PySem.W.dataLe false fun z => PyData.tuple ((lI z.2).map .int))).map fun z => V.ref z.1).length = m5.length := by rw [List.length_map, List.length_mergeSort, lz]
      generalize (bs2.zip (m5.map (·.1))).mergeSort (PySem.W.dataLe false fun z => PyData.tuple ((lI z.2).map .int)) = zs at s8 hp3 w3' l3 ⊢
      generalize upd H7 p3 (.lst (zs.map fun z => V.ref z.1)) = H8 at s8 hp3 w3' ⊢
      have sta8 := sta6.same s8
      have n3s : p3 ≠ st := fun z => by
        rw [z] at np3
        obtain ⟨_, _, _, _, _, e, _⟩ := sta6
        rw [s7 _ _ e] at np3
        cases np3
      refine ⟨s, st, p3, ns, _, rfl, l63, sta8, hp3, n3s, by rw [l3]; exact pos, by rw [l3]; omega, fun v H9 mv kp9 sta9 => ?_⟩
      obtain ⟨z, mz, rfl⟩ := List.mem_map.mp mv
      obtain ⟨hz, lz2⟩ := w3' z mz
      obtain ⟨qa, l⟩ := z
      simp only at hz lz2
      have nqs : qa ≠ st := fun z => by
        rw [z] at hz
        obtain ⟨_, _, _, _, _, e, _⟩ := sta8
        rw [e] at hz
        cases hz
      have hm9 : H9 d = some (.dT (dV m5)) := (kp9 d ad.2).trans (s8 _ _ hm6)
      have hz9 : H9 qa = some (.tup (lV l)) := (kp9 qa nqs).trans hz
      have k09 : ∀ b o, b ≠ st → b ≠ d → H b = some o → H9 b = some o := fun b o nb nd2 e => (kp9 b nb).trans (s8 _ _ (k06 b o nb nd2 e))
      dsimp only
      refine ⟨.ref d, rfl, .ref qa, rfl, .ref s, rfl, .ref st, rfl, s, st, ns, 3, rfl, by decide, by decide, l63, sta9, fun r2 HA r20 r21 kpA staA => ⟨_, _, rfl, rfl, d, qa, m5, l, _, rfl, (kpA d ad.2).trans hm9, by rw [kV_kI]; exact (kpA qa nqs).trans hz9, by omega, ?_⟩⟩
      refine J _ _ ⟨fun b o nb nd2 e => by rw [upd_ne nd2]; exact (kpA b nb).trans (k09 b o nb nd2 e), staA.upd ad, ⟨_, upd_same, ?_⟩, _, _, _, _, _, _, rfl⟩
      obtain ⟨mkA, _⟩ := mk5.has (x := getM m5 l + (1 + r2)) lz2
      exact ⟨mkA.ok, mkA.tr, by have := mkA.le; omega⟩
end
end CC

namespace CC
open PySem PySem.Spec PyProof.Rows L2 Ek
def mxI (n : Int) : Int := if n > 0 then n else 0
def abv (x y : Nat) (q : List Nat × Int) : Int := (if q.1 = [x, y] then q.2 else 0) + (if q.1.length = 3 ∧ x ∈ q.1 ∧ y ∈ q.1 then mxI q.2 else 0)
def aboveM (L : Mp) (x y : Nat) : Int := (L.map (abv x y)).sum
def pairsB (n : Nat) (L : Mp) : Bool := (List.range n).all fun x => (List.range n).all fun y => !decide (x < y) || decide (aboveM L x y ≤ 0)
theorem pairs_false {n x y : Nat} {L : Mp} (hxy : x < y) (hy : y < n) (h : ¬ aboveM L x y ≤ 0) : pairsB n L = false := by
  cases e : pairsB n L with
  | false => rfl
  | true =>
    have z := List.all_eq_true.mp (List.all_eq_true.mp e x (List.mem_range.mpr (by omega))) y (List.mem_range.mpr hy)
    rw [decide_eq_true hxy, decide_eq_false h] at z
    cases z
theorem pairs_true {n : Nat} {L : Mp} (h : ∀ x y, x < y → y < n → aboveM L x y ≤ 0) : pairsB n L = true := by
  refine List.all_eq_true.mpr fun x hx => List.all_eq_true.mpr fun y hy => ?_
  by_cases c : x < y
  · rw [decide_eq_true (h x y c (List.mem_range.mp hy)), Bool.or_true]
  · rw [decide_eq_false c]
    rfl
abbrev kZ (r : List Int) : List L2.Key := r.map Sum.inl
theorem kV_kZ {r : List Int} : (kZ r).map kV = r.map V.int := by
  rw [kZ, List.map_map]
  rfl
theorem kZ_inj {a b : List Int} (h : kZ a = kZ b) : a = b := by
  induction a generalizing b with
  | nil => cases b with
    | nil => rfl
    | cons _ _ => cases h
  | cons x a ih => cases b with
    | nil => cases h
    | cons y b =>
      rw [kZ, kZ, List.map_cons, List.map_cons] at h
      injection h with h1 h2
      rw [ih h2, Sum.inl.inj h1]
abbrev dR (g : List Int → Int) (rs : List (List Int)) : List (List L2.Key × V) := rs.map fun r => (kZ r, V.int (g r))
theorem valV_dR {g : List Int → Int} {r : List Int} : ∀ {rs : List (List Int)}, valV (dR g rs) (kZ r) = if r ∈ rs then some (V.int (g r)) else none
  | [] => rfl
  | a :: rs => by
    by_cases e : a = r
    · subst e
      rw [dR, List.map_cons, valV_pos rfl, if_pos List.mem_cons_self]
    · rw [dR, List.map_cons, valV_neg (fun z => e (kZ_inj z))]
      have := valV_dR (g := g) (r := r) (rs := rs)
      rw [dR] at this
      rw [this]
      by_cases m : r ∈ rs
      · rw [if_pos m, if_pos (List.mem_cons_of_mem _ m)]
      · rw [if_neg m, if_neg (fun z => (List.mem_cons.mp z).elim (fun z => e z.symm) m)]
theorem rows_nodup : ∀ n : Fin 6, (rowsOf n.1).Nodup := by decide +kernel
theorem put_dR {g : List Int → Int} {n i : Nat} {r : List Int} (n5 : n ≤ 5) (h : (rowsOf n)[i]? = some r) : putK (dR g ((rowsOf n).take i)) (kZ r) (V.int (g r)) = dR g ((rowsOf n).take (i + 1)) := by
  have nd := rows_nodup ⟨n, by omega⟩
  simp only at nd
  have nm : r ∉ (rowsOf n).take i := fun m => by
    have e : (rowsOf n).take (i + 1) = (rowsOf n).take i ++ [r] := by rw [List.take_add_one, h]; rfl
    have nd2 : ((rowsOf n).take (i + 1)).Nodup := (List.take_sublist _ _).nodup nd
    rw [e, List.nodup_append] at nd2
    exact nd2.2.2 r m r (List.mem_singleton.mpr rfl) rfl
  rw [putK_new _ (by rw [valV_dR, if_neg nm]), List.take_add_one, h, dR, dR, List.map_append]
  rfl
def setR (r : List Int) (x : Nat) : List Int := r.take x ++ [1] ++ r.drop (x + 1)
theorem setR_mem : ∀ n : Fin 6, ∀ r ∈ rowsOf n.1, ∀ x : Fin 6, x.1 < n.1 → setR r x.1 ∈ rowsOf n.1 := by decide +kernel
theorem setV {r : List Int} {x : Nat} : (r.map V.int).take x ++ [V.int 1] ++ (r.map V.int).drop (x + 1) = (setR r x).map V.int := by
  unfold setR
  simp
theorem setR_set {r : List Int} {x : Nat} (h : x < r.length) : setR r x = r.set x 1 := by
  rw [List.set_eq_take_append_cons_drop, if_pos h]
  unfold setR
  simp
theorem setR_get {r : List Int} {x z : Nat} (h : x < r.length) : (setR r x).getD z 0 = if z = x then 1 else r.getD z 0 := by
  rw [setR_set h, List.getD_eq_getElem?_getD, List.getElem?_set, List.getD_eq_getElem?_getD]
  by_cases e : x = z
  · rw [if_pos e, if_pos (by omega), if_pos e.symm]
    rfl
  · rw [if_neg e, if_neg fun q => e q.symm]
theorem setR_len {r : List Int} {x : Nat} (h : x < r.length) : (setR r x).length = r.length := by
  rw [setR_set h, List.length_set]
theorem on_iff {r : List Int} {l : List Nat} : onR r l = true ↔ ∀ z ∈ l, r.getD z 0 = 1 := by
  unfold onR
  rw [List.all_eq_true]
  exact ⟨fun h z m => of_decide_eq_true (h z m), fun h z m => decide_eq_true (h z m)⟩
def inW (r : List Int) (x y : Nat) (l : List Nat) : Prop := x ∈ l ∧ y ∈ l ∧ ∀ z ∈ l, z = x ∨ z = y ∨ r.getD z 0 = 1
instance {r : List Int} {x y : Nat} {l : List Nat} : Decidable (inW r x y l) := by unfold inW; exact inferInstance
def rt (r : List Int) (x y : Nat) (q : List Nat × Int) : Int := if inW r x y q.1 then q.2 else 0
theorem four {r : List Int} {x y : Nat} {q : List Nat × Int} (hx : x < r.length) (hy : y < r.length) (hxy : x ≠ y) (rx : r.getD x 0 = 0) (ry : r.getD y 0 = 0) : wt r q + wt (setR (setR r x) y) q = wt (setR r x) q + wt (setR r y) q + rt r x y q := by
  obtain ⟨l, v⟩ := q
  have gx : ∀ z, (setR r x).getD z 0 = if z = x then 1 else r.getD z 0 := fun z => setR_get hx
  have gy : ∀ z, (setR r y).getD z 0 = if z = y then 1 else r.getD z 0 := fun z => setR_get hy
  have gxy : ∀ z, (setR (setR r x) y).getD z 0 = if z = y then 1 else if z = x then 1 else r.getD z 0 := fun z => by
    rw [setR_get (by rw [setR_len hx]; exact hy), gx]
  unfold wt rt
  simp only
  by_cases mx : x ∈ l
  · by_cases my : y ∈ l
    · have n0 : ¬ onR r l = true := fun h => by have := on_iff.mp h x mx; omega
      have n1 : ¬ onR (setR r x) l = true := fun h => by
        have := on_iff.mp h y my
        rw [gx, if_neg (fun e => hxy e.symm)] at this
        omega
      have n2 : ¬ onR (setR r y) l = true := fun h => by
        have := on_iff.mp h x mx
        rw [gy, if_neg hxy] at this
        omega
      have e : onR (setR (setR r x) y) l = true ↔ inW r x y l := by
        rw [on_iff]
        constructor
        · refine fun h => ⟨mx, my, fun z mz => ?_⟩
          have := h z mz
          rw [gxy] at this
          by_cases e1 : z = y
          · exact .inr (.inl e1)
          · by_cases e2 : z = x
            · exact .inl e2
            · rw [if_neg e1, if_neg e2] at this
              exact .inr (.inr this)
        · rintro ⟨_, _, h⟩ z mz
          rw [gxy]
          rcases h z mz with e1 | e1 | e1
          · rw [if_pos e1]; simp
          · rw [if_pos e1]
          · rw [e1]; simp
      rw [if_neg n0, if_neg n1, if_neg n2]
      by_cases c : inW r x y l
      · rw [if_pos (e.mpr c), if_pos c]; omega
      · rw [if_neg (fun z => c (e.mp z)), if_neg c]; omega
    · have nw : ¬ inW r x y l := fun h => my h.2.1
      have e1 : onR (setR r y) l = onR r l := by
        rw [Bool.eq_iff_iff, on_iff, on_iff]
        refine ⟨fun h z mz => ?_, fun h z mz => ?_⟩
        · have := h z mz
          rw [gy, if_neg (fun e : z = y => my (e ▸ mz))] at this
          exact this
        · rw [gy, if_neg (fun e : z = y => my (e ▸ mz))]
          exact h z mz
      have e2 : onR (setR (setR r x) y) l = onR (setR r x) l := by
        rw [Bool.eq_iff_iff, on_iff, on_iff]
        refine ⟨fun h z mz => ?_, fun h z mz => ?_⟩
        · have := h z mz
          rw [gxy, if_neg (fun e : z = y => my (e ▸ mz))] at this
          rw [gx]
          exact this
        · have := h z mz
          rw [gx] at this
          rw [gxy, if_neg (fun e : z = y => my (e ▸ mz))]
          exact this
      rw [e1, e2, if_neg nw]
      omega
  · have nw : ¬ inW r x y l := fun h => mx h.1
    have e1 : onR (setR r x) l = onR r l := by
      rw [Bool.eq_iff_iff, on_iff, on_iff]
      refine ⟨fun h z mz => ?_, fun h z mz => ?_⟩
      · have := h z mz
        rw [gx, if_neg (fun e : z = x => mx (e ▸ mz))] at this
        exact this
      · rw [gx, if_neg (fun e : z = x => mx (e ▸ mz))]
        exact h z mz
    have e2 : onR (setR (setR r x) y) l = onR (setR r y) l := by
      rw [Bool.eq_iff_iff, on_iff, on_iff]
      refine ⟨fun h z mz => ?_, fun h z mz => ?_⟩
      · have := h z mz
        rw [gxy, if_neg (fun e : z = x => mx (e ▸ mz))] at this
        rw [gy]
        exact this
      · have := h z mz
        rw [gy] at this
        rw [gxy, if_neg (fun e : z = x => mx (e ▸ mz))]
        exact this
    rw [e1, e2, if_neg nw]
    omega
theorem four_sum {r : List Int} {x y : Nat} (hx : x < r.length) (hy : y < r.length) (hxy : x ≠ y) (rx : r.getD x 0 = 0) (ry : r.getD y 0 = 0) : ∀ {L : Mp}, (L.map (wt r)).sum + (L.map (wt (setR (setR r x) y))).sum = (L.map (wt (setR r x))).sum + (L.map (wt (setR r y))).sum + (L.map (rt r x y)).sum
  | [] => rfl
  | q :: L => by
    have a := four (q := q) hx hy hxy rx ry
    have b := four_sum hx hy hxy rx ry (L := L)
    simp only [List.map_cons, List.sum_cons]
    omega
theorem sum_le {f g : List Nat × Int → Int} : ∀ {L : Mp}, (∀ q ∈ L, f q ≤ g q) → (L.map f).sum ≤ (L.map g).sum
  | [], _ => Int.le_refl _
  | q :: L, h => by
    simp only [List.map_cons, List.sum_cons]
    have := h q List.mem_cons_self
    have := sum_le (L := L) fun q2 h2 => h q2 (List.mem_cons_of_mem _ h2)
    omega
theorem two_in : ∀ n : Fin 6, ∀ l ∈ subsF n.1, ∀ x : Fin 6, ∀ y : Fin 6, (x.1 < y.1 ∧ x.1 ∈ l ∧ y.1 ∈ l) → (l = [x.1, y.1] ∨ l.length = 3) := by decide +kernel
theorem third : ∀ n : Fin 6, ∀ l ∈ subsF n.1, l.length = 3 → ∀ x : Fin 6, ∀ y : Fin 6, ∃ z ∈ l, z ≠ x.1 ∧ z ≠ y.1 := by decide +kernel
def h3 (x y z : Nat) (l : List Nat) : Bool := decide (l.length = 3) && (decide (x ∈ l) && (decide (y ∈ l) && decide (z ∈ l)))
def chk3 : Bool := (List.range 6).all fun n => (subsF n).all fun l => (subsF n).all fun k => (List.range 6).all fun x => (List.range 6).all fun y => (List.range 6).all fun z => !(decide (x < y) && (decide (z ≠ x) && (decide (z ≠ y) && (h3 x y z l && h3 x y z k)))) || decide (l = k)
theorem chk3_ok : chk3 = true := by decide +kernel
theorem same3 {n x y z : Nat} {l k : List Nat} (n5 : n ≤ 5) (hl : l ∈ subsF n) (hk : k ∈ subsF n) (bx : x < 6) (by' : y < 6) (bz : z < 6) (hxy : x < y) (zx : z ≠ x) (zy : z ≠ y) (l3 : h3 x y z l = true) (k3 : h3 x y z k = true) : l = k := by
  have a := List.all_eq_true.mp (List.all_eq_true.mp (List.all_eq_true.mp (List.all_eq_true.mp (List.all_eq_true.mp (List.all_eq_true.mp chk3_ok n (List.mem_range.mpr (by omega))) l hl) k hk) x (List.mem_range.mpr bx)) y (List.mem_range.mpr by')) z (List.mem_range.mpr bz)
  rw [decide_eq_true hxy, decide_eq_true zx, decide_eq_true zy, l3, k3] at a
  simpa using a
theorem rows_in : ∀ {n : Nat} {r : List Int}, (∀ b ∈ r, b = 0 ∨ b = 1) → r.length = n → r ∈ rowsOf n
  | 0, [], _, _ => List.mem_cons_self
  | 0, _ :: _, _, h => by simp at h
  | n + 1, r, hb, hl => by
    have ne : r ≠ [] := fun e => by rw [e] at hl; simp at hl
    have e := List.dropLast_concat_getLast ne
    have lb : r.dropLast.length = n := by rw [List.length_dropLast]; omega
    have m := rows_in (n := n) (r := r.dropLast) (fun x mx => hb x (List.dropLast_subset _ mx)) lb
    have bl := hb _ (List.getLast_mem ne)
    show r ∈ (rowsOf n).flatMap fun r => [r ++ [0], r ++ [1]]
    refine List.mem_flatMap.mpr ⟨_, m, ?_⟩
    rcases bl with b | b <;> rw [b] at e
    · rw [← e, List.dropLast_concat]; exact List.mem_cons_self
    · rw [← e, List.dropLast_concat]; exact List.mem_cons_of_mem _ List.mem_cons_self
def helpB (L : Mp) (x y z : Nat) : Bool := decide (z ≠ x) && (decide (z ≠ y) && L.any fun q => h3 x y z q.1 && decide (0 < q.2))
def worstR (n : Nat) (L : Mp) (x y : Nat) : List Int := (List.range n).map fun z => if helpB L x y z = true then 1 else 0
theorem worst_get {n z x y : Nat} {L : Mp} (h : z < n) : (worstR n L x y).getD z 0 = if helpB L x y z = true then 1 else 0 := by
  unfold worstR
  rw [List.getD_eq_getElem?_getD, List.getElem?_map, List.getElem?_range h]
  rfl
theorem rt_le {n x y : Nat} {r : List Int} {q : List Nat × Int} (n5 : n ≤ 5) (hq : q.1 ∈ subsF n) (hxy : x < y) (hy : y < n) : rt r x y q ≤ abv x y q := by
  obtain ⟨l, v⟩ := q
  unfold rt abv mxI
  simp only
  by_cases c : inW r x y l
  · rw [if_pos c]
    rcases two_in ⟨n, by omega⟩ l hq ⟨x, by omega⟩ ⟨y, by omega⟩ ⟨hxy, c.1, c.2.1⟩ with e | e
    · simp only at e
      rw [if_pos e, if_neg (fun z => by rw [e] at z; exact absurd z.1 (by simp))]
      omega
    · rw [if_neg (fun z => by rw [z] at e; simp at e), if_pos ⟨e, c.1, c.2.1⟩]
      by_cases hv : v > 0
      · rw [if_pos hv]; omega
      · rw [if_neg hv]; omega
  · rw [if_neg c]
    by_cases e : l = [x, y]
    · exact absurd (by rw [e]; exact ⟨by simp, by simp, fun z hz => by simp at hz; rcases hz with h | h; exact .inl h; exact .inr (.inl h)⟩) c
    · rw [if_neg e]
      by_cases e2 : l.length = 3 ∧ x ∈ l ∧ y ∈ l
      · rw [if_pos e2]
        by_cases hv : v > 0
        · rw [if_pos hv]; omega
        · rw [if_neg hv]; omega
      · rw [if_neg e2]
        omega
theorem nodup_key {m : Mp} (nd : (m.map (·.1)).Nodup) {p q : List Nat × Int} (hp : p ∈ m) (hq : q ∈ m) (e : p.1 = q.1) : p = q := by
  obtain ⟨i, hi, ei⟩ := List.mem_iff_getElem.mp hp
  obtain ⟨j, hj, ej⟩ := List.mem_iff_getElem.mp hq
  have a := find_nodup nd (i := i) (p := p) (by rw [List.getElem?_eq_getElem hi, ei])
  have b := find_nodup nd (i := j) (p := q) (by rw [List.getElem?_eq_getElem hj, ej])
  rw [e] at a
  exact Option.some.inj (a.symm.trans b)
theorem rt_worst {n x y : Nat} {L : Mp} {q : List Nat × Int} (n5 : n ≤ 5) (ok : okM n L) (hq : q ∈ L) (hxy : x < y) (hy : y < n) : rt (worstR n L x y) x y q = abv x y q := by
  have hs := ok.1 q hq
  have bl := below ⟨n, by omega⟩ q.1 hs
  simp only at bl
  unfold rt abv mxI
  by_cases e : q.1 = [x, y]
  · have c : inW (worstR n L x y) x y q.1 := by rw [e]; exact ⟨by simp, by simp, fun z hz => by simp at hz; rcases hz with h | h; exact .inl h; exact .inr (.inl h)⟩
    rw [if_pos c, if_pos e, if_neg (fun z => by rw [e] at z; exact absurd z.1 (by simp))]
    omega
  · rw [if_neg e]
    by_cases e2 : q.1.length = 3 ∧ x ∈ q.1 ∧ y ∈ q.1
    · rw [if_pos e2]
      have key : inW (worstR n L x y) x y q.1 ↔ 0 < q.2 := by
        constructor
        · intro c
          obtain ⟨z, hz, zx, zy⟩ := third ⟨n, by omega⟩ q.1 hs e2.1 ⟨x, by omega⟩ ⟨y, by omega⟩
          simp only at zx zy
          have zn := bl z hz
          rcases c.2.2 z hz with a | a | a
          · exact absurd a zx
          · exact absurd a zy
          · rw [worst_get zn] at a
            by_cases hh : helpB L x y z = true
            · unfold helpB at hh
              rw [Bool.and_eq_true, Bool.and_eq_true, List.any_eq_true] at hh
              obtain ⟨_, _, p, hp, hp2⟩ := hh
              rw [Bool.and_eq_true, decide_eq_true_iff] at hp2
              have hq3 : h3 x y z q.1 = true := by
                unfold h3
                rw [decide_eq_true e2.1, decide_eq_true e2.2.1, decide_eq_true e2.2.2, decide_eq_true hz]
                rfl
              have el := same3 n5 hs (ok.1 p hp) (by omega) (by omega) (by omega) hxy zx zy hq3 hp2.1
              rw [nodup_key ok.2 hq hp el]
              exact hp2.2
            · rw [if_neg hh] at a
              cases a
        · intro hv
          refine ⟨e2.2.1, e2.2.2, fun z hz => ?_⟩
          by_cases zx : z = x
          · exact .inl zx
          · by_cases zy : z = y
            · exact .inr (.inl zy)
            · refine .inr (.inr ?_)
              rw [worst_get (bl z hz), if_pos]
              unfold helpB
              rw [decide_eq_true zx, decide_eq_true zy, Bool.true_and, Bool.true_and, List.any_eq_true]
              refine ⟨q, hq, ?_⟩
              unfold h3
              rw [decide_eq_true e2.1, decide_eq_true e2.2.1, decide_eq_true e2.2.2, decide_eq_true hz, decide_eq_true hv]
              rfl
      by_cases hv : 0 < q.2
      · rw [if_pos (key.mpr hv), if_pos hv]; omega
      · rw [if_neg (fun z => hv (key.mp z)), if_neg hv]; rfl
    · rw [if_neg e2]
      have n : ¬ inW (worstR n L x y) x y q.1 := fun c => by
        rcases two_in ⟨n, by omega⟩ q.1 hs ⟨x, by omega⟩ ⟨y, by omega⟩ ⟨hxy, c.1, c.2.1⟩ with a | a
        · exact e a
        · exact e2 ⟨a, c.1, c.2.1⟩
      rw [if_neg n]
      rfl
section
variable {K : PySem.W.Frag}
theorem cat_A {H : Hp} {a b : Addr} {xs ys : List V} {Q : VK} (ha : H a = some (.tup xs)) (hb : H b = some (.tup ys)) (hz : xs.length + ys.length ≤ 1000) (k : ∀ t H', Same H H' → H' t = some (.tup (xs ++ ys)) → Q (.ref t) H') : rCatA K (.ref a) (.ref b) H Q := by
  refine ⟨a, b, xs, ys, rfl, rfl, tl ha, tl hb, Nat.le_of_lt (small1000 hz), fun z => ?_, fun _ z => ?_, fun _ _ p np => k p _ (same_upd np) upd_same⟩
  · subst z
    exact k b H (Same.refl H) hb
  · subst z
    exact k a H (Same.refl H) (by rw [List.append_nil]; exact ha)
theorem sl_A {H : Hp} {a : Addr} {xs ys : List V} {lo hi : Option Int} {Q : VK} (ha : H a = some (.tup xs)) (e : cutV xs lo hi = ys) (k : ∀ t H', Same H H' → H' t = some (.tup ys) → Q (.ref t) H') : rSlA K (.ref a) lo hi H Q := by
  refine ⟨a, xs, rfl, tl ha, fun ⟨z1, z2⟩ => ?_, fun _ p np => k p _ (same_upd np) (by rw [upd_same, e])⟩
  refine k a H (Same.refl H) ?_
  rw [← e]
  unfold cutV
  rw [z1, z2, List.drop_zero, Nat.sub_zero, List.take_length]
  exact ha
theorem put_at {σ : L2.St} {H : Hp} {i j : Nat} {r : Addr} {xs : List V} {k : Nat} {z : Int} {y : V} {Q : VK} (hσ : σ[i]? = some (some (.ref r))) (hj : σ[j]? = some (some (.int z))) (ez : z = (k : Nat)) (hr : H r = some (.tup xs)) (lb : xs.length ≤ 100) (hk : k < xs.length) (q : ∀ t H', Same H H' → H' t = some (.tup (xs.take k ++ [y] ++ xs.drop (k + 1))) → Q (.ref t) H') :
    tOp (rCatA K) (tOp (rCatA K) (tSl (rSlA K) (tVar i) tNoPart (tPart (tVar j))) (tTup (tCons (tC y) tNil))) (tSl (rSlA K) (tVar i) (tPart (tOp (rI0 fun i j => .int (i + j)) (tVar j) (tC (.int 1)))) tNoPart) σ H Q := by
  subst ez
  refine ⟨.ref r, hσ, noPart ⟨.int (k : Nat), hj, (k : Nat), rfl, sl_A (ys := xs.take k) hr (cut_hi xs k) fun t1 H1 s1 h1 => ?_⟩⟩
  refine ⟨by show 1 ≤ sizeLine; decide, fun t2 nt2 => ?_⟩
  have s2 := same_upd (o := .tup [y]) nt2
  refine cat_A (s2 _ _ h1) upd_same (by rw [List.length_take]; show _ + 1 ≤ 1000; omega) fun t3 H3 s3 h3 => ?_
  have s13 := s1.trans (s2.trans s3)
  refine ⟨.ref r, hσ, ⟨_, hj, _, _, rfl, rfl, _, rfl, noPart (sl_A (ys := xs.drop (k + 1)) (s13 _ _ hr) (cut_lo1 xs k) fun t4 H4 s4 h4 => ?_)⟩⟩
  refine cat_A (s4 _ _ h3) h4 (by rw [List.length_append, List.length_take, List.length_drop]; show _ + 1 + _ ≤ 1000; omega) fun t5 H5 s5 h5 => ?_
  exact q t5 H5 (s13.trans (s4.trans s5)) h5
theorem gR {g : List Int → Int} {n : Nat} {H : Hp} {D a : Addr} {r : List Int} (hD : H D = some (.dT (dR g (rowsOf n)))) (ha : H a = some (.tup (r.map V.int))) (m : r ∈ rowsOf n) : DGet H D (.ref a) (some (V.int (g r))) := by
  have z := DGet.t (k := kZ r) hD (by rw [kV_kZ]; exact ha)
  rw [valV_dR, if_pos m] at z
  exact z
end
theorem rt_comm {r : List Int} {x y : Nat} {L : Mp} : L.map (rt r y x) = L.map (rt r x y) := by
  refine List.map_congr_left fun q _ => ?_
  unfold rt
  have e : inW r y x q.1 ↔ inW r x y q.1 := ⟨fun ⟨a, b, c⟩ => ⟨b, a, fun z hz => (c z hz).elim (fun h => .inr (.inl h)) fun h => h.elim .inl fun h => .inr (.inr h)⟩, fun ⟨a, b, c⟩ => ⟨b, a, fun z hz => (c z hz).elim (fun h => .inr (.inl h)) fun h => h.elim .inl fun h => .inr (.inr h)⟩⟩
  by_cases c : inW r x y q.1
  · rw [if_pos c, if_pos (e.mpr c)]
  · rw [if_neg c, if_neg fun z => c (e.mp z)]
/-- what is asked of a row and two places -/
def locR (L : Mp) (r : List Int) (x y : Nat) : Prop := worthM L r + worthM L (setR (setR r y) x) ≤ worthM L (setR r y) + worthM L (setR r x)
theorem loc_iff {n : Nat} {L : Mp} {r : List Int} {x y : Nat} (hr : r.length = n) (hxy : x < y) (hy : y < n) (rx : r.getD x 0 = 0) (ry : r.getD y 0 = 0) : locR L r x y ↔ (L.map (rt r x y)).sum ≤ 0 := by
  have z := four_sum (r := r) (x := y) (y := x) (by omega) (by omega) (by omega) ry rx (L := L)
  rw [rt_comm] at z
  unfold locR worthM
  omega
theorem bent_false {n : Nat} {L : Mp} {r : List Int} {x y : Nat} (n5 : n ≤ 5) (ok : okM n L) (hr : r ∈ rowsOf n) (hxy : x < y) (hy : y < n) (rx : r.getD x 0 = 0) (ry : r.getD y 0 = 0) (h : ¬ locR L r x y) : pairsB n L = false := by
  rw [loc_iff (row_len n r hr) hxy hy rx ry] at h
  refine pairs_false hxy hy ?_
  have z3 : (L.map (rt r x y)).sum ≤ (L.map (abv x y)).sum := sum_le fun q hq => rt_le n5 (ok.1 q hq) hxy hy
  unfold aboveM
  omega
theorem bent_true {n : Nat} {L : Mp} (n5 : n ≤ 5) (ok : okM n L) (h : ∀ r ∈ rowsOf n, ∀ x y, x < y → y < n → r.getD x 0 = 0 → r.getD y 0 = 0 → locR L r x y) : pairsB n L = true := by
  refine pairs_true fun x y hxy hy => ?_
  have hm : worstR n L x y ∈ rowsOf n := by
    refine rows_in (fun b hb => ?_) (by unfold worstR; rw [List.length_map, List.length_range])
    obtain ⟨z, _, rfl⟩ := List.mem_map.mp hb
    by_cases c : helpB L x y z = true
    · rw [if_pos c]; exact .inr rfl
    · rw [if_neg c]; exact .inl rfl
  have rx : (worstR n L x y).getD x 0 = 0 := by
    rw [worst_get (by omega), if_neg]
    unfold helpB
    rw [decide_eq_false (by omega : ¬ x ≠ x)]
    simp
  have ry : (worstR n L x y).getD y 0 = 0 := by
    rw [worst_get hy, if_neg]
    unfold helpB
    rw [decide_eq_false (by omega : ¬ y ≠ y)]
    simp
  have z := (loc_iff (row_len n _ hm) hxy hy rx ry).mp (h _ hm x y hxy hy rx ry)
  have ez : (L.map (rt (worstR n L x y) x y)) = L.map (abv x y) := List.map_congr_left fun q hq => rt_worst n5 ok hq hxy hy
  rw [ez] at z
  exact z
theorem setR_in {n : Nat} {r : List Int} {x : Nat} (n5 : n ≤ 5) (hr : r ∈ rowsOf n) (hx : x < n) : setR r x ∈ rowsOf n := setR_mem ⟨n, by omega⟩ r hr ⟨x, by omega⟩ hx
section
variable {P : Program} {w : World} {K : PySem.W.Frag} {mg : Str → Option Value} {base : Heap}
def spBbR (K : PySem.W.Frag) : Sp := fun vs H Q _ => ∃ (t : Addr) (ps : List Addr) (L : Mp) (n : Nat), vs = [.ref t, .int n] ∧ n ≤ 5 ∧ SqT K H t (ps.map V.ref) ∧ MbT H ps L ∧ okM n L ∧ ∀ H', Same H H' → Q (.bl (pairsB n L)) H'
theorem ok_BbR {f : Addr} {fd : FuncData} (F : Fun K "_law_bent_by_rows" "_law_bent_by_rows" sBbR f fd) (B : Bt mg) {fRws2 : Addr} {fdRws2 : FuncData} (GRws2 : FnOk P w K mg base CX0 1 fRws2 fdRws2 ["count"] spRws2) (kRws2 : PySem.W.keepIn K (.ref fRws2) = true) (bRws2 : Binds K fdRws2 ["count"] []) (gRws2 : mg "_law_rows" = some (.ref fRws2)) {fLWo : Addr} {fdLWo : FuncData} (GLWo : FnOk P w K mg base CX0 1 fLWo fdLWo ["told", "row"] (spLWo K)) (kLWo : PySem.W.keepIn K (.ref fLWo) = true) (bLWo : Binds K fdLWo ["told", "row"] []) (gLWo : mg "_law_worth" = some (.ref fLWo)) : FnOk P w K mg base CX0 2 f fd ["told", "count"] (spBbR K) := by
  refine F.ok scBbR (fun vs H Q E h => ?_) (fun cdv A outer s H vs Q E hr h => ?_)
  · obtain ⟨t, ps, L, n, rfl, _⟩ := h
    rfl
  · obtain ⟨t, ps, L, n, rfl, n5, ht, mb, ok, q⟩ := h
    have lx : ∀ q ∈ L, ∀ x ∈ q.1, x < n := fun q hq => below ⟨n, by omega⟩ q.1 (ok.1 q hq)
    refine ⟨_, (pss_cons (ps_set (i := 2) scBbR.nd rfl (.inl rfl) (pe_call GRws2 (hr.mono (by decide)) (by rfl) gRws2 kRws2 bRws2 .nil pass0 (pa_cons (pv 1) pa_nil)))
      (pss_cons (ps_set (i := 3) scBbR.nd rfl (.inl rfl) pe_dnewT)
      (pss_cons (ps_for PassesOwn.never rfl (pi_list (pv 2)) (pg_name (i := 4) scBbR.nd rfl (.inl rfl))
      (pss_one (ps_dput (ru1 hr) (pv 3) (pv 4) (pe_call GLWo (hr.mono (by decide)) (by rfl) gLWo kLWo bLWo .nil pass0 (pa_cons (pv 0) (pa_cons (pv 4) pa_nil))) rfl)))
      (pss_cons (ps_for PassesOwn.never rfl (pi_list (pv 2)) (pg_name (i := 5) scBbR.nd rfl (.inl rfl))
      (pss_one (ps_for PassesOwn.never rfl (pi_range1 rfl B.range (pa_cons (pv 1) pa_nil)) (pg_name (i := 6) scBbR.nd rfl (.inl rfl))
      (pss_one (ps_for PassesOwn.never rfl (pi_range1 rfl B.range (pa_cons (pv 6) pa_nil)) (pg_name (i := 7) scBbR.nd rfl (.inl rfl))
      (pss_one (ps_if (pt_cmpR op_eq (pe_op op_add (pe_ix ix_tup (pv 5) (pv 6) (fun _ _ => rfl)) (pe_ix ix_tup (pv 5) (pv 7) (fun _ _ => rfl))) pe_int (nomark _))
      (pss_cons (ps_set (i := 8) scBbR.nd rfl (.inl rfl) (pe_op op_catA (pe_op op_catA (pe_slice sl_tupA (pv 5) po_none (po_some (pv 6))) (pe_tup (pa_cons pe_int pa_nil))) (pe_slice sl_tupA (pv 5) (po_some (pe_op op_add (pv 6) pe_int)) po_none)))
      (pss_cons (ps_set (i := 9) scBbR.nd rfl (.inl rfl) (pe_op op_catA (pe_op op_catA (pe_slice sl_tupA (pv 5) po_none (po_some (pv 7))) (pe_tup (pa_cons pe_int pa_nil))) (pe_slice sl_tupA (pv 5) (po_some (pe_op op_add (pv 7) pe_int)) po_none)))
      (pss_cons (ps_set (i := 10) scBbR.nd rfl (.inl rfl) (pe_op op_catA (pe_op op_catA (pe_slice sl_tupA (pv 8) po_none (po_some (pv 7))) (pe_tup (pa_cons pe_int pa_nil))) (pe_slice sl_tupA (pv 8) (po_some (pe_op op_add (pv 7) pe_int)) po_none)))
      (pss_one (ps_if (pt_cmpR op_gt (pe_op op_add (pe_dget (ru1 hr) (pv 3) (pv 5) (fun _ _ => rfl)) (pe_dget (ru1 hr) (pv 3) (pv 10) (fun _ _ => rfl))) (pe_op op_add (pe_dget (ru1 hr) (pv 3) (pv 8) (fun _ _ => rfl)) (pe_dget (ru1 hr) (pv 3) (pv 9) (fun _ _ => rfl))) (nomark _))
      (pss_one (ps_ret pe_bl)) pss_nil))))) pss_nil)))))))
      (pss_one (ps_ret pe_bl)))))), ?_⟩
    refine q_seq (q_set ?_)
    refine ⟨.int n, rfl, n, rfl, n5, fun H1 R rs s1 nR hR rw1 => ?_⟩
    dsimp only
    refine q_seq (q_set (fun D nD => ?_))
    have l32 := rows32 n5
    have lrs := paired_len rw1
    dsimp only
    refine q_seq ?_
    refine ⟨.ref R, rfl, R, rfl, ⟨_, sl (same_upd nD _ _ hR)⟩, for_list (K := K) (a := R) (xs := rs.map V.ref) (fun i σ H' => Same H1 H' ∧ H' D = some (.dT (dR (worthM L) ((rowsOf n).take i))) ∧ ∃ x4 : Option V, σ = [some (.ref t), some (.int n), some (.ref R), some (.ref D), x4, none, none, none, none, none, none]) ⟨same_upd nD, upd_same, none, rfl⟩ (fun i σ H' _ hP => sl (hP.1 _ _ hR)) (fun i x σ H' hx hP => ?_) (fun σ H' hP => ?_)⟩
    · obtain ⟨s', hD, x4, rfl⟩ := hP
      obtain ⟨r, bs, rfl, hbs, hr⟩ := rws_at rw1 hx
      have sH : Same H H' := s1.trans s'
      have hr' := s' _ _ hr
      have mbs := List.mem_of_getElem? hbs
      have lb : bs.length = n := row_len n bs mbs
      have il : i < 32 := Nat.lt_of_lt_of_le (List.getElem?_eq_some_iff.mp hbs).1 l32
      refine ⟨.ref t, rfl, .ref r, rfl, t, r, ps, L, bs, rfl, sqT_same sH ht, mb.same sH, tl hr', rows_bit mbs, fun q hq x hx => by rw [lb]; exact lx q hq x hx, ?_⟩
      have dp := DPut.t (v := V.int (worthM L bs)) (k := kZ bs) hD (by rw [kV_kZ]; exact hr') (by rw [dR, List.length_map, List.length_take]; exact small1000 (by omega))
      rw [put_dR n5 hbs] at dp
      refine ⟨.ref D, rfl, .ref r, rfl, D, _, rfl, dp, fun c o e => ?_, upd_same, _, rfl⟩
      rw [upd_ne (ne_of_none e nD)]
      exact s' _ _ e
    obtain ⟨s', hD, x4, rfl⟩ := hP
    rw [List.length_map, lrs, List.take_length] at hD
    have sH : Same H H' := s1.trans s'
    have hR' := s' _ _ hR
    have rw' := rw1.same s'
    clear nD hR rw1 nR
    dsimp only
    refine q_seq ?_
    refine ⟨.ref R, rfl, R, rfl, ⟨_, sl hR'⟩, for_list (K := K) (a := R) (xs := rs.map V.ref) (fun i σ H2 => Same H' H2 ∧ (∀ r ∈ (rowsOf n).take i, ∀ x y, x < y → y < n → r.getD x 0 = 0 → r.getD y 0 = 0 → locR L r x y) ∧ ∃ x5 x6 x7 x8 x9 x10 : Option V, σ = [some (.ref t), some (.int n), some (.ref R), some (.ref D), x4, x5, x6, x7, x8, x9, x10]) ⟨Same.refl _, fun r hr => by simp at hr, none, none, none, none, none, none, rfl⟩ (fun i σ H2 _ hP => sl (hP.1 _ _ hR')) (fun i x σ H2 hx hP => ?_) (fun σ H2 hP => ?_)⟩
    · obtain ⟨s2, al, x5, x6, x7, x8, x9, x10, rfl⟩ := hP
      obtain ⟨r, bs, rfl, hbs, hr⟩ := rws_at rw' hx
      have mbs := List.mem_of_getElem? hbs
      have lb : bs.length = n := row_len n bs mbs
      refine ⟨.int n, rfl, n, rfl, by omega, by omega, for_range (lo := 0) (n := n) (fun j σ H3 => Same H' H3 ∧ (∀ x y, x < y → y < j → bs.getD x 0 = 0 → bs.getD y 0 = 0 → locR L bs x y) ∧ ∃ x6 x7 x8 x9 x10 : Option V, σ = [some (.ref t), some (.int n), some (.ref R), some (.ref D), x4, some (.ref r), x6, x7, x8, x9, x10]) ⟨s2, fun x y _ h => by omega, _, _, _, _, _, rfl⟩ (fun j σ H3 hj hR => ?_) (fun σ H3 hR => ?_)⟩
      · obtain ⟨s3, al3, x6, x7, x8, x9, x10, rfl⟩ := hR
        refine ⟨_, rfl, _, rfl, by omega, by omega, for_range (lo := 0) (n := (0 + (j : Int)).toNat) (fun k σ H4 => Same H' H4 ∧ (∀ x, x < k → bs.getD x 0 = 0 → bs.getD j 0 = 0 → locR L bs x j) ∧ ∃ x7 x8 x9 x10 : Option V, σ = [some (.ref t), some (.int n), some (.ref R), some (.ref D), x4, some (.ref r), some (.int (j : Nat)), x7, x8, x9, x10]) ⟨s3, fun x h => by omega, _, _, _, _, by rw [show (0 : Int) + (j : Int) = ((j : Nat) : Int) by omega]; rfl⟩ (fun k σ H4 hk hS => ?_) (fun σ H4 hS => ?_)⟩
        · obtain ⟨s4, al4, x7, x8, x9, x10, rfl⟩ := hS
          have kj : k < j := by omega
          have ek : (0 : Int) + (k : Int) = ((k : Nat) : Int) := by omega
          rw [ek]
          have hr4 := s4 _ _ hr
          have hD4 := s4 _ _ hD
          have g1 : (bs.map V.int)[j]? = some (.int bs[j]) := by rw [List.getElem?_map, List.getElem?_eq_getElem (by omega)]; rfl
          have g2 : (bs.map V.int)[k]? = some (.int bs[k]) := by rw [List.getElem?_map, List.getElem?_eq_getElem (by omega)]; rfl
          have e1 : bs.getD j 0 = bs[j] := by rw [List.getD_eq_getElem?_getD, List.getElem?_eq_getElem (by omega)]; rfl
          have e2 : bs.getD k 0 = bs[k] := by rw [List.getD_eq_getElem?_getD, List.getElem?_eq_getElem (by omega)]; rfl
          have b1 := rows_bit mbs bs[j] (List.getElem_mem _)
          have b2 := rows_bit mbs bs[k] (List.getElem_mem _)
          dsimp only
          refine q_if ?_
          refine ⟨.ref r, rfl, _, rfl, r, _, _, .int bs[j], rfl, rfl, tl hr4, at_z (j := j) rfl g1, .ref r, rfl, _, rfl, r, _, _, .int bs[k], rfl, rfl, tl hr4, at_z (j := k) rfl g2, _, _, rfl, rfl, rfl, _, rfl, ?_⟩
          rw [dInt]
          refine ite2 (fun c => ?_) (fun c => ?_)
          · have c' := of_decide_eq_true c
            have z1 : bs.getD j 0 = 0 := by rw [e1]; omega
            have z2 : bs.getD k 0 = 0 := by rw [e2]; omega
            refine q_seq (q_set ?_)
            refine put_at (k := j) (show _ = some (some (V.ref r)) from rfl) (show _ = some (some (V.int (j : Nat))) from rfl) rfl hr4 (by rw [List.length_map]; omega) (by rw [List.length_map]; omega) fun up H5 s5 hup => ?_
            rw [setV] at hup
            dsimp only
            refine q_seq (q_set ?_)
            refine put_at (k := k) (show _ = some (some (V.ref r)) from rfl) (show _ = some (some (V.int (k : Nat))) from rfl) rfl (s5 _ _ hr4) (by rw [List.length_map]; omega) (by rw [List.length_map]; omega) fun lf H6 s6 hlf => ?_
            rw [setV] at hlf
            dsimp only
            refine q_seq (q_set ?_)
            refine put_at (k := k) (show _ = some (some (V.ref up)) from rfl) (show _ = some (some (V.int (k : Nat))) from rfl) rfl (s6 _ _ hup) (by rw [List.length_map, setR_len (by omega)]; omega) (by rw [List.length_map, setR_len (by omega)]; omega) fun bo H7 s7 hbo => ?_
            rw [setV] at hbo
            have s57 := s5.trans (s6.trans s7)
            have hD7 := s57 _ _ hD4
            have mu := setR_in n5 mbs hj
            have ml := setR_in n5 mbs (show k < n by omega)
            have mo := setR_in n5 mu (show k < n by omega)
            dsimp only
            refine q_if ?_
            refine ⟨.ref D, rfl, .ref r, rfl, D, _, rfl, gR hD7 (s57 _ _ hr4) mbs, .ref D, rfl, .ref bo, rfl, D, _, rfl, gR hD7 hbo mo, _, _, rfl, rfl, .ref D, rfl, .ref up, rfl, D, _, rfl, gR hD7 (s7 _ _ (s6 _ _ hup)) mu, .ref D, rfl, .ref lf, rfl, D, _, rfl, gR hD7 (s7 _ _ hlf) ml, _, _, rfl, rfl, _, _, rfl, rfl, _, rfl, ?_⟩
            refine ite2 (fun c2 => ?_) (fun c2 => ?_)
            · have c3 := of_decide_eq_true c2
              refine q_ret ?_
              have z := q H7 (sH.trans (s4.trans s57))
              rw [bent_false n5 ok mbs kj hj z2 z1 (by unfold locR; omega)] at z
              exact z
            · refine q_next ?_
              have c3 : ¬ _ := fun z => c2 (decide_eq_true z)
              refine ⟨s4.trans s57, fun x hx r1 r2 => ?_, _, _, _, _, rfl⟩
              by_cases e : x = k
              · rw [e]
                unfold locR
                omega
              · exact al4 x (by omega) r1 r2
          · have c' : ¬ bs[j] + bs[k] = 0 := fun z => c (decide_eq_true z)
            refine q_next ?_
            refine ⟨s4, fun x hx r1 r2 => ?_, _, _, _, _, rfl⟩
            by_cases e : x = k
            · rw [e, e2] at r1
              rw [e1] at r2
              omega
            · exact al4 x (by omega) r1 r2
        · obtain ⟨s4, al4, x7, x8, x9, x10, rfl⟩ := hS
          refine ⟨s4, fun x y hxy hy r1 r2 => ?_, _, _, _, _, _, rfl⟩
          by_cases e : y = j
          · rw [e] at r2 hxy ⊢
            exact al4 x (by omega) r1 r2
          · exact al3 x y hxy (by omega) r1 r2
      · obtain ⟨s3, al3, x6, x7, x8, x9, x10, rfl⟩ := hR
        refine ⟨s3, fun r2 hr2 x y hxy hy r1 r3 => ?_, _, _, _, _, _, _, rfl⟩
        rw [List.take_add_one, hbs] at hr2
        rcases List.mem_append.mp hr2 with z | z
        · exact al r2 z x y hxy hy r1 r3
        · have e : r2 = bs := by simpa using z
          rw [e] at r1 r3 ⊢
          exact al3 x y hxy hy r1 r3
    · obtain ⟨s2, al, x5, x6, x7, x8, x9, x10, rfl⟩ := hP
      rw [List.length_map, lrs, List.take_length] at al
      dsimp only
      refine q_ret ?_
      have z := q H2 (sH.trans s2)
      rw [bent_true n5 ok al] at z
      exact z
end
end CC

namespace CC
open PySem PySem.Spec PyProof.Rows L2 Ek
/-! ### what is added for each member -/
def trA (l : List Nat) (v : Int) (h : Nat) : Mp := if v < 0 then (l.map fun x => ([x, h], v)) ++ [([h], -2 * v)] else (prL l).map (fun p => (p, v)) ++ ((l.map fun x => ([x, h], -v)) ++ [([h], v)])
def addsF : Nat → Mp → Mp
  | _, [] => []
  | c, q :: L => if q.1.length = 3 then trA q.1 q.2 c ++ addsF (c + 1) L else q :: addsF c L
theorem accM_app {m A B : Mp} : accM m (A ++ B) = accM (accM m A) B := by
  unfold accM
  rw [List.foldl_append]
theorem accM_one {m : Mp} {l : List Nat} {v : Int} : accM m [(l, v)] = putM m l (getM m l + v) := rfl
theorem tri_cons {q : List Nat × Int} {L : Mp} : triM (q :: L) = (if q.1.length = 3 then 1 else 0) + triM L := by
  unfold triM
  by_cases c : q.1.length = 3
  · rw [List.filter_cons_of_pos (by simpa using c), if_pos c, List.length_cons]; omega
  · rw [List.filter_cons_of_neg (by simpa using c), if_neg c]; omega
theorem adds_cons {c : Nat} {q : List Nat × Int} {L : Mp} : addsF c (q :: L) = if q.1.length = 3 then trA q.1 q.2 c ++ addsF (c + 1) L else q :: addsF c L := rfl
theorem adds_app : ∀ {A B : Mp} {c : Nat}, addsF c (A ++ B) = addsF c A ++ addsF (c + triM A) B
  | [], B, c => by show addsF c B = [] ++ addsF (c + 0) B; rfl
  | q :: A, B, c => by
    rw [List.cons_append, tri_cons, adds_cons, adds_cons]
    by_cases e : q.1.length = 3
    · rw [if_pos e, if_pos e, if_pos e, adds_app, List.append_assoc, Nat.add_assoc]
    · rw [if_neg e, if_neg e, if_neg e, adds_app, Nat.zero_add]
      rfl
theorem adds_take {L : Mp} {i c : Nat} {q : List Nat × Int} (h : L[i]? = some q) : addsF c (L.take (i + 1)) = addsF c (L.take i) ++ (if q.1.length = 3 then trA q.1 q.2 (c + triM (L.take i)) else [q]) := by
  rw [List.take_add_one, h, adds_app]
  congr 1
  show addsF _ [q] = _
  rw [adds_cons]
  by_cases e : q.1.length = 3
  · rw [if_pos e, if_pos e]
    show _ ++ [] = _
    rw [List.append_nil]
  · rw [if_neg e, if_neg e]
    rfl
theorem tri_take {L : Mp} {i : Nat} {q : List Nat × Int} (h : L[i]? = some q) : triM (L.take (i + 1)) = triM (L.take i) + (if q.1.length = 3 then 1 else 0) := by
  have e : L.take (i + 1) = L.take i ++ [q] := by rw [List.take_add_one, h]; rfl
  unfold triM
  rw [e, List.filter_append, List.length_append]
  congr 1
  by_cases c : q.1.length = 3
  · rw [List.filter_cons_of_pos (by simpa using c), if_pos c]; rfl
  · rw [List.filter_cons_of_neg (by simpa using c), if_neg c]; rfl
theorem tri_le {L : Mp} {i : Nat} : triM (L.take i) ≤ i := by
  unfold triM
  have := List.length_filter_le (fun p : List Nat × Int => decide (p.1.length = 3)) (L.take i)
  rw [List.length_take] at this
  omega
theorem trA_len {l : List Nat} {v : Int} {h : Nat} (l3 : l.length ≤ 3) : (trA l v h).length ≤ 13 := by
  have := prL_len l3
  unfold trA
  by_cases c : v < 0
  · rw [if_pos c, List.length_append, List.length_map]; show l.length + 1 ≤ 13; omega
  · rw [if_neg c, List.length_append, List.length_append, List.length_map, List.length_map]; show _ + (l.length + 1) ≤ 13; omega
theorem adds_len {L : Mp} (l3 : ∀ q ∈ L, q.1.length ≤ 3) : ∀ {c : Nat}, (addsF c L).length ≤ L.length + 12 * triM L := by
  induction L with
  | nil => intro c; exact Nat.zero_le _
  | cons q L ih =>
    intro c
    have a := l3 q List.mem_cons_self
    have b := ih (fun p hp => l3 p (List.mem_cons_of_mem _ hp)) (c := c + 1)
    have b2 := ih (fun p hp => l3 p (List.mem_cons_of_mem _ hp)) (c := c)
    rw [adds_cons, tri_cons]
    by_cases e : q.1.length = 3
    · rw [if_pos e, if_pos e, List.length_append, List.length_cons]
      have := trA_len (v := q.2) (h := c) a
      omega
    · rw [if_neg e, if_neg e, List.length_cons, List.length_cons]
      omega
theorem map_take1 {α β : Type} {f : α → β} {l : List α} {j : Nat} {x : α} (h : l[j]? = some x) : (l.take (j + 1)).map f = (l.take j).map f ++ [f x] := by
  rw [List.take_add_one, h, List.map_append]
  rfl
/-! ### a told sum is a sum -/
theorem lexLt_of : ∀ {a b : List Int}, a < b → HT.lexLt a b = true
  | [], [], h => absurd h (List.lt_irrefl _)
  | [], _ :: _, _ => rfl
  | _ :: _, [], h => by cases h
  | x :: a, y :: b, h => by
    rw [HT.lexLt_cons]
    rcases List.cons_lt_cons_iff.mp h with c | ⟨c, d⟩
    · rw [if_neg (by omega)]
      exact decide_eq_true c
    · rw [if_pos c]
      exact lexLt_of d
theorem letters_ok : ∀ n : Fin 6, ∀ l ∈ subsF n.1, lettersD n.1 (.tuple ((lI l).map .int)) = true := by decide +kernel
theorem rise_up : ∀ {L : Mp}, Up L → riseT (L.map fun q => lI q.1) = true
  | [], _ => rfl
  | [_], _ => rfl
  | p :: q :: L, u => by
    have u2 := List.pairwise_cons.mp u
    have ih := rise_up u2.2
    unfold riseT at ih ⊢
    simp only [List.map_cons, List.drop_succ_cons, List.drop_zero, List.zip_cons_cons, List.all_cons] at ih ⊢
    rw [lexLt_of (u2.1 q List.mem_cons_self)]
    exact ih
theorem sum_ok {n c t : Nat} {b : Int} {L : Mp} (n5 : n ≤ 5) (td : Tld n c t b L) : isSumD n (.tuple (L.map encS)) = true := by
  show ((L.map encS).all (memberD n) && riseT ((L.map encS).map keyOf)) = true
  rw [Bool.and_eq_true]
  constructor
  · rw [List.all_map, List.all_eq_true]
    intro q hq
    show (decide ([PyData.tuple ((lI q.1).map .int), .int q.2].length = 2) && (lettersD n (.tuple ((lI q.1).map .int)) && (isIntD (.int q.2) && decide (intOf (.int q.2) ≠ 0)))) = true
    rw [letters_ok ⟨n, by omega⟩ q.1 (td.ok.1 q hq)]
    have := td.nz q hq
    show (true && (true && (true && decide (q.2 ≠ 0)))) = true
    rw [decide_eq_true this]
    rfl
  · rw [List.map_map]
    have e : L.map (keyOf ∘ encS) = L.map fun q => lI q.1 := by
      refine List.map_congr_left fun q _ => ?_
      show (((lI q.1).map PyData.int).map intOf) = lI q.1
      rw [List.map_map]
      exact List.map_id _
    rw [e]
    exact rise_up td.up
theorem dv_ints {N : Addr → Prop} {H : Hp} : ∀ {xs : List Int}, DvAll N H (xs.map V.int) (xs.map .int)
  | [] => .nil
  | x :: xs => .cons (.int x) dv_ints
theorem dv_mb {N : Addr → Prop} {H : Hp} {ps : List Addr} {L : Mp} (x : MbT H ps L) : DvAll N H (ps.map V.ref) (L.map encS) := by
  induction x with
  | nil => exact .nil
  | @cons p q ps L e _ ih =>
    obtain ⟨b, h1, h2⟩ := e
    rw [lV_lI] at h2
    exact .cons (.tup (.inl h1) (.cons (.tup (.inl h2) dv_ints) (.cons (.int _) .nil))) ih
section
variable {P : Program} {w : World} {K : PySem.W.Frag} {mg : Str → Option Value} {base : Heap}
def spAtP : Sp := fun vs H Q _ => ∃ (d a : Addr) (m : Mp) (l : List Nat) (v : Int) (h : Nat), vs = [.ref d, .ref a, .int v, .int h] ∧ H d = some (.dT (dV m)) ∧ H a = some (.tup (lV l)) ∧ m.length ≤ 900 ∧ l.length ≤ 3 ∧ ∀ H', Kp d H H' → H' d = some (.dT (dV (accM m (trA l v h)))) → Q .non H'
theorem ok_AtP {f : Addr} {fd : FuncData} (F : Fun K "_add_triple_by_pairs" "_add_triple_by_pairs" sAtP f fd) (B : Bt mg) {fAT : Addr} {fdAT : FuncData} (GAT : FnOk P w K mg base CX0 1 fAT fdAT ["numbers", "letters", "number"] spAT) (kAT : PySem.W.keepIn K (.ref fAT) = true) (bAT : Binds K fdAT ["numbers", "letters", "number"] []) (gAT : mg "add_to" = some (.ref fAT)) {fPsO : Addr} {fdPsO : FuncData} (GPsO : FnOk P w K mg base CX0 1 fPsO fdPsO ["letters"] spPsO) (kPsO : PySem.W.keepIn K (.ref fPsO) = true) (bPsO : Binds K fdPsO ["letters"] []) (gPsO : mg "pairs_of" = some (.ref fPsO)) : FnOk P w K mg base CX0 2 f fd ["numbers", "letters", "number", "helper"] spAtP := by
  refine F.ok scAtP (fun vs H Q E h => ?_) (fun cdv A outer s H vs Q E hr h => ?_)
  · obtain ⟨d, a, m, l, v, h, rfl, _⟩ := h
    rfl
  · obtain ⟨d, a, m, l, v, h, rfl, hd, ha, hm, l3, q⟩ := h
    refine ⟨_, (pss_one (ps_if (pt_cmpR op_lt (pv 2) pe_int (nomark _))
      (pss_cons (ps_for PassesOwn.never rfl (pi_tup (pv 1)) (pg_name (i := 4) scAtP.nd rfl (.inl rfl))
      (pss_one (ps_expr (pe_call GAT (hr.mono (by decide)) (by rfl) gAT kAT bAT .nil pass0 (pa_cons (pv 0) (pa_cons (pe_tup (pa_cons (pv 4) (pa_cons (pv 3) pa_nil))) (pa_cons (pv 2) pa_nil)))))))
      (pss_one (ps_expr (pe_call GAT (hr.mono (by decide)) (by rfl) gAT kAT bAT .nil pass0 (pa_cons (pv 0) (pa_cons (pe_tup (pa_cons (pv 3) pa_nil)) (pa_cons (pe_op op_mul (pe_un un_neg pe_int) (pv 2)) pa_nil))))))) (pss_cons (ps_for PassesOwn.never rfl (pi_tup (pe_call GPsO (hr.mono (by decide)) (by rfl) gPsO kPsO bPsO .nil pass0 (pa_cons (pv 1) pa_nil))) (pg_name (i := 5) scAtP.nd rfl (.inl rfl))
      (pss_one (ps_expr (pe_call GAT (hr.mono (by decide)) (by rfl) gAT kAT bAT .nil pass0 (pa_cons (pv 0) (pa_cons (pv 5) (pa_cons (pv 2) pa_nil)))))))
      (pss_cons (ps_for PassesOwn.never rfl (pi_tup (pv 1)) (pg_name (i := 4) scAtP.nd rfl (.inl rfl))
      (pss_one (ps_expr (pe_call GAT (hr.mono (by decide)) (by rfl) gAT kAT bAT .nil pass0 (pa_cons (pv 0) (pa_cons (pe_tup (pa_cons (pv 4) (pa_cons (pv 3) pa_nil))) (pa_cons (pe_un un_neg (pv 2)) pa_nil)))))))
      (pss_one (ps_expr (pe_call GAT (hr.mono (by decide)) (by rfl) gAT kAT bAT .nil pass0 (pa_cons (pv 0) (pa_cons (pe_tup (pa_cons (pv 3) pa_nil)) (pa_cons (pv 2) pa_nil)))))))))), ?_⟩
    have nad : a ≠ d := ne_of ha hd (by intro z; cases z)
    refine q_if ?_
    refine ⟨.int v, rfl, _, _, rfl, rfl, _, rfl, ?_⟩
    refine ite2 (fun c => ?_) (fun c => ?_)
    · have c' : v < 0 := of_decide_eq_true c
      refine q_seq ?_
      refine ⟨.ref a, rfl, a, rfl, ⟨_, tl ha⟩, for_tup (K := K) (a := a) (xs := lV l) (fun j σ H' => Kp d H H' ∧ H' d = some (.dT (dV (accM m ((l.take j).map fun x => ([x, h], v))))) ∧ ∃ x4 x5 : Option V, σ = [some (.ref d), some (.ref a), some (.int v), some (.int h), x4, x5]) ⟨Kp.refl, hd, none, none, rfl⟩ (fun j σ H' _ hP => tl (hP.1 _ _ nad ha)) (fun j y σ H' hy hP => ?_) (fun σ H' hP => ?_)⟩
      · obtain ⟨k, hd', x4, x5, rfl⟩ := hP
        obtain ⟨x, hx, rfl⟩ := lV_at hy
        have jl := (List.getElem?_eq_some_iff.mp hx).1
        have al := accM_len (m := m) (L := (l.take j).map fun x => (([x, h], v) : List Nat × Int))
        rw [List.length_map, List.length_take] at al
        refine ⟨.ref d, rfl, _, rfl, _, rfl, by show 2 ≤ sizeLine; decide, fun t nt => ⟨_, rfl, ?_⟩⟩
        have st := same_upd (o := .tup [V.int (x : Nat), .int (h : Nat)]) nt
        refine ⟨d, t, _, [x, h], v, rfl, st _ _ hd', upd_same, by omega, ?_⟩
        refine ⟨fun b o nb e => by rw [upd_ne nb]; exact st _ _ (k b o nb e), ?_, _, _, rfl⟩
        rw [upd_same, map_take1 hx, accM_app]
        rfl
      · obtain ⟨k, hd', x4, x5, rfl⟩ := hP
        rw [lV, List.length_map, List.take_length] at hd'
        have al := accM_len (m := m) (L := l.map fun x => (([x, h], v) : List Nat × Int))
        rw [List.length_map] at al
        dsimp only
        refine ⟨.ref d, rfl, _, rfl, by show 1 ≤ sizeLine; decide, fun t nt => ⟨_, rfl, .int v, rfl, _, _, rfl, rfl, .inl ⟨by decide, by decide⟩, ?_⟩⟩
        have st := same_upd (o := .tup [V.int (h : Nat)]) nt
        refine ⟨d, t, _, [h], _, rfl, st _ _ hd', upd_same, by omega, ?_⟩
        refine q _ (fun b o nb e => by rw [upd_ne nb]; exact st _ _ (k b o nb e)) ?_
        rw [upd_same]
        unfold trA
        rw [if_pos c', accM_app]
        rfl
    · have c' : ¬ v < 0 := fun z => c (decide_eq_true z)
      refine q_seq ?_
      refine ⟨.ref a, rfl, a, l, rfl, ha, l3, fun H1 p qs s1 hp ks => ?_⟩
      have hd1 := s1 _ _ hd
      have npd : p ≠ d := ne_of hp hd1 (by intro z; cases z)
      have p9 := prL_len l3
      refine ⟨p, rfl, ⟨_, tl hp⟩, for_tup (K := K) (a := p) (xs := qs.map V.ref) (fun j σ H' => Kp d H1 H' ∧ H' d = some (.dT (dV (accM m (((prL l).take j).map fun p => (p, v))))) ∧ ∃ x4 x5 : Option V, σ = [some (.ref d), some (.ref a), some (.int v), some (.int h), x4, x5]) ⟨Kp.refl, hd1, none, none, rfl⟩ (fun j σ H' _ hP => tl (hP.1 _ _ npd hp)) (fun j y σ H' hy hP => ?_) (fun σ H' hP => ?_)⟩
      · obtain ⟨k, hd', x4, x5, rfl⟩ := hP
        obtain ⟨qa, pr, rfl, hpr, hq⟩ := kst_at ks hy
        have jl := (List.getElem?_eq_some_iff.mp hpr).1
        have al := accM_len (m := m) (L := ((prL l).take j).map fun p => ((p, v) : List Nat × Int))
        rw [List.length_map, List.length_take] at al
        have hq' := k _ _ (ne_of hq hd1 (by intro z; cases z)) hq
        refine ⟨.ref d, rfl, .ref qa, rfl, _, rfl, d, qa, _, pr, v, rfl, hd', by rw [kV_kI]; exact hq', by omega, ?_⟩
        refine ⟨fun b o nb e => by rw [upd_ne nb]; exact k b o nb e, ?_, _, _, rfl⟩
        rw [upd_same, map_take1 hpr, accM_app]
        rfl
      · obtain ⟨k, hd', x4, x5, rfl⟩ := hP
        rw [List.length_map, paired_len ks, List.take_length] at hd'
        have al := accM_len (m := m) (L := (prL l).map fun p => ((p, v) : List Nat × Int))
        rw [List.length_map] at al
        have k0 : Kp d H H' := fun b o nb e => k b o nb (s1 _ _ e)
        generalize hm2 : accM m ((prL l).map fun p => (p, v)) = m2 at hd' al
        dsimp only
        refine q_seq ?_
        refine ⟨.ref a, rfl, a, rfl, ⟨_, tl (k0 _ _ nad ha)⟩, for_tup (K := K) (a := a) (xs := lV l) (fun j σ H2 => Kp d H H2 ∧ H2 d = some (.dT (dV (accM m2 ((l.take j).map fun x => ([x, h], -v))))) ∧ ∃ x4 x5 : Option V, σ = [some (.ref d), some (.ref a), some (.int v), some (.int h), x4, x5]) ⟨k0, hd', _, _, rfl⟩ (fun j σ H' _ hP => tl (hP.1 _ _ nad ha)) (fun j y σ H' hy hP => ?_) (fun σ H' hP => ?_)⟩
        · obtain ⟨k, hd', x4, x5, rfl⟩ := hP
          obtain ⟨x, hx, rfl⟩ := lV_at hy
          have jl := (List.getElem?_eq_some_iff.mp hx).1
          have al2 := accM_len (m := m2) (L := (l.take j).map fun x => (([x, h], -v) : List Nat × Int))
          rw [List.length_map, List.length_take] at al2
          refine ⟨.ref d, rfl, _, rfl, _, rfl, by show 2 ≤ sizeLine; decide, fun t nt => ⟨_, rfl, _, rfl, ?_⟩⟩
          have st := same_upd (o := .tup [V.int (x : Nat), .int (h : Nat)]) nt
          refine ⟨d, t, _, [x, h], -v, rfl, st _ _ hd', upd_same, by omega, ?_⟩
          refine ⟨fun b o nb e => by rw [upd_ne nb]; exact st _ _ (k b o nb e), ?_, _, _, rfl⟩
          rw [upd_same, map_take1 hx, accM_app]
          rfl
        · obtain ⟨k, hd', x4, x5, rfl⟩ := hP
          rw [lV, List.length_map, List.take_length] at hd'
          have al2 := accM_len (m := m2) (L := l.map fun x => (([x, h], -v) : List Nat × Int))
          rw [List.length_map] at al2
          dsimp only
          refine ⟨.ref d, rfl, _, rfl, by show 1 ≤ sizeLine; decide, fun t nt => ⟨_, rfl, ?_⟩⟩
          have st := same_upd (o := .tup [V.int (h : Nat)]) nt
          refine ⟨d, t, _, [h], v, rfl, st _ _ hd', upd_same, by omega, ?_⟩
          refine q _ (fun b o nb e => by rw [upd_ne nb]; exact st _ _ (k b o nb e)) ?_
          rw [upd_same]
          unfold trA
          rw [if_neg c', accM_app, accM_app, hm2]
          rfl

def spPSm (K : PySem.W.Frag) : Sp := fun vs H Q _ => ∃ (t : Addr) (ps : List Addr) (L : Mp) (n tr : Nat) (b : Int), vs = [.ref t, .int n] ∧ n ≤ 5 ∧ tr ≤ 3 ∧ H t = some (.tup (ps.map V.ref)) ∧ MbT H ps L ∧ Tld n 60 tr b L ∧ ∀ H' a r qs R, Same H H' → H' a = some (.tup [.ref r, .int ((n + triM L : Nat) : Int)]) → H' r = some (.tup (qs.map V.ref)) → MbT H' qs R → Up R → (∀ p, p ∈ R ↔ p.2 = valL (addsF n L) p.1 ∧ p.2 ≠ 0) → Q (.ref a) H'
theorem ok_PSm {f : Addr} {fd : FuncData} (F : Fun K "paired_sum" "paired_sum" sPSm f fd) (B : Bt mg) {fIsS : Addr} {fdIsS : FuncData} (GIsS : FnOk P w K mg base CX0 5 fIsS fdIsS ["value", "letter_count"] spIsS) (kIsS : PySem.W.keepIn K (.ref fIsS) = true) (bIsS : Binds K fdIsS ["value", "letter_count"] []) (gIsS : mg "is_sum" = some (.ref fIsS)) {fAtP : Addr} {fdAtP : FuncData} (GAtP : FnOk P w K mg base CX0 2 fAtP fdAtP ["numbers", "letters", "number", "helper"] spAtP) (kAtP : PySem.W.keepIn K (.ref fAtP) = true) (bAtP : Binds K fdAtP ["numbers", "letters", "number", "helper"] []) (gAtP : mg "_add_triple_by_pairs" = some (.ref fAtP)) {fAT : Addr} {fdAT : FuncData} (GAT : FnOk P w K mg base CX0 1 fAT fdAT ["numbers", "letters", "number"] spAT) (kAT : PySem.W.keepIn K (.ref fAT) = true) (bAT : Binds K fdAT ["numbers", "letters", "number"] []) (gAT : mg "add_to" = some (.ref fAT)) {fSFr : Addr} {fdSFr : FuncData} (GSFr : FnOk P w K mg base CX0 1 fSFr fdSFr ["numbers"] spSFr) (kSFr : PySem.W.keepIn K (.ref fSFr) = true) (bSFr : Binds K fdSFr ["numbers"] []) (gSFr : mg "sum_from" = some (.ref fSFr)) : FnOk P w K mg base CX0 6 f fd ["told", "letter_count"] (spPSm K) := by
  refine F.ok scPSm (fun vs H Q E h => ?_) (fun cdv A outer s H vs Q E hr h => ?_)
  · obtain ⟨t, ps, L, n, tr, b, rfl, _⟩ := h
    rfl
  · obtain ⟨t, ps, L, n, tr, b, rfl, n5, tr3, ht, mb, td, q⟩ := h
    refine ⟨_, (pss_cons (ps_if (pt_not (pt_val (pe_call GIsS (hr.mono (by decide)) (by rfl) gIsS kIsS bIsS .nil pass0 (pa_cons (pv 0) (pa_cons (pv 1) pa_nil)))))
      (pss_one ps_never) pss_nil)
      (pss_cons (ps_set (i := 2) scPSm.nd rfl (.inl rfl) pe_dnewT)
      (pss_cons (ps_set (i := 3) scPSm.nd rfl (.inl rfl) (pv 1))
      (pss_cons (ps_for PassesOwn.never rfl (pi_tup (pv 0)) (pg_tup (by rfl) (pgs_cons (pg_name (i := 4) scPSm.nd rfl (.inl rfl)) (pgs_cons (pg_name (i := 5) scPSm.nd rfl (.inl rfl)) pgs_nil)))
      (pss_one (ps_if (pt_cmpR op_eq (pe_callB call_len_seq (by rfl) B.len PySem.boot_len (pa_cons (pv 4) pa_nil)) pe_int (nomark _))
      (pss_cons (ps_expr (pe_call GAtP (hr.mono (by decide)) (by rfl) gAtP kAtP bAtP .nil pass0 (pa_cons (pv 2) (pa_cons (pv 4) (pa_cons (pv 5) (pa_cons (pv 3) pa_nil))))))
      (pss_one (ps_aug (i := 3) scPSm.nd rfl (.inl rfl) pe_int ip_add))) (pss_one (ps_expr (pe_call GAT (hr.mono (by decide)) (by rfl) gAT kAT bAT .nil pass0 (pa_cons (pv 2) (pa_cons (pv 4) (pa_cons (pv 5) pa_nil)))))))))
      (pss_one (ps_ret (pe_tup (pa_cons (pe_call GSFr (hr.mono (by decide)) (by rfl) gSFr kSFr bSFr .nil pass0 (pa_cons (pv 2) pa_nil)) (pa_cons (pv 3) pa_nil))))))))), ?_⟩
    have l60 := td.le
    have t3 := td.tr
    have l3 : ∀ q ∈ L, q.1.length ≤ 3 := fun q hq => len3s ⟨n, by omega⟩ q.1 (td.ok.1 q hq)
    refine q_seq (q_if ?_)
    refine ⟨.ref t, rfl, .int n, rfl, fun _ => False, .ref t, .tuple (L.map encS), n, rfl, .tup (.inl ht) (dv_mb mb), fun ds e => (by injection e with e; rw [← e, List.length_map]; omega), fun H1 s1 => ?_⟩
    rw [sum_ok n5 td]
    refine ⟨true, rfl, ?_⟩
    refine q_next ?_
    dsimp only
    refine q_seq (q_set (fun d nd => ?_))
    have sd := same_upd (o := .dT []) nd
    have hd1 : (upd H1 d (.dT [])) d = some (.dT (dV [])) := upd_same
    have ht1 := sd _ _ (s1 _ _ ht)
    have mb1 := (mb.same s1).same sd
    have k1 : ∀ b o, H b = some o → (upd H1 d (.dT [])) b = some o := fun b o e => sd _ _ (s1 _ _ e)
    have ndd : ∀ b o, H b = some o → b ≠ d := fun b o e => ne_of_none (s1 _ _ e) nd
    generalize upd H1 d (.dT []) = H2 at hd1 ht1 mb1 k1 ⊢
    dsimp only
    refine q_seq (q_set ?_)
    refine ⟨.int n, rfl, ?_⟩
    dsimp only
    have ntd : t ≠ d := ndd _ _ ht
    refine q_seq ?_
    refine ⟨.ref t, rfl, t, rfl, ⟨_, tl ht1⟩, for_tup (K := K) (a := t) (xs := ps.map V.ref) (fun i σ H' => Kp d H2 H' ∧ H' d = some (.dT (dV (accM [] (addsF n (L.take i))))) ∧ ∃ x4 x5 : Option V, σ = [some (.ref t), some (.int n), some (.ref d), some (.int ((n + triM (L.take i) : Nat) : Int)), x4, x5]) ⟨Kp.refl, hd1, none, none, rfl⟩ (fun i σ H' _ hP => tl (hP.1 _ _ ntd ht1)) (fun i x σ H' hx hP => ?_) (fun σ H' hP => ?_)⟩
    · obtain ⟨k, hd', x4, x5, rfl⟩ := hP
      obtain ⟨p, ⟨l, v⟩, b, rfl, hq, hp, hb⟩ := mbt_at mb1 hx
      simp only at hp hb
      have ql := l3 _ (List.mem_of_getElem? hq)
      have hp' := k _ _ (ne_of hp hd1 (by intro z; cases z)) hp
      have hb' := k _ _ (ne_of hb hd1 (by intro z; cases z)) hb
      have al := accM_len (m := []) (L := addsF n (L.take i))
      have al2 := adds_len (L := L.take i) (fun q hq => l3 q (List.mem_of_mem_take hq)) (c := n)
      have tt : triM (L.take i) ≤ 3 := by
        have e := tri_cons (q := (l, v)) (L := [])
        have : triM (L.take i) ≤ triM L := by
          have z : triM L = triM (L.take i) + triM (L.drop i) := by
            unfold triM
            rw [← List.length_append, ← List.filter_append, List.take_append_drop]
          omega
        omega
      rw [List.length_take] at al2
      have al3 : (accM [] (addsF n (L.take i))).length ≤ 100 := by
        rw [List.length_nil] at al
        omega
      have te := tri_take hq
      have ae := adds_take hq (c := n)
      refine ⟨p, _, rfl, tl hp', rfl, _, _, rfl, _, _, rfl, rfl, ?_⟩
      dsimp only
      refine q_if ?_
      refine ⟨.ref b, rfl, b, _, rfl, .inr (tl hb'), rfl, _, rfl, ?_⟩
      rw [dInt, List.length_map]
      refine ite2 (fun c => ?_) (fun c => ?_)
      · have c' : l.length = 3 := by have := of_decide_eq_true c; omega
        simp only at te ae
        rw [if_pos c'] at te ae
        refine q_seq ?_
        refine ⟨.ref d, rfl, .ref b, rfl, .int v, rfl, _, rfl, d, b, _, l, v, n + triM (L.take i), rfl, hd', hb', by omega, ql, fun H3 k3 hd3 => ?_⟩
        refine ⟨_, rfl, _, _, rfl, rfl, ?_⟩
        refine ⟨fun b o nb e => k3 b o nb (k b o nb e), ?_, some (.ref b), some (.int v), ?_⟩
        · rw [ae, accM_app]
          exact hd3
        · rw [te]
          rfl
      · have c' : ¬ l.length = 3 := fun z => c (decide_eq_true (by omega))
        simp only at te ae
        rw [if_neg c'] at te ae
        refine ⟨.ref d, rfl, .ref b, rfl, .int v, rfl, d, b, _, l, v, rfl, hd', by rw [kV_kI]; exact hb', by omega, ?_⟩
        refine ⟨fun b o nb e => by rw [upd_ne nb]; exact k b o nb e, ?_, some (.ref b), some (.int v), ?_⟩
        · rw [upd_same, ae, accM_app]
          rfl
        · rw [te]
          rfl
    · obtain ⟨k, hd', x4, x5, rfl⟩ := hP
      have el : L.take (ps.map V.ref).length = L := by rw [List.length_map, paired_len mb1, List.take_length]
      rw [el] at hd' ⊢
      have al := accM_len (m := []) (L := addsF n L)
      have al2 := adds_len l3 (c := n)
      have al3 : (accM [] (addsF n L)).length ≤ 100 := by
        rw [List.length_nil] at al
        omega
      have nda : ((accM [] (addsF n L)).map (·.1)).Nodup := accM_nodup List.nodup_nil
      dsimp only
      refine q_ret ?_
      refine ⟨.ref d, rfl, d, _, rfl, hd', by omega, nda, fun H4 r qs R s4 hr4 mbR up mem le => ⟨_, rfl, by show 2 ≤ sizeLine; decide, fun a na => ?_⟩⟩
      have sa := same_upd (o := .tup [V.ref r, .int ((n + triM L : Nat) : Int)]) na
      refine q _ a r qs R (fun b o e => sa _ _ (s4 _ _ (k b o (ndd b o e) (k1 b o e)))) upd_same (sa _ _ hr4) (mbR.same sa) up (fun p => ?_)
      rw [mem, mem_iff_get nda, get_acc (m := []) (k := p.1) (by simp)]
      show p.2 = 0 + _ ∧ _ ↔ _
      rw [Int.zero_add]
end
end CC

namespace CC
open PySem PySem.Spec PyProof.Rows L2 Ek
/-! ### worth of what was put together -/
def linF (f : List Nat → Int) (L : Mp) : Int := (L.map fun q => q.2 * f q.1).sum
theorem lin_app {f : List Nat → Int} {A B : Mp} : linF f (A ++ B) = linF f A + linF f B := by
  unfold linF
  rw [List.map_append, List.sum_append]
theorem lin_cons {f : List Nat → Int} {q : List Nat × Int} {L : Mp} : linF f (q :: L) = q.2 * f q.1 + linF f L := by
  unfold linF
  rw [List.map_cons, List.sum_cons]
theorem lin_perm {f : List Nat → Int} {A B : Mp} (h : A.Perm B) : linF f A = linF f B := by
  induction h with
  | nil => rfl
  | cons x _ ih => rw [lin_cons, lin_cons, ih]
  | swap x y l => rw [lin_cons, lin_cons, lin_cons, lin_cons]; omega
  | trans _ _ a b => exact a.trans b
theorem lin_put {f : List Nat → Int} {l : List Nat} {v : Int} : ∀ {m : Mp}, (m.map (·.1)).Nodup → linF f (putM m l (getM m l + v)) = linF f m + v * f l := by
  intro m nd
  by_cases c : (m.any fun p => decide (p.1 = l)) = true
  · have e : putM m l (getM m l + v) = m.map fun p => if p.1 = l then (p.1, getM m l + v) else p := by unfold putM; rw [if_pos c]
    rw [e]
    have g : ∀ p ∈ m, p.1 = l → p.2 = getM m l := fun p hp h => by rw [← h, getM_mem nd hp]
    generalize getM m l = u at g ⊢
    clear e
    induction m with
    | nil => simp at c
    | cons p m ih =>
      rw [List.map_cons, List.nodup_cons] at nd
      rw [List.map_cons, lin_cons, lin_cons]
      by_cases h : p.1 = l
      · have e2 : (m.map fun p => if p.1 = l then (p.1, u + v) else p) = m := by
          have : ∀ q ∈ m, (fun p : List Nat × Int => if p.1 = l then (p.1, u + v) else p) q = id q := fun q hq => by
            show (if q.1 = l then (q.1, u + v) else q) = q
            rw [if_neg fun z => nd.1 (List.mem_map.mpr ⟨q, hq, by rw [z, h]⟩)]
          rw [List.map_congr_left this, List.map_id]
        rw [e2, if_pos h, g p List.mem_cons_self h, h]
        simp only
        rw [Int.add_mul]
        omega
      · rw [if_neg h]
        have c2 : (m.any fun p => decide (p.1 = l)) = true := by
          rw [List.any_cons, decide_eq_false h, Bool.false_or] at c
          exact c
        rw [ih nd.2 c2 fun q hq => g q (List.mem_cons_of_mem _ hq)]
        omega
  · have e : putM m l (getM m l + v) = m ++ [(l, getM m l + v)] := by unfold putM; rw [if_neg c]
    have z : getM m l = 0 := getM_none fun h => c (any_mem.mpr h)
    rw [e, lin_app, z]
    show _ + ((0 + v) * f l + 0) = _
    rw [Int.zero_add, Int.add_zero]
theorem lin_acc {f : List Nat → Int} : ∀ {A m : Mp}, (m.map (·.1)).Nodup → linF f (accM m A) = linF f m + linF f A
  | [], m, _ => by show linF f m = linF f m + 0; omega
  | q :: A, m, nd => by
    show linF f (accM (putM m q.1 (getM m q.1 + q.2)) A) = _
    rw [lin_acc (putM_nodup nd), lin_put nd, lin_cons]
    omega
theorem lin_nz {f : List Nat → Int} : ∀ {m : Mp}, linF f (m.filter fun p => decide (p.2 ≠ 0)) = linF f m
  | [] => rfl
  | q :: m => by
    by_cases c : q.2 = 0
    · rw [List.filter_cons_of_neg (by simpa using c), lin_cons, lin_nz, c]
      omega
    · rw [List.filter_cons_of_pos (by simpa using c), lin_cons, lin_cons, lin_nz]
theorem up_nodup {L : Mp} (u : Up L) : L.Nodup ∧ (L.map (·.1)).Nodup := by
  refine ⟨u.imp fun {p q} h e => by rw [e] at h; exact List.lt_irrefl _ h, List.pairwise_map.mpr (u.imp fun {p q} h e => ?_)⟩
  rw [e] at h
  exact List.lt_irrefl _ h
theorem lin_val {f : List Nat → Int} {R A : Mp} (u : Up R) (mem : ∀ p, p ∈ R ↔ p.2 = valL A p.1 ∧ p.2 ≠ 0) : linF f R = linF f A := by
  have nda : ((accM [] A).map (·.1)).Nodup := accM_nodup List.nodup_nil
  have pm : R.Perm ((accM [] A).filter fun p => decide (p.2 ≠ 0)) := by
    refine (List.perm_ext_iff_of_nodup (up_nodup u).1 ?_).mpr fun p => ?_
    · have h : (((accM [] A).filter fun p => decide (p.2 ≠ 0)).map (·.1)).Nodup := (List.Sublist.map _ List.filter_sublist).nodup nda
      exact (List.pairwise_map.mp h).imp fun {a b} h e => h (by rw [e])
    · rw [mem, List.mem_filter, decide_eq_true_iff, mem_iff_get nda, get_acc (m := []) (k := p.1) (by simp)]
      show _ ↔ p.2 = 0 + _ ∧ _
      rw [Int.zero_add]
  rw [lin_perm pm, lin_nz, lin_acc (m := []) (by simp)]
  show 0 + _ = _
  rw [Int.zero_add]
def onF (ρ : Nat → Bool) (l : List Nat) : Int := if l.all ρ = true then 1 else 0
def rho (r : List Int) (x : Nat) : Bool := decide (r.getD x 0 = 1)
theorem worth_lin {L : Mp} {r : List Int} : worthM L r = linF (onF (rho r)) L := by
  unfold worthM linF
  congr 1
  refine List.map_congr_left fun q _ => ?_
  show (if onR r q.1 = true then q.2 else 0) = q.2 * (if q.1.all (rho r) = true then 1 else 0)
  by_cases c : onR r q.1 = true
  · rw [if_pos c, if_pos (show q.1.all (rho r) = true from c), Int.mul_one]
  · rw [if_neg c, if_neg (show ¬ q.1.all (rho r) = true from c), Int.mul_zero]
theorem pr3 {x y z : Nat} (xy : x < y) (yz : y < z) : prL [x, y, z] = [[x, y], [x, z], [y, z]] := by
  have xz : x < z := Nat.lt_trans xy yz
  simp [prL, prR, xy, yz, xz, Nat.lt_asymm xy, Nat.lt_asymm yz, Nat.lt_asymm xz]
/-- the value of a helper that costs least -/
def optB (ρ : Nat → Bool) (l : List Nat) (v : Int) : Bool := if v < 0 then l.all ρ else decide (2 ≤ (l.filter ρ).length)
theorem tri_lin {ρ : Nat → Bool} {x y z h : Nat} {v : Int} (xy : x < y) (yz : y < z) : v * onF ρ [x, y, z] ≤ linF (onF ρ) (trA [x, y, z] v h) ∧ (ρ h = optB ρ [x, y, z] v → linF (onF ρ) (trA [x, y, z] v h) = v * onF ρ [x, y, z]) := by
  unfold trA
  rw [pr3 xy yz]
  unfold linF onF optB
  by_cases c : v < 0
  · rw [if_pos c, if_pos c]
    cases hx : ρ x <;> cases hy : ρ y <;> cases hz : ρ z <;> cases hh : ρ h <;> simp [hx, hy, hz, hh] <;> omega
  · rw [if_neg c, if_neg c]
    cases hx : ρ x <;> cases hy : ρ y <;> cases hz : ρ z <;> cases hh : ρ h <;> simp [hx, hy, hz, hh] <;> omega
end CC

namespace CC
open PySem PySem.Spec PyProof.Rows L2 Ek
theorem adds_ge {ρ : Nat → Bool} {n : Nat} (n5 : n ≤ 5) : ∀ {L : Mp} {c : Nat}, (∀ q ∈ L, q.1 ∈ subsF n) → linF (onF ρ) L ≤ linF (onF ρ) (addsF c L)
  | [], _, _ => Int.le_refl _
  | q :: L, c, ok => by
    have ih := fun c => adds_ge (ρ := ρ) n5 (L := L) (c := c) fun p hp => ok p (List.mem_cons_of_mem _ hp)
    rw [adds_cons]
    by_cases e : q.1.length = 3
    · rw [if_pos e, lin_app, lin_cons]
      obtain ⟨x, y, z, el, xy, yz, _⟩ := three n5 (ok q List.mem_cons_self) e
      have := (tri_lin (ρ := ρ) (h := c) (v := q.2) xy yz).1
      have := ih (c + 1)
      rw [el]
      omega
    · rw [if_neg e, lin_cons, lin_cons]
      have := ih c
      omega
def optsF (ρ : Nat → Bool) : Mp → List Int
  | [] => []
  | q :: L => if q.1.length = 3 then (if optB ρ q.1 q.2 = true then 1 else 0) :: optsF ρ L else optsF ρ L
theorem opts_len {ρ : Nat → Bool} : ∀ {L : Mp}, (optsF ρ L).length = triM L
  | [] => rfl
  | q :: L => by
    rw [tri_cons]
    unfold optsF
    by_cases e : q.1.length = 3
    · rw [if_pos e, if_pos e, List.length_cons, opts_len]; omega
    · rw [if_neg e, if_neg e, opts_len]; omega
theorem opts_bit {ρ : Nat → Bool} : ∀ {L : Mp}, ∀ b ∈ optsF ρ L, b = 0 ∨ b = 1
  | [], b, h => by cases h
  | q :: L, b, h => by
    unfold optsF at h
    by_cases e : q.1.length = 3
    · rw [if_pos e] at h
      rcases List.mem_cons.mp h with z | z
      · by_cases c : optB ρ q.1 q.2 = true
        · rw [if_pos c] at z; exact .inr z
        · rw [if_neg c] at z; exact .inl z
      · exact opts_bit b z
    · rw [if_neg e] at h
      exact opts_bit b h
theorem opt_eq {σ ρ : Nat → Bool} {l : List Nat} {v : Int} (h : ∀ x ∈ l, σ x = ρ x) : optB σ l v = optB ρ l v := by
  unfold optB
  have e1 : l.all σ = l.all ρ := by
    rw [Bool.eq_iff_iff, List.all_eq_true, List.all_eq_true]
    exact ⟨fun k x hx => h x hx ▸ k x hx, fun k x hx => (h x hx).symm ▸ k x hx⟩
  have e2 : l.filter σ = l.filter ρ := List.filter_congr h
  rw [e1, e2]
theorem adds_eq {σ ρ : Nat → Bool} {n : Nat} (n5 : n ≤ 5) (agree : ∀ x, x < n → σ x = ρ x) : ∀ {L : Mp} {c : Nat}, (∀ q ∈ L, q.1 ∈ subsF n) → (∀ k, k < triM L → σ (c + k) = decide ((optsF ρ L).getD k 0 = 1)) → linF (onF σ) (addsF c L) = linF (onF σ) L
  | [], _, _, _ => rfl
  | q :: L, c, ok, h => by
    have ok2 := fun p hp => ok p (List.mem_cons_of_mem q hp)
    have bl := below ⟨n, by omega⟩ q.1 (ok q List.mem_cons_self)
    simp only at bl
    rw [adds_cons]
    rw [tri_cons] at h
    unfold optsF at h
    by_cases e : q.1.length = 3
    · rw [if_pos e] at h
      rw [if_pos e] at h
      rw [if_pos e, lin_app, lin_cons]
      obtain ⟨x, y, z, el, xy, yz, _⟩ := three n5 (ok q List.mem_cons_self) e
      have h0 := h 0 (by omega)
      have t := (tri_lin (ρ := σ) (h := c) (v := q.2) xy yz).2
      rw [← el] at t
      have hc : σ c = optB σ q.1 q.2 := by
        rw [opt_eq fun x hx => agree x (bl x hx)]
        have h0' : σ c = decide ((if optB ρ q.1 q.2 = true then (1 : Int) else 0) = 1) := h0
        rw [h0']
        cases optB ρ q.1 q.2 <;> rfl
      rw [t hc, adds_eq n5 agree ok2 fun k hk => ?_]
      have h1 := h (k + 1) (by omega)
      rw [List.getD_cons_succ] at h1
      rw [← h1]
      congr 1
      omega
    · rw [if_neg e] at h
      rw [if_neg e] at h
      rw [if_neg e, lin_cons, lin_cons, adds_eq n5 agree ok2 fun k hk => h k (by omega)]
theorem rho_app {r more : List Int} {x : Nat} (h : x < r.length) : rho (r ++ more) x = rho r x := by
  unfold rho
  rw [List.getD_eq_getElem?_getD, List.getD_eq_getElem?_getD, List.getElem?_append_left h]
theorem on_eq {σ ρ : Nat → Bool} {L : Mp} (h : ∀ q ∈ L, ∀ x ∈ q.1, σ x = ρ x) : linF (onF σ) L = linF (onF ρ) L := by
  unfold linF
  congr 1
  refine List.map_congr_left fun q hq => ?_
  unfold onF
  have e1 : q.1.all σ = q.1.all ρ := by
    rw [Bool.eq_iff_iff, List.all_eq_true, List.all_eq_true]
    exact ⟨fun k x hx => h q hq x hx ▸ k x hx, fun k x hx => (h q hq x hx).symm ▸ k x hx⟩
  rw [e1]
/-- what paired_sum gives -/
structure Prd (n : Nat) (L R : Mp) : Prop where
  up : Up R
  mem : ∀ p, p ∈ R ↔ p.2 = valL (addsF n L) p.1 ∧ p.2 ≠ 0
theorem least_ge {n : Nat} {L R : Mp} {r more : List Int} (n5 : n ≤ 5) (ok : okM n L) (pd : Prd n L R) (hr : r.length = n) : worthM L r ≤ worthM R (r ++ more) := by
  rw [worth_lin, worth_lin, lin_val pd.up pd.mem]
  have a := adds_ge (ρ := rho (r ++ more)) n5 (c := n) ok.1
  rw [on_eq (σ := rho (r ++ more)) (ρ := rho r) fun q hq x hx => rho_app (by rw [hr]; exact below ⟨n, by omega⟩ q.1 (ok.1 q hq) x hx)] at a
  exact a
theorem least_eq {n : Nat} {L R : Mp} {r : List Int} (n5 : n ≤ 5) (ok : okM n L) (pd : Prd n L R) (hr : r.length = n) : worthM R (r ++ optsF (rho r) L) = worthM L r := by
  rw [worth_lin, worth_lin, lin_val pd.up pd.mem]
  rw [adds_eq (ρ := rho r) n5 (fun x hx => rho_app (by omega)) ok.1 fun k hk => ?_]
  · exact on_eq fun q hq x hx => rho_app (by rw [hr]; exact below ⟨n, by omega⟩ q.1 (ok.1 q hq) x hx)
  · unfold rho
    rw [List.getD_eq_getElem?_getD, List.getElem?_append_right (by omega), List.getD_eq_getElem?_getD]
    congr 4
    omega
/-! ### keys of what was put together -/
theorem trA_key {n c : Nat} {l : List Nat} {v : Int} (n5 : n ≤ 5) (nc : n ≤ c) (hl : l ∈ subsF n) (e : l.length = 3) : ∀ p ∈ trA l v c, p.1.length ≤ 2 ∧ (∀ x ∈ p.1, x < c + 1) ∧ (p.1.length = 2 → p.1 ∈ subsF n ∨ p.2 ≤ 0) := by
  obtain ⟨x, y, z, rfl, xy, yz, zn, m1, m2, m3⟩ := three n5 hl e
  intro p hp
  unfold trA at hp
  rw [pr3 xy yz] at hp
  by_cases cv : v < 0
  · rw [if_pos cv] at hp
    simp at hp
    rcases hp with rfl | rfl | rfl | rfl <;> simp <;> omega
  · rw [if_neg cv] at hp
    simp at hp
    rcases hp with rfl | rfl | rfl | rfl | rfl | rfl | rfl
    · exact ⟨by simp, by simp; omega, fun _ => .inl m1⟩
    · exact ⟨by simp, by simp; omega, fun _ => .inl m2⟩
    · exact ⟨by simp, by simp; omega, fun _ => .inl m3⟩
    all_goals (simp <;> omega)
theorem adds_key {n : Nat} (n5 : n ≤ 5) : ∀ {L : Mp} {c : Nat}, n ≤ c → (∀ q ∈ L, q.1 ∈ subsF n) → ∀ p ∈ addsF c L, p.1.length ≤ 2 ∧ (∀ x ∈ p.1, x < c + triM L) ∧ (p.1.length = 2 → p.1 ∈ subsF n ∨ p.2 ≤ 0)
  | [], _, _, _, p, hp => by cases hp
  | q :: L, c, nc, ok, p, hp => by
    have ok2 := fun p hp => ok p (List.mem_cons_of_mem q hp)
    have hq := ok q List.mem_cons_self
    rw [adds_cons] at hp
    rw [tri_cons]
    by_cases e : q.1.length = 3
    · rw [if_pos e] at hp
      rw [if_pos e]
      rcases List.mem_append.mp hp with h | h
      · obtain ⟨a, b, d⟩ := trA_key n5 nc hq e p h
        exact ⟨a, fun x hx => by have := b x hx; omega, d⟩
      · obtain ⟨a, b, d⟩ := adds_key n5 (c := c + 1) (by omega) ok2 p h
        exact ⟨a, fun x hx => by have := b x hx; omega, d⟩
    · rw [if_neg e] at hp
      rw [if_neg e]
      rcases List.mem_cons.mp hp with h | h
      · rw [h]
        have l3 := len3s ⟨n, by omega⟩ q.1 hq
        refine ⟨by omega, fun x hx => ?_, fun _ => .inl hq⟩
        have := below ⟨n, by omega⟩ q.1 hq x hx
        simp only at this
        omega
      · obtain ⟨a, b, d⟩ := adds_key n5 nc ok2 p h
        exact ⟨a, fun x hx => by have := b x hx; omega, d⟩
theorem valL_mem {A : Mp} {k : List Nat} (h : valL A k ≠ 0) : ∃ p ∈ A, p.1 = k := by
  unfold valL at h
  cases e : A.filter fun q => decide (q.1 = k) with
  | nil => rw [e] at h; exact absurd rfl h
  | cons p l =>
    have m : p ∈ A.filter fun q => decide (q.1 = k) := by rw [e]; exact List.mem_cons_self
    exact ⟨p, (List.mem_filter.mp m).1, of_decide_eq_true (List.mem_filter.mp m).2⟩
theorem Prd.key {n : Nat} {L R : Mp} (n5 : n ≤ 5) (ok : okM n L) (pd : Prd n L R) : ∀ q ∈ R, q.1.length ≤ 2 ∧ ∀ x ∈ q.1, x < n + triM L := fun q hq => by
  obtain ⟨e, nz⟩ := (pd.mem q).mp hq
  rw [e] at nz
  obtain ⟨p, hp, ek⟩ := valL_mem nz
  obtain ⟨a, b, _⟩ := adds_key n5 (Nat.le_refl n) ok.1 p hp
  rw [← ek]
  exact ⟨a, b⟩
theorem val_nonpos {A : Mp} {k : List Nat} (h : ∀ p ∈ A, p.1 = k → p.2 ≤ 0) : valL A k ≤ 0 := by
  induction A with
  | nil => exact Int.le_refl _
  | cons q A ih =>
    rw [valL_cons]
    have := ih fun p hp => h p (List.mem_cons_of_mem _ hp)
    by_cases c : k = q.1
    · rw [if_pos c]
      have := h q List.mem_cons_self c.symm
      omega
    · rw [if_neg c]
      omega
theorem two_form : ∀ n : Fin 6, ∀ l ∈ subsF n.1, l.length = 2 → l = [l.getD 0 0, l.getD 1 0] ∧ l.getD 0 0 < l.getD 1 0 ∧ l.getD 1 0 < n.1 := by decide +kernel
theorem trA_val {n c x y : Nat} {l : List Nat} {v : Int} (n5 : n ≤ 5) (nc : n ≤ c) (hl : l ∈ subsF n) (e : l.length = 3) (xy : x < y) (yn : y < n) : valL (trA l v c) [x, y] = abv x y (l, v) := by
  obtain ⟨a, b, d, rfl, ab, bd, dn, _⟩ := three n5 hl e
  have yc : ¬ y = c := by omega
  have e1 : ∀ p q : Nat, ([x, y] = [p, q]) = (x = p ∧ y = q) := fun p q => by simp
  have e2 : ∀ p : Nat, ([x, y] = [p]) = False := fun p => by simp
  have er : abv x y ([a, b, d], v) = if (x = a ∧ y = b) ∨ (x = a ∧ y = d) ∨ (x = b ∧ y = d) then mxI v else 0 := by
    unfold abv
    simp only
    rw [if_neg (by simp), Int.zero_add]
    have k : (([a, b, d] : List Nat).length = 3 ∧ x ∈ [a, b, d] ∧ y ∈ [a, b, d]) ↔ ((x = a ∧ y = b) ∨ (x = a ∧ y = d) ∨ (x = b ∧ y = d)) := by
      simp
      omega
    by_cases c : (x = a ∧ y = b) ∨ (x = a ∧ y = d) ∨ (x = b ∧ y = d)
    · rw [if_pos c, if_pos (k.mpr c)]
    · rw [if_neg c, if_neg fun z => c (k.mp z)]
  rw [er]
  unfold trA mxI
  rw [pr3 ab bd]
  have v0 : valL [] [x, y] = 0 := rfl
  by_cases cv : v < 0
  · rw [if_pos cv, if_neg (by omega : ¬ v > 0)]
    simp only [List.map_cons, List.map_nil, List.cons_append, List.nil_append, valL_cons, e1, e2, v0]
    simp [yc]
  · rw [if_neg cv]
    have ev : (if v > 0 then v else 0) = v := by split <;> omega
    rw [ev]
    simp only [List.map_cons, List.map_nil, List.cons_append, List.nil_append, valL_cons, e1, e2, v0]
    have na : ¬ a = b := by omega
    have nb : ¬ b = d := by omega
    by_cases h1 : x = a
    · subst h1
      by_cases h2 : y = b
      · subst h2; simp [na, nb, yc]
      · simp [h2, na, yc]
    · by_cases h2 : x = b
      · subst h2; simp [h1, yc]
      · simp [h1, h2, yc]
theorem adds_val {n x y : Nat} (n5 : n ≤ 5) (xy : x < y) (yn : y < n) : ∀ {L : Mp} {c : Nat}, n ≤ c → (∀ q ∈ L, q.1 ∈ subsF n) → valL (addsF c L) [x, y] = aboveM L x y
  | [], _, _, _ => rfl
  | q :: L, c, nc, ok => by
    have ok2 := fun p hp => ok p (List.mem_cons_of_mem q hp)
    have hq := ok q List.mem_cons_self
    rw [adds_cons]
    show _ = ((q :: L).map (abv x y)).sum
    rw [List.map_cons, List.sum_cons]
    by_cases e : q.1.length = 3
    · rw [if_pos e, valL_app, trA_val n5 nc hq e xy yn, adds_val n5 xy yn (by omega) ok2]
      rfl
    · rw [if_neg e, valL_cons, adds_val n5 xy yn nc ok2]
      have ea : abv x y q = if [x, y] = q.1 then q.2 else 0 := by
        unfold abv
        rw [if_neg (fun z : q.1.length = 3 ∧ x ∈ q.1 ∧ y ∈ q.1 => e z.1), Int.add_zero]
        by_cases h : q.1 = [x, y]
        · rw [if_pos h, if_pos h.symm]
        · rw [if_neg h, if_neg fun z => h z.symm]
      rw [ea]
      rfl
theorem Prd.bent {n : Nat} {L R : Mp} (n5 : n ≤ 5) (ok : okM n L) (pd : Prd n L R) : (R.all fun p => !(decide (p.1.length = 2) && decide (0 < p.2))) = pairsB n L := by
  rw [Bool.eq_iff_iff, List.all_eq_true]
  constructor
  · refine fun h => pairs_true fun x y xy yn => ?_
    by_cases c : 0 < aboveM L x y
    · have m : ([x, y], aboveM L x y) ∈ R := (pd.mem _).mpr ⟨(adds_val n5 xy yn (Nat.le_refl n) ok.1).symm, by show aboveM L x y ≠ 0; omega⟩
      have := h _ m
      simp at this
      omega
    · omega
  · intro h p hp
    by_cases l2 : p.1.length = 2
    · obtain ⟨e, nz⟩ := (pd.mem p).mp hp
      have le : p.2 ≤ 0 := by
        rw [e]
        by_cases s : p.1 ∈ subsF n
        · obtain ⟨f1, f2, f3⟩ := two_form ⟨n, by omega⟩ p.1 s l2
          simp only at f3
          rw [f1, adds_val n5 f2 f3 (Nat.le_refl n) ok.1]
          have z := List.all_eq_true.mp (List.all_eq_true.mp h (p.1.getD 0 0) (List.mem_range.mpr (by omega))) (p.1.getD 1 0) (List.mem_range.mpr f3)
          rw [decide_eq_true f2] at z
          simpa using z
        · refine val_nonpos fun q hq ek => ?_
          obtain ⟨_, _, d⟩ := adds_key n5 (Nat.le_refl n) ok.1 q hq
          rcases d (by rw [ek]; exact l2) with z | z
          · exact absurd (ek ▸ z) s
          · exact z
      rw [decide_eq_false (by omega : ¬ 0 < p.2), Bool.and_false]
      rfl
    · rw [decide_eq_false l2]
      rfl
end CC

namespace CC
open PySem PySem.Spec PyProof.Rows L2 Ek
theorem t_orF {σ : L2.St} {H : Hp} {t u : TT} {Q : Bool → Hp → Prop} (h1 : ∀ Q : Bool → Hp → Prop, Q false H → t σ H Q) (h2 : u σ H Q) : tOr t u σ H Q := by
  refine h1 _ ?_
  show (if false = true then _ else _)
  rw [if_neg (by decide)]
  exact h2
theorem Rws.but {H H' : Hp} {d : Addr} {u : HO} {rs : List Addr} {bss : List (List Int)} (k : ∀ b o, b ≠ d → H b = some o → H' b = some o) (hd : H d = some u) (nt : ∀ xs, u ≠ .tup xs) (x : Rws H rs bss) : Rws H' rs bss := by
  induction x with
  | nil => exact .nil
  | cons h _ ih => exact .cons (k _ _ (ne_of h hd fun z => nt _ z.symm) h) ih
theorem MbT.mv {H H' : Hp} {d : Addr} {u : HO} {ps : List Addr} {L : Mp} (k : ∀ b o, b ≠ d → H b = some o → H' b = some o) (hd : H d = some u) (nt : ∀ xs, u ≠ .tup xs) (x : MbT H ps L) : MbT H' ps L := by
  induction x with
  | nil => exact .nil
  | cons e _ ih =>
    obtain ⟨b, h1, h2⟩ := e
    exact .cons ⟨b, k _ _ (ne_of h1 hd fun z => nt _ z.symm) h1, k _ _ (ne_of h2 hd fun z => nt _ z.symm) h2⟩ ih
theorem rep_in {n : Nat} {b : Int} (h : b = 0 ∨ b = 1) : List.replicate n b ∈ rowsOf n := rows_in (fun x hx => by rw [(List.mem_replicate.mp hx).2]; exact h) List.length_replicate
theorem rep_flat {b : Int} : ∀ k : Nat, (List.replicate k [V.int b]).flatten = (List.replicate k b).map V.int
  | 0 => rfl
  | k + 1 => by rw [List.replicate_succ, List.flatten_cons, rep_flat k, List.replicate_succ, List.map_cons]; rfl
section
variable {P : Program} {w : World} {K : PySem.W.Frag} {mg : Str → Option Value} {base : Heap}
theorem rep_A {H : Hp} {t : Addr} {b : Int} {n : Nat} {Q : VK} (ht : H t = some (.tup [V.int b])) (n1 : 1 ≤ n) (n5 : n ≤ 5) (q : ∀ p H', Same H H' → H' p = some (.tup ((List.replicate n b).map V.int)) → Q (.ref p) H') : rRepTA K (.ref t) (.int (n : Nat)) H Q := by
  by_cases e : n = 1
  · subst e
    exact .inr ⟨t, _, rfl, rfl, tl ht, q t H (Same.refl H) ht⟩
  · refine .inl ⟨t, (n : Nat), _, rfl, rfl, tl ht, by simp, by omega, by omega, by show 1 ≤ 1000; decide, fun p np => q p _ (same_upd np) ?_⟩
    rw [upd_same, Int.toNat_natCast, rep_flat]
theorem atI_end {α : Type} {xs : List α} {v : α} (h : xs.getLast? = some v) : atI xs (-1) = some v := by
  obtain ⟨ys, e⟩ := List.getLast?_eq_some_iff.mp h
  rw [e]
  exact atI_last ys v
def spLI2 : Sp := fun vs H Q _ => ∃ (t : Addr) (ps : List Addr) (R : Mp) (c : Nat), vs = [.ref t, .int c] ∧ H t = some (.tup (ps.map V.ref)) ∧ MbT H ps R ∧ (∀ q ∈ R, q.1.length ≤ 2 ∧ ∀ x ∈ q.1, x < c) ∧ ∀ H', Same H H' → Q (.bl true) H'
theorem ok_LI2 {f : Addr} {fd : FuncData} (F : Fun K "_law_is_sum" "_law_is_sum" sLI2 f fd) (B : Bt mg) : FnOk P w K mg base CX0 1 f fd ["value", "count"] spLI2 := by
  refine F.ok scLI2 (fun vs H Q E h => ?_) (fun cdv A outer s H vs Q E hr h => ?_)
  · obtain ⟨t, ps, R, c, rfl, _⟩ := h
    rfl
  · obtain ⟨t, ps, R, c, rfl, ht, mb, kb, q⟩ := h
    refine ⟨_, (pss_cons (ps_if (pt_not (pt_val (pe_callB call_isi (by rfl) B.isinstance (by decide +kernel) (pa_cons (pv 0) (pa_cons (pe_bltn (v := .ty "tuple") (by rfl) B.tuple (by decide +kernel) rfl) pa_nil)))))
      (pss_one (ps_ret pe_bl)) pss_nil)
      (pss_cons (ps_for PassesOwn.never rfl (pi_tup (pv 0)) (pg_name (i := 2) scLI2.nd rfl (.inl rfl))
      (pss_cons (ps_if (PW.pt (pw_or (pt_not (pt_val (pe_callB call_isi (by rfl) B.isinstance (by decide +kernel) (pa_cons (pv 2) (pa_cons (pe_bltn (v := .ty "tuple") (by rfl) B.tuple (by decide +kernel) rfl) pa_nil))))) (pw_or (pt_cmpR op_ne (pe_callB call_len_seq (by rfl) B.len PySem.boot_len (pa_cons (pv 2) pa_nil)) pe_int (nomark _)) (pw_or (pt_not (pt_val (pe_callB call_isi (by rfl) B.isinstance (by decide +kernel) (pa_cons (pe_ix ix_tup (pv 2) pe_int (fun _ _ => rfl)) (pa_cons (pe_bltn (v := .ty "tuple") (by rfl) B.tuple (by decide +kernel) rfl) pa_nil))))) (pw_or1 (pt_cmpR op_gt (pe_callB call_len_seq (by rfl) B.len PySem.boot_len (pa_cons (pe_ix ix_tup (pv 2) pe_int (fun _ _ => rfl)) pa_nil)) pe_int (nomark _)))))))
      (pss_one (ps_ret pe_bl)) pss_nil)
      (pss_cons (ps_for PassesOwn.never rfl (pi_tup (pe_op op_catA (pe_ix ix_tup (pv 2) pe_int (fun _ _ => rfl)) (pe_tup (pa_cons (pe_ix ix_tup (pv 2) pe_int (fun _ _ => rfl)) pa_nil)))) (pg_name (i := 3) scLI2.nd rfl (.inl rfl))
      (pss_one (ps_if (PW.pt (pw_or (pt_not (pt_val (pe_callB call_isi (by rfl) B.isinstance (by decide +kernel) (pa_cons (pv 3) (pa_cons (pe_bltn (v := .ty "int") (by rfl) B.int (by decide +kernel) rfl) pa_nil))))) (pw_or1 (pt_val (pe_callB call_isi (by rfl) B.isinstance (by decide +kernel) (pa_cons (pv 3) (pa_cons (pe_bltn (v := .ty "bool") (by rfl) B.bool (by decide +kernel) rfl) pa_nil)))))))
      (pss_one (ps_ret pe_bl)) pss_nil)))
      (pss_one (ps_if (PW.pt (pw_and (pt_cmpR op_gt (pe_callB call_len_seq (by rfl) B.len PySem.boot_len (pa_cons (pe_ix ix_tup (pv 2) pe_int (fun _ _ => rfl)) pa_nil)) pe_int (nomark _)) (pw_and1 (PW.pt (pw_or (pt_cmpR op_lt (pe_ix ix_tup (pe_ix ix_tup (pv 2) pe_int (fun _ _ => rfl)) pe_int (fun _ _ => rfl)) pe_int (nomark _)) (pw_or1 (pt_cmpR op_ge (pe_ix ix_tup (pe_ix ix_tup (pv 2) pe_int (fun _ _ => rfl)) (pe_un un_neg pe_int) (fun _ _ => rfl)) (pv 1) (nomark _))))))))
      (pss_one (ps_ret pe_bl)) pss_nil)))))
      (pss_one (ps_ret pe_bl)))), ?_⟩
    refine q_seq (q_if ?_)
    refine ⟨.ref t, rfl, _, _, _, _, true, rfl, .ty _, .base (.tup ht), kit_ty (by decide +kernel), true, rfl, ?_⟩
    refine ite2 (fun z => by cases z) (fun _ => ?_)
    refine q_next ?_
    dsimp only
    refine q_seq ?_
    refine ⟨.ref t, rfl, t, rfl, ⟨_, tl ht⟩, for_tup (K := K) (a := t) (xs := ps.map V.ref) (fun i σ H' => Same H H' ∧ ∃ x2 x3 : Option V, σ = [some (.ref t), some (.int c), x2, x3]) ⟨Same.refl H, none, none, rfl⟩ (fun i σ H' _ hP => tl (hP.1 _ _ ht)) (fun i x σ H' hx hP => ?_) (fun σ H' hP => ?_)⟩
    · obtain ⟨s', x2, x3, rfl⟩ := hP
      obtain ⟨p, ⟨l, v⟩, b, rfl, hq, hp, hb⟩ := mbt_at mb hx
      obtain ⟨l2, lc⟩ := kb _ (List.mem_of_getElem? hq)
      simp only at hp hb l2 lc
      have hp' := s' _ _ hp
      have hb' := s' _ _ hb
      have ix0 : ∀ {H2 : Hp}, Same H' H2 → SqT K H2 p [.ref b, .int v] := fun s => tl (s _ _ hp')
      refine q_seq (q_if (t_orF (fun Q hQ => ⟨.ref p, rfl, _, _, _, _, true, rfl, .ty _, .base (.tup hp'), kit_ty (by decide +kernel), true, rfl, hQ⟩) (t_orF (fun Q hQ => ⟨.ref p, rfl, p, _, rfl, .inr (tl hp'), rfl, _, rfl, hQ⟩) (t_orF (fun Q hQ => ⟨.ref p, rfl, p, _, 0, .ref b, rfl, rfl, tl hp', at_z (j := 0) rfl rfl, _, _, _, _, true, rfl, .ty _, .base (.tup hb'), kit_ty (by decide +kernel), true, rfl, hQ⟩) ⟨.ref p, rfl, p, _, 0, .ref b, rfl, rfl, tl hp', at_z (j := 0) rfl rfl, b, _, rfl, .inr (tl hb'), _, _, rfl, rfl, _, rfl, ?_⟩))))
      rw [decide_eq_false (show ¬ (2 : Int) < (((lV l).length : Nat) : Int) by rw [List.length_map]; omega)]
      refine ite2 (fun z => by cases z) (fun _ => ?_)
      refine q_next ?_
      dsimp only
      refine q_seq ?_
      refine ⟨.ref p, rfl, p, _, 0, .ref b, rfl, rfl, tl hp', at_z (j := 0) rfl rfl, .ref p, rfl, p, _, 1, .int v, rfl, rfl, tl hp', at_z (j := 1) rfl rfl, by show 1 ≤ sizeLine; decide, fun t1 nt1 => ?_⟩
      have s1 := same_upd (o := .tup [V.int v]) nt1
      refine cat_S (tl (s1 _ _ hb')) (tl upd_same) (by rw [List.length_map]; show l.length + 1 ≤ 1000; omega) fun t2 H2 s2 h2 => ?_
      have s12 := s1.trans s2
      refine ⟨t2, rfl, ⟨_, h2⟩, for_tup (K := K) (a := t2) (xs := lV l ++ [V.int v]) (fun j σ H3 => Same H2 H3 ∧ ∃ x3 : Option V, σ = [some (.ref t), some (.int c), some (.ref p), x3]) ⟨Same.refl _, _, rfl⟩ (fun j σ H3 _ hR => sqT_same hR.1 h2) (fun j y σ H3 hy hR => ?_) (fun σ H3 hR => ?_)⟩
      · obtain ⟨s3, y3, rfl⟩ := hR
        obtain ⟨u, rfl⟩ : ∃ u : Int, y = .int u := by
          have my := List.mem_of_getElem? hy
          rcases List.mem_append.mp my with z | z
          · obtain ⟨x, _, rfl⟩ := List.mem_map.mp z
            exact ⟨_, rfl⟩
          · exact ⟨v, List.mem_singleton.mp z⟩
        refine q_if (t_orF (fun Q hQ => ⟨.int u, rfl, _, _, _, _, true, rfl, .ty _, .base (.int _), kit_ty (by decide +kernel), true, rfl, hQ⟩) ⟨.int u, rfl, _, _, _, _, false, rfl, .ty _, .base (.int _), kit_ty (by decide +kernel), false, rfl, ?_⟩)
        refine ite2 (fun z => by cases z) (fun _ => ?_)
        refine q_next ?_
        exact ⟨s3, _, rfl⟩
      · obtain ⟨s3, y3, rfl⟩ := hR
        have s' := s'.trans (s12.trans s3)
        have hp3 := s12.trans s3 _ _ hp'
        have hb3 := s12.trans s3 _ _ hb'
        dsimp only
        refine q_if ?_
        refine ⟨.ref p, rfl, p, _, 0, .ref b, rfl, rfl, tl hp3, at_z (j := 0) rfl rfl, b, _, rfl, .inr (tl hb3), _, _, rfl, rfl, _, rfl, ?_⟩
        refine ite2 (fun z => ?_) (fun z => ?_)
        · have ln : 0 < l.length := by
            have := of_decide_eq_true z
            rw [List.length_map] at this
            omega
          have g0 : (lV l)[0]? = some (V.int (l[0] : Nat)) := by rw [lV, List.getElem?_map, List.getElem?_eq_getElem ln]; rfl
          have ge : (lV l).getLast? = some (V.int ((l.getLast (by intro z; rw [z] at ln; cases ln) : Nat) : Int)) := by rw [lV, List.getLast?_map, List.getLast?_eq_some_getLast]; rfl
          have lt := lc _ (List.getLast_mem (show l ≠ [] by intro z; rw [z] at ln; cases ln))
          refine t_orF (fun Q hQ => ⟨.ref p, rfl, p, _, 0, .ref b, rfl, rfl, tl hp3, at_z (j := 0) rfl rfl, b, _, 0, _, rfl, rfl, tl hb3, at_z (j := 0) rfl g0, _, _, rfl, rfl, _, rfl, by rw [decide_eq_false (show ¬ ((l[0] : Nat) : Int) < 0 by omega)]; exact hQ⟩) ⟨.ref p, rfl, p, _, 0, .ref b, rfl, rfl, tl hp3, at_z (j := 0) rfl rfl, _, rfl, b, _, -1, _, rfl, rfl, tl hb3, atI_end ge, .int c, rfl, _, _, rfl, rfl, _, rfl, ?_⟩
          rw [decide_eq_false (by omega)]
          refine ite2 (fun z => by cases z) (fun _ => ?_)
          refine q_next ?_
          exact ⟨s', _, _, rfl⟩
        · refine q_next ?_
          exact ⟨s', _, _, rfl⟩
    · obtain ⟨s', x2, x3, rfl⟩ := hP
      dsimp only
      refine q_ret ?_
      exact q H' s'
end
end CC

namespace CC
open PySem PySem.Spec PyProof.Rows L2 Ek
def spLaw (K : PySem.W.Frag) : Sp := fun vs H Q _ => ∃ (a : Addr) (ns : List Int), vs = [.ref a] ∧ SqL K H a (ns.map V.int) ∧ ns.length ≤ 63 ∧ ∀ H', Q (.bl true) H'
theorem len3_take {L : Mp} {i : Nat} {q : List Nat × Int} (h : L[i]? = some q) : (L.take (i + 1)).filter (fun p => decide (p.1.length = 3)) = (L.take i).filter (fun p => decide (p.1.length = 3)) ++ (if q.1.length = 3 then [q] else []) := by
  rw [List.take_add_one, h, List.filter_append]
  congr 1
  by_cases c : q.1.length = 3
  · rw [if_pos c]
    exact List.filter_cons_of_pos (by simpa using c)
  · rw [if_neg c]
    exact List.filter_cons_of_neg (by simpa using c)
section
variable {P : Program} {w : World} {K : PySem.W.Frag} {mg : Str → Option Value} {base : Heap}
theorem ok_law {f : Addr} {fd : FuncData} (F : Fun K "law" "law" sLaw f fd) (B : Bt mg) {fSte : Addr} {fdSte : FuncData} (GSte : FnOk P w K mg base CX0 1 fSte fdSte ["script"] (spSte K)) (kSte : PySem.W.keepIn K (.ref fSte) = true) (bSte : Binds K fdSte ["script"] []) (gSte : mg "_law_state" = some (.ref fSte)) {fDrw : Addr} {fdDrw : FuncData} (GDrw : FnOk P w K mg base CX0 1 fDrw fdDrw ["script", "state", "many"] (spDrw K)) (kDrw : PySem.W.keepIn K (.ref fDrw) = true) (bDrw : Binds K fdDrw ["script", "state", "many"] []) (gDrw : mg "_law_draw" = some (.ref fDrw)) {fPck : Addr} {fdPck : FuncData} (GPck : FnOk P w K mg base CX0 2 fPck fdPck ["script", "state", "things"] (spPck K)) (kPck : PySem.W.keepIn K (.ref fPck) = true) (bPck : Binds K fdPck ["script", "state", "things"] []) (gPck : mg "_law_pick" = some (.ref fPck)) {fLD2 : Addr} {fdLD2 : FuncData} (GLD2 : FnOk P w K mg base CX0 4 fLD2 fdLD2 ["script", "state", "count", "most", "triples"] (spLD2 K)) (kLD2 : PySem.W.keepIn K (.ref fLD2) = true) (bLD2 : Binds K fdLD2 ["script", "state", "count", "most", "triples"] []) (gLD2 : mg "_law_drawn_sum" = some (.ref fLD2)) {fMdB : Addr} {fdMdB : FuncData} (GMdB : FnOk P w K mg base CX0 3 fMdB fdMdB ["script", "state", "told", "count"] (spMdB K)) (kMdB : PySem.W.keepIn K (.ref fMdB) = true) (bMdB : Binds K fdMdB ["script", "state", "told", "count"] []) (gMdB : mg "_law_made_bent" = some (.ref fMdB)) {fPSm : Addr} {fdPSm : FuncData} (GPSm : FnOk P w K mg base CX0 6 fPSm fdPSm ["told", "letter_count"] (spPSm K)) (kPSm : PySem.W.keepIn K (.ref fPSm) = true) (bPSm : Binds K fdPSm ["told", "letter_count"] []) (gPSm : mg "paired_sum" = some (.ref fPSm)) {fLI2 : Addr} {fdLI2 : FuncData} (GLI2 : FnOk P w K mg base CX0 1 fLI2 fdLI2 ["value", "count"] spLI2) (kLI2 : PySem.W.keepIn K (.ref fLI2) = true) (bLI2 : Binds K fdLI2 ["value", "count"] []) (gLI2 : mg "_law_is_sum" = some (.ref fLI2)) {fRws2 : Addr} {fdRws2 : FuncData} (GRws2 : FnOk P w K mg base CX0 1 fRws2 fdRws2 ["count"] spRws2) (kRws2 : PySem.W.keepIn K (.ref fRws2) = true) (bRws2 : Binds K fdRws2 ["count"] []) (gRws2 : mg "_law_rows" = some (.ref fRws2)) {fLWo : Addr} {fdLWo : FuncData} (GLWo : FnOk P w K mg base CX0 1 fLWo fdLWo ["told", "row"] (spLWo K)) (kLWo : PySem.W.keepIn K (.ref fLWo) = true) (bLWo : Binds K fdLWo ["told", "row"] []) (gLWo : mg "_law_worth" = some (.ref fLWo)) {fBbR : Addr} {fdBbR : FuncData} (GBbR : FnOk P w K mg base CX0 2 fBbR fdBbR ["told", "count"] (spBbR K)) (kBbR : PySem.W.keepIn K (.ref fBbR) = true) (bBbR : Binds K fdBbR ["told", "count"] []) (gBbR : mg "_law_bent_by_rows" = some (.ref fBbR)) : FnG P w K mg base CX0 7 f fd ["script"] (spLaw K) := by
  refine okG F scLaw (fun vs H Q E h => ?_) (fun cdv A outer s0 H vs Q E hr gd h => ?_)
  · obtain ⟨a, ns, rfl, _⟩ := h
    rfl
  · obtain ⟨s, ns, rfl, hS, l63, q⟩ := h
    refine ⟨_, (pss_cons (ps_set (i := 1) scLaw.nd rfl (.inr rfl) (pe_call GSte (hr.mono (by decide)) (by rfl) gSte kSte bSte .nil pass0 (pa_cons (pv 0) pa_nil)))
      (pss_cons (ps_set (i := 2) scLaw.nd rfl (.inr rfl) (pe_op op_add pe_int (pe_call GDrw (hr.mono (by decide)) (by rfl) gDrw kDrw bDrw .nil pass0 (pa_cons (pv 0) (pa_cons (pv 1) (pa_cons pe_int pa_nil))))))
      (pss_cons (ps_set (i := 3) scLaw.nd rfl (.inl rfl) (pe_call GLD2 (hr.mono (by decide)) (by rfl) gLD2 kLD2 bLD2 .nil pass0 (pa_cons (pv 0) (pa_cons (pv 1) (pa_cons (pv 2) (pa_cons pe_int (pa_cons pe_int pa_nil)))))))
      (pss_cons (ps_if (pt_cmpR op_eq (pe_call GDrw (hr.mono (by decide)) (by rfl) gDrw kDrw bDrw .nil pass0 (pa_cons (pv 0) (pa_cons (pv 1) (pa_cons pe_int pa_nil)))) pe_int (nomark _))
      (pss_one (ps_set (i := 3) scLaw.nd rfl (.inl rfl) (pe_call GMdB (hr.mono (by decide)) (by rfl) gMdB kMdB bMdB .nil pass0 (pa_cons (pv 0) (pa_cons (pv 1) (pa_cons (pv 3) (pa_cons (pv 2) pa_nil))))))) pss_nil)
      (pss_cons (ps_set (i := 4) scLaw.nd rfl (.inl rfl) (pe_call GPSm (hr.mono (by decide)) (by rfl) gPSm kPSm bPSm .nil pass0 (pa_cons (pv 3) (pa_cons (pv 2) pa_nil))))
      (pss_cons (ps_if (PW.pt (pw_or (pt_not (pt_val (pe_callB call_isi (by rfl) B.isinstance (by decide +kernel) (pa_cons (pv 4) (pa_cons (pe_bltn (v := .ty "tuple") (by rfl) B.tuple (by decide +kernel) rfl) pa_nil))))) (pw_or1 (pt_cmpR op_ne (pe_callB call_len_seq (by rfl) B.len PySem.boot_len (pa_cons (pv 4) pa_nil)) pe_int (nomark _)))))
      (pss_one (ps_ret pe_bl)) pss_nil)
      (pss_cons (ps_asg (pv 4) (pg_tup (by rfl) (pgs_cons (pg_name (i := 5) scLaw.nd rfl (.inr rfl)) (pgs_cons (pg_name (i := 6) scLaw.nd rfl (.inl rfl)) pgs_nil))))
      (pss_cons (ps_set (i := 9) scLaw.nd rfl (.inl rfl) (pe_callB call_len_seq (by rfl) B.len PySem.boot_len (pa_cons (pe_lc (own := [("letters", 7), ("number", 8)]) rfl scLaw.nd (pi_tup (pv 3)) (blkOk_by (N := NLaw) (sc := defScope sLaw) (by decide +kernel)) (fun _ _ _ _ _ => (pg_tupk (n := 2) K rfl rfl (pgs_cons (pg_name (i := 7) scLaw.nd rfl (Or.inl rfl)) (pgs_cons (pg_name (i := 8) scLaw.nd rfl (Or.inl rfl)) pgs_nil)))) (fun _ _ _ _ _ => pts_one (pt_cmpR op_eq (pe_callB (call_lenk K rfl) (by rfl) B.len PySem.boot_len (pa_cons (pv 7) pa_nil)) pe_int (nomark _))) (fun _ _ _ _ _ => (pv 7))) pa_nil)))
      (pss_cons (ps_if (PW.pt (pw_or (pt_not (pt_val (pe_callB call_isi (by rfl) B.isinstance (by decide +kernel) (pa_cons (pv 6) (pa_cons (pe_bltn (v := .ty "int") (by rfl) B.int (by decide +kernel) rfl) pa_nil))))) (pw_or (pt_cmpR op_ne (pv 6) (pe_op op_add (pv 2) (pv 9)) (nomark _)) (pw_or1 (pt_not (pt_val (pe_call GLI2 (hr.mono (by decide)) (by rfl) gLI2 kLI2 bLI2 .nil pass0 (pa_cons (pv 5) (pa_cons (pv 6) pa_nil)))))))))
      (pss_one (ps_ret pe_bl)) pss_nil)
      (pss_cons (ps_set (i := 10) scLaw.nd rfl (.inl rfl) (pe_op op_cat (pe_lc (own := [("k", 14)]) (g := gName 14) (tt := tYes) rfl scLaw.nd (pi_range1 rfl B.range (pa_cons pe_int pa_nil)) (blkOk_by (N := NLaw) (sc := defScope sLaw) (by decide +kernel)) (fun _ _ _ _ _ => pg_name (i := 14) scLaw.nd rfl (Or.inl rfl)) (fun _ _ _ _ _ => pts_nil) (fun _ _ _ _ _ => (pe_call GPck (hr.mono (by decide)) (by rfl) gPck kPck bPck .nil pass0 (pa_cons (pv 0) (pa_cons (pv 1) (pa_cons (pe_call GRws2 (hr.mono (by decide)) (by rfl) gRws2 kRws2 bRws2 .nil pass0 (pa_cons (pv 2) pa_nil)) pa_nil)))))) (pe_lst (pa_cons (pe_op op_repTA (pe_tup (pa_cons pe_int pa_nil)) (pv 2)) (pa_cons (pe_op op_repTA (pe_tup (pa_cons pe_int pa_nil)) (pv 2)) pa_nil)))))
      (pss_cons (ps_for PassesOwn.never rfl (pi_list (pv 10)) (pg_name (i := 11) scLaw.nd rfl (.inr rfl))
      (pss_cons (ps_set (i := 12) scLaw.nd rfl (.inl rfl) (pe_callB (cr_min rfl) (by rfl) B.min (by decide +kernel) (pa_cons (pe_lc (own := [("more", 15)]) (g := gName 15) (tt := tYes) rfl scLaw.nd (pi_list (pe_call GRws2 (hr.mono (by decide)) (by rfl) gRws2 kRws2 bRws2 .nil pass0 (pa_cons (pv 9) pa_nil))) (blkOk_by (N := NLaw) (sc := defScope sLaw) (by decide +kernel)) (fun _ _ _ _ _ => pg_name (i := 15) scLaw.nd rfl (Or.inl rfl)) (fun _ _ _ _ _ => pts_nil) (fun _ _ _ _ _ => (pe_call GLWo (hr.mono (by decide)) (by rfl) gLWo kLWo bLWo .nil pass0 (pa_cons (pv 5) (pa_cons (pe_op (op_catAk K rfl) (pv 11) (pv 15)) pa_nil))))) pa_nil)))
      (pss_one (ps_if (pt_cmpR op_ne (pv 12) (pe_call GLWo (hr.mono (by decide)) (by rfl) gLWo kLWo bLWo .nil pass0 (pa_cons (pv 3) (pa_cons (pv 11) pa_nil))) (nomark _))
      (pss_one (ps_ret pe_bl)) pss_nil))))
      (pss_cons (ps_set (i := 13) scLaw.nd rfl (.inl rfl) pe_bl)
      (pss_cons (ps_for PassesOwn.never rfl (pi_tup (pv 5)) (pg_tup (by rfl) (pgs_cons (pg_name (i := 7) scLaw.nd rfl (.inl rfl)) (pgs_cons (pg_name (i := 8) scLaw.nd rfl (.inl rfl)) pgs_nil)))
      (pss_one (ps_if (PW.pt (pw_and (pt_cmpR op_eq (pe_callB call_len_seq (by rfl) B.len PySem.boot_len (pa_cons (pv 7) pa_nil)) pe_int (nomark _)) (pw_and1 (pt_cmpR op_gt (pv 8) pe_int (nomark _)))))
      (pss_one (ps_set (i := 13) scLaw.nd rfl (.inl rfl) pe_bl)) pss_nil)))
      (pss_one (ps_ret (pe_cmpR op_eq (pv 13) (pe_call GBbR (hr.mono (by decide)) (by rfl) gBbR kBbR bBbR .nil pass0 (pa_cons (pv 3) (pa_cons (pv 2) pa_nil))) (nomark _))))))))))))))))), ?_⟩
    -- state
    refine q_seq (q_set ?_)
    refine ⟨.ref s, rfl, s, ns, rfl, hS, l63, fun H1 st s1 nst sta1 => ?_⟩
    dsimp only
    -- count
    refine q_seq (q_set ?_)
    refine ⟨.ref s, rfl, .ref st, rfl, s, st, ns, 5, rfl, by decide, by decide, l63, sta1, fun r H2 r0 r1 kp2 sta2 => ⟨_, _, rfl, rfl, ?_⟩⟩
    obtain ⟨n, hn⟩ : ∃ n : Nat, 1 + r = (n : Int) := ⟨(1 + r).toNat, by omega⟩
    have n1 : 1 ≤ n := by omega
    have n5 : n ≤ 5 := by omega
    clear kp2 s1
    dsimp only
    rw [hn]
    -- told
    refine q_seq (q_set ?_)
    refine ⟨.ref s, rfl, .ref st, rfl, .int n, rfl, s, st, ns, n, 10, 3, rfl, l63, n5, by decide, by decide, sta2, fun H3 t ps L kp3 sta3 ht mb td => ?_⟩
    dsimp only
    clear kp3
    refine q_seqJ (fun σ H4 => Sta K ns s st H4 ∧ ∃ (t : Addr) (ps : List Addr) (L : Mp) (b : Int), H4 t = some (.tup (ps.map V.ref)) ∧ MbT H4 ps L ∧ Tld n 50 3 b L ∧ σ = [some (.ref s), some (.ref st), some (.int n), some (.ref t), none, none, none, none, none, none, none, none, none, none, none, none]) (fun σ H4 hJ => ?_) (fun J => ?_)
    · obtain ⟨sta4, t, ps, L, b, ht, mb, td, rfl⟩ := hJ
      have ok := td.ok
      have l50 := td.le
      have t3 := td.tr
      have lx : ∀ q ∈ L, ∀ x ∈ q.1, x < n := fun q hq => below ⟨n, by omega⟩ q.1 (ok.1 q hq)
      refine q_seq (q_set ?_)
      refine ⟨.ref t, rfl, .int n, rfl, t, ps, L, n, 3, b, rfl, n5, by decide, ht, mb, ⟨td.ok, td.up, td.nz, td.bd, by omega, td.tr⟩, fun H5 a r qs R s5 ha hr mbR up mem => ?_⟩
      have pd : Prd n L R := ⟨up, mem⟩
      have rk := pd.key n5 ok
      have sta5 := sta4.same s5
      have ht5 := s5 _ _ ht
      have mb5 := mb.same s5
      clear s5 ht mb sta4 mem up
      dsimp only
      -- the answer is a pair
      refine q_seq (q_if (t_orF (fun Q hQ => ⟨.ref a, rfl, _, _, _, _, true, rfl, .ty _, .base (.tup ha), kit_ty (by decide +kernel), true, rfl, hQ⟩) ⟨.ref a, rfl, a, _, rfl, .inr (tl ha), rfl, _, rfl, ?_⟩))
      refine ite2 (fun z => ?_) (fun _ => ?_)
      · rw [dInt] at z
        simp at z
      refine q_next ?_
      dsimp only
      refine q_seq ?_
      refine ⟨.ref a, rfl, a, _, rfl, tl ha, rfl, _, _, rfl, _, _, rfl, rfl, ?_⟩
      dsimp only
      -- triples
      refine q_seq (q_set ?_)
      refine ⟨.ref t, rfl, t, rfl, ⟨_, tl ht5⟩, fun D nD => lc_tup (K := K) (a := t) (xs := ps.map V.ref) (fun i H' => Same H5 H' ∧ ∃ bs : List Addr, H' D = some (.lst (bs.map V.ref)) ∧ bs.length = triM (L.take i)) ⟨same_upd nD, [], upd_same, rfl⟩ (fun i H' _ hP => tl (hP.1 _ _ ht5)) (fun i x H' hx hP => ?_) (fun H6 hP => ?_)⟩
      · obtain ⟨s', bs, hD, lb⟩ := hP
        obtain ⟨p, ⟨l, v⟩, b2, rfl, hq, hp, hb⟩ := mbt_at mb5 hx
        simp only at hp hb
        have il := (List.getElem?_eq_some_iff.mp hq).1
        have te := tri_take hq
        have tle := tri_le (L := L) (i := i)
        refine ⟨p, _, rfl, tl (s' _ _ hp), rfl, _, _, rfl, _, _, rfl, rfl, ?_⟩
        refine ⟨rfl, .ref b2, rfl, b2, _, rfl, .inr (tl (s' _ _ hb)), rfl, _, rfl, ?_⟩
        rw [dInt, List.length_map]
        refine ite2 (fun c => ?_) (fun c => ?_)
        · have c' : l.length = 3 := by have := of_decide_eq_true c; omega
          refine ⟨.ref b2, rfl, _, hD, by rw [List.length_map]; exact small1000 (by omega), fun c o e => ?_, bs ++ [b2], by rw [upd_same, List.map_append]; rfl, ?_⟩
          · rw [upd_ne (ne_of_none e nD)]
            exact s' _ _ e
          · rw [te, if_pos c', List.length_append, lb]; rfl
        · have c' : ¬ l.length = 3 := fun z => c (decide_eq_true (by omega))
          exact ⟨s', bs, hD, by rw [te, if_neg c', lb]; rfl⟩
      obtain ⟨s6, bs6, hD6, lb6⟩ := hP
      have el : L.take (ps.map V.ref).length = L := by rw [List.length_map, paired_len mb5, List.take_length]
      rw [el] at lb6
      refine ⟨D, _, rfl, .inl (sl hD6), ?_⟩
      rw [List.length_map, lb6]
      have ha6 := s6 _ _ ha
      have hr6 := s6 _ _ hr
      have ht6 := s6 _ _ ht5
      have mbR6 := mbR.same s6
      have mb6 := mb5.same s6
      have sta6 := sta5.same s6
      clear s6 hD6 ha hr ht5 mbR mb5 sta5 nD
      generalize htr : triM L = tr at *
      dsimp only
      -- many
      refine q_seq (q_if (t_orF (fun Q hQ => ⟨_, rfl, _, _, _, _, true, rfl, .ty _, .base (.int _), kit_ty (by decide +kernel), true, rfl, hQ⟩) (t_orF (fun Q hQ => ⟨_, rfl, .int n, rfl, .int tr, rfl, _, _, rfl, rfl, rfl, _, rfl, by rw [dInt, decide_eq_true (by omega)]; exact hQ⟩) ⟨.ref r, rfl, _, rfl, r, qs, R, n + tr, rfl, hr6, mbR6, rk, fun H7 s7 => ⟨true, rfl, ?_⟩⟩)))
      refine ite2 (fun z => by cases z) (fun _ => ?_)
      refine q_next ?_
      have hr7 := s7 _ _ hr6
      have ht7 := s7 _ _ ht6
      have mbR7 := mbR6.same s7
      have mb7 := mb6.same s7
      have sta7 := sta6.same s7
      clear s7 ha6 hr6 ht6 mbR6 mb6 sta6
      dsimp only
      -- rows
      refine q_seq (q_set ?_)
      refine ⟨4, rfl, by decide, by decide, fun D nD => lc_range (lo := 0) (n := 4) (fun i H' => (∀ b o, b ≠ st → H7 b = some o → H' b = some o) ∧ Sta K ns s st H' ∧ ∃ (rs : List Addr) (bss : List (List Int)), H' D = some (.lst (rs.map V.ref)) ∧ Rws H' rs bss ∧ bss.length ≤ i ∧ ∀ b ∈ bss, b ∈ rowsOf n) ⟨fun b o _ e => same_upd nD _ _ e, sta7.same (same_upd nD), [], [], upd_same, .nil, Nat.le_refl _, fun b hb => by cases hb⟩ (fun i H' hi hP => ?_) (fun H8 hP => ?_)⟩
      · have aD := sta7.apt nD
        obtain ⟨k', sta', rs, bss, hD, rw', lb, inb⟩ := hP
        refine ⟨rfl, .ref s, rfl, .ref st, rfl, .int n, rfl, n, rfl, n5, fun H9 p rs2 s9 np hp rw2 => ?_⟩
        have lr2 := paired_len rw2
        have l32 := rows32 n5
        have pos : 0 < (rowsOf n).length := by rw [rows_len]; exact Nat.pow_pos (by decide)
        have sta9 := sta'.same s9
        refine ⟨s, st, p, ns, _, rfl, l63, sta9, hp, (sta'.apt np).2, by rw [List.length_map]; omega, by rw [List.length_map]; omega, fun v HA mv kpA staA => ?_⟩
        obtain ⟨ra, bs, rfl, mbs, hra⟩ := rws_mem rw2 mv
        have kA : ∀ b o, b ≠ st → H9 b = some o → HA b = some o := fun b o nb e => (kpA b nb).trans e
        obtain ⟨_, _, _, _, _, est, _⟩ := id sta9
        have hDA := kA _ _ aD.2 (s9 _ _ hD)
        have raA := kA _ _ (ne_of hra est (by intro z; cases z)) hra
        have rwA := (rw'.same s9).but kA est (fun xs z => by cases z)
        have lrs := paired_len rw'
        refine ⟨_, hDA, by rw [List.length_map]; exact small1000 (by omega), fun b o nb e => ?_, staA.upd aD, rs ++ [ra], bss ++ [bs], by rw [upd_same, List.map_append]; rfl, Rws.updL hDA (paired_app rwA (.cons raA .nil)), by rw [List.length_append]; show _ + 1 ≤ _; omega, fun x hx => ?_⟩
        · rw [upd_ne (ne_of_none e nD)]
          exact kA _ _ nb (s9 _ _ (k' b o nb e))
        · rcases List.mem_append.mp hx with z | z
          · exact inb x z
          · rw [List.mem_singleton.mp z]; exact mbs
      obtain ⟨k8, sta8, rs, bss, hD8, rw8, lb8, inb⟩ := hP
      obtain ⟨_, _, _, _, _, est, _⟩ := id sta7
      have hr8 := k8 _ _ (ne_of hr7 est (by intro z; cases z)) hr7
      have ht8 := k8 _ _ (ne_of ht7 est (by intro z; cases z)) ht7
      have mbR8 := mbR7.mv k8 est (fun xs z => by cases z)
      have mb8 := mb7.mv k8 est (fun xs z => by cases z)
      clear k8 est nD hr7 ht7 mbR7 mb7 sta7
      refine ⟨by show 1 ≤ sizeLine; decide, fun t1 nt1 => ⟨.int n, rfl, ?_⟩⟩
      have e1 := same_upd (o := .tup [V.int 0]) nt1
      refine rep_A upd_same n1 n5 fun p1 HA sA hA => ?_
      refine ⟨by show 1 ≤ sizeLine; decide, fun t2 nt2 => ⟨.int n, rfl, ?_⟩⟩
      have e2 := same_upd (o := .tup [V.int 1]) nt2
      refine rep_A upd_same n1 n5 fun p2 HB sB hB => ?_
      refine ⟨by show 2 ≤ sizeLine; decide, fun E0 nE => ?_⟩
      have e3 := same_upd (o := .lst [V.ref p1, .ref p2]) nE
      have s8 := e1.trans (sA.trans (e2.trans (sB.trans e3)))
      have lrs := paired_len rw8
      refine ⟨D, E0, rs.map V.ref, [.ref p1, .ref p2], rfl, rfl, s8 _ _ hD8, upd_same, by rw [List.length_map]; exact Nat.le_of_lt (small1000 (by show rs.length + 2 ≤ 1000; omega)), fun G nG => ?_⟩
      have e4 := same_upd (o := .lst (rs.map V.ref ++ [V.ref p1, .ref p2])) nG
      have s9 := s8.trans e4
      have rwG := paired_app (rw8.same s9) (.cons (e4 _ _ (e3 _ _ (sB _ _ (e2 _ _ hA)))) (.cons (e4 _ _ (e3 _ _ hB)) .nil))
      have hG : (upd (upd HB E0 (.lst [V.ref p1, .ref p2])) G (.lst (rs.map V.ref ++ [V.ref p1, .ref p2]))) G = some (.lst ((rs ++ [p1, p2]).map V.ref)) := by rw [upd_same, List.map_append]; rfl
      have hrG := s9 _ _ hr8
      have htG := s9 _ _ ht8
      have mbRG := mbR8.same s9
      have mbG := mb8.same s9
      have inG : ∀ x ∈ bss ++ [List.replicate n 0, List.replicate n 1], x ∈ rowsOf n := fun x hx => by
        rcases List.mem_append.mp hx with z | z
        · exact inb x z
        · rcases List.mem_cons.mp z with z | z
          · rw [z]; exact rep_in (.inl rfl)
          · rw [List.mem_singleton.mp z]; exact rep_in (.inr rfl)
      generalize upd (upd HB E0 (.lst [V.ref p1, .ref p2])) G (.lst (rs.map V.ref ++ [V.ref p1, .ref p2])) = HG at rwG hG hrG htG mbRG mbG ⊢
      generalize rs ++ [p1, p2] = gs at rwG hG
      generalize bss ++ [List.replicate n 0, List.replicate n 1] = bss2 at rwG inG
      clear s9 e4 s8 e3 sB e2 sA e1 hr8 ht8 mbR8 mb8 rw8 hD8 hA hB nE nG nt1 nt2
      dsimp only
      refine q_seq ?_
      refine ⟨.ref G, rfl, G, rfl, ⟨_, sl hG⟩, for_list (K := K) (a := G) (xs := gs.map V.ref) (fun i σ H' => Same HG H' ∧ ∃ x11 x12 : Option V, σ = [some (.ref s), some (.ref st), some (.int n), some (.ref t), some (.ref a), some (.ref r), some (.int ((n + tr : Nat) : Int)), none, none, some (.int tr), some (.ref G), x11, x12, none, none, none]) ⟨Same.refl _, none, none, rfl⟩ (fun i σ H' _ hP => sl (hP.1 _ _ hG)) (fun i x σ H' hx hP => ?_) (fun σ H' hP => ?_)⟩
      · obtain ⟨s', x11, x12, rfl⟩ := hP
        obtain ⟨ra, bs, rfl, hbs, hra⟩ := rws_at rwG hx
        have mbs := inG bs (List.mem_of_getElem? hbs)
        have lbs : bs.length = n := row_len n bs mbs
        have hra' := s' _ _ hra
        refine q_seq (q_set ?_)
        refine ⟨.int tr, rfl, tr, rfl, by omega, fun H2 p rs2 s2 np hp rw2 => ⟨p, rfl, ⟨_, sl hp⟩, fun D nD => lc_list (K := K) (a := p) (xs := rs2.map V.ref) (fun j H3 => Same H2 H3 ∧ H3 D = some (.lst ((((rowsOf tr).take j).map fun m => worthM R (bs ++ m)).map V.int))) ⟨same_upd nD, upd_same⟩ (fun j H3 _ hR => sl (hR.1 _ _ hp)) (fun j y H3 hy hR => ?_) (fun H3 hR => ?_)⟩⟩
        · obtain ⟨s3, hD⟩ := hR
          obtain ⟨ma, m, rfl, hm, hma⟩ := rws_at rw2 hy
          have mm := List.mem_of_getElem? hm
          have lm : m.length = tr := row_len tr m mm
          have jl := (List.getElem?_eq_some_iff.mp hm).1
          have l32 := rows32 (show tr ≤ 5 by omega)
          have s13 := s'.trans (s2.trans s3)
          refine ⟨rfl, .ref r, rfl, .ref ra, rfl, .ref ma, rfl, ?_⟩
          refine cat_S (tl (s13 _ _ hra)) (tl (s3 _ _ hma)) (by rw [List.length_map, List.length_map]; omega) fun tt H4 s4 h4 => ?_
          rw [← List.map_append] at h4
          refine ⟨r, tt, qs, R, bs ++ m, rfl, tl (s4 _ _ (s13 _ _ hrG)), mbRG.same (s13.trans s4), h4, fun x hx => ?_, fun q hq x hx => ?_, _, s4 _ _ hD, ?_, fun c o e => ?_, ?_⟩
          · rcases List.mem_append.mp hx with z | z
            · exact rows_bit mbs x z
            · exact rows_bit mm x z
          · rw [List.length_append, lbs, lm]
            exact (rk q hq).2 x hx
          · rw [List.length_map, List.length_map, List.length_take]
            exact small1000 (by omega)
          · rw [upd_ne (ne_of_none e nD)]
            exact s4 _ _ (s3 _ _ e)
          · rw [upd_same, List.take_add_one, hm, List.map_append, List.map_append]
            rfl
        · obtain ⟨s3, hD⟩ := hR
          rw [List.length_map, paired_len rw2, List.take_length] at hD
          have pos : 0 < (rowsOf tr).length := by rw [rows_len]; exact Nat.pow_pos (by decide)
          refine ⟨D, _, rfl, sl hD, by rw [List.length_map]; exact pos, fun m mm ml => ?_⟩
          have em : m = worthM L bs := by
            obtain ⟨mo, _, rfl⟩ := List.mem_map.mp mm
            have a1 := least_ge (r := bs) (more := mo) n5 ok pd lbs
            have a2 := ml _ (List.mem_map.mpr ⟨optsF (rho bs) L, rows_in opts_bit (by rw [opts_len, htr]), rfl⟩)
            rw [least_eq n5 ok pd lbs] at a2
            omega
          subst em
          have s13 := s'.trans (s2.trans s3)
          dsimp only
          refine q_if ?_
          refine ⟨_, rfl, .ref t, rfl, .ref ra, rfl, t, ra, ps, L, bs, rfl, tl (s13 _ _ htG), mbG.same s13, tl (s13 _ _ hra), rows_bit mbs, fun q hq x hx => by rw [lbs]; exact lx q hq x hx, rfl, _, rfl, ?_⟩
          rw [dInt, decide_eq_true rfl]
          refine ite2 (fun z => by cases z) (fun _ => ?_)
          refine q_next ?_
          exact ⟨s13, _, _, rfl⟩
      obtain ⟨s', x11, x12, rfl⟩ := hP
      have hrX := s' _ _ hrG
      have htX := s' _ _ htG
      have mbRX := mbRG.same s'
      have mbX := mbG.same s'
      clear s' rwG hG hrG htG mbRG mbG
      dsimp only
      -- bent
      refine q_seq (q_set ?_)
      dsimp only
      refine q_seq ?_
      refine ⟨.ref r, rfl, r, rfl, ⟨_, tl hrX⟩, for_tup (K := K) (a := r) (xs := qs.map V.ref) (fun i σ H2 => H2 = H' ∧ ∃ x7 x8 : Option V, σ = [some (.ref s), some (.ref st), some (.int n), some (.ref t), some (.ref a), some (.ref r), some (.int ((n + tr : Nat) : Int)), x7, x8, some (.int tr), some (.ref G), x11, x12, some (.bl ((R.take i).all fun p => !(decide (p.1.length = 2) && decide (0 < p.2)))), none, none]) ⟨rfl, _, _, rfl⟩ (fun i σ H2 _ hP => by rw [hP.1]; exact tl hrX) (fun i x σ H2 hx hP => ?_) (fun σ H2 hP => ?_)⟩
      · obtain ⟨rfl, x7, x8, rfl⟩ := hP
        obtain ⟨p, ⟨l, v⟩, b2, rfl, hq, hp, hb⟩ := mbt_at mbRX hx
        simp only at hp hb
        have ea : ((R.take (i + 1)).all fun p => !(decide (p.1.length = 2) && decide (0 < p.2))) = (((R.take i).all fun p => !(decide (p.1.length = 2) && decide (0 < p.2))) && !(decide (l.length = 2) && decide (0 < v))) := by
          rw [List.take_add_one, hq, List.all_append]
          simp
        refine ⟨p, _, rfl, tl hp, rfl, _, _, rfl, _, _, rfl, rfl, ?_⟩
        dsimp only
        refine q_if (t_and (decide (V.int (((lV l).length : Nat) : Int) = V.int 2)) (decide ((0 : Int) < v)) (fun Q hQ => ⟨.ref b2, rfl, b2, _, rfl, .inr (tl hb), rfl, _, rfl, hQ⟩) (fun Q hQ => ⟨.int v, rfl, _, _, rfl, rfl, _, rfl, hQ⟩) _ ?_)
        have e2 : decide (V.int (((lV l).length : Nat) : Int) = V.int 2) = decide (l.length = 2) := by
          rw [dInt, List.length_map]
          exact decide_eq_decide.mpr (by omega)
        rw [e2]
        refine ite2 (fun c => ?_) (fun c => ?_)
        · refine q_set ?_
          refine ⟨rfl, some (.ref b2), some (.int v), ?_⟩
          rw [ea, c, Bool.not_true, Bool.and_false]
          rfl
        · refine q_next ?_
          refine ⟨rfl, some (.ref b2), some (.int v), ?_⟩
          rw [ea, Bool.not_eq_true _ |>.mp c, Bool.not_false, Bool.and_true]
          rfl
      · obtain ⟨rfl, x7, x8, rfl⟩ := hP
        have elR : R.take (qs.map V.ref).length = R := by rw [List.length_map, paired_len mbRX, List.take_length]
        rw [elR, pd.bent n5 ok]
        dsimp only
        refine q_ret ?_
        refine ⟨_, rfl, .ref t, rfl, .int n, rfl, t, ps, L, n, rfl, n5, tl htX, mbX, ok, fun H3 s3 => ⟨rfl, ?_⟩⟩
        rw [decide_eq_true rfl]
        exact q H3
    · refine q_if ?_
      refine ⟨.ref s, rfl, .ref st, rfl, s, st, ns, 2, rfl, by decide, by decide, l63, sta3, fun r2 H4 r20 r21 kp4 sta4 => ⟨rfl, _, rfl, ?_⟩⟩
      have k4 : ∀ b o, b ≠ st → H3 b = some o → H4 b = some o := fun b o nb e => (kp4 b nb).trans e
      obtain ⟨_, _, _, _, _, est, _⟩ := id sta3
      have ht4 := k4 _ _ (ne_of ht est (by intro z; cases z)) ht
      have mb4 := mb.mv k4 est (fun xs z => by cases z)
      refine ite2 (fun c => ?_) (fun c => ?_)
      · refine q_set ?_
        refine ⟨.ref s, rfl, .ref st, rfl, .ref t, rfl, .int n, rfl, s, st, t, ns, n, ps, L, _, rfl, l63, n5, sta4, tl ht4, mb4, td, fun H5 t2 ps2 L2 b2 kp5 sta5 ht5 mb5 td5 => ?_⟩
        exact J _ _ ⟨sta5, t2, ps2, L2, b2, ht5, mb5, td5, rfl⟩
      · refine q_next ?_
        exact J _ _ ⟨sta4, t, ps, L, _, ht4, mb4, ⟨td.ok, td.up, td.nz, td.bd, by have := td.le; omega, td.tr⟩, rfl⟩
end
end CC

namespace CC
open PySem PySem.Spec PyProof.Rows L2 Ek
abbrev VE : List Value := [.type "ValueError", .type "Exception", .type "BaseException", .type "object"]
section
variable {K : PySem.W.Frag} {C pe : Addr} {nm q : Str} {N : Addr} {bs : List Value} {sn : List Str} {su : List Value} {ab : Bool} {co : Option Bool} {dd : Option Addr} {k0 k1 k2 k3 k5 : Option Value}
theorem cls_of (h : K.lookup C = some (excClassObj nm q C N bs (.ref pe :: VE) true sn su ab co dd k0 k1 k2 k3 k5 "ValueError.__new__")) : PySem.W.clsIn K C = some { name := nm, bases := bs, mro := .ref C :: .ref pe :: VE, ns := N, qualname := q, hasDict := true, slotNames := sn, subclasses := su, abstract := ab, collection := co, hasDel := false } := by
  unfold PySem.W.clsIn
  rw [h] <;> rfl
theorem mro_of (h : K.lookup C = some (excClassObj nm q C N bs (.ref pe :: VE) true sn su ab co dd k0 k1 k2 k3 k5 "ValueError.__new__")) (b : Value) : PySem.W.mroIn K C b = some ((.ref C :: .ref pe :: VE : List Value).contains b) := by
  unfold PySem.W.mroIn
  rw [cls_of h] <;> rfl
theorem exc_of (h : K.lookup C = some (excClassObj nm q C N bs (.ref pe :: VE) true sn su ab co dd k0 k1 k2 k3 k5 "ValueError.__new__")) : PySem.W.subIn K (.ref C) (.type "BaseException") = some true := by
  show PySem.W.mroIn K C _ = _
  rw [mro_of h]
  rfl
theorem hd_of (h : K.lookup C = some (excClassObj nm q C N bs (.ref pe :: VE) true sn su ab co dd k0 k1 k2 k3 k5 "ValueError.__new__")) : PySem.W.hasDictIn K C = true := by
  unfold PySem.W.hasDictIn
  rw [cls_of h] <;> rfl
theorem kit_pe (h : K.lookup C = some (excClassObj nm q C N bs (.ref pe :: VE) true sn su ab co dd k0 k1 k2 k3 k5 "ValueError.__new__")) (hD : (PySem.W.clsIn K pe).isSome = true) (tD : PySem.W.typeIn K (.ref pe) = some (.type "type")) (e : C ≠ pe) : PySem.W.kitOne K (.ref C) (.ref pe) = some true := by
  unfold PySem.W.kitOne
  rw [if_neg (by simpa using e)]
  show (if ((PySem.W.clsIn K pe).isSome && PySem.W.typeIn K (.ref pe) == some (.type "type")) = true then PySem.W.subIn K (.ref C) (.ref pe) else none) = _
  rw [if_pos (by rw [hD, tD]; rfl)]
  show PySem.W.mroIn K C _ = _
  rw [mro_of h]
  simp [List.contains_cons]
/-- an error's class is named by its own clause -/
theorem exm_own (h : K.lookup C = some (excClassObj nm q C N bs (.ref pe :: VE) true sn su ab co dd k0 k1 k2 k3 k5 "ValueError.__new__")) (ty : PySem.W.typeIn K (.ref C) = some (.type "type")) : PySem.W.exmOne K (.ref C) (.ref C) = some true := by
  have a := exc_of h
  have b : PySem.W.subIn K (.ref C) (.ref C) = some true := by
    show PySem.W.mroIn K C _ = _
    rw [mro_of h]
    simp [List.contains_cons]
  have c : (PySem.W.clsIn K C).isSome = true := by
    rw [cls_of h]
    rfl
  unfold PySem.W.exmOne
  simp [a, b, c, ty, PySem.W.kitCls]
theorem exm_not {D : Addr} (h : K.lookup C = some (excClassObj nm q C N bs (.ref pe :: VE) true sn su ab co dd k0 k1 k2 k3 k5 "ValueError.__new__")) (c : (PySem.W.clsIn K D).isSome = true) (ty : PySem.W.typeIn K (.ref D) = some (.type "type")) (ne : C ≠ D) (np : D ≠ pe) (sD : PySem.W.subIn K (.ref D) (.type "BaseException") = some true) : PySem.W.exmOne K (.ref C) (.ref D) = some false := by
  have a := exc_of h
  have b : PySem.W.subIn K (.ref C) (.ref D) = some false := by
    show PySem.W.mroIn K C _ = _
    rw [mro_of h]
    simp [List.contains_cons, np, Ne.symm ne, ne]
  unfold PySem.W.exmOne
  simp [a, b, c, ty, sD, PySem.W.kitCls]
end
theorem all_mk {l : PySem.W.OpenLaw} {w : World} {K : PySem.W.Frag} {h : Heap} {mg : Str → Option Value} {fa fIsI fINB fIsR fArL fIsM fIsS fSFr fAT fPsO fAtP fPSm fDrw fSte fPck fAm2 fLD2 fMor fLSm fLWo fRws2 fMdB fBbR fLI2 fLaw : Addr} (X : K.In h) (G : h.Ns mainGlobals mg) (hfa : mg "law" = some (.ref fa))
    {odIsI anIsI : Option Addr} {slIsI : Array (Option Value)} {ocIsI kVIsI dcIsI pmIsI cdIsI ctIsI : Value}
    {odINB anINB : Option Addr} {slINB : Array (Option Value)} {ocINB kVINB dcINB pmINB cdINB ctINB : Value}
    {odIsR anIsR : Option Addr} {slIsR : Array (Option Value)} {ocIsR kVIsR dcIsR pmIsR cdIsR ctIsR : Value}
    {odArL anArL : Option Addr} {slArL : Array (Option Value)} {ocArL kVArL dcArL pmArL cdArL ctArL : Value}
    {odIsM anIsM : Option Addr} {slIsM : Array (Option Value)} {ocIsM kVIsM dcIsM pmIsM cdIsM ctIsM : Value}
    {odIsS anIsS : Option Addr} {slIsS : Array (Option Value)} {ocIsS kVIsS dcIsS pmIsS cdIsS ctIsS : Value}
    {odSFr anSFr : Option Addr} {slSFr : Array (Option Value)} {ocSFr kVSFr dcSFr pmSFr cdSFr ctSFr : Value}
    {odAT anAT : Option Addr} {slAT : Array (Option Value)} {ocAT kVAT dcAT pmAT cdAT ctAT : Value}
    {odPsO anPsO : Option Addr} {slPsO : Array (Option Value)} {ocPsO kVPsO dcPsO pmPsO cdPsO ctPsO : Value}
    {odAtP anAtP : Option Addr} {slAtP : Array (Option Value)} {ocAtP kVAtP dcAtP pmAtP cdAtP ctAtP : Value}
    {odPSm anPSm : Option Addr} {slPSm : Array (Option Value)} {ocPSm kVPSm dcPSm pmPSm cdPSm ctPSm : Value}
    {odDrw anDrw : Option Addr} {slDrw : Array (Option Value)} {ocDrw kVDrw dcDrw pmDrw cdDrw ctDrw : Value}
    {odSte anSte : Option Addr} {slSte : Array (Option Value)} {ocSte kVSte dcSte pmSte cdSte ctSte : Value}
    {odPck anPck : Option Addr} {slPck : Array (Option Value)} {ocPck kVPck dcPck pmPck cdPck ctPck : Value}
    {odAm2 anAm2 : Option Addr} {slAm2 : Array (Option Value)} {ocAm2 kVAm2 dcAm2 pmAm2 cdAm2 ctAm2 : Value}
    {odLD2 anLD2 : Option Addr} {slLD2 : Array (Option Value)} {ocLD2 kVLD2 dcLD2 pmLD2 cdLD2 ctLD2 : Value}
    {odMor anMor : Option Addr} {slMor : Array (Option Value)} {ocMor kVMor dcMor pmMor cdMor ctMor : Value}
    {odLSm anLSm : Option Addr} {slLSm : Array (Option Value)} {ocLSm kVLSm dcLSm pmLSm cdLSm ctLSm : Value}
    {odLWo anLWo : Option Addr} {slLWo : Array (Option Value)} {ocLWo kVLWo dcLWo pmLWo cdLWo ctLWo : Value}
    {odRws2 anRws2 : Option Addr} {slRws2 : Array (Option Value)} {ocRws2 kVRws2 dcRws2 pmRws2 cdRws2 ctRws2 : Value}
    {odMdB anMdB : Option Addr} {slMdB : Array (Option Value)} {ocMdB kVMdB dcMdB pmMdB cdMdB ctMdB : Value}
    {odBbR anBbR : Option Addr} {slBbR : Array (Option Value)} {ocBbR kVBbR dcBbR pmBbR cdBbR ctBbR : Value}
    {odLI2 anLI2 : Option Addr} {slLI2 : Array (Option Value)} {ocLI2 kVLI2 dcLI2 pmLI2 cdLI2 ctLI2 : Value}
    {odLaw anLaw : Option Addr} {slLaw : Array (Option Value)} {ocLaw kVLaw dcLaw pmLaw cdLaw ctLaw : Value}
    {tkML : Tok}
    (aIsI : PySem.W.nsIn K mainGlobals "is_integer" = some (some (.ref fIsI)))
    (lIsI : K.lookup fIsI = some ⟨ocIsI, odIsI, .func (PySem.W.fnOf "is_integer" "is_integer" (defArgs sIsI) (defBody sIsI) (defScope sIsI) .none kVIsI dcIsI pmIsI anIsI cdIsI ctIsI), slIsI⟩)
    (cIsI : PySem.W.codeIn K cdIsI "is_integer" = true)
    (kkIsI : PySem.W.keepIn K (.ref fIsI) = true)
    (aINB : PySem.W.nsIn K mainGlobals "is_number_below" = some (some (.ref fINB)))
    (lINB : K.lookup fINB = some ⟨ocINB, odINB, .func (PySem.W.fnOf "is_number_below" "is_number_below" (defArgs sINB) (defBody sINB) (defScope sINB) .none kVINB dcINB pmINB anINB cdINB ctINB), slINB⟩)
    (cINB : PySem.W.codeIn K cdINB "is_number_below" = true)
    (kkINB : PySem.W.keepIn K (.ref fINB) = true)
    (aIsR : PySem.W.nsIn K mainGlobals "_is_rising" = some (some (.ref fIsR)))
    (lIsR : K.lookup fIsR = some ⟨ocIsR, odIsR, .func (PySem.W.fnOf "_is_rising" "_is_rising" (defArgs sIsR) (defBody sIsR) (defScope sIsR) .none kVIsR dcIsR pmIsR anIsR cdIsR ctIsR), slIsR⟩)
    (cIsR : PySem.W.codeIn K cdIsR "_is_rising" = true)
    (kkIsR : PySem.W.keepIn K (.ref fIsR) = true)
    (aArL : PySem.W.nsIn K mainGlobals "_are_letters" = some (some (.ref fArL)))
    (lArL : K.lookup fArL = some ⟨ocArL, odArL, .func (PySem.W.fnOf "_are_letters" "_are_letters" (defArgs sArL) (defBody sArL) (defScope sArL) .none kVArL dcArL pmArL anArL cdArL ctArL), slArL⟩)
    (cArL : PySem.W.codeIn K cdArL "_are_letters" = true)
    (kkArL : PySem.W.keepIn K (.ref fArL) = true)
    (aIsM : PySem.W.nsIn K mainGlobals "_is_member" = some (some (.ref fIsM)))
    (lIsM : K.lookup fIsM = some ⟨ocIsM, odIsM, .func (PySem.W.fnOf "_is_member" "_is_member" (defArgs sIsM) (defBody sIsM) (defScope sIsM) .none kVIsM dcIsM pmIsM anIsM cdIsM ctIsM), slIsM⟩)
    (cIsM : PySem.W.codeIn K cdIsM "_is_member" = true)
    (kkIsM : PySem.W.keepIn K (.ref fIsM) = true)
    (aIsS : PySem.W.nsIn K mainGlobals "is_sum" = some (some (.ref fIsS)))
    (lIsS : K.lookup fIsS = some ⟨ocIsS, odIsS, .func (PySem.W.fnOf "is_sum" "is_sum" (defArgs sIsS) (defBody sIsS) (defScope sIsS) .none kVIsS dcIsS pmIsS anIsS cdIsS ctIsS), slIsS⟩)
    (cIsS : PySem.W.codeIn K cdIsS "is_sum" = true)
    (kkIsS : PySem.W.keepIn K (.ref fIsS) = true)
    (aSFr : PySem.W.nsIn K mainGlobals "sum_from" = some (some (.ref fSFr)))
    (lSFr : K.lookup fSFr = some ⟨ocSFr, odSFr, .func (PySem.W.fnOf "sum_from" "sum_from" (defArgs sSFr) (defBody sSFr) (defScope sSFr) .none kVSFr dcSFr pmSFr anSFr cdSFr ctSFr), slSFr⟩)
    (cSFr : PySem.W.codeIn K cdSFr "sum_from" = true)
    (kkSFr : PySem.W.keepIn K (.ref fSFr) = true)
    (aAT : PySem.W.nsIn K mainGlobals "add_to" = some (some (.ref fAT)))
    (lAT : K.lookup fAT = some ⟨ocAT, odAT, .func (PySem.W.fnOf "add_to" "add_to" (defArgs sAT) (defBody sAT) (defScope sAT) .none kVAT dcAT pmAT anAT cdAT ctAT), slAT⟩)
    (cAT : PySem.W.codeIn K cdAT "add_to" = true)
    (kkAT : PySem.W.keepIn K (.ref fAT) = true)
    (aPsO : PySem.W.nsIn K mainGlobals "pairs_of" = some (some (.ref fPsO)))
    (lPsO : K.lookup fPsO = some ⟨ocPsO, odPsO, .func (PySem.W.fnOf "pairs_of" "pairs_of" (defArgs sPsO) (defBody sPsO) (defScope sPsO) .none kVPsO dcPsO pmPsO anPsO cdPsO ctPsO), slPsO⟩)
    (cPsO : PySem.W.codeIn K cdPsO "pairs_of" = true)
    (kkPsO : PySem.W.keepIn K (.ref fPsO) = true)
    (aAtP : PySem.W.nsIn K mainGlobals "_add_triple_by_pairs" = some (some (.ref fAtP)))
    (lAtP : K.lookup fAtP = some ⟨ocAtP, odAtP, .func (PySem.W.fnOf "_add_triple_by_pairs" "_add_triple_by_pairs" (defArgs sAtP) (defBody sAtP) (defScope sAtP) .none kVAtP dcAtP pmAtP anAtP cdAtP ctAtP), slAtP⟩)
    (cAtP : PySem.W.codeIn K cdAtP "_add_triple_by_pairs" = true)
    (kkAtP : PySem.W.keepIn K (.ref fAtP) = true)
    (aPSm : PySem.W.nsIn K mainGlobals "paired_sum" = some (some (.ref fPSm)))
    (lPSm : K.lookup fPSm = some ⟨ocPSm, odPSm, .func (PySem.W.fnOf "paired_sum" "paired_sum" (defArgs sPSm) (defBody sPSm) (defScope sPSm) .none kVPSm dcPSm pmPSm anPSm cdPSm ctPSm), slPSm⟩)
    (cPSm : PySem.W.codeIn K cdPSm "paired_sum" = true)
    (kkPSm : PySem.W.keepIn K (.ref fPSm) = true)
    (aDrw : PySem.W.nsIn K mainGlobals "_law_draw" = some (some (.ref fDrw)))
    (lDrw : K.lookup fDrw = some ⟨ocDrw, odDrw, .func (PySem.W.fnOf "_law_draw" "_law_draw" (defArgs sDrw) (defBody sDrw) (defScope sDrw) .none kVDrw dcDrw pmDrw anDrw cdDrw ctDrw), slDrw⟩)
    (cDrw : PySem.W.codeIn K cdDrw "_law_draw" = true)
    (kkDrw : PySem.W.keepIn K (.ref fDrw) = true)
    (aSte : PySem.W.nsIn K mainGlobals "_law_state" = some (some (.ref fSte)))
    (lSte : K.lookup fSte = some ⟨ocSte, odSte, .func (PySem.W.fnOf "_law_state" "_law_state" (defArgs sSte) (defBody sSte) (defScope sSte) .none kVSte dcSte pmSte anSte cdSte ctSte), slSte⟩)
    (cSte : PySem.W.codeIn K cdSte "_law_state" = true)
    (kkSte : PySem.W.keepIn K (.ref fSte) = true)
    (aPck : PySem.W.nsIn K mainGlobals "_law_pick" = some (some (.ref fPck)))
    (lPck : K.lookup fPck = some ⟨ocPck, odPck, .func (PySem.W.fnOf "_law_pick" "_law_pick" (defArgs sPck) (defBody sPck) (defScope sPck) .none kVPck dcPck pmPck anPck cdPck ctPck), slPck⟩)
    (cPck : PySem.W.codeIn K cdPck "_law_pick" = true)
    (kkPck : PySem.W.keepIn K (.ref fPck) = true)
    (aAm2 : PySem.W.nsIn K mainGlobals "_law_amount" = some (some (.ref fAm2)))
    (lAm2 : K.lookup fAm2 = some ⟨ocAm2, odAm2, .func (PySem.W.fnOf "_law_amount" "_law_amount" (defArgs sAm2) (defBody sAm2) (defScope sAm2) .none kVAm2 dcAm2 pmAm2 anAm2 cdAm2 ctAm2), slAm2⟩)
    (cAm2 : PySem.W.codeIn K cdAm2 "_law_amount" = true)
    (kkAm2 : PySem.W.keepIn K (.ref fAm2) = true)
    (aLD2 : PySem.W.nsIn K mainGlobals "_law_drawn_sum" = some (some (.ref fLD2)))
    (lLD2 : K.lookup fLD2 = some ⟨ocLD2, odLD2, .func (PySem.W.fnOf "_law_drawn_sum" "_law_drawn_sum" (defArgs sLD2) (defBody sLD2) (defScope sLD2) .none kVLD2 dcLD2 pmLD2 anLD2 cdLD2 ctLD2), slLD2⟩)
    (cLD2 : PySem.W.codeIn K cdLD2 "_law_drawn_sum" = true)
    (kkLD2 : PySem.W.keepIn K (.ref fLD2) = true)
    (aMor : PySem.W.nsIn K mainGlobals "_law_more" = some (some (.ref fMor)))
    (lMor : K.lookup fMor = some ⟨ocMor, odMor, .func (PySem.W.fnOf "_law_more" "_law_more" (defArgs sMor) (defBody sMor) (defScope sMor) .none kVMor dcMor pmMor anMor cdMor ctMor), slMor⟩)
    (cMor : PySem.W.codeIn K cdMor "_law_more" = true)
    (kkMor : PySem.W.keepIn K (.ref fMor) = true)
    (aLSm : PySem.W.nsIn K mainGlobals "_law_sum" = some (some (.ref fLSm)))
    (lLSm : K.lookup fLSm = some ⟨ocLSm, odLSm, .func (PySem.W.fnOf "_law_sum" "_law_sum" (defArgs sLSm) (defBody sLSm) (defScope sLSm) .none kVLSm dcLSm pmLSm anLSm cdLSm ctLSm), slLSm⟩)
    (cLSm : PySem.W.codeIn K cdLSm "_law_sum" = true)
    (kkLSm : PySem.W.keepIn K (.ref fLSm) = true)
    (aLWo : PySem.W.nsIn K mainGlobals "_law_worth" = some (some (.ref fLWo)))
    (lLWo : K.lookup fLWo = some ⟨ocLWo, odLWo, .func (PySem.W.fnOf "_law_worth" "_law_worth" (defArgs sLWo) (defBody sLWo) (defScope sLWo) .none kVLWo dcLWo pmLWo anLWo cdLWo ctLWo), slLWo⟩)
    (cLWo : PySem.W.codeIn K cdLWo "_law_worth" = true)
    (kkLWo : PySem.W.keepIn K (.ref fLWo) = true)
    (aRws2 : PySem.W.nsIn K mainGlobals "_law_rows" = some (some (.ref fRws2)))
    (lRws2 : K.lookup fRws2 = some ⟨ocRws2, odRws2, .func (PySem.W.fnOf "_law_rows" "_law_rows" (defArgs sRws2) (defBody sRws2) (defScope sRws2) .none kVRws2 dcRws2 pmRws2 anRws2 cdRws2 ctRws2), slRws2⟩)
    (cRws2 : PySem.W.codeIn K cdRws2 "_law_rows" = true)
    (kkRws2 : PySem.W.keepIn K (.ref fRws2) = true)
    (aMdB : PySem.W.nsIn K mainGlobals "_law_made_bent" = some (some (.ref fMdB)))
    (lMdB : K.lookup fMdB = some ⟨ocMdB, odMdB, .func (PySem.W.fnOf "_law_made_bent" "_law_made_bent" (defArgs sMdB) (defBody sMdB) (defScope sMdB) .none kVMdB dcMdB pmMdB anMdB cdMdB ctMdB), slMdB⟩)
    (cMdB : PySem.W.codeIn K cdMdB "_law_made_bent" = true)
    (kkMdB : PySem.W.keepIn K (.ref fMdB) = true)
    (aBbR : PySem.W.nsIn K mainGlobals "_law_bent_by_rows" = some (some (.ref fBbR)))
    (lBbR : K.lookup fBbR = some ⟨ocBbR, odBbR, .func (PySem.W.fnOf "_law_bent_by_rows" "_law_bent_by_rows" (defArgs sBbR) (defBody sBbR) (defScope sBbR) .none kVBbR dcBbR pmBbR anBbR cdBbR ctBbR), slBbR⟩)
    (cBbR : PySem.W.codeIn K cdBbR "_law_bent_by_rows" = true)
    (kkBbR : PySem.W.keepIn K (.ref fBbR) = true)
    (aLI2 : PySem.W.nsIn K mainGlobals "_law_is_sum" = some (some (.ref fLI2)))
    (lLI2 : K.lookup fLI2 = some ⟨ocLI2, odLI2, .func (PySem.W.fnOf "_law_is_sum" "_law_is_sum" (defArgs sLI2) (defBody sLI2) (defScope sLI2) .none kVLI2 dcLI2 pmLI2 anLI2 cdLI2 ctLI2), slLI2⟩)
    (cLI2 : PySem.W.codeIn K cdLI2 "_law_is_sum" = true)
    (kkLI2 : PySem.W.keepIn K (.ref fLI2) = true)
    (aLaw : PySem.W.nsIn K mainGlobals "law" = some (some (.ref fLaw)))
    (lLaw : K.lookup fLaw = some ⟨ocLaw, odLaw, .func (PySem.W.fnOf "law" "law" (defArgs sLaw) (defBody sLaw) (defScope sLaw) .none kVLaw dcLaw pmLaw anLaw cdLaw ctLaw), slLaw⟩)
    (cLaw : PySem.W.codeIn K cdLaw "law" = true)
    (kkLaw : PySem.W.keepIn K (.ref fLaw) = true)
    (zlen : PySem.W.nsIn K mainGlobals "len" = some none)
    (zint : PySem.W.nsIn K mainGlobals "int" = some none)
    (zabs : PySem.W.nsIn K mainGlobals "abs" = some none)
    (zrange : PySem.W.nsIn K mainGlobals "range" = some none)
    (zisinstance : PySem.W.nsIn K mainGlobals "isinstance" = some none)
    (zbool : PySem.W.nsIn K mainGlobals "bool" = some none)
    (zlist : PySem.W.nsIn K mainGlobals "list" = some none)
    (ztuple : PySem.W.nsIn K mainGlobals "tuple" = some none)
    (zall : PySem.W.nsIn K mainGlobals "all" = some none)
    (zmin : PySem.W.nsIn K mainGlobals "min" = some none)
    (zmax : PySem.W.nsIn K mainGlobals "max" = some none)
    (zsum : PySem.W.nsIn K mainGlobals "sum" = some none)
    (zrepr : PySem.W.nsIn K mainGlobals "repr" = some none)
    (zzip : PySem.W.nsIn K mainGlobals "zip" = some none)
    (zenumerate : PySem.W.nsIn K mainGlobals "enumerate" = some none)
    (zsorted : PySem.W.nsIn K mainGlobals "sorted" = some none)
    (zdict : PySem.W.nsIn K mainGlobals "dict" = some none)
    (zset : PySem.W.nsIn K mainGlobals "set" = some none)
    (aML : PySem.W.nsIn K mainGlobals "MOST_LETTERS" = some (some (.int 3 tkML)))
    : ∃ fd : FuncData, (∀ (s : Shared) (v : Value), BindsTo s fd ⟨[v], []⟩ [("script", v)]) ∧ ∀ base : Heap, K.In base → base.Ns mainGlobals mg → FnG l.prog w K mg base CX0 7 fa fd ["script"] (spLaw K) := by
  have e := hfa.symm.trans (PySem.W.mg_of X G aLaw)
  cases e
  have FIsI := fun_mk (st := sIsI) lIsI cIsI kkIsI
  have bIsI := FIsI.binds (ps := ["value"]) fun _ _ _ _ _ _ us hl => match us, hl with | [_], _ => rfl
  have gIsI : mg "is_integer" = some (.ref fIsI) := PySem.W.mg_of X G aIsI
  have FINB := fun_mk (st := sINB) lINB cINB kkINB
  have bINB := FINB.binds (ps := ["value", "limit"]) fun _ _ _ _ _ _ us hl => match us, hl with | [_, _], _ => rfl
  have gINB : mg "is_number_below" = some (.ref fINB) := PySem.W.mg_of X G aINB
  have FIsR := fun_mk (st := sIsR) lIsR cIsR kkIsR
  have bIsR := FIsR.binds (ps := ["members"]) fun _ _ _ _ _ _ us hl => match us, hl with | [_], _ => rfl
  have gIsR : mg "_is_rising" = some (.ref fIsR) := PySem.W.mg_of X G aIsR
  have FArL := fun_mk (st := sArL) lArL cArL kkArL
  have bArL := FArL.binds (ps := ["value", "letter_count"]) fun _ _ _ _ _ _ us hl => match us, hl with | [_, _], _ => rfl
  have gArL : mg "_are_letters" = some (.ref fArL) := PySem.W.mg_of X G aArL
  have FIsM := fun_mk (st := sIsM) lIsM cIsM kkIsM
  have bIsM := FIsM.binds (ps := ["value", "letter_count"]) fun _ _ _ _ _ _ us hl => match us, hl with | [_, _], _ => rfl
  have gIsM : mg "_is_member" = some (.ref fIsM) := PySem.W.mg_of X G aIsM
  have FIsS := fun_mk (st := sIsS) lIsS cIsS kkIsS
  have bIsS := FIsS.binds (ps := ["value", "letter_count"]) fun _ _ _ _ _ _ us hl => match us, hl with | [_, _], _ => rfl
  have gIsS : mg "is_sum" = some (.ref fIsS) := PySem.W.mg_of X G aIsS
  have FSFr := fun_mk (st := sSFr) lSFr cSFr kkSFr
  have bSFr := FSFr.binds (ps := ["numbers"]) fun _ _ _ _ _ _ us hl => match us, hl with | [_], _ => rfl
  have gSFr : mg "sum_from" = some (.ref fSFr) := PySem.W.mg_of X G aSFr
  have FAT := fun_mk (st := sAT) lAT cAT kkAT
  have bAT := FAT.binds (ps := ["numbers", "letters", "number"]) fun _ _ _ _ _ _ us hl => match us, hl with | [_, _, _], _ => rfl
  have gAT : mg "add_to" = some (.ref fAT) := PySem.W.mg_of X G aAT
  have FPsO := fun_mk (st := sPsO) lPsO cPsO kkPsO
  have bPsO := FPsO.binds (ps := ["letters"]) fun _ _ _ _ _ _ us hl => match us, hl with | [_], _ => rfl
  have gPsO : mg "pairs_of" = some (.ref fPsO) := PySem.W.mg_of X G aPsO
  have FAtP := fun_mk (st := sAtP) lAtP cAtP kkAtP
  have bAtP := FAtP.binds (ps := ["numbers", "letters", "number", "helper"]) fun _ _ _ _ _ _ us hl => match us, hl with | [_, _, _, _], _ => rfl
  have gAtP : mg "_add_triple_by_pairs" = some (.ref fAtP) := PySem.W.mg_of X G aAtP
  have FPSm := fun_mk (st := sPSm) lPSm cPSm kkPSm
  have bPSm := FPSm.binds (ps := ["told", "letter_count"]) fun _ _ _ _ _ _ us hl => match us, hl with | [_, _], _ => rfl
  have gPSm : mg "paired_sum" = some (.ref fPSm) := PySem.W.mg_of X G aPSm
  have FDrw := fun_mk (st := sDrw) lDrw cDrw kkDrw
  have bDrw := FDrw.binds (ps := ["script", "state", "many"]) fun _ _ _ _ _ _ us hl => match us, hl with | [_, _, _], _ => rfl
  have gDrw : mg "_law_draw" = some (.ref fDrw) := PySem.W.mg_of X G aDrw
  have FSte := fun_mk (st := sSte) lSte cSte kkSte
  have bSte := FSte.binds (ps := ["script"]) fun _ _ _ _ _ _ us hl => match us, hl with | [_], _ => rfl
  have gSte : mg "_law_state" = some (.ref fSte) := PySem.W.mg_of X G aSte
  have FPck := fun_mk (st := sPck) lPck cPck kkPck
  have bPck := FPck.binds (ps := ["script", "state", "things"]) fun _ _ _ _ _ _ us hl => match us, hl with | [_, _, _], _ => rfl
  have gPck : mg "_law_pick" = some (.ref fPck) := PySem.W.mg_of X G aPck
  have FAm2 := fun_mk (st := sAm2) lAm2 cAm2 kkAm2
  have bAm2 := FAm2.binds (ps := ["script", "state"]) fun _ _ _ _ _ _ us hl => match us, hl with | [_, _], _ => rfl
  have gAm2 : mg "_law_amount" = some (.ref fAm2) := PySem.W.mg_of X G aAm2
  have FLD2 := fun_mk (st := sLD2) lLD2 cLD2 kkLD2
  have bLD2 := FLD2.binds (ps := ["script", "state", "count", "most", "triples"]) fun _ _ _ _ _ _ us hl => match us, hl with | [_, _, _, _, _], _ => rfl
  have gLD2 : mg "_law_drawn_sum" = some (.ref fLD2) := PySem.W.mg_of X G aLD2
  have FMor := fun_mk (st := sMor) lMor cMor kkMor
  have bMor := FMor.binds (ps := ["found", "letters", "number"]) fun _ _ _ _ _ _ us hl => match us, hl with | [_, _, _], _ => rfl
  have gMor : mg "_law_more" = some (.ref fMor) := PySem.W.mg_of X G aMor
  have FLSm := fun_mk (st := sLSm) lLSm cLSm kkLSm
  have bLSm := FLSm.binds (ps := ["found"]) fun _ _ _ _ _ _ us hl => match us, hl with | [_], _ => rfl
  have gLSm : mg "_law_sum" = some (.ref fLSm) := PySem.W.mg_of X G aLSm
  have FLWo := fun_mk (st := sLWo) lLWo cLWo kkLWo
  have bLWo := FLWo.binds (ps := ["told", "row"]) fun _ _ _ _ _ _ us hl => match us, hl with | [_, _], _ => rfl
  have gLWo : mg "_law_worth" = some (.ref fLWo) := PySem.W.mg_of X G aLWo
  have FRws2 := fun_mk (st := sRws2) lRws2 cRws2 kkRws2
  have bRws2 := FRws2.binds (ps := ["count"]) fun _ _ _ _ _ _ us hl => match us, hl with | [_], _ => rfl
  have gRws2 : mg "_law_rows" = some (.ref fRws2) := PySem.W.mg_of X G aRws2
  have FMdB := fun_mk (st := sMdB) lMdB cMdB kkMdB
  have bMdB := FMdB.binds (ps := ["script", "state", "told", "count"]) fun _ _ _ _ _ _ us hl => match us, hl with | [_, _, _, _], _ => rfl
  have gMdB : mg "_law_made_bent" = some (.ref fMdB) := PySem.W.mg_of X G aMdB
  have FBbR := fun_mk (st := sBbR) lBbR cBbR kkBbR
  have bBbR := FBbR.binds (ps := ["told", "count"]) fun _ _ _ _ _ _ us hl => match us, hl with | [_, _], _ => rfl
  have gBbR : mg "_law_bent_by_rows" = some (.ref fBbR) := PySem.W.mg_of X G aBbR
  have FLI2 := fun_mk (st := sLI2) lLI2 cLI2 kkLI2
  have bLI2 := FLI2.binds (ps := ["value", "count"]) fun _ _ _ _ _ _ us hl => match us, hl with | [_, _], _ => rfl
  have gLI2 : mg "_law_is_sum" = some (.ref fLI2) := PySem.W.mg_of X G aLI2
  have FLaw := fun_mk (st := sLaw) lLaw cLaw kkLaw
  have bLaw := FLaw.binds (ps := ["script"]) fun _ _ _ _ _ _ us hl => match us, hl with | [_], _ => rfl
  have gML : mg "MOST_LETTERS" = some (.int 3 tkML) := PySem.W.mg_of X G aML
  have B : Bt mg := ⟨PySem.W.mg_none_of X G zlen, PySem.W.mg_none_of X G zint, PySem.W.mg_none_of X G zabs, PySem.W.mg_none_of X G zrange, PySem.W.mg_none_of X G zisinstance, PySem.W.mg_none_of X G zbool, PySem.W.mg_none_of X G zlist, PySem.W.mg_none_of X G ztuple, PySem.W.mg_none_of X G zall, PySem.W.mg_none_of X G zmin, PySem.W.mg_none_of X G zmax, PySem.W.mg_none_of X G zsum, PySem.W.mg_none_of X G zrepr, PySem.W.mg_none_of X G zzip, PySem.W.mg_none_of X G zenumerate, PySem.W.mg_none_of X G zsorted, PySem.W.mg_none_of X G zdict, PySem.W.mg_none_of X G zset⟩
  refine ⟨PySem.W.fnOf "law" "law" (defArgs sLaw) (defBody sLaw) (defScope sLaw) .none kVLaw dcLaw pmLaw anLaw cdLaw ctLaw, fun s v => .of_eq rfl, fun base _ _ => ?_⟩
  have GIsI := ok_IsI (P := l.prog) (w := w) (mg := mg) (base := base) FIsI B
  have GINB := ok_INB (P := l.prog) (w := w) (mg := mg) (base := base) FINB B GIsI kkIsI bIsI gIsI
  have GIsR := ok_IsR (P := l.prog) (w := w) (mg := mg) (base := base) FIsR B
  have GIsRt := ok_IsRt (P := l.prog) (w := w) (mg := mg) (base := base) FIsR B
  have GArL := ok_ArL (P := l.prog) (w := w) (mg := mg) (base := base) FArL B GINB kkINB bINB gINB GIsR kkIsR bIsR gIsR gML
  have GIsM := ok_IsM (P := l.prog) (w := w) (mg := mg) (base := base) FIsM B GArL kkArL bArL gArL GIsI kkIsI bIsI gIsI
  have GIsS := ok_IsS (P := l.prog) (w := w) (mg := mg) (base := base) FIsS B GIsM kkIsM bIsM gIsM GIsRt kkIsR bIsR gIsR
  have GSFr := ok_SFr (P := l.prog) (w := w) (mg := mg) (base := base) FSFr B
  have GAT := ok_AT (P := l.prog) (w := w) (mg := mg) (base := base) FAT
  have GPsO := ok_PsO (P := l.prog) (w := w) (mg := mg) (base := base) FPsO B
  have GAtP := ok_AtP (P := l.prog) (w := w) (mg := mg) (base := base) FAtP B GAT kkAT bAT gAT GPsO kkPsO bPsO gPsO
  have GPSm := ok_PSm (P := l.prog) (w := w) (mg := mg) (base := base) FPSm B GIsS kkIsS bIsS gIsS GAtP kkAtP bAtP gAtP GAT kkAT bAT gAT GSFr kkSFr bSFr gSFr
  have GDrw := ok_Drw (P := l.prog) (w := w) (mg := mg) (base := base) FDrw B
  have GSte := ok_Ste (P := l.prog) (w := w) (mg := mg) (base := base) FSte B
  have GPck := ok_Pck (P := l.prog) (w := w) (mg := mg) (base := base) FPck B GDrw kkDrw bDrw gDrw
  have GAm2 := ok_Am2 (P := l.prog) (w := w) (mg := mg) (base := base) FAm2 B GDrw kkDrw bDrw gDrw GPck kkPck bPck gPck
  have GLD2 := ok_LD2 (P := l.prog) (w := w) (mg := mg) (base := base) FLD2 B GDrw kkDrw bDrw gDrw GAm2 kkAm2 bAm2 gAm2
  have GMor := ok_Mor (P := l.prog) (w := w) (mg := mg) (base := base) FMor
  have GLSm := ok_LSm (P := l.prog) (w := w) (mg := mg) (base := base) FLSm B
  have GLWo := ok_LWo (P := l.prog) (w := w) (mg := mg) (base := base) FLWo B
  have GRws2 := ok_Rws2 (P := l.prog) (w := w) (mg := mg) (base := base) FRws2 B
  have GMdB := ok_MdB (P := l.prog) (w := w) (mg := mg) (base := base) FMdB B GDrw kkDrw bDrw gDrw GPck kkPck bPck gPck GMor kkMor bMor gMor GLSm kkLSm bLSm gLSm
  have GBbR := ok_BbR (P := l.prog) (w := w) (mg := mg) (base := base) FBbR B GRws2 kkRws2 bRws2 gRws2 GLWo kkLWo bLWo gLWo
  have GLI2 := ok_LI2 (P := l.prog) (w := w) (mg := mg) (base := base) FLI2 B
  exact ok_law FLaw B GSte kkSte bSte gSte GDrw kkDrw bDrw gDrw GPck kkPck bPck gPck GLD2 kkLD2 bLD2 gLD2 GMdB kkMdB bMdB gMdB GPSm kkPSm bPSm gPSm GLI2 kkLI2 bLI2 gLI2 GRws2 kkRws2 bRws2 gRws2 GLWo kkLWo bLWo gLWo GBbR kkBbR bBbR gBbR
end CC

open PySem PySem.W PyProof.Rows
set_option maxHeartbeats 0 in
theorem PySem.Challenge.cw_cutorall_k31_least_over_helpers_holds : PySem.Challenge.rw_cutorall_k31_least_over_helpers.Holds := by
  w_on; o_law; k_head; (case hw => w_witness2)
  k_fill
  refine Ek.walk_ofG (l := PySem.Challenge.rw_cutorall_k31_least_over_helpers) (n := 63) (k := 7) (x := "script") (sp := CC.spLaw) rfl (by decide) rfl ⟨rfl, by decide, by decide⟩ (fun w h Y => PySem.W.kIn_of Y) ?F (fun _ _ a ns hl _ hS => ⟨a, ns, rfl, hS, hl, fun _ => rfl⟩)
  case F =>
    intro w mg fa h KX G hmg
    refine' CC.all_mk KX G hmg ?aIsI ?lIsI ?cIsI ?kkIsI ?aINB ?lINB ?cINB ?kkINB ?aIsR ?lIsR ?cIsR ?kkIsR ?aArL ?lArL ?cArL ?kkArL ?aIsM ?lIsM ?cIsM ?kkIsM ?aIsS ?lIsS ?cIsS ?kkIsS ?aSFr ?lSFr ?cSFr ?kkSFr ?aAT ?lAT ?cAT ?kkAT ?aPsO ?lPsO ?cPsO ?kkPsO ?aAtP ?lAtP ?cAtP ?kkAtP ?aPSm ?lPSm ?cPSm ?kkPSm ?aDrw ?lDrw ?cDrw ?kkDrw ?aSte ?lSte ?cSte ?kkSte ?aPck ?lPck ?cPck ?kkPck ?aAm2 ?lAm2 ?cAm2 ?kkAm2 ?aLD2 ?lLD2 ?cLD2 ?kkLD2 ?aMor ?lMor ?cMor ?kkMor ?aLSm ?lLSm ?cLSm ?kkLSm ?aLWo ?lLWo ?cLWo ?kkLWo ?aRws2 ?lRws2 ?cRws2 ?kkRws2 ?aMdB ?lMdB ?cMdB ?kkMdB ?aBbR ?lBbR ?cBbR ?kkBbR ?aLI2 ?lLI2 ?cLI2 ?kkLI2 ?aLaw ?lLaw ?cLaw ?kkLaw ?zlen ?zint ?zabs ?zrange ?zisinstance ?zbool ?zlist ?ztuple ?zall ?zmin ?zmax ?zsum ?zrepr ?zzip ?zenumerate ?zsorted ?zdict ?zset ?aML
    (case aIsI => k_is)
    (case lIsI => k_is)
    (case cIsI => k_is)
    (case kkIsI => k_is)
    (case aINB => k_is)
    (case lINB => k_is)
    (case cINB => k_is)
    (case kkINB => k_is)
    (case aIsR => k_is)
    (case lIsR => k_is)
    (case cIsR => k_is)
    (case kkIsR => k_is)
    (case aArL => k_is)
    (case lArL => k_is)
    (case cArL => k_is)
    (case kkArL => k_is)
    (case aIsM => k_is)
    (case lIsM => k_is)
    (case cIsM => k_is)
    (case kkIsM => k_is)
    (case aIsS => k_is)
    (case lIsS => k_is)
    (case cIsS => k_is)
    (case kkIsS => k_is)
    (case aSFr => k_is)
    (case lSFr => k_is)
    (case cSFr => k_is)
    (case kkSFr => k_is)
    (case aAT => k_is)
    (case lAT => k_is)
    (case cAT => k_is)
    (case kkAT => k_is)
    (case aPsO => k_is)
    (case lPsO => k_is)
    (case cPsO => k_is)
    (case kkPsO => k_is)
    (case aAtP => k_is)
    (case lAtP => k_is)
    (case cAtP => k_is)
    (case kkAtP => k_is)
    (case aPSm => k_is)
    (case lPSm => k_is)
    (case cPSm => k_is)
    (case kkPSm => k_is)
    (case aDrw => k_is)
    (case lDrw => k_is)
    (case cDrw => k_is)
    (case kkDrw => k_is)
    (case aSte => k_is)
    (case lSte => k_is)
    (case cSte => k_is)
    (case kkSte => k_is)
    (case aPck => k_is)
    (case lPck => k_is)
    (case cPck => k_is)
    (case kkPck => k_is)
    (case aAm2 => k_is)
    (case lAm2 => k_is)
    (case cAm2 => k_is)
    (case kkAm2 => k_is)
    (case aLD2 => k_is)
    (case lLD2 => k_is)
    (case cLD2 => k_is)
    (case kkLD2 => k_is)
    (case aMor => k_is)
    (case lMor => k_is)
    (case cMor => k_is)
    (case kkMor => k_is)
    (case aLSm => k_is)
    (case lLSm => k_is)
    (case cLSm => k_is)
    (case kkLSm => k_is)
    (case aLWo => k_is)
    (case lLWo => k_is)
    (case cLWo => k_is)
    (case kkLWo => k_is)
    (case aRws2 => k_is)
    (case lRws2 => k_is)
    (case cRws2 => k_is)
    (case kkRws2 => k_is)
    (case aMdB => k_is)
    (case lMdB => k_is)
    (case cMdB => k_is)
    (case kkMdB => k_is)
    (case aBbR => k_is)
    (case lBbR => k_is)
    (case cBbR => k_is)
    (case kkBbR => k_is)
    (case aLI2 => k_is)
    (case lLI2 => k_is)
    (case cLI2 => k_is)
    (case kkLI2 => k_is)
    (case aLaw => k_is)
    (case lLaw => k_is)
    (case cLaw => k_is)
    (case kkLaw => k_is)
    (case zlen => k_is)
    (case zint => k_is)
    (case zabs => k_is)
    (case zrange => k_is)
    (case zisinstance => k_is)
    (case zbool => k_is)
    (case zlist => k_is)
    (case ztuple => k_is)
    (case zall => k_is)
    (case zmin => k_is)
    (case zmax => k_is)
    (case zsum => k_is)
    (case zrepr => k_is)
    (case zzip => k_is)
    (case zenumerate => k_is)
    (case zsorted => k_is)
    (case zdict => k_is)
    (case zset => k_is)
    (case aML => k_is)

